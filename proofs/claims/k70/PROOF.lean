import PyProof.Rows.All
import HandS.ForMost
import HandS.ForExc
import HandS.Style
import HandS.Wide
import HandS.Zip
import HandS.Defaults
import HandS.IsInst
import HandS.Walk
import HandS.Evl
import HandS.TupAny
import HandS.TupMul
import KE.GoesNew
import KE.KExcLine
import HandS.EndTab
import KE.KLam
import HandS.Lambda
import HandS.Deep
import HandS.SortInts
import HandS.Conv
import KE.KExcInit
import KE.GoesEnum
import HandS.Dict
import PySem.Challenge.RW_sectionwise_k70_whole_elements_of_dummie
set_option Elab.async false
set_option linter.all false
set_option maxRecDepth 100000

set_option maxHeartbeats 2000000
namespace DL
open PySem PySem.Spec PyProof.Rows L2
open Evl (Ex)

/-! ### data, and how it stands in the heap -/
/-- what a program's value is, without addresses: lists that nobody writes any more are trees -/
inductive D where
  | non | bl (b : Bool) | int (i : Int) | str (x : Str) | lst (xs : List D) | tup (xs : List D)
  /-- a list that only its own slot knows -/
  | own (xs : List D)
  /-- a dict of ints that only its own slot knows -/
  | dct (ks : List Int) (xs : List D)
  /-- the list of three numbers that draws change -/
  | well
  | ref (a : Addr)
  /-- a built-in class -/
  | ty (n : String)
/-- the tables of code objects that may grow, each with the name of what it holds -/
class TabT where
  T : List (PySem.Addr × PySem.Str)
/-- no table -/
def NT (o : HO) : Prop := ∀ ps, o ≠ .tbl ps
theorem nt_lst {xs : List V} : NT (.lst xs) := fun _ z => nomatch z
theorem nt_tup {xs : List V} : NT (.tup xs) := fun _ z => nomatch z
theorem nt_xd {xs : List (Str × V)} : NT (.xd xs) := fun _ z => nomatch z
/-- nothing there but a table, if anything -/
def Fr (H : Hp) (p : Addr) : Prop := ∀ o, H p = some o → ¬ NT o
theorem Fr.of {H : Hp} {p : Addr} (h : H p = none) : Fr H p := fun o e => by rw [h] at e; cases e
theorem ne_of_fr {H : Hp} {a p : Addr} {o : HO} (h : H a = some o) (t : NT o) (n : Fr H p) : a ≠ p := fun z => n o (z ▸ h) t
theorem tabs_upd {T : List (PySem.Addr × PySem.Str)} {H : Hp} {p : Addr} {o : HO} (t : LamX.Tabs T H) (h : H p = none ∨ ∃ xs, H p = some (.lst xs)) : LamX.Tabs T (upd H p o) := fun q hq => by
  obtain ⟨ps, h1, h2, h3⟩ := t q hq
  have n1 : q.1 ≠ p := fun z => by
    rw [z] at h1
    rcases h with e | ⟨xs, e⟩ <;> (rw [e] at h1; cases h1)
  refine ⟨ps, by rw [upd_ne n1]; exact h1, h2, fun pos cv hc => ?_⟩
  obtain ⟨c, e1, e2⟩ := h3 pos cv hc
  have n2 : c ≠ p := fun z => by
    rw [z] at e2
    rcases h with e | ⟨xs, e⟩
    · rw [e] at e2; cases e2
    · rw [e] at e2
      have := Option.some.inj e2
      unfold LamX.CodeO at this
      cases this
  exact ⟨c, e1, by rw [upd_ne n2]; exact e2⟩
variable [TabT]
abbrev Wl := Int × Int × Int
def wl (w : Wl) : List V := [.int w.1, .int w.2.1, .int w.2.2]
mutual
inductive Rep (wa : Addr) (Hf : Hp) : V → D → Prop
  | non : Rep wa Hf .non .non
  | bl (b : Bool) : Rep wa Hf (.bl b) (.bl b)
  | int (i : Int) : Rep wa Hf (.int i) (.int i)
  | str (x : Str) : Rep wa Hf (.str x) (.str x)
  | lst {a : Addr} {xs : List V} {ds : List D} : Hf a = some (.lst xs) → Reps wa Hf xs ds → Rep wa Hf (.ref a) (.lst ds)
  | tup {a : Addr} {xs : List V} {ds : List D} : Hf a = some (.tup xs) → Reps wa Hf xs ds → Rep wa Hf (.ref a) (.tup ds)
  | well : Rep wa Hf (.ref wa) .well
  | ref (a : Addr) : Rep wa Hf (.ref a) (.ref a)
  | ty (n : String) : Rep wa Hf (.ty n) (.ty n)
inductive Reps (wa : Addr) (Hf : Hp) : List V → List D → Prop
  | nil : Reps wa Hf [] []
  | cons {v : V} {vs : List V} {d : D} {ds : List D} : Rep wa Hf v d → Reps wa Hf vs ds → Reps wa Hf (v :: vs) (d :: ds)
end
section
variable {wa : Addr} {Hf Hf' Hf1 H H' H1 : Hp}
mutual
theorem Rep.mono (e : Ex Hf Hf') : ∀ {v : V} {d : D}, Rep wa Hf v d → Rep wa Hf' v d
  | _, _, .non => .non
  | _, _, .bl b => .bl b
  | _, _, .int i => .int i
  | _, _, .str x => .str x
  | _, _, .lst h r => .lst (e _ _ h) (Reps.mono e r)
  | _, _, .tup h r => .tup (e _ _ h) (Reps.mono e r)
  | _, _, .well => .well
  | _, _, .ref a => .ref a
  | _, _, .ty a => .ty a
theorem Reps.mono (e : Ex Hf Hf') : ∀ {vs : List V} {ds : List D}, Reps wa Hf vs ds → Reps wa Hf' vs ds
  | _, _, .nil => .nil
  | _, _, .cons h r => .cons (Rep.mono e h) (Reps.mono e r)
end
theorem Reps.length : ∀ {vs : List V} {ds : List D}, Reps wa Hf vs ds → vs.length = ds.length
  | _, _, .nil => rfl
  | _, _, .cons _ r => by simp [Reps.length r]
theorem Reps.get : ∀ {vs : List V} {ds : List D} {i : Nat} {d : D}, Reps wa Hf vs ds → ds[i]? = some d → ∃ v, vs[i]? = some v ∧ Rep wa Hf v d
  | _, _, _, _, .nil, e => by simp at e
  | _, _, 0, _, .cons r _, e => by simp at e; subst e; exact ⟨_, rfl, r⟩
  | _, _, i + 1, d, .cons _ t, e => by
    obtain ⟨v, h1, h2⟩ := Reps.get (i := i) (d := d) t (by simpa using e)
    exact ⟨v, by simpa using h1, h2⟩
theorem Reps.getV : ∀ {vs : List V} {ds : List D} {i : Nat} {v : V}, Reps wa Hf vs ds → vs[i]? = some v → ∃ d, ds[i]? = some d ∧ Rep wa Hf v d
  | _, _, _, _, .nil, e => by simp at e
  | _, _, 0, _, .cons r _, e => by simp at e; subst e; exact ⟨_, rfl, r⟩
  | _, _, i + 1, d, .cons _ t, e => by
    obtain ⟨v, h1, h2⟩ := Reps.getV (i := i) (v := d) t (by simpa using e)
    exact ⟨v, by simpa using h1, h2⟩
theorem Reps.append : ∀ {vs ws : List V} {ds es : List D}, Reps wa Hf vs ds → Reps wa Hf ws es → Reps wa Hf (vs ++ ws) (ds ++ es)
  | _, _, _, _, .nil, s => s
  | _, _, _, _, .cons r t, s => .cons r (Reps.append t s)
theorem Reps.take : ∀ {vs : List V} {ds : List D} (n : Nat), Reps wa Hf vs ds → Reps wa Hf (vs.take n) (ds.take n)
  | _, _, 0, _ => .nil
  | _, _, _ + 1, .nil => .nil
  | _, _, n + 1, .cons r t => .cons r (Reps.take n t)
theorem Reps.drop : ∀ {vs : List V} {ds : List D} (n : Nat), Reps wa Hf vs ds → Reps wa Hf (vs.drop n) (ds.drop n)
  | _, _, 0, r => r
  | _, _, _ + 1, .nil => .nil
  | _, _, n + 1, .cons _ t => Reps.drop n t
theorem Reps.reverse : ∀ {vs : List V} {ds : List D}, Reps wa Hf vs ds → Reps wa Hf vs.reverse ds.reverse
  | _, _, .nil => .nil
  | _, _, .cons r t => by
    rw [List.reverse_cons, List.reverse_cons]
    exact (Reps.reverse t).append (.cons r .nil)
theorem Reps.rep {vs : List V} {ds : List D} (h : Reps wa Hf vs ds) : ∀ k : Nat, Reps wa Hf (List.replicate k vs).flatten (List.replicate k ds).flatten
  | 0 => .nil
  | k + 1 => by
    rw [List.replicate_succ, List.replicate_succ, List.flatten_cons, List.flatten_cons]
    exact h.append (h.rep k)
theorem Reps.ints : ∀ {vs : List V} {ns : List Int}, Reps wa Hf vs (ns.map D.int) → vs = ns.map V.int
  | _, [], h => by cases h; rfl
  | _, n :: ns, h => by
    cases h with
    | cons h1 h2 =>
      cases h1
      rw [Reps.ints h2]
      rfl
theorem Reps.bls : ∀ {vs : List V} {ns : List Bool}, Reps wa Hf vs (ns.map D.bl) → vs = ns.map V.bl
  | _, [], h => by cases h; rfl
  | _, n :: ns, h => by
    cases h with
    | cons h1 h2 =>
      cases h1
      rw [Reps.bls h2]
      rfl
theorem Reps.of_ints : ∀ {ns : List Int}, Reps wa Hf (ns.map V.int) (ns.map D.int)
  | [] => .nil
  | n :: ns => .cons (.int n) Reps.of_ints

/-- the frozen part is there, and the well -/
structure Base (wa : Addr) (Hf H : Hp) (w : Wl) : Prop where
  ex : Ex Hf H
  well : H wa = some (.lst (wl w))
  nw : Hf wa = none
  tb : LamX.Tabs TabT.T H
  nt : ∀ a o, Hf a = some o → NT o
/-- from a heap to a later one -/
structure Go (wa : Addr) (H Hf H' Hf' : Hp) : Prop where
  keepN : ∀ a o, a ≠ wa → NT o → H a = some o → H' a = some o
  ex : Ex Hf Hf'
  newN : ∀ a o, NT o → H a = some o → Hf' a = Hf a
  thereN : ∀ a o, NT o → H a = some o → ∃ o', NT o' ∧ H' a = some o'
theorem Go.keep (g : Go wa H Hf H' Hf') (a : Addr) (xs : List V) (n : a ≠ wa) (h : H a = some (.lst xs)) : H' a = some (.lst xs) := g.keepN a _ n nt_lst h
theorem Go.new (g : Go wa H Hf H' Hf') (a : Addr) (xs : List V) (h : H a = some (.lst xs)) : Hf' a = Hf a := g.newN a _ nt_lst h
theorem Go.refl : Go wa H Hf H Hf := ⟨fun _ _ _ _ h => h, Ex.refl _, fun _ _ _ _ => rfl, fun _ o t h => ⟨o, t, h⟩⟩
theorem Go.trans (a : Go wa H Hf H1 Hf1) (b : Go wa H1 Hf1 H' Hf') : Go wa H Hf H' Hf' :=
  ⟨fun x o n t h => b.keepN x o n t (a.keepN x o n t h), a.ex.trans b.ex, fun x o t h => by
    obtain ⟨o', t', h'⟩ := a.thereN x o t h
    rw [b.newN x o' t' h', a.newN x o t h], fun x o t h => by
    obtain ⟨o', t', h'⟩ := a.thereN x o t h
    exact b.thereN x o' t' h'⟩
theorem Go.fr (g : Go wa H Hf H' Hf') {p : Addr} (h : Fr H' p) : Fr H p := fun o q t => by
  obtain ⟨o', t', e⟩ := g.thereN p o t q
  exact h o' e t'
theorem Go.free (g : Go wa H Hf H' Hf') {p : Addr} (h : H' p = none) : Fr H p := g.fr (.of h)
/-- a new object, not frozen -/
theorem Go.new1 {p : Addr} {o : HO} (h : H p = none) : Go wa H Hf (upd H p o) Hf :=
  ⟨fun a u _ _ e => by rw [upd_ne (ne_of_none e h)]; exact e, Ex.refl _, fun _ _ _ _ => rfl, fun a u t e => ⟨u, t, by rw [upd_ne (ne_of_none e h)]; exact e⟩⟩
/-- a new object, frozen at once -/
theorem Go.newF {p : Addr} {o : HO} (x : Ex Hf H) (h : H p = none) : Go wa H Hf (upd H p o) (upd Hf p o) :=
  have hf : Hf p = none := Evl.fresh_back x h
  ⟨fun a u _ _ e => by rw [upd_ne (ne_of_none e h)]; exact e, Ex.new hf, fun a u _ e => by rw [upd_ne (ne_of_none e h)], fun a u t e => ⟨u, t, by rw [upd_ne (ne_of_none e h)]; exact e⟩⟩
theorem Base.new1 {w : Wl} {p : Addr} {o : HO} (b : Base wa Hf H w) (h : H p = none) : Base wa Hf (upd H p o) w :=
  ⟨b.ex.trans (Ex.new h), by rw [upd_ne (ne_of_none b.well h)]; exact b.well, b.nw, tabs_upd b.tb (.inl h), b.nt⟩
theorem nt_upd {Hf : Hp} {p : Addr} {o : HO} (n : ∀ a o, Hf a = some o → NT o) (t : NT o) : ∀ a u, upd Hf p o a = some u → NT u := fun a u e => by
  by_cases hp : a = p
  · subst hp; rw [upd_same] at e; cases e; exact t
  · rw [upd_ne hp] at e; exact n a u e
theorem ex_upd2 {p : Addr} {o : HO} (x : Ex Hf H) : Ex (upd Hf p o) (upd H p o) := fun a u e => by
  by_cases hp : a = p
  · subst hp; rw [upd_same] at e ⊢; exact e
  · rw [upd_ne hp] at e ⊢; exact x a u e
theorem Base.newF {w : Wl} {p : Addr} {o : HO} (b : Base wa Hf H w) (h : H p = none) (t : NT o := by first | exact nt_lst | exact nt_tup | exact nt_xd) : Base wa (upd Hf p o) (upd H p o) w :=
  ⟨ex_upd2 b.ex, by rw [upd_ne (ne_of_none b.well h)]; exact b.well, by rw [upd_ne (ne_of_none b.well h)]; exact b.nw, tabs_upd b.tb (.inl h), nt_upd b.nt t⟩
end

/-! ### what comes of a piece of code -/
structure Exn where
  name : Str
  fs : List (Str × D)
inductive R (α : Type) where
  | ok (a : α) (w : Wl) | er (x : Exn) (w : Wl) | no
def R.bind {α β : Type} (r : R α) (k : α → Wl → R β) : R β := match r with
  | .ok a w => k a w
  | .er x w => .er x w
  | .no => .no
def R.noer {α : Type} (r : R α) : R α := match r with
  | .ok a w => .ok a w
  | _ => .no
@[simp] theorem R.bind_ok {α β : Type} {a : α} {w : Wl} {k : α → Wl → R β} : (R.ok a w).bind k = k a w := rfl
@[simp] theorem R.bind_er {α β : Type} {x : Exn} {w : Wl} {k : α → Wl → R β} : (R.er x w).bind k = .er x w := rfl
@[simp] theorem R.bind_no {α β : Type} {k : α → Wl → R β} : (R.no).bind k = .no := rfl
@[simp] theorem R.noer_ok {α : Type} {a : α} {w : Wl} : (R.ok a w).noer = .ok a w := rfl
abbrev Sl := List (Option D)
abbrev DE := Sl → Wl → R D
abbrev DT := Sl → Wl → R Bool
abbrev DA := Sl → Wl → R (List D)
abbrev DG := D → Sl → Option Sl
inductive RS where
  | nx (s : Sl) (w : Wl) | rt (d : D) (w : Wl) | bk (s : Sl) (w : Wl) | ct (s : Sl) (w : Wl) | er (x : Exn) (s : Sl) (w : Wl) | no
abbrev DS := Sl → Wl → RS
abbrev DF := List D → Wl → R D

/-- what an exception is -/
def ErrV (mg : Str → Option Value) (wa : Addr) (Hf : Hp) (x : Exn) (cls : Value) (dx : Option Addr) : Prop :=
  ∃ (C d : Addr) (vs : List (Str × V)), mg x.name = some (.ref C) ∧ cls = .ref C ∧ dx = some d ∧ Hf d = some (.xd vs) ∧ vs.map (·.1) = x.fs.map (·.1) ∧ Reps wa Hf (vs.map (·.2)) (x.fs.map (·.2))
def Fin {α : Type} (wa : Addr) (Hf H : Hp) (r : R α) (Ok : α → Wl → Hp → Hp → Prop) (Er : Exn → Wl → Hp → Hp → Prop) : Prop := match r with
  | .ok a w' => ∀ H' Hf', Go wa H Hf H' Hf' → Base wa Hf' H' w' → Ok a w' H' Hf'
  | .er x w' => ∀ H' Hf', Go wa H Hf H' Hf' → Base wa Hf' H' w' → Er x w' H' Hf'
  | .no => False
section
variable {wa : Addr} {Hf H : Hp} {α β : Type}
theorem Fin.bind {r : R α} {k : α → Wl → R β} {Ok : β → Wl → Hp → Hp → Prop} {Er : Exn → Wl → Hp → Hp → Prop} (h : Fin wa Hf H (r.bind k) Ok Er) :
    Fin wa Hf H r (fun a w1 H1 Hf1 => Fin wa Hf1 H1 (k a w1) Ok Er) Er := by
  cases r with
  | ok a w1 =>
    intro H1 Hf1 g b
    have h : Fin wa Hf H (k a w1) Ok Er := h
    cases e : k a w1 with
    | ok a2 w2 => rw [e] at h; exact fun H2 Hf2 g2 b2 => h H2 Hf2 (g.trans g2) b2
    | er x w2 => rw [e] at h; exact fun H2 Hf2 g2 b2 => h H2 Hf2 (g.trans g2) b2
    | no => rw [e] at h; exact h
  | er x w1 => exact h
  | no => exact h
theorem Fin.mono {r : R α} {Ok Ok' : α → Wl → Hp → Hp → Prop} {Er Er' : Exn → Wl → Hp → Hp → Prop} (h : Fin wa Hf H r Ok Er)
    (ho : ∀ a w' H' Hf', Go wa H Hf H' Hf' → Base wa Hf' H' w' → Ok a w' H' Hf' → Ok' a w' H' Hf') (he : ∀ x w' H' Hf', Go wa H Hf H' Hf' → Base wa Hf' H' w' → Er x w' H' Hf' → Er' x w' H' Hf') : Fin wa Hf H r Ok' Er' := by
  cases r with
  | ok a w1 => exact fun H1 Hf1 g b => ho _ _ _ _ g b (h H1 Hf1 g b)
  | er x w1 => exact fun H1 Hf1 g b => he _ _ _ _ g b (h H1 Hf1 g b)
  | no => exact h
theorem Fin.here {a : α} {w : Wl} {Ok : α → Wl → Hp → Hp → Prop} {Er : Exn → Wl → Hp → Hp → Prop} (h : Fin wa Hf H (.ok a w) Ok Er) (b : Base wa Hf H w) : Ok a w H Hf := h H Hf Go.refl b
theorem Fin.noer {r : R α} {Ok : α → Wl → Hp → Hp → Prop} {Er Er' : Exn → Wl → Hp → Hp → Prop} (h : Fin wa Hf H r.noer Ok Er) : Fin wa Hf H r Ok Er' := by
  cases r with
  | ok a w1 => exact h
  | er x w1 => exact False.elim h
  | no => exact h
end

/-! ### slots -/
/-- what a dict of ints holds -/
structure DicR (wa : Addr) (Hf : Hp) (kvs : List (Key × V)) (ks : List Int) (xs : List D) : Prop where
  keys : kvs.map (·.1) = ks.map Sum.inl
  vals : Reps wa Hf (kvs.map (·.2)) xs
theorem DicR.mono {wa : Addr} {Hf Hf' : Hp} {kvs : List (Key × V)} {ks : List Int} {xs : List D} (r : DicR wa Hf kvs ks xs) (e : Ex Hf Hf') : DicR wa Hf' kvs ks xs := ⟨r.keys, r.vals.mono e⟩
/-- a value that only its slot knows -/
def IsO (d : D) : Prop := (∃ xs, d = .own xs) ∨ ∃ ks xs, d = .dct ks xs
theorem isO_own {xs : List D} : IsO (.own xs) := .inl ⟨xs, rfl⟩
theorem isO_dct {ks : List Int} {xs : List D} : IsO (.dct ks xs) := .inr ⟨ks, xs, rfl⟩
structure Slots (wa : Addr) (Hf H : Hp) (σ : L2.St) (s : Sl) : Prop where
  len : σ.length = s.length
  val : ∀ (i : Nat) (d : D), s[i]? = some (some d) → ¬ IsO d → ∃ v, σ[i]? = some (some v) ∧ Rep wa Hf v d
  own : ∀ (i : Nat) (xs : List D), s[i]? = some (some (.own xs)) → ∃ p vs, σ[i]? = some (some (.ref p)) ∧ H p = some (.lst vs) ∧ Hf p = none ∧ p ≠ wa ∧ Reps wa Hf vs xs
  dic : ∀ (i : Nat) (ks : List Int) (xs : List D), s[i]? = some (some (.dct ks xs)) → ∃ p kvs, σ[i]? = some (some (.ref p)) ∧ H p = some (.dK kvs) ∧ Hf p = none ∧ p ≠ wa ∧ DicR wa Hf kvs ks xs
  inj : ∀ (i j : Nat) (d e : D) (p : Addr), s[i]? = some (some d) → IsO d → s[j]? = some (some e) → IsO e → σ[i]? = some (some (.ref p)) → σ[j]? = some (some (.ref p)) → i = j
def OwnNew (H0 : Hp) (σ : L2.St) (s : Sl) : Prop := ∀ (i : Nat) (d : D) (p : Addr), s[i]? = some (some d) → IsO d → σ[i]? = some (some (.ref p)) → Fr H0 p
theorem rep_own {wa : Addr} {Hf : Hp} {v : V} {xs : List D} : ¬ Rep wa Hf v (.own xs) := fun h => nomatch h
theorem rep_isO {wa : Addr} {Hf : Hp} {v : V} {d : D} (r : Rep wa Hf v d) : ¬ IsO d := fun h => by
  rcases h with ⟨xs, rfl⟩ | ⟨ks, xs, rfl⟩
  · exact nomatch r
  · exact nomatch r
theorem nt_dK {kvs : List (Key × V)} : NT (.dK kvs) := fun _ z => nomatch z
section
variable {wa : Addr} {Hf Hf' H H' H0 : Hp} {σ : L2.St} {s : Sl}
theorem Slots.go (x : Slots wa Hf H σ s) (g : Go wa H Hf H' Hf') : Slots wa Hf' H' σ s :=
  ⟨x.len, fun i d e n => let ⟨v, h1, h2⟩ := x.val i d e n; ⟨v, h1, h2.mono g.ex⟩, fun i xs e => by
    obtain ⟨p, vs, h1, h2, h3, h4, h5⟩ := x.own i xs e
    exact ⟨p, vs, h1, g.keep p _ h4 h2, (g.new p _ h2).trans h3, h4, h5.mono g.ex⟩, fun i ks xs e => by
    obtain ⟨p, kvs, h1, h2, h3, h4, h5⟩ := x.dic i ks xs e
    exact ⟨p, kvs, h1, g.keepN p _ h4 nt_dK h2, (g.newN p _ nt_dK h2).trans h3, h4, h5.mono g.ex⟩, x.inj⟩
/-- the object of such a slot -/
theorem Slots.oAt (x : Slots wa Hf H σ s) {j : Nat} {e : D} (h : s[j]? = some (some e)) (io : IsO e) : ∃ q o, σ[j]? = some (some (.ref q)) ∧ H q = some o ∧ NT o ∧ Hf q = none ∧ q ≠ wa := by
  rcases io with ⟨xs, rfl⟩ | ⟨ks, xs, rfl⟩
  · obtain ⟨q, vs, k1, k2, k3, k4, _⟩ := x.own j xs h
    exact ⟨q, _, k1, k2, nt_lst, k3, k4⟩
  · obtain ⟨q, vs, k1, k2, k3, k4, _⟩ := x.dic j ks xs h
    exact ⟨q, _, k1, k2, nt_dK, k3, k4⟩
/-- where a slot that is written stands -/
theorem set_key {σ : L2.St} {s : Sl} {i : Nat} {v : V} {d : D} (hl : σ.length = s.length) (j : Nat) (e : Option D) (h : (s.set i (some d))[j]? = some e) : (j = i ∧ e = some d ∧ (σ.set i (some v))[j]? = some (some v)) ∨ (j ≠ i ∧ s[j]? = some e ∧ (σ.set i (some v))[j]? = σ[j]?) := by
  by_cases hj : j = i
  · subst hj
    rw [List.getElem?_set] at h
    split at h
    · split at h
      · rename_i h1 h2
        refine .inl ⟨rfl, (Option.some.inj h).symm, ?_⟩
        rw [List.getElem?_set_self (by rw [hl]; exact h2)]
      · cases h
    · rename_i h1
      exact absurd rfl h1
  · refine .inr ⟨hj, ?_, List.getElem?_set_ne (Ne.symm hj)⟩
    rw [List.getElem?_set_ne (Ne.symm hj)] at h
    exact h
theorem Slots.set (x : Slots wa Hf H σ s) {i : Nat} {v : V} {d : D} (r : Rep wa Hf v d) : Slots wa Hf H (σ.set i (some v)) (s.set i (some d)) := by
  have nd := rep_isO r
  refine ⟨by simp [x.len], fun j e h n => ?_, fun j xs h => ?_, fun j ks xs h => ?_, fun j k e u p h1 n1 h2 n2 h3 h4 => ?_⟩
  · rcases set_key (v := v) x.len j _ h with ⟨rfl, e1, e2⟩ | ⟨_, e1, e2⟩
    · cases e1
      exact ⟨v, e2, r⟩
    · rw [e2]
      exact x.val j e e1 n
  · rcases set_key (v := v) x.len j _ h with ⟨rfl, e1, e2⟩ | ⟨_, e1, e2⟩
    · cases e1
      exact absurd isO_own nd
    · rw [e2]
      exact x.own j xs e1
  · rcases set_key (v := v) x.len j _ h with ⟨rfl, e1, e2⟩ | ⟨_, e1, e2⟩
    · cases e1
      exact absurd isO_dct nd
    · rw [e2]
      exact x.dic j ks xs e1
  · rcases set_key (v := v) x.len j _ h1 with ⟨_, e1, _⟩ | ⟨_, e1, e2⟩
    · cases e1
      exact absurd n1 nd
    · rcases set_key (v := v) x.len k _ h2 with ⟨_, f1, _⟩ | ⟨_, f1, f2⟩
      · cases f1
        exact absurd n2 nd
      · rw [e2] at h3
        rw [f2] at h4
        exact x.inj j k e u p e1 n1 f1 n2 h3 h4
theorem OwnNew.set (x : OwnNew H0 σ s) {i : Nat} {v : V} {d : D} (nd : ¬ IsO d) : OwnNew H0 (σ.set i (some v)) (s.set i (some d)) := fun j e p h1 n1 h2 => by
  by_cases hj : j = i
  · subst hj
    rw [List.getElem?_set] at h1
    split at h1
    · split at h1
      · cases h1
        exact absurd n1 nd
      · cases h1
    · rename_i hne
      exact absurd rfl hne
  · rw [List.getElem?_set_ne (Ne.symm hj)] at h1 h2
    exact x j e p h1 n1 h2
/-- a new list, or a new dict, into a slot -/
theorem Slots.setO (x : Slots wa Hf H σ s) {i : Nat} {p : Addr} {d : D} (io : IsO d) (hl : ∀ xs, d = .own xs → ∃ vs, H p = some (.lst vs) ∧ Reps wa Hf vs xs) (hd : ∀ ks xs, d = .dct ks xs → ∃ kvs, H p = some (.dK kvs) ∧ DicR wa Hf kvs ks xs) (hf : Hf p = none) (hw : p ≠ wa)
    (hn : ∀ (j : Nat) (e : D), s[j]? = some (some e) → IsO e → σ[j]? ≠ some (some (.ref p))) : Slots wa Hf H (σ.set i (some (.ref p))) (s.set i (some d)) := by
  refine ⟨by simp [x.len], fun j e h n => ?_, fun j ys h => ?_, fun j ks ys h => ?_, fun j k e u q h1 n1 h2 n2 h3 h4 => ?_⟩
  · rcases set_key (v := .ref p) x.len j _ h with ⟨rfl, e1, e2⟩ | ⟨_, e1, e2⟩
    · cases e1
      exact absurd io n
    · rw [e2]
      exact x.val j e e1 n
  · rcases set_key (v := .ref p) x.len j _ h with ⟨rfl, e1, e2⟩ | ⟨_, e1, e2⟩
    · obtain ⟨vs, k1, k2⟩ := hl ys (Option.some.inj e1).symm
      exact ⟨p, vs, e2, k1, hf, hw, k2⟩
    · rw [e2]
      exact x.own j ys e1
  · rcases set_key (v := .ref p) x.len j _ h with ⟨rfl, e1, e2⟩ | ⟨_, e1, e2⟩
    · obtain ⟨vs, k1, k2⟩ := hd ks ys (Option.some.inj e1).symm
      exact ⟨p, vs, e2, k1, hf, hw, k2⟩
    · rw [e2]
      exact x.dic j ks ys e1
  · rcases set_key (v := .ref p) x.len j _ h1 with ⟨hji, e1, e2⟩ | ⟨hji, e1, e2⟩
    · rcases set_key (v := .ref p) x.len k _ h2 with ⟨hki, f1, f2⟩ | ⟨_, f1, f2⟩
      · rw [hji, hki]
      · rw [e2] at h3
        cases h3
        rw [f2] at h4
        exact absurd h4 (hn k u f1 n2)
    · rcases set_key (v := .ref p) x.len k _ h2 with ⟨_, f1, f2⟩ | ⟨_, f1, f2⟩
      · rw [f2] at h4
        cases h4
        rw [e2] at h3
        exact absurd h3 (hn j e e1 n1)
      · rw [e2] at h3
        rw [f2] at h4
        exact x.inj j k e u q e1 n1 f1 n2 h3 h4
theorem Slots.setOwn (x : Slots wa Hf H σ s) {i : Nat} {p : Addr} {vs : List V} {xs : List D} (hp : H p = some (.lst vs)) (hf : Hf p = none) (hw : p ≠ wa) (r : Reps wa Hf vs xs)
    (hn : ∀ (j : Nat) (e : D), s[j]? = some (some e) → IsO e → σ[j]? ≠ some (some (.ref p))) : Slots wa Hf H (σ.set i (some (.ref p))) (s.set i (some (.own xs))) :=
  x.setO isO_own (fun ys e => by cases e; exact ⟨vs, hp, r⟩) (fun ks ys e => nomatch e) hf hw hn
theorem Slots.setDct (x : Slots wa Hf H σ s) {i : Nat} {p : Addr} {kvs : List (Key × V)} {ks : List Int} {xs : List D} (hp : H p = some (.dK kvs)) (hf : Hf p = none) (hw : p ≠ wa) (r : DicR wa Hf kvs ks xs)
    (hn : ∀ (j : Nat) (e : D), s[j]? = some (some e) → IsO e → σ[j]? ≠ some (some (.ref p))) : Slots wa Hf H (σ.set i (some (.ref p))) (s.set i (some (.dct ks xs))) :=
  x.setO isO_dct (fun ys e => nomatch e) (fun ks ys e => by cases e; exact ⟨kvs, hp, r⟩) hf hw hn
theorem OwnNew.setO (x : OwnNew H0 σ s) {i : Nat} {p : Addr} {d : D} (hl : σ.length = s.length) (h0 : Fr H0 p) : OwnNew H0 (σ.set i (some (.ref p))) (s.set i (some d)) := fun j e q h1 n1 h2 => by
  by_cases hj : j = i
  · subst hj
    rw [List.getElem?_set] at h1
    split at h1
    · split at h1
      · rename_i _ hlt
        rw [List.getElem?_set_self (by rw [hl]; exact hlt)] at h2
        cases h2
        exact h0
      · cases h1
    · rename_i hne
      exact absurd rfl hne
  · rw [List.getElem?_set_ne (Ne.symm hj)] at h1 h2
    exact x j e q h1 n1 h2
theorem OwnNew.setOwn (x : OwnNew H0 σ s) {i : Nat} {p : Addr} {xs : List D} (hl : σ.length = s.length) (h0 : Fr H0 p) : OwnNew H0 (σ.set i (some (.ref p))) (s.set i (some (.own xs))) := x.setO hl h0
/-- a slot's own object is written -/
theorem Slots.writeO (x : Slots wa Hf H σ s) {i : Nat} {d0 d : D} {p : Addr} {o : HO} (hi : s[i]? = some (some d0)) (i0 : IsO d0) (hp : σ[i]? = some (some (.ref p))) (io : IsO d) (hf : Hf p = none) (hw : p ≠ wa)
    (hl : ∀ xs, d = .own xs → ∃ vs, o = .lst vs ∧ Reps wa Hf vs xs) (hd : ∀ ks xs, d = .dct ks xs → ∃ kvs, o = .dK kvs ∧ DicR wa Hf kvs ks xs) : Slots wa Hf (upd H p o) σ (s.set i (some d)) := by
  have hlt : i < s.length := (List.getElem?_eq_some_iff.mp hi).1
  have key : ∀ (j : Nat) (e : Option D), (s.set i (some d))[j]? = some e → (j = i ∧ e = some d) ∨ (j ≠ i ∧ s[j]? = some e) := fun j e h => by
    by_cases hj : j = i
    · subst hj
      rw [List.getElem?_set_self hlt] at h
      exact .inl ⟨rfl, (Option.some.inj h).symm⟩
    · rw [List.getElem?_set_ne (Ne.symm hj)] at h
      exact .inr ⟨hj, h⟩
  refine ⟨by simp [x.len], fun j e h n => ?_, fun j zs h => ?_, fun j ks zs h => ?_, fun j k e u q e1 n1 e2 n2 e3 e4 => ?_⟩
  · rcases key j _ h with ⟨_, e1⟩ | ⟨_, e1⟩
    · cases e1
      exact absurd io n
    · exact x.val j e e1 n
  · rcases key j _ h with ⟨rfl, e1⟩ | ⟨hj, e1⟩
    · obtain ⟨vs, k1, k2⟩ := hl zs (Option.some.inj e1).symm
      exact ⟨p, vs, hp, by rw [upd_same, k1], hf, hw, k2⟩
    · obtain ⟨q, us, k1, k2, k3, k4, k5⟩ := x.own j zs e1
      have hne : q ≠ p := fun z => by
        subst z
        exact hj (x.inj j i _ _ q e1 isO_own hi i0 k1 hp)
      exact ⟨q, us, k1, by rw [upd_ne hne]; exact k2, k3, k4, k5⟩
  · rcases key j _ h with ⟨rfl, e1⟩ | ⟨hj, e1⟩
    · obtain ⟨vs, k1, k2⟩ := hd ks zs (Option.some.inj e1).symm
      exact ⟨p, vs, hp, by rw [upd_same, k1], hf, hw, k2⟩
    · obtain ⟨q, us, k1, k2, k3, k4, k5⟩ := x.dic j ks zs e1
      have hne : q ≠ p := fun z => by
        subst z
        exact hj (x.inj j i _ _ q e1 isO_dct hi i0 k1 hp)
      exact ⟨q, us, k1, by rw [upd_ne hne]; exact k2, k3, k4, k5⟩
  · have o1 : ∃ z, s[j]? = some (some z) ∧ IsO z := by
      rcases key j _ e1 with ⟨rfl, _⟩ | ⟨_, f⟩
      · exact ⟨d0, hi, i0⟩
      · exact ⟨e, f, n1⟩
    have o2 : ∃ z, s[k]? = some (some z) ∧ IsO z := by
      rcases key k _ e2 with ⟨rfl, _⟩ | ⟨_, f⟩
      · exact ⟨d0, hi, i0⟩
      · exact ⟨u, f, n2⟩
    obtain ⟨z1, o1, m1⟩ := o1
    obtain ⟨z2, o2, m2⟩ := o2
    exact x.inj j k z1 z2 q o1 m1 o2 m2 e3 e4
theorem Slots.write (x : Slots wa Hf H σ s) {i : Nat} {xs ys : List D} {p : Addr} {ws : List V} (hi : s[i]? = some (some (.own xs))) (hp : σ[i]? = some (some (.ref p))) (r : Reps wa Hf ws ys) :
    Slots wa Hf (upd H p (.lst ws)) σ (s.set i (some (.own ys))) := by
  obtain ⟨p', vs, h1, h2, h3, h4, h5⟩ := x.own i xs hi
  rw [hp] at h1
  cases h1
  exact x.writeO hi isO_own hp isO_own h3 h4 (fun zs e => by cases e; exact ⟨ws, rfl, r⟩) (fun ks zs e => nomatch e)
theorem Slots.writeD (x : Slots wa Hf H σ s) {i : Nat} {ks ls : List Int} {xs ys : List D} {p : Addr} {kvs : List (Key × V)} (hi : s[i]? = some (some (.dct ks xs))) (hp : σ[i]? = some (some (.ref p))) (r : DicR wa Hf kvs ls ys) :
    Slots wa Hf (upd H p (.dK kvs)) σ (s.set i (some (.dct ls ys))) := by
  obtain ⟨p', vs, h1, h2, h3, h4, h5⟩ := x.dic i ks xs hi
  rw [hp] at h1
  cases h1
  exact x.writeO hi isO_dct hp isO_dct h3 h4 (fun zs e => nomatch e) (fun ks zs e => by cases e; exact ⟨kvs, rfl, r⟩)
/-- a slot's own list is read from now on -/
theorem Slots.frz (x : Slots wa Hf H σ s) {i : Nat} {xs : List D} {p : Addr} {vs : List V} (hi : s[i]? = some (some (.own xs))) (hp : σ[i]? = some (some (.ref p))) (hv : H p = some (.lst vs)) :
    Slots wa (upd Hf p (.lst vs)) H σ (s.set i (some (.lst xs))) := by
  have hlt : i < s.length := (List.getElem?_eq_some_iff.mp hi).1
  obtain ⟨p', vs', h1, h2, h3, h4, h5⟩ := x.own i xs hi
  rw [hp] at h1
  cases h1
  rw [hv] at h2
  cases h2
  have e0 : Ex Hf (upd Hf p (.lst vs)) := Ex.new h3
  have key : ∀ (j : Nat) (e : Option D), (s.set i (some (.lst xs)))[j]? = some e → (j = i ∧ e = some (.lst xs)) ∨ (j ≠ i ∧ s[j]? = some e) := fun j e h => by
    by_cases hj : j = i
    · subst hj
      rw [List.getElem?_set_self hlt] at h
      exact .inl ⟨rfl, (Option.some.inj h).symm⟩
    · rw [List.getElem?_set_ne (Ne.symm hj)] at h
      exact .inr ⟨hj, h⟩
  have nl : ¬ IsO (.lst xs) := fun h => by
    rcases h with ⟨ys, e⟩ | ⟨ks, ys, e⟩
    · cases e
    · cases e
  refine ⟨by simp [x.len], fun j e h n => ?_, fun j zs h => ?_, fun j ks zs h => ?_, fun j k e u q e1 n1 e2 n2 e3 e4 => ?_⟩
  · rcases key j _ h with ⟨rfl, e1⟩ | ⟨_, e1⟩
    · cases e1
      exact ⟨_, hp, .lst upd_same (h5.mono e0)⟩
    · obtain ⟨v, k1, k2⟩ := x.val j e e1 n
      exact ⟨v, k1, k2.mono e0⟩
  · rcases key j _ h with ⟨_, e1⟩ | ⟨hj, e1⟩
    · cases e1
    · obtain ⟨q, us, k1, k2, k3, k4, k5⟩ := x.own j zs e1
      have hne : q ≠ p := fun z => by
        subst z
        exact hj (x.inj j i _ _ q e1 isO_own hi isO_own k1 hp)
      exact ⟨q, us, k1, k2, by rw [upd_ne hne]; exact k3, k4, k5.mono e0⟩
  · rcases key j _ h with ⟨_, e1⟩ | ⟨hj, e1⟩
    · cases e1
    · obtain ⟨q, us, k1, k2, k3, k4, k5⟩ := x.dic j ks zs e1
      have hne : q ≠ p := fun z => by
        subst z
        exact hj (x.inj j i _ _ q e1 isO_dct hi isO_own k1 hp)
      exact ⟨q, us, k1, k2, by rw [upd_ne hne]; exact k3, k4, k5.mono e0⟩
  · rcases key j _ e1 with ⟨_, f⟩ | ⟨_, f⟩
    · cases f
      exact absurd n1 nl
    · rcases key k _ e2 with ⟨_, f2⟩ | ⟨_, f2⟩
      · cases f2
        exact absurd n2 nl
      · exact x.inj j k e u q f n1 f2 n2 e3 e4
theorem OwnNew.sub {s' : Sl} (x : OwnNew H0 σ s) (h : ∀ (i : Nat) d, s'[i]? = some (some d) → IsO d → ∃ e, s[i]? = some (some e) ∧ IsO e) : OwnNew H0 σ s' := fun i d p h1 n1 h2 => by
  obtain ⟨e, e1, e2⟩ := h i d h1 n1
  exact x i e p e1 e2 h2
end
end DL

set_option maxHeartbeats 2000000
namespace DL
open PySem PySem.Spec PyProof.Rows L2
variable [TabT]
open Evl (Ex)
abbrev Rl (β α : Type) := Addr → Hp → β → α → Prop
abbrev rD : Rl V D := Rep
abbrev rAs : Rl (List V) (List D) := Reps
abbrev rB : Rl Bool Bool := fun _ _ b c => b = c
abbrev rO : Rl (Option Int) (Option Int) := fun _ _ b c => b = c
/-- a fresh list -/
abbrev Er (mg : Str → Option Value) (W : WX) (wa : Addr) (σ : L2.St) : Exn → Wl → Hp → Hp → Prop := fun x _ H' Hf' => ∀ cls dx, ErrV mg wa Hf' x cls dx → W cls dx σ H'
def lf {α β : Type} (rel : Rl β α) (mg : Str → Option Value) (W : WX) (E : Sl → Wl → R α) : L2.St → Hp → (β → Hp → Prop) → Prop := fun σ H Q =>
  ∃ wa Hf sD w, Base wa Hf H w ∧ Slots wa Hf H σ sD ∧ Fin wa Hf H (E sD w) (fun d _ H' Hf' => ∀ v, rel wa Hf' v d → Q v H') (Er mg W wa σ)
/-- the same, the value a list that is new -/
def lfL (mg : Str → Option Value) (W : WX) (E : Sl → Wl → R (List D)) : TE := fun σ H Q =>
  ∃ wa Hf sD w, Base wa Hf H w ∧ Slots wa Hf H σ sD ∧ Fin wa Hf H (E sD w) (fun ds _ H' Hf' => ∀ p vs, Fr H p → H' p = some (.lst vs) → Hf' p = none → p ≠ wa → Reps wa Hf' vs ds → Q (.ref p) H') (Er mg W wa σ)
abbrev lE := lf rD
abbrev lA := lf rAs
abbrev lT := lf rB
abbrev lO := lf rO
section
variable {α β γ δ : Type} {X : Cx} {mg : Str → Option Value} {W : WX} {e a b c : Expr} {pos : Pos} {σ : L2.St} {H : Hp}
theorem weakE {t t' : TE} (h : PE X e t) (i : ∀ σ H Q, t' σ H Q → t σ H Q) : PE X e t' := ⟨fun pins s σ H Q I q => h.run pins s σ H Q I (i σ H Q q)⟩
theorem weakT {t t' : TT} (h : PT X e t) (i : ∀ σ H Q, t' σ H Q → t σ H Q) : PT X e t' := ⟨fun pins s σ H Q I q => h.run pins s σ H Q I (i σ H Q q)⟩
theorem weakW {t t' : TT} (h : PW X e t) (i : ∀ σ H Q, t' σ H Q → t σ H Q) : PW X e t' := ⟨fun wh pins s σ H Q I q => h.run wh pins s σ H Q I (i σ H Q q)⟩
theorem weakA {es : List Expr} {t t' : TA} (h : PA X es t) (i : ∀ σ H Q, t' σ H Q → t σ H Q) : PA X es t' := ⟨fun p pins s σ H Q I q => h.run p pins s σ H Q I (i σ H Q q)⟩
theorem weakO {o : Option Expr} {t t' : TO} (h : PO X o t) (i : ∀ σ H Q, t' σ H Q → t σ H Q) : PO X o t' := ⟨fun pins s σ H Q I q => h.run pins s σ H Q I (i σ H Q q)⟩
theorem orE {t t' : TE} (h : PE X e t) (h' : PE X e t') : PE X e (fun σ H Q => t σ H Q ∨ t' σ H Q) := ⟨fun pins s σ H Q I q => q.elim (fun q => h.run pins s σ H Q I q) fun q => h'.run pins s σ H Q I q⟩
theorem orT {t t' : TT} (h : PT X e t) (h' : PT X e t') : PT X e (fun σ H Q => t σ H Q ∨ t' σ H Q) := ⟨fun pins s σ H Q I q => q.elim (fun q => h.run pins s σ H Q I q) fun q => h'.run pins s σ H Q I q⟩
/-! ### names, constants -/
def getS (s : Sl) (i : Nat) : Option D := match s[i]? with
  | some (some (.own _)) => none
  | some (some (.dct _ _)) => none
  | some (some d) => some d
  | _ => none
def eVar (i : Nat) : DE := fun s w => match getS s i with
  | some d => .ok d w
  | none => .no
def eC (d : D) : DE := fun _ w => .ok d w
theorem getS_some {wa : Addr} {Hf : Hp} {s : Sl} {i : Nat} {d : D} (x : Slots wa Hf H σ s) (h : getS s i = some d) : ∃ v, σ[i]? = some (some v) ∧ Rep wa Hf v d := by
  unfold getS at h
  split at h
  · cases h
  · cases h
  · rename_i d' hn hn2 hi
    cases h
    exact x.val i d hi fun z => by
      rcases z with ⟨xs, z⟩ | ⟨ks, xs, z⟩
      · exact hn xs z
      · exact hn2 ks xs z
  · cases h
theorem pd_var (i : Nat) {x : Str} (hN : X.N[i]? = some x := by rfl) (hv : Vis X.env.scope x := by first | exact Or.inl rfl | exact Or.inr (Or.inl rfl) | exact Or.inr (Or.inr rfl)) (hd : (x == ("__debug__" : Str)) = false := by decide)
    (hcd : (x == ("__classdict__" : Str)) = false := by decide) : PE X (.Name x pos) (lE mg W (eVar i)) := weakE (pe_var hN hv hd hcd) fun σ H Q h => by
  obtain ⟨wa, Hf, sD, w, hb, hs, hf⟩ := h
  unfold eVar at hf
  split at hf
  · rename_i d hi
    obtain ⟨v, h1, h2⟩ := getS_some hs hi
    exact ⟨v, h1, hf.here hb v h2⟩
  · exact hf.elim
theorem pd_c {v : V} {d : D} (h : PE X e (tC v)) (r : ∀ wa Hf, Rep wa Hf v d) : PE X e (lE mg W (eC d)) := weakE h fun σ H Q h => by
  obtain ⟨wa, Hf, sD, w, hb, hs, hf⟩ := h
  exact hf.here hb v (r _ _)
theorem pd_int {i j} : PE X (.Constant (.int i) j pos) (lE mg W (eC (.int i))) := pd_c pe_int fun _ _ => .int i
theorem pd_bl {i j} : PE X (.Constant (.bool i) j pos) (lE mg W (eC (.bl i))) := pd_c pe_bl fun _ _ => .bl i
theorem pd_non {j} : PE X (.Constant .none j pos) (lE mg W (eC .non)) := pd_c pe_non fun _ _ => .non
theorem pd_str {i j} : PE X (.Constant (.str i) j pos) (lE mg W (eC (.str i))) := pd_c pe_str fun _ _ => .str i
theorem pd_globI {x : Str} {i : Int} {t : Tok} (hg : Gl X x) (hm : X.mg x = some (.int i t)) (hd : (x == ("__debug__" : Str)) = false := by decide) : PE X (.Name x pos) (lE mg W (eC (.int i))) := pd_c (pe_glob hg hm (v := .int i) ⟨t, rfl⟩ hd) fun _ _ => .int i
theorem pd_ty {x : Str} {n : String} (hg : Gl X x) (hm : X.mg x = none) (hv : bootBuiltins x = some (.type n)) (hn : x ≠ "__name__" := by decide) (hd : (x == ("__debug__" : Str)) = false := by decide) : PE X (.Name x pos) (lE mg W (eC (.ty n))) :=
  pd_c (pe_bltn (v := .ty n) hg hm hv rfl hn hd) fun _ _ => .ty n

/-! ### operations on values -/
/-- a two-place rule does what f tells -/
def OpD (r : R2) (f : Wl → D → D → Option D) : Prop := ∀ wa Hf H w x y u v z Q, Base wa Hf H w → Rep wa Hf u x → Rep wa Hf v y → f w x y = some z →
  (∀ H' Hf', Go wa H Hf H' Hf' → Base wa Hf' H' w → ∀ v', Rep wa Hf' v' z → Q v' H') → r u v H Q
def UnD (r : V → Hp → VK → Prop) (f : Wl → D → Option D) : Prop := ∀ wa Hf H w x u z Q, Base wa Hf H w → Rep wa Hf u x → f w x = some z →
  (∀ H' Hf', Go wa H Hf H' Hf' → Base wa Hf' H' w → ∀ v', Rep wa Hf' v' z → Q v' H') → r u H Q
def CaD (r : List V → Hp → VK → Prop) (f : Wl → List D → Option D) : Prop := ∀ wa Hf H w ds us z Q, Base wa Hf H w → Reps wa Hf us ds → f w ds = some z →
  (∀ H' Hf', Go wa H Hf H' Hf' → Base wa Hf' H' w → ∀ v', Rep wa Hf' v' z → Q v' H') → r us H Q
/-- a call that makes a list -/
def CaL (r : List V → Hp → VK → Prop) (f : Wl → List D → Option (List D)) : Prop := ∀ wa Hf H w ds us zs Q, Base wa Hf H w → Reps wa Hf us ds → f w ds = some zs →
  (∀ H' Hf' p vs, Go wa H Hf H' Hf' → Base wa Hf' H' w → Fr H p → H' p = some (.lst vs) → Hf' p = none → p ≠ wa → Reps wa Hf' vs zs → Q (.ref p) H') → r us H Q
def OpL (r : R2) (f : Wl → D → D → Option (List D)) : Prop := ∀ wa Hf H w x y u v zs Q, Base wa Hf H w → Rep wa Hf u x → Rep wa Hf v y → f w x y = some zs →
  (∀ H' Hf' p vs, Go wa H Hf H' Hf' → Base wa Hf' H' w → Fr H p → H' p = some (.lst vs) → Hf' p = none → p ≠ wa → Reps wa Hf' vs zs → Q (.ref p) H') → r u v H Q
def opt {α : Type} (o : Option α) (w : Wl) : R α := match o with
  | some z => .ok z w
  | none => .no
@[simp] theorem opt_some {α : Type} {z : α} {w : Wl} : opt (some z) w = .ok z w := rfl
@[simp] theorem opt_none {α : Type} {w : Wl} : opt (none : Option α) w = .no := rfl
theorem Fin.opt {α : Type} {wa : Addr} {Hf H : Hp} {o : Option α} {w : Wl} {Ok : α → Wl → Hp → Hp → Prop} {Er : Exn → Wl → Hp → Hp → Prop} (h : Fin wa Hf H (opt o w) Ok Er) : ∃ z, o = some z ∧ ∀ H' Hf', Go wa H Hf H' Hf' → Base wa Hf' H' w → Ok z w H' Hf' := by
  cases o with
  | none => exact h.elim
  | some z => exact ⟨z, rfl, h⟩
def eBin (f : Wl → D → D → Option D) (A B : DE) : DE := fun s w => (A s w).bind fun x w1 => (B s w1).bind fun y w2 => opt (f w2 x y) w2
def eUn (f : Wl → D → Option D) (A : DE) : DE := fun s w => (A s w).bind fun x w1 => opt (f w1 x) w1
def eCB (f : Wl → List D → Option D) (A : DA) : DE := fun s w => (A s w).bind fun x w1 => opt (f w1 x) w1
variable {A B C : DE} {r r' : R2} {f g : Wl → D → D → Option D}

theorem bin_ok {Q : VK} (hf : OpD r f) (h : lE mg W (eBin f A B) σ H Q) : tOp r (lE mg W A) (lE mg W B) σ H Q := by
  obtain ⟨wa, Hf, sD, w, hb, hs, h⟩ := h
  refine ⟨wa, Hf, sD, w, hb, hs, h.bind.mono (fun x w1 H1 Hf1 g1 b1 q v rv => ?_) (fun _ _ _ _ _ _ q => q)⟩
  refine ⟨wa, Hf1, sD, w1, b1, hs.go g1, q.bind.mono (fun y w2 H2 Hf2 g2 b2 q2 v2 rv2 => ?_) (fun _ _ _ _ _ _ q => q)⟩
  obtain ⟨z, e, q3⟩ := q2.opt
  exact hf wa Hf2 H2 w2 x y v v2 z Q b2 (rv.mono g2.ex) rv2 e q3
theorem un_ok {Q : VK} {r : V → Hp → VK → Prop} {f : Wl → D → Option D} (hf : UnD r f) (h : lE mg W (eUn f A) σ H Q) : tUn r (lE mg W A) σ H Q := by
  obtain ⟨wa, Hf, sD, w, hb, hs, h⟩ := h
  refine ⟨wa, Hf, sD, w, hb, hs, h.bind.mono (fun x w1 H1 Hf1 g1 b1 q v rv => ?_) (fun _ _ _ _ _ _ q => q)⟩
  obtain ⟨z, e, q3⟩ := q.opt
  exact hf wa Hf1 H1 w1 x v z Q b1 rv e q3
theorem cb_ok {Q : VK} {r : List V → Hp → VK → Prop} {f : Wl → List D → Option D} {A : DA} (hf : CaD r f) (h : lE mg W (eCB f A) σ H Q) : tCB r (lA mg W A) σ H Q := by
  obtain ⟨wa, Hf, sD, w, hb, hs, h⟩ := h
  refine ⟨wa, Hf, sD, w, hb, hs, h.bind.mono (fun x w1 H1 Hf1 g1 b1 q v rv => ?_) (fun _ _ _ _ _ _ q => q)⟩
  obtain ⟨z, e, q3⟩ := q.opt
  exact hf wa Hf1 H1 w1 x v z Q b1 rv e q3
def eCBL (f : Wl → List D → Option (List D)) (A : DA) : DA := fun s w => (A s w).bind fun x w1 => opt (f w1 x) w1
def eBinL (f : Wl → D → D → Option (List D)) (A B : DE) : DA := fun s w => (A s w).bind fun x w1 => (B s w1).bind fun y w2 => opt (f w2 x y) w2
theorem cbL_ok {Q : VK} {r : List V → Hp → VK → Prop} {f : Wl → List D → Option (List D)} {A : DA} (hf : CaL r f) (h : lfL mg W (eCBL f A) σ H Q) : tCB r (lA mg W A) σ H Q := by
  obtain ⟨wa, Hf, sD, w, hb, hs, h⟩ := h
  refine ⟨wa, Hf, sD, w, hb, hs, h.bind.mono (fun x w1 H1 Hf1 g1 b1 q v rv => ?_) (fun _ _ _ _ _ _ q => q)⟩
  obtain ⟨z, e, q3⟩ := q.opt
  exact hf wa Hf1 H1 w1 x v z Q b1 rv e fun H' Hf' p vs g b n e1 e2 e3 r => q3 H' Hf' g b p vs (g1.fr n) e1 e2 e3 r
theorem binL_ok {Q : VK} {f : Wl → D → D → Option (List D)} (hf : OpL r f) (h : lfL mg W (eBinL f A B) σ H Q) : tOp r (lE mg W A) (lE mg W B) σ H Q := by
  obtain ⟨wa, Hf, sD, w, hb, hs, h⟩ := h
  refine ⟨wa, Hf, sD, w, hb, hs, h.bind.mono (fun x w1 H1 Hf1 g1 b1 q v rv => ?_) (fun _ _ _ _ _ _ q => q)⟩
  refine ⟨wa, Hf1, sD, w1, b1, hs.go g1, q.bind.mono (fun y w2 H2 Hf2 g2 b2 q2 v2 rv2 => ?_) (fun _ _ _ _ _ _ q => q)⟩
  obtain ⟨z, e, q3⟩ := q2.opt
  exact hf wa Hf2 H2 w2 x y v v2 z Q b2 (rv.mono g2.ex) rv2 e fun H' Hf' p vs g b n e1 e2 e3 r => q3 H' Hf' g b p vs ((g1.trans g2).fr n) e1 e2 e3 r
/-- a new list, read from now on -/
def eL (A : DA) : DE := fun s w => (A s w).bind fun ds w1 => .ok (.lst ds) w1
theorem eL_ok {Q : VK} {A : DA} (h : lE mg W (eL A) σ H Q) : lfL mg W A σ H Q := by
  obtain ⟨wa, Hf, sD, w, hb, hs, h⟩ := h
  refine ⟨wa, Hf, sD, w, hb, hs, ?_⟩
  unfold eL at h
  cases ea : A sD w with
  | ok ds w1 =>
    rw [ea] at h
    intro H1 Hf1 g1 b1 p vs n e1 e2 e3 rv
    have ex : Ex Hf1 (upd Hf1 p (.lst vs)) := Ex.new e2
    have g2 : Go wa H Hf H1 (upd Hf1 p (.lst vs)) := ⟨g1.keepN, g1.ex.trans ex, fun a o t h => by rw [upd_ne (ne_of_fr h t n)]; exact g1.newN a o t h, g1.thereN⟩
    have b2 : Base wa (upd Hf1 p (.lst vs)) H1 w1 := ⟨fun a u h => by
      by_cases hp : a = p
      · subst hp; rw [upd_same] at h; rw [← h]; exact e1
      · rw [upd_ne hp] at h; exact b1.ex a u h, b1.well, by rw [upd_ne (Ne.symm e3)]; exact b1.nw, b1.tb, nt_upd b1.nt nt_lst⟩
    exact h H1 _ g2 b2 (.ref p) (.lst upd_same (rv.mono ex))
  | er x w1 => rw [ea] at h; exact h
  | no => rw [ea] at h; exact h
theorem pd_L {A : DA} (h : PE X e (lfL mg W A)) : PE X e (lE mg W (eL A)) := weakE h fun _ _ _ q => eL_ok q
end
end DL

set_option maxHeartbeats 2000000
namespace DL
open PySem PySem.Spec PyProof.Rows L2
variable [TabT]
open Evl (Ex)
section
variable {α β γ δ : Type} {X : Cx} {mg : Str → Option Value} {W : WX} {e a b c : Expr} {pos : Pos} {σ : L2.St} {H : Hp} {A B C : DE} {r r' : R2} {f g : Wl → D → D → Option D}
theorem frzL {wa : Addr} {Hf H : Hp} {w : Wl} {Q : VK} {z : D} {vs : List V} {ds : List D} (hb : Base wa Hf H w) (rv : Reps wa Hf vs ds) (q : ∀ H' Hf', Go wa H Hf H' Hf' → Base wa Hf' H' w → ∀ v', Rep wa Hf' v' (.lst ds) → Q v' H') : ∀ p, H p = none → Q (.ref p) (upd H p (.lst vs)) := fun p hp =>
  q _ _ (Go.newF hb.ex hp) (hb.newF hp) _ (.lst upd_same (rv.mono (Ex.new (Evl.fresh_back hb.ex hp))))
theorem frzT {wa : Addr} {Hf H : Hp} {w : Wl} {Q : VK} {z : D} {vs : List V} {ds : List D} (hb : Base wa Hf H w) (rv : Reps wa Hf vs ds) (q : ∀ H' Hf', Go wa H Hf H' Hf' → Base wa Hf' H' w → ∀ v', Rep wa Hf' v' (.tup ds) → Q v' H') : ∀ p, H p = none → Q (.ref p) (upd H p (.tup vs)) := fun p hp =>
  q _ _ (Go.newF hb.ex hp) (hb.newF hp) _ (.tup upd_same (rv.mono (Ex.new (Evl.fresh_back hb.ex hp))))
/-! ### two-place operators -/
theorem pd_bin {op : Operator} (ho : OpR X (binaryOp op) r) (hf : OpD r f) (ha : PE X a (lE mg W A)) (hb : PE X b (lE mg W B)) : PE X (.BinOp a op b pos) (lE mg W (eBin f A B)) := weakE (pe_op ho ha hb) fun _ _ _ q => bin_ok hf q
theorem pd_un {op : UnaryOp} {r : V → Hp → VK → Prop} {f : Wl → D → Option D} (ho : UnR X (unaryOp op) r) (hf : UnD r f) (ha : PE X a (lE mg W A)) : PE X (.UnaryOp op a pos) (lE mg W (eUn f A)) := weakE (pe_un ho ha) fun _ _ _ q => un_ok hf q
def lim : Nat := 16000000
theorem lim_le {n : Nat} (h : n ≤ lim) : n ≤ sizeLine := by
  rw [sizeLine_eq]
  have : lim = 16000000 := rfl
  omega
def fAdd : Wl → D → D → Option D := fun _ x y => match x, y with
  | .int i, .int j => some (.int (i + j))
  | .tup xs, .tup ys => if xs.length + ys.length ≤ lim then some (.tup (xs ++ ys)) else none
  | .lst xs, .lst ys => if xs.length + ys.length ≤ lim then some (.lst (xs ++ ys)) else none
  | .str x, .str y => if x.length + y.length ≤ lim then some (.str (x ++ y)) else none
  | _, _ => none
def rAddS : R2 := fun x y H Q => ∃ i j, x = .str i ∧ y = .str j ∧ i.length + j.length ≤ sizeLine ∧ Q (.str (i ++ j)) H
def rAddA (K : PySem.W.Frag) : R2 := fun x y H Q => (rI0 (fun i j => .int (i + j)) x y H Q ∨ rCatA K x y H Q) ∨ rCat x y H Q ∨ rAddS x y H Q
theorem op_addA : OpR X (binaryOp .Add) (rAddA X.K) := (op_add.or op_catA).or (op_cat.or op_add_str)
theorem opd_add {K : PySem.W.Frag} : OpD (rAddA K) fAdd := by
  intro wa Hf H w x y u v z Q hb ru rv h q
  unfold fAdd at h
  split at h
  · cases h
    cases ru
    cases rv
    exact .inl (.inl ⟨_, _, rfl, rfl, q _ _ Go.refl hb _ (.int _)⟩)
  · split at h
    · rename_i hz
      cases h
      cases ru with
      | tup h1 r1 =>
        cases rv with
        | tup h2 r2 =>
          have l1 := r1.length
          have l2 := r2.length
          refine .inl (.inr ⟨_, _, _, _, rfl, rfl, SqT.of (hb.ex _ _ h1), SqT.of (hb.ex _ _ h2), lim_le (by omega), fun e => ?_, fun _ e => ?_, fun _ _ => frzT (z := .non) hb (r1.append r2) q⟩)
          · subst e
            cases r1
            exact q _ _ Go.refl hb _ (.tup h2 (by simpa using r2))
          · subst e
            cases r2
            exact q _ _ Go.refl hb _ (.tup h1 (by simpa using r1))
    · cases h
  · split at h
    · rename_i hz
      cases h
      cases ru with
      | lst h1 r1 =>
        cases rv with
        | lst h2 r2 =>
          have l1 := r1.length
          have l2 := r2.length
          exact .inr (.inl ⟨_, _, _, _, rfl, rfl, hb.ex _ _ h1, hb.ex _ _ h2, lim_le (by omega), frzL (z := .non) hb (r1.append r2) q⟩)
    · cases h
  · split at h
    · rename_i hz
      cases h
      cases ru
      cases rv
      exact .inr (.inr ⟨_, _, rfl, rfl, lim_le hz, q _ _ Go.refl hb _ (.str _)⟩)
    · cases h
  · cases h
theorem pd_add (ha : PE X a (lE mg W A)) (hb : PE X b (lE mg W B)) : PE X (.BinOp a .Add b pos) (lE mg W (eBin fAdd A B)) := pd_bin op_addA opd_add ha hb
def fSub : Wl → D → D → Option D := fun _ x y => match x, y with
  | .int i, .int j => some (.int (i - j))
  | _, _ => none
theorem pd_sub (ha : PE X a (lE mg W A)) (hb : PE X b (lE mg W B)) : PE X (.BinOp a .Sub b pos) (lE mg W (eBin fSub A B)) := pd_bin op_sub (fun wa Hf H w x y u v z Q hb ru rv h q => by
  unfold fSub at h
  split at h
  · cases h
    cases ru
    cases rv
    exact ⟨_, _, rfl, rfl, q _ _ Go.refl hb _ (.int _)⟩
  · cases h) ha hb
/-- factors that the model multiplies: together below a million bits -/
def mulOk (i j : Int) : Prop := i.natAbs.log2 + j.natAbs.log2 < 1000000
instance (i j : Int) : Decidable (mulOk i j) := by unfold mulOk; infer_instance
def fMul : Wl → D → D → Option D := fun _ x y => match x, y with
  | .int i, .int j => if mulOk i j then some (.int (i * j)) else none
  | .lst xs, .int k => if 0 ≤ k ∧ k ≤ 1000000 ∧ xs.length * k.toNat ≤ lim then some (.lst (List.replicate k.toNat xs).flatten) else none
  | .tup xs, .int k => if xs ≠ [] ∧ 2 ≤ k ∧ k ≤ 1000 ∧ xs.length ≤ 1000 then some (.tup (List.replicate k.toNat xs).flatten) else none
  | _, _ => none
def rMulA (K : PySem.W.Frag) : R2 := fun x y H Q => rI CMulW (fun i j => .int (i * j)) x y H Q ∨ rRep x y H Q ∨ rRepT K x y H Q
theorem op_mulA : OpR X (binaryOp .Mult) (rMulA X.K) := op_mulW.or (op_rep.or op_repT)
theorem opd_mul {K : PySem.W.Frag} : OpD (rMulA K) fMul := by
  intro wa Hf H w x y u v z Q hb ru rv h q
  unfold fMul at h
  split at h
  · split at h
    · rename_i hm
      cases h
      cases ru
      cases rv
      exact .inl ⟨_, _, rfl, rfl, hm, q _ _ Go.refl hb _ (.int _)⟩
    · cases h
  · split at h
    · rename_i hm
      cases h
      cases rv
      cases ru with
      | lst h1 r1 =>
        have l1 := r1.length
        exact .inr (.inl ⟨_, _, _, rfl, rfl, hb.ex _ _ h1, by omega, by omega, by rw [l1]; exact lim_le hm.2.2, frzL (z := .non) hb (r1.rep _) q⟩)
    · cases h
  · split at h
    · rename_i hm
      cases h
      cases rv
      cases ru with
      | tup h1 r1 =>
        have l1 := r1.length
        refine .inr (.inr ⟨_, _, _, rfl, rfl, SqT.of (hb.ex _ _ h1), fun e => ?_, hm.2.1, hm.2.2.1, by omega, frzT (z := .non) hb (r1.rep _) q⟩)
        subst e
        cases r1
        exact hm.1 rfl
    · cases h
  · cases h
theorem pd_mul (ha : PE X a (lE mg W A)) (hb : PE X b (lE mg W B)) : PE X (.BinOp a .Mult b pos) (lE mg W (eBin fMul A B)) := pd_bin op_mulA opd_mul ha hb
def divOk (j : Int) : Prop := j ≠ 0 ∧ j.natAbs.log2 < 9000
instance (j : Int) : Decidable (divOk j) := by unfold divOk; infer_instance
def fDiv : Wl → D → D → Option D := fun _ x y => match x, y with
  | .int i, .int j => if divOk j then some (.int (i.fdiv j)) else none
  | _, _ => none
theorem op_divA : OpR X (binaryOp .FloorDiv) (rI (fun _ j => divOk j) fun i j => .int (i.fdiv j)) := opI fun i j _ _ _ _ _ hc q => floordiv_int hc.1 q (.inl (PyProof.noPylong_of_log2 hc.2))
theorem pd_div (ha : PE X a (lE mg W A)) (hb : PE X b (lE mg W B)) : PE X (.BinOp a .FloorDiv b pos) (lE mg W (eBin fDiv A B)) := pd_bin op_divA (fun wa Hf H w x y u v z Q hb ru rv h q => by
  unfold fDiv at h
  split at h
  · split at h
    · rename_i hm
      cases h
      cases ru
      cases rv
      exact ⟨_, _, rfl, rfl, hm, q _ _ Go.refl hb _ (.int _)⟩
    · cases h
  · cases h) ha hb
def fMod : Wl → D → D → Option D := fun _ x y => match x, y with
  | .int i, .int j => if j ≠ 0 then some (.int (i.fmod j)) else none
  | _, _ => none
theorem pd_mod (ha : PE X a (lE mg W A)) (hb : PE X b (lE mg W B)) : PE X (.BinOp a .Mod b pos) (lE mg W (eBin fMod A B)) := pd_bin op_modN (fun wa Hf H w x y u v z Q hb ru rv h q => by
  unfold fMod at h
  split at h
  · split at h
    · rename_i hm
      cases h
      cases ru
      cases rv
      exact ⟨_, _, rfl, rfl, hm, q _ _ Go.refl hb _ (.int _)⟩
    · cases h
  · cases h) ha hb
def fPow : Wl → D → D → Option D := fun _ x y => match x, y with
  | .int i, .int j => if 0 ≤ j ∧ j ≤ 1000000 ∧ i.natAbs < 18446744073709551616 then some (.int (i ^ j.toNat)) else none
  | _, _ => none
theorem pd_pow (ha : PE X a (lE mg W A)) (hb : PE X b (lE mg W B)) : PE X (.BinOp a .Pow b pos) (lE mg W (eBin fPow A B)) := pd_bin op_pow (fun wa Hf H w x y u v z Q hb ru rv h q => by
  unfold fPow at h
  split at h
  · split at h
    · rename_i hm
      cases h
      cases ru
      cases rv
      exact ⟨_, _, rfl, rfl, ⟨hm.1, hm.2.1, hm.2.2⟩, q _ _ Go.refl hb _ (.int _)⟩
    · cases h
  · cases h) ha hb
def fNeg : Wl → D → Option D := fun _ x => match x with
  | .int i => some (.int (-i))
  | _ => none
theorem pd_neg (ha : PE X a (lE mg W A)) : PE X (.UnaryOp .USub a pos) (lE mg W (eUn fNeg A)) := pd_un un_neg (fun wa Hf H w x u z Q hb ru h q => by
  unfold fNeg at h
  split at h
  · cases h
    cases ru
    exact ⟨_, rfl, q _ _ Go.refl hb _ (.int _)⟩
  · cases h) ha

/-! ### comparisons -/
def fCmp (p : Int → Int → Bool) : Wl → D → D → Option D := fun _ x y => match x, y with
  | .int i, .int j => some (.bl (p i j))
  | _, _ => none
theorem opd_cmp {p : Int → Int → Bool} : OpD (rI0 fun i j => .bl (p i j)) (fCmp p) := by
  intro wa Hf H w x y u v z Q hb ru rv h q
  unfold fCmp at h
  split at h
  · cases h
    cases ru
    cases rv
    exact ⟨_, _, rfl, rfl, q _ _ Go.refl hb _ (.bl _)⟩
  · cases h
abbrev fLt := fCmp fun i j => decide (i < j)
abbrev fLe := fCmp fun i j => decide (i ≤ j)
abbrev fGt := fCmp fun i j => decide (j < i)
abbrev fGe := fCmp fun i j => decide (j ≤ i)
/-- a comparison, by its operator's rule -/
theorem pd_cmp {op : CmpOp} (ho : OpR X (compareOp op) r) (hf : OpD r f) (ha : PE X a (lE mg W A)) (hb : PE X b (lE mg W B)) (hm : behindInMarks op b = false) : PE X (.Compare a [op] [b] pos) (lE mg W (eBin f A B)) := weakE (pe_cmpR ho ha hb hm) fun _ _ _ q => bin_ok hf q
theorem pd_lt (ha : PE X a (lE mg W A)) (hb : PE X b (lE mg W B)) : PE X (.Compare a [.Lt] [b] pos) (lE mg W (eBin fLt A B)) := pd_cmp op_lt opd_cmp ha hb (nomark _)
theorem pd_le (ha : PE X a (lE mg W A)) (hb : PE X b (lE mg W B)) : PE X (.Compare a [.LtE] [b] pos) (lE mg W (eBin fLe A B)) := pd_cmp op_le opd_cmp ha hb (nomark _)
theorem pd_gt (ha : PE X a (lE mg W A)) (hb : PE X b (lE mg W B)) : PE X (.Compare a [.Gt] [b] pos) (lE mg W (eBin fGt A B)) := pd_cmp op_gt opd_cmp ha hb (nomark _)
theorem pd_ge (ha : PE X a (lE mg W A)) (hb : PE X b (lE mg W B)) : PE X (.Compare a [.GtE] [b] pos) (lE mg W (eBin fGe A B)) := pd_cmp op_ge opd_cmp ha hb (nomark _)
mutual
def toPD : D → PyData
  | .non => .none
  | .bl b => .bool b
  | .int i => .int i
  | .str x => .str x
  | .lst xs => .list (toPDs xs)
  | .tup xs => .tuple (toPDs xs)
  | _ => .dict []
def toPDs : List D → List PyData
  | [] => []
  | x :: xs => toPD x :: toPDs xs
end
section
variable {K : PySem.W.Frag} {wa : Addr} {Hf : Hp} {w : Wl}
mutual
theorem Rep.dp (hb : Base wa Hf H w) : ∀ {v : V} {d : D}, Rep wa Hf v d → (toPD d).canLay0 = true → Dp K H v (toPD d)
  | _, _, .non, _ => .non
  | _, _, .bl b, _ => .bl b
  | _, _, .int b, _ => .int b
  | _, _, .str b, _ => .str b
  | _, _, .lst h r, c => .lst (SqL.of (hb.ex _ _ h)) (Reps.dp hb r (by simpa [toPD, PyData.canLay0] using c))
  | _, _, .tup h r, c => .tup (SqT.of (hb.ex _ _ h)) (Reps.dp hb r (by simpa [toPD, PyData.canLay0] using c))
  | _, _, .well, c => by simp [toPD, PyData.canLay0] at c
  | _, _, .ref a, c => by simp [toPD, PyData.canLay0] at c
  | _, _, .ty a, c => by simp [toPD, PyData.canLay0] at c
theorem Reps.dp (hb : Base wa Hf H w) : ∀ {vs : List V} {ds : List D}, Reps wa Hf vs ds → PyData.canLayAll0 (toPDs ds) = true → DpAll K H vs (toPDs ds)
  | _, _, .nil, _ => .nil
  | _, d :: ds, .cons h r, c => by
    have c' : (toPD d).canLay0 = true ∧ PyData.canLayAll0 (toPDs ds) = true := by simpa [toPDs, PyData.canLayAll0] using c
    exact .cons (Rep.dp hb h c'.1) (Reps.dp hb r c'.2)
end
theorem shaped_lay {d : PyData} (h : SeqAt.shaped d = true) : d.canLay0 = true := by
  unfold SeqAt.shaped at h
  rw [Bool.and_eq_true] at h
  exact h.1
end
def okD (x : D) : Bool := SeqAt.shaped (toPD x)
def eqD (x y : D) : Bool := PyData.eqv (toPD x) (toPD y)
def fEq : Wl → D → D → Option D := fun _ x y => if okD x && okD y then some (.bl (eqD x y)) else none
def fNe : Wl → D → D → Option D := fun _ x y => if okD x && okD y then some (.bl (!eqD x y)) else none
theorem opd_eq {K : PySem.W.Frag} : OpD (rEqD K) fEq := by
  intro wa Hf H w x y u v z Q hb ru rv h q
  unfold fEq at h
  split at h
  · rename_i hc
    rw [Bool.and_eq_true] at hc
    cases h
    exact ⟨_, _, ru.dp hb (shaped_lay hc.1), rv.dp hb (shaped_lay hc.2), hc.1, hc.2, q _ _ Go.refl hb _ (.bl _)⟩
  · cases h
theorem opd_ne {K : PySem.W.Frag} : OpD (rNeD K) fNe := by
  intro wa Hf H w x y u v z Q hb ru rv h q
  unfold fNe at h
  split at h
  · rename_i hc
    rw [Bool.and_eq_true] at hc
    cases h
    exact ⟨_, _, ru.dp hb (shaped_lay hc.1), rv.dp hb (shaped_lay hc.2), hc.1, hc.2, q _ _ Go.refl hb _ (.bl _)⟩
  · cases h
theorem pd_eq (hu : X.A.units + 64 < cLine) (ha : PE X a (lE mg W A)) (hb : PE X b (lE mg W B)) : PE X (.Compare a [.Eq] [b] pos) (lE mg W (eBin fEq A B)) := pd_cmp (op_eqD hu) opd_eq ha hb (nomark _)
theorem pd_ne (hu : X.A.units + 64 < cLine) (ha : PE X a (lE mg W A)) (hb : PE X b (lE mg W B)) : PE X (.Compare a [.NotEq] [b] pos) (lE mg W (eBin fNe A B)) := pd_cmp (op_neD hu) opd_ne ha hb (nomark _)
def fIsN : Wl → D → D → Option D := fun _ x y => match x, y with
  | .non, .non => some (.bl true)
  | .well, .non | .ref _, .non | .ty _, .non | .bl _, .non | .int _, .non | .str _, .non | .lst _, .non | .tup _, .non => some (.bl false)
  | _, _ => none
def fNotN : Wl → D → D → Option D := fun w x y => match fIsN w x y with
  | some (.bl k) => some (.bl (!k))
  | _ => none
theorem isN_of {wa : Addr} {Hf : Hp} {w : Wl} {x y z : D} {u v : V} (ru : Rep wa Hf u x) (rv : Rep wa Hf v y) (h : fIsN w x y = some z) : v = .non ∧ z = .bl (decide (u = .non)) := by
  unfold fIsN at h
  split at h <;> first
    | (cases h; cases ru; cases rv; exact ⟨rfl, rfl⟩)
    | cases h
theorem pd_isN (ha : PE X a (lE mg W A)) (hb : PE X b (lE mg W B)) : PE X (.Compare a [.Is] [b] pos) (lE mg W (eBin fIsN A B)) := pd_cmp op_isN (fun wa Hf H w x y u v z Q hb ru rv h q => by
  obtain ⟨e1, e2⟩ := isN_of ru rv h
  subst e2
  exact ⟨e1, q _ _ Go.refl hb _ (.bl _)⟩) ha hb (nomark _)
theorem pd_notN (ha : PE X a (lE mg W A)) (hb : PE X b (lE mg W B)) : PE X (.Compare a [.IsNot] [b] pos) (lE mg W (eBin fNotN A B)) := pd_cmp op_notN (fun wa Hf H w x y u v z Q hb ru rv h q => by
  unfold fNotN at h
  split at h
  · rename_i k hk
    cases h
    obtain ⟨e1, e2⟩ := isN_of ru rv hk
    cases e2
    exact ⟨e1, q _ _ Go.refl hb _ (.bl _)⟩
  · cases h) ha hb (nomark _)
/-- a op1 b op2 c -/
def eChain (f g : Wl → D → D → Option D) (A B C : DE) : DE := fun s w => (A s w).bind fun x w1 => (B s w1).bind fun y w2 => (opt (f w2 x y) w2).bind fun z w3 => match z with
  | .bl true => (C s w3).bind fun u w4 => opt (g w4 y u) w4
  | .bl false => .ok (.bl false) w3
  | _ => .no
theorem chain_ok {Q : VK} (hf : OpD r f) (hg : OpD r' g) (h : lE mg W (eChain f g A B C) σ H Q) : tChain r r' (lE mg W A) (lE mg W B) (lE mg W C) σ H Q := by
  obtain ⟨wa, Hf, sD, w, hb, hs, h⟩ := h
  refine ⟨wa, Hf, sD, w, hb, hs, h.bind.mono (fun x w1 H1 Hf1 g1 b1 q v rv => ?_) (fun _ _ _ _ _ _ q => q)⟩
  refine ⟨wa, Hf1, sD, w1, b1, hs.go g1, q.bind.mono (fun y w2 H2 Hf2 g2 b2 q2 v2 rv2 => ?_) (fun _ _ _ _ _ _ q => q)⟩
  obtain ⟨z, e, q3⟩ := q2.bind.opt
  refine hf wa Hf2 H2 w2 x y v v2 z _ b2 (rv.mono g2.ex) rv2 e fun H3 Hf3 g3 b3 v3 r3 => ?_
  have q4 := q3 H3 Hf3 g3 b3
  split at q4
  · cases r3
    refine ⟨true, rfl, iteT ?_⟩
    refine ⟨wa, Hf3, sD, _, b3, (hs.go g1).go (g2.trans g3), q4.bind.mono (fun u w4 H4 Hf4 g4 b4 q5 v4 r4 => ?_) (fun _ _ _ _ _ _ q => q)⟩
    obtain ⟨z2, e2, q6⟩ := q5.opt
    exact hg wa Hf4 H4 _ _ _ v2 v4 z2 Q b4 (rv2.mono (g3.trans g4).ex) r4 e2 q6
  · cases r3
    exact ⟨false, rfl, iteF (q4.here b3 _ (.bl false))⟩
  · exact q4.elim
theorem pd_chain {op op' : CmpOp} (ho : OpR X (compareOp op) r) (ho' : OpR X (compareOp op') r') (hf : OpD r f) (hg : OpD r' g) (ha : PE X a (lE mg W A)) (hb : PE X b (lE mg W B)) (hc : PE X c (lE mg W C))
    (hm : lastMarks [op, op'] [b, c] = false := by with_unfolding_all rfl) : PE X (.Compare a [op, op'] [b, c] pos) (lE mg W (eChain f g A B C)) := weakE (pe_chain ho ho' ha hb hc hm) fun _ _ _ q => chain_ok hf hg q

/-! ### and, or, not as values -/
def eAnd (A B : DE) : DE := fun s w => (A s w).bind fun x w1 => match x with
  | .bl true => B s w1
  | .bl false => .ok (.bl false) w1
  | _ => .no
def eOr (A B : DE) : DE := fun s w => (A s w).bind fun x w1 => match x with
  | .bl true => .ok (.bl true) w1
  | .bl false => B s w1
  | _ => .no
def eNot (A : DE) : DE := fun s w => (A s w).bind fun x w1 => match x with
  | .bl k => .ok (.bl (!k)) w1
  | _ => .no
variable {rest : List Expr}
theorem pd_one {op} (h : PE X a (lE mg W A)) : PE X (.BoolOp op [a] pos) (lE mg W A) := pe_one h
theorem pd_and (ha : PE X a (lE mg W A)) (hb : PE X (.BoolOp .And (b :: rest) pos) (lE mg W B)) : PE X (.BoolOp .And (a :: b :: rest) pos) (lE mg W (eAnd A B)) := weakE (pe_and ha hb) fun σ H Q h => by
  obtain ⟨wa, Hf, sD, w, hb, hs, h⟩ := h
  refine ⟨wa, Hf, sD, w, hb, hs, h.bind.mono (fun x w1 H1 Hf1 g1 b1 q v rv => ?_) (fun _ _ _ _ _ _ q => q)⟩
  split at q
  · cases rv
    exact ⟨true, rfl, iteT ⟨wa, Hf1, sD, w1, b1, hs.go g1, q⟩⟩
  · cases rv
    exact ⟨false, rfl, iteF (q.here b1 _ (.bl false))⟩
  · exact q.elim
theorem pd_or (ha : PE X a (lE mg W A)) (hb : PE X (.BoolOp .Or (b :: rest) pos) (lE mg W B)) : PE X (.BoolOp .Or (a :: b :: rest) pos) (lE mg W (eOr A B)) := weakE (pe_or ha hb) fun σ H Q h => by
  obtain ⟨wa, Hf, sD, w, hb, hs, h⟩ := h
  refine ⟨wa, Hf, sD, w, hb, hs, h.bind.mono (fun x w1 H1 Hf1 g1 b1 q v rv => ?_) (fun _ _ _ _ _ _ q => q)⟩
  split at q
  · cases rv
    exact ⟨true, rfl, iteT (q.here b1 _ (.bl true))⟩
  · cases rv
    exact ⟨false, rfl, iteF ⟨wa, Hf1, sD, w1, b1, hs.go g1, q⟩⟩
  · exact q.elim
theorem pd_not (ha : PE X a (lE mg W A)) : PE X (.UnaryOp .Not a pos) (lE mg W (eNot A)) := weakE (pe_not ha) fun σ H Q h => by
  obtain ⟨wa, Hf, sD, w, hb, hs, h⟩ := h
  refine ⟨wa, Hf, sD, w, hb, hs, h.bind.mono (fun x w1 H1 Hf1 g1 b1 q v rv => ?_) (fun _ _ _ _ _ _ q => q)⟩
  split at q
  · cases rv
    exact ⟨_, rfl, q.here b1 _ (.bl _)⟩
  · exact q.elim

/-! ### tests -/
def tE (A : DE) : DT := fun s w => (A s w).bind fun x w1 => match x with
  | .bl k => .ok k w1
  | _ => .no
def tAn (A B : DT) : DT := fun s w => (A s w).bind fun k w1 => if k then B s w1 else .ok false w1
def tOn (A B : DT) : DT := fun s w => (A s w).bind fun k w1 => if k then .ok true w1 else B s w1
def tNo (A : DT) : DT := fun s w => (A s w).bind fun k w1 => .ok (!k) w1
def truD : D → Option Bool
  | .non => some false
  | .bl b => some b
  | .int i => some (i != 0)
  | .str y => if y.length ≤ lim then some ((y.length : Int) != 0) else none
  | .lst xs => some (!xs.isEmpty)
  | .tup xs => some (!xs.isEmpty)
  | _ => none
def tTr (A : DE) : DT := fun s w => (A s w).bind fun x w1 => opt (truD x) w1
variable {S T : DT}
theorem tE_ok {Q : Bool → Hp → Prop} (h : lT mg W (tE A) σ H Q) : tTest (lE mg W A) σ H Q := by
  obtain ⟨wa, Hf, sD, w, hb, hs, h⟩ := h
  refine ⟨wa, Hf, sD, w, hb, hs, h.bind.mono (fun x w1 H1 Hf1 g1 b1 q v rv => ?_) (fun _ _ _ _ _ _ q => q)⟩
  split at q
  · cases rv
    exact ⟨_, rfl, q.here b1 _ rfl⟩
  · exact q.elim
/-- a comparison as a test -/
theorem qd_cmp {op : CmpOp} (ho : OpR X (compareOp op) r) (hf : OpD r f) (ha : PE X a (lE mg W A)) (hb : PE X b (lE mg W B)) (hm : behindInMarks op b = false) : PT X (.Compare a [op] [b] pos) (lT mg W (tE (eBin f A B))) := weakT (pt_cmpR ho ha hb hm) fun σ H Q h => by
  have q := tE_ok h
  exact bin_ok hf q
theorem qd_lt (ha : PE X a (lE mg W A)) (hb : PE X b (lE mg W B)) : PT X (.Compare a [.Lt] [b] pos) (lT mg W (tE (eBin fLt A B))) := qd_cmp op_lt opd_cmp ha hb (nomark _)
theorem qd_le (ha : PE X a (lE mg W A)) (hb : PE X b (lE mg W B)) : PT X (.Compare a [.LtE] [b] pos) (lT mg W (tE (eBin fLe A B))) := qd_cmp op_le opd_cmp ha hb (nomark _)
theorem qd_gt (ha : PE X a (lE mg W A)) (hb : PE X b (lE mg W B)) : PT X (.Compare a [.Gt] [b] pos) (lT mg W (tE (eBin fGt A B))) := qd_cmp op_gt opd_cmp ha hb (nomark _)
theorem qd_ge (ha : PE X a (lE mg W A)) (hb : PE X b (lE mg W B)) : PT X (.Compare a [.GtE] [b] pos) (lT mg W (tE (eBin fGe A B))) := qd_cmp op_ge opd_cmp ha hb (nomark _)
theorem qd_eq (hu : X.A.units + 64 < cLine) (ha : PE X a (lE mg W A)) (hb : PE X b (lE mg W B)) : PT X (.Compare a [.Eq] [b] pos) (lT mg W (tE (eBin fEq A B))) := qd_cmp (op_eqD hu) opd_eq ha hb (nomark _)
theorem qd_ne (hu : X.A.units + 64 < cLine) (ha : PE X a (lE mg W A)) (hb : PE X b (lE mg W B)) : PT X (.Compare a [.NotEq] [b] pos) (lT mg W (tE (eBin fNe A B))) := qd_cmp (op_neD hu) opd_ne ha hb (nomark _)
theorem qd_isN (ha : PE X a (lE mg W A)) (hb : PE X b (lE mg W B)) : PT X (.Compare a [.Is] [b] pos) (lT mg W (tE (eBin fIsN A B))) := qd_cmp op_isN (fun wa Hf H w x y u v z Q hb ru rv h q => by
  obtain ⟨e1, e2⟩ := isN_of ru rv h
  subst e2
  exact ⟨e1, q _ _ Go.refl hb _ (.bl _)⟩) ha hb (nomark _)
theorem qd_notN (ha : PE X a (lE mg W A)) (hb : PE X b (lE mg W B)) : PT X (.Compare a [.IsNot] [b] pos) (lT mg W (tE (eBin fNotN A B))) := qd_cmp op_notN (fun wa Hf H w x y u v z Q hb ru rv h q => by
  unfold fNotN at h
  split at h
  · rename_i k hk
    cases h
    obtain ⟨e1, e2⟩ := isN_of ru rv hk
    cases e2
    exact ⟨e1, q _ _ Go.refl hb _ (.bl _)⟩
  · cases h) ha hb (nomark _)
theorem qd_chain {op op' : CmpOp} (ho : OpR X (compareOp op) r) (ho' : OpR X (compareOp op') r') (hf : OpD r f) (hg : OpD r' g) (ha : PE X a (lE mg W A)) (hb : PE X b (lE mg W B)) (hc : PE X c (lE mg W C))
    (hm : lastMarks [op, op'] [b, c] = false := by with_unfolding_all rfl) : PT X (.Compare a [op, op'] [b, c] pos) (lT mg W (tE (eChain f g A B C))) := weakT (pt_chain ho ho' ha hb hc hm) fun σ H Q h => by
  have q := tE_ok h
  exact chain_ok hf hg q
/-- any other expression as a test: its truth -/
theorem qd_tr (ha : PE X a (lE mg W A)) (he : ∀ whole, isTrue a X.env whole = (do let v ← whole; standAt a.pos; holding [v] (truthy v)) := by intro _; rfl) : PT X a (lT mg W (tTr A)) := weakT (pt_truth ha he) fun σ H Q h => by
  obtain ⟨wa, Hf, sD, w, hb, hs, h⟩ := h
  refine ⟨wa, Hf, sD, w, hb, hs, h.bind.mono (fun x w1 H1 Hf1 g1 b1 q v rv => ?_) (fun _ _ _ _ _ _ q => q)⟩
  obtain ⟨z, e, q3⟩ := q.opt
  refine ⟨z, ?_, q3 _ _ Go.refl b1 _ rfl⟩
  unfold truD at e
  split at e
  · cases e; cases rv; rfl
  · cases e; cases rv; rfl
  · cases e; cases rv; rfl
  · split at e
    · rename_i hz
      cases e
      cases rv
      exact ⟨lim_le hz, rfl⟩
    · cases e
  · cases e
    cases rv with
    | lst h1 r1 =>
      refine .inl ⟨_, SqL.of (b1.ex _ _ h1), ?_⟩
      cases r1 <;> rfl
  · cases e
    cases rv with
    | tup h1 r1 =>
      refine .inr (.inl ⟨_, SqT.of (b1.ex _ _ h1), ?_⟩)
      cases r1 <;> rfl
  · cases e
theorem qd_and1 (ha : PT X a (lT mg W S)) : PW X (.BoolOp .And [a] pos) (lT mg W S) := pw_and1 ha
theorem qd_or1 (ha : PT X a (lT mg W S)) : PW X (.BoolOp .Or [a] pos) (lT mg W S) := pw_or1 ha
theorem qd_and (ha : PT X a (lT mg W S)) (hb : PW X (.BoolOp .And (b :: rest) pos) (lT mg W T)) : PW X (.BoolOp .And (a :: b :: rest) pos) (lT mg W (tAn S T)) := weakW (pw_and ha hb) fun σ H Q h => by
  obtain ⟨wa, Hf, sD, w, hb, hs, h⟩ := h
  refine ⟨wa, Hf, sD, w, hb, hs, h.bind.mono (fun x w1 H1 Hf1 g1 b1 q v rv => ?_) (fun _ _ _ _ _ _ q => q)⟩
  cases rv
  cases x with
  | true => exact iteT ⟨wa, Hf1, sD, w1, b1, hs.go g1, q⟩
  | false => exact iteF (q.here b1 _ rfl)
theorem qd_or (ha : PT X a (lT mg W S)) (hb : PW X (.BoolOp .Or (b :: rest) pos) (lT mg W T)) : PW X (.BoolOp .Or (a :: b :: rest) pos) (lT mg W (tOn S T)) := weakW (pw_or ha hb) fun σ H Q h => by
  obtain ⟨wa, Hf, sD, w, hb, hs, h⟩ := h
  refine ⟨wa, Hf, sD, w, hb, hs, h.bind.mono (fun x w1 H1 Hf1 g1 b1 q v rv => ?_) (fun _ _ _ _ _ _ q => q)⟩
  cases rv
  cases x with
  | true => exact iteT (q.here b1 _ rfl)
  | false => exact iteF ⟨wa, Hf1, sD, w1, b1, hs.go g1, q⟩
theorem qd_not (ha : PT X a (lT mg W S)) : PT X (.UnaryOp .Not a pos) (lT mg W (tNo S)) := weakT (pt_not ha) fun σ H Q h => by
  obtain ⟨wa, Hf, sD, w, hb, hs, h⟩ := h
  refine ⟨wa, Hf, sD, w, hb, hs, h.bind.mono (fun x w1 H1 Hf1 g1 b1 q v rv => ?_) (fun _ _ _ _ _ _ q => q)⟩
  cases rv
  exact q.here b1 _ rfl
/-- a if t else b -/
def eIf (T : DT) (A B : DE) : DE := fun s w => (T s w).bind fun k w1 => if k then A s w1 else B s w1
theorem pd_if (hc : PT X c (lT mg W T)) (ha : PE X a (lE mg W A)) (hb : PE X b (lE mg W B)) : PE X (.IfExp c a b pos) (lE mg W (eIf T A B)) := weakE (pe_ifExp hc ha hb) fun σ H Q h => by
  obtain ⟨wa, Hf, sD, w, hb, hs, h⟩ := h
  refine ⟨wa, Hf, sD, w, hb, hs, h.bind.mono (fun x w1 H1 Hf1 g1 b1 q v rv => ?_) (fun _ _ _ _ _ _ q => q)⟩
  cases rv
  cases x with
  | true => exact iteT ⟨wa, Hf1, sD, w1, b1, hs.go g1, q⟩
  | false => exact iteF ⟨wa, Hf1, sD, w1, b1, hs.go g1, q⟩

/-! ### argument lists, displays -/
def aNil : DA := fun _ w => .ok [] w
def aCons (A : DE) (As : DA) : DA := fun s w => (A s w).bind fun x w1 => (As s w1).bind fun xs w2 => .ok (x :: xs) w2
variable {As : DA} {es : List Expr}
theorem ad_nil : PA X [] (lA mg W aNil) := weakA pa_nil fun σ H Q h => by
  obtain ⟨wa, Hf, sD, w, hb, hs, h⟩ := h
  exact h.here hb _ .nil
theorem ad_cons (ha : PE X a (lE mg W A)) (hr : PA X es (lA mg W As)) (hs : starEach (a :: es) X.env = (false, eval a X.env) :: starEach es X.env := by rfl) : PA X (a :: es) (lA mg W (aCons A As)) := weakA (pa_cons ha hr hs) fun σ H Q h => by
  obtain ⟨wa, Hf, sD, w, hb, hs, h⟩ := h
  refine ⟨wa, Hf, sD, w, hb, hs, h.bind.mono (fun x w1 H1 Hf1 g1 b1 q v rv => ?_) (fun _ _ _ _ _ _ q => q)⟩
  refine ⟨wa, Hf1, sD, w1, b1, hs.go g1, q.bind.mono (fun y w2 H2 Hf2 g2 b2 q2 v2 rv2 => ?_) (fun _ _ _ _ _ _ q => q)⟩
  exact q2.here b2 _ (.cons (rv.mono g2.ex) rv2)
def eTup (As : DA) : DE := fun s w => (As s w).bind fun xs w1 => if xs.length ≤ lim then .ok (.tup xs) w1 else .no
def aLst (As : DA) : DA := fun s w => (As s w).bind fun xs w1 => if xs.length ≤ lim then .ok xs w1 else .no
theorem pd_tup {k} (ha : PA X es (lA mg W As)) : PE X (.Tuple es k pos) (lE mg W (eTup As)) := weakE (pe_tup ha) fun σ H Q h => by
  obtain ⟨wa, Hf, sD, w, hb, hs, h⟩ := h
  refine ⟨wa, Hf, sD, w, hb, hs, h.bind.mono (fun x w1 H1 Hf1 g1 b1 q v rv => ?_) (fun _ _ _ _ _ _ q => q)⟩
  split at q
  · rename_i hz
    refine ⟨by rw [rv.length]; exact lim_le hz, fun p hp => ?_⟩
    exact q _ _ (Go.newF b1.ex hp) (b1.newF hp) _ (.tup upd_same (rv.mono (Ex.new (Evl.fresh_back b1.ex hp))))
  · exact q.elim
theorem pl_lst (ha : PA X es (lA mg W As)) : PE X (.List es pos) (lfL mg W (aLst As)) := weakE (pe_lst ha) fun σ H Q h => by
  obtain ⟨wa, Hf, sD, w, hb, hs, h⟩ := h
  refine ⟨wa, Hf, sD, w, hb, hs, h.bind.mono (fun x w1 H1 Hf1 g1 b1 q v rv => ?_) (fun _ _ _ _ _ _ q => q)⟩
  split at q
  · rename_i hz
    refine ⟨by rw [rv.length]; exact lim_le hz, fun p hp => ?_⟩
    exact q _ _ (Go.new1 hp) (b1.new1 hp) p v (g1.free hp) upd_same (Evl.fresh_back b1.ex hp) (fun z => by rw [z, b1.well] at hp; cases hp) rv
  · exact q.elim

/-! ### subscripts -/
def atD (w : Wl) (x : D) (i : Int) : Option D := match x with
  | .lst xs => atI xs i
  | .tup xs => atI xs i
  | .well => atI [.int w.1, .int w.2.1, .int w.2.2] i
  | _ => none
def fIx : Wl → D → D → Option D := fun w x y => match y with
  | .int i => atD w x i
  | _ => none
theorem atI_rep {wa : Addr} {Hf : Hp} {vs : List V} {ds : List D} {i : Int} {d : D} (r : Reps wa Hf vs ds) (h : atI ds i = some d) : ∃ v, atI vs i = some v ∧ Rep wa Hf v d := by
  unfold atI at h ⊢
  rw [r.length]
  cases e : ixN ds.length i with
  | none => rw [e] at h; cases h
  | some j =>
    rw [e] at h
    exact r.get h
theorem opd_ix {K : PySem.W.Frag} : OpD (rIx K) fIx := by
  intro wa Hf H w x y u v z Q hb ru rv h q
  unfold fIx at h
  split at h
  · cases rv
    unfold atD at h
    split at h
    · cases ru with
      | lst h1 r1 =>
        obtain ⟨v', e, r'⟩ := atI_rep r1 h
        exact .inl ⟨_, _, _, _, rfl, rfl, SqL.of (hb.ex _ _ h1), e, q _ _ Go.refl hb _ r'⟩
    · cases ru with
      | tup h1 r1 =>
        obtain ⟨v', e, r'⟩ := atI_rep r1 h
        exact .inr (.inl ⟨_, _, _, _, rfl, rfl, SqT.of (hb.ex _ _ h1), e, q _ _ Go.refl hb _ r'⟩)
    · cases ru
      obtain ⟨v', e, r'⟩ := atI_rep (wa := wa) (Hf := Hf) (vs := wl w) (.cons (.int _) (.cons (.int _) (.cons (.int _) .nil))) h
      exact .inl ⟨_, _, _, _, rfl, rfl, SqL.of hb.well, e, q _ _ Go.refl hb _ r'⟩
    · cases h
  · cases h
theorem pd_ix (ha : PE X a (lE mg W A)) (hb : PE X b (lE mg W B)) (hs : PlainIx b := by exact fun _ _ => rfl) : PE X (.Subscript a b pos) (lE mg W (eBin fIx A B)) := weakE (pe_ix ix_seq ha hb hs) fun _ _ _ q => bin_ok opd_ix q
/-- a part of a slice -/
def oNone : Sl → Wl → R (Option Int) := fun _ w => .ok none w
def oSome (A : DE) : Sl → Wl → R (Option Int) := fun s w => (A s w).bind fun x w1 => match x with
  | .int i => .ok (some i) w1
  | _ => .no
theorem od_none : PO X none (lO mg W oNone) := weakO po_none fun σ H Q h => by
  obtain ⟨wa, Hf, sD, w, hb, hs, h⟩ := h
  exact h.here hb _ rfl
theorem od_some (ha : PE X a (lE mg W A)) : PO X (some a) (lO mg W (oSome A)) := weakO (po_some ha) fun σ H Q h => by
  obtain ⟨wa, Hf, sD, w, hb, hs, h⟩ := h
  refine ⟨wa, Hf, sD, w, hb, hs, h.bind.mono (fun x w1 H1 Hf1 g1 b1 q v rv => ?_) (fun _ _ _ _ _ _ q => q)⟩
  split at q
  · cases rv
    exact ⟨_, rfl, q.here b1 _ rfl⟩
  · exact q.elim
def cutD {α : Type} (xs : List α) (lo hi : Option Int) : List α := (xs.drop (HT.sIx xs.length 0 lo)).take (HT.sIx xs.length xs.length hi - HT.sIx xs.length 0 lo)
theorem cut_rep {wa : Addr} {Hf : Hp} {vs : List V} {ds : List D} {lo hi : Option Int} (r : Reps wa Hf vs ds) : Reps wa Hf (cutV vs lo hi) (cutD ds lo hi) := by
  unfold cutV cutD
  rw [r.length]
  exact (r.drop _).take _
theorem cutD_whole {α : Type} {xs : List α} {lo hi : Option Int} (h : HT.sIx xs.length 0 lo = 0 ∧ HT.sIx xs.length xs.length hi = xs.length) : cutD xs lo hi = xs := by
  unfold cutD
  rw [h.1, h.2]
  simp
def eSl (A : DE) (L M : Sl → Wl → R (Option Int)) : DE := fun s w => (A s w).bind fun x w1 => (L s w1).bind fun l w2 => (M s w2).bind fun m w3 => match x with
  | .lst xs => .ok (.lst (cutD xs l m)) w3
  | .tup xs => .ok (.tup (cutD xs l m)) w3
  | _ => .no
theorem pd_sl {lo hi : Option Expr} {p2 : Pos} {L M : Sl → Wl → R (Option Int)} (ha : PE X a (lE mg W A)) (hl : PO X lo (lO mg W L)) (hm : PO X hi (lO mg W M)) : PE X (.Subscript a (.Slice lo hi none p2) pos) (lE mg W (eSl A L M)) :=
  weakE (pe_slice (sl_list.or sl_tupA) ha hl hm) fun σ H Q h => by
  obtain ⟨wa, Hf, sD, w, hb, hs, h⟩ := h
  refine ⟨wa, Hf, sD, w, hb, hs, h.bind.mono (fun x w1 H1 Hf1 g1 b1 q v rv => ?_) (fun _ _ _ _ _ _ q => q)⟩
  refine ⟨wa, Hf1, sD, w1, b1, hs.go g1, q.bind.mono (fun y w2 H2 Hf2 g2 b2 q2 v2 rv2 => ?_) (fun _ _ _ _ _ _ q => q)⟩
  refine ⟨wa, Hf2, sD, w2, b2, (hs.go g1).go g2, q2.bind.mono (fun z w3 H3 Hf3 g3 b3 q3 v3 rv3 => ?_) (fun _ _ _ _ _ _ q => q)⟩
  cases rv2
  cases rv3
  split at q3
  · cases rv with
    | lst h1 r1 =>
      refine .inl ⟨_, _, rfl, SqL.of (b3.ex _ _ (g3.ex _ _ (g2.ex _ _ h1))), ?_⟩
      exact frzL (z := .non) b3 (cut_rep ((r1.mono g2.ex).mono g3.ex)) q3
  · cases rv with
    | tup h1 r1 =>
      have h3 := g3.ex _ _ (g2.ex _ _ h1)
      have r3 := (r1.mono g2.ex).mono g3.ex
      refine .inr ⟨_, _, rfl, SqT.of (b3.ex _ _ h3), fun hw => ?_, fun _ => frzT (z := .non) b3 (cut_rep r3) q3⟩
      rw [r3.length] at hw
      refine q3 _ _ Go.refl b3 _ ?_
      rw [cutD_whole hw]
      exact .tup h3 r3
  · exact q3.elim

/-! ### calls of built-ins by values -/
theorem pd_cb {x : Str} {id : String} {r : List V → Hp → VK → Prop} {f : Wl → List D → Option D} {p : Pos} (hc : CallR X (.builtin id) r) (hf : CaD r f) (hg : Gl X x) (hm : X.mg x = none) (hv : bootBuiltins x = some (.builtin id)) (ha : PA X (a :: es) (lA mg W As)) (hn : x ≠ "__name__" := by decide) (hdb : (x == ("__debug__" : Str)) = false := by decide)
    (he : starEach (a :: es) X.env = (false, eval a X.env) :: starEach es X.env := by rfl) (hpl : (backTo pos (starEach es X.env)).any (·.1) = false := by rfl) : PE X (.Call (.Name x p) (a :: es) [] pos) (lE mg W (eCB f As)) :=
  weakE (pe_callB hc hg hm hv ha hn hdb he hpl) fun _ _ _ q => cb_ok hf q
theorem pd_ct {x : Str} {id : String} {r : List V → Hp → VK → Prop} {f : Wl → List D → Option D} {p : Pos} (hc : CallR X (.type id) r) (hf : CaD r f) (hg : Gl X x) (hm : X.mg x = none) (hv : bootBuiltins x = some (.type id)) (ha : PA X (a :: es) (lA mg W As)) (hn : x ≠ "__name__" := by decide) (hdb : (x == ("__debug__" : Str)) = false := by decide)
    (he : starEach (a :: es) X.env = (false, eval a X.env) :: starEach es X.env := by rfl) (hpl : (backTo pos (starEach es X.env)).any (·.1) = false := by rfl) : PE X (.Call (.Name x p) (a :: es) [] pos) (lE mg W (eCB f As)) :=
  weakE (pe_callTy hc hg hm hv ha hn hdb he hpl) fun _ _ _ q => cb_ok hf q
theorem pl_ct {x : Str} {id : String} {r : List V → Hp → VK → Prop} {f : Wl → List D → Option (List D)} {p : Pos} (hc : CallR X (.type id) r) (hf : CaL r f) (hg : Gl X x) (hm : X.mg x = none) (hv : bootBuiltins x = some (.type id)) (ha : PA X (a :: es) (lA mg W As)) (hn : x ≠ "__name__" := by decide) (hdb : (x == ("__debug__" : Str)) = false := by decide)
    (he : starEach (a :: es) X.env = (false, eval a X.env) :: starEach es X.env := by rfl) (hpl : (backTo pos (starEach es X.env)).any (·.1) = false := by rfl) : PE X (.Call (.Name x p) (a :: es) [] pos) (lfL mg W (eCBL f As)) :=
  weakE (pe_callTy hc hg hm hv ha hn hdb he hpl) fun _ _ _ q => cbL_ok hf q
end
end DL

set_option maxHeartbeats 2000000
namespace DL
open PySem PySem.Spec PyProof.Rows L2
variable [TabT]
open Evl (Ex)
/-! ### built-ins by values -/
def ints? : List D → Option (List Int)
  | [] => some []
  | .int i :: r => (ints? r).map (i :: ·)
  | _ => none
def bls? : List D → Option (List Bool)
  | [] => some []
  | .bl i :: r => (bls? r).map (i :: ·)
  | _ => none
@[simp] theorem ints?_map : ∀ ns : List Int, ints? (ns.map .int) = some ns
  | [] => rfl
  | n :: r => by simp [ints?, ints?_map r]
@[simp] theorem bls?_map : ∀ ns : List Bool, bls? (ns.map .bl) = some ns
  | [] => rfl
  | n :: r => by simp [bls?, bls?_map r]
theorem ints?_some : ∀ {ds : List D} {ns : List Int}, ints? ds = some ns → ds = ns.map .int
  | [], ns, h => by cases h; rfl
  | .int i :: r, ns, h => by
    unfold ints? at h
    cases e : ints? r with
    | none => rw [e] at h; cases h
    | some ms =>
      rw [e] at h
      cases h
      rw [ints?_some e]
      rfl
  | .non :: _, _, h | .bl _ :: _, _, h | .str _ :: _, _, h | .lst _ :: _, _, h | .tup _ :: _, _, h | .own _ :: _, _, h | .dct _ _ :: _, _, h | .well :: _, _, h | .ref _ :: _, _, h | .ty _ :: _, _, h => by cases h
theorem bls?_some : ∀ {ds : List D} {ns : List Bool}, bls? ds = some ns → ds = ns.map .bl
  | [], ns, h => by cases h; rfl
  | .bl i :: r, ns, h => by
    unfold bls? at h
    cases e : bls? r with
    | none => rw [e] at h; cases h
    | some ms =>
      rw [e] at h
      cases h
      rw [bls?_some e]
      rfl
  | .non :: _, _, h | .int _ :: _, _, h | .str _ :: _, _, h | .lst _ :: _, _, h | .tup _ :: _, _, h | .own _ :: _, _, h | .dct _ _ :: _, _, h | .well :: _, _, h | .ref _ :: _, _, h | .ty _ :: _, _, h => by cases h
section
variable {X : Cx} {H : Hp}
def fLen : Wl → List D → Option D := fun _ ds => match ds with
  | [.lst xs] => some (.int xs.length)
  | [.tup xs] => some (.int xs.length)
  | [.str x] => if x.length ≤ lim then some (.int x.length) else none
  | _ => none
theorem cd_len {K : PySem.W.Frag} : CaD (fun xs H Q => ∃ x n, xs = [x] ∧ LenV K x H n ∧ Q (.int n) H) fLen := by
  intro wa Hf H w ds us z Q hb rs h q
  unfold fLen at h
  split at h
  · cases h
    cases rs with
    | cons r1 r2 =>
      cases r2
      cases r1 with
      | lst h1 r1 => exact ⟨_, _, rfl, .inl ⟨_, SqL.of (hb.ex _ _ h1), rfl⟩, by rw [r1.length]; exact q _ _ Go.refl hb _ (.int _)⟩
  · cases h
    cases rs with
    | cons r1 r2 =>
      cases r2
      cases r1 with
      | tup h1 r1 => exact ⟨_, _, rfl, .inr ⟨_, SqT.of (hb.ex _ _ h1), rfl⟩, by rw [r1.length]; exact q _ _ Go.refl hb _ (.int _)⟩
  · split at h
    · rename_i hz
      cases h
      cases rs with
      | cons r1 r2 =>
        cases r2
        cases r1
        exact ⟨_, _, rfl, ⟨lim_le hz, rfl⟩, q _ _ Go.refl hb _ (.int _)⟩
    · cases h
  · cases h
def fMax2 : Wl → List D → Option D := fun _ ds => match ds with
  | [.int i, .int j] => some (.int (if j > i then j else i))
  | _ => none
def fMin2 : Wl → List D → Option D := fun _ ds => match ds with
  | [.int i, .int j] => some (.int (if j < i then j else i))
  | _ => none
theorem cd_max2 : CaD (fun xs H Q => ∃ i j, xs = [.int i, .int j] ∧ Q (.int (if j > i then j else i)) H) fMax2 := by
  intro wa Hf H w ds us z Q hb rs h q
  unfold fMax2 at h
  split at h
  · cases h
    cases rs with
    | cons r1 r2 =>
      cases r1
      cases r2 with
      | cons r1 r2 =>
        cases r1
        cases r2
        exact ⟨_, _, rfl, q _ _ Go.refl hb _ (.int _)⟩
  · cases h
theorem cd_min2 : CaD (fun xs H Q => ∃ i j, xs = [.int i, .int j] ∧ Q (.int (if j < i then j else i)) H) fMin2 := by
  intro wa Hf H w ds us z Q hb rs h q
  unfold fMin2 at h
  split at h
  · cases h
    cases rs with
    | cons r1 r2 =>
      cases r1
      cases r2 with
      | cons r1 r2 =>
        cases r1
        cases r2
        exact ⟨_, _, rfl, q _ _ Go.refl hb _ (.int _)⟩
  · cases h
def fAbs : Wl → List D → Option D := fun _ ds => match ds with
  | [.int i] => some (.int (if i < 0 then -i else i))
  | _ => none
theorem cd_abs : CaD (fun xs H Q => ∃ i, xs = [.int i] ∧ Q (.int (if i < 0 then -i else i)) H) fAbs := by
  intro wa Hf H w ds us z Q hb rs h q
  unfold fAbs at h
  split at h
  · cases h
    cases rs with
    | cons r1 r2 =>
      cases r1
      cases r2
      exact ⟨_, rfl, q _ _ Go.refl hb _ (.int _)⟩
  · cases h
def fInt : Wl → List D → Option D := fun _ ds => match ds with
  | [.int i] => some (.int i)
  | [.bl k] => some (.int (if k then 1 else 0))
  | _ => none
theorem cd_int : CaD (fun xs H Q => (∃ i, xs = [.int i] ∧ Q (.int i) H) ∨ ∃ k, xs = [.bl k] ∧ Q (.int (if k then 1 else 0)) H) fInt := by
  intro wa Hf H w ds us z Q hb rs h q
  unfold fInt at h
  split at h
  · cases h
    cases rs with
    | cons r1 r2 =>
      cases r1
      cases r2
      exact .inl ⟨_, rfl, q _ _ Go.refl hb _ (.int _)⟩
  · cases h
    cases rs with
    | cons r1 r2 =>
      cases r1
      cases r2
      exact .inr ⟨_, rfl, q _ _ Go.refl hb _ (.int _)⟩
  · cases h
def fSum : Wl → List D → Option D := fun _ ds => match ds with
  | [.lst xs] => (ints? xs).map fun ns => .int ns.sum
  | _ => none
theorem one_lst {wa : Addr} {Hf : Hp} {us : List V} {xs : List D} (r : Reps wa Hf us [.lst xs]) : ∃ a vs, us = [.ref a] ∧ Hf a = some (.lst vs) ∧ Reps wa Hf vs xs := by
  cases r with
  | cons r1 r2 =>
    cases r2
    cases r1 with
    | lst h1 r1 => exact ⟨_, _, rfl, h1, r1⟩
theorem cd_sum {K : PySem.W.Frag} : CaD (rSum K) fSum := by
  intro wa Hf H w ds us z Q hb rs h q
  unfold fSum at h
  split at h
  · rename_i xs
    cases e : ints? xs with
    | none => rw [e] at h; cases h
    | some ns =>
      rw [e] at h
      cases h
      obtain ⟨a, vs, rfl, h1, r1⟩ := one_lst rs
      rw [ints?_some e] at r1
      have e2 := r1.ints
      subst e2
      exact ⟨a, ns, rfl, SqL.of (hb.ex _ _ h1), q _ _ Go.refl hb _ (.int _)⟩
  · cases h
def fAll : Wl → List D → Option D := fun _ ds => match ds with
  | [.lst xs] => (bls? xs).map fun ns => .bl (ns.all id)
  | _ => none
def fAny : Wl → List D → Option D := fun _ ds => match ds with
  | [.lst xs] => (bls? xs).map fun ns => .bl (ns.any id)
  | _ => none
theorem cd_all {K : PySem.W.Frag} : CaD (rAll K) fAll := by
  intro wa Hf H w ds us z Q hb rs h q
  unfold fAll at h
  split at h
  · rename_i xs
    cases e : bls? xs with
    | none => rw [e] at h; cases h
    | some ns =>
      rw [e] at h
      cases h
      obtain ⟨a, vs, rfl, h1, r1⟩ := one_lst rs
      rw [bls?_some e] at r1
      have e2 := r1.bls
      subst e2
      exact ⟨a, ns, rfl, SqL.of (hb.ex _ _ h1), q _ _ Go.refl hb _ (.bl _)⟩
  · cases h
theorem cd_any {K : PySem.W.Frag} : CaD (rAny K) fAny := by
  intro wa Hf H w ds us z Q hb rs h q
  unfold fAny at h
  split at h
  · rename_i xs
    cases e : bls? xs with
    | none => rw [e] at h; cases h
    | some ns =>
      rw [e] at h
      cases h
      obtain ⟨a, vs, rfl, h1, r1⟩ := one_lst rs
      rw [bls?_some e] at r1
      have e2 := r1.bls
      subst e2
      exact ⟨a, ns, rfl, SqL.of (hb.ex _ _ h1), q _ _ Go.refl hb _ (.bl _)⟩
  · cases h
def fTuple : Wl → List D → Option D := fun _ ds => match ds with
  | [.lst xs] => some (.tup xs)
  | [.tup xs] => some (.tup xs)
  | _ => none
theorem cd_tuple {K : PySem.W.Frag} : CaD (fun xs H Q => ∃ p ys, xs = [.ref p] ∧ ((SqL K H p ys ∧ ∀ l, H l = none → Q (.ref l) (upd H l (.tup ys))) ∨ (SqT K H p ys ∧ Q (.ref p) H))) fTuple := by
  intro wa Hf H w ds us z Q hb rs h q
  unfold fTuple at h
  split at h
  · cases h
    obtain ⟨a, vs, rfl, h1, r1⟩ := one_lst rs
    exact ⟨a, vs, rfl, .inl ⟨SqL.of (hb.ex _ _ h1), frzT (z := .non) hb r1 q⟩⟩
  · cases h
    cases rs with
    | cons r1 r2 =>
      cases r2
      cases r1 with
      | tup h1 r1 => exact ⟨_, _, rfl, .inr ⟨SqT.of (hb.ex _ _ h1), q _ _ Go.refl hb _ (.tup h1 r1)⟩⟩
  · cases h
/-- list(x): a new list -/
def fList : Wl → List D → Option (List D) := fun _ ds => match ds with
  | [.lst xs] => some xs
  | [.tup xs] => some xs
  | _ => none
theorem newL {wa : Addr} {Hf H : Hp} {w : Wl} {Q : VK} {vs : List V} {ds : List D} (hb : Base wa Hf H w) (rv : Reps wa Hf vs ds) (q : ∀ H' Hf' p vs, Go wa H Hf H' Hf' → Base wa Hf' H' w → Fr H p → H' p = some (.lst vs) → Hf' p = none → p ≠ wa → Reps wa Hf' vs ds → Q (.ref p) H') : ∀ p, H p = none → Q (.ref p) (upd H p (.lst vs)) := fun p hp =>
  q _ _ p vs (Go.new1 hp) (hb.new1 hp) (.of hp) upd_same (Evl.fresh_back hb.ex hp) (fun z => by rw [z, hb.well] at hp; cases hp) rv
theorem cl_list {K : PySem.W.Frag} : CaL (fun xs H Q => ∃ p ys, xs = [.ref p] ∧ (SqL K H p ys ∨ SqT K H p ys) ∧ ∀ l, H l = none → Q (.ref l) (upd H l (.lst ys))) fList := by
  intro wa Hf H w ds us z Q hb rs h q
  unfold fList at h
  split at h
  · cases h
    obtain ⟨a, vs, rfl, h1, r1⟩ := one_lst rs
    exact ⟨a, vs, rfl, .inl (SqL.of (hb.ex _ _ h1)), newL hb r1 q⟩
  · cases h
    cases rs with
    | cons r1 r2 =>
      cases r2
      cases r1 with
      | tup h1 r1 => exact ⟨_, _, rfl, .inr (SqT.of (hb.ex _ _ h1)), newL hb r1 q⟩
  · cases h
/-- isinstance -/
def tyD : D → Option String
  | .non => some "NoneType"
  | .bl _ => some "bool"
  | .int _ => some "int"
  | .str _ => some "str"
  | .lst _ => some "list"
  | .tup _ => some "tuple"
  | _ => none
theorem tyD_ok {wa : Addr} {Hf : Hp} {K : PySem.W.Frag} {w : Wl} {x : D} {v : V} {t : String} (hb : Base wa Hf H w) (r : Rep wa Hf v x) (h : tyD x = some t) : TyX K H v (.type t) := by
  cases r with
  | non => cases h; exact .base .non
  | bl b => cases h; exact .base (.bl b)
  | int b => cases h; exact .base (.int b)
  | str b => cases h; exact .base (.str b)
  | lst h1 r1 => cases h; exact .base (.lst (hb.ex _ _ h1))
  | tup h1 r1 => cases h; exact .base (.tup (hb.ex _ _ h1))
  | well => cases h
  | ref a => cases h
  | ty a => cases h
def isB (t : String) (n : String) : Option Bool := if t = n then some true else match n with
  | "int" => if t = "bool" then some true else if t = "NoneType" ∨ t = "str" ∨ t = "list" ∨ t = "tuple" then some false else none
  | "bool" | "str" | "list" | "tuple" => if t = "NoneType" ∨ t = "str" ∨ t = "list" ∨ t = "tuple" ∨ t = "bool" ∨ t = "int" then some false else none
  | _ => none
theorem kitB_all : ∀ t ∈ ["NoneType", "bool", "int", "str", "list", "tuple"], ∀ n ∈ ["bool", "int", "str", "list", "tuple"], kitB t n = isB t n := by decide +kernel
theorem isB_kit {K : PySem.W.Frag} {t n : String} {b : Bool} {x : D} (ht : tyD x = some t) (h : isB t n = some b) : PySem.W.kitOne K (.type t) (.type n) = some b := by
  have mt : t ∈ ["NoneType", "bool", "int", "str", "list", "tuple"] := by
    cases x <;> first | (cases ht; decide) | cases ht
  have mn : n ∈ ["bool", "int", "str", "list", "tuple"] ∨ n = "NoneType" := by
    unfold isB at h
    split at h
    · rename_i e
      subst e
      revert mt
      intro mt
      simp only [List.mem_cons, List.not_mem_nil, or_false] at mt ⊢
      rcases mt with h | h | h | h | h | h <;> simp [h]
    · split at h <;> first | (left; decide) | cases h
  rcases mn with mn | mn
  · exact kit_ty (by rw [kitB_all t mt n mn]; exact h)
  · subst mn
    unfold isB at h
    split at h
    · rename_i e
      subst e
      cases h
      exact kit_ty (by decide +kernel)
    · simp at h
def fIsi : Wl → List D → Option D := fun _ ds => match ds with
  | [x, .ty n] => (tyD x).bind fun t => (isB t n).map .bl
  | [x, .tup [.ty n, .ty m]] => (tyD x).bind fun t => (isB t n).bind fun b => if b then some (.bl true) else (isB t m).map .bl
  | _ => none
theorem cd_isi {K : PySem.W.Frag} : CaD (fun xs H Q => rIsi K xs H Q ∨ rIsiT K xs H Q) fIsi := by
  intro wa Hf H w ds us z Q hb rs h q
  unfold fIsi at h
  split at h
  · rename_i x n
    cases e : tyD x with
    | none => rw [e] at h; cases h
    | some t =>
      rw [e] at h
      cases e2 : isB t n with
      | none => simp [e2] at h
      | some b =>
        simp only [Option.bind_some, e2, Option.map_some, Option.some.injEq] at h
        subst h
        cases rs with
        | cons r1 r2 =>
          cases r2 with
          | cons r2 r3 =>
            cases r2
            cases r3
            exact .inl ⟨_, _, _, _, b, rfl, .ty n, tyD_ok hb r1 e, isB_kit e e2, q _ _ Go.refl hb _ (.bl _)⟩
  · rename_i x n m
    cases e : tyD x with
    | none => rw [e] at h; cases h
    | some t =>
      rw [e] at h
      cases e2 : isB t n with
      | none => simp [e2] at h
      | some b =>
        simp only [Option.bind_some, e2] at h
        cases rs with
        | cons r1 r2 =>
          cases r2 with
          | cons r2 r3 =>
            cases r3
            cases r2 with
            | tup h1 r2 =>
              cases r2 with
              | cons ra rb =>
                cases ra
                cases rb with
                | cons rb rc =>
                  cases rb
                  cases rc
                  have pc : Paired ClsV [V.ty n, V.ty m] [Value.type n, Value.type m] := .cons (.ty n) (.cons (.ty m) .nil)
                  cases b with
                  | true =>
                    simp only [if_true, Option.some.injEq] at h
                    subst h
                    refine .inr ⟨_, _, _, _, _, true, rfl, hb.ex _ _ h1, pc, tyD_ok hb r1 e, ?_, q _ _ Go.refl hb _ (.bl _)⟩
                    unfold PySem.W.kitAny
                    rw [isB_kit e e2]
                  | false =>
                    simp only [Bool.false_eq_true, if_false] at h
                    cases e3 : isB t m with
                    | none => rw [e3] at h; cases h
                    | some b2 =>
                      rw [e3] at h
                      cases h
                      refine .inr ⟨_, _, _, _, _, b2, rfl, hb.ex _ _ h1, pc, tyD_ok hb r1 e, ?_, q _ _ Go.refl hb _ (.bl _)⟩
                      unfold PySem.W.kitAny
                      rw [isB_kit e e2]
                      show PySem.W.kitAny K (.type t) [.type m] = some b2
                      unfold PySem.W.kitAny
                      rw [isB_kit e e3]
                      cases b2 <;> rfl
  · cases h
theorem call_isiA : CallR X (.builtin "isinstance") (fun xs H Q => rIsi X.K xs H Q ∨ rIsiT X.K xs H Q) := call_isi.or call_isiT
/-- divmod -/
def fDivmod : Wl → List D → Option D := fun _ ds => match ds with
  | [.int i, .int j] => if divOk j then some (.tup [.int (i.fdiv j), .int (i.fmod j)]) else none
  | _ => none
def rDivmod : List V → Hp → VK → Prop := fun xs H Q => ∃ i j, xs = [.int i, .int j] ∧ divOk j ∧ ∀ p, H p = none → Q (.ref p) (upd H p (.tup [.int (i.fdiv j), .int (i.fmod j)]))
theorem call_divmodA : CallR X (.builtin "divmod") rDivmod := by
  intro pins s σ H xs us Q I r h
  obtain ⟨i, j, rfl, ⟨h1, h2⟩, q⟩ := h
  obtain ⟨u, w', rfl, ⟨t, rfl⟩, ⟨t', rfl⟩⟩ := vals2 r
  refine divmod_int h1 ?_ (.inl (PyProof.noPylong_of_log2 h2))
  have hn : H s.heap.objs.size = none := I.hok.fresh (Nat.le_refl _)
  refine ⟨.ref s.heap.objs.size, _, ?_, rfl, q _ hn⟩
  refine I.laid (fun b o e => Heap.get?_push_of_some _ e) (Nat.le_refl _) ⟨by simp only [List.length_cons, List.length_nil]; rw [sizeLine_eq]; decide, [.int (i.fdiv j) s.toks, .int (i.fmod j) (s.toks + 1)], .cons ⟨_, rfl⟩ (.cons ⟨_, rfl⟩ .nil), ?_⟩
  exact ⟨_, Heap.get?_push_size s.heap rfl, rfl, 0, rfl⟩
theorem cd_divmod : CaD rDivmod fDivmod := by
  intro wa Hf H w ds us z Q hb rs h q
  unfold fDivmod at h
  split at h
  · split at h
    · rename_i hd
      cases h
      cases rs with
      | cons r1 r2 =>
        cases r1
        cases r2 with
        | cons r1 r2 =>
          cases r1
          cases r2
          exact ⟨_, _, rfl, hd, frzT (z := .non) hb (.cons (.int _) (.cons (.int _) .nil)) q⟩
    · cases h
  · cases h
end
end DL

set_option maxHeartbeats 2000000
namespace DL
open PySem PySem.Spec PyProof.Rows L2
variable [TabT]
open Evl (Ex)
/-! ### what is walked -/
structure WalkD (wa : Addr) (Hf : Hp) (J : It) (ds : List D) : Prop where
  goes : ∀ i H, i < ds.length → Ex Hf H → J.go i H
  stops : ∀ H, Ex Hf H → J.stop ds.length H
  yields : ∀ i H Hf1 w x H' d, ds[i]? = some d → Ex Hf Hf1 → Base wa Hf1 H w → J.yld i H x H' → ∃ Hf2, Go wa H Hf1 H' Hf2 ∧ Base wa Hf2 H' w ∧ Rep wa Hf2 x d
abbrev DI := Sl → Wl → R (List D)
def lI (mg : Str → Option Value) (W : WX) (I : DI) : TI := fun σ H R =>
  ∃ wa Hf sD w, Base wa Hf H w ∧ Slots wa Hf H σ sD ∧ Fin wa Hf H (I sD w) (fun ds _ H' Hf' => ∀ J, WalkD wa Hf' J ds → R J H') (Er mg W wa σ)
section
variable {X : Cx} {mg : Str → Option Value} {W : WX} {tg it a b e : Expr} {es : List Expr} {pos : Pos} {σ : L2.St} {H : Hp} {wa : Addr} {Hf : Hp}
theorem weakI {t t' : TI} (h : PI X tg it t) (i : ∀ σ H Q, t' σ H Q → t σ H Q) : PI X tg it t' := ⟨fun pins s σ H Q I q => h.run pins s σ H Q I (i σ H Q q)⟩
theorem orI {t t' : TI} (h : PI X tg it t) (h' : PI X tg it t') : PI X tg it (fun σ H Q => t σ H Q ∨ t' σ H Q) := ⟨fun pins s σ H Q I q => q.elim (fun q => h.run pins s σ H Q I q) fun q => h'.run pins s σ H Q I q⟩
theorem walkD_list {K : PySem.W.Frag} {p : Addr} {vs : List V} {ds : List D} (h : Hf p = some (.lst vs)) (r : Reps wa Hf vs ds) : WalkD wa Hf (Itl K p) ds :=
  ⟨fun i H hi x => by
    have hi' : i < vs.length := by rw [r.length]; exact hi
    exact ⟨vs, vs[i], SqL.of (x _ _ h), by simp [hi']⟩, fun H x => ⟨vs, SqL.of (x _ _ h), Nat.le_of_eq r.length⟩, fun i H Hf1 w y H' d hd x b q => by
    obtain ⟨rfl, q⟩ := q
    obtain ⟨v, e1, r1⟩ := (r.mono x).get hd
    have e2 := q vs (SqL.of (b.ex _ _ (x _ _ h)))
    rw [e1] at e2
    cases e2
    exact ⟨Hf1, Go.refl, b, r1⟩⟩
theorem walkD_tup {K : PySem.W.Frag} {p : Addr} {vs : List V} {ds : List D} (h : Hf p = some (.tup vs)) (r : Reps wa Hf vs ds) : WalkD wa Hf (Itt K p) ds :=
  ⟨fun i H hi x => by
    have hi' : i < vs.length := by rw [r.length]; exact hi
    exact ⟨vs, vs[i], SqT.of (x _ _ h), by simp [hi']⟩, fun H x => ⟨vs, SqT.of (x _ _ h), Nat.le_of_eq r.length⟩, fun i H Hf1 w y H' d hd x b q => by
    obtain ⟨rfl, q⟩ := q
    obtain ⟨v, e1, r1⟩ := (r.mono x).get hd
    have e2 := q vs (SqT.of (b.ex _ _ (x _ _ h)))
    rw [e1] at e2
    cases e2
    exact ⟨Hf1, Go.refl, b, r1⟩⟩
def upTo (lo : Int) (n : Nat) : List D := (List.range n).map fun i => .int (lo + (i : Nat))
theorem walkD_range {lo : Int} {n : Nat} : WalkD wa Hf (Itr lo n) (upTo lo n) :=
  ⟨fun i H hi x => by
    have h : i < n := by simpa [upTo] using hi
    exact h, fun H x => by
    have h : n ≤ (upTo lo n).length := by simp [upTo]
    exact h, fun i H Hf1 w y H' d hd x b q => by
    obtain ⟨rfl, q⟩ := q
    unfold upTo at hd
    rw [List.getElem?_map] at hd
    cases e : (List.range n)[i]? with
    | none => rw [e] at hd; cases hd
    | some j =>
      rw [e] at hd
      have ej : j = i := by
        rw [List.getElem?_range] at e
        · exact (Option.some.inj e).symm
        · have := (List.getElem?_eq_some_iff.mp e).1
          simpa using this
      subst ej
      cases hd
      rw [q]
      exact ⟨Hf1, Go.refl, b, .int _⟩⟩
def enumD (xs : List D) : List D := xs.zipIdx.map fun p => .tup [.int (p.2 : Nat), p.1]
theorem walkD_enum {K : PySem.W.Frag} {p : Addr} {vs : List V} {ds : List D} (h : Hf p = some (.lst vs)) (r : Reps wa Hf vs ds) : WalkD wa Hf (Ite K p) (enumD ds) :=
  ⟨fun i H hi x => by
    have hi' : i < vs.length := by rw [r.length]; simpa [enumD] using hi
    exact ⟨vs, vs[i], SqL.of (x _ _ h), by simp [hi']⟩, fun H x => ⟨vs, SqL.of (x _ _ h), by simp [enumD, r.length]⟩, fun i H Hf1 w y H' d hd x b q => by
    obtain ⟨T, z, rfl, hT, rfl, q⟩ := q
    unfold enumD at hd
    rw [List.getElem?_map, List.getElem?_zipIdx] at hd
    cases e : ds[i]? with
    | none => rw [e] at hd; cases hd
    | some d1 =>
      rw [e] at hd
      cases hd
      obtain ⟨v, e1, r1⟩ := (r.mono x).get e
      have e2 := q vs (SqL.of (b.ex _ _ (x _ _ h)))
      rw [e1] at e2
      cases e2
      rw [Nat.zero_add]
      exact ⟨_, Go.newF b.ex hT, b.newF hT, .tup upd_same (.cons (.int _) (.cons (r1.mono (Ex.new (Evl.fresh_back b.ex hT))) .nil))⟩⟩
/-- over a list or a tuple -/
def iSeq (A : DE) : DI := fun s w => (A s w).bind fun x w1 => match x with
  | .lst xs => .ok xs w1
  | .tup xs => .ok xs w1
  | _ => .no
theorem id_seq {A : DE} (ha : PE X a (lE mg W A)) : PI X tg a (lI mg W (iSeq A)) := weakI (orI (pi_list ha) (pi_tup ha)) fun σ H Q h => by
  obtain ⟨wa, Hf, sD, w, hb, hs, h⟩ := h
  unfold iSeq at h
  cases ea : A sD w with
  | ok x w1 =>
    rw [ea, R.bind_ok] at h
    cases x with
    | lst xs =>
      refine .inl ⟨wa, Hf, sD, w, hb, hs, ?_⟩
      rw [ea]
      intro H1 Hf1 g b v rv
      cases rv with
      | lst h1 r1 => exact ⟨_, rfl, ⟨_, SqL.of (b.ex _ _ h1)⟩, h H1 Hf1 g b _ (walkD_list h1 r1)⟩
    | tup xs =>
      refine .inr ⟨wa, Hf, sD, w, hb, hs, ?_⟩
      rw [ea]
      intro H1 Hf1 g b v rv
      cases rv with
      | tup h1 r1 => exact ⟨_, rfl, ⟨_, SqT.of (b.ex _ _ h1)⟩, h H1 Hf1 g b _ (walkD_tup h1 r1)⟩
    | _ => exact h.elim
  | er x w1 =>
    rw [ea] at h
    refine .inl ⟨wa, Hf, sD, w, hb, hs, ?_⟩
    rw [ea]
    exact h
  | no => rw [ea] at h; exact h.elim
/-- over a new list -/
def iRng1 (As : DA) : DI := fun s w => (As s w).bind fun xs w1 => match xs with
  | [.int j] => if -4611686018427387904 ≤ j ∧ j < 4611686018427387904 then .ok (upTo 0 j.toNat) w1 else .no
  | _ => .no
def iRng2 (As : DA) : DI := fun s w => (As s w).bind fun xs w1 => match xs with
  | [.int i, .int j] => if (-4611686018427387904 ≤ i ∧ i < 4611686018427387904) ∧ -4611686018427387904 ≤ j ∧ j < 4611686018427387904 then .ok (upTo i (j - i).toNat) w1 else .no
  | _ => .no
theorem id_rng1 {As : DA} {p : Pos} (hg : Gl X "range") (hm : X.mg "range" = none) (ha : PA X [a] (lA mg W As)) (hs : starEach [a] X.env = [(false, eval a X.env)] := by rfl) : PI X tg (.Call (.Name "range" p) [a] [] pos) (lI mg W (iRng1 As)) := weakI (pi_range1 hg hm ha hs) fun σ H Q h => by
  obtain ⟨wa, Hf, sD, w, hb, hs, h⟩ := h
  refine ⟨wa, Hf, sD, w, hb, hs, h.bind.mono (fun x w1 H1 Hf1 g1 b1 q v rv => ?_) (fun _ _ _ _ _ _ q => q)⟩
  split at q
  · split at q
    · rename_i hz
      cases rv with
      | cons r1 r2 =>
        cases r1
        cases r2
        exact ⟨_, rfl, by omega, by omega, q.here b1 _ walkD_range⟩
    · exact q.elim
  · exact q.elim
theorem id_rng2 {As : DA} {p : Pos} (hg : Gl X "range") (hm : X.mg "range" = none) (ha : PA X [a, b] (lA mg W As)) (hs : starEach [a, b] X.env = [(false, eval a X.env), (false, eval b X.env)] := by rfl) (hs2 : starEach [b] X.env = [(false, eval b X.env)] := by rfl) : PI X tg (.Call (.Name "range" p) [a, b] [] pos) (lI mg W (iRng2 As)) := weakI (pi_range2 hg hm ha hs hs2) fun σ H Q h => by
  obtain ⟨wa, Hf, sD, w, hb, hs, h⟩ := h
  refine ⟨wa, Hf, sD, w, hb, hs, h.bind.mono (fun x w1 H1 Hf1 g1 b1 q v rv => ?_) (fun _ _ _ _ _ _ q => q)⟩
  split at q
  · split at q
    · rename_i hz
      cases rv with
      | cons r1 r2 =>
        cases r1
        cases r2 with
        | cons r1 r2 =>
          cases r1
          cases r2
          exact ⟨_, _, rfl, ⟨by omega, by omega, by omega, by omega⟩, q.here b1 _ walkD_range⟩
    · exact q.elim
  · exact q.elim
def iEnum (As : DA) : DI := fun s w => (As s w).bind fun xs w1 => match xs with
  | [.lst ds] => .ok (enumD ds) w1
  | _ => .no
theorem id_enum {As : DA} {p tpos : Pos} {elts : List Expr} {kk : Nat} (hg : Gl X "enumerate") (hm : X.mg "enumerate" = none) (ha : PA X [a] (lA mg W As)) (hs : starEach [a] X.env = [(false, eval a X.env)] := by rfl) : PI X (.Tuple elts kk tpos) (.Call (.Name "enumerate" p) [a] [] pos) (lI mg W (iEnum As)) := weakI (pi_enum hg hm ha hs) fun σ H Q h => by
  obtain ⟨wa, Hf, sD, w, hb, hs, h⟩ := h
  refine ⟨wa, Hf, sD, w, hb, hs, h.bind.mono (fun x w1 H1 Hf1 g1 b1 q v rv => ?_) (fun _ _ _ _ _ _ q => q)⟩
  split at q
  · obtain ⟨p, vs, rfl, h1, r1⟩ := one_lst rv
    exact ⟨p, vs, rfl, SqL.of (b1.ex _ _ h1), q.here b1 _ (walkD_enum h1 r1)⟩
  · exact q.elim

/-! ### targets -/
def lG (vs : List Nat) (G : DG) : TG := fun v σ H Q => ∃ wa Hf H0 w sD d s', Base wa Hf H w ∧ Rep wa Hf v d ∧ Slots wa Hf H σ sD ∧ OwnNew H0 σ sD ∧ G d sD = some s' ∧
  ∀ σ', Slots wa Hf H σ' s' → OwnNew H0 σ' s' → wipe σ' vs = wipe σ vs → Q σ' H
def lGs (vs : List Nat) (G : List D → Sl → Option Sl) : TGs := fun v σ H Q => ∃ wa Hf H0 w sD d s', Base wa Hf H w ∧ Reps wa Hf v d ∧ Slots wa Hf H σ sD ∧ OwnNew H0 σ sD ∧ G d sD = some s' ∧
  ∀ σ', Slots wa Hf H σ' s' → OwnNew H0 σ' s' → wipe σ' vs = wipe σ vs → Q σ' H
theorem weakG {t t' : TG} (h : PG X tg t) (i : ∀ v σ H Q, t' v σ H Q → t v σ H Q) : PG X tg t' := ⟨fun pins s σ H v u Q I r q => h.run pins s σ H v u Q I r (i v σ H Q q)⟩
theorem weakGs {t t' : TGs} (h : PGs X es t) (i : ∀ v σ H Q, t' v σ H Q → t v σ H Q) : PGs X es t' := ⟨fun pins s σ H v u Q I r q => h.run pins s σ H v u Q I r (i v σ H Q q)⟩
theorem wipe_set {σ : L2.St} {i : Nat} {x : Option V} : ∀ {vs : List Nat}, i ∈ vs → wipe (σ.set i x) vs = wipe σ vs
  | v :: vs, h => by
    unfold wipe
    by_cases hi : i ∈ vs
    · rw [wipe_set hi]
    · have e : i = v := by
        rcases List.mem_cons.mp h with e | e
        · exact e
        · exact absurd e hi
      subst e
      have key : ∀ (ws : List Nat), i ∉ ws → wipe (σ.set i x) ws = (wipe σ ws).set i x := by
        intro ws
        induction ws with
        | nil => intro _; rfl
        | cons u us ih =>
          intro hu
          have h1 : i ∉ us := fun m => hu (List.mem_cons_of_mem _ m)
          have h2 : i ≠ u := fun e => hu (by rw [e]; exact List.mem_cons_self)
          unfold wipe
          rw [ih h1, List.set_comm _ _ h2]
      rw [key vs hi, List.set_set]
def gN (i : Nat) : DG := fun d s => some (s.set i (some d))
theorem gd_name {i : Nat} {x : Str} {vs : List Nat} (hN : X.N.Nodup) (hi : X.N[i]? = some x) (hx : Loc X.env.scope x) (hv : i ∈ vs) (hf : X.fn x = true ∨ X.env.scope.names.lookup x = some .local := by first | exact .inl rfl | exact .inr rfl | assumption) : PG X (.Name x pos) (lG vs (gN i)) := weakG (pg_name hN hi hx hf) fun v σ H Q h => by
  obtain ⟨wa, Hf, H0, w, sD, d, s', hb, rv, hs, ho, e, q⟩ := h
  cases e
  exact q _ (hs.set rv) (ho.set (rep_isO rv)) (wipe_set hv)
def gNil' : List D → Sl → Option Sl := fun ds s => match ds with
  | [] => some s
  | _ => none
def gCons' (G : DG) (Gs : List D → Sl → Option Sl) : List D → Sl → Option Sl := fun ds s => match ds with
  | d :: r => (G d s).bind fun s1 => Gs r s1
  | _ => none
def gT (Gs : List D → Sl → Option Sl) (n : Nat) : DG := fun d s => match d with
  | .tup ds => if ds.length = n then Gs ds s else none
  | _ => none
theorem gd_nil {vs : List Nat} : PGs X [] (lGs vs gNil') := weakGs pgs_nil fun v σ H Q h => by
  obtain ⟨wa, Hf, H0, w, sD, d, s', hb, rv, hs, ho, e, q⟩ := h
  unfold gNil' at e
  split at e
  · cases e
    cases rv
    exact ⟨rfl, q _ hs ho rfl⟩
  · cases e
theorem gd_cons {G : DG} {Gs : List D → Sl → Option Sl} {vs : List Nat} (h1 : PG X a (lG vs G)) (h2 : PGs X es (lGs vs Gs)) (hs : (assignEach (a :: es) X.env).map (·.2) = assign a X.env :: (assignEach es X.env).map (·.2) := by rfl) : PGs X (a :: es) (lGs vs (gCons' G Gs)) := weakGs (pgs_cons h1 h2 hs) fun v σ H Q h => by
  obtain ⟨wa, Hf, H0, w, sD, d, s', hb, rv, hs, ho, e, q⟩ := h
  unfold gCons' at e
  split at e
  · rename_i d r
    cases rv with
    | cons r1 r2 =>
      cases e1 : G d sD with
      | none => rw [e1] at e; cases e
      | some s1 =>
        rw [e1] at e
        exact ⟨_, _, rfl, wa, Hf, H0, w, sD, d, s1, hb, r1, hs, ho, e1, fun σ1 hs1 ho1 hw1 => ⟨wa, Hf, H0, w, s1, r, s', hb, r2, hs1, ho1, e, fun σ2 hs2 ho2 hw2 => q σ2 hs2 ho2 (hw2.trans hw1)⟩⟩
  · cases e
theorem gd_tup {k : Nat} {Gs : List D → Sl → Option Sl} {n : Nat} {vs : List Nat} (hc : X.calm = true) (h : PGs X es (lGs vs Gs)) (hn : (assignEach es X.env).length = n := by rfl) (hst : (assignEach es X.env).findIdx? (·.1) = none := by rfl) : PG X (.Tuple es k pos) (lG vs (gT Gs n)) := weakG (pg_tup hc h hn hst) fun v σ H Q h => by
  obtain ⟨wa, Hf, H0, w, sD, d, s', hb, rv, hs, ho, e, q⟩ := h
  unfold gT at e
  split at e
  · split at e
    · rename_i hl
      cases rv with
      | tup h1 r1 => exact ⟨_, _, rfl, SqT.of (hb.ex _ _ h1), by rw [r1.length]; exact hl, wa, Hf, H0, w, sD, _, s', hb, r1, hs, ho, e, q⟩
    · cases e
  · cases e
end

/-! ### calls of the program's own functions -/
def spD (mg : Str → Option Value) (n : Nat) (F : DF) : Sp := fun vs H Q E => ∃ wa Hf ds w, Base wa Hf H w ∧ Reps wa Hf vs ds ∧ ds.length = n ∧
  Fin wa Hf H (F ds w) (fun d _ H' Hf' => ∀ v, Rep wa Hf' v d → Q v H') (fun x _ H' Hf' => ∀ cls dx, ErrV mg wa Hf' x cls dx → E cls dx H')
abbrev FnD (P : Program) (w : World) (K : PySem.W.Frag) (mg : Str → Option Value) (base : Heap) (k : Nat) (f : Addr) (fd : FuncData) (ps : List Str) (F : DF) : Prop := FnOk P w K mg base (L2.CX P w) k f fd ps (spD mg ps.length F)
/-- less is promised, or the same -/
def Less {α β : Type} (F G : α → β → R D) : Prop := ∀ a b, F a b = .no ∨ F a b = G a b
theorem FnD.less {P : Program} {w : World} {K : PySem.W.Frag} {mg : Str → Option Value} {base : Heap} {k : Nat} {f : Addr} {fd : FuncData} {ps : List Str} {F G : DF} (h : FnD P w K mg base k f fd ps G) (l : ∀ ds w, ds.length = ps.length → F ds w = .no ∨ F ds w = G ds w) : FnD P w K mg base k f fd ps F :=
  FnOk.imp h fun vs H Q E ⟨wa, Hf, ds, w, hb, r, hl, q⟩ => ⟨wa, Hf, ds, w, hb, r, hl, by
    rcases l ds w hl with e | e
    · rw [e] at q; exact q.elim
    · rw [e] at q; exact q⟩
def eCall (n : Nat) (F : DF) (As : DA) : DE := fun s w => (As s w).bind fun ds w1 => if ds.length = n then F ds w1 else .no
/-- what is raised in a callee reaches what is wished here -/
def Wok (X : Cx) (W : WX) : Prop := ∀ σ, PassesAt (L2.CX X.prog X.w) X σ (WE W σ)
theorem wok_takes {X : Cx} {W : WX} (t : Takes X W) : Wok X W := fun σ => passAt t σ
abbrev W0 : WX := fun _ _ _ _ => False
theorem wok0 {X : Cx} : Wok X W0 := fun σ pins H s e s' I c => by
  obtain ⟨_, _, _, _, _, _, _, _, _, _, _, _, z⟩ := c
  exact z.elim
section
variable {X : Cx} {W : WX} {tg it a b e : Expr} {es : List Expr} {pos : Pos} {σ : L2.St} {H : Hp} {wa : Addr} {Hf : Hp}
theorem fin_call {mg : Str → Option Value} {w : Wl} {n : Nat} {F : DF} {ds : List D} {vs : List V} {Q : VK} {W : WX} (hb : Base wa Hf H w) (rv : Reps wa Hf vs ds) (q : Fin wa Hf H (if ds.length = n then F ds w else .no) (fun d _ H' Hf' => ∀ v, Rep wa Hf' v d → Q v H') (Er mg W wa σ)) : spD mg n F vs H Q (WE W σ) := by
  split at q
  · rename_i hl
    exact ⟨wa, Hf, ds, w, hb, rv, hl, q⟩
  · exact q.elim
theorem pd_call {k : Nat} {f : Addr} {fd : FuncData} {ps : List Str} {F : DF} {x : Str} {p : Pos} {As : DA} (G : FnD X.prog X.w X.K X.mg X.base k f fd ps F) (hr : Room k X.A) (hg : Gl X x) (hm : X.mg x = some (.ref f)) (hk : PySem.W.keepIn X.K (.ref f) = true) (hb : Binds X.K fd ps []) (hx : Wok X W)
    (ha : PA X (e :: es) (lA X.mg W As)) (hdb : (x == ("__debug__" : Str)) = false := by decide) (he : starEach (e :: es) X.env = (false, eval e X.env) :: starEach es X.env := by rfl) (hpl : (backTo pos (starEach es X.env)).any (·.1) = false := by rfl) :
    PE X (.Call (.Name x p) (e :: es) [] pos) (lE X.mg W (eCall ps.length F As)) := weakE (pe_callS G hr hg hm hk hb hx ha hdb he hpl) fun σ H Q h => by
  obtain ⟨wa, Hf, sD, w, hb, hs, h⟩ := h
  refine ⟨wa, Hf, sD, w, hb, hs, h.bind.mono (fun x w1 H1 Hf1 g1 b1 q v rv => ?_) (fun _ _ _ _ _ _ q => q)⟩
  exact fin_call b1 rv q
end
end DL

set_option maxHeartbeats 2000000
namespace DL
open PySem PySem.Spec PyProof.Rows L2
variable [TabT]
open Evl (Ex)
theorem Go.appF {wa : Addr} {H Hf H' Hf' : Hp} {p : Addr} {o : HO} (g : Go wa H Hf H' Hf') (h : Fr H p) : Go wa H Hf (upd H' p o) Hf' :=
  ⟨fun a u n t e => by rw [upd_ne (ne_of_fr e t h)]; exact g.keepN a u n t e, g.ex, g.newN, fun a u t e => by rw [upd_ne (ne_of_fr e t h)]; exact g.thereN a u t e⟩
theorem Base.appL {wa : Addr} {H Hf : Hp} {w : Wl} {p : Addr} {o : HO} {xs : List V} (b : Base wa Hf H w) (h : Hf p = none) (hw : p ≠ wa) (hp : H p = some (.lst xs)) : Base wa Hf (upd H p o) w :=
  ⟨Evl.Ex.mut b.ex h, by rw [upd_ne (Ne.symm hw)]; exact b.well, b.nw, tabs_upd b.tb (.inr ⟨xs, hp⟩), b.nt⟩
/-! ### comprehensions -/
def lcD (G : DG) (T : DT) (E : DE) : List D → Sl → Wl → R (List D)
  | [], _, w => .ok [] w
  | d :: r, s, w => match G d s with
    | none => .no
    | some s1 => (T s1 w).noer.bind fun b w1 => if b = true then (E s1 w1).noer.bind fun y w2 => (lcD G T E r s w2).bind fun ys w3 => .ok (y :: ys) w3 else lcD G T E r s w1
def wipeS (s : Sl) : List Nat → Sl
  | [] => s
  | v :: vs => (wipeS s vs).set v none
def aLc (I : DI) (G : DG) (T : DT) (E : DE) (vs : List Nat) : DA := fun s w => (I s w).bind fun ds w1 => if ds.length ≤ lim then (lcD G T E ds (wipeS s vs) w1).noer else .no
def tYesD : DT := fun _ w => .ok true w
section
variable {X : Cx} {mg : Str → Option Value} {W : WX} {tg it a b e elt iter : Expr} {es ifs : List Expr} {pos : Pos} {σ : L2.St} {H : Hp} {wa : Addr} {Hf : Hp}
theorem Slots.setNone {s : Sl} (x : Slots wa Hf H σ s) (i : Nat) : Slots wa Hf H (σ.set i none) (s.set i none) := by
  have key : ∀ (j : Nat) (d : D), (s.set i none)[j]? = some (some d) → j ≠ i ∧ s[j]? = some (some d) := fun j d h => by
    by_cases hj : j = i
    · subst hj
      rw [List.getElem?_set] at h
      split at h
      · split at h <;> cases h
      · rename_i hne
        exact absurd rfl hne
    · rw [List.getElem?_set_ne (Ne.symm hj)] at h
      exact ⟨hj, h⟩
  have keyσ : ∀ (j : Nat), j ≠ i → (σ.set i none)[j]? = σ[j]? := fun j hj => List.getElem?_set_ne (Ne.symm hj)
  refine ⟨by simp [x.len], fun j d h n => ?_, fun j xs h => ?_, fun j ks xs h => ?_, fun j k d e p h1 n1 h2 n2 h3 h4 => ?_⟩
  · obtain ⟨hj, h'⟩ := key j d h
    rw [keyσ j hj]
    exact x.val j d h' n
  · obtain ⟨hj, h'⟩ := key j _ h
    rw [keyσ j hj]
    exact x.own j xs h'
  · obtain ⟨hj, h'⟩ := key j _ h
    rw [keyσ j hj]
    exact x.dic j ks xs h'
  · obtain ⟨hj, h1'⟩ := key j _ h1
    obtain ⟨hk, h2'⟩ := key k _ h2
    rw [keyσ j hj] at h3
    rw [keyσ k hk] at h4
    exact x.inj j k d e p h1' n1 h2' n2 h3 h4
theorem Slots.wipe {s : Sl} (x : Slots wa Hf H σ s) : ∀ vs : List Nat, Slots wa Hf H (L2.wipe σ vs) (wipeS s vs)
  | [] => x
  | v :: vs => (x.wipe vs).setNone v
theorem wipe_none {σ : L2.St} {i : Nat} : ∀ {vs : List Nat}, i ∈ vs → (L2.wipe σ vs).set i none = L2.wipe σ vs
  | v :: vs, h => by
    unfold L2.wipe
    by_cases hv : v = i
    · subst hv
      rw [List.set_set]
    · rw [List.set_comm _ _ hv]
      rcases List.mem_cons.mp h with e | e
      · exact absurd e.symm hv
      · rw [wipe_none e]
theorem wipe_wipe {σ : L2.St} : ∀ vs : List Nat, L2.wipe (L2.wipe σ vs) vs = L2.wipe σ vs := by
  have key : ∀ us vs : List Nat, (∀ i ∈ us, i ∈ vs) → L2.wipe (L2.wipe σ vs) us = L2.wipe σ vs := by
    intro us
    induction us with
    | nil => intro vs _; rfl
    | cons u us ih =>
      intro vs h
      show (L2.wipe (L2.wipe σ vs) us).set u none = L2.wipe σ vs
      rw [ih vs fun i hi => h i (List.mem_cons_of_mem _ hi)]
      exact wipe_none (h u List.mem_cons_self)
  exact fun vs => key vs vs fun _ h => h
theorem weakTs {t t' : TT} (h : PTs X ifs t) (i : ∀ σ H Q, t' σ H Q → t σ H Q) : PTs X ifs t' := ⟨fun pins s σ H Q I q => h.run pins s σ H Q I (i σ H Q q)⟩
theorem td_nil : PTs X [] (lT mg W tYesD) := weakTs pts_nil fun σ H Q h => by
  obtain ⟨wa, Hf, sD, w, hb, hs, h⟩ := h
  exact h.here hb _ rfl
theorem td_one {T : DT} (h : PT X a (lT mg W T)) : PTs X [a] (lT mg W T) := pts_one h
theorem lc_ok {I : DI} {G : DG} {T : DT} {E : DE} {vs : List Nat} {Q : VK} (h : lfL mg W (aLc I G T E vs) σ H Q) : tLc (lI mg W I) (lG vs G) (lT mg W0 T) (lE mg W0 E) vs σ H Q := by
  obtain ⟨wa, Hf, sD, w, hb, hs, h⟩ := h
  refine ⟨wa, Hf, sD, w, hb, hs, h.bind.mono (fun ds w1 H1 Hf1 g1 b1 q J wk D hD => ?_) (fun _ _ _ _ _ _ q => q)⟩
  have hs1 := (hs.go g1).wipe vs
  split at q
  · rename_i hz
    cases el : lcD G T E ds (wipeS sD vs) w1 with
    | er x w2 => rw [el] at q; exact q.elim
    | no => rw [el] at q; exact q.elim
    | ok total wF =>
      rw [el] at q
      have hDw : D ≠ wa := fun z => by rw [z, b1.well] at hD; cases hD
      have hDf : Hf1 D = none := Evl.fresh_back b1.ex hD
      refine ⟨fun i m H2 => m = ds.length - i ∧ i ≤ ds.length ∧ ∃ Hf2 w2 accV acc ys, Go wa H1 Hf1 H2 Hf2 ∧ Base wa Hf2 H2 w2 ∧ H2 D = some (.lst accV) ∧ Hf2 D = none ∧ Reps wa Hf2 accV acc ∧ acc.length ≤ i ∧ lcD G T E (ds.drop i) (wipeS sD vs) w2 = .ok ys wF ∧ acc ++ ys = total,
        ⟨ds.length, by simp, Nat.zero_le _, Hf1, w1, [], [], total, Go.new1 hD, b1.new1 hD, upd_same, hDf, .nil, Nat.le_refl _, el, rfl⟩, ?_⟩
      rintro i m H2 ⟨rfl, hi, Hf2, w2, accV, acc, ys, g2, b2, hD2, hDf2, ra, hal, e2, rfl⟩
      by_cases hlt : i < ds.length
      · have ed : ds.drop i = ds[i] :: ds.drop (i + 1) := List.drop_eq_getElem_cons hlt
        rw [ed] at e2
        have gi : ds[i]? = some ds[i] := by simp [hlt]
        refine .inr ⟨wk.goes i H2 hlt (g2.ex.trans b2.ex), fun H' => ∃ Hf2 w2 accV acc' ys', Go wa H1 Hf1 H' Hf2 ∧ Base wa Hf2 H' w2 ∧ H' D = some (.lst accV) ∧ Hf2 D = none ∧ Reps wa Hf2 accV acc' ∧ acc'.length ≤ i + 1 ∧ lcD G T E (ds.drop (i + 1)) (wipeS sD vs) w2 = .ok ys' wF ∧ acc' ++ ys' = acc ++ ys,
          fun H' hN => ⟨ds.length - (i + 1), by omega, rfl, hlt, hN⟩, fun x H3 hy => ?_⟩
        obtain ⟨Hf3, g3, b3, r3⟩ := wk.yields i H2 Hf2 w2 x H3 _ gi g2.ex b2 hy
        have hD3 : H3 D = some (.lst accV) := g3.keep D _ hDw hD2
        have hDf3 : Hf3 D = none := (g3.new D _ hD2).trans hDf2
        unfold lcD at e2
        cases eg : G ds[i] (wipeS sD vs) with
        | none => rw [eg] at e2; cases e2
        | some s1 =>
          rw [eg] at e2
          dsimp only at e2
          refine ⟨wa, Hf3, fun _ => none, w2, wipeS sD vs, ds[i], s1, b3, r3, (hs1.go g2).go g3, fun _ _ _ _ _ _ => .of rfl, eg, fun σ4 hs4 _ hw4 => ⟨hw4.trans (wipe_wipe vs), ?_⟩⟩
          cases et : T s1 w2 with
          | er y u => rw [et] at e2; cases e2
          | no => rw [et] at e2; cases e2
          | ok bb w5 =>
            rw [et] at e2
            refine ⟨wa, Hf3, s1, w2, b3, hs4, ?_⟩
            rw [et]
            intro H5 Hf5 g5 b5 v5 rv5
            have ev5 : v5 = bb := rv5
            subst ev5
            have hD5 : H5 D = some (.lst accV) := g5.keep D _ hDw hD3
            have hDf5 : Hf5 D = none := (g5.new D _ hD3).trans hDf3
            cases v5 with
            | false =>
              refine iteF ?_
              have e3 : lcD G T E (ds.drop (i + 1)) (wipeS sD vs) w5 = .ok ys wF := by simpa [R.noer, R.bind] using e2
              exact ⟨Hf5, w5, accV, acc, ys, (g2.trans g3).trans g5, b5, hD5, hDf5, (ra.mono g3.ex).mono g5.ex, by omega, e3, rfl⟩
            | true =>
              refine iteT ?_
              have e3 : ((E s1 w5).noer.bind fun y w2 => (lcD G T E (ds.drop (i + 1)) (wipeS sD vs) w2).bind fun ys w3 => .ok (y :: ys) w3) = R.ok ys wF := by simpa [R.noer, R.bind] using e2
              cases ee : E s1 w5 with
              | er y u => rw [ee] at e3; cases e3
              | no => rw [ee] at e3; cases e3
              | ok y w6 =>
                rw [ee] at e3
                refine ⟨wa, Hf5, s1, w5, b5, hs4.go g5, ?_⟩
                rw [ee]
                intro H6 Hf6 g6 b6 v6 r6
                have hD6 : H6 D = some (.lst accV) := g6.keep D _ hDw hD5
                have hDf6 : Hf6 D = none := (g6.new D _ hD5).trans hDf5
                have e4 : ((lcD G T E (ds.drop (i + 1)) (wipeS sD vs) w6).bind fun ys w3 => .ok (y :: ys) w3) = R.ok ys wF := by simpa [R.noer, R.bind] using e3
                cases er : lcD G T E (ds.drop (i + 1)) (wipeS sD vs) w6 with
                | er y u => rw [er] at e4; cases e4
                | no => rw [er] at e4; cases e4
                | ok zs w7 =>
                  rw [er] at e4
                  cases e4
                  have ra6 := ((ra.mono g3.ex).mono g5.ex).mono g6.ex
                  have hlen : accV.length = acc.length := ra.length
                  refine ⟨accV, hD6, Nat.lt_of_lt_of_le (by omega : accV.length < lim) (lim_le (Nat.le_refl _)), Hf6, w6, accV ++ [v6], acc ++ [y], zs, ?_, ?_, upd_same, hDf6, ra6.append (.cons r6 .nil), by simp; omega, er, by simp⟩
                  · have gg := ((g2.trans g3).trans g5).trans g6
                    exact gg.appF (.of hD)
                  · exact b6.appL hDf6 hDw hD6
      · have ei : i = ds.length := by omega
        subst ei
        rw [List.drop_length] at e2
        cases e2
        refine .inl ⟨wk.stops H2 (g2.ex.trans b2.ex), ?_⟩
        rw [List.append_nil] at q
        exact q H2 Hf2 g2 b2 D accV (g1.free hD) hD2 hDf2 hDw ra
  · exact q.elim
/-- [elt for tg in iter if ..]: a new list -/
theorem pl_lc {scope : Scope} {own : List (Str × Nat)} {I : DI} {G : DG} {T : DT} {E : DE} (hc : X.calm = true) (hN : X.N.Nodup) (hi : PI X tg iter (lI mg W I)) (ok : BlkOk X.N X.env.scope scope own)
    (hg : ∀ (s : Shared) (H : Hp) (C : Addr) (cl : List (Str × Addr)) (fp : List Addr), PG (X.blk s H scope (compEnvC scope cl C X.env) fp) tg (lG (own.map (·.2)) G)) (ht : ∀ (s : Shared) (H : Hp) (C : Addr) (cl : List (Str × Addr)) (fp : List Addr), PTs (X.blk s H scope (compEnvC scope cl C X.env) fp) ifs (lT mg W0 T))
    (he : ∀ (s : Shared) (H : Hp) (C : Addr) (cl : List (Str × Addr)) (fp : List Addr), PE (X.blk s H scope (compEnvC scope cl C X.env) fp) elt (lE mg W0 E)) (hs : ∀ x, foldedSetIterable iter X.env x = pure x := by intro _; rfl) :
    PE X (.ListComp elt [⟨tg, iter, ifs, 0⟩] scope pos) (lfL mg W (aLc I G T E (own.map (·.2)))) := weakE (pe_lc hc hN hi ok hg ht he hs) fun _ _ _ q => lc_ok q

/-! ### statements -/
def FinS (mg : Str → Option Value) (W : WX) (wa : Addr) (H0 Hf0 Hf : Hp) (r : RS) (D : Ends) : Prop := match r with
  | .nx s w => ∀ σ H' Hf', Go wa H0 Hf0 H' Hf' → Ex Hf Hf' → Base wa Hf' H' w → Slots wa Hf' H' σ s → OwnNew H0 σ s → D.nx σ H'
  | .bk s w => ∀ σ H' Hf', Go wa H0 Hf0 H' Hf' → Ex Hf Hf' → Base wa Hf' H' w → Slots wa Hf' H' σ s → OwnNew H0 σ s → D.bk σ H'
  | .ct s w => ∀ σ H' Hf', Go wa H0 Hf0 H' Hf' → Ex Hf Hf' → Base wa Hf' H' w → Slots wa Hf' H' σ s → OwnNew H0 σ s → D.ct σ H'
  | .rt d w => ∀ H' Hf' v, Go wa H0 Hf0 H' Hf' → Base wa Hf' H' w → Rep wa Hf' v d → D.rt v H'
  | .er x s w => ∀ σ H' Hf' cls dx, Go wa H0 Hf0 H' Hf' → Ex Hf Hf' → Base wa Hf' H' w → Slots wa Hf' H' σ s → OwnNew H0 σ s → ErrV mg wa Hf' x cls dx → W cls dx σ H'
  | .no => False
def lS (mg : Str → Option Value) (W : WX) (S : DS) : TS := fun D σ H => ∃ wa Hf sD w H0 Hf0, Go wa H0 Hf0 H Hf ∧ Base wa Hf H w ∧ Slots wa Hf H σ sD ∧ OwnNew H0 σ sD ∧ FinS mg W wa H0 Hf0 Hf (S sD w) D
theorem FinS.shift {H0 Hf0 Hf Hf1 : Hp} {r : RS} {D : Ends} (h : FinS mg W wa H0 Hf0 Hf r D) (x : Ex Hf Hf1) : FinS mg W wa H0 Hf0 Hf1 r D := by
  cases r with
  | nx s w => exact fun σ H' Hf' g e => h σ H' Hf' g (x.trans e)
  | bk s w => exact fun σ H' Hf' g e => h σ H' Hf' g (x.trans e)
  | ct s w => exact fun σ H' Hf' g e => h σ H' Hf' g (x.trans e)
  | rt d w => exact h
  | er y s w => exact fun σ H' Hf' cls dx g e => h σ H' Hf' cls dx g (x.trans e)
  | no => exact h
theorem weakS {st : Stmt} {t t' : TS} (h : PS X st t) (i : ∀ D σ H, t' D σ H → t D σ H) : PS X st t' := ⟨fun pins s σ H D I q => h.run pins s σ H D I (i D σ H q)⟩
theorem weakSs {st : List Stmt} {t t' : TS} (h : PSs X st t) (i : ∀ D σ H, t' D σ H → t D σ H) : PSs X st t' := ⟨fun pins s σ H D I q => h.run pins s σ H D I (i D σ H q)⟩
def sNx : DS := fun s w => .nx s w
def sSeq (S T : DS) : DS := fun s w => match S s w with
  | .nx s1 w1 => T s1 w1
  | o => o
variable {st : Stmt} {rest sts : List Stmt} {S T U : DS} {A B E : DE} {As : DA}
theorem sd_nil : PSs X [] (lS mg W sNx) := weakSs pss_nil fun D σ H h => by
  obtain ⟨wa, Hf, sD, w, H0, Hf0, g, b, hs, ho, h⟩ := h
  exact h σ H Hf g (Ex.refl _) b hs ho
theorem sd_cons (h1 : PS X st (lS mg W S)) (h2 : PSs X rest (lS mg W T)) : PSs X (st :: rest) (lS mg W (sSeq S T)) := weakSs (pss_cons h1 h2) fun D σ H h => by
  obtain ⟨wa, Hf, sD, w, H0, Hf0, g, b, hs, ho, h⟩ := h
  refine ⟨wa, Hf, sD, w, H0, Hf0, g, b, hs, ho, ?_⟩
  unfold sSeq at h
  cases e : S sD w with
  | nx s1 w1 =>
    rw [e] at h
    exact fun σ' H' Hf' g' x' b' hs' ho' => ⟨wa, Hf', s1, w1, H0, Hf0, g', b', hs', ho', h.shift x'⟩
  | bk s1 w1 => rw [e] at h; exact h
  | ct s1 w1 => rw [e] at h; exact h
  | rt d w1 => rw [e] at h; exact h
  | er x s1 w1 => rw [e] at h; exact h
  | no => rw [e] at h; exact h
theorem sd_one (h1 : PS X st (lS mg W S)) : PSs X [st] (lS mg W S) := pss_one h1
def sAsg (i : Nat) (E : DE) : DS := fun s w => match E s w with
  | .ok d w1 => .nx (s.set i (some d)) w1
  | .er x w1 => .er x s w1
  | .no => .no
theorem sd_asg {i : Nat} (h : PS X st (tAsg (lE mg W E) (gName i))) : PS X st (lS mg W (sAsg i E)) := weakS h fun D σ H h => by
  obtain ⟨wa, Hf, sD, w, H0, Hf0, g, b, hs, ho, h⟩ := h
  refine ⟨wa, Hf, sD, w, b, hs, ?_⟩
  unfold sAsg at h
  cases e : E sD w with
  | ok d w1 =>
    rw [e] at h
    exact fun H1 Hf1 g1 b1 v rv => h (σ.set i (some v)) H1 Hf1 (g.trans g1) g1.ex b1 ((hs.go g1).set rv) (ho.set (rep_isO rv))
  | er x w1 =>
    rw [e] at h
    exact fun H1 Hf1 g1 b1 cls dx ev => h σ H1 Hf1 cls dx (g.trans g1) g1.ex b1 (hs.go g1) ho ev
  | no => rw [e] at h; exact h
/-- a new list that its slot owns -/
def sNew (i : Nat) (E : DA) : DS := fun s w => match E s w with
  | .ok d w1 => .nx (s.set i (some (.own d))) w1
  | .er x w1 => .er x s w1
  | .no => .no
theorem sd_new {i : Nat} (h : PS X st (tAsg (lfL mg W As) (gName i))) : PS X st (lS mg W (sNew i As)) := weakS h fun D σ H h => by
  obtain ⟨wa, Hf, sD, w, H0, Hf0, g, b, hs, ho, h⟩ := h
  refine ⟨wa, Hf, sD, w, b, hs, ?_⟩
  unfold sNew at h
  cases e : As sD w with
  | ok d w1 =>
    rw [e] at h
    refine fun H1 Hf1 g1 b1 p vs hp e1 e2 e3 rv => h (σ.set i (some (.ref p))) H1 Hf1 (g.trans g1) g1.ex b1 ((hs.go g1).setOwn e1 e2 e3 rv fun j ye hj io hp' => ?_) (ho.setOwn hs.len (g.fr hp))
    obtain ⟨q, o, k1, k2, k3, _⟩ := hs.oAt hj io
    rw [hp'] at k1
    cases k1
    exact hp _ k2 k3
  | er x w1 =>
    rw [e] at h
    exact fun H1 Hf1 g1 b1 cls dx ev => h σ H1 Hf1 cls dx (g.trans g1) g1.ex b1 (hs.go g1) ho ev
  | no => rw [e] at h; exact h
theorem asg_weak {te te' : TE} {i : Nat} (h : PS X st (tAsg te (gName i))) (w : ∀ σ H Q, te' σ H Q → te σ H Q) : PS X st (tAsg te' (gName i)) := weakS h fun D σ H q => w σ H _ q
/-- any target -/
def sTg (G : DG) (E : DE) : DS := fun s w => match E s w with
  | .ok d w1 => match G d s with
    | some s1 => .nx s1 w1
    | none => .no
  | .er x w1 => .er x s w1
  | .no => .no
theorem sd_tg {G : DG} {vs : List Nat} (h : PS X st (tAsg (lE mg W E) (lG vs G))) : PS X st (lS mg W (sTg G E)) := weakS h fun D σ H h => by
  obtain ⟨wa, Hf, sD, w, H0, Hf0, g, b, hs, ho, h⟩ := h
  refine ⟨wa, Hf, sD, w, b, hs, ?_⟩
  unfold sTg at h
  cases e : E sD w with
  | ok d w1 =>
    rw [e] at h
    dsimp only at h
    cases eg : G d sD with
    | none => rw [eg] at h; exact h.elim
    | some s1 =>
      rw [eg] at h
      exact fun H1 Hf1 g1 b1 v rv => ⟨wa, Hf1, H0, w1, sD, d, s1, b1, rv, hs.go g1, ho, eg, fun σ' hs' ho' _ => h σ' H1 Hf1 (g.trans g1) g1.ex b1 hs' ho'⟩
  | er x w1 =>
    rw [e] at h
    exact fun H1 Hf1 g1 b1 cls dx ev => h σ H1 Hf1 cls dx (g.trans g1) g1.ex b1 (hs.go g1) ho ev
  | no => rw [e] at h; exact h
def sDrop (E : DE) : DS := fun s w => match E s w with
  | .ok _ w1 => .nx s w1
  | .er x w1 => .er x s w1
  | .no => .no
theorem sd_expr (he : PE X e (lE mg W E)) (hsw : swapsWith e none pos.line X.env = pure false := by rfl) : PS X (.Expr e pos) (lS mg W (sDrop E)) := weakS (ps_expr he hsw) fun D σ H h => by
  obtain ⟨wa, Hf, sD, w, H0, Hf0, g, b, hs, ho, h⟩ := h
  refine ⟨wa, Hf, sD, w, b, hs, ?_⟩
  unfold sDrop at h
  cases e : E sD w with
  | ok d w1 =>
    rw [e] at h
    exact fun H1 Hf1 g1 b1 v rv => h σ H1 Hf1 (g.trans g1) g1.ex b1 (hs.go g1) ho
  | er x w1 =>
    rw [e] at h
    exact fun H1 Hf1 g1 b1 cls dx ev => h σ H1 Hf1 cls dx (g.trans g1) g1.ex b1 (hs.go g1) ho ev
  | no => rw [e] at h; exact h
/-- x.append(e), x the slot's own list -/
def sApp (i : Nat) (E : DE) : DS := fun s w => match s[i]? with
  | some (some (.own xs)) => match E s w with
    | .ok d w1 => if xs.length < lim then .nx (s.set i (some (.own (xs ++ [d])))) w1 else .no
    | .er x w1 => .er x s w1
    | .no => .no
  | _ => .no
theorem sd_app {i : Nat} (h : PS X st (tDrop (tBM X.K "list" rAppend (tVar i) (tCons (lE mg W E) tNil)))) : PS X st (lS mg W (sApp i E)) := weakS h fun D σ H h => by
  obtain ⟨wa, Hf, sD, w, H0, Hf0, g, b, hs, ho, h⟩ := h
  unfold sApp at h
  split at h
  · rename_i xs hi
    obtain ⟨p, vs, k1, k2, k3, k4, k5⟩ := hs.own i xs hi
    refine ⟨.ref p, k1, .inl ⟨rfl, vs, SqL.of k2⟩, wa, Hf, sD, w, b, hs, ?_⟩
    cases e : E sD w with
    | ok d w1 =>
      rw [e] at h
      dsimp only at h
      split at h
      · rename_i hz
        intro H1 Hf1 g1 b1 v rv
        have hs1 := hs.go g1
        have kp : H1 p = some (.lst vs) := g1.keep p _ k4 k2
        have kf : Hf1 p = none := (g1.new p _ k2).trans k3
        have h0 : Fr H0 p := ho i _ p hi isO_own k1
        have r1 : Reps wa Hf1 (vs ++ [v]) (xs ++ [d]) := (k5.mono g1.ex).append (.cons rv .nil)
        refine ⟨p, vs, v, rfl, rfl, kp, Nat.lt_of_lt_of_le (by rw [k5.length]; exact hz) (lim_le (Nat.le_refl _)), ?_⟩
        refine h σ _ Hf1 ?_ g1.ex ?_ (hs1.write hi k1 r1) (ho.sub fun j ye hj io => ?_)
        · have gg := g.trans g1
          exact gg.appF h0
        · exact b1.appL kf k4 kp
        · by_cases hji : j = i
          · subst hji
            exact ⟨_, hi, isO_own⟩
          · rw [List.getElem?_set_ne (Ne.symm hji)] at hj
            exact ⟨ye, hj, io⟩
      · exact h.elim
    | er x w1 =>
      rw [e] at h
      exact fun H1 Hf1 g1 b1 cls dx ev => h σ H1 Hf1 cls dx (g.trans g1) g1.ex b1 (hs.go g1) ho ev
    | no => rw [e] at h; exact h
  · exact h.elim
/-- the well's k-th number stored -/
def setW (w : Wl) (k : Int) (z : Int) : Option Wl := if k = 0 then some (z, w.2.1, w.2.2) else if k = 1 then some (w.1, z, w.2.2) else if k = 2 then some (w.1, w.2.1, z) else none
def sSetW (A B E : DE) : DS := fun s w => match (E s w).bind fun d w1 => (A s w1).bind fun x w2 => (B s w2).bind fun k w3 => .ok [d, x, k] w3 with
  | .ok [.int z, .well, .int k] w3 => match setW w3 k z with
    | some w4 => .nx s w4
    | none => .no
  | .er x w3 => .er x s w3
  | _ => .no
theorem sd_setW (h : PS X st (tAsg (lE mg W E) (gSub (lE mg W A) (lE mg W B) rSetL))) : PS X st (lS mg W (sSetW A B E)) := weakS h fun D σ H h => by
  obtain ⟨wa, Hf, sD, w, H0, Hf0, g, b, hs, ho, h⟩ := h
  refine ⟨wa, Hf, sD, w, b, hs, ?_⟩
  unfold sSetW at h
  cases e : E sD w with
  | no => rw [e] at h; exact h
  | er x w1 =>
    rw [e] at h
    exact fun H1 Hf1 g1 b1 cls dx ev => h σ H1 Hf1 cls dx (g.trans g1) g1.ex b1 (hs.go g1) ho ev
  | ok d w1 =>
    rw [e, R.bind_ok] at h
    intro H1 Hf1 g1 b1 v rv
    refine ⟨wa, Hf1, sD, w1, b1, hs.go g1, ?_⟩
    cases e2 : A sD w1 with
    | no => rw [e2] at h; exact h
    | er x w2 =>
      rw [e2] at h
      exact fun H2 Hf2 g2 b2 cls dx ev => h σ H2 Hf2 cls dx ((g.trans g1).trans g2) (g1.ex.trans g2.ex) b2 ((hs.go g1).go g2) ho ev
    | ok x w2 =>
      rw [e2, R.bind_ok] at h
      intro H2 Hf2 g2 b2 v2 rv2
      refine ⟨wa, Hf2, sD, w2, b2, (hs.go g1).go g2, ?_⟩
      cases e3 : B sD w2 with
      | no => rw [e3] at h; exact h
      | er x w3 =>
        rw [e3] at h
        exact fun H3 Hf3 g3 b3 cls dx ev => h σ H3 Hf3 cls dx (((g.trans g1).trans g2).trans g3) ((g1.ex.trans g2.ex).trans g3.ex) b3 (((hs.go g1).go g2).go g3) ho ev
      | ok k w3 =>
        rw [e3, R.bind_ok] at h
        intro H3 Hf3 g3 b3 v3 rv3
        split at h
        · rename_i z k' w3' heq
          cases heq
          cases rv3
          cases rv2
          cases rv
          split at h
          · rename_i w4 hw
            have fin : ∀ j, ixN (wl w3).length k' = some j → wl w4 = (wl w3).set j (.int z) → rSetL (.ref wa) (.int k') (.int z) H3 fun H4 => D.nx σ H4 := fun j hj he => by
              refine ⟨wa, wl w3, k', j, rfl, rfl, b3.well, hj, ?_⟩
              rw [← he]
              have gg := (((g.trans g1).trans g2).trans g3)
              have hs3 := ((hs.go g1).go g2).go g3
              have g4 : Go wa H3 Hf3 (upd H3 wa (.lst (wl w4))) Hf3 := ⟨fun a o n _ q => by rw [upd_ne n]; exact q, Ex.refl _, fun _ _ _ _ => rfl, fun a o t q => by
                by_cases ha : a = wa
                · exact ⟨_, nt_lst, by rw [ha]; exact upd_same⟩
                · exact ⟨o, t, by rw [upd_ne ha]; exact q⟩⟩
              exact h σ _ Hf3 (gg.trans g4) ((g1.ex.trans g2.ex).trans g3.ex) ⟨Evl.Ex.mut b3.ex b3.nw, upd_same, b3.nw, tabs_upd b3.tb (.inr ⟨_, b3.well⟩), b3.nt⟩ (hs3.go g4) ho
            unfold setW at hw
            split at hw
            · rename_i h0
              cases hw
              subst h0
              exact fin 0 rfl rfl
            · split at hw
              · rename_i h0
                cases hw
                subst h0
                exact fin 1 rfl rfl
              · split at hw
                · rename_i h0
                  cases hw
                  subst h0
                  exact fin 2 rfl rfl
                · cases hw
          · exact h.elim
        · rename_i heq
          cases heq
        · exact h.elim
def sIf (C : DT) (S T : DS) : DS := fun s w => match C s w with
  | .ok k w1 => if k then S s w1 else T s w1
  | .er x w1 => .er x s w1
  | .no => .no
theorem sd_if {c : Expr} {a b : List Stmt} {C : DT} (hc : PT X c (lT mg W C)) (ha : PSs X a (lS mg W S)) (hb : PSs X b (lS mg W T)) : PS X (.If c a b pos) (lS mg W (sIf C S T)) := weakS (ps_if hc ha hb) fun D σ H h => by
  obtain ⟨wa, Hf, sD, w, H0, Hf0, g, b, hs, ho, h⟩ := h
  refine ⟨wa, Hf, sD, w, b, hs, ?_⟩
  unfold sIf at h
  cases e : C sD w with
  | no => rw [e] at h; exact h
  | er x w1 =>
    rw [e] at h
    exact fun H1 Hf1 g1 b1 cls dx ev => h σ H1 Hf1 cls dx (g.trans g1) g1.ex b1 (hs.go g1) ho ev
  | ok k w1 =>
    rw [e] at h
    intro H1 Hf1 g1 b1 v rv
    have ev : v = k := rv
    subst ev
    cases v with
    | true => exact iteT ⟨wa, Hf1, sD, w1, H0, Hf0, g.trans g1, b1, hs.go g1, ho, FinS.shift h g1.ex⟩
    | false => exact iteF ⟨wa, Hf1, sD, w1, H0, Hf0, g.trans g1, b1, hs.go g1, ho, FinS.shift h g1.ex⟩
def sRet (E : DE) : DS := fun s w => match E s w with
  | .ok d w1 => .rt d w1
  | .er x w1 => .er x s w1
  | .no => .no
theorem sd_ret (he : PE X e (lE mg W E)) : PS X (.Return (some e) pos) (lS mg W (sRet E)) := weakS (ps_ret he) fun D σ H h => by
  obtain ⟨wa, Hf, sD, w, H0, Hf0, g, b, hs, ho, h⟩ := h
  refine ⟨wa, Hf, sD, w, b, hs, ?_⟩
  unfold sRet at h
  cases e : E sD w with
  | ok d w1 =>
    rw [e] at h
    exact fun H1 Hf1 g1 b1 v rv => h H1 Hf1 v (g.trans g1) b1 rv
  | er x w1 =>
    rw [e] at h
    exact fun H1 Hf1 g1 b1 cls dx ev => h σ H1 Hf1 cls dx (g.trans g1) g1.ex b1 (hs.go g1) ho ev
  | no => rw [e] at h; exact h
/-- a, b = e1, e2 -/
def sPar (i j : Nat) (As : DA) : DS := fun s w => match As s w with
  | .ok [x, y] w1 => .nx ((s.set i (some x)).set j (some y)) w1
  | .er x w1 => .er x s w1
  | _ => .no
theorem sd_par {i j : Nat} (h : PS X st (tPar i j (lA mg W As))) : PS X st (lS mg W (sPar i j As)) := weakS h fun D σ H h => by
  obtain ⟨wa, Hf, sD, w, H0, Hf0, g, b, hs, ho, h⟩ := h
  refine ⟨wa, Hf, sD, w, b, hs, ?_⟩
  unfold sPar at h
  cases e : As sD w with
  | ok d w1 =>
    rw [e] at h
    intro H1 Hf1 g1 b1 v rv
    split at h
    · rename_i x y w1' heq
      cases heq
      cases rv with
      | cons r1 r2 =>
        cases r2 with
        | cons r2 r3 =>
          cases r3
          have n1 : ¬ IsO x := rep_isO r1
          have n2 : ¬ IsO y := rep_isO r2
          exact ⟨_, _, rfl, h _ H1 Hf1 (g.trans g1) g1.ex b1 (((hs.go g1).set r1).set r2) ((ho.set n1).set n2)⟩
    · rename_i heq
      cases heq
    · exact h.elim
  | er x w1 =>
    rw [e] at h
    exact fun H1 Hf1 g1 b1 cls dx ev => h σ H1 Hf1 cls dx (g.trans g1) g1.ex b1 (hs.go g1) ho ev
  | no => rw [e] at h; exact h
/-- from here on the slot's own list is only read -/
def frzS (i : Nat) (s : Sl) : Sl := match s[i]? with
  | some (some (.own xs)) => s.set i (some (.lst xs))
  | _ => s
def sFrz (i : Nat) (S : DS) : DS := fun s w => S (frzS i s) w
theorem frz_ok {i : Nat} {D : Ends} (h : lS mg W (sFrz i S) D σ H) : lS mg W S D σ H := by
  obtain ⟨wa, Hf, sD, w, H0, Hf0, g, b, hs, ho, h⟩ := h
  unfold sFrz frzS at h
  split at h
  · rename_i xs hi
    obtain ⟨p, vs, k1, k2, k3, k4, k5⟩ := hs.own i xs hi
    have h0 : Fr H0 p := ho i _ p hi isO_own k1
    have x1 : Ex Hf (upd Hf p (.lst vs)) := Ex.new k3
    refine ⟨wa, upd Hf p (.lst vs), _, w, H0, Hf0, ⟨g.keepN, g.ex.trans x1, fun a o t q => by rw [upd_ne (ne_of_fr q t h0)]; exact g.newN a o t q, g.thereN⟩, ⟨fun a u q => ?_, b.well, by rw [upd_ne (Ne.symm k4)]; exact b.nw, b.tb, nt_upd b.nt nt_lst⟩, hs.frz hi k1 k2, ho.sub fun j ye hj io => ?_, FinS.shift h x1⟩
    · by_cases ha : a = p
      · subst ha; rw [upd_same] at q; rw [← q]; exact k2
      · rw [upd_ne ha] at q; exact b.ex a u q
    · by_cases hji : j = i
      · subst hji
        rw [List.getElem?_set_self (List.getElem?_eq_some_iff.mp hi).1] at hj
        cases hj
        rcases io with ⟨zs, z⟩ | ⟨ks, zs, z⟩ <;> cases z
      · rw [List.getElem?_set_ne (Ne.symm hji)] at hj
        exact ⟨ye, hj, io⟩
  · exact ⟨wa, Hf, sD, w, H0, Hf0, g, b, hs, ho, h⟩
theorem sd_frz (i : Nat) (h : PSs X sts (lS mg W S)) : PSs X sts (lS mg W (sFrz i S)) := weakSs h fun _ _ _ q => frz_ok q
theorem sd_frz1 (i : Nat) (h : PS X st (lS mg W S)) : PS X st (lS mg W (sFrz i S)) := weakS h fun _ _ _ q => frz_ok q
/-! ### loops -/
def loopD (G : DG) (B : DS) : List D → DS
  | [], s, w => .nx s w
  | d :: r, s, w => match G d s with
    | none => .no
    | some s1 => match B s1 w with
      | .nx s2 w2 => loopD G B r s2 w2
      | .ct s2 w2 => loopD G B r s2 w2
      | .bk s2 w2 => .nx s2 w2
      | o => o
def sFor (I : DI) (G : DG) (B : DS) : DS := fun s w => match I s w with
  | .ok ds w1 => loopD G B ds s w1
  | .er x w1 => .er x s w1
  | .no => .no
theorem sd_for {I : DI} {G : DG} {S : DS} {vs : List Nat} {body : List Stmt} (hp : PassesOwn (model X.prog X.w) X.A X.env X.xe) (hc : X.calm = true) (hi : PI X tg iter (lI mg W I)) (hg : PG X tg (lG vs G)) (hb : PSs X body (lS mg W S))
    (hfs : ∀ x, foldedSetIterable iter X.env x = pure x := by intro _; rfl) : PS X (.For tg iter body [] pos) (lS mg W (sFor I G S)) := weakS (ps_for hp hc hi hg hb hfs) fun D σ H h => by
  obtain ⟨wa, Hf, sD, w, H0, Hf0, g, b, hs, ho, h⟩ := h
  refine ⟨wa, Hf, sD, w, b, hs, ?_⟩
  unfold sFor at h
  cases e : I sD w with
  | no => rw [e] at h; exact h
  | er x w1 =>
    rw [e] at h
    exact fun H1 Hf1 g1 b1 cls dx ev => h σ H1 Hf1 cls dx (g.trans g1) g1.ex b1 (hs.go g1) ho ev
  | ok ds w1 =>
    rw [e] at h
    intro H1 Hf1 g1 b1 J wk
    have h1 := FinS.shift h g1.ex
    refine ⟨fun i m σ2 H2 => m = ds.length - i ∧ i ≤ ds.length ∧ ∃ Hf2 s2 w2, Go wa H0 Hf0 H2 Hf2 ∧ Ex Hf1 Hf2 ∧ Base wa Hf2 H2 w2 ∧ Slots wa Hf2 H2 σ2 s2 ∧ OwnNew H0 σ2 s2 ∧ FinS mg W wa H0 Hf0 Hf2 (loopD G S (ds.drop i) s2 w2) D,
      ⟨ds.length, by simp, Nat.zero_le _, Hf1, sD, w1, g.trans g1, Ex.refl _, b1, hs.go g1, ho, h1⟩, ?_⟩
    rintro i m σ2 H2 ⟨rfl, hle, Hf2, s2, w2, g2, x2, b2, hs2, ho2, h2⟩
    by_cases hlt : i < ds.length
    · have ed : ds.drop i = ds[i] :: ds.drop (i + 1) := List.drop_eq_getElem_cons hlt
      rw [ed] at h2
      have gi : ds[i]? = some ds[i] := by simp [hlt]
      refine .inr ⟨wk.goes i H2 hlt (x2.trans b2.ex), fun σ' H' => ∃ Hf2 s2 w2, Go wa H0 Hf0 H' Hf2 ∧ Ex Hf1 Hf2 ∧ Base wa Hf2 H' w2 ∧ Slots wa Hf2 H' σ' s2 ∧ OwnNew H0 σ' s2 ∧ FinS mg W wa H0 Hf0 Hf2 (loopD G S (ds.drop (i + 1)) s2 w2) D,
        fun σ' H' hN => ⟨ds.length - (i + 1), by omega, rfl, hlt, hN⟩, fun x H3 hy => ?_⟩
      obtain ⟨Hf3, g3, b3, r3⟩ := wk.yields i H2 Hf2 w2 x H3 _ gi x2 b2 hy
      unfold loopD at h2
      cases eg : G ds[i] s2 with
      | none => rw [eg] at h2; exact h2.elim
      | some s3 =>
        rw [eg] at h2
        dsimp only at h2
        refine ⟨wa, Hf3, H0, w2, s2, ds[i], s3, b3, r3, hs2.go g3, ho2, eg, fun σ4 hs4 ho4 _ => ⟨wa, Hf3, s3, w2, H0, Hf0, g2.trans g3, b3, hs4, ho4, ?_⟩⟩
        cases eb : S s3 w2 with
        | nx s5 w5 =>
          rw [eb] at h2
          exact fun σ5 H5 Hf5 g5 x5 b5 hs5 ho5 => ⟨Hf5, s5, w5, g5, (x2.trans g3.ex).trans x5, b5, hs5, ho5, FinS.shift h2 (g3.ex.trans x5)⟩
        | ct s5 w5 =>
          rw [eb] at h2
          exact fun σ5 H5 Hf5 g5 x5 b5 hs5 ho5 => ⟨Hf5, s5, w5, g5, (x2.trans g3.ex).trans x5, b5, hs5, ho5, FinS.shift h2 (g3.ex.trans x5)⟩
        | bk s5 w5 =>
          rw [eb] at h2
          exact fun σ5 H5 Hf5 g5 x5 b5 hs5 ho5 => h2 σ5 H5 Hf5 g5 (g3.ex.trans x5) b5 hs5 ho5
        | rt d w5 => rw [eb] at h2; exact h2
        | er y s5 w5 => rw [eb] at h2; exact FinS.shift (r := .er y s5 w5) h2 g3.ex
        | no => rw [eb] at h2; exact h2
    · have ei : i = ds.length := by omega
      subst ei
      rw [List.drop_length] at h2
      exact .inl ⟨wk.stops H2 (x2.trans b2.ex), h2 σ2 H2 Hf2 g2 (Ex.refl _) b2 hs2 ho2⟩
/-- at most n turns -/
def whileD (C : DT) (B : DS) : Nat → DS
  | 0, _, _ => .no
  | n + 1, s, w => match C s w with
    | .ok true w1 => match B s w1 with
      | .nx s2 w2 => whileD C B n s2 w2
      | .ct s2 w2 => whileD C B n s2 w2
      | .bk s2 w2 => .nx s2 w2
      | o => o
    | .ok false w1 => .nx s w1
    | .er x w1 => .er x s w1
    | .no => .no
theorem sd_while {c : Expr} {C : DT} {S : DS} {body : List Stmt} (n : Nat) (hp : PassesOwn (model X.prog X.w) X.A X.env X.xe) (hc : PT X c (lT mg W C)) (hb : PSs X body (lS mg W S)) : PS X (.While c body [] pos) (lS mg W (whileD C S n)) := weakS (ps_while hp hc hb) fun D σ H h => by
  obtain ⟨wa, Hf, sD, w, H0, Hf0, g, b, hs, ho, h⟩ := h
  refine ⟨fun m σ2 H2 => ∃ Hf2 s2 w2, Go wa H0 Hf0 H2 Hf2 ∧ Base wa Hf2 H2 w2 ∧ Slots wa Hf2 H2 σ2 s2 ∧ OwnNew H0 σ2 s2 ∧ Ex Hf Hf2 ∧ FinS mg W wa H0 Hf0 Hf2 (whileD C S m s2 w2) D, ⟨n, Hf, sD, w, g, b, hs, ho, Ex.refl _, h⟩, ?_⟩
  rintro m σ2 H2 ⟨Hf2, s2, w2, g2, b2, hs2, ho2, x2, h2⟩
  cases m with
  | zero => exact h2.elim
  | succ m =>
    unfold whileD at h2
    refine ⟨wa, Hf2, s2, w2, b2, hs2, ?_⟩
    cases ec : C s2 w2 with
    | no => rw [ec] at h2; exact h2
    | er x w3 =>
      rw [ec] at h2
      exact fun H1 Hf1 g1 b1 cls dx ev => h2 σ2 H1 Hf1 cls dx (g2.trans g1) g1.ex b1 (hs2.go g1) ho2 ev
    | ok k w3 =>
      rw [ec] at h2
      intro H3 Hf3 g3 b3 v rv
      have ev : v = k := rv
      subst ev
      cases v with
      | false => exact iteF (h2 σ2 H3 Hf3 (g2.trans g3) g3.ex b3 (hs2.go g3) ho2)
      | true =>
        dsimp only at h2
        refine iteT ⟨fun σ' H' => ∃ Hf2 s2 w2, Go wa H0 Hf0 H' Hf2 ∧ Base wa Hf2 H' w2 ∧ Slots wa Hf2 H' σ' s2 ∧ OwnNew H0 σ' s2 ∧ Ex Hf Hf2 ∧ FinS mg W wa H0 Hf0 Hf2 (whileD C S m s2 w2) D, fun σ' H' hN => ⟨m, Nat.lt_succ_self m, hN⟩,
          wa, Hf3, s2, w3, H0, Hf0, g2.trans g3, b3, hs2.go g3, ho2, ?_⟩
        cases eb : S s2 w3 with
        | nx s5 w5 =>
          rw [eb] at h2
          exact fun σ5 H5 Hf5 g5 x5 b5 hs5 ho5 => ⟨Hf5, s5, w5, g5, b5, hs5, ho5, (x2.trans g3.ex).trans x5, FinS.shift h2 (g3.ex.trans x5)⟩
        | ct s5 w5 =>
          rw [eb] at h2
          exact fun σ5 H5 Hf5 g5 x5 b5 hs5 ho5 => ⟨Hf5, s5, w5, g5, b5, hs5, ho5, (x2.trans g3.ex).trans x5, FinS.shift h2 (g3.ex.trans x5)⟩
        | bk s5 w5 =>
          rw [eb] at h2
          exact fun σ5 H5 Hf5 g5 x5 b5 hs5 ho5 => h2 σ5 H5 Hf5 g5 (g3.ex.trans x5) b5 hs5 ho5
        | rt d w5 => rw [eb] at h2; exact h2
        | er y s5 w5 => rw [eb] at h2; exact FinS.shift (r := .er y s5 w5) h2 g3.ex
        | no => rw [eb] at h2; exact h2
end
/-! ### a def -/
def runB (n k : Nat) (B : DS) : DF := fun ds w => if ds.length = k then match B (ds.map some ++ List.replicate (n - k) none) w with
    | .nx _ w1 => .ok .non w1
    | .rt d w1 => .ok d w1
    | .er x _ w1 => .er x w1
    | _ => .no
  else .no
section
variable {P : Program} {w : World} {K : PySem.W.Frag} {mg : Str → Option Value} {base : Heap}
theorem slots_start {wa : Addr} {Hf H : Hp} {vs : List V} {ds : List D} {N : List Str} (hl : vs.length ≤ N.length) (r : Reps wa Hf vs ds) : Slots wa Hf H (L2.start N vs) (ds.map some ++ List.replicate (N.length - ds.length) none) := by
  have e := r.length
  have key : ∀ (i : Nat) (d : D), (ds.map some ++ List.replicate (N.length - ds.length) none)[i]? = some (some d) → ds[i]? = some d := fun i d h => by
    rw [List.getElem?_append] at h
    split at h
    · rw [List.getElem?_map] at h
      cases q : ds[i]? with
      | none => rw [q] at h; cases h
      | some z => rw [q] at h; cases h; rfl
    · rw [List.getElem?_replicate] at h
      split at h <;> cases h
  have nown : ∀ (i : Nat) (d : D), IsO d → ds[i]? ≠ some d := fun i d io h => by
    obtain ⟨v, _, r'⟩ := r.get h
    exact rep_isO r' io
  refine ⟨by unfold L2.start; simp [e], fun i d h n => ?_, fun i xs h => absurd (key i _ h) (nown i _ isO_own), fun i ks xs h => absurd (key i _ h) (nown i _ isO_dct), fun i j d e p h io _ _ _ _ => absurd (key i _ h) (nown i d io)⟩
  obtain ⟨v, h1, h2⟩ := r.get (key i d h)
  refine ⟨v, ?_, h2⟩
  unfold L2.start
  have hi : i < vs.length := (List.getElem?_eq_some_iff.mp h1).1
  rw [List.getElem?_append_left (by simpa using hi), List.getElem?_map, h1]
  rfl
theorem fnD {x qual : Str} {st : Stmt} {f : Addr} {fd : FuncData} {N ps : List Str} {k : Nat} (F : Fun K x qual st f fd) (S : FnScope N ps (defScope st)) (hN : ps.length ≤ N.length) (B : DS)
    (h : ∀ (cdv : Value) (A : Around) (outer : List Env) (s : Shared) (H : Hp) (E : XK), Room k (A.deeper (envOfC qual (defScope st) s.heap.objs.size f cdv)) →
      PSs (cxOf (L2.CX P w) P w K mg base N qual (defScope st) f cdv A outer s H E) (defBody st) (lS mg (fun cls d _ H => E cls d H) B)) : FnD P w K mg base (k + 1) f fd ps (runB N.length ps.length B) := by
  refine F.okX S (fun vs H Q E ⟨wa, Hf, ds, w, hb, r, hl, _⟩ => by rw [r.length]; exact hl) fun cdv A outer s H vs Q E hr ⟨wa, Hf, ds, w, hb, r, hl, q⟩ => ⟨_, h cdv A outer s H E hr, ?_⟩
  have hvl : vs.length ≤ N.length := by rw [r.length, hl]; exact hN
  have hst := slots_start (H := H) hvl r
  refine ⟨wa, Hf, _, w, H, Hf, Go.refl, hb, hst, fun i d p h1 io _ => ?_, ?_⟩
  · exfalso
    rw [List.getElem?_append] at h1
    split at h1
    · rw [List.getElem?_map] at h1
      cases e : ds[i]? with
      | none => rw [e] at h1; cases h1
      | some z =>
        rw [e] at h1
        cases h1
        obtain ⟨v, _, r'⟩ := r.get e
        exact rep_isO r' io
    · rw [List.getElem?_replicate] at h1
      split at h1 <;> cases h1
  · unfold runB at q
    rw [if_pos hl, ← hl] at q
    cases eB : B (ds.map some ++ List.replicate (N.length - ds.length) none) w with
    | nx s1 w1 => rw [eB] at q; exact fun σ H' Hf' g _ b _ _ => q H' Hf' g b _ .non
    | rt d w1 => rw [eB] at q; exact fun H' Hf' v g b r' => q H' Hf' g b v r'
    | er y s1 w1 => rw [eB] at q; exact fun σ H' Hf' cls dx g _ b _ _ ev => q H' Hf' g b cls dx ev
    | bk s1 w1 => rw [eB] at q; exact q.elim
    | ct s1 w1 => rw [eB] at q; exact q.elim
    | no => rw [eB] at q; exact q.elim
end
end DL

set_option maxHeartbeats 4000000
namespace DL
open PySem PySem.Spec PyProof.Rows L2
variable [TabT]
open Evl (Ex)
/-! ### zip of two, of three, each a list or a tuple -/
def hoK (k : Bool) (xs : List V) : HO := match k with | true => .tup xs | false => .lst xs
def SI (k : Bool) (h : Heap) (it l : Addr) (i : Nat) : Prop := match k with | true => h.IsTupleIter it l i | false => h.IsListIter it l i
def SQ (k : Bool) (h : Heap) (l : Addr) (xs : Array Value) : Prop := match k with | true => h.IsTuple l xs | false => h.IsList l xs
def itO (k : Bool) (l : Addr) : Obj := match k with
  | true => { cls := .type "tuple_iterator", data := .fields #[.ref l, .int 0 0] }
  | false => { cls := .type "list_iterator", data := .fields #[.ref l, .int 0 0] }
theorem SI.at {k : Bool} {h h' : Heap} {it l : Addr} {i : Nat} (x : SI k h it l i) (e : ∀ o, h.get? it = some o → h'.get? it = some o) : SI k h' it l i := by
  cases k with
  | true => exact Heap.IsTupleIter.at x e
  | false => exact Heap.IsListIter.at x e
theorem SI.obj {k : Bool} {h : Heap} {it l : Addr} {i : Nat} (x : SI k h it l i) : ∃ o, h.get? it = some o ∧ ∀ v, o.data ≠ .cell v := by
  cases k with
  | true => obtain ⟨o, e, _, d⟩ := x; exact ⟨o, e, fun v z => by rw [d] at z; cases z⟩
  | false => obtain ⟨o, e, _, d⟩ := x; exact ⟨o, e, fun v z => by rw [d] at z; cases z⟩
theorem SI.new {k : Bool} {h : Heap} {it l : Addr} (x : h.get? it = some (itO k l)) : SI k h it l 0 := by
  cases k with
  | true => exact ⟨_, x, rfl, rfl⟩
  | false => exact ⟨_, x, rfl, rfl⟩
theorem draws_SI {prog : Program} {w : World} {A : Around} (k : Bool) (hh : A.handled = none) (it l : Addr) (hne : l ≠ it) (items : Array Value) :
    Draws prog w A it [it, l] items.size (fun i v => items[i]? = some v) (fun i h => SI k h it l i ∧ SQ k h l items) := by
  cases k with
  | true => exact Draws.tuple hh it l hne items
  | false => exact Draws.list hh it l hne items
theorem begins_SI (k : Bool) (l : Addr) (items : Array Value) : Begins (.ref l) (itO k l) fun h => SQ k h l items := by
  cases k with
  | true => exact begins_tuple l items
  | false => exact begins_list l items
section
variable {X : Cx} {pins : List (Addr × Obj)} {σ : L2.St} {H : Hp} {s : Shared}
theorem seqAt (I : Inv X pins σ H s) {k : Bool} {a : Addr} {xs : List V} (h : H a = some (hoK k xs)) : ∃ its : List Value, Vals xs its ∧ SQ k s.heap a its.toArray ∧ a < s.heap.objs.size := by
  cases k with
  | true =>
    obtain ⟨its, r, p, _⟩ := I.tuple (SqT.of h)
    obtain ⟨o, e, _⟩ := id p
    exact ⟨its, r, p, Heap.lt_size e⟩
  | false =>
    obtain ⟨its, r, p, _⟩ := I.list (SqL.of h)
    exact ⟨its, r, p.isList, p.lt⟩
theorem hoK_inj {k : Bool} {xs ys : List V} (h : hoK k xs = hoK k ys) : xs = ys := by
  cases k <;> (cases h; rfl)
def ItZ2 (k1 k2 : Bool) (a b : Addr) : It :=
  ⟨fun i H => ∃ xs ys : List V, H a = some (hoK k1 xs) ∧ H b = some (hoK k2 ys) ∧ i < xs.length ∧ i < ys.length,
    fun i H v H' => ∃ T x y, v = .ref T ∧ H T = none ∧ H' = upd H T (.tup [x, y]) ∧ (∀ xs, H a = some (hoK k1 xs) → xs[i]? = some x) ∧ ∀ ys, H b = some (hoK k2 ys) → ys[i]? = some y,
    fun i H => ∃ xs ys : List V, H a = some (hoK k1 xs) ∧ H b = some (hoK k2 ys) ∧ i = min xs.length ys.length⟩
theorem turn_z2 {P : Program} {w : World} {K : PySem.W.Frag} {elts : List Expr} {kk : Nat} {tpos : Pos} {k1 k2 : Bool} {a b z TI TO i1 i2 : Addr} (D : ZipApart z TI TO i1 i2 a b) :
    Turn P w K (.Tuple elts kk tpos) (ItZ2 k1 k2 a b) [z, TI, TO, i1, i2] z (fun i h => IsZip h z TI TO .none ∧ IsTupOf2 h TI (.ref i1) (.ref i2) ∧ (∃ x y, IsTupOf2 h TO x y) ∧ SI k1 h i1 a i ∧ SI k2 h i2 b i) where
  mem := by simp
  obj := fun i h st c hc => by
    obtain ⟨hz, hTI, ⟨x, y, hTO⟩, h1, h2⟩ := st
    have e' : c = z ∨ c = TI ∨ c = TO ∨ c = i1 ∨ c = i2 := by simpa using hc
    rcases e' with q | q | q | q | q
    · rw [q]; exact ⟨_, hz, fun v q => nomatch q⟩
    · rw [q]; exact ⟨_, hTI, fun v q => nomatch q⟩
    · rw [q]; exact ⟨_, hTO, fun v q => nomatch q⟩
    · rw [q]; exact h1.obj
    · rw [q]; exact h2.obj
  keep := fun i h h' st k => by
    obtain ⟨hz, hTI, ⟨x, y, hTO⟩, h1, h2⟩ := st
    exact ⟨k z (by simp) _ hz, k TI (by simp) _ hTI, ⟨x, y, k TO (by simp) _ hTO⟩, h1.at fun o q => k i1 (by simp) o q, h2.at fun o q => k i2 (by simp) o q⟩
  item := by
    intro X hP hw hK hc i pins s σ H E I hf st hg
    subst hP hw hK
    obtain ⟨hz, hTI, hTO, h1, h2⟩ := st
    obtain ⟨xs, ys, ha, hb, hx, hy⟩ := hg
    obtain ⟨its, rv, p, la⟩ := seqAt I ha
    obtain ⟨its2, rv2, p2, lb⟩ := seqAt I hb
    have hh := I.ok.hd hc
    have W := GoesN.zip2 (elts := elts) (x1 := kk) (pos := tpos) (z := z) (TI := TI) (TO := TO) (ZipSep2.mk (fp1 := [i1, a]) (fp2 := [i2, b]) D.TIz D.TOz D.TITO D.TIi1 (by simp) (by simp [D.i1z.symm, D.l1z.symm]) (by simp [D.TOi1, D.l1TO.symm]) D.TIi2 (by simp) (by simp [D.i2z.symm, D.l2z.symm]) (by simp [D.TOi2, D.l2TO.symm]) (by simp [D.i12, D.l2i1.symm]) (by simp [D.i12.symm, D.l1i2.symm]))
      (draws_SI (prog := X.prog) (w := X.w) (A := X.A.in1) k1 hh i1 a D.l1i1 its.toArray) (draws_SI (prog := X.prog) (w := X.w) (A := X.A.in1) k2 hh i2 b D.l2i2 its2.toArray)
    have l1 := rv.length
    have l2 := rv2.length
    refine thn (W.goes i s (fun v s2 => ∃ x H', Inv X pins σ H' s2 ∧ RelV x v ∧ (ItZ2 k1 k2 a b).yld i H x H' ∧ (IsZip s2.heap z TI TO .none ∧ IsTupOf2 s2.heap TI (.ref i1) (.ref i2) ∧ (∃ x y, IsTupOf2 s2.heap TO x y) ∧ SI k1 s2.heap i1 a (i + 1) ∧ SI k2 s2.heap i2 b (i + 1)) ∧ ∀ c ∈ [z, TI, TO, i1, i2], H' c = none) E (by simp; omega) ⟨hz, hTI, hTO, ⟨h1, p⟩, ⟨h2, p2⟩⟩ fun v h' tk hY st' hk _ => ?_) fun r s1 q => q
    obtain ⟨T, u1, u2, rfl, hT, e1, e2, hTup⟩ := hY
    obtain ⟨hz', hTI', hTO', ⟨h1', _⟩, ⟨h2', _⟩⟩ := st'
    have e1 : its[i]? = some u1 := by simpa using e1
    have e2 : its2[i]? = some u2 := by simpa using e2
    have gx : xs[i]? = some xs[i] := by simp [hx]
    have gy : ys[i]? = some ys[i] := by simp [hy]
    obtain ⟨u1', f1, r1⟩ := rv.get gx
    obtain ⟨u2', f2, r2⟩ := rv2.get gy
    rw [e1] at f1
    cases f1
    rw [e2] at f2
    cases f2
    have new : ObjOk X.prog X.w (upd H T (.tup [xs[i], ys[i]])) h' T (.tup [xs[i], ys[i]]) := ⟨by show 2 ≤ sizeLine; decide, [u1, u2], .cons r1 (.cons r2 .nil), hTup⟩
    have I1 : Inv X pins σ (upd H T (.tup [xs[i], ys[i]])) { s with heap := h', toks := tk } := I.turnedNew (ch := [z, TI, TO, i1, i2]) (fun c o hcm q => hk c o (fun m => hcm (by simp at m ⊢; rcases m with m | m | m | m <;> simp [m])) q) hf hT new
    refine ⟨.ref T, _, I1, rfl, ⟨T, _, _, rfl, I.hok.fresh hT, rfl, fun l hl => ?_, fun l hl => ?_⟩, ⟨hz', hTI', hTO', h1', h2'⟩, fun c hcm => ?_⟩
    · rw [ha] at hl
      rw [← hoK_inj (Option.some.inj hl)]
      exact gx
    · rw [hb] at hl
      rw [← hoK_inj (Option.some.inj hl)]
      exact gy
    · have hlt : c < s.heap.objs.size := by
        have e' : c = z ∨ c = TI ∨ c = TO ∨ c = i1 ∨ c = i2 := by simpa using hcm
        rcases e' with q | q | q | q | q
        · rw [q]; exact Heap.lt_size hz
        · rw [q]; exact Heap.lt_size hTI
        · obtain ⟨_, _, hTO⟩ := hTO; rw [q]; exact Heap.lt_size hTO
        · rw [q]; obtain ⟨_, e, _⟩ := h1.obj; exact Heap.lt_size e
        · rw [q]; obtain ⟨_, e, _⟩ := h2.obj; exact Heap.lt_size e
      rw [upd_ne (Nat.ne_of_lt (Nat.lt_of_lt_of_le hlt hT))]
      exact (hf c hcm).1
  done := by
    intro X hP hw hK hc i pins s σ H E I hf st hg
    subst hP hw hK
    obtain ⟨hz, hTI, hTO, h1, h2⟩ := st
    obtain ⟨xs, ys, ha, hb, hi⟩ := hg
    obtain ⟨its, rv, p, la⟩ := seqAt I ha
    obtain ⟨its2, rv2, p2, lb⟩ := seqAt I hb
    have hh := I.ok.hd hc
    have l1 := rv.length
    have l2 := rv2.length
    have W := GoesN.zip2 (elts := elts) (x1 := kk) (pos := tpos) (z := z) (TI := TI) (TO := TO) (ZipSep2.mk (fp1 := [i1, a]) (fp2 := [i2, b]) D.TIz D.TOz D.TITO D.TIi1 (by simp) (by simp [D.i1z.symm, D.l1z.symm]) (by simp [D.TOi1, D.l1TO.symm]) D.TIi2 (by simp) (by simp [D.i2z.symm, D.l2z.symm]) (by simp [D.TOi2, D.l2TO.symm]) (by simp [D.i12, D.l2i1.symm]) (by simp [D.i12.symm, D.l1i2.symm]))
      (draws_SI (prog := X.prog) (w := X.w) (A := X.A.in1) k1 hh i1 a D.l1i1 its.toArray) (draws_SI (prog := X.prog) (w := X.w) (A := X.A.in1) k2 hh i2 b D.l2i2 its2.toArray)
    have ei : i = min its.toArray.size its2.toArray.size := by simp; omega
    rw [ei] at h1 h2
    refine W.stops s _ E ⟨hz, hTI, hTO, ⟨h1, p⟩, ⟨h2, p2⟩⟩ fun h' tk hk _ => I.turnedL (ch := [z, TI, TO, i1, i2]) (fun c o hcm q => hk c o (fun m => hcm (by simp at m ⊢; rcases m with m | m | m | m <;> simp [m])) q) hf
  self := fun A i s Q E st h => wpAny_pyIter_zip st.1 h
def iZ2 (k1 k2 : Bool) (ta : TA) : TI := fun σ H R => ta σ H fun vs H1 => ∃ a b xs ys, vs = [.ref a, .ref b] ∧ H1 a = some (hoK k1 xs) ∧ H1 b = some (hoK k2 ys) ∧ R (ItZ2 k1 k2 a b) H1
theorem pi_z2 {e e2 : Expr} {ta : TA} {p pos tpos : Pos} {elts : List Expr} {kk : Nat} (k1 k2 : Bool) (hg : Gl X "zip") (hm : X.mg "zip" = none) (ha : PA X [e, e2] ta)
    (hs : starEach [e, e2] X.env = (false, eval e X.env) :: starEach [e2] X.env := by rfl) (hpl : (backTo pos (starEach [e2] X.env)).any (·.1) = false := by rfl) :
    PI X (.Tuple elts kk tpos) (.Call (.Name "zip" p) [e, e2] [] pos) (iZ2 k1 k2 ta) := by
  refine ⟨fun pins s σ H R I h => ?_⟩
  refine Call_ (ld_blt I hg hm PyProof.Rows.boot_zip (PyProof.Rows.callWith_type1 (thn (ha.run pos pins s σ H _ I h) fun us s1 ⟨vs, H1, I1, r1, q1⟩ => ?_) hs hpl))
  obtain ⟨a, b, xs, ys, ex, hx, hy, q⟩ := q1
  subst ex
  cases r1 with
  | cons r rr =>
    cases rr with
    | cons r' rr =>
      cases rr
      cases r
      cases r'
      obtain ⟨its, rv, p1, la⟩ := seqAt I1 hx
      obtain ⟨its2, rv2, p2, lb⟩ := seqAt I1 hy
      refine zip_begins2 (begins_SI k1 a its.toArray) (begins_SI k2 b its2.toArray) p1 p2 fun h' hz hTI hTO h1 h2 hsz hk => wpAny_pyIter_zip hz ?_
      have I2 : Inv X pins σ H1 { s1 with heap := h' } := I1.kept (t' := s1.toks) hk
      refine ⟨s1.heap.objs.size + 4, [s1.heap.objs.size + 4, s1.heap.objs.size + 2, s1.heap.objs.size + 3, s1.heap.objs.size, s1.heap.objs.size + 1], _, _, H1, rfl, I2, turn_z2 (PySem.W.ktu_apart s1.heap.objs.size a b la lb), ⟨hz, hTI, ⟨_, _, hTO⟩, SI.new h1, SI.new h2⟩, fun c hcm => ?_, q⟩
      have e' : c = s1.heap.objs.size + 4 ∨ c = s1.heap.objs.size + 2 ∨ c = s1.heap.objs.size + 3 ∨ c = s1.heap.objs.size ∨ c = s1.heap.objs.size + 1 := by simpa using hcm
      have hle : s1.heap.objs.size ≤ c := by
        rcases e' with z | z | z | z | z <;> (rw [z]; first | exact Nat.le_add_right _ _ | exact Nat.le_refl _)
      exact I1.fpOk hle (I1.hok.fresh hle)

def ItZ3 (k1 k2 k3 : Bool) (a b c : Addr) : It :=
  ⟨fun i H => ∃ xs ys zs : List V, H a = some (hoK k1 xs) ∧ H b = some (hoK k2 ys) ∧ H c = some (hoK k3 zs) ∧ i < xs.length ∧ i < ys.length ∧ i < zs.length,
    fun i H v H' => ∃ T x y z, v = .ref T ∧ H T = none ∧ H' = upd H T (.tup [x, y, z]) ∧ (∀ xs, H a = some (hoK k1 xs) → xs[i]? = some x) ∧ (∀ ys, H b = some (hoK k2 ys) → ys[i]? = some y) ∧ ∀ zs, H c = some (hoK k3 zs) → zs[i]? = some z,
    fun i H => ∃ xs ys zs : List V, H a = some (hoK k1 xs) ∧ H b = some (hoK k2 ys) ∧ H c = some (hoK k3 zs) ∧ i = min (min xs.length ys.length) zs.length⟩
structure Apart3 (n : Nat) (a b c : Addr) : Prop where
  la : a < n
  lb : b < n
  lc : c < n
theorem mem2 {x y z : Nat} (h1 : x ≠ y) (h2 : x ≠ z) : (x : Addr) ∉ ([y, z] : List Addr) := fun m => by
  rcases List.mem_cons.mp m with e | m
  · exact h1 e
  · rcases List.mem_cons.mp m with e | m
    · exact h2 e
    · cases m
theorem Apart3.sep {n a b c : Nat} (D : Apart3 n a b c) : ZipSep3 (n + 5) (n + 3) (n + 4) n (n + 1) (n + 2) [n, a] [n + 1, b] [n + 2, c] := by
  have la : @LT.lt Nat _ a n := D.la
  have lb : @LT.lt Nat _ b n := D.lb
  have lc : @LT.lt Nat _ c n := D.lc
  constructor <;> first
    | exact List.mem_cons_self
    | exact mem2 (by omega) (by omega)
    | (refine PySem.W.neN ?_; omega)
theorem turn_z3 {P : Program} {w : World} {K : PySem.W.Frag} {elts : List Expr} {kk : Nat} {tpos : Pos} {k1 k2 k3 : Bool} {n a b c : Addr} (D : Apart3 n a b c) :
    Turn P w K (.Tuple elts kk tpos) (ItZ3 k1 k2 k3 a b c) [n + 5, n + 3, n + 4, n, n + 1, n + 2] (n + 5) (fun i h => IsZip h (n + 5) (n + 3) (n + 4) .none ∧ IsTupOf3 h (n + 3) (.ref n) (.ref (n + 1)) (.ref (n + 2)) ∧ (∃ x y z, IsTupOf3 h (n + 4) x y z) ∧ SI k1 h n a i ∧ SI k2 h (n + 1) b i ∧ SI k3 h (n + 2) c i) where
  mem := by simp
  obj := fun i h st d hd => by
    obtain ⟨hz, hTI, ⟨x, y, z, hTO⟩, h1, h2, h3⟩ := st
    have e' : d = n + 5 ∨ d = n + 3 ∨ d = n + 4 ∨ d = n ∨ d = n + 1 ∨ d = n + 2 := by simpa using hd
    rcases e' with q | q | q | q | q | q
    · rw [q]; exact ⟨_, hz, fun v q => nomatch q⟩
    · rw [q]; exact ⟨_, hTI, fun v q => nomatch q⟩
    · rw [q]; exact ⟨_, hTO, fun v q => nomatch q⟩
    · rw [q]; exact h1.obj
    · rw [q]; exact h2.obj
    · rw [q]; exact h3.obj
  keep := fun i h h' st k => by
    obtain ⟨hz, hTI, ⟨x, y, z, hTO⟩, h1, h2, h3⟩ := st
    exact ⟨k _ (by simp) _ hz, k _ (by simp) _ hTI, ⟨x, y, z, k _ (by simp) _ hTO⟩, h1.at fun o q => k _ (by simp) o q, h2.at fun o q => k _ (by simp) o q, h3.at fun o q => k _ (by simp) o q⟩
  item := by
    intro X hP hw hK hc i pins s σ H E I hf st hg
    subst hP hw hK
    obtain ⟨hz, hTI, hTO, h1, h2, h3⟩ := st
    obtain ⟨xs, ys, zs, ha, hb, hcc, hx, hy, hzz⟩ := hg
    obtain ⟨its, rv, p, la⟩ := seqAt I ha
    obtain ⟨its2, rv2, p2, lb⟩ := seqAt I hb
    obtain ⟨its3, rv3, p3, lc⟩ := seqAt I hcc
    have hh := I.ok.hd hc
    have W := GoesN.zip3 (elts := elts) (x1 := kk) (pos := tpos) D.sep
      (draws_SI (prog := X.prog) (w := X.w) (A := X.A.in1) k1 hh n a (Nat.ne_of_lt D.la) its.toArray) (draws_SI (prog := X.prog) (w := X.w) (A := X.A.in1) k2 hh (n + 1) b (Nat.ne_of_lt (Nat.lt_succ_of_lt D.lb)) its2.toArray) (draws_SI (prog := X.prog) (w := X.w) (A := X.A.in1) k3 hh (n + 2) c (Nat.ne_of_lt (Nat.lt_succ_of_lt (Nat.lt_succ_of_lt D.lc))) its3.toArray)
    have l1 := rv.length
    have l2 := rv2.length
    have l3 := rv3.length
    refine thn (W.goes i s (fun v s2 => ∃ x H', Inv X pins σ H' s2 ∧ RelV x v ∧ (ItZ3 k1 k2 k3 a b c).yld i H x H' ∧ (IsZip s2.heap (n + 5) (n + 3) (n + 4) .none ∧ IsTupOf3 s2.heap (n + 3) (.ref n) (.ref (n + 1)) (.ref (n + 2)) ∧ (∃ x y z, IsTupOf3 s2.heap (n + 4) x y z) ∧ SI k1 s2.heap n a (i + 1) ∧ SI k2 s2.heap (n + 1) b (i + 1) ∧ SI k3 s2.heap (n + 2) c (i + 1)) ∧ ∀ c ∈ [n + 5, n + 3, n + 4, n, n + 1, n + 2], H' c = none) E (by simp; omega) ⟨hz, hTI, hTO, ⟨h1, p⟩, ⟨h2, p2⟩, ⟨h3, p3⟩⟩ fun v h' tk hY st' hk _ => ?_) fun r s1 q => q
    obtain ⟨T, u1, u2, u3, rfl, hT, e1, e2, e3, hTup⟩ := hY
    obtain ⟨hz', hTI', hTO', ⟨h1', _⟩, ⟨h2', _⟩, ⟨h3', _⟩⟩ := st'
    have e1 : its[i]? = some u1 := by simpa using e1
    have e2 : its2[i]? = some u2 := by simpa using e2
    have e3 : its3[i]? = some u3 := by simpa using e3
    have gx : xs[i]? = some xs[i] := by simp [hx]
    have gy : ys[i]? = some ys[i] := by simp [hy]
    have gz : zs[i]? = some zs[i] := by simp [hzz]
    obtain ⟨u1', f1, r1⟩ := rv.get gx
    obtain ⟨u2', f2, r2⟩ := rv2.get gy
    obtain ⟨u3', f3, r3⟩ := rv3.get gz
    rw [e1] at f1
    cases f1
    rw [e2] at f2
    cases f2
    rw [e3] at f3
    cases f3
    have new : ObjOk X.prog X.w (upd H T (.tup [xs[i], ys[i], zs[i]])) h' T (.tup [xs[i], ys[i], zs[i]]) := ⟨by show 3 ≤ sizeLine; decide, [u1, u2, u3], .cons r1 (.cons r2 (.cons r3 .nil)), hTup⟩
    have I1 : Inv X pins σ (upd H T (.tup [xs[i], ys[i], zs[i]])) { s with heap := h', toks := tk } := I.turnedNew (ch := [n + 5, n + 3, n + 4, n, n + 1, n + 2]) (fun c o hcm q => hk c o (fun m => hcm (by simp at m ⊢; rcases m with m | m | m | m | m <;> simp [m])) q) hf hT new
    refine ⟨.ref T, _, I1, rfl, ⟨T, _, _, _, rfl, I.hok.fresh hT, rfl, fun l hl => ?_, fun l hl => ?_, fun l hl => ?_⟩, ⟨hz', hTI', hTO', h1', h2', h3'⟩, fun c hcm => ?_⟩
    · rw [ha] at hl
      rw [← hoK_inj (Option.some.inj hl)]
      exact gx
    · rw [hb] at hl
      rw [← hoK_inj (Option.some.inj hl)]
      exact gy
    · rw [hcc] at hl
      rw [← hoK_inj (Option.some.inj hl)]
      exact gz
    · have hlt : c < s.heap.objs.size := by
        have e' : c = n + 5 ∨ c = n + 3 ∨ c = n + 4 ∨ c = n ∨ c = n + 1 ∨ c = n + 2 := by simpa using hcm
        rcases e' with q | q | q | q | q | q
        · rw [q]; exact Heap.lt_size hz
        · rw [q]; exact Heap.lt_size hTI
        · obtain ⟨_, _, _, hTO⟩ := hTO; rw [q]; exact Heap.lt_size hTO
        · rw [q]; obtain ⟨_, e, _⟩ := h1.obj; exact Heap.lt_size e
        · rw [q]; obtain ⟨_, e, _⟩ := h2.obj; exact Heap.lt_size e
        · rw [q]; obtain ⟨_, e, _⟩ := h3.obj; exact Heap.lt_size e
      rw [upd_ne (Nat.ne_of_lt (Nat.lt_of_lt_of_le hlt hT))]
      exact (hf c hcm).1
  done := by
    intro X hP hw hK hc i pins s σ H E I hf st hg
    subst hP hw hK
    obtain ⟨hz, hTI, hTO, h1, h2, h3⟩ := st
    obtain ⟨xs, ys, zs, ha, hb, hcc, hi⟩ := hg
    obtain ⟨its, rv, p, la⟩ := seqAt I ha
    obtain ⟨its2, rv2, p2, lb⟩ := seqAt I hb
    obtain ⟨its3, rv3, p3, lc⟩ := seqAt I hcc
    have hh := I.ok.hd hc
    have l1 := rv.length
    have l2 := rv2.length
    have l3 := rv3.length
    have W := GoesN.zip3 (elts := elts) (x1 := kk) (pos := tpos) D.sep
      (draws_SI (prog := X.prog) (w := X.w) (A := X.A.in1) k1 hh n a (Nat.ne_of_lt D.la) its.toArray) (draws_SI (prog := X.prog) (w := X.w) (A := X.A.in1) k2 hh (n + 1) b (Nat.ne_of_lt (Nat.lt_succ_of_lt D.lb)) its2.toArray) (draws_SI (prog := X.prog) (w := X.w) (A := X.A.in1) k3 hh (n + 2) c (Nat.ne_of_lt (Nat.lt_succ_of_lt (Nat.lt_succ_of_lt D.lc))) its3.toArray)
    have ei : i = min (min its.toArray.size its2.toArray.size) its3.toArray.size := by simp; omega
    rw [ei] at h1 h2 h3
    refine W.stops s _ E ⟨hz, hTI, hTO, ⟨h1, p⟩, ⟨h2, p2⟩, ⟨h3, p3⟩⟩ fun h' tk hk _ => I.turnedL (ch := [n + 5, n + 3, n + 4, n, n + 1, n + 2]) (fun c o hcm q => hk c o (fun m => hcm (by simp at m ⊢; rcases m with m | m | m | m | m <;> simp [m])) q) hf
  self := fun A i s Q E st h => wpAny_pyIter_zip st.1 h
def iZ3 (k1 k2 k3 : Bool) (ta : TA) : TI := fun σ H R => ta σ H fun vs H1 => ∃ a b c xs ys zs, vs = [.ref a, .ref b, .ref c] ∧ H1 a = some (hoK k1 xs) ∧ H1 b = some (hoK k2 ys) ∧ H1 c = some (hoK k3 zs) ∧ R (ItZ3 k1 k2 k3 a b c) H1
theorem pi_z3 {e e2 e3 : Expr} {ta : TA} {p pos tpos : Pos} {elts : List Expr} {kk : Nat} (k1 k2 k3 : Bool) (hg : Gl X "zip") (hm : X.mg "zip" = none) (ha : PA X [e, e2, e3] ta)
    (hs : starEach [e, e2, e3] X.env = (false, eval e X.env) :: starEach [e2, e3] X.env := by rfl) (hpl : (backTo pos (starEach [e2, e3] X.env)).any (·.1) = false := by rfl) :
    PI X (.Tuple elts kk tpos) (.Call (.Name "zip" p) [e, e2, e3] [] pos) (iZ3 k1 k2 k3 ta) := by
  refine ⟨fun pins s σ H R I h => ?_⟩
  refine Call_ (ld_blt I hg hm PyProof.Rows.boot_zip (PyProof.Rows.callWith_type1 (thn (ha.run pos pins s σ H _ I h) fun us s1 ⟨vs, H1, I1, r1, q1⟩ => ?_) hs hpl))
  obtain ⟨a, b, c, xs, ys, zs, ex, hx, hy, hz0, q⟩ := q1
  subst ex
  cases r1 with
  | cons r rr =>
    cases rr with
    | cons r' rr =>
      cases rr with
      | cons r'' rr =>
        cases rr
        cases r
        cases r'
        cases r''
        obtain ⟨its, rv, p1, la⟩ := seqAt I1 hx
        obtain ⟨its2, rv2, p2, lb⟩ := seqAt I1 hy
        obtain ⟨its3, rv3, p3, lc⟩ := seqAt I1 hz0
        refine zip_begins3 (begins_SI k1 a its.toArray) (begins_SI k2 b its2.toArray) (begins_SI k3 c its3.toArray) p1 p2 p3 fun h' hz hTI hTO h1 h2 h3 hsz hk => wpAny_pyIter_zip hz ?_
        have I2 : Inv X pins σ H1 { s1 with heap := h' } := I1.kept (t' := s1.toks) hk
        refine ⟨s1.heap.objs.size + 5, [s1.heap.objs.size + 5, s1.heap.objs.size + 3, s1.heap.objs.size + 4, s1.heap.objs.size, s1.heap.objs.size + 1, s1.heap.objs.size + 2], _, _, H1, rfl, I2, turn_z3 ⟨la, lb, lc⟩, ⟨hz, hTI, ⟨_, _, _, hTO⟩, SI.new h1, SI.new h2, SI.new h3⟩, fun d hdm => ?_, q⟩
        have e' : d = s1.heap.objs.size + 5 ∨ d = s1.heap.objs.size + 3 ∨ d = s1.heap.objs.size + 4 ∨ d = s1.heap.objs.size ∨ d = s1.heap.objs.size + 1 ∨ d = s1.heap.objs.size + 2 := by simpa using hdm
        have hle : s1.heap.objs.size ≤ d := by
          rcases e' with z | z | z | z | z | z <;> (rw [z]; first | exact Nat.le_add_right _ _ | exact Nat.le_refl _)
        exact I1.fpOk hle (I1.hok.fresh hle)
end
end DL

set_option maxHeartbeats 4000000
namespace DL
open PySem PySem.Spec PyProof.Rows L2
variable [TabT]
open Evl (Ex)
/-! ### t[::-1] of a tuple -/
section
variable {prog : Program} {w : World} {A : Around} {E : Value → Shared → Prop} {s : Shared}
theorem sliceApplied_rev {sl : Addr} {vl vu vs : Value} {n : Nat} {Q : Int × Int × Nat → Shared → Prop} (hs : s.heap.IsSliceOf sl vl vu vs) (pl : IsPart vl none) (pu : IsPart vu none) (ps : IsPart vs (some (-1)))
    (h : Q ((n : Int) - 1, -1, n) s) : wpAny (model prog w) A (Builtin.Slice.sliceApplied (.ref sl) (pure (n : Int))) Q E s := by
  obtain ⟨os, hos, hcs, hds⟩ := id hs
  unfold Builtin.Slice.sliceApplied Builtin.Slice.sliceFields
  refine wpAny_bind (wpAny_bind (wpAny_field hos hds (x := vl) rfl (wpAny_bind (wpAny_field hos hds (x := vu) rfl (wpAny_bind (wpAny_field hos hds (x := vs) rfl (wpAny_pure ?_)))))))
  refine wpAny_bind (HT.slicePart_ ps ?_)
  show wpAny _ _ (if ((-1 : Int) == 0) = true then _ else _) _ _ s
  rw [if_neg (by decide)]
  refine wpAny_bind (HT.slicePart_ pl (wpAny_bind (HT.slicePart_ pu (wpAny_bind (wpAny_pure ?_)))))
  show wpAny _ _ (match Builtin.Slice.sliceAdjust none none (-1) (n : Int) with | (lo, hi) => pure (lo, (-1 : Int), Builtin.Slice.slicePlaces lo hi (-1))) _ _ s
  have e1 : Builtin.Slice.sliceAdjust none none (-1) (n : Int) = ((n : Int) - 1, -1) := by
    unfold Builtin.Slice.sliceAdjust
    simp
  rw [e1]
  have e2 : Builtin.Slice.slicePlaces ((n : Int) - 1) (-1) (-1) = n := by
    unfold Builtin.Slice.slicePlaces
    simp
    split <;> omega
  show wpAny _ _ (pure ((n : Int) - 1, (-1 : Int), Builtin.Slice.slicePlaces ((n : Int) - 1) (-1) (-1))) _ _ s
  rw [e2]
  exact wpAny_pure h
theorem pick_rev (xs : Array Value) : ((List.range xs.size).filterMap fun (m : Nat) => xs[(((xs.size : Int) - 1) + (m : Int) * (-1)).toNat]?).toArray = xs.toList.reverse.toArray := by
  congr 1
  have e : (List.range xs.size).filterMap (fun (m : Nat) => xs[(((xs.size : Int) - 1) + (m : Int) * (-1)).toNat]?) = ((List.range xs.size).map fun k => xs.size - 1 - k).filterMap (xs[·]?) := by
    rw [List.filterMap_map]
    have key : ∀ l : List Nat, (∀ m ∈ l, m < xs.size) → l.filterMap (fun (m : Nat) => xs[(((xs.size : Int) - 1) + (m : Int) * (-1)).toNat]?) = l.filterMap ((xs[·]?) ∘ fun k => xs.size - 1 - k) := by
      intro l
      induction l with
      | nil => intro _; rfl
      | cons m l ih =>
        intro hl
        have hm := hl m List.mem_cons_self
        have e2 : (((xs.size : Int) - 1) + (m : Int) * (-1)).toNat = xs.size - 1 - m := by omega
        rw [List.filterMap_cons, List.filterMap_cons, ih fun k hk => hl k (List.mem_cons_of_mem _ hk), e2]
        rfl
    exact key _ fun m hm => List.mem_range.mp hm
  rw [e, PySem.W.krv_range, List.filterMap_reverse, PySem.W.krv_all]
theorem getItem_tuple_rev {t sl : Addr} {items : Array Value} {vl vu vs : Value} {Q : Value → Shared → Prop} (ht : IsTup s.heap t items) (hs : s.heap.IsSliceOf sl vl vu vs) (pl : IsPart vl none) (pu : IsPart vu none) (ps : IsPart vs (some (-1)))
    (h : Q (.ref s.heap.objs.size) { s with heap := s.heap.push { cls := .type "tuple", data := .seq items.toList.reverse.toArray } })
    (hsz : items.size ≤ sizeLine) : wpAny (model prog w) A (getItem (.ref t) (.ref sl)) Q E s := by
  have htake : sizeOk (.seq items.toList.reverse.toArray) := by
    show items.toList.reverse.toArray.size ≤ sizeLine
    rw [List.size_toArray, List.length_reverse, Array.length_toList]
    exact hsz
  obtain ⟨os, hos, hcs, hds⟩ := id hs
  have hTs : s.TypeIs (.ref sl) "slice" := ⟨os, hos, hcs⟩
  unfold getItem
  try with_reducible refine wpAny_holding ?_
  first | refine wpAny_bind (wpAny_pure ?_) | skip
  refine wpAny_bind (wpAny_sequenceKey ht.typeIs (by decide) ?_)
  refine wpAny_bind (wpAny_callSpecial?_slot (name := Str.ofString "__getitem__") ht.typeIs PyProof.Rows.slot_tuple_getitem
    (wpAny_call_entry PyProof.Rows.slot_tuple_getitem ht.typeIs entry_tuple_getitem ?_ (args_tuple_getitem _ _)))
  show wpAny _ _ (Builtin.Tuple.tupleItemsOf (.ref t) >>= _) _ _ s
  refine wpAny_bind (tupleItemsOf_ ht ?_)
  refine wpAny_bind (wpAny_typeOf hTs ?_)
  rw [if_pos (by decide)]
  refine wpAny_bind (sliceApplied_rev hs pl pu ps ?_)
  have hno : ¬ ((((items.size : Int) - 1) == 0 && (-1 : Int) == 1 && items.size == items.size) = true) := by
    intro q
    rw [Bool.and_eq_true, Bool.and_eq_true] at q
    have q1 := q.1.2
    revert q1
    decide
  show wpAny _ _ (if (((items.size : Int) - 1) == 0 && (-1 : Int) == 1 && items.size == items.size) = true then _ else _) _ _ s
  rw [if_neg hno, pick_rev]
  first
    | exact wpAny_bind (m := Builtin.Tuple.tupleExact _) (wpAny_newObj_type (wpAny_pure ⟨_, rfl, wpAny_pure h⟩) htake)
    | exact wpAny_bind (m := Builtin.Tuple.tupleExact _) (wpAny_newObj_type (wpAny_bind (wpAny_pure (wpAny_pure ⟨_, rfl, wpAny_pure h⟩))) htake)
    | exact wpAny_bind (wpAny_bind (m := Builtin.Tuple.tupleExact _) (wpAny_newObj_type (wpAny_pure (wpAny_pure ⟨_, rfl, wpAny_pure h⟩)) htake))
    | exact wpAny_bind (wpAny_bind (m := Builtin.Tuple.tupleExact _) (wpAny_newObj_type (wpAny_pure ⟨_, rfl, wpAny_pure h⟩) htake))
end
def tRevT (K : PySem.W.Frag) (te : TE) : TE := fun σ H Q => te σ H fun x H1 => ∃ a xs, x = .ref a ∧ SqT K H1 a xs ∧ ∀ p, H1 p = none → Q (.ref p) (upd H1 p (.tup xs.reverse))
theorem pe_revT {X : Cx} {e : Expr} {te : TE} {k : Nat} {p1 p2 p3 pos : Pos} (he : PE X e te) : PE X (.Subscript e (.Slice none none (some (.UnaryOp .USub (.Constant (.int 1) k p1) p2)) p3) pos) (tRevT X.K te) := by
  refine ⟨fun pins s σ H Q I h => ?_⟩
  refine Subscript_ (thn (he.run pins s σ H _ I h) fun v s1 ⟨x, H1, I1, r1, q1⟩ => ?_)
  obtain ⟨a, xs, ex, hx, q⟩ := q1
  subst ex
  cases r1
  have hst : PO X (some (.UnaryOp .USub (.Constant (.int 1) k p1) p2)) (tPart (tUn (rU fun i => .int (-i)) (tC (.int 1)))) := po_some (pe_un un_neg pe_int)
  refine wpAny_Slice (thn (po_none.run pins s1 σ H1 (fun o H2 => o = none ∧ H2 = H1) I1 ⟨rfl, rfl⟩) fun vl s2 ⟨l, H2, I2, pl, el, e2⟩ => ?_)
  subst el e2
  refine thn (po_none.run pins s2 σ H2 (fun o H3 => o = none ∧ H3 = H2) I2 ⟨rfl, rfl⟩) fun vu s3 ⟨u, H3, I3, pu, eu, e3⟩ => ?_
  subst eu e3
  refine thn (hst.run pins s3 σ H3 (fun o H4 => o = some (-1) ∧ H4 = H3) I3 ⟨1, rfl, -1, rfl, rfl, rfl⟩) fun vs s4 ⟨o, H4, I4, ps, eo, e4⟩ => ?_
  subst eo e4
  have I5 : Inv X pins σ H4 { s4 with heap := s4.heap.push { cls := .type "slice", data := .fields #[vl, vu, vs] } } := I4.kept (t' := s4.toks) fun b ob q => Heap.get?_push_of_some _ q
  obtain ⟨its, r, ht, hz⟩ := I5.tuple hx
  have hlen := r.length
  show wpAny (model X.prog X.w) X.A (subscriptTail e (.Slice none none (some (.UnaryOp .USub (.Constant (.int 1) k p1) p2)) p3) (.ref a) (.ref s4.heap.objs.size)) (EP X pins σ Q) X.xe { s4 with heap := s4.heap.push { cls := .type "slice", data := .fields #[vl, vu, vs] } }
  refine tail_any (ops := [.ref a, .ref s4.heap.objs.size]) ht.typeIs (PyProof.Rows.slot_tuple_getitem.lookup) ?_ (by with_unfolding_all rfl)
  refine getItem_tuple_rev ht (Heap.IsSliceOf.new _ vl vu vs) pl pu ps ?_ (by rw [List.size_toArray]; omega)
  refine ⟨.ref _, _, I5.laid (t' := s4.toks) (o := .tup xs.reverse) (fun b ob q => Heap.get?_push_of_some _ q) (Nat.le_refl _) ?_, rfl, q _ (I5.hok.fresh (Nat.le_refl _))⟩
  exact ⟨by rw [List.length_reverse]; exact hz, its.reverse, r.reverse, IsTup.new _ _⟩
section
variable {X : Cx} {mg : Str → Option Value} {W : WX} {tg it a b c e : Expr} {es : List Expr} {pos : Pos} {σ : L2.St} {H : Hp} {wa : Addr} {Hf : Hp} {A : DE}
def eRev (A : DE) : DE := fun s w => (A s w).bind fun x w1 => match x with
  | .lst xs => .ok (.lst xs.reverse) w1
  | .tup xs => .ok (.tup xs.reverse) w1
  | _ => .no
theorem pd_rev {k : Nat} {p1 p2 p3 : Pos} (ha : PE X a (lE mg W A)) : PE X (.Subscript a (.Slice none none (some (.UnaryOp .USub (.Constant (.int 1) k p1) p2)) p3) pos) (lE mg W (eRev A)) := weakE (orE (pe_revL ha) (pe_revT ha)) fun σ H Q h => by
  obtain ⟨wa, Hf, sD, w, hb, hs, h⟩ := h
  unfold eRev at h
  cases ea : A sD w with
  | ok x w1 =>
    rw [ea, R.bind_ok] at h
    cases x with
    | lst xs =>
      refine .inl ⟨wa, Hf, sD, w, hb, hs, ?_⟩
      rw [ea]
      intro H1 Hf1 g b v rv
      cases rv with
      | lst h1 r1 =>
        refine ⟨_, _, rfl, SqL.of (b.ex _ _ h1), fun p hp => ?_⟩
        exact h _ _ (g.trans (Go.newF b.ex hp)) (b.newF hp) _ (.lst upd_same (r1.reverse.mono (Ex.new (Evl.fresh_back b.ex hp))))
    | tup xs =>
      refine .inr ⟨wa, Hf, sD, w, hb, hs, ?_⟩
      rw [ea]
      intro H1 Hf1 g b v rv
      cases rv with
      | tup h1 r1 =>
        refine ⟨_, _, rfl, SqT.of (b.ex _ _ h1), fun p hp => ?_⟩
        exact h _ _ (g.trans (Go.newF b.ex hp)) (b.newF hp) _ (.tup upd_same (r1.reverse.mono (Ex.new (Evl.fresh_back b.ex hp))))
    | _ => exact h.elim
  | er x w1 =>
    rw [ea] at h
    refine .inl ⟨wa, Hf, sD, w, hb, hs, ?_⟩
    rw [ea]
    exact h
  | no => rw [ea] at h; exact h.elim

/-! ### zip -/
def seqD : D → Option (Bool × List D)
  | .lst xs => some (false, xs)
  | .tup xs => some (true, xs)
  | _ => none
theorem seqD_rep {v : V} {d : D} {k : Bool} {xs : List D} (r : Rep wa Hf v d) (h : seqD d = some (k, xs)) : ∃ a vs, v = .ref a ∧ Hf a = some (hoK k vs) ∧ Reps wa Hf vs xs := by
  unfold seqD at h
  split at h
  · cases h
    cases r with
    | lst h1 r1 => exact ⟨_, _, rfl, h1, r1⟩
  · cases h
    cases r with
    | tup h1 r1 => exact ⟨_, _, rfl, h1, r1⟩
  · cases h
def zipD (xs ys : List D) : List D := (xs.zip ys).map fun p => .tup [p.1, p.2]
def zip3D (xs ys zs : List D) : List D := (xs.zip (ys.zip zs)).map fun p => .tup [p.1, p.2.1, p.2.2]
theorem walkD_z2 {k1 k2 : Bool} {p q : Addr} {vs us : List V} {ds es : List D} (h1 : Hf p = some (hoK k1 vs)) (h2 : Hf q = some (hoK k2 us)) (r1 : Reps wa Hf vs ds) (r2 : Reps wa Hf us es) : WalkD wa Hf (ItZ2 k1 k2 p q) (zipD ds es) := by
  have l1 := r1.length
  have l2 := r2.length
  refine ⟨fun i H hi x => ⟨vs, us, x _ _ h1, x _ _ h2, ?_, ?_⟩, fun H x => ⟨vs, us, x _ _ h1, x _ _ h2, by simp [zipD]; omega⟩, fun i H Hf1 w y H' d hd x b z => ?_⟩
  · simp [zipD] at hi; omega
  · simp [zipD] at hi; omega
  · obtain ⟨T, u, v, rfl, hT, rfl, q1, q2⟩ := z
    unfold zipD at hd
    rw [List.getElem?_map] at hd
    cases e : (ds.zip es)[i]? with
    | none => rw [e] at hd; cases hd
    | some pr =>
      rw [e] at hd
      cases hd
      rw [List.getElem?_zip_eq_some] at e
      obtain ⟨u1, f1, s1⟩ := (r1.mono x).get e.1
      obtain ⟨u2, f2, s2⟩ := (r2.mono x).get e.2
      have g1 := q1 vs (b.ex _ _ (x _ _ h1))
      have g2 := q2 us (b.ex _ _ (x _ _ h2))
      rw [f1] at g1
      rw [f2] at g2
      cases g1
      cases g2
      have nx := Ex.new (o := HO.tup [u, v]) (Evl.fresh_back b.ex hT)
      exact ⟨_, Go.newF b.ex hT, b.newF hT, .tup upd_same (.cons (s1.mono nx) (.cons (s2.mono nx) .nil))⟩
theorem walkD_z3 {k1 k2 k3 : Bool} {p q o : Addr} {vs us ts : List V} {ds es fs : List D} (h1 : Hf p = some (hoK k1 vs)) (h2 : Hf q = some (hoK k2 us)) (h3 : Hf o = some (hoK k3 ts)) (r1 : Reps wa Hf vs ds) (r2 : Reps wa Hf us es) (r3 : Reps wa Hf ts fs) : WalkD wa Hf (ItZ3 k1 k2 k3 p q o) (zip3D ds es fs) := by
  have l1 := r1.length
  have l2 := r2.length
  have l3 := r3.length
  refine ⟨fun i H hi x => ⟨vs, us, ts, x _ _ h1, x _ _ h2, x _ _ h3, ?_, ?_, ?_⟩, fun H x => ⟨vs, us, ts, x _ _ h1, x _ _ h2, x _ _ h3, by simp [zip3D]; omega⟩, fun i H Hf1 w y H' d hd x b z => ?_⟩
  · simp [zip3D] at hi; omega
  · simp [zip3D] at hi; omega
  · simp [zip3D] at hi; omega
  · obtain ⟨T, u, v, t, rfl, hT, rfl, q1, q2, q3⟩ := z
    unfold zip3D at hd
    rw [List.getElem?_map] at hd
    cases e : (ds.zip (es.zip fs))[i]? with
    | none => rw [e] at hd; cases hd
    | some pr =>
      rw [e] at hd
      cases hd
      rw [List.getElem?_zip_eq_some, List.getElem?_zip_eq_some] at e
      obtain ⟨u1, f1, s1⟩ := (r1.mono x).get e.1
      obtain ⟨u2, f2, s2⟩ := (r2.mono x).get e.2.1
      obtain ⟨u3, f3, s3⟩ := (r3.mono x).get e.2.2
      have g1 := q1 vs (b.ex _ _ (x _ _ h1))
      have g2 := q2 us (b.ex _ _ (x _ _ h2))
      have g3 := q3 ts (b.ex _ _ (x _ _ h3))
      rw [f1] at g1
      rw [f2] at g2
      rw [f3] at g3
      cases g1
      cases g2
      cases g3
      have nx := Ex.new (o := HO.tup [u, v, t]) (Evl.fresh_back b.ex hT)
      exact ⟨_, Go.newF b.ex hT, b.newF hT, .tup upd_same (.cons (s1.mono nx) (.cons (s2.mono nx) (.cons (s3.mono nx) .nil)))⟩
theorem anyI {κ : Type} {t : κ → TI} (h : ∀ k, PI X tg it (t k)) : PI X tg it (fun σ H R => ∃ k, t k σ H R) := ⟨fun pins s σ H R I ⟨k, q⟩ => (h k).run pins s σ H R I q⟩
def iZip (As : DA) : DI := fun s w => (As s w).bind fun xs w1 => match xs with
  | [x, y] => match seqD x, seqD y with
    | some (_, ds), some (_, es) => .ok (zipD ds es) w1
    | _, _ => .no
  | [x, y, z] => match seqD x, seqD y, seqD z with
    | some (_, ds), some (_, es), some (_, fs) => .ok (zip3D ds es fs) w1
    | _, _, _ => .no
  | _ => .no
theorem id_zip2 {As : DA} {p tpos : Pos} {elts : List Expr} {kk : Nat} (hg : Gl X "zip") (hm : X.mg "zip" = none) (ha : PA X [a, b] (lA mg W (aCons A As))) (hl : ∀ s w x w1, (aCons A As s w) = .ok x w1 → x.length = 2)
    (hs : starEach [a, b] X.env = (false, eval a X.env) :: starEach [b] X.env := by rfl) (hpl : (backTo pos (starEach [b] X.env)).any (·.1) = false := by rfl) : PI X (.Tuple elts kk tpos) (.Call (.Name "zip" p) [a, b] [] pos) (lI mg W (iZip (aCons A As))) :=
  weakI (anyI fun k : Bool × Bool => pi_z2 k.1 k.2 hg hm ha hs hpl) fun σ H Q h => by
  obtain ⟨wa, Hf, sD, w, hb, hs, h⟩ := h
  unfold iZip at h
  cases ea : aCons A As sD w with
  | ok ds w1 =>
    rw [ea, R.bind_ok] at h
    have h2 := hl _ _ _ _ ea
    obtain ⟨x, y, rfl⟩ : ∃ x y, ds = [x, y] := by
      match ds, h2 with
      | [x, y], _ => exact ⟨x, y, rfl⟩
    dsimp only at h
    split at h
    · rename_i k1 ds k2 es e1 e2
      refine ⟨(k1, k2), wa, Hf, sD, w, hb, hs, ?_⟩
      rw [ea]
      intro H1 Hf1 g b v rv
      cases rv with
      | cons r1 r2 =>
        cases r2 with
        | cons r2 r3 =>
          cases r3
          obtain ⟨p1, vs, rfl, h1, s1⟩ := seqD_rep r1 e1
          obtain ⟨p2, us, rfl, h2, s2⟩ := seqD_rep r2 e2
          exact ⟨p1, p2, vs, us, rfl, b.ex _ _ h1, b.ex _ _ h2, h H1 Hf1 g b _ (walkD_z2 h1 h2 s1 s2)⟩
    · exact h.elim
  | er x w1 =>
    rw [ea] at h
    refine ⟨(true, true), wa, Hf, sD, w, hb, hs, ?_⟩
    rw [ea]
    exact h
  | no => rw [ea] at h; exact h.elim
theorem id_zip3 {As : DA} {p tpos : Pos} {elts : List Expr} {kk : Nat} (hg : Gl X "zip") (hm : X.mg "zip" = none) (ha : PA X [a, b, c] (lA mg W (aCons A As))) (hl : ∀ s w x w1, (aCons A As s w) = .ok x w1 → x.length = 3)
    (hs : starEach [a, b, c] X.env = (false, eval a X.env) :: starEach [b, c] X.env := by rfl) (hpl : (backTo pos (starEach [b, c] X.env)).any (·.1) = false := by rfl) : PI X (.Tuple elts kk tpos) (.Call (.Name "zip" p) [a, b, c] [] pos) (lI mg W (iZip (aCons A As))) :=
  weakI (anyI fun k : Bool × Bool × Bool => pi_z3 k.1 k.2.1 k.2.2 hg hm ha hs hpl) fun σ H Q h => by
  obtain ⟨wa, Hf, sD, w, hb, hs, h⟩ := h
  unfold iZip at h
  cases ea : aCons A As sD w with
  | ok ds w1 =>
    rw [ea, R.bind_ok] at h
    have h2 := hl _ _ _ _ ea
    obtain ⟨x, y, z, rfl⟩ : ∃ x y z, ds = [x, y, z] := by
      match ds, h2 with
      | [x, y, z], _ => exact ⟨x, y, z, rfl⟩
    dsimp only at h
    split at h
    · rename_i k1 ds k2 es k3 fs e1 e2 e3
      refine ⟨(k1, k2, k3), wa, Hf, sD, w, hb, hs, ?_⟩
      rw [ea]
      intro H1 Hf1 g b v rv
      cases rv with
      | cons r1 r2 =>
        cases r2 with
        | cons r2 r3 =>
          cases r3 with
          | cons r3 r4 =>
            cases r4
            obtain ⟨p1, vs, rfl, h1, s1⟩ := seqD_rep r1 e1
            obtain ⟨p2, us, rfl, h2, s2⟩ := seqD_rep r2 e2
            obtain ⟨p3, ts, rfl, h3, s3⟩ := seqD_rep r3 e3
            exact ⟨p1, p2, p3, vs, us, ts, rfl, b.ex _ _ h1, b.ex _ _ h2, b.ex _ _ h3, h H1 Hf1 g b _ (walkD_z3 h1 h2 h3 s1 s2 s3)⟩
    · exact h.elim
  | er x w1 =>
    rw [ea] at h
    refine ⟨(true, true, true), wa, Hf, sD, w, hb, hs, ?_⟩
    rw [ea]
    exact h
  | no => rw [ea] at h; exact h.elim
/-- an argument list has so many values -/
theorem aNil_len {s : Sl} {w w1 : Wl} {x : List D} (h : aNil s w = .ok x w1) : x.length = 0 := by cases h; rfl
theorem aCons_len {n : Nat} {As : DA} (hr : ∀ s w x w1, As s w = .ok x w1 → x.length = n) : ∀ s w x w1, (aCons A As s w) = .ok x w1 → x.length = n + 1 := fun s w x w1 h => by
  unfold aCons at h
  cases e : A s w with
  | ok d w2 =>
    rw [e, R.bind_ok] at h
    cases e2 : As s w2 with
    | ok ds w3 =>
      rw [e2, R.bind_ok] at h
      cases h
      simp [hr _ _ _ _ e2]
    | er y w3 => rw [e2] at h; cases h
    | no => rw [e2] at h; cases h
  | er y w2 => rw [e] at h; cases h
  | no => rw [e] at h; cases h

/-! ### calls by names -/
def permute {α : Type} (π : List Nat) (xs : List α) : List α := π.filterMap fun i => xs[i]?
theorem permute_reps {vs : List V} {ds : List D} (r : Reps wa Hf vs ds) : ∀ π : List Nat, Reps wa Hf (permute π vs) (permute π ds)
  | [] => .nil
  | i :: π => by
    have ih := permute_reps r π
    unfold permute at ih ⊢
    rw [List.filterMap_cons, List.filterMap_cons]
    cases e : ds[i]? with
    | none =>
      have e2 : vs[i]? = none := by
        rw [List.getElem?_eq_none_iff] at e ⊢
        rw [r.length]; exact e
      rw [e2]
      exact ih
    | some d =>
      obtain ⟨v, e2, r2⟩ := r.get e
      rw [e2]
      exact .cons r2 ih
theorem permute_vals {vs : List V} {us : List Value} (r : Vals vs us) : ∀ π : List Nat, Vals (permute π vs) (permute π us)
  | [] => .nil
  | i :: π => by
    have ih := permute_vals r π
    unfold permute at ih ⊢
    rw [List.filterMap_cons, List.filterMap_cons]
    cases e : vs[i]? with
    | none =>
      rw [r.none_of e]
      exact ih
    | some d =>
      obtain ⟨v, e2, r2⟩ := r.get e
      rw [e2]
      exact .cons r2 ih
/-- how keywords bind: all the n positional values, then those of the names ks, put in order by π -/
def KwB (fd : FuncData) (ps : List Str) (n : Nat) (ks : List Str) (π : List Nat) : Prop := ∀ us ws : List Value, us.length = n → ws.length = ks.length → bindArgs fd ⟨us, ks.zip ws⟩ = pure (ps.zip (permute π (us ++ ws)))
theorem KwB.kbn {K : PySem.W.Frag} {fd : FuncData} {ps ks : List Str} {n : Nat} {π : List Nat} (h : KwB fd ps n ks π) : KBn K fd ps n ks (fun us ws => permute π (us ++ ws)) (fun us ws => permute π (us ++ ws)) :=
  ⟨fun s us ws _ h1 h2 => .of_eq (h us ws h1 h2), fun r1 r2 => permute_vals (r1.append r2) π⟩
def eCallK (m n k : Nat) (π : List Nat) (F : DF) (As Ks : DA) : DE := fun s w => (As s w).bind fun ds w1 => (Ks s w1).bind fun zs w2 => if ds.length = n ∧ zs.length = k ∧ (permute π (ds ++ zs)).length = m then F (permute π (ds ++ zs)) w2 else .no
theorem kd_nil : PK X [] (lA mg W aNil) := ⟨fun pos pins s σ H Q I h => (pk_nil (X := X)).run pos pins s σ H Q I (by
  obtain ⟨wa, Hf, sD, w, hb, hs, h⟩ := h
  exact h.here hb _ .nil)⟩
theorem kd_cons {kws : List Keyword} {nm kpos} {As : DA} (ha : PE X e (lE mg W A)) (hr : PK X kws (lA mg W As)) : PK X (⟨nm, e, kpos⟩ :: kws) (lA mg W (aCons A As)) := ⟨fun pos pins s σ H Q I h => (pk_cons ha hr).run pos pins s σ H Q I (by
  obtain ⟨wa, Hf, sD, w, hb, hs, h⟩ := h
  refine ⟨wa, Hf, sD, w, hb, hs, h.bind.mono (fun x w1 H1 Hf1 g1 b1 q v rv => ?_) (fun _ _ _ _ _ _ q => q)⟩
  refine ⟨wa, Hf1, sD, w1, b1, hs.go g1, q.bind.mono (fun y w2 H2 Hf2 g2 b2 q2 v2 rv2 => ?_) (fun _ _ _ _ _ _ q => q)⟩
  exact q2.here b2 _ (.cons (rv.mono g2.ex) rv2))⟩
/-- f(k = v, ..), no positional values; what is raised goes to the wish -/
theorem run_fnW {k : Nat} {f : Addr} {fd : FuncData} {ps ks : List Str} {n : Nat} {F : DF} {W : WX} {pins : List (Addr × Obj)} {s : Shared} {Q : VK} {us ws : List Value} {vs zs : List V} {π : List Nat} (G : FnD X.prog X.w X.K X.mg X.base k f fd ps F) (hr : Room k X.A) (hb : KwB fd ps n ks π) (hx : Wok X W)
    (I : Inv X pins σ H s) (r : Vals vs us) (rz : Vals zs ws) (l1 : vs.length = n) (l2 : zs.length = ks.length) (h : spD X.mg ps.length F (permute π (vs ++ zs)) H Q (WE W σ)) : wpAny (model X.prog X.w) X.A (call (.ref f) us (ks.zip ws)) (EP X pins σ Q) X.xe s := by
  have r2 := (hb.kbn (K := X.K)).rel r rz
  refine wpAny_call (codeAny_mono (G.run X.A X.stack s H ⟨us, ks.zip ws⟩ (permute π (us ++ ws)) (permute π (vs ++ zs)) Q (WE W σ) hr I.env0 ((hb.kbn (K := X.K)).to s us ws I.kIn (r.length.symm.trans l1) (rz.length.symm.trans l2)) r2 h) fun r s' hq => ?_)
  cases r with
  | error e => exact hx σ pins H s e s' I hq
  | ok fl =>
    cases fl with
    | ret u => exact I.after hq
    | next => exact False.elim hq
    | brk => exact False.elim hq
    | cont => exact False.elim hq
theorem pd_callK0 {k : Nat} {f : Addr} {fd : FuncData} {ps ks : List Str} {F : DF} {W : WX} {x : Str} {p : Pos} {Ks : DA} {kws : List Keyword} {π : List Nat} (G : FnD X.prog X.w X.K X.mg X.base k f fd ps F) (hr : Room k X.A) (hg : Gl X x) (hm : X.mg x = some (.ref f)) (hk : PySem.W.keepIn X.K (.ref f) = true) (hb : KwB fd ps 0 ks π) (hx : Wok X W)
    (hkw : PK X kws (lA X.mg W Ks)) (hall : (backToKw pos (keywordEach kws X.env)).all (·.1.isSome) = true := by rfl) (hks : (backToKw pos (keywordEach kws X.env)).filterMap (·.1) = ks := by rfl) (hdb : (x == ("__debug__" : Str)) = false := by decide)
    (hpl : ((backTo pos (starEach [] X.env)).any (·.1) || (backToKw pos (keywordEach kws X.env)).any (·.1.isNone)) = false := by rfl) :
    PE X (.Call (.Name x p) [] kws pos) (lE X.mg W (eCallK ps.length 0 ks.length π F aNil Ks)) := by
  refine ⟨fun pins s σ H Q I h => ?_⟩
  obtain ⟨wa, Hf, sD, w, hb0, hs, h⟩ := h
  refine wpAny_Call_Name_kw (ld_glob I hg hm ?_ hdb)
  refine PySem.W.callWith_KW0 (h₀ := X.base) I.ok.mod.kin hk hall ?_ hpl
  refine thn (hkw.run pos pins s σ H (fun zs H1 => zs.length = ks.length ∧ spD X.mg ps.length F (permute π ([] ++ zs)) H1 Q (WE W σ)) I ⟨wa, Hf, sD, w, hb0, hs, ?_⟩) fun ws s2 ⟨zs, H2, I2, rz, l2, q2⟩ => ⟨I2.kIn, ?_⟩
  · refine Fin.mono (Fin.bind (r := Ks sD w) (k := fun zs w2 => if ([] : List D).length = 0 ∧ zs.length = ks.length ∧ (permute π ([] ++ zs)).length = ps.length then F (permute π ([] ++ zs)) w2 else .no) h) (fun zs w1 H1 Hf1 g1 b1 q v rv => ?_) (fun _ _ _ _ _ _ q => q)
    split at q
    · rename_i hl
      refine ⟨by rw [rv.length]; exact hl.2.1, wa, Hf1, _, w1, b1, permute_reps (Reps.append .nil rv) π, hl.2.2, q⟩
    · exact q.elim
  · rw [hks]
    exact run_fnW G hr hb hx I2 .nil rz rfl l2 q2
end
end DL

set_option maxHeartbeats 4000000
namespace DL
open PySem PySem.Spec PyProof.Rows L2
variable [TabT]
open Evl (Ex)
/-! ### values side by side, some of them new lists that a slot will own -/
inductive RepsO (wa : Addr) (Hf H : Hp) : List V → List D → List Addr → Prop
  | nil : RepsO wa Hf H [] [] []
  | val {v : V} {d : D} {vs : List V} {ds : List D} {ps : List Addr} : Rep wa Hf v d → RepsO wa Hf H vs ds ps → RepsO wa Hf H (v :: vs) (d :: ds) ps
  | own {p : Addr} {xs : List V} {es : List D} {vs : List V} {ds : List D} {ps : List Addr} : H p = some (.lst xs) → Hf p = none → p ≠ wa → Reps wa Hf xs es → p ∉ ps → RepsO wa Hf H vs ds ps → RepsO wa Hf H (.ref p :: vs) (.own es :: ds) (p :: ps)
def lM (mg : Str → Option Value) (W : WX) (E : Sl → Wl → R (List D)) : TA := fun σ H Q =>
  ∃ wa Hf sD w, Base wa Hf H w ∧ Slots wa Hf H σ sD ∧ Fin wa Hf H (E sD w) (fun ds _ H' Hf' => ∀ vs ps, RepsO wa Hf' H' vs ds ps → (∀ p ∈ ps, Fr H p) → Q vs H') (Er mg W wa σ)
section
variable {X : Cx} {mg : Str → Option Value} {W : WX} {tg it a b c e : Expr} {es : List Expr} {pos : Pos} {σ : L2.St} {H H' H0 : Hp} {wa : Addr} {Hf Hf' : Hp} {A : DE} {As M : DA}
theorem RepsO.length : ∀ {vs : List V} {ds : List D} {ps : List Addr}, RepsO wa Hf H vs ds ps → vs.length = ds.length
  | _, _, _, .nil => rfl
  | _, _, _, .val _ r => by simp [RepsO.length r]
  | _, _, _, .own _ _ _ _ _ r => by simp [RepsO.length r]
theorem RepsO.go (g : Go wa H Hf H' Hf') : ∀ {vs : List V} {ds : List D} {ps : List Addr}, RepsO wa Hf H vs ds ps → RepsO wa Hf' H' vs ds ps
  | _, _, _, .nil => .nil
  | _, _, _, .val h r => .val (h.mono g.ex) (RepsO.go g r)
  | _, _, _, .own h1 h2 h3 h4 h5 r => .own (g.keep _ _ h3 h1) ((g.new _ _ h1).trans h2) h3 (h4.mono g.ex) h5 (RepsO.go g r)
def mVal (A : DE) (As : DA) : DA := fun s w => (A s w).bind fun x w1 => (As s w1).bind fun xs w2 => .ok (x :: xs) w2
def mOwn (A : DA) (As : DA) : DA := fun s w => (A s w).bind fun x w1 => (As s w1).bind fun xs w2 => .ok (.own x :: xs) w2
theorem md_nil : PA X [] (lM mg W aNil) := weakA pa_nil fun σ H Q h => by
  obtain ⟨wa, Hf, sD, w, hb, hs, h⟩ := h
  exact h.here hb _ [] .nil fun _ m => nomatch m
theorem md_val (ha : PE X a (lE mg W A)) (hr : PA X es (lM mg W As)) (hs : starEach (a :: es) X.env = (false, eval a X.env) :: starEach es X.env := by rfl) : PA X (a :: es) (lM mg W (mVal A As)) := weakA (pa_cons ha hr hs) fun σ H Q h => by
  obtain ⟨wa, Hf, sD, w, hb, hs, h⟩ := h
  refine ⟨wa, Hf, sD, w, hb, hs, h.bind.mono (fun x w1 H1 Hf1 g1 b1 q v rv => ?_) (fun _ _ _ _ _ _ q => q)⟩
  refine ⟨wa, Hf1, sD, w1, b1, hs.go g1, q.bind.mono (fun y w2 H2 Hf2 g2 b2 q2 v2 ps rv2 hn => ?_) (fun _ _ _ _ _ _ q => q)⟩
  exact q2.here b2 _ ps (.val (rv.mono g2.ex) rv2) fun p m => g1.fr (hn p m)
theorem md_own {B : DA} (ha : PE X a (lfL mg W B)) (hr : PA X es (lM mg W As)) (hs : starEach (a :: es) X.env = (false, eval a X.env) :: starEach es X.env := by rfl) : PA X (a :: es) (lM mg W (mOwn B As)) := weakA (pa_cons ha hr hs) fun σ H Q h => by
  obtain ⟨wa, Hf, sD, w, hb, hs, h⟩ := h
  refine ⟨wa, Hf, sD, w, hb, hs, h.bind.mono (fun x w1 H1 Hf1 g1 b1 q p vs hp e1 e2 e3 rv => ?_) (fun _ _ _ _ _ _ q => q)⟩
  refine ⟨wa, Hf1, sD, w1, b1, hs.go g1, q.bind.mono (fun y w2 H2 Hf2 g2 b2 q2 v2 ps rv2 hn => ?_) (fun _ _ _ _ _ _ q => q)⟩
  have hpp : p ∉ ps := fun m => by
    exact hn p m _ e1 nt_lst
  refine q2.here b2 _ (p :: ps) (.own (g2.keep _ _ e3 e1) ((g2.new _ _ e1).trans e2) e3 (rv.mono g2.ex) hpp rv2) fun z m => ?_
  rcases List.mem_cons.mp m with e | m
  · rw [e]; exact hp
  · exact g1.fr (hn z m)
/-- into slots, one after another -/
def putS (s : Sl) : List Nat → List D → Option Sl
  | [], [] => some s
  | i :: is, d :: ds => putS (s.set i (some d)) is ds
  | _, _ => none
def putV (σ : L2.St) : List Nat → List V → Option L2.St
  | [], [] => some σ
  | i :: is, v :: vs => putV (σ.set i (some v)) is vs
  | _, _ => none
/-- who owns p already is none of these -/
def Apart (s : Sl) (σ : L2.St) (ps : List Addr) : Prop := ∀ p ∈ ps, ∀ (j : Nat) (e : D), s[j]? = some (some e) → IsO e → σ[j]? ≠ some (some (.ref p))
theorem put_ok : ∀ {is : List Nat} {vs : List V} {ds : List D} {ps : List Addr} {σ : L2.St} {s s' : Sl}, RepsO wa Hf H vs ds ps → (∀ p ∈ ps, Fr H0 p) → Slots wa Hf H σ s → OwnNew H0 σ s → Apart s σ ps → putS s is ds = some s' →
    ∃ σ', putV σ is vs = some σ' ∧ Slots wa Hf H σ' s' ∧ OwnNew H0 σ' s'
  | [], _, _, _, σ, s, s', .nil, _, hs, ho, _, h => by cases h; exact ⟨σ, rfl, hs, ho⟩
  | i :: is, _, _, _, σ, s, s', .val r rr, hp, hs, ho, ha, h => by
    refine put_ok (is := is) rr hp (hs.set r) (ho.set (rep_isO r)) (fun p m j ye h1 io h2 => ?_) h
    by_cases hj : j = i
    · subst hj
      rw [List.getElem?_set] at h1
      split at h1
      · split at h1
        · cases h1
          exact rep_isO r io
        · cases h1
      · rename_i hne
        exact absurd rfl hne
    · rw [List.getElem?_set_ne (Ne.symm hj)] at h1 h2
      exact ha p m j ye h1 io h2
  | i :: is, _, _, _, σ, s, s', .own (p := p) h1 h2 h3 h4 h5 rr, hp, hs, ho, ha, h => by
    refine put_ok (is := is) rr (fun q m => hp q (List.mem_cons_of_mem _ m)) (hs.setOwn h1 h2 h3 h4 fun j ye k1 io => ha p List.mem_cons_self j ye k1 io) (ho.setOwn hs.len (hp p List.mem_cons_self)) (fun q m j ye k1 io k2 => ?_) h
    by_cases hj : j = i
    · subst hj
      rw [List.getElem?_set] at k2
      split at k2
      · split at k2
        · cases k2
          exact h5 m
        · cases k2
      · rename_i hne
        exact absurd rfl hne
    · rw [List.getElem?_set_ne (Ne.symm hj)] at k1 k2
      exact ha q (List.mem_cons_of_mem _ m) j ye k1 io k2
  | [], _, _, _, _, _, _, .val _ _, _, _, _, _, h => by cases h
  | [], _, _, _, _, _, _, .own _ _ _ _ _ _, _, _, _, _, h => by cases h
  | _ :: _, _, _, _, _, _, _, .nil, _, _, _, _, h => by cases h
def sMul (is : List Nat) (M : DA) : DS := fun s w => match M s w with
  | .ok ds w1 => match putS s is ds with
    | some s1 => .nx s1 w1
    | none => .no
  | .er x w1 => .er x s w1
  | .no => .no
theorem apart_new {s : Sl} {H1 : Hp} {ps : List Addr} (hs : Slots wa Hf H1 σ s) (hn : ∀ p ∈ ps, Fr H1 p) : Apart s σ ps := fun p m j ye h1 io h2 => by
  obtain ⟨q, o, k1, k2, k3, _⟩ := hs.oAt h1 io
  rw [h2] at k1
  cases k1
  exact hn p m _ k2 k3
variable {st : Stmt}
/-- a, b = e1, e2: two local names -/
theorem sd_par2 {i j : Nat} (h : PS X st (tPar i j (lM mg W M))) : PS X st (lS mg W (sMul [i, j] M)) := weakS h fun D σ H h => by
  obtain ⟨wa, Hf, sD, w, H0, Hf0, g, b, hs, ho, h⟩ := h
  refine ⟨wa, Hf, sD, w, b, hs, ?_⟩
  unfold sMul at h
  cases e : M sD w with
  | ok ds w1 =>
    rw [e] at h
    dsimp only at h
    intro H1 Hf1 g1 b1 vs ps rv hn
    split at h
    · rename_i s1 hp
      obtain ⟨σ1, e1, hs1, ho1⟩ := put_ok (H0 := H0) rv (fun p m => g.fr (hn p m)) (hs.go g1) ho (apart_new hs hn) hp
      match ds, vs, hp, e1 with
      | [x, y], [u, v], hp, e1 =>
        cases e1
        exact ⟨u, v, rfl, h _ H1 Hf1 (g.trans g1) g1.ex b1 hs1 ho1⟩
    · exact h.elim
  | er x w1 =>
    rw [e] at h
    exact fun H1 Hf1 g1 b1 cls dx ev => h σ H1 Hf1 cls dx (g.trans g1) g1.ex b1 (hs.go g1) ho ev
  | no => rw [e] at h; exact h
theorem sd_par3 {i j k : Nat} (h : PS X st (tPar3 i j k (lM mg W M))) : PS X st (lS mg W (sMul [i, j, k] M)) := weakS h fun D σ H h => by
  obtain ⟨wa, Hf, sD, w, H0, Hf0, g, b, hs, ho, h⟩ := h
  refine ⟨wa, Hf, sD, w, b, hs, ?_⟩
  unfold sMul at h
  cases e : M sD w with
  | ok ds w1 =>
    rw [e] at h
    dsimp only at h
    intro H1 Hf1 g1 b1 vs ps rv hn
    split at h
    · rename_i s1 hp
      obtain ⟨σ1, e1, hs1, ho1⟩ := put_ok (H0 := H0) rv (fun p m => g.fr (hn p m)) (hs.go g1) ho (apart_new hs hn) hp
      match ds, vs, hp, e1 with
      | [x, y, z], [u, v, t], hp, e1 =>
        cases e1
        exact ⟨u, v, t, rfl, h _ H1 Hf1 (g.trans g1) g1.ex b1 hs1 ho1⟩
    · exact h.elim
  | er x w1 =>
    rw [e] at h
    exact fun H1 Hf1 g1 b1 cls dx ev => h σ H1 Hf1 cls dx (g.trans g1) g1.ex b1 (hs.go g1) ho ev
  | no => rw [e] at h; exact h
/-- names, as targets -/
def gNames : List Nat → TGs
  | [] => gNil
  | i :: is => gCons (gName i) (gNames is)
theorem gNames_of {H : Hp} {Q : L2.St → Hp → Prop} : ∀ {is : List Nat} {vs : List V} {σ σ' : L2.St}, putV σ is vs = some σ' → Q σ' H → gNames is vs σ H Q
  | [], [], _, _, h, q => by cases h; exact ⟨rfl, q⟩
  | i :: is, v :: vs, _, _, h, q => ⟨v, vs, rfl, gNames_of (is := is) h q⟩
  | [], _ :: _, _, _, h, _ => by cases h
  | _ :: _, [], _, _, h, _ => by cases h
/-- a, b, .. = a written tuple -/
theorem sd_multi {is : List Nat} {n : Nat} (h : PS X st (tAsg (tTup (lM mg W M)) (gTup X.K n (gNames is)))) (hn : is.length = n) (hz : n ≤ 1000) : PS X st (lS mg W (sMul is M)) := weakS h fun D σ H h => by
  obtain ⟨wa, Hf, sD, w, H0, Hf0, g, b, hs, ho, h⟩ := h
  refine ⟨wa, Hf, sD, w, b, hs, ?_⟩
  unfold sMul at h
  cases e : M sD w with
  | ok ds w1 =>
    rw [e] at h
    dsimp only at h
    intro H1 Hf1 g1 b1 vs ps rv hnew
    split at h
    · rename_i s1 hp
      obtain ⟨σ1, e1, hs1, ho1⟩ := put_ok (H0 := H0) rv (fun p m => g.fr (hnew p m)) (hs.go g1) ho (apart_new hs hnew) hp
      have len : ∀ (is : List Nat) (vs : List V) (σ σ' : L2.St), putV σ is vs = some σ' → vs.length = is.length := by
        intro is
        induction is with
        | nil => intro vs σ σ' h; cases vs with
          | nil => rfl
          | cons _ _ => cases h
        | cons i is ih => intro vs σ σ' h; cases vs with
          | nil => cases h
          | cons v vs => simp [ih _ _ _ h]
      have hvl := len _ _ _ _ e1
      refine ⟨by rw [hvl, hn, sizeLine_eq]; omega, fun t ht => ⟨t, vs, rfl, SqT.of upd_same, by rw [hvl, hn], gNames_of e1 ?_⟩⟩
      exact h _ _ Hf1 ((g.trans g1).trans (Go.new1 ht)) g1.ex (b1.new1 ht) (hs1.go (Go.new1 ht)) ho1
    · exact h.elim
  | er x w1 =>
    rw [e] at h
    exact fun H1 Hf1 g1 b1 cls dx ev => h σ H1 Hf1 cls dx (g.trans g1) g1.ex b1 (hs.go g1) ho ev
  | no => rw [e] at h; exact h
/-- what the proof never comes to -/
def sNever : DS := fun _ _ => .no
theorem sd_never : PS X st (lS mg W sNever) := weakS ps_never fun D σ H h => by
  obtain ⟨wa, Hf, sD, w, H0, Hf0, g, b, hs, ho, h⟩ := h
  exact h
end
theorem Fun.kwb {K : PySem.W.Frag} {x qual : Str} {st : Stmt} {f : Addr} {fd : FuncData} {ps ks : List Str} {n : Nat} {π : List Nat} (F : Fun K x qual st f fd)
    (h : ∀ (kV doc pm : Value) (an : Option Addr) (cdv ct : Value) (us ws : List Value), us.length = n → ws.length = ks.length → bindArgs (PySem.W.fnOf x qual (defArgs st) (defBody st) (defScope st) .none kV doc pm an cdv ct) ⟨us, ks.zip ws⟩ = pure (ps.zip (permute π (us ++ ws)))) : KwB fd ps n ks π := by
  obtain ⟨oc, od, kV, doc, pm, an, cdv, ct, osl, rfl, lk, hcd⟩ := F.ex
  exact fun us ws h1 h2 => h kV doc pm an cdv ct us ws h1 h2
end DL

set_option maxHeartbeats 2000000
namespace DL
open PySem PySem.Spec PyProof.Rows L2
variable [TabT]
open Evl (Ex)
/-! ### in, index, sorted, max and min of a list, break, continue -/
theorem units65 {k : Nat} {A : Around} (r : Room k A) : A.units + 65 < cLine := by have := r.un; omega
/-- is an integer among integers -/
def hasI (i : Int) (ns : List Int) : Bool := ns.any fun j => decide (j = i)
def fInG (neg : Bool) : Wl → D → D → Option D := fun _ x y => match y with
  | .lst ds => if okD x && okD (.lst ds) then some (.bl (if neg then !ds.any fun d => eqD d x else ds.any fun d => eqD d x)) else none
  | .tup ds => match x, ints? ds with
    | .int i, some ns => some (.bl (if neg then !hasI i ns else hasI i ns))
    | _, _ => none
  | _ => none
abbrev fIn := fInG false
abbrev fNin := fInG true
theorem toPDs_map (ds : List D) : toPDs ds = ds.map toPD := by
  induction ds with
  | nil => rfl
  | cons d r ih => rw [List.map_cons, ← ih]; rfl
theorem anyPD (x : D) (ds : List D) : ((toPDs ds).any fun z => PyData.eqv z (toPD x)) = ds.any fun d => eqD d x := by
  rw [toPDs_map, List.any_map]
  rfl
theorem inV_ints (i : Int) (ns : List Int) : inV (.int i) (ns.map V.int) = hasI i ns := by
  unfold inV hasI
  rw [List.any_map]
  congr 1
theorem flat_ints (ns : List Int) : (ns.map V.int).all flatV = true := by
  rw [List.all_map]
  exact List.all_eq_true.mpr fun _ _ => rfl
theorem opd_in {K : PySem.W.Frag} : OpD (fun x y H Q => rInD K x y H Q ∨ rIn K false x y H Q) fIn := by
  intro wa Hf H w x y u v z Q hb ru rv h q
  unfold fIn fInG at h
  split at h
  · split at h
    · rename_i ds hc
      rw [Bool.and_eq_true] at hc
      cases h
      refine .inl ⟨_, _, ru.dp hb (shaped_lay hc.1), rv.dp hb (shaped_lay hc.2), hc.1, hc.2, ?_⟩
      rw [anyPD]
      exact q _ _ Go.refl hb _ (.bl _)
    · cases h
  · rename_i ds
    split at h
    · rename_i i ns e
      cases h
      cases ru
      cases rv with
      | tup h1 r1 =>
        rw [ints?_some e] at r1
        have e2 := r1.ints
        subst e2
        refine .inr ⟨_, _, rfl, .inr (SqT.of (hb.ex _ _ h1)), rfl, flat_ints _, ?_⟩
        rw [inV_ints]
        exact q _ _ Go.refl hb _ (.bl _)
    · cases h
  · cases h
theorem opd_nin {K : PySem.W.Frag} : OpD (fun x y H Q => rNotInD K x y H Q ∨ rIn K true x y H Q) fNin := by
  intro wa Hf H w x y u v z Q hb ru rv h q
  unfold fNin fInG at h
  split at h
  · split at h
    · rename_i ds hc
      rw [Bool.and_eq_true] at hc
      cases h
      refine .inl ⟨_, _, ru.dp hb (shaped_lay hc.1), rv.dp hb (shaped_lay hc.2), hc.1, hc.2, ?_⟩
      rw [anyPD]
      exact q _ _ Go.refl hb _ (.bl _)
    · cases h
  · rename_i ds
    split at h
    · rename_i i ns e
      cases h
      cases ru
      cases rv with
      | tup h1 r1 =>
        rw [ints?_some e] at r1
        have e2 := r1.ints
        subst e2
        refine .inr ⟨_, _, rfl, .inr (SqT.of (hb.ex _ _ h1)), rfl, flat_ints _, ?_⟩
        rw [inV_ints]
        exact q _ _ Go.refl hb _ (.bl _)
    · cases h
  · cases h
section
variable {X : Cx} {mg : Str → Option Value} {W : WX} {a b : Expr} {pos : Pos} {A B : DE}
theorem pd_in (hu : X.A.units + 65 < cLine) (ha : PE X a (lE mg W A)) (hb : PE X b (lE mg W B)) (hm : behindInMarks .In b = false := by first | rfl | exact nomark _) : PE X (.Compare a [.In] [b] pos) (lE mg W (eBin fIn A B)) := pd_cmp ((op_inD hu).or op_in_seq) opd_in ha hb hm
theorem pd_nin (hu : X.A.units + 65 < cLine) (ha : PE X a (lE mg W A)) (hb : PE X b (lE mg W B)) (hm : behindInMarks .NotIn b = false := by first | rfl | exact nomark _) : PE X (.Compare a [.NotIn] [b] pos) (lE mg W (eBin fNin A B)) := pd_cmp ((op_notInD hu).or op_notIn_seq) opd_nin ha hb hm
theorem qd_in (hu : X.A.units + 65 < cLine) (ha : PE X a (lE mg W A)) (hb : PE X b (lE mg W B)) (hm : behindInMarks .In b = false := by first | rfl | exact nomark _) : PT X (.Compare a [.In] [b] pos) (lT mg W (tE (eBin fIn A B))) := qd_cmp ((op_inD hu).or op_in_seq) opd_in ha hb hm
theorem qd_nin (hu : X.A.units + 65 < cLine) (ha : PE X a (lE mg W A)) (hb : PE X b (lE mg W B)) (hm : behindInMarks .NotIn b = false := by first | rfl | exact nomark _) : PT X (.Compare a [.NotIn] [b] pos) (lT mg W (tE (eBin fNin A B))) := qd_cmp ((op_notInD hu).or op_notIn_seq) opd_nin ha hb hm
end
/-! sorted, max, min -/
def sortI (ns : List Int) : List Int := ns.mergeSort fun a b => decide (a ≤ b)
theorem sortI_perm (ns : List Int) : (sortI ns).Perm ns := List.mergeSort_perm _ _
theorem sortI_le (ns : List Int) : (sortI ns).Pairwise (· ≤ ·) := by
  have := List.pairwise_mergeSort (le := fun a b : Int => decide (a ≤ b)) (fun a b c h1 h2 => by simp at *; omega) (fun a b => by simp; omega) ns
  exact this.imp fun h => of_decide_eq_true h
theorem sorted_unique : ∀ {xs ys : List Int}, xs.Perm ys → xs.Pairwise (· ≤ ·) → ys.Pairwise (· ≤ ·) → xs = ys := fun p h1 h2 => p.eq_of_pairwise (fun a b _ _ h3 h4 => Int.le_antisymm h3 h4) h1 h2
def fSorted : Wl → List D → Option (List D) := fun _ ds => match ds with
  | [.lst xs] => (ints? xs).map fun ns => (sortI ns).map .int
  | _ => none
theorem cl_sorted {K : PySem.W.Frag} : CaL (rSortedI K) fSorted := by
  intro wa Hf H w ds us zs Q hb rs h q
  unfold fSorted at h
  split at h
  · rename_i xs
    cases e : ints? xs with
    | none => rw [e] at h; cases h
    | some ns =>
      rw [e] at h
      cases h
      obtain ⟨a, vs, rfl, h1, r1⟩ := one_lst rs
      rw [ints?_some e] at r1
      have e2 := r1.ints
      subst e2
      refine ⟨a, ns, rfl, SqL.of (hb.ex _ _ h1), fun ns' p hp hs hn => ?_⟩
      have e3 : ns' = sortI ns := sorted_unique (hp.trans (sortI_perm ns).symm) hs (sortI_le ns)
      subst e3
      exact newL hb Reps.of_ints q p hn
  · cases h
def maxI : List Int → Option Int
  | [] => none
  | i :: r => some (r.foldl max i)
def minI : List Int → Option Int
  | [] => none
  | i :: r => some (r.foldl min i)
theorem foldl_max_le : ∀ (r : List Int) (i : Int), i ≤ r.foldl max i ∧ (∀ y ∈ r, y ≤ r.foldl max i) ∧ (r.foldl max i = i ∨ r.foldl max i ∈ r)
  | [], i => ⟨Int.le_refl _, by simp, .inl rfl⟩
  | j :: r, i => by
    obtain ⟨h1, h2, h3⟩ := foldl_max_le r (max i j)
    refine ⟨?_, ?_, ?_⟩
    · simp only [List.foldl_cons]; omega
    · intro y hy
      simp only [List.foldl_cons]
      rcases List.mem_cons.mp hy with rfl | hy
      · omega
      · exact h2 y hy
    · simp only [List.foldl_cons, List.mem_cons]
      rcases h3 with h3 | h3
      · omega
      · exact .inr (.inr h3)
theorem foldl_min_le : ∀ (r : List Int) (i : Int), r.foldl min i ≤ i ∧ (∀ y ∈ r, r.foldl min i ≤ y) ∧ (r.foldl min i = i ∨ r.foldl min i ∈ r)
  | [], i => ⟨Int.le_refl _, by simp, .inl rfl⟩
  | j :: r, i => by
    obtain ⟨h1, h2, h3⟩ := foldl_min_le r (min i j)
    refine ⟨?_, ?_, ?_⟩
    · simp only [List.foldl_cons]; omega
    · intro y hy
      simp only [List.foldl_cons]
      rcases List.mem_cons.mp hy with rfl | hy
      · omega
      · exact h2 y hy
    · simp only [List.foldl_cons, List.mem_cons]
      rcases h3 with h3 | h3
      · omega
      · exact .inr (.inr h3)
theorem maxI_of {ns : List Int} {m : Int} (h : maxI ns = some m) : m ∈ ns ∧ ∀ y ∈ ns, y ≤ m := by
  cases ns with
  | nil => cases h
  | cons i r =>
    cases h
    obtain ⟨h1, h2, h3⟩ := foldl_max_le r i
    refine ⟨?_, fun y hy => ?_⟩
    · rcases h3 with h3 | h3
      · rw [h3]; exact List.mem_cons_self
      · exact List.mem_cons_of_mem _ h3
    · rcases List.mem_cons.mp hy with rfl | hy
      · exact h1
      · exact h2 y hy
theorem minI_of {ns : List Int} {m : Int} (h : minI ns = some m) : m ∈ ns ∧ ∀ y ∈ ns, m ≤ y := by
  cases ns with
  | nil => cases h
  | cons i r =>
    cases h
    obtain ⟨h1, h2, h3⟩ := foldl_min_le r i
    refine ⟨?_, fun y hy => ?_⟩
    · rcases h3 with h3 | h3
      · rw [h3]; exact List.mem_cons_self
      · exact List.mem_cons_of_mem _ h3
    · rcases List.mem_cons.mp hy with rfl | hy
      · exact h1
      · exact h2 y hy
def fMaxL : Wl → List D → Option D := fun _ ds => match ds with
  | [.lst xs] => (ints? xs).bind fun ns => (maxI ns).map .int
  | _ => none
def fMinL : Wl → List D → Option D := fun _ ds => match ds with
  | [.lst xs] => (ints? xs).bind fun ns => (minI ns).map .int
  | _ => none
theorem cd_maxL {K : PySem.W.Frag} : CaD (rMax K) fMaxL := by
  intro wa Hf H w ds us z Q hb rs h q
  unfold fMaxL at h
  split at h
  · rename_i xs
    cases e : ints? xs with
    | none => rw [e] at h; cases h
    | some ns =>
      rw [e, Option.bind_some] at h
      cases e1 : maxI ns with
      | none => rw [e1] at h; cases h
      | some m =>
        rw [e1] at h
        cases h
        obtain ⟨a, vs, rfl, h1, r1⟩ := one_lst rs
        rw [ints?_some e] at r1
        have e2 := r1.ints
        subst e2
        obtain ⟨g1, g2⟩ := maxI_of e1
        refine ⟨a, ns, rfl, SqL.of (hb.ex _ _ h1), List.length_pos_of_mem g1, fun m' h3 h4 => ?_⟩
        have : m' = m := Int.le_antisymm (g2 m' h3) (h4 m g1)
        subst this
        exact q _ _ Go.refl hb _ (.int _)
  · cases h
theorem cd_minL {K : PySem.W.Frag} : CaD (rMin K) fMinL := by
  intro wa Hf H w ds us z Q hb rs h q
  unfold fMinL at h
  split at h
  · rename_i xs
    cases e : ints? xs with
    | none => rw [e] at h; cases h
    | some ns =>
      rw [e, Option.bind_some] at h
      cases e1 : minI ns with
      | none => rw [e1] at h; cases h
      | some m =>
        rw [e1] at h
        cases h
        obtain ⟨a, vs, rfl, h1, r1⟩ := one_lst rs
        rw [ints?_some e] at r1
        have e2 := r1.ints
        subst e2
        obtain ⟨g1, g2⟩ := minI_of e1
        refine ⟨a, ns, rfl, SqL.of (hb.ex _ _ h1), List.length_pos_of_mem g1, fun m' h3 h4 => ?_⟩
        have : m' = m := Int.le_antisymm (h4 m g1) (g2 m' h3)
        subst this
        exact q _ _ Go.refl hb _ (.int _)
  · cases h
/-! xs.index(y) -/
def idxD (ds : List D) (y : D) : Option D := if okD y && okD (.lst ds) then (ds.findIdx? fun d => eqD d y).map fun j => .int (j : Nat) else none
def eIdx (A B : DE) : DE := fun s w => (A s w).bind fun x w1 => match x with
  | .lst ds => (B s w1).bind fun y w2 => opt (idxD ds y) w2
  | _ => .no
section
variable {X : Cx} {mg : Str → Option Value} {W : WX} {o e : Expr} {apos cpos : Pos} {A B : DE}
theorem pd_index (hu : X.A.units + 65 < cLine) (ha : PE X o (lE mg W A)) (hb : PE X e (lE mg W B))
    (hbase : attributeBase o "index" X.env (eval o X.env) = eval o X.env := by rfl)
    (hfew : ((backTo cpos (starEach (e :: []) X.env)).all (fun x => !x.1) && (backToKw cpos (keywordEach [] X.env)).all (fun x => x.1.isSome)
      && decide ((e :: []).length + ([] : List Keyword).length + (if ([] : List Keyword).isEmpty then 0 else 1) < 30)) = true := by rfl)
    (hline : (apos.endLine == cpos.line) = true := by rfl) (hs : starEach (e :: []) X.env = (false, eval e X.env) :: starEach [] X.env := by rfl) (hplain : (backTo cpos (starEach [] X.env)).any (·.1) = false := by rfl) :
    PE X (.Call (.Attribute o "index" apos) [e] [] cpos) (lE mg W (eIdx A B)) := weakE (pe_bm PySem.F.plainAttrs_list PySem.F.slot_list_index PySem.F.type_list_index (mt_indexD hu) ha (pa_cons hb pa_nil hs) hbase hfew hline hs hplain) fun σ H Q h => by
  obtain ⟨wa, Hf, sD, w, hb, hs, h⟩ := h
  refine ⟨wa, Hf, sD, w, hb, hs, h.bind.mono (fun x w1 H1 Hf1 g1 b1 q v rv => ?_) (fun _ _ _ _ _ _ q => q)⟩
  have hx : ∃ xs, x = .lst xs := by
    cases x with
    | lst xs => exact ⟨xs, rfl⟩
    | _ => exact q.elim
  obtain ⟨ds, rfl⟩ := hx
  cases rv with
  | lst h1 r1 =>
    refine ⟨.inl ⟨rfl, _, SqL.of (b1.ex _ _ h1)⟩, wa, Hf1, sD, w1, b1, hs.go g1, q.bind.mono (fun y w2 H2 Hf2 g2 b2 q2 v2 rv2 => ?_) (fun _ _ _ _ _ _ q => q)⟩
    unfold idxD at q2
    split at q2
    · rename_i hc
      rw [Bool.and_eq_true] at hc
      cases e1 : ds.findIdx? (fun d => eqD d y) with
      | none => rw [e1] at q2; exact q2.elim
      | some j =>
        rw [e1] at q2
        obtain ⟨hj, h3, h4⟩ := List.findIdx?_eq_some_iff_getElem.mp e1
        have hl := (Rep.lst h1 r1).mono g2.ex
        refine ⟨_, v2, toPD y, toPDs ds, j, toPD ds[j], rfl, rfl, hl.dp b2 (shaped_lay hc.2), rv2.dp b2 (shaped_lay hc.1), hc.2, hc.1, ?_, h3, fun m z' hm hz => ?_, q2 H2 Hf2 Go.refl b2 _ (.int _)⟩
        · rw [toPDs_map, List.getElem?_map, List.getElem?_eq_getElem hj]; rfl
        · rw [toPDs_map, List.getElem?_map, List.getElem?_eq_getElem (by omega)] at hz
          cases hz
          have := h4 m hm
          exact (Bool.not_eq_true _).mp this
    · exact q2.elim
theorem pl_cb {es : List Expr} {a : Expr} {As : DA} {x : Str} {id : String} {r : List V → Hp → VK → Prop} {f : Wl → List D → Option (List D)} {p : Pos} {pos : Pos} (hc : CallR X (.builtin id) r) (hf : CaL r f) (hg : Gl X x) (hm : X.mg x = none) (hv : bootBuiltins x = some (.builtin id)) (ha : PA X (a :: es) (lA mg W As)) (hn : x ≠ "__name__" := by decide) (hdb : (x == ("__debug__" : Str)) = false := by decide)
    (he : starEach (a :: es) X.env = (false, eval a X.env) :: starEach es X.env := by rfl) (hpl : (backTo pos (starEach es X.env)).any (·.1) = false := by rfl) : PE X (.Call (.Name x p) (a :: es) [] pos) (lfL mg W (eCBL f As)) :=
  weakE (pe_callB hc hg hm hv ha hn hdb he hpl) fun _ _ _ q => cbL_ok hf q
end
/-! break, continue -/
section
variable {X : Cx} {mg : Str → Option Value} {W : WX} {pos : Pos}
def sBrk : DS := fun s w => .bk s w
def sCnt : DS := fun s w => .ct s w
theorem sd_brk : PS X (.Break pos) (lS mg W sBrk) := weakS ps_break fun D σ H h => by
  obtain ⟨wa, Hf, sD, w, H0, Hf0, g, b, hs, ho, h⟩ := h
  exact h σ H Hf g (Ex.refl _) b hs ho
theorem sd_cnt : PS X (.Continue pos) (lS mg W sCnt) := weakS ps_continue fun D σ H h => by
  obtain ⟨wa, Hf, sD, w, H0, Hf0, g, b, hs, ho, h⟩ := h
  exact h σ H Hf g (Ex.refl _) b hs ho
end
end DL

set_option maxHeartbeats 2000000
namespace DL
open PySem PySem.Spec PyProof.Rows L2
variable [TabT]
open Evl (Ex)
/-! ### list(range(..)) -/
def rgOk (a b : Int) : Prop := -4611686018427387904 ≤ a ∧ a < 4611686018427387904 ∧ -4611686018427387904 ≤ b ∧ b < 4611686018427387904 ∧ (b - a).toNat ≤ lim
instance (a b : Int) : Decidable (rgOk a b) := by unfold rgOk; infer_instance
theorem rgOk_of {a b : Int} (h : rgOk a b) : RgOk a b := by
  obtain ⟨h1, h2, h3, h4, h5⟩ := h
  have : lim = 16000000 := rfl
  exact ⟨by omega, by omega, by omega, by omega, by omega⟩
def aRg1 (A : DE) : DA := fun s w => (A s w).bind fun x w1 => match x with
  | .int j => if rgOk 0 j then .ok (upTo 0 (j - 0).toNat) w1 else .no
  | _ => .no
def aRg2 (A B : DE) : DA := fun s w => (A s w).bind fun x w1 => (B s w1).bind fun y w2 => match x, y with
  | .int i, .int j => if rgOk i j then .ok (upTo i (j - i).toNat) w2 else .no
  | _, _ => .no
section
variable {X : Cx} {mg : Str → Option Value} {W : WX} {a b : Expr} {p p2 pos pos2 : Pos} {A B : DE}
theorem rg_reps {wa : Addr} {Hf : Hp} {i j : Int} : Reps wa Hf (rgV i j) (upTo i (j - i).toNat) := by
  have e : ∀ l : List Nat, Reps wa Hf (l.map fun (k : Nat) => V.int (i + (k : Nat))) (l.map fun (k : Nat) => D.int (i + (k : Nat))) := by
    intro l
    induction l with
    | nil => exact .nil
    | cons k r ih => exact .cons (.int _) ih
  exact e _
theorem pl_rg1 (hc : X.calm = true) (hg : Gl X "list") (hm : X.mg "list" = none) (hg2 : Gl X "range") (hm2 : X.mg "range" = none) (ha : PE X a (lE mg W A))
    (na : starEach [a] X.env = (false, eval a X.env) :: starEach [] X.env := by rfl)
    (ne : starEach [Expr.Call (.Name "range" p2) [a] [] pos2] X.env = (false, eval (Expr.Call (.Name "range" p2) [a] [] pos2) X.env) :: starEach [] X.env := by rfl) :
    PE X (.Call (.Name "list" p) [.Call (.Name "range" p2) [a] [] pos2] [] pos) (lfL mg W (aRg1 A)) := weakE (pe_listRg hc hg hm (prg_1 hg2 hm2 ha na) ne) fun σ H Q h => by
  obtain ⟨wa, Hf, sD, w, hb, hs, h⟩ := h
  refine ⟨wa, Hf, sD, w, hb, hs, h.bind.mono (fun x w1 H1 Hf1 g1 b1 q v rv => ?_) (fun _ _ _ _ _ _ q => q)⟩
  split at q
  · split at q
    · rename_i hr
      cases rv
      refine ⟨_, rfl, rgOk_of hr, fun l hl => ?_⟩
      exact newL b1 rg_reps (fun H' Hf' l2 vs g b n e1 e2 e3 r => q H' Hf' g b l2 vs (g1.fr n) e1 e2 e3 r) l hl
    · exact q.elim
  · exact q.elim
theorem pl_rg2 (hc : X.calm = true) (hg : Gl X "list") (hm : X.mg "list" = none) (hg2 : Gl X "range") (hm2 : X.mg "range" = none) (ha : PE X a (lE mg W A)) (hb : PE X b (lE mg W B))
    (na : starEach [a, b] X.env = (false, eval a X.env) :: starEach [b] X.env := by rfl) (nb : starEach [b] X.env = (false, eval b X.env) :: starEach [] X.env := by rfl) (hp : (backTo pos2 (starEach [b] X.env)).any (·.1) = false := by rfl)
    (ne : starEach [Expr.Call (.Name "range" p2) [a, b] [] pos2] X.env = (false, eval (Expr.Call (.Name "range" p2) [a, b] [] pos2) X.env) :: starEach [] X.env := by rfl) :
    PE X (.Call (.Name "list" p) [.Call (.Name "range" p2) [a, b] [] pos2] [] pos) (lfL mg W (aRg2 A B)) := weakE (pe_listRg hc hg hm (prg_2 hg2 hm2 ha hb na nb hp) ne) fun σ H Q h => by
  obtain ⟨wa, Hf, sD, w, hb, hs, h⟩ := h
  refine ⟨wa, Hf, sD, w, hb, hs, h.bind.mono (fun x w1 H1 Hf1 g1 b1 q v rv => ?_) (fun _ _ _ _ _ _ q => q)⟩
  refine ⟨wa, Hf1, sD, w1, b1, hs.go g1, q.bind.mono (fun y w2 H2 Hf2 g2 b2 q2 v2 rv2 => ?_) (fun _ _ _ _ _ _ q => q)⟩
  split at q2
  · split at q2
    · rename_i hr
      cases rv
      cases rv2
      refine ⟨_, _, rfl, rfl, rgOk_of hr, fun l hl => ?_⟩
      exact newL b2 rg_reps (fun H' Hf' l2 vs g b n e1 e2 e3 r => q2 H' Hf' g b l2 vs ((g1.trans g2).fr n) e1 e2 e3 r) l hl
    · exact q2.elim
  · exact q2.elim
end
/-! ### a test that is `x if c else y` -/
section
variable {X : Cx} {mg : Str → Option Value} {W : WX} {a b c : Expr} {pos : Pos} {C S T : DT} {tC tA tB : TT}
theorem pt_ifx (hc : PT X c tC) (ha : PT X a tA) (hb : PT X b tB) : PT X (.IfExp c a b pos) (fun σ H Q => tC σ H fun k H1 => if k = true then tA σ H1 Q else tB σ H1 Q) := ⟨fun pins s σ H Q I h =>
  PyProof.Rows.isTrue_IfExp (thn (hc.run pins s σ H _ I h) fun d s1 ⟨H1, I1, q1⟩ => by
    cases d with
    | true => exact ha.run pins s1 σ H1 Q I1 q1
    | false => exact hb.run pins s1 σ H1 Q I1 q1)⟩
def tIfD (C S T : DT) : DT := fun s w => (C s w).bind fun k w1 => if k then S s w1 else T s w1
theorem qd_ifx (hc : PT X c (lT mg W C)) (ha : PT X a (lT mg W S)) (hb : PT X b (lT mg W T)) : PT X (.IfExp c a b pos) (lT mg W (tIfD C S T)) := weakT (pt_ifx hc ha hb) fun σ H Q h => by
  obtain ⟨wa, Hf, sD, w, hb, hs, h⟩ := h
  refine ⟨wa, Hf, sD, w, hb, hs, h.bind.mono (fun x w1 H1 Hf1 g1 b1 q v rv => ?_) (fun _ _ _ _ _ _ q => q)⟩
  cases rv
  cases x with
  | true => exact iteT ⟨wa, Hf1, sD, w1, b1, hs.go g1, q⟩
  | false => exact iteF ⟨wa, Hf1, sD, w1, b1, hs.go g1, q⟩
end
end DL

set_option maxHeartbeats 2000000
namespace DL
open PySem PySem.Spec PyProof.Rows L2
variable [TabT]
/-! ### what a piece of code comes to, as a plain proposition -/
section
variable {α β : Type} {a : α} {w : Wl} {Q P : α → Wl → Prop} {s : Sl} {A B C : DE} {As Bs : DA} {S T : DT} {f g : Wl → D → D → Option D} {U V : DS} {N N' : Sl → Wl → Prop} {Z Z' : D → Wl → Prop} {i n k : Nat}
def okE (r : R α) (Q : α → Wl → Prop) : Prop := match r with
  | .ok a w => Q a w
  | _ => False
def okO (o : Option α) (P : α → Prop) : Prop := match o with
  | some z => P z
  | none => False
def okB (d : D) (P : Bool → Prop) : Prop := match d with
  | .bl k => P k
  | _ => False
@[simp] theorem okE_ok : okE (.ok a w) Q = Q a w := rfl
@[simp] theorem okE_no : okE (.no) Q = False := rfl
@[simp] theorem okE_er {x : Exn} : okE (.er x w) Q = False := rfl
@[simp] theorem okO_some {P : α → Prop} : okO (some a) P = P a := rfl
@[simp] theorem okO_none {P : α → Prop} : okO none P = False := rfl
@[simp] theorem okB_bl {P : Bool → Prop} {k : Bool} : okB (.bl k) P = P k := rfl
theorem okE_bind {r : R α} {k : α → Wl → R β} {Q : β → Wl → Prop} : okE (r.bind k) Q = okE r (fun a w => okE (k a w) Q) := by cases r <;> rfl
@[simp] theorem okE_noer {r : R α} : okE r.noer Q = okE r Q := by cases r <;> rfl
@[simp] theorem okE_opt {o : Option α} : okE (opt o w) Q = okO o fun z => Q z w := by cases o <;> rfl
@[simp] theorem okE_ite {c : Prop} [Decidable c] {r r' : R α} : okE (if c then r else r') Q = if c then okE r Q else okE r' Q := by split <;> rfl
@[simp] theorem okO_ite {c : Prop} [Decidable c] {o : Option α} {P : α → Prop} : okO (if c then o else none) P = (c ∧ okO o P) := by
  by_cases h : c
  · simp [h]
  · simp [h]
theorem okE_mono {r : R α} (h : okE r P) (i : ∀ a w, P a w → Q a w) : okE r Q := by
  cases r with
  | ok a w => exact i _ _ h
  | er _ _ => exact h
  | no => exact h
theorem okE_eq {r : R α} (h : okE r fun d w' => d = a ∧ w' = w) : r = .ok a w := by
  cases r with
  | ok b v => obtain ⟨rfl, rfl⟩ := h; rfl
  | er _ _ => exact h.elim
  | no => exact h.elim
theorem okE_ex {r : R α} (h : okE r P) : ∃ a w, r = .ok a w ∧ P a w := by
  cases r with
  | ok b v => exact ⟨b, v, rfl, h⟩
  | er _ _ => exact h.elim
  | no => exact h.elim
variable {Q : D → Wl → Prop} {QA : List D → Wl → Prop} {QT : Bool → Wl → Prop}
@[simp] theorem okE_var : okE (eVar i s w) Q = okO (getS s i) fun d => Q d w := by unfold eVar; cases getS s i <;> rfl
@[simp] theorem okE_c {d : D} : okE (eC d s w) Q = Q d w := rfl
@[simp] theorem okE_bin : okE (eBin f A B s w) Q = okE (A s w) fun x w1 => okE (B s w1) fun y w2 => okO (f w2 x y) fun z => Q z w2 := by unfold eBin; simp only [okE_bind, okE_opt]
@[simp] theorem okE_un {f : Wl → D → Option D} : okE (eUn f A s w) Q = okE (A s w) fun x w1 => okO (f w1 x) fun z => Q z w1 := by unfold eUn; simp only [okE_bind, okE_opt]
@[simp] theorem okE_cb {f : Wl → List D → Option D} : okE (eCB f As s w) Q = okE (As s w) fun x w1 => okO (f w1 x) fun z => Q z w1 := by unfold eCB; simp only [okE_bind, okE_opt]
@[simp] theorem okE_cbl {f : Wl → List D → Option (List D)} : okE (eCBL f As s w) QA = okE (As s w) fun x w1 => okO (f w1 x) fun z => QA z w1 := by unfold eCBL; simp only [okE_bind, okE_opt]
@[simp] theorem okE_l : okE (eL As s w) Q = okE (As s w) fun x w1 => Q (.lst x) w1 := by unfold eL; simp only [okE_bind, okE_ok]
@[simp] theorem okE_nil : okE (aNil s w) QA = QA [] w := rfl
@[simp] theorem okE_cons : okE (aCons A As s w) QA = okE (A s w) fun x w1 => okE (As s w1) fun xs w2 => QA (x :: xs) w2 := by unfold aCons; simp only [okE_bind, okE_ok]
@[simp] theorem okE_tup : okE (eTup As s w) Q = okE (As s w) fun xs w1 => xs.length ≤ lim ∧ Q (.tup xs) w1 := by
  unfold eTup; simp only [okE_bind]; congr; funext xs w1; split <;> simp [*]
@[simp] theorem okE_lst : okE (aLst As s w) QA = okE (As s w) fun xs w1 => xs.length ≤ lim ∧ QA xs w1 := by
  unfold aLst; simp only [okE_bind]; congr; funext xs w1; split <;> simp [*]
@[simp] theorem okE_call {F : DF} : okE (eCall n F As s w) Q = okE (As s w) fun ds w1 => ds.length = n ∧ okE (F ds w1) Q := by
  unfold eCall; simp only [okE_bind]; congr; funext xs w1; split <;> simp [*]
@[simp] theorem okE_callK {F : DF} {m : Nat} {π : List Nat} : okE (eCallK m n k π F As Bs s w) Q = okE (As s w) fun ds w1 => okE (Bs s w1) fun zs w2 => (ds.length = n ∧ zs.length = k ∧ (permute π (ds ++ zs)).length = m) ∧ okE (F (permute π (ds ++ zs)) w2) Q := by
  unfold eCallK; simp only [okE_bind]; congr; funext xs w1; congr; funext ys w2; split <;> simp [*]
@[simp] theorem okE_if : okE (eIf T A B s w) Q = okE (T s w) fun k w1 => if k = true then okE (A s w1) Q else okE (B s w1) Q := by
  unfold eIf; simp only [okE_bind]; congr; funext k w1; cases k <;> rfl
@[simp] theorem okE_and : okE (eAnd A B s w) Q = okE (A s w) fun x w1 => okB x fun k => if k = true then okE (B s w1) Q else Q (.bl false) w1 := by
  unfold eAnd; simp only [okE_bind]; congr; funext x w1; cases x <;> try rfl
  rename_i b; cases b <;> rfl
@[simp] theorem okE_or : okE (eOr A B s w) Q = okE (A s w) fun x w1 => okB x fun k => if k = true then Q (.bl true) w1 else okE (B s w1) Q := by
  unfold eOr; simp only [okE_bind]; congr; funext x w1; cases x <;> try rfl
  rename_i b; cases b <;> rfl
@[simp] theorem okE_not : okE (eNot A s w) Q = okE (A s w) fun x w1 => okB x fun k => Q (.bl (!k)) w1 := by
  unfold eNot; simp only [okE_bind]; congr; funext x w1; cases x <;> rfl
@[simp] theorem okE_chain : okE (eChain f g A B C s w) Q = okE (A s w) fun x w1 => okE (B s w1) fun y w2 => okO (f w2 x y) fun z => okB z fun k => if k = true then okE (C s w2) fun u w4 => okO (g w4 y u) fun v => Q v w4 else Q (.bl false) w2 := by
  unfold eChain; simp only [okE_bind, okE_opt]; congr; funext x w1; congr; funext y w2; congr; funext z; cases z <;> try rfl
  rename_i b; cases b
  · rfl
  · simp only [okE_bind, okE_opt]; rfl
@[simp] theorem okT_e : okE (tE A s w) QT = okE (A s w) fun x w1 => okB x fun k => QT k w1 := by
  unfold tE; simp only [okE_bind]; congr; funext x w1; cases x <;> rfl
@[simp] theorem okT_an : okE (tAn S T s w) QT = okE (S s w) fun k w1 => if k = true then okE (T s w1) QT else QT false w1 := by
  unfold tAn; simp only [okE_bind]; congr; funext k w1; cases k <;> rfl
@[simp] theorem okT_on : okE (tOn S T s w) QT = okE (S s w) fun k w1 => if k = true then QT true w1 else okE (T s w1) QT := by
  unfold tOn; simp only [okE_bind]; congr; funext k w1; cases k <;> rfl
@[simp] theorem okT_no : okE (tNo S s w) QT = okE (S s w) fun k w1 => QT (!k) w1 := by unfold tNo; simp only [okE_bind, okE_ok]
@[simp] theorem okT_tr : okE (tTr A s w) QT = okE (A s w) fun x w1 => okO (truD x) fun k => QT k w1 := by unfold tTr; simp only [okE_bind, okE_opt]
@[simp] theorem okT_yes : okE (tYesD s w) QT = QT true w := rfl
@[simp] theorem okE_rev : okE (eRev A s w) Q = okE (A s w) fun x w1 => match x with
    | .lst xs => Q (.lst xs.reverse) w1
    | .tup xs => Q (.tup xs.reverse) w1
    | _ => False := by unfold eRev; simp only [okE_bind]; congr; funext x w1; cases x <;> rfl
@[simp] theorem okI_seq : okE (iSeq A s w) QA = okE (A s w) fun x w1 => okO (seqD x) fun p => QA p.2 w1 := by unfold iSeq; simp only [okE_bind]; congr; funext x w1; cases x <;> rfl
def rng1D : List D → Option (List D)
  | [.int j] => if -4611686018427387904 ≤ j ∧ j < 4611686018427387904 then some (upTo 0 j.toNat) else none
  | _ => none
def rng2D : List D → Option (List D)
  | [.int i, .int j] => if (-4611686018427387904 ≤ i ∧ i < 4611686018427387904) ∧ -4611686018427387904 ≤ j ∧ j < 4611686018427387904 then some (upTo i (j - i).toNat) else none
  | _ => none
def enm1D : List D → Option (List D)
  | [.lst ds] => some (enumD ds)
  | _ => none
def zip2D : List D → Option (List D)
  | [x, y] => (seqD x).bind fun p => (seqD y).bind fun q => some (zipD p.2 q.2)
  | [x, y, z] => (seqD x).bind fun p => (seqD y).bind fun q => (seqD z).bind fun r => some (zip3D p.2 q.2 r.2)
  | _ => none
@[simp] theorem okI_rng1 : okE (iRng1 As s w) QA = okE (As s w) fun xs w1 => okO (rng1D xs) fun ds => QA ds w1 := by
  unfold iRng1; simp only [okE_bind]; congr; funext xs w1
  rcases xs with _ | ⟨x, _ | ⟨y, xs⟩⟩ <;> try rfl
  · cases x <;> try rfl
    simp only [rng1D, okE_ite, okO_ite, okE_ok, okE_no, okO_some]
    split <;> simp [*]
  · cases x <;> rfl
@[simp] theorem okI_rng2 : okE (iRng2 As s w) QA = okE (As s w) fun xs w1 => okO (rng2D xs) fun ds => QA ds w1 := by
  unfold iRng2; simp only [okE_bind]; congr; funext xs w1
  rcases xs with _ | ⟨x, _ | ⟨y, _ | ⟨z, xs⟩⟩⟩ <;> try rfl
  · cases x <;> rfl
  · cases x <;> try rfl
    cases y <;> try rfl
    simp only [rng2D, okE_ite, okO_ite, okE_ok, okE_no, okO_some]
    split <;> simp [*]
  · cases x <;> try rfl
    cases y <;> rfl
@[simp] theorem okI_enum : okE (iEnum As s w) QA = okE (As s w) fun xs w1 => okO (enm1D xs) fun ds => QA ds w1 := by
  unfold iEnum; simp only [okE_bind]; congr; funext xs w1
  rcases xs with _ | ⟨x, _ | ⟨y, xs⟩⟩ <;> try rfl
  · cases x <;> rfl
  · cases x <;> rfl
@[simp] theorem okI_zip : okE (iZip As s w) QA = okE (As s w) fun xs w1 => okO (zip2D xs) fun ds => QA ds w1 := by
  unfold iZip; simp only [okE_bind]; congr; funext xs w1
  rcases xs with _ | ⟨x, _ | ⟨y, _ | ⟨z, _ | ⟨u, xs⟩⟩⟩⟩ <;> try rfl
  · show okE (match seqD x, seqD y with | some (_, ds), some (_, es) => R.ok (zipD ds es) w1 | _, _ => R.no) QA = okO ((seqD x).bind fun p => (seqD y).bind fun q => some (zipD p.2 q.2)) _
    cases seqD x <;> cases seqD y <;> rfl
  · show okE (match seqD x, seqD y, seqD z with | some (_, ds), some (_, es), some (_, fs) => R.ok (zip3D ds es fs) w1 | _, _, _ => R.no) QA = okO ((seqD x).bind fun p => (seqD y).bind fun q => (seqD z).bind fun r => some (zip3D p.2 q.2 r.2)) _
    cases seqD x <;> cases seqD y <;> cases seqD z <;> rfl
@[simp] theorem okE_lc {I : DI} {G : DG} {vs : List Nat} : okE (aLc I G T A vs s w) QA = okE (I s w) fun ds w1 => ds.length ≤ lim ∧ okE (lcD G T A ds (wipeS s vs) w1) QA := by
  unfold aLc; simp only [okE_bind]; congr; funext xs w1; split <;> simp [*]
/-! statements -/
def okS (r : RS) (N : Sl → Wl → Prop) (Z : D → Wl → Prop) : Prop := match r with
  | .nx s w => N s w
  | .rt d w => Z d w
  | _ => False
@[simp] theorem okS_nx : okS (.nx s w) N Z = N s w := rfl
@[simp] theorem okS_rt {d : D} : okS (.rt d w) N Z = Z d w := rfl
@[simp] theorem okS_no : okS .no N Z = False := rfl
@[simp] theorem okS_sNx : okS (sNx s w) N Z = N s w := rfl
@[simp] theorem okS_never : okS (sNever s w) N Z = False := rfl
@[simp] theorem okS_seq : okS (sSeq U V s w) N Z = okS (U s w) (fun s1 w1 => okS (V s1 w1) N Z) Z := by unfold sSeq; cases U s w <;> rfl
@[simp] theorem okS_asg : okS (sAsg i A s w) N Z = okE (A s w) fun d w1 => N (s.set i (some d)) w1 := by unfold sAsg; cases A s w <;> rfl
@[simp] theorem okS_new : okS (sNew i As s w) N Z = okE (As s w) fun d w1 => N (s.set i (some (.own d))) w1 := by unfold sNew; cases As s w <;> rfl
@[simp] theorem okS_tg {G : DG} : okS (sTg G A s w) N Z = okE (A s w) fun d w1 => okO (G d s) fun s1 => N s1 w1 := by
  unfold sTg
  cases A s w with
  | ok d w1 => simp only [okE_ok]; cases G d s <;> rfl
  | er _ _ => rfl
  | no => rfl
@[simp] theorem okS_drop : okS (sDrop A s w) N Z = okE (A s w) fun _ w1 => N s w1 := by unfold sDrop; cases A s w <;> rfl
@[simp] theorem okS_if : okS (sIf T U V s w) N Z = okE (T s w) fun k w1 => if k = true then okS (U s w1) N Z else okS (V s w1) N Z := by
  unfold sIf
  cases T s w with
  | ok k w1 => cases k <;> rfl
  | er _ _ => rfl
  | no => rfl
@[simp] theorem okS_ret : okS (sRet A s w) N Z = okE (A s w) Z := by unfold sRet; cases A s w <;> rfl
def okOwn (o : Option (Option D)) (P : List D → Prop) : Prop := match o with
  | some (some (.own xs)) => P xs
  | _ => False
@[simp] theorem okOwn_own {xs : List D} {P : List D → Prop} : okOwn (some (some (.own xs))) P = P xs := rfl
@[simp] theorem okS_app : okS (sApp i A s w) N Z = okOwn s[i]? fun xs => okE (A s w) fun d w1 => xs.length < lim ∧ N (s.set i (some (.own (xs ++ [d])))) w1 := by
  unfold sApp
  cases h : s[i]? with
  | none => rfl
  | some o =>
    cases o with
    | none => rfl
    | some d =>
      cases d <;> try rfl
      rename_i xs
      simp only [okOwn_own]
      cases A s w with
      | ok d w1 => simp only [okE_ok]; split <;> simp [*]
      | er _ _ => rfl
      | no => rfl
@[simp] theorem okS_frz : okS (sFrz i U s w) N Z = okS (U (frzS i s) w) N Z := rfl
@[simp] theorem okS_setW : okS (sSetW A B C s w) N Z = okE (C s w) fun d w1 => okE (A s w1) fun x w2 => okE (B s w2) fun k w3 => match d, x, k with
    | .int z, .well, .int k => okO (setW w3 k z) fun w4 => N s w4
    | _, _, _ => False := by
  unfold sSetW
  cases C s w with
  | er _ _ => rfl
  | no => rfl
  | ok d w1 =>
    simp only [R.bind_ok, okE_ok]
    cases A s w1 with
    | er _ _ => rfl
    | no => rfl
    | ok x w2 =>
      simp only [R.bind_ok, okE_ok]
      cases B s w2 with
      | er _ _ => rfl
      | no => rfl
      | ok k w3 =>
        simp only [R.bind_ok, okE_ok]
        cases d <;> try rfl
        cases x <;> try rfl
        cases k <;> try rfl
        rename_i z k
        cases h : setW w3 k z <;> simp [h] <;> rfl
@[simp] theorem okE_mval : okE (mVal A As s w) QA = okE (A s w) fun x w1 => okE (As s w1) fun xs w2 => QA (x :: xs) w2 := by unfold mVal; simp only [okE_bind, okE_ok]
@[simp] theorem okE_mown : okE (mOwn Bs As s w) QA = okE (Bs s w) fun x w1 => okE (As s w1) fun xs w2 => QA (.own x :: xs) w2 := by unfold mOwn; simp only [okE_bind, okE_ok]
@[simp] theorem okS_mul {is : List Nat} : okS (sMul is As s w) N Z = okE (As s w) fun ds w1 => okO (putS s is ds) fun s1 => N s1 w1 := by
  unfold sMul
  cases As s w with
  | ok d w1 => simp only [okE_ok]; cases putS s is d <;> rfl
  | er _ _ => rfl
  | no => rfl
@[simp] theorem okS_for {I : DI} {G : DG} : okS (sFor I G U s w) N Z = okE (I s w) fun ds w1 => okS (loopD G U ds s w1) N Z := by unfold sFor; cases I s w <;> rfl
theorem okS_mono {r : RS} (h : okS r N Z) (i : ∀ s w, N s w → N' s w) (j : ∀ d w, Z d w → Z' d w) : okS r N' Z' := by
  cases r with
  | nx s w => exact i _ _ h
  | rt d w => exact j _ _ h
  | _ => exact h
theorem okE_run {B : DS} {ds : List D} : okE (runB n k B ds w) Q = (ds.length = k ∧ okS (B (ds.map some ++ List.replicate (n - k) none) w) (fun _ w1 => Q .non w1) Q) := by
  unfold runB
  by_cases h : ds.length = k
  · rw [if_pos h]
    simp only [h, true_and]
    cases B (ds.map some ++ List.replicate (n - k) none) w <;> rfl
  · rw [if_neg h]
    simp [h]
/-- a comprehension, element by element -/
theorem lc_map {γ : Type} {G : DG} (g f : γ → D) (p : γ → Bool) {s : Sl} {w : Wl} : ∀ {xs : List γ}, (∀ x ∈ xs, okO (G (g x) s) fun s1 => T s1 w = .ok (p x) w ∧ (p x = true → A s1 w = .ok (f x) w)) → lcD G T A (xs.map g) s w = .ok ((xs.filter p).map f) w
  | [], _ => rfl
  | x :: xs, h => by
    have h1 := h x List.mem_cons_self
    have ih := lc_map g f p (xs := xs) fun y hy => h y (List.mem_cons_of_mem _ hy)
    rw [List.map_cons]
    unfold lcD
    cases e : G (g x) s with
    | none => rw [e] at h1; exact h1.elim
    | some s1 =>
      rw [e] at h1
      obtain ⟨h2, h3⟩ := h1
      simp only [h2, R.noer_ok, R.bind_ok]
      by_cases hp : p x = true
      · rw [if_pos hp, h3 hp, List.filter_cons_of_pos hp]
        simp [ih]
      · rw [if_neg hp, List.filter_cons_of_neg hp]
        exact ih
/-- .. no condition -/
theorem lc_all {γ : Type} {G : DG} (g f : γ → D) {s : Sl} {w : Wl} {xs : List γ} (h : ∀ x ∈ xs, okO (G (g x) s) fun s1 => okE (A s1 w) fun d w1 => d = f x ∧ w1 = w) : lcD G tYesD A (xs.map g) s w = .ok (xs.map f) w := by
  have := lc_map (T := tYesD) (A := A) (G := G) g f (fun _ => true) (s := s) (w := w) (xs := xs) fun x hx => by
    have h1 := h x hx
    cases e : G (g x) s with
    | none => rw [e] at h1; exact h1.elim
    | some s1 =>
      rw [e] at h1
      exact ⟨rfl, fun _ => okE_eq h1⟩
  rw [List.filter_eq_self.mpr (by simp)] at this
  exact this
theorem okE_lcall {γ : Type} {G : DG} (g f : γ → D) {s : Sl} {w : Wl} {xs : List γ} {Q : List D → Wl → Prop} (h : ∀ x ∈ xs, okO (G (g x) s) fun s1 => okE (A s1 w) fun d w1 => d = f x ∧ w1 = w) (q : Q (xs.map f) w) : okE (lcD G tYesD A (xs.map g) s w) Q := by
  rw [lc_all g f h]
  exact q
/-- a loop by its invariant -/
theorem okS_loop {G : DG} (I : Nat → Sl → Wl → Prop) : ∀ {ds : List D} {s : Sl} {w : Wl} (m : Nat), I m s w → (∀ i d s w, ds[i]? = some d → I (m + i) s w → okO (G d s) fun s1 => okS (U s1 w) (I (m + i + 1)) Z) → (∀ s w, I (m + ds.length) s w → N s w) → okS (loopD G U ds s w) N Z
  | [], s, w, m, h0, _, he => he s w h0
  | d :: ds, s, w, m, h0, hs, he => by
    have h1 := hs 0 d s w rfl h0
    unfold loopD
    cases e : G d s with
    | none => rw [e] at h1; exact h1.elim
    | some s1 =>
      rw [e] at h1
      simp only [okO_some] at h1
      dsimp only
      cases e2 : U s1 w with
      | nx s2 w2 =>
        rw [e2] at h1
        exact okS_loop I (m + 1) h1 (fun i d' s' w' hd hI => by
          have := hs (i + 1) d' s' w' (by simpa using hd) (by rw [show m + (i + 1) = m + 1 + i by omega]; exact hI)
          rw [show m + (i + 1) + 1 = m + 1 + i + 1 by omega] at this
          exact this) (fun s' w' hI => he s' w' (by rw [List.length_cons, show m + (ds.length + 1) = m + 1 + ds.length by omega]; exact hI))
      | rt d' w2 => rw [e2] at h1; exact h1
      | bk _ _ => rw [e2] at h1; exact h1.elim
      | ct _ _ => rw [e2] at h1; exact h1.elim
      | er _ _ _ => rw [e2] at h1; exact h1.elim
      | no => rw [e2] at h1; exact h1.elim
theorem okS_loop0 {G : DG} (I : Nat → Sl → Wl → Prop) {ds : List D} {s : Sl} {w : Wl} (h0 : I 0 s w) (hs : ∀ i d s w, ds[i]? = some d → I i s w → okO (G d s) fun s1 => okS (U s1 w) (I (i + 1)) Z) (he : ∀ s w, I ds.length s w → N s w) : okS (loopD G U ds s w) N Z :=
  okS_loop I 0 h0 (fun i d s w hd hI => by
    rw [Nat.zero_add] at hI ⊢
    exact hs i d s w hd hI) (fun s w hI => he s w (by rw [Nat.zero_add] at hI; exact hI))
end
end DL

set_option maxHeartbeats 2000000
namespace DL
open PySem PySem.Spec PyProof.Rows L2
variable [TabT]
open Evl (Ex)
/-! ### an own list is lent to an expression, and is own again behind it -/
def kindD : D → Nat
  | .int _ => 1
  | .bl _ => 2
  | .str _ => 3
  | .non => 4
  | .lst _ => 5
  | .tup _ => 6
  | _ => 0
mutual
/-- nowhere in it a list whose first item is of this kind -/
def avoidD (k : Nat) : D → Bool
  | .lst ds => (match ds with
    | [] => true
    | y :: _ => kindD y != 0 && kindD y != k) && avoidDs k ds
  | .tup ds => avoidDs k ds
  | _ => true
def avoidDs (k : Nat) : List D → Bool
  | [] => true
  | d :: ds => avoidD k d && avoidDs k ds
end
def delH (Hf : Hp) (p : Addr) : Hp := fun a => if a = p then none else Hf a
section
variable {wa : Addr} {Hf Hf' H H' : Hp} {p : Addr}
theorem delH_same : delH Hf p p = none := by unfold delH; rw [if_pos rfl]
theorem delH_ne {a : Addr} (h : a ≠ p) : delH Hf p a = Hf a := by unfold delH; rw [if_neg h]
theorem kind_uniq {v : V} {d d' : D} (r : Rep wa Hf v d) (r' : Rep wa Hf v d') (h : kindD d ≠ 0) (h' : kindD d' ≠ 0) : kindD d = kindD d' := by
  cases r with
  | non => cases r' <;> first | rfl | exact absurd rfl h'
  | bl b => cases r' <;> first | rfl | exact absurd rfl h'
  | int b => cases r' <;> first | rfl | exact absurd rfl h'
  | str b => cases r' <;> first | rfl | exact absurd rfl h'
  | lst h1 r1 =>
    cases r' with
    | lst h2 r2 => rfl
    | tup h2 r2 => rw [h1] at h2; cases h2
    | well => exact absurd rfl h'
    | ref => exact absurd rfl h'
  | tup h1 r1 =>
    cases r' with
    | lst h2 r2 => rw [h1] at h2; cases h2
    | tup h2 r2 => rfl
    | well => exact absurd rfl h'
    | ref => exact absurd rfl h'
  | well => exact absurd rfl h
  | ref => exact absurd rfl h
  | ty => exact absurd rfl h
mutual
theorem Rep.del {v0 : V} {vs : List V} {y : D} (hp : Hf p = some (.lst (v0 :: vs))) (r0 : Rep wa Hf v0 y) (k0 : kindD y ≠ 0) : ∀ {v : V} {d : D}, Rep wa Hf v d → avoidD (kindD y) d = true → Rep wa (delH Hf p) v d
  | _, _, .non, _ => .non
  | _, _, .bl b, _ => .bl b
  | _, _, .int b, _ => .int b
  | _, _, .str b, _ => .str b
  | _, _, .well, _ => .well
  | _, _, .ref a, _ => .ref a
  | _, _, .ty a, _ => .ty a
  | _, .tup ds, .tup (a := a) h r, c => by
    have hne : a ≠ p := fun e => by rw [e, hp] at h; cases h
    exact .tup ((delH_ne hne).trans h) (Reps.del hp r0 k0 r c)
  | _, .lst ds, .lst (a := a) h r, c => by
    unfold avoidD at c
    rw [Bool.and_eq_true] at c
    by_cases hne : a = p
    · exfalso
      rw [hne, hp] at h
      cases h
      cases r with
      | cons r1 r2 =>
        have c1 := c.1
        simp only [Bool.and_eq_true, bne_iff_ne, ne_eq] at c1
        exact c1.2 (kind_uniq r1 r0 c1.1 k0)
    · exact .lst ((delH_ne hne).trans h) (Reps.del hp r0 k0 r c.2)
theorem Reps.del {v0 : V} {vs : List V} {y : D} (hp : Hf p = some (.lst (v0 :: vs))) (r0 : Rep wa Hf v0 y) (k0 : kindD y ≠ 0) : ∀ {us : List V} {ds : List D}, Reps wa Hf us ds → avoidDs (kindD y) ds = true → Reps wa (delH Hf p) us ds
  | _, _, .nil, _ => .nil
  | _, d :: ds, .cons h r, c => by
    unfold avoidDs at c
    rw [Bool.and_eq_true] at c
    exact .cons (Rep.del hp r0 k0 h c.1) (Reps.del hp r0 k0 r c.2)
end
/-- back to before, the lent list being own -/
theorem lent_back {w1 : Wl} {vs : List V} (b : Base wa Hf H w1) (k3 : Hf p = none) (k4 : p ≠ wa) {w2 : Wl} (g : Go wa H (upd Hf p (.lst vs)) H' Hf') (b' : Base wa Hf' H' w2) : Go wa H Hf H' (delH Hf' p) ∧ Base wa (delH Hf' p) H' w2 :=
  ⟨⟨g.keepN, fun a o e => by
      have hne : a ≠ p := fun z => by rw [z, k3] at e; cases e
      rw [delH_ne hne]
      exact g.ex a o (by rw [upd_ne hne]; exact e), fun a o t e => by
      by_cases ha : a = p
      · subst ha; rw [delH_same, k3]
      · rw [delH_ne ha, g.newN a o t e, upd_ne ha], g.thereN⟩,
   ⟨fun a o e => by
      by_cases ha : a = p
      · subst ha; rw [delH_same] at e; cases e
      · rw [delH_ne ha] at e; exact b'.ex a o e, b'.well, by rw [delH_ne (Ne.symm k4)]; exact b'.nw, b'.tb, fun a o e => by
      by_cases ha : a = p
      · subst ha; rw [delH_same] at e; cases e
      · rw [delH_ne ha] at e; exact b'.nt a o e⟩⟩
theorem frz_base {w : Wl} {vs : List V} (b : Base wa Hf H w) (k2 : H p = some (.lst vs)) (k4 : p ≠ wa) : Base wa (upd Hf p (.lst vs)) H w :=
  ⟨fun a u q => by
    by_cases ha : a = p
    · subst ha; rw [upd_same] at q; rw [← q]; exact k2
    · rw [upd_ne ha] at q; exact b.ex a u q, b.well, by rw [upd_ne (Ne.symm k4)]; exact b.nw, b.tb, nt_upd b.nt nt_lst⟩
end
def lendE (i : Nat) (E : DE) : DE := fun s w => match s[i]? with
  | some (some (.own (y :: ys))) => match E (s.set i (some (.lst (y :: ys)))) w with
    | .ok d w1 => if kindD y ≠ 0 ∧ avoidD (kindD y) d = true then .ok d w1 else .no
    | _ => .no
  | _ => E s w
def lendT (i : Nat) (T : DT) : DT := fun s w => match s[i]? with
  | some (some (.own (y :: ys))) => match T (s.set i (some (.lst (y :: ys)))) w with
    | .ok k w1 => .ok k w1
    | _ => .no
  | _ => T s w
section
variable {X : Cx} {mg : Str → Option Value} {W : WX} {e : Expr} {A : DE} {T : DT} {σ : L2.St} {H : Hp}
theorem lendE_ok {i : Nat} {Q : VK} (h : lE mg W (lendE i A) σ H Q) : lE mg W A σ H Q := by
  obtain ⟨wa, Hf, sD, w, hb, hs, h⟩ := h
  unfold lendE at h
  split at h
  · rename_i y ys hi
    obtain ⟨p, vs, k1, k2, k3, k4, k5⟩ := hs.own i _ hi
    refine ⟨wa, upd Hf p (.lst vs), _, w, frz_base hb k2 k4, hs.frz hi k1 k2, ?_⟩
    cases eA : A (sD.set i (some (.lst (y :: ys)))) w with
    | no => rw [eA] at h; exact h.elim
    | er x w1 => rw [eA] at h; exact h.elim
    | ok d w1 =>
      rw [eA] at h
      simp only at h
      split at h
      · rename_i hc
        intro H' Hf' g b v rv
        obtain ⟨g2, b2⟩ := lent_back hb k3 k4 g b
        cases k5 with
        | cons r0 r1 =>
          have hp := g.ex p _ upd_same
          have r0' := (r0.mono (Ex.new k3)).mono g.ex
          exact h H' _ g2 b2 v (Rep.del hp r0' hc.1 rv hc.2)
      · exact h.elim
  · exact ⟨wa, Hf, sD, w, hb, hs, h⟩
theorem lendT_ok {i : Nat} {Q : Bool → Hp → Prop} (h : lT mg W (lendT i T) σ H Q) : lT mg W T σ H Q := by
  obtain ⟨wa, Hf, sD, w, hb, hs, h⟩ := h
  unfold lendT at h
  split at h
  · rename_i y ys hi
    obtain ⟨p, vs, k1, k2, k3, k4, k5⟩ := hs.own i _ hi
    refine ⟨wa, upd Hf p (.lst vs), _, w, frz_base hb k2 k4, hs.frz hi k1 k2, ?_⟩
    cases eA : T (sD.set i (some (.lst (y :: ys)))) w with
    | no => rw [eA] at h; exact h.elim
    | er x w1 => rw [eA] at h; exact h.elim
    | ok d w1 =>
      rw [eA] at h
      intro H' Hf' g b v rv
      obtain ⟨g2, b2⟩ := lent_back hb k3 k4 g b
      exact h H' _ g2 b2 v rv
  · exact ⟨wa, Hf, sD, w, hb, hs, h⟩
theorem pd_lend (i : Nat) (h : PE X e (lE mg W A)) : PE X e (lE mg W (lendE i A)) := weakE h fun _ _ _ q => lendE_ok q
theorem qd_lend (i : Nat) (h : PT X e (lT mg W T)) : PT X e (lT mg W (lendT i T)) := weakT h fun _ _ _ q => lendT_ok q
end
section
variable {i : Nat} {A : DE} {T : DT} {s : Sl} {w : Wl} {Q : D → Wl → Prop} {QT : Bool → Wl → Prop} {y : D} {ys : List D}
theorem okE_lend (h : s[i]? = some (some (.own (y :: ys)))) : okE (lendE i A s w) Q = okE (A (s.set i (some (.lst (y :: ys)))) w) fun d w1 => (kindD y ≠ 0 ∧ avoidD (kindD y) d = true) ∧ Q d w1 := by
  unfold lendE
  rw [h]
  simp only
  cases A (s.set i (some (.lst (y :: ys)))) w with
  | no => rfl
  | er _ _ => rfl
  | ok d w1 =>
    simp only [okE_ok]
    by_cases hc : kindD y ≠ 0 ∧ avoidD (kindD y) d = true
    · rw [if_pos hc]
      simp [hc]
    · rw [if_neg hc]
      simp only [okE_no, eq_iff_iff, false_iff]
      exact fun h => hc h.1
theorem okT_lend (h : s[i]? = some (some (.own (y :: ys)))) : okE (lendT i T s w) QT = okE (T (s.set i (some (.lst (y :: ys)))) w) QT := by
  unfold lendT
  rw [h]
  simp only
  cases T (s.set i (some (.lst (y :: ys)))) w <;> rfl
end
end DL

set_option maxHeartbeats 2000000
namespace DL
open PySem PySem.Spec PyProof.Rows L2
variable [TabT]
/-! ### what the operations make of plain values -/
section
variable {w : Wl} {i j k n m : Nat} {a b : Int} {xs ys : List D} {s : Sl} {d x y : D} {P : D → Prop} {PA : List D → Prop} {PS : Sl → Prop}
@[simp] theorem v_add : fAdd w (.int a) (.int b) = some (.int (a + b)) := rfl
@[simp] theorem v_addT : okO (fAdd w (.tup xs) (.tup ys)) P = (xs.length + ys.length ≤ lim ∧ P (.tup (xs ++ ys))) := by unfold fAdd; simp
@[simp] theorem v_addL : okO (fAdd w (.lst xs) (.lst ys)) P = (xs.length + ys.length ≤ lim ∧ P (.lst (xs ++ ys))) := by unfold fAdd; simp
@[simp] theorem v_sub : fSub w (.int a) (.int b) = some (.int (a - b)) := rfl
@[simp] theorem v_mul : okO (fMul w (.int a) (.int b)) P = (mulOk a b ∧ P (.int (a * b))) := by unfold fMul; simp
@[simp] theorem v_div : okO (fDiv w (.int a) (.int b)) P = (divOk b ∧ P (.int (a.fdiv b))) := by unfold fDiv; simp
@[simp] theorem v_mod : okO (fMod w (.int a) (.int b)) P = (b ≠ 0 ∧ P (.int (a.fmod b))) := by unfold fMod; by_cases h : b = 0 <;> simp [h]
@[simp] theorem v_pow : okO (fPow w (.int a) (.int b)) P = ((0 ≤ b ∧ b ≤ 1000000 ∧ a.natAbs < 18446744073709551616) ∧ P (.int (a ^ b.toNat))) := by unfold fPow; simp
@[simp] theorem v_neg : fNeg w (.int a) = some (.int (-a)) := rfl
@[simp] theorem v_cmp {p : Int → Int → Bool} : fCmp p w (.int a) (.int b) = some (.bl (p a b)) := rfl
@[simp] theorem v_eq : okO (fEq w x y) P = ((okD x && okD y) = true ∧ P (.bl (eqD x y))) := by unfold fEq; simp
@[simp] theorem v_ne : okO (fNe w x y) P = ((okD x && okD y) = true ∧ P (.bl (!eqD x y))) := by unfold fNe; simp
@[simp] theorem v_lenL : fLen w [.lst xs] = some (.int xs.length) := rfl
@[simp] theorem v_lenT : fLen w [.tup xs] = some (.int xs.length) := rfl
@[simp] theorem v_max : fMax2 w [.int a, .int b] = some (.int (if b > a then b else a)) := rfl
@[simp] theorem v_min : fMin2 w [.int a, .int b] = some (.int (if b < a then b else a)) := rfl
@[simp] theorem v_abs : fAbs w [.int a] = some (.int (if a < 0 then -a else a)) := rfl
@[simp] theorem v_int : fInt w [.int a] = some (.int a) := rfl
@[simp] theorem v_intB {c : Bool} : fInt w [.bl c] = some (.int (if c then 1 else 0)) := rfl
@[simp] theorem v_sum {α : Type} {f : α → Int} {l : List α} : fSum w [.lst (l.map fun x => .int (f x))] = some (.int (l.map f).sum) := by
  have : l.map (fun x => D.int (f x)) = (l.map f).map D.int := by simp
  show ((ints? (l.map fun x => D.int (f x))).map fun ns => D.int ns.sum) = _
  rw [this, ints?_map]
  rfl
@[simp] theorem v_all {α : Type} {f : α → Bool} {l : List α} : fAll w [.lst (l.map fun x => .bl (f x))] = some (.bl (l.all f)) := by
  have : l.map (fun x => D.bl (f x)) = (l.map f).map D.bl := by simp
  show ((bls? (l.map fun x => D.bl (f x))).map fun ns => D.bl (ns.all id)) = _
  rw [this, bls?_map]
  simp
@[simp] theorem v_any {α : Type} {f : α → Bool} {l : List α} : fAny w [.lst (l.map fun x => .bl (f x))] = some (.bl (l.any f)) := by
  have : l.map (fun x => D.bl (f x)) = (l.map f).map D.bl := by simp
  show ((bls? (l.map fun x => D.bl (f x))).map fun ns => D.bl (ns.any id)) = _
  rw [this, bls?_map]
  simp
@[simp] theorem v_tupL : fTuple w [.lst xs] = some (.tup xs) := rfl
@[simp] theorem v_tupT : fTuple w [.tup xs] = some (.tup xs) := rfl
@[simp] theorem v_lstL : fList w [.lst xs] = some xs := rfl
@[simp] theorem v_lstT : fList w [.tup xs] = some xs := rfl
@[simp] theorem v_isi1 : fIsi w [.int a, .ty "int"] = some (.bl true) := rfl
@[simp] theorem v_isi2 : fIsi w [.int a, .ty "bool"] = some (.bl false) := rfl
@[simp] theorem v_isi3 : fIsi w [.int a, .ty "tuple"] = some (.bl false) := rfl
@[simp] theorem v_isi4 : fIsi w [.int a, .ty "list"] = some (.bl false) := rfl
@[simp] theorem v_isi5 : fIsi w [.tup xs, .ty "int"] = some (.bl false) := rfl
@[simp] theorem v_isi6 : fIsi w [.tup xs, .ty "tuple"] = some (.bl true) := rfl
@[simp] theorem v_isi7 : fIsi w [.tup xs, .ty "list"] = some (.bl false) := rfl
@[simp] theorem v_isi8 : fIsi w [.lst xs, .ty "int"] = some (.bl false) := rfl
@[simp] theorem v_isi9 : fIsi w [.lst xs, .ty "tuple"] = some (.bl false) := rfl
@[simp] theorem v_isi10 : fIsi w [.lst xs, .ty "list"] = some (.bl true) := rfl
@[simp] theorem v_truB {c : Bool} : truD (.bl c) = some c := rfl
@[simp] theorem v_truI : truD (.int a) = some (a != 0) := rfl
@[simp] theorem v_truL : truD (.lst xs) = some (!xs.isEmpty) := rfl
@[simp] theorem v_truT : truD (.tup xs) = some (!xs.isEmpty) := rfl
@[simp] theorem v_gN : gN i d s = some (s.set i (some d)) := rfl
@[simp] theorem v_gNil : gNil' [] s = some s := rfl
@[simp] theorem v_gCons {G : DG} {Gs : List D → Sl → Option Sl} : okO (gCons' G Gs (d :: xs) s) PS = okO (G d s) fun s1 => okO (Gs xs s1) PS := by
  show okO ((G d s).bind fun s1 => Gs xs s1) PS = _
  cases G d s <;> rfl
@[simp] theorem v_gT {Gs : List D → Sl → Option Sl} : okO (gT Gs n (.tup xs) s) PS = (xs.length = n ∧ okO (Gs xs s) PS) := by
  show okO (if xs.length = n then Gs xs s else none) PS = _
  simp
@[simp] theorem v_ixL : fIx w (.lst xs) (.int a) = atI xs a := rfl
@[simp] theorem v_ixT : fIx w (.tup xs) (.int a) = atI xs a := rfl
@[simp] theorem v_ix0 : fIx w .well (.int 0) = some (.int w.1) := rfl
@[simp] theorem v_ix1 : fIx w .well (.int 1) = some (.int w.2.1) := rfl
@[simp] theorem v_ix2 : fIx w .well (.int 2) = some (.int w.2.2) := rfl
@[simp] theorem v_set0 : setW w 0 a = some (a, w.2.1, w.2.2) := rfl
@[simp] theorem v_set1 : setW w 1 a = some (w.1, a, w.2.2) := rfl
@[simp] theorem v_set2 : setW w 2 a = some (w.1, w.2.1, a) := rfl
theorem getS_eq : getS s i = match s[i]? with
  | some (some (.own _)) => none
  | some (some (.dct _ _)) => none
  | some (some d) => some d
  | _ => none := rfl
@[simp] theorem getS_succ {o : Option D} : getS (o :: s) (i + 1) = getS s i := rfl
@[simp] theorem getS_int : getS (some (.int a) :: s) 0 = some (.int a) := rfl
@[simp] theorem getS_bl {c : Bool} : getS (some (.bl c) :: s) 0 = some (.bl c) := rfl
@[simp] theorem getS_str {c : Str} : getS (some (.str c) :: s) 0 = some (.str c) := rfl
@[simp] theorem getS_non : getS (some .non :: s) 0 = some .non := rfl
@[simp] theorem getS_lst : getS (some (.lst xs) :: s) 0 = some (.lst xs) := rfl
@[simp] theorem getS_tup : getS (some (.tup xs) :: s) 0 = some (.tup xs) := rfl
@[simp] theorem getS_well : getS (some .well :: s) 0 = some .well := rfl
@[simp] theorem wipeS_nil : wipeS s [] = s := rfl
@[simp] theorem wipeS_cons {vs : List Nat} : wipeS s (i :: vs) = (wipeS s vs).set i none := rfl
@[simp] theorem frzS_zero : frzS 0 (some (.own xs) :: s) = some (.lst xs) :: s := rfl
@[simp] theorem frzS_lst : frzS 0 (some (.lst xs) :: s) = some (.lst xs) :: s := rfl
@[simp] theorem frzS_tup : frzS 0 (some (.tup xs) :: s) = some (.tup xs) :: s := rfl
@[simp] theorem frzS_succ {o : Option D} : frzS (i + 1) (o :: s) = o :: frzS i s := by
  unfold frzS
  rw [List.getElem?_cons_succ]
  cases s[i]? with
  | none => rfl
  | some q =>
    cases q with
    | none => rfl
    | some d => cases d <;> rfl
@[simp] theorem seqD_lst : seqD (.lst xs) = some (false, xs) := rfl
@[simp] theorem seqD_tup : seqD (.tup xs) = some (true, xs) := rfl
@[simp] theorem putS_nil : putS s [] [] = some s := rfl
@[simp] theorem putS_cons {is : List Nat} : putS s (i :: is) (d :: xs) = putS (s.set i (some d)) is xs := rfl
@[simp] theorem rng1_int : okO (rng1D [.int a]) PA = ((-4611686018427387904 ≤ a ∧ a < 4611686018427387904) ∧ PA (upTo 0 a.toNat)) := by unfold rng1D; simp
@[simp] theorem rng2_int : okO (rng2D [.int a, .int b]) PA = (((-4611686018427387904 ≤ a ∧ a < 4611686018427387904) ∧ -4611686018427387904 ≤ b ∧ b < 4611686018427387904) ∧ PA (upTo a (b - a).toNat)) := by unfold rng2D; simp
@[simp] theorem enm1_lst : enm1D [.lst xs] = some (enumD xs) := rfl
theorem zip2_two {p q : Bool} (h1 : seqD x = some (p, xs)) (h2 : seqD y = some (q, ys)) : zip2D [x, y] = some (zipD xs ys) := by simp [zip2D, h1, h2]
@[simp] theorem zip2_tt : zip2D [.tup xs, .tup ys] = some (zipD xs ys) := rfl
@[simp] theorem zip2_tl : zip2D [.tup xs, .lst ys] = some (zipD xs ys) := rfl
@[simp] theorem zip2_lt : zip2D [.lst xs, .tup ys] = some (zipD xs ys) := rfl
@[simp] theorem zip2_ll : zip2D [.lst xs, .lst ys] = some (zipD xs ys) := rfl
@[simp] theorem zip3_ttl {zs : List D} : zip2D [.tup xs, .tup ys, .lst zs] = some (zip3D xs ys zs) := rfl
theorem mulOk_of {a b : Int} {i j : Nat} (ha : a.natAbs < 2 ^ i) (hb : b.natAbs < 2 ^ j) (hi : 0 < i) (hj : 0 < j) (h : i + j ≤ 1000000) : mulOk a b := by
  have x := PySem.Flt.log2_lt_of hi ha
  have y := PySem.Flt.log2_lt_of hj hb
  unfold mulOk
  omega
theorem divOk_of {b : Int} (h0 : b ≠ 0) (hb : b.natAbs < 2 ^ 9000) : divOk b := ⟨h0, PySem.Flt.log2_lt_of (by decide) hb⟩
/-- two lists by one of pairs -/
theorem zipD_map {α : Type} {f g : α → D} {l : List α} : zipD (l.map f) (l.map g) = l.map fun x => .tup [f x, g x] := by
  unfold zipD
  rw [List.zip_map', List.map_map]
  rfl
theorem zipD_maps {α β : Type} {f : α → D} {g : β → D} {l : List α} {m : List β} : zipD (l.map f) (m.map g) = (l.zip m).map fun x => .tup [f x.1, g x.2] := by
  unfold zipD
  rw [List.zip_map, List.map_map]
  rfl
theorem zip3D_maps {α β γ : Type} {f : α → D} {g : β → D} {h : γ → D} {l : List α} {m : List β} {n : List γ} : zip3D (l.map f) (m.map g) (n.map h) = (l.zip (m.zip n)).map fun x => .tup [f x.1, g x.2.1, h x.2.2] := by
  unfold zip3D
  rw [List.zip_map, List.zip_map, List.map_map]
  rfl
theorem zip3D_map {α : Type} {f g h : α → D} {l : List α} : zip3D (l.map f) (l.map g) (l.map h) = l.map fun x => .tup [f x, g x, h x] := by
  unfold zip3D
  rw [List.zip_map', List.zip_map', List.map_map]
  rfl
end
end DL

set_option maxHeartbeats 2000000
/-! ### own errors over ArithmeticError, with one field of their own: part -/
namespace PySem
namespace ErrX
open PySem.W PySem.Calls PyProof.Rows PySem.HandSPX
abbrev aeM : List Value := [.type "ArithmeticError", .type "Exception", .type "BaseException", .type "object"]
def jA (p1 p2 : Pos) : Arguments := { posonlyargs := [], args := [{ arg := "self", annotation := none, pos := p1 }, { arg := "part", annotation := none, pos := p2 }], vararg := none, kwonlyargs := [], kw_defaults := [], kwarg := none, defaults := [] }
def jB (q1 q2 q3 q4 : Pos) : List Stmt := [.Assign [.Attribute (.Name "self" q1) "part" q2] (.Name "part" q3) q4]
def jS : Scope := { kind := .function, names := [(PySem.Str.ofString "self", .local), (PySem.Str.ofString "part", .local)], isGenerator := false, isCoroutine := false, more := [] }
structure ErrTxt (K : Frag) (mg : Str → Option Value) (cn qn : Str) (C fI : Addr) : Prop where
  gC : mg cn = some (.ref C)
  mkr : excInitIn K C aeM "ArithmeticError.__new__" = true
  ov : excOver K C aeM = true
  sa : findIn K (.ref C) "__setattr__" = some (some (.builtin "object.__setattr__"))
  ga : findIn K (.ref C) "__getattribute__" = some (some (.builtin "BaseException.__getattribute__"))
  gg : findIn K (.ref C) "__getattr__" = some none
  noN : findIn K (.ref C) "part" = some none
  iC : findIn K (.ref C) "__init__" = some (some (.ref fI))
  tC : typeIn K (.ref fI) = some (.type "function")
  kC : keepIn K (.ref C) = true
  exC : subIn K (.ref C) (.type "BaseException") = some true
  tyC : typeIn K (.ref C) = some (.type "type")
  hdC : hasDictIn K C = true
  te : exmOne K (.ref C) (.ref C) = some true
  fn : ∃ (oc : Value) (od : Option Addr) (doc pm : Value) (an : Option Addr) (cdv ct : Value) (osl : Array (Option Value)) (p1 p2 q1 q2 q3 q4 : Pos),
    K.lookup fI = some ⟨oc, od, .func (fnOf "__init__" qn (jA p1 p2) (jB q1 q2 q3 q4) jS .none .none doc pm an cdv ct), osl⟩ ∧ codeIn K cdv qn = true
theorem ns1_one {h : Heap} {d : Addr} {name : Str} {hs : Int} {tk : Tok} {v : Value} {n : Nat} (e : h.get? d = some (dictOf [⟨hs, .str name tk, v⟩] n)) : h.Ns1 d (fun y => if y = name then some v else none) := by
  refine ⟨_, _, n, e, rfl, fun x hx => ?_, ?_, fun y => ?_⟩
  · simp at hx
    subst hx
    exact ⟨name, tk, rfl⟩
  · first | (intro i j; simp; omega) | simp [UniqKeys] | trace_state
  · by_cases h : y = name
    · subst h
      simp [nsFind, findBy, Value.isStr]
    · simp [nsFind, findBy, Value.isStr, h]
      try exact fun q => absurd q.symm h
/-- what __init__ leaves of a fresh exception at x -/
structure Left (h h' : Heap) (x C dx t1 : Addr) (v : Value) : Prop where
  keep : ∀ b o, b ≠ x → h.get? b = some o → h'.get? b = some o
  obj : h'.get? x = some { cls := .ref C, dict := some dx, data := .fields #[.ref t1, .none, .none, .none, .bool false, .none] }
  big : x < dx
  ns : h'.Ns1 dx (fun y => if y = "part" then some v else none)
section
variable {prog : Program} {w : World} {A : Around} {E : Value → Shared → Prop} {R : Result → Shared → Prop} {s : Shared} {K : Frag} {mg : Str → Option Value} {cn qn : Str} {C fI : Addr}
theorem part_init (T : ErrTxt K mg cn qn C fI) {h0 : Heap} {x t0 : Addr} {v : Value} (hs0 : s.heap = h0.push (excO C t0)) (hx0 : x = h0.objs.size) (X0 : K.In h0) (hlim : s.heap.NoLimit) (hroom : A.depth < recursionLimit)
    (hq : ∀ h' tk dx, Left s.heap h' x C dx t0 v → R (.ok (.ret .none)) { s with heap := h', toks := tk }) :
    codeAny (model prog w) A (.call (.ref fI) ⟨[.ref x, v], []⟩) R s := by
  obtain ⟨oc, od, doc, pm, an, cdv, ct, osl, p1, p2, q1, q2, q3, q4, ho, hcd⟩ := T.fn
  have hx : s.heap.get? x = some (excO C t0) := by rw [hs0, hx0]; exact Heap.get?_push_size _ rfl
  have k0 : ∀ b o, h0.get? b = some o → s.heap.get? b = some o := fun b o e => by rw [hs0]; exact Heap.get?_push_of_some _ e
  have X : K.In s.heap := X0.keeps k0
  refine Att.call_fn (binds := [("self", .ref x), ("part", v)]) X hlim ho hcd hroom (BindsTo.of_eq (by first | rfl | with_unfolding_all rfl)) (by first | rfl | decide | with_unfolding_all rfl) (fun s1 IC => ?_) rfl rfl rfl
  obtain ⟨h1, tk1, rfl⟩ := IC.toInCall.same
  have k : ∀ b o, s.heap.get? b = some o → h1.get? b = some o := IC.toInCall.keep
  have hn := IC.toInCall.ns
  have sz : s.heap.objs.size = h0.objs.size + 1 := by rw [hs0]; exact Heap.size_push ..
  have hxL : x ≠ s.heap.objs.size := by rw [hx0, sz]; exact Nat.ne_of_lt (Nat.lt_succ_self _)
  have F : Fr h0 s.heap.objs.size h1 _ := ⟨hn, fun b o e => k b o (k0 b o e), by rw [sz]; exact Nat.le_succ _⟩
  have hnone : h0.get? x = none := by
    cases e : h0.get? x with
    | none => rfl
    | some o =>
      have := Heap.lt_size e
      rw [hx0] at this
      exact absurd this (Nat.lt_irrefl _)
  have N : News h0 s.heap.objs.size h1 [(x, excObj C t0 none .none)] := fun p hp => by
    rw [List.mem_singleton] at hp
    subst hp
    exact ⟨k _ _ hx, hxL, hnone⟩
  show wpAny _ _ (execs _ _) _ _ _
  refine wpAny_execs_cons (plainObj_wpAny_Assign_Attribute ?_)
  refine wpAny_Name (wpAny_loadName_local (by first | rfl | with_unfolding_all rfl) (by first | rfl | with_unfolding_all rfl) hn (v := v) (by first | rfl | with_unfolding_all rfl | kernel_rfl) ?_) (by decide)
  refine wpAny_Name (wpAny_loadName_local (by first | rfl | with_unfolding_all rfl) (by first | rfl | with_unfolding_all rfl) hn (v := .ref x) (by first | rfl | with_unfolding_all rfl | kernel_rfl) ?_) (by decide)
  refine set_exc0 (C := C) (t := t0) (c2 := .none) PySem.F.store_ArithmeticError F X0 N (List.mem_singleton.mpr rfl) T.sa T.ov (by unfold takerIn; rw [T.noN]; rfl) T.hdC rfl (.head (by simp)) (show 1 ≤ 1000 by decide) (fun dx h3 F3 N3 lt => ?_)
  refine wpAny_execs_nil (hq h3 _ dx ⟨fun b o hb e => ?_, ?_, lt _ (List.mem_singleton.mpr rfl), ?_⟩)
  · rw [hs0] at e
    rw [Heap.get?_push_ne _ _ _ (by rw [hx0] at hb; exact hb)] at e
    exact F3.keep b o e
  · exact (N3 (x, _) (by simp)).1
  · exact ns1_one (N3 _ List.mem_cons_self).1
/-- a made error -/
structure Made (h h' : Heap) (e C d : Addr) (v : Value) : Prop where
  keep : ∀ b o, h.get? b = some o → h'.get? b = some o
  new : h.objs.size ≤ e
  obj : ∃ oe vs, h'.get? e = some oe ∧ oe.cls = .ref C ∧ oe.dict = some d ∧ oe.data = .fields vs ∧ vs[1]? = some .none
  dbig : h.objs.size ≤ d
  dne : d ≠ e
  ns : h'.Ns1 d (fun y => if y = "part" then some v else none)
theorem made (T : ErrTxt K mg cn qn C fI) {v : Value} (X : K.In s.heap) (hlim : s.heap.NoLimit) (hroom : A.depth + 1 < recursionLimit)
    (hq : ∀ h' tk e d, Made s.heap h' e C d v → R (.ok (.ret (.ref e))) { s with heap := h', toks := tk }) :
    codeAny (model prog w) A (.call (.ref C) ⟨[v], []⟩) R s := by
  obtain ⟨nm, N, qn', bs, bm, hdct, sn, sub, ab, col, dd, k0, k1, k2, k3, k5, hC, hT⟩ := excInit_of X T.mkr
  obtain ⟨hp, g, dr, tk, os⟩ := s
  have kt : ∀ b o, hp.get? b = some o → (hp.push (kdv_tup [v])).get? b = some o := fun b o e => Heap.get?_push_of_some _ e
  have ke : ∀ b o, (hp.push (kdv_tup [v])).get? b = some o → ((hp.push (kdv_tup [v])).push (excO C hp.objs.size)).get? b = some o := fun b o e => Heap.get?_push_of_some _ e
  have hsz : (hp.push (kdv_tup [v])).objs.size = hp.objs.size + 1 := Heap.size_push ..
  refine HandSPX.call_own PySem.F.excBase_ArithmeticError hT hC (looks_findIn X T.iC) (fun self => bind_fn X self T.tC) (by rw [sizeLine_eq]; exact (by decide : 1 ≤ 16777216)) ?_
  refine part_init (s := ⟨(hp.push (kdv_tup [v])).push (excO C hp.objs.size), g, dr, tk, os⟩) (h0 := hp.push (kdv_tup [v])) T rfl hsz.symm (X.keeps kt) (hlim.keeps fun b o e => ke b o (kt b o e)) ?_ fun h' tk' dx L => ?_
  · show A.depth + 1 < recursionLimit
    exact hroom
  · obtain ⟨k', hx, hbig, hns⟩ := L
    have old : ∀ b o, hp.get? b = some o → h'.get? b = some o := fun b o e => k' b o (Nat.ne_of_lt (Nat.lt_succ_of_lt (Heap.lt_size e))) (ke b o (kt b o e))
    exact ⟨rfl, hq h' tk' (hp.objs.size + 1) dx ⟨old, Nat.le_succ _, ⟨_, _, hx, rfl, rfl, rfl, rfl⟩, Nat.le_of_lt (Nat.lt_of_le_of_lt (Nat.le_succ _) hbig), Nat.ne_of_gt hbig, hns⟩⟩
end
end ErrX
end PySem
namespace L2
open PySem PySem.Spec PyProof.Rows
theorem relO_part {v : V} {v' : Value} (r : RelV v v') (f : Str) : RelO (List.lookup f [(("part" : Str), v)]) (if f = "part" then some v' else none) := by
  by_cases hw : f = "part"
  · subst hw
    have q : List.lookup ("part" : Str) [(("part" : Str), v)] = some v := by simp [List.lookup]
    rw [if_pos rfl, q]
    exact r
  · have q2 : List.lookup f [(("part" : Str), v)] = none := by
      have qw : (f == ("part" : Str)) = false := by simpa using hw
      simp [List.lookup, qw]
    rw [if_neg hw, q2]
    trivial
section
variable {X : Cx} {C fI : Addr} {cn qn : Str}
/-- C(e) -/
def tMkE (C : Addr) (ta : TA) : L2.St → Hp → XK → Prop := fun σ H Q => ta σ H fun vs H1 => ∃ v, vs = [v] ∧ ∀ d, H1 d = none → Q (.ref C) (some d) (upd H1 d (.xd [(("part" : Str), v)]))
theorem pmk_err {a : Expr} {ta : TA} {p pos : Pos} {k : Nat} (T : PySem.ErrX.ErrTxt X.K X.mg cn qn C fI) (hr : Room k X.A) (ha : PA X [a] ta) (hg : Gl X cn) (hdb : (cn == ("__debug__" : Str)) = false)
    (he : starEach (a :: []) X.env = (false, eval a X.env) :: starEach [] X.env := by rfl) (hpl : (backTo pos (starEach [] X.env)).any (·.1) = false := by rfl) :
    PMk X (.Call (.Name cn p) [a] [] pos) (tMkE C ta) := by
  intro pins s σ H Q I h
  refine wpAny_Call_Name_kw (ld_glob I hg T.gC ?_ hdb)
  refine PySem.W.callWith_K (h₀ := X.base) I.ok.mod.kin T.kC (thn (ha.run pos pins s σ H _ I h) fun us s1 ⟨vs, H1, I1, r1, v, ev, q1⟩ => ?_) he hpl
  subst ev
  refine ⟨I1.kIn, ?_⟩
  cases r1 with
  | cons rv rn =>
    cases rn
    have hlim := I1.nolimit
    obtain ⟨hp, g, dr, tk, os⟩ := s1
    show wpAny _ _ (call (.ref C) [_]) _ _ _
    refine wpAny_call (PySem.ErrX.made T I1.kIn hlim (by have := hr.dp; omega) fun h2 tk2 e d M => ?_)
    show MkP X pins σ Q (.ref e) ⟨h2, g, dr, tk2, os⟩
    obtain ⟨oe, fv, hoe, hc, hd, hdat, hone⟩ := M.obj
    have hns := M.ns
    obtain ⟨G, g1, g2⟩ := restrict h2 fun b => decide (b ≠ e)
    have gk : ∀ b, b ≠ e → G.get? b = h2.get? b := fun b hb => g1 b (decide_eq_true hb)
    have gn : G.get? e = none := g2 e (by simp)
    have gold : ∀ b o, hp.get? b = some o → G.get? b = some o := fun b o q => (gk b fun z => by
      have y := Heap.lt_size q
      rw [z] at y
      exact absurd (Nat.lt_of_lt_of_le y M.new) (Nat.lt_irrefl _)).trans (M.keep b o q)
    have J : Inv X pins σ (upd H1 d (.xd [(("part" : Str), v)])) ⟨G, g, dr, tk2, os⟩ := I1.laid (t' := tk2) gold M.dbig ⟨_, hns.at (fun o q => (gk d M.dne).trans q), fun f => relO_part rv f⟩
    refine ⟨e, oe, fv, ⟨G, g, dr, tk2, os⟩, _, .ref C, some d, rfl, J, fun b o q => ?_, gn, hoe, ⟨hc, hd⟩, hdat, hone, ?_, rfl, I1.bare, raises_own T.exC T.tyC, q1 d (I1.hok.fresh M.dbig)⟩
    · have q : G.get? b = some o := q
      have hb : b ≠ e := fun z => by rw [z, gn] at q; cases q
      exact (gk b hb).symm.trans q
    · rw [upd_ne (Ne.symm M.dne)]
      exact I1.hok.fresh M.new
/-- raise C(e) -/
def tRaiseE (C : Addr) (W : WX) (ta : TA) : TS := fun _ σ H => tMkE C ta σ H fun cls d H' => W cls d σ H'
theorem ps_raiseE {a : Expr} {ta : TA} {W : WX} {p pos pos2 : Pos} {k : Nat} (hc : X.calm = true) (T : PySem.ErrX.ErrTxt X.K X.mg cn qn C fI) (hr : Room k X.A) (tk : Takes X W) (ha : PA X [a] ta) (hg : Gl X cn) (hdb : (cn == ("__debug__" : Str)) = false)
    (he : starEach (a :: []) X.env = (false, eval a X.env) :: starEach [] X.env := by rfl) (hpl : (backTo pos (starEach [] X.env)).any (·.1) = false := by rfl) :
    PS X (.Raise (some (.Call (.Name cn p) [a] [] pos)) none pos2) (tRaiseE C W ta) := ps_raise hc tk (pmk_err T hr ha hg hdb he hpl)
/-- e.part, e the exception that the suite holds (at a; its class cls, its dict d) -/
def tErrPart (C : Addr) (a : Addr) (cls : Value) (d : Option Addr) (te : TE) : TE := fun σ H Q => te σ H fun x H1 => x = .ref a ∧ cls = .ref C ∧ ∃ (dd : Addr) (v : V), d = some dd ∧ H1 dd = some (.xd [(("part" : Str), v)]) ∧ Q v H1
theorem pe_part {a : Addr} {oe : Obj} {cls : Value} {d : Option Addr} {pn : List (Addr × Obj)} {e : Expr} {te : TE} {pos : Pos} (T : PySem.ErrX.ErrTxt X.K X.mg cn qn C fI) (hz : Zc cls d oe) (hf : ∃ vs, oe.data = .fields vs) (he : PE (X.suite a ((a, oe) :: pn)) e te)
    (hb : attributeBase e "part" X.env (eval e X.env) = eval e X.env := by rfl) :
    PE (X.suite a ((a, oe) :: pn)) (.Attribute e "part" pos) (tErrPart C a cls d te) := by
  refine ⟨fun pins s σ H Q I h => attr_of hb (thn (he.run pins s σ H _ I h) fun u s1 ⟨x, H1, I1, rx, ex, ec, dd, v, ed, ea, q⟩ => ?_)⟩
  subst ex
  subst ec
  subst ed
  obtain rfl : u = Value.ref a := rx
  have ha := (I1.pin (a, oe) (List.mem_append_left _ List.mem_cons_self)).1
  obtain ⟨vs, hd⟩ := hf
  obtain ⟨mA, hns, hr⟩ : ObjOk X.prog X.w H1 s1.heap dd (.xd [(("part" : Str), v)]) := I1.hok dd _ ea
  obtain ⟨od, ho, hl⟩ := lookIn_ns hns
  have l : List.lookup ("part" : Str) [(("part" : Str), v)] = some v := by simp [List.lookup]
  obtain ⟨u, hu, ru⟩ := RelO.some_of (v := v) (o := mA "part") (by rw [← l]; exact hr "part")
  exact HandSPX.exc_get I1.kIn (od := some od) (ox := oe) (C := C) ⟨ha, hz.1, by unfold PySem.W.notCls; rw [hd] <;> rfl, by rw [hz.2]; exact ho⟩ T.ga T.gg T.exC (PySem.W.findObj_own T.hdC T.noN rfl (by rw [hl, hu])) (handed_of ru) ⟨v, H1, I1.tok _, ru, q⟩
end
end L2
namespace DL
open PySem
/-- an error of the class at S is what «except S» names -/
theorem exm_own {K : PySem.W.Frag} {S : PySem.Addr} (h1 : PySem.W.subIn K (PySem.Value.ref S) (PySem.Value.type "BaseException") = some true) (h2 : PySem.W.isClsIn K S = true) (h3 : PySem.W.typeIn K (.ref S) = some (.type "type")) (h4 : PySem.W.subIn K (.ref S) (.ref S) = some true) :
    PySem.W.exmOne K (.ref S) (.ref S) = some true := by
  have e2 : (PySem.W.clsIn K S).isSome = true := h2
  simp [PySem.W.exmOne, PySem.W.kitCls, h1, e2, h3, h4]
end DL
namespace DL
open PySem PySem.Spec PyProof.Rows L2
variable [TabT]
open Evl (Ex)
section
variable {X : Cx} {mg : Str → Option Value} {W : WX} {C fI : Addr} {cn qn : Str} {e : Expr} {A : DE} {p pos pos2 : Pos} {k : Nat} {σ : L2.St} {H : Hp}
/-- raise C(e) -/
def sRaise (cn : Str) (A : DE) : DS := fun s w => match A s w with
  | .ok d w1 => .er ⟨cn, [("part", d)]⟩ s w1
  | .er x w1 => .er x s w1
  | .no => .no
theorem sd_raise (hc : X.calm = true) (T : PySem.ErrX.ErrTxt X.K X.mg cn qn C fI) (hr : Room k X.A) (tk : Takes X W) (ha : PE X e (lE X.mg W A)) (hg : Gl X cn) (hdb : (cn == ("__debug__" : Str)) = false)
    (he : starEach (e :: []) X.env = (false, eval e X.env) :: starEach [] X.env := by rfl) (hpl : (backTo pos (starEach [] X.env)).any (·.1) = false := by rfl) :
    PS X (.Raise (some (.Call (.Name cn p) [e] [] pos)) none pos2) (lS X.mg W (sRaise cn A)) := weakS (ps_raiseE hc T hr tk (pa_cons ha pa_nil he) hg hdb he hpl) fun D σ H h => by
  obtain ⟨wa, Hf, sD, w, H0, Hf0, g, b, hs, ho, h⟩ := h
  refine ⟨wa, Hf, sD, w, b, hs, ?_⟩
  unfold sRaise at h
  cases ea : A sD w with
  | no => rw [ea] at h; exact h
  | er x w1 =>
    rw [ea] at h
    exact fun H1 Hf1 g1 b1 cls dx ev => h σ H1 Hf1 cls dx (g.trans g1) g1.ex b1 (hs.go g1) ho ev
  | ok d w1 =>
    rw [ea] at h
    intro H1 Hf1 g1 b1 v rv
    refine ⟨v, rfl, fun q hq => ?_⟩
    have x2 : Ex Hf1 (upd Hf1 q (.xd [(("part" : Str), v)])) := Ex.new (Evl.fresh_back b1.ex hq)
    have g2 := g1.trans (Go.newF (o := .xd [(("part" : Str), v)]) b1.ex hq)
    exact h σ _ _ (.ref C) (some q) (g.trans g2) (g1.ex.trans x2) (b1.newF hq) (hs.go g2) ho ⟨C, q, [(("part" : Str), v)], T.gC, rfl, rfl, upd_same, rfl, .cons (rv.mono x2) .nil⟩
/-- try: .. except C as n: return n.part == "..": the rest goes on -/
def sTryEq (i : Nat) (S : DS) (cn : Str) (val : Str) : DS := fun s w => match S s w with
  | .er ⟨nm, [(f, .str y)]⟩ s1 w1 => if nm = cn ∧ f = "part" ∧ i < s1.length then .rt (.bl (decide (y = val))) w1 else .no
  | .er _ _ _ => .no
  | o => o
theorem sd_tryEq {S : DS} {n val : Str} {i k1 : Nat} {body : List Stmt} {np p1 p2 p3 p4 p5 pos' : Pos} (T : PySem.ErrX.ErrTxt X.K X.mg cn qn C fI) (hs : X.stack = X.env :: X.outer) (hf : X.env.frame = some X.env.locals) (hN : X.N.Nodup) (hi : X.N[i]? = some n) (hln : X.env.kindOf n = some .local) (hc : Names X cn (.ref C)) (tk : Takes X W)
    (hv : Vis X.env.scope n) (hd : (n == ("__debug__" : Str)) = false) (hd2 : (n == ("__classdict__" : Str)) = false)
    (hb : ∀ (W : WX) (pn : List (Addr × Obj)) (xe : Value → Shared → Prop), Takes (X.tr pn xe) W → PSs (X.tr pn xe) body (lS X.mg W S)) :
    PS X (.Try body [.ExceptHandler (some (.Name cn np)) (some n) [.Return (some (.Compare (.Attribute (.Name n p1) "part" p2) [.Eq] [.Constant (.str val) k1 p3] p4)) p5] pos'] [] [] pos) (lS X.mg W (sTryEq i S cn val)) :=
  weakS (ps_try_as (i := i) (tb := fun W => lS X.mg W S) (ts := fun a cls d => tRet (tOp rEq (tErrPart C a cls d (tVar i)) (tC (.str val)))) (Wout := W) hs hf hN hi hln hc tk (fun W pn xe tk _ => hb W pn xe tk)
    (fun a oe cls d pn hz hf => pss_one (ps_ret (pe_cmpR op_eq (pe_part T hz hf (pe_var hi hv hd hd2)) pe_str (nomark _))))) fun D σ H h => by
  obtain ⟨wa, Hf, sD, w, H0, Hf0, g, b, hs, ho, h⟩ := h
  refine ⟨wa, Hf, sD, w, H0, Hf0, g, b, hs, ho, ?_⟩
  unfold sTryEq at h
  cases eS : S sD w with
  | nx s1 w1 => rw [eS] at h; exact h
  | rt d w1 => rw [eS] at h; exact h
  | bk s1 w1 => rw [eS] at h; exact h
  | ct s1 w1 => rw [eS] at h; exact h
  | no => rw [eS] at h; exact h
  | er x s1 w1 =>
    rw [eS] at h
    obtain ⟨nm, fs⟩ := x
    rcases fs with _ | ⟨⟨f, d0⟩, _ | ⟨q, r⟩⟩
    · exact h.elim
    · cases d0 with
      | str y =>
        dsimp only at h
        split at h
        · rename_i hh
          obtain ⟨rfl, rfl, hl⟩ := hh
          intro σ1 H1 Hf1 cls dx g1 x1 b1 hs1 ho1 ev
          obtain ⟨C1, d, vs, e1, rfl, rfl, e4, e5, e6⟩ := ev
          have eC : C1 = C := by
            have := e1.symm.trans T.gC
            cases this
            rfl
          subst eC
          obtain ⟨v, rfl, rv⟩ : ∃ v, vs = [(("part" : Str), v)] ∧ Rep wa Hf1 v (.str y) := by
            cases vs with
            | nil => cases e5
            | cons q r =>
              obtain ⟨qn, qv⟩ := q
              cases r with
              | nil =>
                cases e5
                cases e6 with
                | cons r1 r2 => exact ⟨qv, rfl, r1⟩
              | cons _ _ => cases e5
          cases rv
          have hil : i < σ1.length := by rw [hs1.len]; exact hl
          refine ⟨true, T.te, fun _ a ha => ⟨.ref a, List.getElem?_set_self hil, rfl, rfl, d, _, rfl, b1.ex _ _ e4, rfl, ?_⟩, fun z => by cases z⟩
          refine h H1 Hf1 _ g1 b1 ?_
          have e : decide (V.str y = V.str val) = decide (y = val) := by simp
          rw [e]
          exact .bl _
        · exact h.elim
      | _ => exact h.elim
    · cases d0 <;> exact h.elim
end
end DL

set_option maxHeartbeats 2000000
namespace DL
open PySem PySem.Spec PyProof.Rows L2
variable [TabT]
/-! ### the same with errors: X (of expressions), Y (of statements) say what is wished of them -/
section
variable {α β : Type} {a : α} {w : Wl} {Q P : α → Wl → Prop} {s : Sl} {A B C : DE} {As Bs : DA} {S T : DT} {f g : Wl → D → D → Option D} {U V : DS} {N N' : Sl → Wl → Prop} {Z Z' : D → Wl → Prop} {i n k : Nat} {X : Exn → Wl → Prop} {Y : Exn → Sl → Wl → Prop}
def okX (X : Exn → Wl → Prop) (r : R α) (Q : α → Wl → Prop) : Prop := match r with
  | .ok a w => Q a w
  | .er x w => X x w
  | .no => False
@[simp] theorem xE_ok : okX X (.ok a w) Q = Q a w := rfl
@[simp] theorem xE_no : okX X (.no) Q = False := rfl
@[simp] theorem xE_er {x : Exn} : okX X (.er x w) Q = X x w := rfl
theorem xE_bind {r : R α} {k : α → Wl → R β} {Q : β → Wl → Prop} : okX X (r.bind k) Q = okX X r (fun a w => okX X (k a w) Q) := by cases r <;> rfl
@[simp] theorem xE_noer {r : R α} : okX X r.noer Q = okE r Q := by cases r <;> rfl
@[simp] theorem xE_opt {o : Option α} : okX X (opt o w) Q = okO o fun z => Q z w := by cases o <;> rfl
@[simp] theorem xE_ite {c : Prop} [Decidable c] {r r' : R α} : okX X (if c then r else r') Q = if c then okX X r Q else okX X r' Q := by split <;> rfl
theorem xE_of {r : R α} (h : okE r Q) : okX X r Q := by
  cases r with
  | ok a w => exact h
  | er _ _ => exact h.elim
  | no => exact h
theorem xE_err {r : R α} {x : Exn} (h : okX (fun y w' => y = x ∧ w' = w) r fun _ _ => False) : r = .er x w := by
  cases r with
  | ok a w => exact h.elim
  | er _ _ => obtain ⟨rfl, rfl⟩ := h; rfl
  | no => exact h.elim
variable {Q : D → Wl → Prop} {QA : List D → Wl → Prop} {QT : Bool → Wl → Prop}
@[simp] theorem xE_var : okX X (eVar i s w) Q = okO (getS s i) fun d => Q d w := by unfold eVar; cases getS s i <;> rfl
@[simp] theorem xE_c {d : D} : okX X (eC d s w) Q = Q d w := rfl
@[simp] theorem xE_bin : okX X (eBin f A B s w) Q = okX X (A s w) fun x w1 => okX X (B s w1) fun y w2 => okO (f w2 x y) fun z => Q z w2 := by unfold eBin; simp only [xE_bind, xE_opt]
@[simp] theorem xE_un {f : Wl → D → Option D} : okX X (eUn f A s w) Q = okX X (A s w) fun x w1 => okO (f w1 x) fun z => Q z w1 := by unfold eUn; simp only [xE_bind, xE_opt]
@[simp] theorem xE_cb {f : Wl → List D → Option D} : okX X (eCB f As s w) Q = okX X (As s w) fun x w1 => okO (f w1 x) fun z => Q z w1 := by unfold eCB; simp only [xE_bind, xE_opt]
@[simp] theorem xE_cbl {f : Wl → List D → Option (List D)} : okX X (eCBL f As s w) QA = okX X (As s w) fun x w1 => okO (f w1 x) fun z => QA z w1 := by unfold eCBL; simp only [xE_bind, xE_opt]
@[simp] theorem xE_l : okX X (eL As s w) Q = okX X (As s w) fun x w1 => Q (.lst x) w1 := by unfold eL; simp only [xE_bind, xE_ok]
@[simp] theorem xE_nil : okX X (aNil s w) QA = QA [] w := rfl
@[simp] theorem xE_cons : okX X (aCons A As s w) QA = okX X (A s w) fun x w1 => okX X (As s w1) fun xs w2 => QA (x :: xs) w2 := by unfold aCons; simp only [xE_bind, xE_ok]
@[simp] theorem xE_tup : okX X (eTup As s w) Q = okX X (As s w) fun xs w1 => xs.length ≤ lim ∧ Q (.tup xs) w1 := by
  unfold eTup; simp only [xE_bind]; congr; funext xs w1; split <;> simp [*]
@[simp] theorem xE_lst : okX X (aLst As s w) QA = okX X (As s w) fun xs w1 => xs.length ≤ lim ∧ QA xs w1 := by
  unfold aLst; simp only [xE_bind]; congr; funext xs w1; split <;> simp [*]
@[simp] theorem xE_call {F : DF} : okX X (eCall n F As s w) Q = okX X (As s w) fun ds w1 => ds.length = n ∧ okX X (F ds w1) Q := by
  unfold eCall; simp only [xE_bind]; congr; funext xs w1; split <;> simp [*]
@[simp] theorem xE_callK {F : DF} {m : Nat} {π : List Nat} : okX X (eCallK m n k π F As Bs s w) Q = okX X (As s w) fun ds w1 => okX X (Bs s w1) fun zs w2 => (ds.length = n ∧ zs.length = k ∧ (permute π (ds ++ zs)).length = m) ∧ okX X (F (permute π (ds ++ zs)) w2) Q := by
  unfold eCallK; simp only [xE_bind]; congr; funext xs w1; congr; funext ys w2; split <;> simp [*]
@[simp] theorem xE_if : okX X (eIf T A B s w) Q = okX X (T s w) fun k w1 => if k = true then okX X (A s w1) Q else okX X (B s w1) Q := by
  unfold eIf; simp only [xE_bind]; congr; funext k w1; cases k <;> rfl
@[simp] theorem xE_and : okX X (eAnd A B s w) Q = okX X (A s w) fun x w1 => okB x fun k => if k = true then okX X (B s w1) Q else Q (.bl false) w1 := by
  unfold eAnd; simp only [xE_bind]; congr; funext x w1; cases x <;> try rfl
  rename_i b; cases b <;> rfl
@[simp] theorem xE_or : okX X (eOr A B s w) Q = okX X (A s w) fun x w1 => okB x fun k => if k = true then Q (.bl true) w1 else okX X (B s w1) Q := by
  unfold eOr; simp only [xE_bind]; congr; funext x w1; cases x <;> try rfl
  rename_i b; cases b <;> rfl
@[simp] theorem xE_not : okX X (eNot A s w) Q = okX X (A s w) fun x w1 => okB x fun k => Q (.bl (!k)) w1 := by
  unfold eNot; simp only [xE_bind]; congr; funext x w1; cases x <;> rfl
@[simp] theorem xE_chain : okX X (eChain f g A B C s w) Q = okX X (A s w) fun x w1 => okX X (B s w1) fun y w2 => okO (f w2 x y) fun z => okB z fun k => if k = true then okX X (C s w2) fun u w4 => okO (g w4 y u) fun v => Q v w4 else Q (.bl false) w2 := by
  unfold eChain; simp only [xE_bind, xE_opt]; congr; funext x w1; congr; funext y w2; congr; funext z; cases z <;> try rfl
  rename_i b; cases b
  · rfl
  · simp only [xE_bind, xE_opt]; rfl
@[simp] theorem xT_e : okX X (tE A s w) QT = okX X (A s w) fun x w1 => okB x fun k => QT k w1 := by
  unfold tE; simp only [xE_bind]; congr; funext x w1; cases x <;> rfl
@[simp] theorem xT_an : okX X (tAn S T s w) QT = okX X (S s w) fun k w1 => if k = true then okX X (T s w1) QT else QT false w1 := by
  unfold tAn; simp only [xE_bind]; congr; funext k w1; cases k <;> rfl
@[simp] theorem xT_on : okX X (tOn S T s w) QT = okX X (S s w) fun k w1 => if k = true then QT true w1 else okX X (T s w1) QT := by
  unfold tOn; simp only [xE_bind]; congr; funext k w1; cases k <;> rfl
@[simp] theorem xT_no : okX X (tNo S s w) QT = okX X (S s w) fun k w1 => QT (!k) w1 := by unfold tNo; simp only [xE_bind, xE_ok]
@[simp] theorem xT_tr : okX X (tTr A s w) QT = okX X (A s w) fun x w1 => okO (truD x) fun k => QT k w1 := by unfold tTr; simp only [xE_bind, xE_opt]
@[simp] theorem xT_yes : okX X (tYesD s w) QT = QT true w := rfl
@[simp] theorem xE_rev : okX X (eRev A s w) Q = okX X (A s w) fun x w1 => match x with
    | .lst xs => Q (.lst xs.reverse) w1
    | .tup xs => Q (.tup xs.reverse) w1
    | _ => False := by unfold eRev; simp only [xE_bind]; congr; funext x w1; cases x <;> rfl
@[simp] theorem xI_seq : okX X (iSeq A s w) QA = okX X (A s w) fun x w1 => okO (seqD x) fun p => QA p.2 w1 := by unfold iSeq; simp only [xE_bind]; congr; funext x w1; cases x <;> rfl
@[simp] theorem xI_rng1 : okX X (iRng1 As s w) QA = okX X (As s w) fun xs w1 => okO (rng1D xs) fun ds => QA ds w1 := by
  unfold iRng1; simp only [xE_bind]; congr; funext xs w1
  rcases xs with _ | ⟨x, _ | ⟨y, xs⟩⟩ <;> try rfl
  · cases x <;> try rfl
    simp only [rng1D, xE_ite, okO_ite, xE_ok, xE_no, okO_some]
    split <;> simp [*]
  · cases x <;> rfl
@[simp] theorem xI_rng2 : okX X (iRng2 As s w) QA = okX X (As s w) fun xs w1 => okO (rng2D xs) fun ds => QA ds w1 := by
  unfold iRng2; simp only [xE_bind]; congr; funext xs w1
  rcases xs with _ | ⟨x, _ | ⟨y, _ | ⟨z, xs⟩⟩⟩ <;> try rfl
  · cases x <;> rfl
  · cases x <;> try rfl
    cases y <;> try rfl
    simp only [rng2D, xE_ite, okO_ite, xE_ok, xE_no, okO_some]
    split <;> simp [*]
  · cases x <;> try rfl
    cases y <;> rfl
@[simp] theorem xI_enum : okX X (iEnum As s w) QA = okX X (As s w) fun xs w1 => okO (enm1D xs) fun ds => QA ds w1 := by
  unfold iEnum; simp only [xE_bind]; congr; funext xs w1
  rcases xs with _ | ⟨x, _ | ⟨y, xs⟩⟩ <;> try rfl
  · cases x <;> rfl
  · cases x <;> rfl
@[simp] theorem xI_zip : okX X (iZip As s w) QA = okX X (As s w) fun xs w1 => okO (zip2D xs) fun ds => QA ds w1 := by
  unfold iZip; simp only [xE_bind]; congr; funext xs w1
  rcases xs with _ | ⟨x, _ | ⟨y, _ | ⟨z, _ | ⟨u, xs⟩⟩⟩⟩ <;> try rfl
  · show okX X (match seqD x, seqD y with | some (_, ds), some (_, es) => R.ok (zipD ds es) w1 | _, _ => R.no) QA = okO ((seqD x).bind fun p => (seqD y).bind fun q => some (zipD p.2 q.2)) _
    cases seqD x <;> cases seqD y <;> rfl
  · show okX X (match seqD x, seqD y, seqD z with | some (_, ds), some (_, es), some (_, fs) => R.ok (zip3D ds es fs) w1 | _, _, _ => R.no) QA = okO ((seqD x).bind fun p => (seqD y).bind fun q => (seqD z).bind fun r => some (zip3D p.2 q.2 r.2)) _
    cases seqD x <;> cases seqD y <;> cases seqD z <;> rfl
@[simp] theorem xE_lc {I : DI} {G : DG} {vs : List Nat} : okX X (aLc I G T A vs s w) QA = okX X (I s w) fun ds w1 => ds.length ≤ lim ∧ okE (lcD G T A ds (wipeS s vs) w1) QA := by
  unfold aLc; simp only [xE_bind]; congr; funext xs w1; split <;> simp [*]
def okY (Y : Exn → Sl → Wl → Prop) (r : RS) (N : Sl → Wl → Prop) (Z : D → Wl → Prop) : Prop := match r with
  | .nx s w => N s w
  | .rt d w => Z d w
  | .er x s w => Y x s w
  | _ => False
@[simp] theorem xS_nx : okY Y (.nx s w) N Z = N s w := rfl
@[simp] theorem xS_rt {d : D} : okY Y (.rt d w) N Z = Z d w := rfl
@[simp] theorem xS_no : okY Y .no N Z = False := rfl
@[simp] theorem xS_sNx : okY Y (sNx s w) N Z = N s w := rfl
@[simp] theorem xS_never : okY Y (sNever s w) N Z = False := rfl
@[simp] theorem xS_seq : okY Y (sSeq U V s w) N Z = okY Y (U s w) (fun s1 w1 => okY Y (V s1 w1) N Z) Z := by unfold sSeq; cases U s w <;> rfl
@[simp] theorem xS_asg : okY Y (sAsg i A s w) N Z = okX (fun x w1 => Y x s w1) (A s w) fun d w1 => N (s.set i (some d)) w1 := by unfold sAsg; cases A s w <;> rfl
@[simp] theorem xS_new : okY Y (sNew i As s w) N Z = okX (fun x w1 => Y x s w1) (As s w) fun d w1 => N (s.set i (some (.own d))) w1 := by unfold sNew; cases As s w <;> rfl
@[simp] theorem xS_tg {G : DG} : okY Y (sTg G A s w) N Z = okX (fun x w1 => Y x s w1) (A s w) fun d w1 => okO (G d s) fun s1 => N s1 w1 := by
  unfold sTg
  cases A s w with
  | ok d w1 => simp only [xE_ok]; cases G d s <;> rfl
  | er _ _ => rfl
  | no => rfl
@[simp] theorem xS_drop : okY Y (sDrop A s w) N Z = okX (fun x w1 => Y x s w1) (A s w) fun _ w1 => N s w1 := by unfold sDrop; cases A s w <;> rfl
@[simp] theorem xS_if : okY Y (sIf T U V s w) N Z = okX (fun x w1 => Y x s w1) (T s w) fun k w1 => if k = true then okY Y (U s w1) N Z else okY Y (V s w1) N Z := by
  unfold sIf
  cases T s w with
  | ok k w1 => cases k <;> rfl
  | er _ _ => rfl
  | no => rfl
@[simp] theorem xS_ret : okY Y (sRet A s w) N Z = okX (fun x w1 => Y x s w1) (A s w) Z := by unfold sRet; cases A s w <;> rfl
@[simp] theorem xS_app : okY Y (sApp i A s w) N Z = okOwn s[i]? fun xs => okX (fun x w1 => Y x s w1) (A s w) fun d w1 => xs.length < lim ∧ N (s.set i (some (.own (xs ++ [d])))) w1 := by
  unfold sApp
  cases h : s[i]? with
  | none => rfl
  | some o =>
    cases o with
    | none => rfl
    | some d =>
      cases d <;> try rfl
      rename_i xs
      simp only [okOwn_own]
      cases A s w with
      | ok d w1 => simp only [xE_ok]; split <;> simp [*]
      | er _ _ => rfl
      | no => rfl
@[simp] theorem xS_frz : okY Y (sFrz i U s w) N Z = okY Y (U (frzS i s) w) N Z := rfl
@[simp] theorem xS_setW : okY Y (sSetW A B C s w) N Z = okX (fun x w1 => Y x s w1) (C s w) fun d w1 => okX (fun x w1 => Y x s w1) (A s w1) fun x w2 => okX (fun x w1 => Y x s w1) (B s w2) fun k w3 => match d, x, k with
    | .int z, .well, .int k => okO (setW w3 k z) fun w4 => N s w4
    | _, _, _ => False := by
  unfold sSetW
  cases C s w with
  | er _ _ => rfl
  | no => rfl
  | ok d w1 =>
    simp only [R.bind_ok, xE_ok]
    cases A s w1 with
    | er _ _ => rfl
    | no => rfl
    | ok x w2 =>
      simp only [R.bind_ok, xE_ok]
      cases B s w2 with
      | er _ _ => rfl
      | no => rfl
      | ok k w3 =>
        simp only [R.bind_ok, xE_ok]
        cases d <;> try rfl
        cases x <;> try rfl
        cases k <;> try rfl
        rename_i z k
        cases h : setW w3 k z <;> simp [h] <;> rfl
@[simp] theorem xE_mval : okX X (mVal A As s w) QA = okX X (A s w) fun x w1 => okX X (As s w1) fun xs w2 => QA (x :: xs) w2 := by unfold mVal; simp only [xE_bind, xE_ok]
@[simp] theorem xE_mown : okX X (mOwn Bs As s w) QA = okX X (Bs s w) fun x w1 => okX X (As s w1) fun xs w2 => QA (.own x :: xs) w2 := by unfold mOwn; simp only [xE_bind, xE_ok]
@[simp] theorem xS_mul {is : List Nat} : okY Y (sMul is As s w) N Z = okX (fun x w1 => Y x s w1) (As s w) fun ds w1 => okO (putS s is ds) fun s1 => N s1 w1 := by
  unfold sMul
  cases As s w with
  | ok d w1 => simp only [xE_ok]; cases putS s is d <;> rfl
  | er _ _ => rfl
  | no => rfl
@[simp] theorem xS_for {I : DI} {G : DG} : okY Y (sFor I G U s w) N Z = okX (fun x w1 => Y x s w1) (I s w) fun ds w1 => okY Y (loopD G U ds s w1) N Z := by unfold sFor; cases I s w <;> rfl
theorem xS_mono {r : RS} (h : okS r N Z) (i : ∀ s w, N s w → N' s w) (j : ∀ d w, Z d w → Z' d w) : okS r N' Z' := by
  cases r with
  | nx s w => exact i _ _ h
  | rt d w => exact j _ _ h
  | _ => exact h
theorem xE_run {B : DS} {ds : List D} {X : Exn → Wl → Prop} : okX X (runB n k B ds w) Q = (ds.length = k ∧ okY (fun x _ w1 => X x w1) (B (ds.map some ++ List.replicate (n - k) none) w) (fun _ w1 => Q .non w1) Q) := by
  unfold runB
  by_cases h : ds.length = k
  · rw [if_pos h]
    simp only [h, true_and]
    cases B (ds.map some ++ List.replicate (n - k) none) w <;> rfl
  · rw [if_neg h]
    simp [h]
@[simp] theorem okS_raise {cn : Str} : okS (sRaise cn A s w) N Z = False := by unfold sRaise; cases A s w <;> rfl
@[simp] theorem xS_raise {cn : Str} : okY Y (sRaise cn A s w) N Z = okX (fun x w1 => Y x s w1) (A s w) fun d w1 => Y ⟨cn, [("part", d)]⟩ s w1 := by unfold sRaise; cases A s w <;> rfl
def caught (i : Nat) (cn val : Str) (Z : D → Wl → Prop) : Exn → Sl → Wl → Prop := fun x s1 w1 => match x with
  | ⟨nm, [(f, .str y)]⟩ => (nm = cn ∧ f = "part" ∧ i < s1.length) ∧ Z (.bl (decide (y = val))) w1
  | _ => False
theorem try_one {cn val : Str} {r : RS} : okY Y (match r with
    | .er ⟨nm, [(f, .str y)]⟩ s1 w1 => if nm = cn ∧ f = "part" ∧ i < s1.length then .rt (.bl (decide (y = val))) w1 else .no
    | .er _ _ _ => .no
    | o => o) N Z = okY (caught i cn val Z) r N Z := by
  cases r with
  | er x s1 w1 =>
    obtain ⟨nm, fs⟩ := x
    rcases fs with _ | ⟨⟨f, d0⟩, _ | ⟨q, r⟩⟩
    · rfl
    · cases d0 with
      | str y =>
        show okY Y (if nm = cn ∧ f = "part" ∧ i < s1.length then RS.rt (.bl (decide (y = val))) w1 else .no) N Z = ((nm = cn ∧ f = "part" ∧ i < s1.length) ∧ Z (.bl (decide (y = val))) w1)
        split <;> simp [*] <;> rfl
      | _ => rfl
    · cases d0 <;> rfl
  | _ => rfl
@[simp] theorem xS_try {cn val : Str} : okY Y (sTryEq i U cn val s w) N Z = okY (caught i cn val Z) (U s w) N Z := try_one
theorem okS_eq {r : RS} : okS r N Z = okY (fun _ _ _ => False) r N Z := by cases r <;> rfl
@[simp] theorem okS_try {cn val : Str} : okS (sTryEq i U cn val s w) N Z = okY (caught i cn val Z) (U s w) N Z := by rw [okS_eq]; exact try_one
@[simp] theorem caught_part {cn val nm : Str} {y : Str} {s1 : Sl} : caught i cn val Z ⟨nm, [("part", .str y)]⟩ s1 w = ((nm = cn ∧ i < s1.length) ∧ Z (.bl (decide (y = val))) w) := by
  unfold caught
  simp
end
end DL

set_option maxHeartbeats 2000000
namespace DL
open PySem PySem.Spec PyProof.Rows L2
variable [TabT]
open Evl (Ex)
/-! ### a lambda handed to a def that calls it and catches -/
/-- what it makes of the lambda's reading: post, if the error is of the class at CS, of its field's value -/
def TTc (K : PySem.W.Frag) (CS : Addr) (val : V → V) (post : V → V → Prop) : (XK → Hp → VK → Prop) → Hp → VK → Prop := fun tl H Q =>
  tl (fun cls d H' => ∃ b, PySem.W.exmOne K cls (.ref CS) = some b ∧ (b = true → cls = .ref CS ∧ ∃ (dd : Addr) (v : V), d = some dd ∧ H' dd = some (.xd [(("part" : Str), v)]) ∧ ∀ z, post v z → Q z H') ∧ (b = false → False)) H (fun v H' => Q (val v) H')
section
variable {X : Cx} {C fI : Addr} {cn qn : Str} {s0 : Shared} {H0 : Hp}
theorem takes_len {W : WX} {n : Nat} (t : Takes X W) (h : n < X.N.length) : Takes X (fun cls d σ' H' => n < σ'.length → W cls d σ' H') := fun u s' ⟨a, B, sI, pins, σ, H, cls, d, e, I, nb, up, sky, na, os, ag, w⟩ =>
  t u s' ⟨a, B, sI, pins, σ, H, cls, d, e, I, nb, up, sky, na, os, ag, w (by rw [I.len]; exact h)⟩
/-- try: return a() / except C as n: return n.part -/
theorem gives_part {Ng : List Str} {x a n q : Str} {sg : Scope} {g : Addr} {cdg : Value} {np p1 p2 p3 p5 p6 p7 p8 pos' : Pos} (T : PySem.ErrX.ErrTxt X.K X.mg cn qn C fI)
    (hge : sg.names.lookup cn = some .globalImplicit) (hde : (cn == ("__debug__" : Str)) = false) (hN : Ng.Nodup) (hi : Ng[1]? = some n) (hln : sg.names.lookup n = some .local)
    (hd : (n == ("__debug__" : Str)) = false) (hd2 : (n == ("__classdict__" : Str)) = false) (h0 : ∀ f : Addr, (L2.start Ng [V.ref f])[0]? = some (some (V.ref f))) :
    LamX.GivesTo X Ng x sg g cdg [.Try [.Return (some (.Call (.Name a p1) [] [] p2)) p3] [.ExceptHandler (some (.Name cn np)) (some n) [.Return (some (.Attribute (.Name n p5) "part" p6)) p7] pos'] [] [] p8] a q (TTc X.K C id fun v z => z = v) := by
  intro f c' s H Q tl act hc h
  have hl1 : 1 < Ng.length := (List.getElem?_eq_some_iff.mp hi).1
  have hgl : Gl (cxOf C8.CX0 X.prog X.w X.K X.mg X.base Ng x sg g cdg X.A X.stack s H C8.E0).nox cn := hge
  refine ⟨_, pss_one (ps_try_as (X := (cxOf C8.CX0 X.prog X.w X.K X.mg X.base Ng x sg g cdg X.A X.stack s H C8.E0).nox) (i := 1) (n := n) (c := .ref C) (Wout := fun _ _ _ _ => False)
      (tb := fun W D σ H => ∃ Ech : XK, (∀ cls d σ' H', Ech cls d H' → 1 < σ'.length → W cls d σ' H') ∧ σ[0]? = some (some (.ref f)) ∧ H c' = some (LamX.CodeO c' q) ∧ tl Ech H D.rt)
      (ts := fun a cls d => tRet (tErrPart C a cls d (tVar 1)))
      rfl rfl hN hi hln ⟨hgl, hde, .inl T.gC⟩ LamX.takes0 (fun W pn xe tk _ => ?_) (fun a oe cls d pn hz hf => pss_one (ps_ret (pe_part T hz hf (pe_var hi (.inl hln) hd hd2))))), ?_⟩
  · refine ⟨fun pins s' σ H' D I h' => ?_⟩
    obtain ⟨Ech, hW, e1, e2, e3⟩ := h'
    have hp := act (fun cls d σ' H' => 1 < σ'.length → W cls d σ' H') pn xe Ech p1 p2 (takes_len tk hl1) hW
    exact (pss_one (ps_ret (pos := p3) hp)).run pins s' σ H' D I ⟨e1, e2, e3⟩
  · refine ⟨fun cls d H' => ∃ b, PySem.W.exmOne X.K cls (.ref C) = some b ∧ (b = true → cls = .ref C ∧ ∃ (dd : Addr) (v : V), d = some dd ∧ H' dd = some (.xd [(("part" : Str), v)]) ∧ ∀ z, z = v → Q z H') ∧ (b = false → False), ?_, h0 f, hc, h⟩
    rintro cls d σ' H' ⟨b, e1, e2, e3⟩ hl
    refine ⟨b, e1, fun hb a _ => ?_, fun hb => (e3 hb).elim⟩
    obtain ⟨ec, dd, v, ed, eh, eq⟩ := e2 hb
    exact ⟨.ref a, List.getElem?_set_self hl, rfl, ec, dd, v, ed, eh, eq v rfl⟩
/-- try: return E / except C as n: return n.part -/
def eTryP (cn : Str) (E : DE) : DE := fun s w => match E s w with
  | .er ⟨nm, [(f, d)]⟩ w1 => if nm = cn ∧ f = "part" then .ok d w1 else .no
  | .er _ _ => .no
  | o => o
theorem pd_lamP {E : DE} {W : WX} {st : Stmt} {x a : Str} {g c P : Addr} {k : Nat} {fd : FuncData} {Ng : List Str} {params : Arguments} {body : Expr} {scope : Scope} {p lpos pos : Pos} (T : PySem.ErrX.ErrTxt X.K X.mg cn qn C fI) (hg : Gl X x) (hm : X.mg x = some (.ref g)) (G : Fun X.K x x st g fd) (hb : Binds X.K fd [a] [])
    (Sg : FnScope Ng [a] (defScope st)) (hNg : Ng[0]? = some a) (hva : Vis (defScope st) a) (hG : ∀ (cdg : Value) (q : Str), LamX.GivesTo X Ng x (defScope st) g cdg (defBody st) a q (TTc X.K C id fun v z => z = v))
    (TB : LamX.TabB X.base X.mg c P) (hcode : X.env.code = .ref c) (hmT : (P, X.env.qual ++ "<lambda>") ∈ TabT.T) (hu : ∀ p ∈ TabT.T, p.1 = P → p.2 = X.env.qual ++ "<lambda>") (hr : Room (k + 2) X.A) (L : LamX.LamS X.env.scope scope) (hdef : defaultsOf params X.env = ([], []))
    (hbind : ∀ (q : Str) (cl : List (Str × Addr)) (pm cv ctv : Value), bindArgs (PySem.W.kla_fn "<lambda>" q params body scope cl pm cv ctv) ⟨[], []⟩ = pure [])
    (hbody : ∀ (A : Around) (outer : List Env) (s : Shared) (H : Hp) (E' : XK) (f c' : Addr), Room k (A.deeper (LamX.lamEnv X scope s.heap.objs.size f c')) → PE (LamX.lamCx X A outer s H E' scope f c') body (lE X.mg (fun cls d _ H => E' cls d H) E))
    (hdb : (x == ("__debug__" : Str)) = false := by decide) (hd : (a == ("__debug__" : Str)) = false := by decide) (hcd : (a == ("__classdict__" : Str)) = false := by decide) :
    PE X (.Call (.Name x p) [.Lambda params body scope lpos] [] pos) (lE X.mg W (eTryP cn E)) := by
  obtain ⟨oc, od, kV, doc, pm, an, cdv, ct, osl, efd, lk, hcg⟩ := G.ex
  subst efd
  refine weakE (LamX.pe_lamcall (T := TabT.T) (t := fun E' => lE X.mg (fun cls d _ H => E' cls d H) E) hg hm G.kp lk hcg hb Sg hNg hva (hG cdv _) TB hcode hmT hu hr L hdef hbind hbody hdb hd hcd) fun σ H Q h => ?_
  obtain ⟨wa, Hf, sD, w, hB, hs, h⟩ := h
  refine ⟨hB.tb, fun H1 eN T1 => ?_⟩
  have go : Go wa H Hf H1 Hf := ⟨fun a o _ t e => eN a o e t, Ex.refl _, fun _ _ _ _ => rfl, fun a o t e => ⟨o, t, eN a o e t⟩⟩
  have b1 : Base wa Hf H1 w := ⟨fun a o e => eN a o (hB.ex a o e) (hB.nt a o e), eN _ _ hB.well nt_lst, hB.nw, T1, hB.nt⟩
  refine ⟨wa, Hf, sD, w, b1, hs.go go, ?_⟩
  unfold eTryP at h
  cases e : E sD w with
  | ok d w1 =>
    rw [e] at h
    exact fun H2 Hf2 g2 b2 v rv => h H2 Hf2 (go.trans g2) b2 v rv
  | no => rw [e] at h; exact h
  | er y w1 =>
    rw [e] at h
    obtain ⟨nm, fs⟩ := y
    rcases fs with _ | ⟨⟨f, d0⟩, _ | ⟨q, r⟩⟩
    · exact h.elim
    · dsimp only at h
      split at h
      · rename_i hh
        obtain ⟨rfl, rfl⟩ := hh
        intro H2 Hf2 g2 b2 cls dx ev
        obtain ⟨C1, d, vs, e1, rfl, rfl, e4, e5, e6⟩ := ev
        have eC : C1 = C := by
          have := e1.symm.trans T.gC
          cases this
          rfl
        subst eC
        obtain ⟨v, rfl, rv⟩ : ∃ v, vs = [(("part" : Str), v)] ∧ Rep wa Hf2 v d0 := by
          cases vs with
          | nil => cases e5
          | cons q r =>
            obtain ⟨qn, qv⟩ := q
            cases r with
            | nil =>
              cases e5
              cases e6 with
              | cons r1 r2 => exact ⟨qv, rfl, r1⟩
            | cons _ _ => cases e5
        exact ⟨true, T.te, fun _ => ⟨rfl, d, v, rfl, b2.ex _ _ e4, fun z hz => by subst hz; exact h H2 Hf2 (go.trans g2) b2 _ rv⟩, fun z => by cases z⟩
      · exact h.elim
    · exact h.elim
end
section
variable {P : Program} {w : World} {K : PySem.W.Frag} {mg : Str → Option Value} {base : Heap}
/-- the promise of a body, as it stands at the call -/
theorem spD_start {N ps : List Str} {B : DS} {vs : List V} {H : Hp} {Q : VK} {E : XK} (hN : ps.length ≤ N.length) (h : spD mg ps.length (runB N.length ps.length B) vs H Q E) :
    lS mg (fun cls d _ H => E cls d H) B { nx := fun _ H' => Q .non H', rt := Q } (L2.start N vs) H := by
  obtain ⟨wa, Hf, ds, w, hb, r, hl, q⟩ := h
  have hvl : vs.length ≤ N.length := by rw [r.length, hl]; exact hN
  have hst := slots_start (H := H) hvl r
  refine ⟨wa, Hf, _, w, H, Hf, Go.refl, hb, hst, fun i d p h1 io _ => ?_, ?_⟩
  · exfalso
    rw [List.getElem?_append] at h1
    split at h1
    · rw [List.getElem?_map] at h1
      cases e : ds[i]? with
      | none => rw [e] at h1; cases h1
      | some z =>
        rw [e] at h1
        cases h1
        obtain ⟨v, _, r'⟩ := r.get e
        exact rep_isO r' io
    · rw [List.getElem?_replicate] at h1
      split at h1 <;> cases h1
  · unfold runB at q
    rw [if_pos hl, ← hl] at q
    cases eB : B (ds.map some ++ List.replicate (N.length - ds.length) none) w with
    | nx s1 w1 => rw [eB] at q; exact fun σ H' Hf' g _ b _ _ => q H' Hf' g b _ .non
    | rt d w1 => rw [eB] at q; exact fun H' Hf' v g b r' => q H' Hf' g b v r'
    | er y s1 w1 => rw [eB] at q; exact fun σ H' Hf' cls dx g _ b _ _ ev => q H' Hf' g b cls dx ev
    | bk s1 w1 => rw [eB] at q; exact q.elim
    | ct s1 w1 => rw [eB] at q; exact q.elim
    | no => rw [eB] at q; exact q.elim
end
/-- a def by its body, its code object known -/
theorem fnDc {P : Program} {w : World} {K : PySem.W.Frag} {mg : Str → Option Value} {base : Heap} {x qual : Str} {st : Stmt} {f : Addr} {fd : FuncData} {N ps : List Str} {k : Nat} {cv : Value} (F : Fun K x qual st f fd) (hc : fd.code = cv) (S : FnScope N ps (defScope st)) (hN : ps.length ≤ N.length) (B : DS)
    (h : ∀ (A : Around) (outer : List Env) (s : Shared) (H : Hp) (E : XK), Room k (A.deeper (envOfC qual (defScope st) s.heap.objs.size f cv)) →
      PSs (cxOf (L2.CX P w) P w K mg base N qual (defScope st) f cv A outer s H E) (defBody st) (lS mg (fun cls d _ H => E cls d H) B)) : FnD P w K mg base (k + 1) f fd ps (runB N.length ps.length B) := by
  obtain ⟨oc, od, kV, doc, pm, an, cdv, ct, osl, efd, lk, hcd⟩ := F.ex
  subst efd
  obtain rfl : cdv = cv := hc
  exact fn_of lk hcd S (fun vs H Q E ⟨wa, Hf, ds, w, hb, r, hl, _⟩ => by rw [r.length]; exact hl) fun A outer s H vs Q E hr hs => ⟨_, h A outer s H E hr, spD_start hN hs⟩
end DL

set_option maxHeartbeats 2000000
namespace DL
open PySem PySem.Spec PyProof.Rows L2
variable [TabT]
open Evl (Ex)
/-! ### a lambda handed to a def that tells whether its error names a part -/
def TTf (K : PySem.W.Frag) (CS : Addr) (val : Str) : (XK → Hp → VK → Prop) → Hp → VK → Prop := fun tl H Q =>
  tl (fun cls d H' => ∃ b, PySem.W.exmOne K cls (.ref CS) = some b ∧ (b = true → cls = .ref CS ∧ ∃ (dd : Addr) (y : Str), d = some dd ∧ H' dd = some (.xd [(("part" : Str), .str y)]) ∧ Q (.bl (decide (y = val))) H') ∧ (b = false → False)) H (fun _ H' => Q (.bl false) H')
section
variable {X : Cx} {C fI : Addr} {cn qn : Str} {s0 : Shared} {H0 : Hp}
/-- try: a() / except C as n: return n.part == val / return False -/
theorem gives_flag {Ng : List Str} {x a n q val : Str} {sg : Scope} {g : Addr} {cdg : Value} {k1 j : Nat} {np p1 p2 p3 p5 p6 p7 p8 p9 p10 p11 p12 pos' : Pos} (T : PySem.ErrX.ErrTxt X.K X.mg cn qn C fI)
    (hge : sg.names.lookup cn = some .globalImplicit) (hde : (cn == ("__debug__" : Str)) = false) (hN : Ng.Nodup) (hi : Ng[1]? = some n) (hln : sg.names.lookup n = some .local)
    (hd : (n == ("__debug__" : Str)) = false) (hd2 : (n == ("__classdict__" : Str)) = false) (h0 : ∀ f : Addr, (L2.start Ng [V.ref f])[0]? = some (some (V.ref f))) :
    LamX.GivesTo X Ng x sg g cdg [.Try [.Expr (.Call (.Name a p1) [] [] p2) p3] [.ExceptHandler (some (.Name cn np)) (some n) [.Return (some (.Compare (.Attribute (.Name n p5) "part" p6) [.Eq] [.Constant (.str val) k1 p9] p10)) p7] pos'] [] [] p8, .Return (some (.Constant (.bool false) j p11)) p12] a q (TTf X.K C val) := by
  intro f c' s H Q tl act hc h
  have hl1 : 1 < Ng.length := (List.getElem?_eq_some_iff.mp hi).1
  have hgl : Gl (cxOf C8.CX0 X.prog X.w X.K X.mg X.base Ng x sg g cdg X.A X.stack s H C8.E0).nox cn := hge
  refine ⟨_, pss_cons (ps_try_as (X := (cxOf C8.CX0 X.prog X.w X.K X.mg X.base Ng x sg g cdg X.A X.stack s H C8.E0).nox) (i := 1) (n := n) (c := .ref C) (Wout := fun _ _ _ _ => False)
      (tb := fun W D σ H => ∃ Ech : XK, (∀ cls d σ' H', Ech cls d H' → 1 < σ'.length → W cls d σ' H') ∧ σ[0]? = some (some (.ref f)) ∧ H c' = some (LamX.CodeO c' q) ∧ tl Ech H fun _ H' => D.nx σ H')
      (ts := fun a cls d => tRet (tOp rEq (tErrPart C a cls d (tVar 1)) (tC (.str val))))
      rfl rfl hN hi hln ⟨hgl, hde, .inl T.gC⟩ LamX.takes0 (fun W pn xe tk _ => ?_) (fun a oe cls d pn hz hf => pss_one (ps_ret (pe_cmpR op_eq (pe_part T hz hf (pe_var hi (.inl hln) hd hd2)) pe_str (nomark _))))) (pss_one (ps_ret pe_bl)), ?_⟩
  · refine ⟨fun pins s' σ H' D I h' => ?_⟩
    obtain ⟨Ech, hW, e1, e2, e3⟩ := h'
    have hp := act (fun cls d σ' H' => 1 < σ'.length → W cls d σ' H') pn xe Ech p1 p2 (takes_len tk hl1) hW
    exact (pss_one (ps_expr (pos := p3) hp rfl)).run pins s' σ H' D I ⟨e1, e2, e3⟩
  · refine ⟨fun cls d H' => ∃ b, PySem.W.exmOne X.K cls (.ref C) = some b ∧ (b = true → cls = .ref C ∧ ∃ (dd : Addr) (y : Str), d = some dd ∧ H' dd = some (.xd [(("part" : Str), .str y)]) ∧ Q (.bl (decide (y = val))) H') ∧ (b = false → False), ?_, h0 f, hc, h⟩
    rintro cls d σ' H' ⟨b, e1, e2, e3⟩ hl
    refine ⟨b, e1, fun hb a _ => ?_, fun hb => (e3 hb).elim⟩
    obtain ⟨ec, dd, y, ed, eh, eq⟩ := e2 hb
    refine ⟨.ref a, List.getElem?_set_self hl, rfl, ec, dd, .str y, ed, eh, rfl, ?_⟩
    have e : decide (V.str y = V.str val) = decide (y = val) := by simp
    rw [e]
    exact eq
/-- what it makes of the lambda's reading -/
def eTryF (cn val : Str) (E : DE) : DE := fun s w => match E s w with
  | .ok _ w1 => .ok (.bl false) w1
  | .er ⟨nm, [(f, .str y)]⟩ w1 => if nm = cn ∧ f = "part" then .ok (.bl (decide (y = val))) w1 else .no
  | _ => .no
theorem pd_lamF {E : DE} {val : Str} {W : WX} {st : Stmt} {x a : Str} {g c P : Addr} {k : Nat} {fd : FuncData} {Ng : List Str} {params : Arguments} {body : Expr} {scope : Scope} {p lpos pos : Pos} (T : PySem.ErrX.ErrTxt X.K X.mg cn qn C fI) (hg : Gl X x) (hm : X.mg x = some (.ref g)) (G : Fun X.K x x st g fd) (hb : Binds X.K fd [a] [])
    (Sg : FnScope Ng [a] (defScope st)) (hNg : Ng[0]? = some a) (hva : Vis (defScope st) a) (hG : ∀ (cdg : Value) (q : Str), LamX.GivesTo X Ng x (defScope st) g cdg (defBody st) a q (TTf X.K C val))
    (TB : LamX.TabB X.base X.mg c P) (hcode : X.env.code = .ref c) (hmT : (P, X.env.qual ++ "<lambda>") ∈ TabT.T) (hu : ∀ p ∈ TabT.T, p.1 = P → p.2 = X.env.qual ++ "<lambda>") (hr : Room (k + 2) X.A) (L : LamX.LamS X.env.scope scope) (hdef : defaultsOf params X.env = ([], []))
    (hbind : ∀ (q : Str) (cl : List (Str × Addr)) (pm cv ctv : Value), bindArgs (PySem.W.kla_fn "<lambda>" q params body scope cl pm cv ctv) ⟨[], []⟩ = pure [])
    (hbody : ∀ (A : Around) (outer : List Env) (s : Shared) (H : Hp) (E' : XK) (f c' : Addr), Room k (A.deeper (LamX.lamEnv X scope s.heap.objs.size f c')) → PE (LamX.lamCx X A outer s H E' scope f c') body (lE X.mg (fun cls d _ H => E' cls d H) E))
    (hdb : (x == ("__debug__" : Str)) = false := by decide) (hd : (a == ("__debug__" : Str)) = false := by decide) (hcd : (a == ("__classdict__" : Str)) = false := by decide) :
    PE X (.Call (.Name x p) [.Lambda params body scope lpos] [] pos) (lE X.mg W (eTryF cn val E)) := by
  obtain ⟨oc, od, kV, doc, pm, an, cdv, ct, osl, efd, lk, hcg⟩ := G.ex
  subst efd
  refine weakE (LamX.pe_lamcall (T := TabT.T) (t := fun E' => lE X.mg (fun cls d _ H => E' cls d H) E) hg hm G.kp lk hcg hb Sg hNg hva (hG cdv _) TB hcode hmT hu hr L hdef hbind hbody hdb hd hcd) fun σ H Q h => ?_
  obtain ⟨wa, Hf, sD, w, hB, hs, h⟩ := h
  refine ⟨hB.tb, fun H1 eN T1 => ?_⟩
  have go : Go wa H Hf H1 Hf := ⟨fun a o _ t e => eN a o e t, Ex.refl _, fun _ _ _ _ => rfl, fun a o t e => ⟨o, t, eN a o e t⟩⟩
  have b1 : Base wa Hf H1 w := ⟨fun a o e => eN a o (hB.ex a o e) (hB.nt a o e), eN _ _ hB.well nt_lst, hB.nw, T1, hB.nt⟩
  refine ⟨wa, Hf, sD, w, b1, hs.go go, ?_⟩
  unfold eTryF at h
  cases e : E sD w with
  | ok d w1 =>
    rw [e] at h
    exact fun H2 Hf2 g2 b2 v rv => h H2 Hf2 (go.trans g2) b2 _ (.bl _)
  | no => rw [e] at h; exact h
  | er y w1 =>
    rw [e] at h
    obtain ⟨nm, fs⟩ := y
    rcases fs with _ | ⟨⟨f, d0⟩, _ | ⟨q, r⟩⟩
    · exact h.elim
    · cases d0 with
      | str y =>
        dsimp only at h
        split at h
        · rename_i hh
          obtain ⟨rfl, rfl⟩ := hh
          intro H2 Hf2 g2 b2 cls dx ev
          obtain ⟨C1, d, vs, e1, rfl, rfl, e4, e5, e6⟩ := ev
          have eC : C1 = C := by
            have := e1.symm.trans T.gC
            cases this
            rfl
          subst eC
          obtain ⟨v, rfl, rv⟩ : ∃ v, vs = [(("part" : Str), v)] ∧ Rep wa Hf2 v (.str y) := by
            cases vs with
            | nil => cases e5
            | cons q r =>
              obtain ⟨qn, qv⟩ := q
              cases r with
              | nil =>
                cases e5
                cases e6 with
                | cons r1 r2 => exact ⟨qv, rfl, r1⟩
              | cons _ _ => cases e5
          cases rv
          exact ⟨true, T.te, fun _ => ⟨rfl, d, y, rfl, b2.ex _ _ e4, h H2 Hf2 (go.trans g2) b2 _ (.bl _)⟩, fun z => by cases z⟩
        · exact h.elim
      | _ => exact h.elim
    · cases d0 <;> exact h.elim
end
end DL

set_option maxHeartbeats 4000000
namespace DL
open PySem PySem.Spec PyProof.Rows L2
variable [TabT]
open Evl (Ex)
/-! ### enumerate, of a list or a tuple -/
theorem enum_new {v : Value} {o : Obj} {G : Heap → Prop} (B : Begins v o G) :
    Meets (Builtin.«enumerate.__new__» ⟨[.type "enumerate", v], []⟩) (fun _ R s => G s.heap ∧
      R (.ok (.ret (.ref (s.heap.push o).objs.size))) { s with heap := (s.heap.push o).push { cls := .type "enumerate", data := .fields #[.none, .bool false, .ref s.heap.objs.size, rawInt 0, .none, .none] } }) :=
  .of_wp fun prog w A R s hh => by
    obtain ⟨hp, ge, dr, tk, os⟩ := s
    obtain ⟨g1, hh⟩ := hh
    have sub := sub_enumerate
    have begun : ∀ {A' : Around} {E : Value → Shared → Prop} {Q : Value → Shared → Prop}, Q (.ref hp.objs.size) ⟨hp.push o, ge, dr, tk, os⟩ → wpAny (model prog w) A' (pyIter v) Q E ⟨hp, ge, dr, tk, os⟩ :=
      fun z => B.iter prog w _ _ ⟨hp, ge, dr, tk, os⟩ _ g1 z
    wp_walk using begun
    refine wpAny_stack_any fun st => wpAny_pure ?_
    split
    · rename_i c _ _ _ _ _
      cases (c == Value.type "enumerate") <;> (wp_walk using begun; exact ⟨_, rfl, hh⟩)
    · wp_walk using begun
      exact ⟨_, rfl, hh⟩
theorem enum_call {prog : Program} {w : World} {A : Around} {E : Value → Shared → Prop} {s : Shared} {v : Value} {o : Obj} {G : Heap → Prop} {Q : Value → Shared → Prop} (B : Begins v o G) (g1 : G s.heap)
    (q : ∀ h', IsEnum h' (s.heap.objs.size + 1) s.heap.objs.size 0 .none → h'.get? s.heap.objs.size = some o → (∀ b u, s.heap.get? b = some u → h'.get? b = some u) → Q (.ref (s.heap.objs.size + 1)) { s with heap := h' }) :
    wpAny (model prog w) A (call (.type "enumerate") [v]) Q E s := by
  refine callType_new F.called_enumerate (by decide) (F.typeCall_enumerate_1 _) (F.newCall_enumerate_1 _) (fun obj => F.args_object_init_2 obj _) F.entry_enumerate_new (enum_new B) ⟨g1, ?_⟩
  have sz : (s.heap.push o).objs.size = s.heap.objs.size + 1 := Heap.size_push ..
  show _ ∧ _
  rw [sz]
  have en : IsEnum ((s.heap.push o).push { cls := .type "enumerate", data := .fields #[.none, .bool false, .ref s.heap.objs.size, rawInt 0, .none, .none] }) (s.heap.objs.size + 1) s.heap.objs.size 0 .none := by
    have z := Heap.get?_push_size (s.heap.push o) (o := { cls := .type "enumerate", data := .fields #[.none, .bool false, .ref s.heap.objs.size, rawInt 0, .none, .none] }) rfl
    rw [sz] at z
    exact z
  exact ⟨⟨_, en, rfl⟩, q _ en (Heap.get?_push_of_some _ (Heap.get?_push_size _ B.free)) fun b u y => Heap.get?_push_of_some _ (Heap.get?_push_of_some _ y)⟩
section
variable {X : Cx} {pins : List (Addr × Obj)} {σ : L2.St} {H : Hp} {s : Shared}
def ItE (k : Bool) (a : Addr) : It :=
  ⟨fun i H => ∃ xs : List V, H a = some (hoK k xs) ∧ i < xs.length,
    fun i H v H' => ∃ T x, v = .ref T ∧ H T = none ∧ H' = upd H T (.tup [.int (i : Nat), x]) ∧ ∀ xs, H a = some (hoK k xs) → xs[i]? = some x,
    fun i H => ∃ xs : List V, H a = some (hoK k xs) ∧ i = xs.length⟩
theorem turn_e {P : Program} {w : World} {K : PySem.W.Frag} {elts : List Expr} {kk : Nat} {tpos : Pos} {k : Bool} {n a : Addr} (la : a < n) :
    Turn P w K (.Tuple elts kk tpos) (ItE k a) [n + 1, n] (n + 1) (fun i h => (∃ old, IsEnum h (n + 1) n (0 + (i : Int)) old) ∧ SI k h n a i) where
  mem := by simp
  obj := fun i h st c hc => by
    obtain ⟨⟨old, he⟩, h1⟩ := st
    rcases List.mem_cons.mp hc with q | q
    · rw [q]; exact ⟨_, he, fun v z => nomatch z⟩
    · rw [List.mem_singleton.mp q]; exact h1.obj
  keep := fun i h h' st k => by
    obtain ⟨⟨old, he⟩, h1⟩ := st
    exact ⟨⟨old, k _ (by simp) _ he⟩, h1.at fun o q => k _ (by simp) o q⟩
  item := by
    intro X hP hw hK hc i pins s σ H E I hf st hg
    subst hP hw hK
    obtain ⟨he, h1⟩ := st
    obtain ⟨xs, ha, hx⟩ := hg
    obtain ⟨its, rv, p, _⟩ := seqAt I ha
    have hh := I.ok.hd hc
    have na : (n + 1 : Addr) ∉ ([n, a] : List Addr) := mem2 (Nat.succ_ne_self _) (Nat.ne_of_gt (Nat.lt_succ_of_lt la))
    have W := GoesN.enumFrom (elts := elts) (x1 := kk) (pos := tpos) 0 (draws_SI (prog := X.prog) (w := X.w) (A := X.A.in1) k hh n a (Nat.ne_of_lt la) its.toArray) (n + 1) (Nat.succ_ne_self _) na List.mem_cons_self
    have l1 := rv.length
    refine thn (W.goes i s (fun v s2 => ∃ x H', Inv X pins σ H' s2 ∧ RelV x v ∧ (ItE k a).yld i H x H' ∧ ((∃ old, IsEnum s2.heap (n + 1) n (0 + ((i + 1 : Nat) : Int)) old) ∧ SI k s2.heap n a (i + 1)) ∧ ∀ c ∈ [n + 1, n], H' c = none) E (by simp; omega) ⟨he, h1, p⟩ fun v h' tk hY st' hk _ => ?_) fun r s1 q => q
    obtain ⟨T, t, u, rfl, hT, e1, hTup⟩ := hY
    obtain ⟨he', h1', _⟩ := st'
    have e1 : its[i]? = some u := by simpa using e1
    have gx : xs[i]? = some xs[i] := by simp [hx]
    obtain ⟨u', f1, r1⟩ := rv.get gx
    rw [e1] at f1
    cases f1
    have new : ObjOk X.prog X.w (upd H T (.tup [.int (i : Nat), xs[i]])) h' T (.tup [.int (i : Nat), xs[i]]) := ⟨by show 2 ≤ sizeLine; decide, [_, u], .cons ⟨t, by rw [Int.zero_add]⟩ (.cons r1 .nil), hTup⟩
    have I1 : Inv X pins σ (upd H T (.tup [.int (i : Nat), xs[i]])) { s with heap := h', toks := tk } := I.turnedNew (ch := [n + 1, n]) (fun c o hcm q => hk c o (fun m => hcm (by simpa using m)) q) hf hT new
    refine ⟨.ref T, _, I1, rfl, ⟨T, _, rfl, I.hok.fresh hT, rfl, fun l hl => ?_⟩, ⟨he', h1'⟩, fun c hcm => ?_⟩
    · rw [ha] at hl
      rw [← hoK_inj (Option.some.inj hl)]
      exact gx
    · have hlt : c < s.heap.objs.size := by
        rcases List.mem_cons.mp hcm with q | q
        · obtain ⟨old, he⟩ := he
          rw [q]; exact Heap.lt_size he
        · rw [List.mem_singleton.mp q]; obtain ⟨_, e, _⟩ := h1.obj; exact Heap.lt_size e
      rw [upd_ne (Nat.ne_of_lt (Nat.lt_of_lt_of_le hlt hT))]
      exact (hf c hcm).1
  done := by
    intro X hP hw hK hc i pins s σ H E I hf st hg
    subst hP hw hK
    obtain ⟨he, h1⟩ := st
    obtain ⟨xs, ha, hi⟩ := hg
    obtain ⟨its, rv, p, _⟩ := seqAt I ha
    have hh := I.ok.hd hc
    have na : (n + 1 : Addr) ∉ ([n, a] : List Addr) := mem2 (Nat.succ_ne_self _) (Nat.ne_of_gt (Nat.lt_succ_of_lt la))
    have W := GoesN.enumFrom (elts := elts) (x1 := kk) (pos := tpos) 0 (draws_SI (prog := X.prog) (w := X.w) (A := X.A.in1) k hh n a (Nat.ne_of_lt la) its.toArray) (n + 1) (Nat.succ_ne_self _) na List.mem_cons_self
    have l1 := rv.length
    have ei : i = its.toArray.size := by simp; omega
    rw [ei] at he h1
    exact W.stops s _ E ⟨he, h1, p⟩ fun h' tk hk _ => I.turnedL (ch := [n + 1, n]) (fun c o hcm q => hk c o (fun m => hcm (by simpa using m)) q) hf
  self := fun A i s Q E st h => by
    obtain ⟨⟨old, he⟩, _⟩ := st
    exact wpAny_pyIter_enum he h
def iE (k : Bool) (ta : TA) : TI := fun σ H R => ta σ H fun vs H1 => ∃ a xs, vs = [.ref a] ∧ H1 a = some (hoK k xs) ∧ R (ItE k a) H1
theorem pi_e {e : Expr} {ta : TA} {p pos tpos : Pos} {elts : List Expr} {kk : Nat} (k : Bool) (hg : Gl X "enumerate") (hm : X.mg "enumerate" = none) (ha : PA X [e] ta) (hs : starEach [e] X.env = [(false, eval e X.env)] := by rfl) :
    PI X (.Tuple elts kk tpos) (.Call (.Name "enumerate" p) [e] [] pos) (iE k ta) := by
  refine ⟨fun pins s σ H R I h => ?_⟩
  refine Call_ (ld_blt I hg hm boot_enumerate (PyProof.Rows.callWith_type1 (thn (ha.run pos pins s σ H _ I h) fun us s1 z => ?_) hs rfl))
  obtain ⟨vs, H1, I1, r1, a, xs, ex, hx, q⟩ := z
  subst ex
  cases r1 with
  | cons r rr =>
    cases rr
    cases r
    obtain ⟨its, rv, p', la⟩ := seqAt I1 hx
    refine enum_call (begins_SI k a its.toArray) p' fun h' he hit hk => wpAny_pyIter_enum he ?_
    have I2 : Inv X pins σ H1 { s1 with heap := h' } := I1.kept (t' := s1.toks) hk
    refine ⟨s1.heap.objs.size + 1, [s1.heap.objs.size + 1, s1.heap.objs.size], _, _, H1, rfl, I2, turn_e la, ⟨⟨.none, he⟩, SI.new hit⟩, fun b hb => ?_, q⟩
    have hle : s1.heap.objs.size ≤ b := by
      rcases List.mem_cons.mp hb with z | z
      · rw [z]; exact Nat.le_succ _
      · rw [List.mem_singleton.mp z]; exact Nat.le_refl _
    exact I1.fpOk hle (I1.hok.fresh hle)
end
section
variable {X : Cx} {W : WX} {tg a : Expr} {pos : Pos} {wa : Addr} {Hf : Hp} {mg : Str → Option Value}
theorem walkD_e {k : Bool} {p : Addr} {vs : List V} {ds : List D} (h : Hf p = some (hoK k vs)) (r : Reps wa Hf vs ds) : WalkD wa Hf (ItE k p) (enumD ds) :=
  ⟨fun i H hi x => by
    have hi' : i < vs.length := by rw [r.length]; simpa [enumD] using hi
    exact ⟨vs, x _ _ h, hi'⟩, fun H x => ⟨vs, x _ _ h, by simp [enumD, r.length]⟩, fun i H Hf1 w y H' d hd x b q => by
    obtain ⟨T, z, rfl, hT, rfl, q⟩ := q
    unfold enumD at hd
    rw [List.getElem?_map, List.getElem?_zipIdx] at hd
    cases e : ds[i]? with
    | none => rw [e] at hd; cases hd
    | some d1 =>
      rw [e] at hd
      cases hd
      obtain ⟨v, e1, r1⟩ := (r.mono x).get e
      have e2 := q vs (b.ex _ _ (x _ _ h))
      rw [e1] at e2
      cases e2
      rw [Nat.zero_add]
      exact ⟨_, Go.newF b.ex hT, b.newF hT, .tup upd_same (.cons (.int _) (.cons (r1.mono (Ex.new (Evl.fresh_back b.ex hT))) .nil))⟩⟩
def iEnumS (As : DA) : DI := fun s w => (As s w).bind fun xs w1 => match xs with
  | [x] => match seqD x with
    | some (_, ds) => .ok (enumD ds) w1
    | none => .no
  | _ => .no
theorem id_enumS {As : DA} {p tpos : Pos} {elts : List Expr} {kk : Nat} (hg : Gl X "enumerate") (hm : X.mg "enumerate" = none) (ha : PA X [a] (lA mg W As)) (hs : starEach [a] X.env = [(false, eval a X.env)] := by rfl) : PI X (.Tuple elts kk tpos) (.Call (.Name "enumerate" p) [a] [] pos) (lI mg W (iEnumS As)) := weakI (anyI fun k : Bool => pi_e k hg hm ha hs) fun σ H Q h => by
  obtain ⟨wa, Hf, sD, w, hb, hs, h⟩ := h
  unfold iEnumS at h
  cases ea : As sD w with
  | ok xs w1 =>
    rw [ea, R.bind_ok] at h
    split at h
    · rename_i x
      split at h
      · rename_i k ds e1
        refine ⟨k, wa, Hf, sD, w, hb, hs, ?_⟩
        rw [ea]
        intro H1 Hf1 g b v rv
        cases rv with
        | cons r1 r2 =>
          cases r2
          obtain ⟨p1, vs, rfl, h1, s1⟩ := seqD_rep r1 e1
          exact ⟨p1, vs, rfl, b.ex _ _ h1, h H1 Hf1 g b _ (walkD_e h1 s1)⟩
      · exact h.elim
    · exact h.elim
  | er x w1 =>
    rw [ea] at h
    refine ⟨true, wa, Hf, sD, w, hb, hs, ?_⟩
    rw [ea]
    exact h
  | no => rw [ea] at h; exact h.elim
def enmSD : List D → Option (List D)
  | [x] => (seqD x).map fun p => enumD p.2
  | _ => none
@[simp] theorem okI_enumS {As : DA} {s : Sl} {w : Wl} {QA : List D → Wl → Prop} : okE (iEnumS As s w) QA = okE (As s w) fun xs w1 => okO (enmSD xs) fun ds => QA ds w1 := by
  unfold iEnumS; simp only [okE_bind]; congr; funext xs w1
  rcases xs with _ | ⟨x, _ | ⟨y, xs⟩⟩ <;> try rfl
  show okE (match seqD x with | some (_, ds) => R.ok (enumD ds) w1 | none => R.no) QA = okO ((seqD x).map fun p => enumD p.2) _
  cases seqD x <;> rfl
end
end DL

set_option maxHeartbeats 2000000
namespace DL
open PySem PySem.Spec PyProof.Rows L2
variable [TabT]
open Evl (Ex)
/-! ### dicts of ints that only their slot knows -/
theorem units1 {k : Nat} {A : Around} (r : Room k A) : A.units + 1 < cLine := by have := r.un; omega
/-- what stands at j, None if nothing -/
def getI : List Int → List D → Int → D
  | k :: ks, x :: xs, j => if k = j then x else getI ks xs j
  | _, _, _ => .non
section
variable {wa : Addr} {Hf H : Hp} {kvs : List (Key × V)} {ks : List Int} {xs : List D}
theorem DicR.none : ∀ {kvs : List (Key × V)} {ks : List Int}, kvs.map (·.1) = ks.map Sum.inl → ∀ {k : Int}, k ∉ ks → valV kvs (Sum.inl k) = none
  | [], [], _, _, _ => rfl
  | [], _ :: _, h, _, _ => by cases h
  | _ :: _, [], h, _, _ => by cases h
  | p :: kvs, a :: ks, h, k, hk => by
    simp only [List.map_cons, List.cons.injEq] at h
    have hne : ¬ p.1 = Sum.inl k := fun z => hk (by
      rw [h.1] at z
      cases z
      exact List.mem_cons_self)
    rw [valV_neg hne]
    exact DicR.none h.2 fun z => hk (List.mem_cons_of_mem _ z)
theorem getI_rep : ∀ {kvs : List (Key × V)} {ks : List Int} {xs : List D}, kvs.map (·.1) = ks.map Sum.inl → Reps wa Hf (kvs.map (·.2)) xs → ∀ j : Int, Rep wa Hf ((valV kvs (Sum.inl j)).getD .non) (getI ks xs j)
  | [], [], _, _, _, _ => by
    unfold getI
    exact .non
  | [], _ :: _, _, h, _, _ => by cases h
  | _ :: _, [], _, h, _, _ => by cases h
  | p :: kvs, a :: ks, xs, h, r, j => by
    simp only [List.map_cons, List.cons.injEq] at h
    simp only [List.map_cons] at r
    cases r with
    | cons r1 r2 =>
      rename_i x xs
      unfold getI
      by_cases ha : a = j
      · rw [if_pos ha, valV_pos (by rw [h.1, ha])]
        exact r1
      · rw [if_neg ha, valV_neg (fun z => ha (by rw [h.1] at z; cases z; rfl))]
        exact getI_rep h.2 r2 j
theorem tabs_updD {T : List (PySem.Addr × PySem.Str)} {p : Addr} {o : HO} {kvs : List (Key × V)} (t : LamX.Tabs T H) (h : H p = some (.dK kvs)) : LamX.Tabs T (upd H p o) := fun q hq => by
  obtain ⟨ps, h1, h2, h3⟩ := t q hq
  have n1 : q.1 ≠ p := fun z => by
    rw [z, h] at h1
    cases h1
  refine ⟨ps, by rw [upd_ne n1]; exact h1, h2, fun pos cv hc => ?_⟩
  obtain ⟨c, e1, e2⟩ := h3 pos cv hc
  have n2 : c ≠ p := fun z => by
    rw [z, h] at e2
    have := Option.some.inj e2
    unfold LamX.CodeO at this
    cases this
  exact ⟨c, e1, by rw [upd_ne n2]; exact e2⟩
theorem Base.appD {w : Wl} {p : Addr} {o : HO} {kvs : List (Key × V)} (b : Base wa Hf H w) (h : Hf p = none) (hw : p ≠ wa) (hp : H p = some (.dK kvs)) : Base wa Hf (upd H p o) w :=
  ⟨Evl.Ex.mut b.ex h, by rw [upd_ne (Ne.symm hw)]; exact b.well, b.nw, tabs_updD b.tb hp, b.nt⟩
end
section
variable {X : Cx} {mg : Str → Option Value} {W : WX} {st : Stmt} {e : Expr} {A E : DE} {i : Nat}
/-- x = {} -/
def sNewD (i : Nat) : DS := fun s w => .nx (s.set i (some (.dct [] []))) w
theorem sd_newD (h : PS X st (tAsg tDNewK (gName i))) : PS X st (lS mg W (sNewD i)) := weakS h fun D σ H h => by
  obtain ⟨wa, Hf, sD, w, H0, Hf0, g, b, hs, ho, h⟩ := h
  intro p hp
  have g1 : Go wa H Hf (upd H p (.dK [])) Hf := Go.new1 hp
  have hf : Hf p = none := Evl.fresh_back b.ex hp
  refine h _ _ Hf (g.trans g1) (Ex.refl _) (b.new1 hp) ((hs.go g1).setDct upd_same hf (ne_of_none b.well hp).symm ⟨rfl, .nil⟩ fun j ye hj io hp' => ?_) (ho.setO hs.len (g.free hp))
  obtain ⟨q, o, k1, k2, k3, _⟩ := hs.oAt hj io
  rw [hp'] at k1
  cases k1
  rw [hp] at k2
  cases k2
/-- x[k] = v, k a key that is not there yet -/
def sPutD (i : Nat) (A E : DE) : DS := fun s w => match E s w with
  | .ok d w1 => match A s w1 with
    | .ok (.int k) w2 => match s[i]? with
      | some (some (.dct ks xs)) => if k ∉ ks ∧ ks.length < lim then .nx (s.set i (some (.dct (ks ++ [k]) (xs ++ [d])))) w2 else .no
      | _ => .no
    | _ => .no
  | _ => .no
theorem sd_putD (h : PS X st (sDPut (tVar i) (lE mg W A) (lE mg W E))) : PS X st (lS mg W (sPutD i A E)) := weakS h fun D σ H h => by
  obtain ⟨wa, Hf, sD, w, H0, Hf0, g, b, hs, ho, h⟩ := h
  unfold sPutD at h
  cases e : E sD w with
  | no => rw [e] at h; exact h.elim
  | er x w1 => rw [e] at h; exact h.elim
  | ok d w1 =>
    rw [e] at h
    dsimp only at h
    cases ea : A sD w1 with
    | no => rw [ea] at h; exact h.elim
    | er x w2 => rw [ea] at h; exact h.elim
    | ok dk w2 =>
      rw [ea] at h
      cases dk with
      | int k =>
        dsimp only at h
        split at h
        · rename_i ks xs hi
          split at h
          · rename_i hk
            obtain ⟨p, kvs, k1, k2, k3, k4, k5⟩ := hs.dic i ks xs hi
            refine ⟨wa, Hf, sD, w, b, hs, ?_⟩
            rw [e]
            intro H1 Hf1 g1 b1 v rv
            refine ⟨.ref p, k1, wa, Hf1, sD, w1, b1, hs.go g1, ?_⟩
            rw [ea]
            intro H2 Hf2 g2 b2 u ru
            cases ru
            have g12 := g1.trans g2
            have kp : H2 p = some (.dK kvs) := g12.keepN p _ k4 nt_dK k2
            have kf : Hf2 p = none := (g12.newN p _ nt_dK k2).trans k3
            have h0 : Fr H0 p := ho i _ p hi isO_dct k1
            have hl : kvs.length = ks.length := by
              have := congrArg List.length k5.keys
              simpa using this
            have hn : valV kvs (Sum.inl k) = none := DicR.none k5.keys hk.1
            refine ⟨p, _, rfl, DPut.k (k := Sum.inl k) kp (Nat.lt_of_lt_of_le (by rw [hl]; exact hk.2) (lim_le (Nat.le_refl _))), ?_⟩
            rw [putK_new _ hn]
            have r1 : DicR wa Hf2 (kvs ++ [(Sum.inl k, v)]) (ks ++ [k]) (xs ++ [d]) := ⟨by rw [List.map_append, List.map_append, k5.keys]; rfl, by
              rw [List.map_append]
              exact (k5.vals.mono g12.ex).append (.cons (rv.mono g2.ex) .nil)⟩
            refine h σ _ Hf2 ((g.trans g12).appF h0) g12.ex (b2.appD kf k4 kp) ((hs.go g12).writeD hi k1 r1) (ho.sub fun j ye hj io => ?_)
            by_cases hji : j = i
            · subst hji
              exact ⟨_, hi, isO_dct⟩
            · rw [List.getElem?_set_ne (Ne.symm hji)] at hj
              exact ⟨ye, hj, io⟩
          · exact h.elim
        · exact h.elim
      | _ => exact h.elim
/-- x.get(k) -/
def eGetD (i : Nat) (A : DE) : DE := fun s w => match s[i]? with
  | some (some (.dct ks xs)) => match A s w with
    | .ok (.int j) w1 => .ok (getI ks xs j) w1
    | _ => .no
  | _ => .no
theorem pd_getD (h : PE X e (tDGet1 (tVar i) (lE mg W A))) : PE X e (lE mg W (eGetD i A)) := weakE h fun σ H Q h => by
  obtain ⟨wa, Hf, sD, w, hb, hs, h⟩ := h
  unfold eGetD at h
  split at h
  · rename_i ks xs hi
    obtain ⟨p, kvs, k1, k2, k3, k4, k5⟩ := hs.dic i ks xs hi
    refine ⟨.ref p, k1, p, rfl, .inl ⟨kvs, .inl k2⟩, wa, Hf, sD, w, hb, hs, ?_⟩
    cases ea : A sD w with
    | no => rw [ea] at h; exact h.elim
    | er x w2 => rw [ea] at h; exact h.elim
    | ok dk w2 =>
      rw [ea] at h
      cases dk with
      | int j =>
        intro H1 Hf1 g b v rv
        cases rv
        exact ⟨_, DGet.k (k := Sum.inl j) (g.keepN p _ k4 nt_dK k2), h H1 Hf1 g b _ (getI_rep k5.keys (k5.vals.mono g.ex) j)⟩
      | _ => exact h.elim
  · exact h.elim
end
end DL

set_option maxHeartbeats 2000000
namespace DL
open PySem PySem.Spec PyProof.Rows L2
variable [TabT]
/-! ### dicts in the calculus -/
section
variable {s : Sl} {w : Wl} {N : Sl → Wl → Prop} {Z Q : D → Wl → Prop} {A E : DE} {i : Nat}
def okDct (o : Option (Option D)) (P : List Int → List D → Prop) : Prop := match o with
  | some (some (.dct ks xs)) => P ks xs
  | _ => False
@[simp] theorem okDct_dct {ks : List Int} {xs : List D} {P : List Int → List D → Prop} : okDct (some (some (.dct ks xs))) P = P ks xs := rfl
def okInt (d : D) (P : Int → Prop) : Prop := match d with
  | .int k => P k
  | _ => False
@[simp] theorem okInt_int {k : Int} {P : Int → Prop} : okInt (.int k) P = P k := rfl
@[simp] theorem okS_newD : okS (sNewD i s w) N Z = N (s.set i (some (.dct [] []))) w := rfl
@[simp] theorem okS_putD : okS (sPutD i A E s w) N Z = okE (E s w) fun d w1 => okE (A s w1) fun dk w2 => okInt dk fun k => okDct s[i]? fun ks xs => k ∉ ks ∧ ks.length < lim ∧ N (s.set i (some (.dct (ks ++ [k]) (xs ++ [d])))) w2 := by
  unfold sPutD
  cases E s w with
  | no => rfl
  | er x w1 => rfl
  | ok d w1 =>
    dsimp only [okE_ok]
    cases A s w1 with
    | no => rfl
    | er x w2 => rfl
    | ok dk w2 =>
      cases dk with
      | int k =>
        dsimp only [okE_ok, okInt_int]
        cases s[i]? with
        | none => rfl
        | some o =>
          cases o with
          | none => rfl
          | some z =>
            cases z with
            | dct ks xs =>
              simp only [okDct_dct]
              by_cases hk : k ∉ ks ∧ ks.length < lim
              · rw [if_pos hk]
                simp [okS, hk.1, hk.2]
              · rw [if_neg hk]
                refine propext ⟨fun z => z.elim, fun z => absurd ⟨z.1, z.2.1⟩ hk⟩
            | _ => rfl
      | _ => rfl
@[simp] theorem okE_getD : okE (eGetD i A s w) Q = okDct s[i]? fun ks xs => okE (A s w) fun dk w1 => okInt dk fun j => Q (getI ks xs j) w1 := by
  unfold eGetD
  cases s[i]? with
  | none => rfl
  | some o =>
    cases o with
    | none => rfl
    | some z =>
      cases z with
      | dct ks xs =>
        dsimp only [okDct_dct]
        cases A s w with
        | no => rfl
        | er x w2 => rfl
        | ok dk w2 => cases dk <;> rfl
      | _ => rfl
end
end DL

set_option maxHeartbeats 2000000
namespace DL
open PySem PySem.Spec PyProof.Rows L2
open Evl (Ex)

/-! ### the text -/
variable [TabT]
def topS (i : Nat) : Stmt := PySem.Challenge.pw_sectionwise_k70_whole_elements_of_dummie.main.body.getD i (.Pass ⟨0, 0, 0, 0⟩)
abbrev s_is_number : Stmt := topS 7
abbrev s_is_far : Stmt := topS 8
abbrev s_is_triplet : Stmt := topS 9
abbrev s_is_part : Stmt := topS 10
abbrev s_many_of : Stmt := topS 11
abbrev s_subscript_of : Stmt := topS 12
abbrev s_last_of : Stmt := topS 13
abbrev s_subscripts : Stmt := topS 14
abbrev s_lies_between : Stmt := topS 15
abbrev s_is_range : Stmt := topS 20
abbrev s_is_bounds : Stmt := topS 19
abbrev s_all_extents : Stmt := topS 21
abbrev s_multiplied : Stmt := topS 22
abbrev s_size_of : Stmt := topS 23
abbrev s_weights : Stmt := topS 24
abbrev s_is_element : Stmt := topS 25
abbrev s_place_there : Stmt := topS 26
abbrev s_element_there : Stmt := topS 27
abbrev s_many_in : Stmt := topS 29
abbrev s_is_section : Stmt := topS 28
abbrev s_element_in : Stmt := topS 30
abbrev s_joints : Stmt := topS 32
abbrev s_stretches_of : Stmt := topS 31
abbrev s_check_bounds : Stmt := topS 33
abbrev s_is_open : Stmt := topS 35
abbrev s_is_dummy : Stmt := topS 36
abbrev s_with_rows : Stmt := topS 37
abbrev s_whole_rows : Stmt := topS 38
abbrev s_rows_and_rest : Stmt := topS 39
abbrev s_place_in : Stmt := topS 40
abbrev s_element_in_holder : Stmt := topS 41
abbrev s_section_handed : Stmt := topS 43
abbrev s_part_handed : Stmt := topS 42
abbrev s_received : Stmt := topS 44
abbrev s_of_array : Stmt := topS 45
abbrev s_dummy_place : Stmt := topS 46
abbrev s_dummy_element : Stmt := topS 47
abbrev s_w_mix : Stmt := topS 49
abbrev s_w_draw : Stmt := topS 51
abbrev s_w_pick : Stmt := topS 52
abbrev s_w_bounds : Stmt := topS 53
abbrev s_w_subscripts : Stmt := topS 56
abbrev s_w_elements : Stmt := topS 57
abbrev s_w_place : Stmt := topS 58
abbrev s_w_one_of : Stmt := topS 62
abbrev s_w_size : Stmt := topS 61
abbrev s_w_hand : Stmt := topS 60
abbrev s_w_dummy : Stmt := topS 63
abbrev s_w_seats : Stmt := topS 64
abbrev s_w_right : Stmt := topS 66
abbrev s_w_source : Stmt := topS 50
abbrev s_w_is_none : Stmt := topS 65
abbrev s_law : Stmt := topS 67
abbrev N_is_number : List Str := ["value"]
abbrev P_is_number : List Str := ["value"]
theorem sc_is_number : FnScope N_is_number P_is_number (defScope s_is_number) := ⟨rfl, rfl, rfl, by decide +kernel, rfl, by decide +kernel, by decide +kernel⟩
abbrev N_is_far : List Str := ["value"]
abbrev P_is_far : List Str := ["value"]
theorem sc_is_far : FnScope N_is_far P_is_far (defScope s_is_far) := ⟨rfl, rfl, rfl, by decide +kernel, rfl, by decide +kernel, by decide +kernel⟩
abbrev N_is_triplet : List Str := ["value", "number"]
abbrev P_is_triplet : List Str := ["value"]
theorem sc_is_triplet : FnScope N_is_triplet P_is_triplet (defScope s_is_triplet) := ⟨rfl, rfl, rfl, by decide +kernel, rfl, by decide +kernel, by decide +kernel⟩
abbrev N_is_part : List Str := ["value", "number"]
abbrev P_is_part : List Str := ["value"]
theorem sc_is_part : FnScope N_is_part P_is_part (defScope s_is_part) := ⟨rfl, rfl, rfl, by decide +kernel, rfl, by decide +kernel, by decide +kernel⟩
abbrev N_many_of : List Str := ["part", "first", "last", "step"]
abbrev P_many_of : List Str := ["part"]
theorem sc_many_of : FnScope N_many_of P_many_of (defScope s_many_of) := ⟨rfl, rfl, rfl, by decide +kernel, rfl, by decide +kernel, by decide +kernel⟩
abbrev N_subscript_of : List Str := ["part", "index"]
abbrev P_subscript_of : List Str := ["part", "index"]
theorem sc_subscript_of : FnScope N_subscript_of P_subscript_of (defScope s_subscript_of) := ⟨rfl, rfl, rfl, by decide +kernel, rfl, by decide +kernel, by decide +kernel⟩
abbrev N_last_of : List Str := ["part"]
abbrev P_last_of : List Str := ["part"]
theorem sc_last_of : FnScope N_last_of P_last_of (defScope s_last_of) := ⟨rfl, rfl, rfl, by decide +kernel, rfl, by decide +kernel, by decide +kernel⟩
abbrev N_subscripts : List Str := ["part", "index"]
abbrev P_subscripts : List Str := ["part"]
theorem sc_subscripts : FnScope N_subscripts P_subscripts (defScope s_subscripts) := ⟨rfl, rfl, rfl, by decide +kernel, rfl, by decide +kernel, by decide +kernel⟩
abbrev N_lies_between : List Str := ["part", "low", "high", "ends", "number"]
abbrev P_lies_between : List Str := ["part", "low", "high"]
theorem sc_lies_between : FnScope N_lies_between P_lies_between (defScope s_lies_between) := ⟨rfl, rfl, rfl, by decide +kernel, rfl, by decide +kernel, by decide +kernel⟩
abbrev N_is_range : List Str := ["value", "number"]
abbrev P_is_range : List Str := ["value"]
theorem sc_is_range : FnScope N_is_range P_is_range (defScope s_is_range) := ⟨rfl, rfl, rfl, by decide +kernel, rfl, by decide +kernel, by decide +kernel⟩
abbrev N_is_bounds : List Str := ["value", "pair"]
abbrev P_is_bounds : List Str := ["value"]
theorem sc_is_bounds : FnScope N_is_bounds P_is_bounds (defScope s_is_bounds) := ⟨rfl, rfl, rfl, by decide +kernel, rfl, by decide +kernel, by decide +kernel⟩
abbrev N_all_extents : List Str := ["bounds", "low", "high"]
abbrev P_all_extents : List Str := ["bounds"]
theorem sc_all_extents : FnScope N_all_extents P_all_extents (defScope s_all_extents) := ⟨rfl, rfl, rfl, by decide +kernel, rfl, by decide +kernel, by decide +kernel⟩
abbrev N_multiplied : List Str := ["numbers", "made", "number"]
abbrev P_multiplied : List Str := ["numbers"]
theorem sc_multiplied : FnScope N_multiplied P_multiplied (defScope s_multiplied) := ⟨rfl, rfl, rfl, by decide +kernel, rfl, by decide +kernel, by decide +kernel⟩
abbrev N_size_of : List Str := ["bounds"]
abbrev P_size_of : List Str := ["bounds"]
theorem sc_size_of : FnScope N_size_of P_size_of (defScope s_size_of) := ⟨rfl, rfl, rfl, by decide +kernel, rfl, by decide +kernel, by decide +kernel⟩
abbrev N_weights : List Str := ["bounds", "told", "weight", "extent"]
abbrev P_weights : List Str := ["bounds"]
theorem sc_weights : FnScope N_weights P_weights (defScope s_weights) := ⟨rfl, rfl, rfl, by decide +kernel, rfl, by decide +kernel, by decide +kernel⟩
abbrev N_is_element : List Str := ["bounds", "value", "number", "low", "high"]
abbrev P_is_element : List Str := ["bounds", "value"]
theorem sc_is_element : FnScope N_is_element P_is_element (defScope s_is_element) := ⟨rfl, rfl, rfl, by decide +kernel, rfl, by decide +kernel, by decide +kernel⟩
abbrev N_place_there : List Str := ["bounds", "element", "number", "weight", "low", "_"]
abbrev P_place_there : List Str := ["bounds", "element"]
theorem sc_place_there : FnScope N_place_there P_place_there (defScope s_place_there) := ⟨rfl, rfl, rfl, by decide +kernel, rfl, by decide +kernel, by decide +kernel⟩
abbrev N_element_there : List Str := ["bounds", "place", "element", "rest", "low", "_", "extent"]
abbrev P_element_there : List Str := ["bounds", "place"]
theorem sc_element_there : FnScope N_element_there P_element_there (defScope s_element_there) := ⟨rfl, rfl, rfl, by decide +kernel, rfl, by decide +kernel, by decide +kernel⟩
abbrev N_many_in : List Str := ["section", "part"]
abbrev P_many_in : List Str := ["section"]
theorem sc_many_in : FnScope N_many_in P_many_in (defScope s_many_in) := ⟨rfl, rfl, rfl, by decide +kernel, rfl, by decide +kernel, by decide +kernel⟩
abbrev N_is_section : List Str := ["bounds", "value", "part", "low", "high"]
abbrev P_is_section : List Str := ["bounds", "value"]
theorem sc_is_section : FnScope N_is_section P_is_section (defScope s_is_section) := ⟨rfl, rfl, rfl, by decide +kernel, rfl, by decide +kernel, by decide +kernel⟩
abbrev N_element_in : List Str := ["section", "index", "element", "rest", "part", "many"]
abbrev P_element_in : List Str := ["section", "index"]
theorem sc_element_in : FnScope N_element_in P_element_in (defScope s_element_in) := ⟨rfl, rfl, rfl, by decide +kernel, rfl, by decide +kernel, by decide +kernel⟩
abbrev N_joints : List Str := ["part", "weight", "turned", "row", "index"]
abbrev P_joints : List Str := ["part", "weight", "turned"]
theorem sc_joints : FnScope N_joints P_joints (defScope s_joints) := ⟨rfl, rfl, rfl, by decide +kernel, rfl, by decide +kernel, by decide +kernel⟩
abbrev N_stretches_of : List Str := ["bounds", "section", "many", "joined", "rounds", "turned", "part", "weight"]
abbrev P_stretches_of : List Str := ["bounds", "section"]
theorem sc_stretches_of : FnScope N_stretches_of P_stretches_of (defScope s_stretches_of) := ⟨rfl, rfl, rfl, by decide +kernel, rfl, by decide +kernel, by decide +kernel⟩
abbrev N_check_bounds : List Str := ["bounds"]
abbrev P_check_bounds : List Str := ["bounds"]
theorem sc_check_bounds : FnScope N_check_bounds P_check_bounds (defScope s_check_bounds) := ⟨rfl, rfl, rfl, by decide +kernel, rfl, by decide +kernel, by decide +kernel⟩
abbrev N_is_open : List Str := ["bounds", "last"]
abbrev P_is_open : List Str := ["bounds"]
theorem sc_is_open : FnScope N_is_open P_is_open (defScope s_is_open) := ⟨rfl, rfl, rfl, by decide +kernel, rfl, by decide +kernel, by decide +kernel⟩
abbrev N_is_dummy : List Str := ["value", "low"]
abbrev P_is_dummy : List Str := ["value"]
theorem sc_is_dummy : FnScope N_is_dummy P_is_dummy (defScope s_is_dummy) := ⟨rfl, rfl, rfl, by decide +kernel, rfl, by decide +kernel, by decide +kernel⟩
abbrev N_with_rows : List Str := ["holder", "more", "bounds", "many", "low", "rows"]
abbrev P_with_rows : List Str := ["holder", "more"]
theorem sc_with_rows : FnScope N_with_rows P_with_rows (defScope s_with_rows) := ⟨rfl, rfl, rfl, by decide +kernel, rfl, by decide +kernel, by decide +kernel⟩
abbrev N_whole_rows : List Str := ["holder"]
abbrev P_whole_rows : List Str := ["holder"]
theorem sc_whole_rows : FnScope N_whole_rows P_whole_rows (defScope s_whole_rows) := ⟨rfl, rfl, rfl, by decide +kernel, rfl, by decide +kernel, by decide +kernel⟩
abbrev N_rows_and_rest : List Str := ["holder"]
abbrev P_rows_and_rest : List Str := ["holder"]
theorem sc_rows_and_rest : FnScope N_rows_and_rest P_rows_and_rest (defScope s_rows_and_rest) := ⟨rfl, rfl, rfl, by decide +kernel, rfl, by decide +kernel, by decide +kernel⟩
abbrev N_place_in : List Str := ["holder", "element", "bounds", "place"]
abbrev P_place_in : List Str := ["holder", "element"]
theorem sc_place_in : FnScope N_place_in P_place_in (defScope s_place_in) := ⟨rfl, rfl, rfl, by decide +kernel, rfl, by decide +kernel, by decide +kernel⟩
abbrev N_element_in_holder : List Str := ["holder", "place", "bounds"]
abbrev P_element_in_holder : List Str := ["holder", "place"]
theorem sc_element_in_holder : FnScope N_element_in_holder P_element_in_holder (defScope s_element_in_holder) := ⟨rfl, rfl, rfl, by decide +kernel, rfl, by decide +kernel, by decide +kernel⟩
abbrev N_section_handed : List Str := ["bounds", "section", "many"]
abbrev P_section_handed : List Str := ["bounds", "section"]
theorem sc_section_handed : FnScope N_section_handed P_section_handed (defScope s_section_handed) := ⟨rfl, rfl, rfl, by decide +kernel, rfl, by decide +kernel, by decide +kernel⟩
abbrev N_part_handed : List Str := ["holder", "part", "word", "told", "place"]
abbrev P_part_handed : List Str := ["holder", "part"]
theorem sc_part_handed : FnScope N_part_handed P_part_handed (defScope s_part_handed) := ⟨rfl, rfl, rfl, by decide +kernel, rfl, by decide +kernel, by decide +kernel⟩
abbrev N_received : List Str := ["holder", "part", "dummy", "first", "many"]
abbrev P_received : List Str := ["holder", "part", "dummy"]
theorem sc_received : FnScope N_received P_received (defScope s_received) := ⟨rfl, rfl, rfl, by decide +kernel, rfl, by decide +kernel, by decide +kernel⟩
abbrev N_of_array : List Str := ["bounds"]
abbrev P_of_array : List Str := ["bounds"]
theorem sc_of_array : FnScope N_of_array P_of_array (defScope s_of_array) := ⟨rfl, rfl, rfl, by decide +kernel, rfl, by decide +kernel, by decide +kernel⟩
abbrev N_dummy_place : List Str := ["bounds", "part", "dummy", "element", "first", "its", "place"]
abbrev P_dummy_place : List Str := ["bounds", "part", "dummy", "element"]
theorem sc_dummy_place : FnScope N_dummy_place P_dummy_place (defScope s_dummy_place) := ⟨rfl, rfl, rfl, by decide +kernel, rfl, by decide +kernel, by decide +kernel⟩
abbrev N_dummy_element : List Str := ["bounds", "part", "dummy", "place", "holder", "first", "its"]
abbrev P_dummy_element : List Str := ["bounds", "part", "dummy", "place"]
theorem sc_dummy_element : FnScope N_dummy_element P_dummy_element (defScope s_dummy_element) := ⟨rfl, rfl, rfl, by decide +kernel, rfl, by decide +kernel, by decide +kernel⟩
abbrev N_w_mix : List Str := ["_law_cell", "_law_lap", "_law_blend"]
abbrev P_w_mix : List Str := ["_law_cell", "_law_lap"]
theorem sc_w_mix : FnScope N_w_mix P_w_mix (defScope s_w_mix) := ⟨rfl, rfl, rfl, by decide +kernel, rfl, by decide +kernel, by decide +kernel⟩
abbrev N_w_draw : List Str := ["_law_well", "_law_many_here", "_law_drawn"]
abbrev P_w_draw : List Str := ["_law_well", "_law_many_here"]
theorem sc_w_draw : FnScope N_w_draw P_w_draw (defScope s_w_draw) := ⟨rfl, rfl, rfl, by decide +kernel, rfl, by decide +kernel, by decide +kernel⟩
abbrev N_w_pick : List Str := ["_law_well", "_law_some"]
abbrev P_w_pick : List Str := ["_law_well", "_law_some"]
theorem sc_w_pick : FnScope N_w_pick P_w_pick (defScope s_w_pick) := ⟨rfl, rfl, rfl, by decide +kernel, rfl, by decide +kernel, by decide +kernel⟩
abbrev N_w_bounds : List Str := ["_law_well", "_law_most", "_law_size_here", "_law_found", "_law_turn", "_law_low", "_law_high"]
abbrev P_w_bounds : List Str := ["_law_well", "_law_most", "_law_size_here"]
theorem sc_w_bounds : FnScope N_w_bounds P_w_bounds (defScope s_w_bounds) := ⟨rfl, rfl, rfl, by decide +kernel, rfl, by decide +kernel, by decide +kernel⟩
abbrev N_w_subscripts : List Str := ["_law_piece", "_law_found", "_law_here"]
abbrev P_w_subscripts : List Str := ["_law_piece"]
theorem sc_w_subscripts : FnScope N_w_subscripts P_w_subscripts (defScope s_w_subscripts) := ⟨rfl, rfl, rfl, by decide +kernel, rfl, by decide +kernel, by decide +kernel⟩
abbrev N_w_elements : List Str := ["_law_section_so", "_law_found", "_law_piece", "_law_longer", "_law_row", "_law_one"]
abbrev P_w_elements : List Str := ["_law_section_so"]
theorem sc_w_elements : FnScope N_w_elements P_w_elements (defScope s_w_elements) := ⟨rfl, rfl, rfl, by decide +kernel, rfl, by decide +kernel, by decide +kernel⟩
abbrev N_w_place : List Str := ["_law_bounds_so", "_law_element_so", "_law_found", "_law_by", "_law_one", "_law_low", "_law_high"]
abbrev P_w_place : List Str := ["_law_bounds_so", "_law_element_so"]
theorem sc_w_place : FnScope N_w_place P_w_place (defScope s_w_place) := ⟨rfl, rfl, rfl, by decide +kernel, rfl, by decide +kernel, by decide +kernel⟩
abbrev N_w_one_of : List Str := ["_law_bounds_so", "_law_spot", "_law_found", "_law_low", "_law_high"]
abbrev P_w_one_of : List Str := ["_law_bounds_so", "_law_spot"]
theorem sc_w_one_of : FnScope N_w_one_of P_w_one_of (defScope s_w_one_of) := ⟨rfl, rfl, rfl, by decide +kernel, rfl, by decide +kernel, by decide +kernel⟩
abbrev N_w_size : List Str := ["_law_bounds_so", "_law_found", "_law_low", "_law_high"]
abbrev P_w_size : List Str := ["_law_bounds_so"]
theorem sc_w_size : FnScope N_w_size P_w_size (defScope s_w_size) := ⟨rfl, rfl, rfl, by decide +kernel, rfl, by decide +kernel, by decide +kernel⟩
abbrev N_w_hand : List Str := ["_law_well", "_law_bounds_so", "_law_every", "_law_way", "_law_first", "_law_section_so", "_law_front", "_law_low", "_law_high", "_law_spot", "_law_one", "_law_k"]
abbrev P_w_hand : List Str := ["_law_well", "_law_bounds_so"]
theorem sc_w_hand : FnScope N_w_hand P_w_hand (defScope s_w_hand) := ⟨rfl, rfl, rfl, by decide +kernel, rfl, by decide +kernel, by decide +kernel⟩
abbrev N_w_dummy : List Str := ["_law_well", "_law_many_here", "_law_found", "_law_left", "_law_turn", "_law_low", "_law_size_here", "_law_ends", "_law_last"]
abbrev P_w_dummy : List Str := ["_law_well", "_law_many_here"]
theorem sc_w_dummy : FnScope N_w_dummy P_w_dummy (defScope s_w_dummy) := ⟨rfl, rfl, rfl, by decide +kernel, rfl, by decide +kernel, by decide +kernel⟩
abbrev N_w_seats : List Str := ["_law_dummy_so", "_law_given", "_law_ahead", "_law_low", "_law_high", "_law_longer", "_law_row", "_law_found", "_law_here", "_law_one"]
abbrev P_w_seats : List Str := ["_law_dummy_so", "_law_given"]
theorem sc_w_seats : FnScope N_w_seats P_w_seats (defScope s_w_seats) := ⟨rfl, rfl, rfl, by decide +kernel, rfl, by decide +kernel, by decide +kernel⟩
abbrev N_w_right : List Str := ["_law_well", "_law_places", "_law_seats_here", "_law_due", "_law_spot", "_law_turn", "_law_bounds_so", "_law_dummy_so", "_law_hand_so", "_law_one", "_law_low", "_law_high"]
abbrev P_w_right : List Str := ["_law_well"]
theorem sc_w_right : FnScope N_w_right P_w_right (defScope s_w_right) := ⟨rfl, rfl, rfl, by decide +kernel, rfl, by decide +kernel, by decide +kernel⟩
abbrev N_w_is_none : List Str := ["_law_ask", "e"]
theorem sc_w_is_none : FnScope N_w_is_none ["_law_ask"] (defScope s_w_is_none) := ⟨rfl, rfl, rfl, by decide +kernel, rfl, by decide +kernel, by decide +kernel⟩
/-- what the top has written -/
structure Txt (K : PySem.W.Frag) (mg : Str → Option Value) where
  a_is_number : Addr
  d_is_number : FuncData
  F_is_number : Fun K "is_number" "is_number" s_is_number a_is_number d_is_number
  g_is_number : mg "is_number" = some (.ref a_is_number)
  a_is_far : Addr
  d_is_far : FuncData
  F_is_far : Fun K "is_far" "is_far" s_is_far a_is_far d_is_far
  g_is_far : mg "is_far" = some (.ref a_is_far)
  a_is_triplet : Addr
  d_is_triplet : FuncData
  F_is_triplet : Fun K "is_triplet" "is_triplet" s_is_triplet a_is_triplet d_is_triplet
  g_is_triplet : mg "is_triplet" = some (.ref a_is_triplet)
  a_is_part : Addr
  d_is_part : FuncData
  F_is_part : Fun K "is_part" "is_part" s_is_part a_is_part d_is_part
  g_is_part : mg "is_part" = some (.ref a_is_part)
  a_many_of : Addr
  d_many_of : FuncData
  F_many_of : Fun K "many_of" "many_of" s_many_of a_many_of d_many_of
  g_many_of : mg "many_of" = some (.ref a_many_of)
  a_subscript_of : Addr
  d_subscript_of : FuncData
  F_subscript_of : Fun K "subscript_of" "subscript_of" s_subscript_of a_subscript_of d_subscript_of
  g_subscript_of : mg "subscript_of" = some (.ref a_subscript_of)
  a_last_of : Addr
  d_last_of : FuncData
  F_last_of : Fun K "last_of" "last_of" s_last_of a_last_of d_last_of
  g_last_of : mg "last_of" = some (.ref a_last_of)
  a_subscripts : Addr
  d_subscripts : FuncData
  F_subscripts : Fun K "subscripts" "subscripts" s_subscripts a_subscripts d_subscripts
  g_subscripts : mg "subscripts" = some (.ref a_subscripts)
  a_lies_between : Addr
  d_lies_between : FuncData
  F_lies_between : Fun K "lies_between" "lies_between" s_lies_between a_lies_between d_lies_between
  g_lies_between : mg "lies_between" = some (.ref a_lies_between)
  a_is_range : Addr
  d_is_range : FuncData
  F_is_range : Fun K "is_range" "is_range" s_is_range a_is_range d_is_range
  g_is_range : mg "is_range" = some (.ref a_is_range)
  a_is_bounds : Addr
  d_is_bounds : FuncData
  F_is_bounds : Fun K "is_bounds" "is_bounds" s_is_bounds a_is_bounds d_is_bounds
  g_is_bounds : mg "is_bounds" = some (.ref a_is_bounds)
  a_all_extents : Addr
  d_all_extents : FuncData
  F_all_extents : Fun K "all_extents" "all_extents" s_all_extents a_all_extents d_all_extents
  g_all_extents : mg "all_extents" = some (.ref a_all_extents)
  a_multiplied : Addr
  d_multiplied : FuncData
  F_multiplied : Fun K "multiplied" "multiplied" s_multiplied a_multiplied d_multiplied
  g_multiplied : mg "multiplied" = some (.ref a_multiplied)
  a_size_of : Addr
  d_size_of : FuncData
  F_size_of : Fun K "size_of" "size_of" s_size_of a_size_of d_size_of
  g_size_of : mg "size_of" = some (.ref a_size_of)
  a_weights : Addr
  d_weights : FuncData
  F_weights : Fun K "weights" "weights" s_weights a_weights d_weights
  g_weights : mg "weights" = some (.ref a_weights)
  a_is_element : Addr
  d_is_element : FuncData
  F_is_element : Fun K "is_element" "is_element" s_is_element a_is_element d_is_element
  g_is_element : mg "is_element" = some (.ref a_is_element)
  a_place_there : Addr
  d_place_there : FuncData
  F_place_there : Fun K "place_there" "place_there" s_place_there a_place_there d_place_there
  g_place_there : mg "place_there" = some (.ref a_place_there)
  a_element_there : Addr
  d_element_there : FuncData
  F_element_there : Fun K "element_there" "element_there" s_element_there a_element_there d_element_there
  g_element_there : mg "element_there" = some (.ref a_element_there)
  a_many_in : Addr
  d_many_in : FuncData
  F_many_in : Fun K "many_in" "many_in" s_many_in a_many_in d_many_in
  g_many_in : mg "many_in" = some (.ref a_many_in)
  a_is_section : Addr
  d_is_section : FuncData
  F_is_section : Fun K "is_section" "is_section" s_is_section a_is_section d_is_section
  g_is_section : mg "is_section" = some (.ref a_is_section)
  a_element_in : Addr
  d_element_in : FuncData
  F_element_in : Fun K "element_in" "element_in" s_element_in a_element_in d_element_in
  g_element_in : mg "element_in" = some (.ref a_element_in)
  a_joints : Addr
  d_joints : FuncData
  F_joints : Fun K "joints" "joints" s_joints a_joints d_joints
  g_joints : mg "joints" = some (.ref a_joints)
  a_stretches_of : Addr
  d_stretches_of : FuncData
  F_stretches_of : Fun K "stretches_of" "stretches_of" s_stretches_of a_stretches_of d_stretches_of
  g_stretches_of : mg "stretches_of" = some (.ref a_stretches_of)
  a_check_bounds : Addr
  d_check_bounds : FuncData
  F_check_bounds : Fun K "check_bounds" "check_bounds" s_check_bounds a_check_bounds d_check_bounds
  g_check_bounds : mg "check_bounds" = some (.ref a_check_bounds)
  a_is_open : Addr
  d_is_open : FuncData
  F_is_open : Fun K "is_open" "is_open" s_is_open a_is_open d_is_open
  g_is_open : mg "is_open" = some (.ref a_is_open)
  a_is_dummy : Addr
  d_is_dummy : FuncData
  F_is_dummy : Fun K "is_dummy" "is_dummy" s_is_dummy a_is_dummy d_is_dummy
  g_is_dummy : mg "is_dummy" = some (.ref a_is_dummy)
  a_with_rows : Addr
  d_with_rows : FuncData
  F_with_rows : Fun K "with_rows" "with_rows" s_with_rows a_with_rows d_with_rows
  g_with_rows : mg "with_rows" = some (.ref a_with_rows)
  a_whole_rows : Addr
  d_whole_rows : FuncData
  F_whole_rows : Fun K "whole_rows" "whole_rows" s_whole_rows a_whole_rows d_whole_rows
  g_whole_rows : mg "whole_rows" = some (.ref a_whole_rows)
  a_rows_and_rest : Addr
  d_rows_and_rest : FuncData
  F_rows_and_rest : Fun K "rows_and_rest" "rows_and_rest" s_rows_and_rest a_rows_and_rest d_rows_and_rest
  g_rows_and_rest : mg "rows_and_rest" = some (.ref a_rows_and_rest)
  a_place_in : Addr
  d_place_in : FuncData
  F_place_in : Fun K "place_in" "place_in" s_place_in a_place_in d_place_in
  g_place_in : mg "place_in" = some (.ref a_place_in)
  a_element_in_holder : Addr
  d_element_in_holder : FuncData
  F_element_in_holder : Fun K "element_in_holder" "element_in_holder" s_element_in_holder a_element_in_holder d_element_in_holder
  g_element_in_holder : mg "element_in_holder" = some (.ref a_element_in_holder)
  a_section_handed : Addr
  d_section_handed : FuncData
  F_section_handed : Fun K "section_handed" "section_handed" s_section_handed a_section_handed d_section_handed
  g_section_handed : mg "section_handed" = some (.ref a_section_handed)
  a_part_handed : Addr
  d_part_handed : FuncData
  F_part_handed : Fun K "part_handed" "part_handed" s_part_handed a_part_handed d_part_handed
  g_part_handed : mg "part_handed" = some (.ref a_part_handed)
  a_received : Addr
  d_received : FuncData
  F_received : Fun K "received" "received" s_received a_received d_received
  g_received : mg "received" = some (.ref a_received)
  a_of_array : Addr
  d_of_array : FuncData
  F_of_array : Fun K "of_array" "of_array" s_of_array a_of_array d_of_array
  g_of_array : mg "of_array" = some (.ref a_of_array)
  a_dummy_place : Addr
  d_dummy_place : FuncData
  F_dummy_place : Fun K "dummy_place" "dummy_place" s_dummy_place a_dummy_place d_dummy_place
  g_dummy_place : mg "dummy_place" = some (.ref a_dummy_place)
  a_dummy_element : Addr
  d_dummy_element : FuncData
  F_dummy_element : Fun K "dummy_element" "dummy_element" s_dummy_element a_dummy_element d_dummy_element
  g_dummy_element : mg "dummy_element" = some (.ref a_dummy_element)
  a_w_mix : Addr
  d_w_mix : FuncData
  F_w_mix : Fun K "_law_mix" "_law_mix" s_w_mix a_w_mix d_w_mix
  g_w_mix : mg "_law_mix" = some (.ref a_w_mix)
  a_w_draw : Addr
  d_w_draw : FuncData
  F_w_draw : Fun K "_law_draw" "_law_draw" s_w_draw a_w_draw d_w_draw
  g_w_draw : mg "_law_draw" = some (.ref a_w_draw)
  a_w_pick : Addr
  d_w_pick : FuncData
  F_w_pick : Fun K "_law_pick" "_law_pick" s_w_pick a_w_pick d_w_pick
  g_w_pick : mg "_law_pick" = some (.ref a_w_pick)
  a_w_bounds : Addr
  d_w_bounds : FuncData
  F_w_bounds : Fun K "_law_bounds" "_law_bounds" s_w_bounds a_w_bounds d_w_bounds
  g_w_bounds : mg "_law_bounds" = some (.ref a_w_bounds)
  a_w_subscripts : Addr
  d_w_subscripts : FuncData
  F_w_subscripts : Fun K "_law_subscripts" "_law_subscripts" s_w_subscripts a_w_subscripts d_w_subscripts
  g_w_subscripts : mg "_law_subscripts" = some (.ref a_w_subscripts)
  a_w_elements : Addr
  d_w_elements : FuncData
  F_w_elements : Fun K "_law_elements" "_law_elements" s_w_elements a_w_elements d_w_elements
  g_w_elements : mg "_law_elements" = some (.ref a_w_elements)
  a_w_place : Addr
  d_w_place : FuncData
  F_w_place : Fun K "_law_place" "_law_place" s_w_place a_w_place d_w_place
  g_w_place : mg "_law_place" = some (.ref a_w_place)
  a_w_one_of : Addr
  d_w_one_of : FuncData
  F_w_one_of : Fun K "_law_one_of" "_law_one_of" s_w_one_of a_w_one_of d_w_one_of
  g_w_one_of : mg "_law_one_of" = some (.ref a_w_one_of)
  a_w_size : Addr
  d_w_size : FuncData
  F_w_size : Fun K "_law_size" "_law_size" s_w_size a_w_size d_w_size
  g_w_size : mg "_law_size" = some (.ref a_w_size)
  a_w_hand : Addr
  d_w_hand : FuncData
  F_w_hand : Fun K "_law_hand" "_law_hand" s_w_hand a_w_hand d_w_hand
  g_w_hand : mg "_law_hand" = some (.ref a_w_hand)
  a_w_dummy : Addr
  d_w_dummy : FuncData
  F_w_dummy : Fun K "_law_dummy" "_law_dummy" s_w_dummy a_w_dummy d_w_dummy
  g_w_dummy : mg "_law_dummy" = some (.ref a_w_dummy)
  a_w_seats : Addr
  d_w_seats : FuncData
  F_w_seats : Fun K "_law_seats" "_law_seats" s_w_seats a_w_seats d_w_seats
  g_w_seats : mg "_law_seats" = some (.ref a_w_seats)
  a_w_right : Addr
  d_w_right : FuncData
  F_w_right : Fun K "_law_right" "_law_right" s_w_right a_w_right d_w_right
  g_w_right : mg "_law_right" = some (.ref a_w_right)
  a_w_source : Addr
  d_w_source : FuncData
  F_w_source : Fun K "_law_source" "_law_source" s_w_source a_w_source d_w_source
  g_w_source : mg "_law_source" = some (.ref a_w_source)
  a_w_is_none : Addr
  d_w_is_none : FuncData
  F_w_is_none : Fun K "_law_is_none" "_law_is_none" s_w_is_none a_w_is_none d_w_is_none
  g_w_is_none : mg "_law_is_none" = some (.ref a_w_is_none)
  a_law : Addr
  d_law : FuncData
  F_law : Fun K "law" "law" s_law a_law d_law
  g_law : mg "law" = some (.ref a_law)
  z_int : mg "int" = none
  z_isinstance : mg "isinstance" = none
  z_bool : mg "bool" = none
  z_tuple : mg "tuple" = none
  z_len : mg "len" = none
  z_all : mg "all" = none
  z_list : mg "list" = none
  z_max : mg "max" = none
  z_range : mg "range" = none
  z_zip : mg "zip" = none
  z_sum : mg "sum" = none
  z_min : mg "min" = none
  z_sorted : mg "sorted" = none
  z_abs : mg "abs" = none
  C_InvalidSection : Addr
  I_InvalidSection : Addr
  e_InvalidSection : PySem.ErrX.ErrTxt K mg "InvalidSection" "InvalidSection.__init__" C_InvalidSection I_InvalidSection
  t_FAR : Tok
  c_FAR : mg "FAR" = some (.int 1000000000000000000000000000000 t_FAR)
  t_LIST_LIMIT : Tok
  c_LIST_LIMIT : mg "LIST_LIMIT" = some (.int 64 t_LIST_LIMIT)
  t_FARTHEST : Tok
  c_FARTHEST : mg "FARTHEST" = some (.int 500000000000000000000000000000 t_FARTHEST)
  t_DIMENSIONS : Tok
  c_DIMENSIONS : mg "DIMENSIONS" = some (.int 7 t_DIMENSIONS)
/-- the code object of the def that makes lambdas, and its table -/
def qual_w_right : Str := (envOfC "_law_right" (defScope s_w_right) 0 0 .none).qual ++ "<lambda>"
structure LamT {K : PySem.W.Frag} {mg : Str → Option Value} (T : Txt K mg) (base : Heap) where
  c : Addr
  P : Addr
  code : T.d_w_right.code = .ref c
  TB : LamX.TabB base mg c P
  mem : (P, qual_w_right) ∈ TabT.T
  uq : ∀ p ∈ TabT.T, p.1 = P → p.2 = qual_w_right
section
variable {P : Program} {w : World} {K : PySem.W.Frag} {mg : Str → Option Value} {base : Heap}
theorem b_is_number (T : Txt K mg) : Binds K T.d_is_number ["value"] [] := T.F_is_number.binds fun _ _ _ _ _ _ us hl => match us, hl with | [_], _ => rfl
theorem b_is_far (T : Txt K mg) : Binds K T.d_is_far ["value"] [] := T.F_is_far.binds fun _ _ _ _ _ _ us hl => match us, hl with | [_], _ => rfl
theorem b_is_triplet (T : Txt K mg) : Binds K T.d_is_triplet ["value"] [] := T.F_is_triplet.binds fun _ _ _ _ _ _ us hl => match us, hl with | [_], _ => rfl
theorem b_is_part (T : Txt K mg) : Binds K T.d_is_part ["value"] [] := T.F_is_part.binds fun _ _ _ _ _ _ us hl => match us, hl with | [_], _ => rfl
theorem b_many_of (T : Txt K mg) : Binds K T.d_many_of ["part"] [] := T.F_many_of.binds fun _ _ _ _ _ _ us hl => match us, hl with | [_], _ => rfl
theorem b_subscript_of (T : Txt K mg) : Binds K T.d_subscript_of ["part", "index"] [] := T.F_subscript_of.binds fun _ _ _ _ _ _ us hl => match us, hl with | [_, _], _ => rfl
theorem b_last_of (T : Txt K mg) : Binds K T.d_last_of ["part"] [] := T.F_last_of.binds fun _ _ _ _ _ _ us hl => match us, hl with | [_], _ => rfl
theorem b_subscripts (T : Txt K mg) : Binds K T.d_subscripts ["part"] [] := T.F_subscripts.binds fun _ _ _ _ _ _ us hl => match us, hl with | [_], _ => rfl
theorem b_lies_between (T : Txt K mg) : Binds K T.d_lies_between ["part", "low", "high"] [] := T.F_lies_between.binds fun _ _ _ _ _ _ us hl => match us, hl with | [_, _, _], _ => rfl
theorem b_is_range (T : Txt K mg) : Binds K T.d_is_range ["value"] [] := T.F_is_range.binds fun _ _ _ _ _ _ us hl => match us, hl with | [_], _ => rfl
theorem b_is_bounds (T : Txt K mg) : Binds K T.d_is_bounds ["value"] [] := T.F_is_bounds.binds fun _ _ _ _ _ _ us hl => match us, hl with | [_], _ => rfl
theorem b_all_extents (T : Txt K mg) : Binds K T.d_all_extents ["bounds"] [] := T.F_all_extents.binds fun _ _ _ _ _ _ us hl => match us, hl with | [_], _ => rfl
theorem b_multiplied (T : Txt K mg) : Binds K T.d_multiplied ["numbers"] [] := T.F_multiplied.binds fun _ _ _ _ _ _ us hl => match us, hl with | [_], _ => rfl
theorem b_size_of (T : Txt K mg) : Binds K T.d_size_of ["bounds"] [] := T.F_size_of.binds fun _ _ _ _ _ _ us hl => match us, hl with | [_], _ => rfl
theorem b_weights (T : Txt K mg) : Binds K T.d_weights ["bounds"] [] := T.F_weights.binds fun _ _ _ _ _ _ us hl => match us, hl with | [_], _ => rfl
theorem b_is_element (T : Txt K mg) : Binds K T.d_is_element ["bounds", "value"] [] := T.F_is_element.binds fun _ _ _ _ _ _ us hl => match us, hl with | [_, _], _ => rfl
theorem b_place_there (T : Txt K mg) : Binds K T.d_place_there ["bounds", "element"] [] := T.F_place_there.binds fun _ _ _ _ _ _ us hl => match us, hl with | [_, _], _ => rfl
theorem b_element_there (T : Txt K mg) : Binds K T.d_element_there ["bounds", "place"] [] := T.F_element_there.binds fun _ _ _ _ _ _ us hl => match us, hl with | [_, _], _ => rfl
theorem b_many_in (T : Txt K mg) : Binds K T.d_many_in ["section"] [] := T.F_many_in.binds fun _ _ _ _ _ _ us hl => match us, hl with | [_], _ => rfl
theorem b_is_section (T : Txt K mg) : Binds K T.d_is_section ["bounds", "value"] [] := T.F_is_section.binds fun _ _ _ _ _ _ us hl => match us, hl with | [_, _], _ => rfl
theorem b_element_in (T : Txt K mg) : Binds K T.d_element_in ["section", "index"] [] := T.F_element_in.binds fun _ _ _ _ _ _ us hl => match us, hl with | [_, _], _ => rfl
theorem b_joints (T : Txt K mg) : Binds K T.d_joints ["part", "weight", "turned"] [] := T.F_joints.binds fun _ _ _ _ _ _ us hl => match us, hl with | [_, _, _], _ => rfl
theorem b_stretches_of (T : Txt K mg) : Binds K T.d_stretches_of ["bounds", "section"] [] := T.F_stretches_of.binds fun _ _ _ _ _ _ us hl => match us, hl with | [_, _], _ => rfl
theorem b_check_bounds (T : Txt K mg) : Binds K T.d_check_bounds ["bounds"] [] := T.F_check_bounds.binds fun _ _ _ _ _ _ us hl => match us, hl with | [_], _ => rfl
theorem b_is_open (T : Txt K mg) : Binds K T.d_is_open ["bounds"] [] := T.F_is_open.binds fun _ _ _ _ _ _ us hl => match us, hl with | [_], _ => rfl
theorem b_is_dummy (T : Txt K mg) : Binds K T.d_is_dummy ["value"] [] := T.F_is_dummy.binds fun _ _ _ _ _ _ us hl => match us, hl with | [_], _ => rfl
theorem b_with_rows (T : Txt K mg) : Binds K T.d_with_rows ["holder", "more"] [] := T.F_with_rows.binds fun _ _ _ _ _ _ us hl => match us, hl with | [_, _], _ => rfl
theorem b_whole_rows (T : Txt K mg) : Binds K T.d_whole_rows ["holder"] [] := T.F_whole_rows.binds fun _ _ _ _ _ _ us hl => match us, hl with | [_], _ => rfl
theorem b_rows_and_rest (T : Txt K mg) : Binds K T.d_rows_and_rest ["holder"] [] := T.F_rows_and_rest.binds fun _ _ _ _ _ _ us hl => match us, hl with | [_], _ => rfl
theorem b_place_in (T : Txt K mg) : Binds K T.d_place_in ["holder", "element"] [] := T.F_place_in.binds fun _ _ _ _ _ _ us hl => match us, hl with | [_, _], _ => rfl
theorem b_element_in_holder (T : Txt K mg) : Binds K T.d_element_in_holder ["holder", "place"] [] := T.F_element_in_holder.binds fun _ _ _ _ _ _ us hl => match us, hl with | [_, _], _ => rfl
theorem b_section_handed (T : Txt K mg) : Binds K T.d_section_handed ["bounds", "section"] [] := T.F_section_handed.binds fun _ _ _ _ _ _ us hl => match us, hl with | [_, _], _ => rfl
theorem b_part_handed (T : Txt K mg) : Binds K T.d_part_handed ["holder", "part"] [] := T.F_part_handed.binds fun _ _ _ _ _ _ us hl => match us, hl with | [_, _], _ => rfl
theorem b_received (T : Txt K mg) : Binds K T.d_received ["holder", "part", "dummy"] [] := T.F_received.binds fun _ _ _ _ _ _ us hl => match us, hl with | [_, _, _], _ => rfl
theorem b_of_array (T : Txt K mg) : Binds K T.d_of_array ["bounds"] [] := T.F_of_array.binds fun _ _ _ _ _ _ us hl => match us, hl with | [_], _ => rfl
theorem b_dummy_place (T : Txt K mg) : Binds K T.d_dummy_place ["bounds", "part", "dummy", "element"] [] := T.F_dummy_place.binds fun _ _ _ _ _ _ us hl => match us, hl with | [_, _, _, _], _ => rfl
theorem b_dummy_element (T : Txt K mg) : Binds K T.d_dummy_element ["bounds", "part", "dummy", "place"] [] := T.F_dummy_element.binds fun _ _ _ _ _ _ us hl => match us, hl with | [_, _, _, _], _ => rfl
theorem b_w_mix (T : Txt K mg) : Binds K T.d_w_mix ["_law_cell", "_law_lap"] [] := T.F_w_mix.binds fun _ _ _ _ _ _ us hl => match us, hl with | [_, _], _ => rfl
theorem b_w_draw (T : Txt K mg) : Binds K T.d_w_draw ["_law_well", "_law_many_here"] [] := T.F_w_draw.binds fun _ _ _ _ _ _ us hl => match us, hl with | [_, _], _ => rfl
theorem b_w_pick (T : Txt K mg) : Binds K T.d_w_pick ["_law_well", "_law_some"] [] := T.F_w_pick.binds fun _ _ _ _ _ _ us hl => match us, hl with | [_, _], _ => rfl
theorem b_w_bounds (T : Txt K mg) : Binds K T.d_w_bounds ["_law_well", "_law_most", "_law_size_here"] [] := T.F_w_bounds.binds fun _ _ _ _ _ _ us hl => match us, hl with | [_, _, _], _ => rfl
theorem b_w_subscripts (T : Txt K mg) : Binds K T.d_w_subscripts ["_law_piece"] [] := T.F_w_subscripts.binds fun _ _ _ _ _ _ us hl => match us, hl with | [_], _ => rfl
theorem b_w_elements (T : Txt K mg) : Binds K T.d_w_elements ["_law_section_so"] [] := T.F_w_elements.binds fun _ _ _ _ _ _ us hl => match us, hl with | [_], _ => rfl
theorem b_w_place (T : Txt K mg) : Binds K T.d_w_place ["_law_bounds_so", "_law_element_so"] [] := T.F_w_place.binds fun _ _ _ _ _ _ us hl => match us, hl with | [_, _], _ => rfl
theorem b_w_one_of (T : Txt K mg) : Binds K T.d_w_one_of ["_law_bounds_so", "_law_spot"] [] := T.F_w_one_of.binds fun _ _ _ _ _ _ us hl => match us, hl with | [_, _], _ => rfl
theorem b_w_size (T : Txt K mg) : Binds K T.d_w_size ["_law_bounds_so"] [] := T.F_w_size.binds fun _ _ _ _ _ _ us hl => match us, hl with | [_], _ => rfl
theorem b_w_hand (T : Txt K mg) : Binds K T.d_w_hand ["_law_well", "_law_bounds_so"] [] := T.F_w_hand.binds fun _ _ _ _ _ _ us hl => match us, hl with | [_, _], _ => rfl
theorem b_w_dummy (T : Txt K mg) : Binds K T.d_w_dummy ["_law_well", "_law_many_here"] [] := T.F_w_dummy.binds fun _ _ _ _ _ _ us hl => match us, hl with | [_, _], _ => rfl
theorem b_w_seats (T : Txt K mg) : Binds K T.d_w_seats ["_law_dummy_so", "_law_given"] [] := T.F_w_seats.binds fun _ _ _ _ _ _ us hl => match us, hl with | [_, _], _ => rfl
theorem b_w_right (T : Txt K mg) : Binds K T.d_w_right ["_law_well"] [] := T.F_w_right.binds fun _ _ _ _ _ _ us hl => match us, hl with | [_], _ => rfl
theorem b_w_source (T : Txt K mg) : Binds K T.d_w_source ["_law_script", "_law_k"] [] := T.F_w_source.binds fun _ _ _ _ _ _ us hl => match us, hl with | [_, _], _ => rfl
theorem b_w_is_none (T : Txt K mg) : Binds K T.d_w_is_none ["_law_ask"] [] := T.F_w_is_none.binds fun _ _ _ _ _ _ us hl => match us, hl with | [_], _ => rfl
theorem b_law (T : Txt K mg) : Binds K T.d_law ["_law_script"] [] := T.F_law.binds fun _ _ _ _ _ _ us hl => match us, hl with | [_], _ => rfl
def B_is_number : DS := (sRet (eAnd (eCB fIsi (aCons (eVar 0) (aCons (eC (.ty "int")) aNil))) (eNot (eCB fIsi (aCons (eVar 0) (aCons (eC (.ty "bool")) aNil))))))
def F_is_number : DF := runB 1 1 B_is_number
theorem d_is_number (T : Txt K mg) : FnD P w K mg base 1 T.a_is_number T.d_is_number P_is_number F_is_number := fnD T.F_is_number sc_is_number (by decide) B_is_number (fun cdv A outer s H E hr => (sd_one (sd_ret (pd_and (pd_cb call_isiA cd_isi (by rfl) T.z_isinstance (by decide +kernel) (ad_cons (pd_var 0) (ad_cons (pd_ty (by rfl) T.z_int (by decide +kernel)) ad_nil))) (pd_one (pd_not (pd_cb call_isiA cd_isi (by rfl) T.z_isinstance (by decide +kernel) (ad_cons (pd_var 0) (ad_cons (pd_ty (by rfl) T.z_bool (by decide +kernel)) ad_nil)))))))))
def B_is_far : DS := (sRet (eAnd (eCall 1 F_is_number (aCons (eVar 0) aNil)) (eChain fLe fLe (eUn fNeg (eC (.int 1000000000000000000000000000000))) (eVar 0) (eC (.int 1000000000000000000000000000000)))))
def F_is_far : DF := runB 1 1 B_is_far
theorem d_is_far (T : Txt K mg) : FnD P w K mg base 2 T.a_is_far T.d_is_far P_is_far F_is_far := fnD T.F_is_far sc_is_far (by decide) B_is_far (fun cdv A outer s H E hr => (sd_one (sd_ret (pd_and (by refine pd_call (k := 1) (f := T.a_is_number) (fd := T.d_is_number) (ps := P_is_number) (F := F_is_number) ?_ ?_ ?_ ?_ ?_ ?_ ?_ ?_; exact d_is_number T; exact hr.mono (by decide); exact rfl; exact T.g_is_number; exact T.F_is_number.kp; exact b_is_number T; exact (wok_takes (takes_of rfl rfl rfl rfl)); exact (ad_cons (pd_var 0) ad_nil)) (pd_one (pd_chain op_le op_le opd_cmp opd_cmp (pd_neg (pd_globI (by rfl) T.c_FAR)) (pd_var 0) (pd_globI (by rfl) T.c_FAR)))))))
def B_is_triplet : DS := (sSeq (sIf (tOn (tNo (tTr (eCB fIsi (aCons (eVar 0) (aCons (eC (.ty "tuple")) aNil))))) (tE (eBin fNe (eCB fLen (aCons (eVar 0) aNil)) (eC (.int 3))))) (sRet (eC (.bl false))) sNx) (sRet (eAnd (eCB fAll (aCons (eL (aLc (iSeq (eVar 0)) (gN 1) tYesD (eCall 1 F_is_far (aCons (eVar 1) aNil)) [1])) aNil)) (eBin fNe (eBin fIx (eVar 0) (eC (.int 2))) (eC (.int 0))))))
def F_is_triplet : DF := runB 2 1 B_is_triplet
theorem d_is_triplet (T : Txt K mg) : FnD P w K mg base 3 T.a_is_triplet T.d_is_triplet P_is_triplet F_is_triplet := fnD T.F_is_triplet sc_is_triplet (by decide) B_is_triplet (fun cdv A outer s H E hr => (sd_cons (sd_if (qd_or (qd_not (qd_tr (pd_cb call_isiA cd_isi (by rfl) T.z_isinstance (by decide +kernel) (ad_cons (pd_var 0) (ad_cons (pd_ty (by rfl) T.z_tuple (by decide +kernel)) ad_nil))))) (qd_or1 (qd_ne hr.units (pd_cb call_len cd_len (by rfl) T.z_len (by decide +kernel) (ad_cons (pd_var 0) ad_nil)) pd_int))).pt (sd_one (sd_ret pd_bl)) sd_nil) (sd_one (sd_ret (pd_and (pd_cb (cr_all rfl) cd_all (by rfl) T.z_all (by decide +kernel) (ad_cons (pd_L (pl_lc (own := [("number", 1)]) rfl sc_is_triplet.nd (id_seq (pd_var 0)) (blkOk_by (own := [("number", 1)]) (N := N_is_triplet) (sc := defScope s_is_triplet) (by decide +kernel)) (fun _ _ _ _ _ => (gd_name (i := 1) sc_is_triplet.nd rfl (Or.inl rfl) (by decide))) (fun _ _ _ _ _ => td_nil) (fun _ _ _ _ _ => (by refine pd_call (k := 2) (f := T.a_is_far) (fd := T.d_is_far) (ps := P_is_far) (F := F_is_far) ?_ ?_ ?_ ?_ ?_ ?_ ?_ ?_; exact d_is_far T; exact hr.mono (by decide); exact rfl; exact T.g_is_far; exact T.F_is_far.kp; exact b_is_far T; exact wok0; exact (ad_cons (pd_var 1) ad_nil))))) ad_nil)) (pd_one (pd_ne hr.units (pd_ix (pd_var 0) pd_int) pd_int)))))))
def B_is_part : DS := (sSeq (sIf (tTr (eCB fIsi (aCons (eVar 0) (aCons (eC (.ty "list")) aNil)))) (sRet (eAnd (eBin fLe (eCB fLen (aCons (eVar 0) aNil)) (eC (.int 64))) (eCB fAll (aCons (eL (aLc (iSeq (eVar 0)) (gN 1) tYesD (eCall 1 F_is_far (aCons (eVar 1) aNil)) [1])) aNil)))) sNx) (sRet (eOr (eCall 1 F_is_far (aCons (eVar 0) aNil)) (eCall 1 F_is_triplet (aCons (eVar 0) aNil)))))
def F_is_part : DF := runB 2 1 B_is_part
theorem d_is_part (T : Txt K mg) : FnD P w K mg base 4 T.a_is_part T.d_is_part P_is_part F_is_part := fnD T.F_is_part sc_is_part (by decide) B_is_part (fun cdv A outer s H E hr => (sd_cons (sd_if (qd_tr (pd_cb call_isiA cd_isi (by rfl) T.z_isinstance (by decide +kernel) (ad_cons (pd_var 0) (ad_cons (pd_ty (by rfl) T.z_list (by decide +kernel)) ad_nil)))) (sd_one (sd_ret (pd_and (pd_le (pd_cb call_len cd_len (by rfl) T.z_len (by decide +kernel) (ad_cons (pd_var 0) ad_nil)) (pd_globI (by rfl) T.c_LIST_LIMIT)) (pd_one (pd_cb (cr_all rfl) cd_all (by rfl) T.z_all (by decide +kernel) (ad_cons (pd_L (pl_lc (own := [("number", 1)]) rfl sc_is_part.nd (id_seq (pd_var 0)) (blkOk_by (own := [("number", 1)]) (N := N_is_part) (sc := defScope s_is_part) (by decide +kernel)) (fun _ _ _ _ _ => (gd_name (i := 1) sc_is_part.nd rfl (Or.inl rfl) (by decide))) (fun _ _ _ _ _ => td_nil) (fun _ _ _ _ _ => (by refine pd_call (k := 2) (f := T.a_is_far) (fd := T.d_is_far) (ps := P_is_far) (F := F_is_far) ?_ ?_ ?_ ?_ ?_ ?_ ?_ ?_; exact d_is_far T; exact hr.mono (by decide); exact rfl; exact T.g_is_far; exact T.F_is_far.kp; exact b_is_far T; exact wok0; exact (ad_cons (pd_var 1) ad_nil))))) ad_nil)))))) sd_nil) (sd_one (sd_ret (pd_or (by refine pd_call (k := 2) (f := T.a_is_far) (fd := T.d_is_far) (ps := P_is_far) (F := F_is_far) ?_ ?_ ?_ ?_ ?_ ?_ ?_ ?_; exact d_is_far T; exact hr.mono (by decide); exact rfl; exact T.g_is_far; exact T.F_is_far.kp; exact b_is_far T; exact (wok_takes (takes_of rfl rfl rfl rfl)); exact (ad_cons (pd_var 0) ad_nil)) (pd_one (by refine pd_call (k := 3) (f := T.a_is_triplet) (fd := T.d_is_triplet) (ps := P_is_triplet) (F := F_is_triplet) ?_ ?_ ?_ ?_ ?_ ?_ ?_ ?_; exact d_is_triplet T; exact hr.mono (by decide); exact rfl; exact T.g_is_triplet; exact T.F_is_triplet.kp; exact b_is_triplet T; exact (wok_takes (takes_of rfl rfl rfl rfl)); exact (ad_cons (pd_var 0) ad_nil))))))))
def B_many_of : DS := (sSeq (sIf (tTr (eCB fIsi (aCons (eVar 0) (aCons (eC (.ty "list")) aNil)))) (sRet (eCB fLen (aCons (eVar 0) aNil))) sNx) (sSeq (sIf (tTr (eCB fIsi (aCons (eVar 0) (aCons (eC (.ty "tuple")) aNil)))) (sSeq (sTg (gT (gCons' (gN 1) (gCons' (gN 2) (gCons' (gN 3) gNil'))) 3) (eVar 0)) (sRet (eCB fMax2 (aCons (eC (.int 0)) (aCons (eBin fDiv (eBin fAdd (eBin fSub (eVar 2) (eVar 1)) (eVar 3)) (eVar 3)) aNil))))) sNx) (sRet (eC (.int 1)))))
def F_many_of : DF := runB 4 1 B_many_of
theorem d_many_of (T : Txt K mg) : FnD P w K mg base 1 T.a_many_of T.d_many_of P_many_of F_many_of := fnD T.F_many_of sc_many_of (by decide) B_many_of (fun cdv A outer s H E hr => (sd_cons (sd_if (qd_tr (pd_cb call_isiA cd_isi (by rfl) T.z_isinstance (by decide +kernel) (ad_cons (pd_var 0) (ad_cons (pd_ty (by rfl) T.z_list (by decide +kernel)) ad_nil)))) (sd_one (sd_ret (pd_cb call_len cd_len (by rfl) T.z_len (by decide +kernel) (ad_cons (pd_var 0) ad_nil)))) sd_nil) (sd_cons (sd_if (qd_tr (pd_cb call_isiA cd_isi (by rfl) T.z_isinstance (by decide +kernel) (ad_cons (pd_var 0) (ad_cons (pd_ty (by rfl) T.z_tuple (by decide +kernel)) ad_nil)))) (sd_cons (sd_tg (vs := [1, 2, 3]) (ps_asg (pd_var 0) (gd_tup rfl (gd_cons (gd_name (i := 1) sc_many_of.nd rfl (Or.inl rfl) (by decide)) (gd_cons (gd_name (i := 2) sc_many_of.nd rfl (Or.inl rfl) (by decide)) (gd_cons (gd_name (i := 3) sc_many_of.nd rfl (Or.inl rfl) (by decide)) gd_nil)))))) (sd_one (sd_ret (pd_cb (call_max2 rfl) cd_max2 (by rfl) T.z_max (by decide +kernel) (ad_cons pd_int (ad_cons (pd_div (pd_add (pd_sub (pd_var 2) (pd_var 1)) (pd_var 3)) (pd_var 3)) ad_nil)))))) sd_nil) (sd_one (sd_ret pd_int)))))
def B_subscript_of : DS := (sSeq (sIf (tTr (eCB fIsi (aCons (eVar 0) (aCons (eC (.ty "list")) aNil)))) (sRet (eBin fIx (eVar 0) (eVar 1))) sNx) (sSeq (sIf (tTr (eCB fIsi (aCons (eVar 0) (aCons (eC (.ty "tuple")) aNil)))) (sRet (eBin fAdd (eBin fIx (eVar 0) (eC (.int 0))) (eBin fMul (eVar 1) (eBin fIx (eVar 0) (eC (.int 2)))))) sNx) (sRet (eVar 0))))
def F_subscript_of : DF := runB 2 2 B_subscript_of
theorem d_subscript_of (T : Txt K mg) : FnD P w K mg base 1 T.a_subscript_of T.d_subscript_of P_subscript_of F_subscript_of := fnD T.F_subscript_of sc_subscript_of (by decide) B_subscript_of (fun cdv A outer s H E hr => (sd_cons (sd_if (qd_tr (pd_cb call_isiA cd_isi (by rfl) T.z_isinstance (by decide +kernel) (ad_cons (pd_var 0) (ad_cons (pd_ty (by rfl) T.z_list (by decide +kernel)) ad_nil)))) (sd_one (sd_ret (pd_ix (pd_var 0) (pd_var 1)))) sd_nil) (sd_cons (sd_if (qd_tr (pd_cb call_isiA cd_isi (by rfl) T.z_isinstance (by decide +kernel) (ad_cons (pd_var 0) (ad_cons (pd_ty (by rfl) T.z_tuple (by decide +kernel)) ad_nil)))) (sd_one (sd_ret (pd_add (pd_ix (pd_var 0) pd_int) (pd_mul (pd_var 1) (pd_ix (pd_var 0) pd_int))))) sd_nil) (sd_one (sd_ret (pd_var 0))))))
def B_last_of : DS := (sRet (eCall 2 F_subscript_of (aCons (eVar 0) (aCons (eBin fSub (eCall 1 F_many_of (aCons (eVar 0) aNil)) (eC (.int 1))) aNil))))
def F_last_of : DF := runB 1 1 B_last_of
theorem d_last_of (T : Txt K mg) : FnD P w K mg base 2 T.a_last_of T.d_last_of P_last_of F_last_of := fnD T.F_last_of sc_last_of (by decide) B_last_of (fun cdv A outer s H E hr => (sd_one (sd_ret (by refine pd_call (k := 1) (f := T.a_subscript_of) (fd := T.d_subscript_of) (ps := P_subscript_of) (F := F_subscript_of) ?_ ?_ ?_ ?_ ?_ ?_ ?_ ?_; exact d_subscript_of T; exact hr.mono (by decide); exact rfl; exact T.g_subscript_of; exact T.F_subscript_of.kp; exact b_subscript_of T; exact (wok_takes (takes_of rfl rfl rfl rfl)); exact (ad_cons (pd_var 0) (ad_cons (pd_sub (by refine pd_call (k := 1) (f := T.a_many_of) (fd := T.d_many_of) (ps := P_many_of) (F := F_many_of) ?_ ?_ ?_ ?_ ?_ ?_ ?_ ?_; exact d_many_of T; exact hr.mono (by decide); exact rfl; exact T.g_many_of; exact T.F_many_of.kp; exact b_many_of T; exact (wok_takes (takes_of rfl rfl rfl rfl)); exact (ad_cons (pd_var 0) ad_nil)) pd_int) ad_nil))))))
def B_subscripts : DS := (sRet (eL (aLc (iRng1 (aCons (eCall 1 F_many_of (aCons (eVar 0) aNil)) aNil)) (gN 1) tYesD (eCall 2 F_subscript_of (aCons (eVar 0) (aCons (eVar 1) aNil))) [1])))
def F_subscripts : DF := runB 2 1 B_subscripts
theorem d_subscripts (T : Txt K mg) : FnD P w K mg base 2 T.a_subscripts T.d_subscripts P_subscripts F_subscripts := fnD T.F_subscripts sc_subscripts (by decide) B_subscripts (fun cdv A outer s H E hr => (sd_one (sd_ret (pd_L (pl_lc (own := [("index", 1)]) rfl sc_subscripts.nd (id_rng1 (by rfl) T.z_range (ad_cons (by refine pd_call (k := 1) (f := T.a_many_of) (fd := T.d_many_of) (ps := P_many_of) (F := F_many_of) ?_ ?_ ?_ ?_ ?_ ?_ ?_ ?_; exact d_many_of T; exact hr.mono (by decide); exact rfl; exact T.g_many_of; exact T.F_many_of.kp; exact b_many_of T; exact (wok_takes (takes_of rfl rfl rfl rfl)); exact (ad_cons (pd_var 0) ad_nil)) ad_nil)) (blkOk_by (own := [("index", 1)]) (N := N_subscripts) (sc := defScope s_subscripts) (by decide +kernel)) (fun _ _ _ _ _ => (gd_name (i := 1) sc_subscripts.nd rfl (Or.inl rfl) (by decide))) (fun _ _ _ _ _ => td_nil) (fun _ _ _ _ _ => (by refine pd_call (k := 1) (f := T.a_subscript_of) (fd := T.d_subscript_of) (ps := P_subscript_of) (F := F_subscript_of) ?_ ?_ ?_ ?_ ?_ ?_ ?_ ?_; exact d_subscript_of T; exact hr.mono (by decide); exact rfl; exact T.g_subscript_of; exact T.F_subscript_of.kp; exact b_subscript_of T; exact wok0; exact (ad_cons (pd_var 0) (ad_cons (pd_var 1) ad_nil)))))))))
def B_lies_between : DS := (sSeq (sIf (tTr (eCB fIsi (aCons (eVar 0) (aCons (eC (.ty "tuple")) aNil)))) (sAsg 3 (eL (aLst (aCons (eBin fIx (eVar 0) (eC (.int 0))) (aCons (eCall 1 F_last_of (aCons (eVar 0) aNil)) aNil))))) (sAsg 3 (eCall 1 F_subscripts (aCons (eVar 0) aNil)))) (sRet (eCB fAll (aCons (eL (aLc (iSeq (eVar 3)) (gN 4) tYesD (eChain fLe fLe (eVar 1) (eVar 4) (eVar 2)) [4])) aNil))))
def F_lies_between : DF := runB 5 3 B_lies_between
theorem d_lies_between (T : Txt K mg) : FnD P w K mg base 3 T.a_lies_between T.d_lies_between P_lies_between F_lies_between := fnD T.F_lies_between sc_lies_between (by decide) B_lies_between (fun cdv A outer s H E hr => (sd_cons (sd_if (qd_tr (pd_cb call_isiA cd_isi (by rfl) T.z_isinstance (by decide +kernel) (ad_cons (pd_var 0) (ad_cons (pd_ty (by rfl) T.z_tuple (by decide +kernel)) ad_nil)))) (sd_one (sd_asg (ps_set (i := 3) sc_lies_between.nd rfl (Or.inl rfl) (pd_L (pl_lst (ad_cons (pd_ix (pd_var 0) pd_int) (ad_cons (by refine pd_call (k := 2) (f := T.a_last_of) (fd := T.d_last_of) (ps := P_last_of) (F := F_last_of) ?_ ?_ ?_ ?_ ?_ ?_ ?_ ?_; exact d_last_of T; exact hr.mono (by decide); exact rfl; exact T.g_last_of; exact T.F_last_of.kp; exact b_last_of T; exact (wok_takes (takes_of rfl rfl rfl rfl)); exact (ad_cons (pd_var 0) ad_nil)) ad_nil))))))) (sd_one (sd_asg (ps_set (i := 3) sc_lies_between.nd rfl (Or.inl rfl) (by refine pd_call (k := 2) (f := T.a_subscripts) (fd := T.d_subscripts) (ps := P_subscripts) (F := F_subscripts) ?_ ?_ ?_ ?_ ?_ ?_ ?_ ?_; exact d_subscripts T; exact hr.mono (by decide); exact rfl; exact T.g_subscripts; exact T.F_subscripts.kp; exact b_subscripts T; exact (wok_takes (takes_of rfl rfl rfl rfl)); exact (ad_cons (pd_var 0) ad_nil)))))) (sd_one (sd_ret (pd_cb (cr_all rfl) cd_all (by rfl) T.z_all (by decide +kernel) (ad_cons (pd_L (pl_lc (own := [("number", 4)]) rfl sc_lies_between.nd (id_seq (pd_var 3)) (blkOk_by (own := [("number", 4)]) (N := N_lies_between) (sc := defScope s_lies_between) (by decide +kernel)) (fun _ _ _ _ _ => (gd_name (i := 4) sc_lies_between.nd rfl (Or.inl rfl) (by decide))) (fun _ _ _ _ _ => td_nil) (fun _ _ _ _ _ => (pd_chain op_le op_le opd_cmp opd_cmp (pd_var 1) (pd_var 4) (pd_var 2))))) ad_nil))))))
def B_is_range : DS := (sSeq (sIf (tOn (tNo (tTr (eCB fIsi (aCons (eVar 0) (aCons (eC (.ty "tuple")) aNil))))) (tE (eBin fNe (eCB fLen (aCons (eVar 0) aNil)) (eC (.int 2))))) (sRet (eC (.bl false))) sNx) (sRet (eCB fAll (aCons (eL (aLc (iSeq (eVar 0)) (gN 1) tYesD (eAnd (eCall 1 F_is_number (aCons (eVar 1) aNil)) (eChain fLe fLe (eUn fNeg (eC (.int 500000000000000000000000000000))) (eVar 1) (eC (.int 500000000000000000000000000000)))) [1])) aNil))))
def F_is_range : DF := runB 2 1 B_is_range
theorem d_is_range (T : Txt K mg) : FnD P w K mg base 2 T.a_is_range T.d_is_range P_is_range F_is_range := fnD T.F_is_range sc_is_range (by decide) B_is_range (fun cdv A outer s H E hr => (sd_cons (sd_if (qd_or (qd_not (qd_tr (pd_cb call_isiA cd_isi (by rfl) T.z_isinstance (by decide +kernel) (ad_cons (pd_var 0) (ad_cons (pd_ty (by rfl) T.z_tuple (by decide +kernel)) ad_nil))))) (qd_or1 (qd_ne hr.units (pd_cb call_len cd_len (by rfl) T.z_len (by decide +kernel) (ad_cons (pd_var 0) ad_nil)) pd_int))).pt (sd_one (sd_ret pd_bl)) sd_nil) (sd_one (sd_ret (pd_cb (cr_all rfl) cd_all (by rfl) T.z_all (by decide +kernel) (ad_cons (pd_L (pl_lc (own := [("number", 1)]) rfl sc_is_range.nd (id_seq (pd_var 0)) (blkOk_by (own := [("number", 1)]) (N := N_is_range) (sc := defScope s_is_range) (by decide +kernel)) (fun _ _ _ _ _ => (gd_name (i := 1) sc_is_range.nd rfl (Or.inl rfl) (by decide))) (fun _ _ _ _ _ => td_nil) (fun _ _ _ _ _ => (pd_and (by refine pd_call (k := 1) (f := T.a_is_number) (fd := T.d_is_number) (ps := P_is_number) (F := F_is_number) ?_ ?_ ?_ ?_ ?_ ?_ ?_ ?_; exact d_is_number T; exact hr.mono (by decide); exact rfl; exact T.g_is_number; exact T.F_is_number.kp; exact b_is_number T; exact wok0; exact (ad_cons (pd_var 1) ad_nil)) (pd_one (pd_chain op_le op_le opd_cmp opd_cmp (pd_neg (pd_globI (by rfl) T.c_FARTHEST)) (pd_var 1) (pd_globI (by rfl) T.c_FARTHEST))))))) ad_nil))))))
def B_is_bounds : DS := (sSeq (sIf (tOn (tNo (tTr (eCB fIsi (aCons (eVar 0) (aCons (eC (.ty "tuple")) aNil))))) (tNo (tE (eChain fLe fLe (eC (.int 1)) (eCB fLen (aCons (eVar 0) aNil)) (eC (.int 7)))))) (sRet (eC (.bl false))) sNx) (sRet (eCB fAll (aCons (eL (aLc (iSeq (eVar 0)) (gN 1) tYesD (eCall 1 F_is_range (aCons (eVar 1) aNil)) [1])) aNil))))
def F_is_bounds : DF := runB 2 1 B_is_bounds
theorem d_is_bounds (T : Txt K mg) : FnD P w K mg base 3 T.a_is_bounds T.d_is_bounds P_is_bounds F_is_bounds := fnD T.F_is_bounds sc_is_bounds (by decide) B_is_bounds (fun cdv A outer s H E hr => (sd_cons (sd_if (qd_or (qd_not (qd_tr (pd_cb call_isiA cd_isi (by rfl) T.z_isinstance (by decide +kernel) (ad_cons (pd_var 0) (ad_cons (pd_ty (by rfl) T.z_tuple (by decide +kernel)) ad_nil))))) (qd_or1 (qd_not (qd_chain op_le op_le opd_cmp opd_cmp pd_int (pd_cb call_len cd_len (by rfl) T.z_len (by decide +kernel) (ad_cons (pd_var 0) ad_nil)) (pd_globI (by rfl) T.c_DIMENSIONS))))).pt (sd_one (sd_ret pd_bl)) sd_nil) (sd_one (sd_ret (pd_cb (cr_all rfl) cd_all (by rfl) T.z_all (by decide +kernel) (ad_cons (pd_L (pl_lc (own := [("pair", 1)]) rfl sc_is_bounds.nd (id_seq (pd_var 0)) (blkOk_by (own := [("pair", 1)]) (N := N_is_bounds) (sc := defScope s_is_bounds) (by decide +kernel)) (fun _ _ _ _ _ => (gd_name (i := 1) sc_is_bounds.nd rfl (Or.inl rfl) (by decide))) (fun _ _ _ _ _ => td_nil) (fun _ _ _ _ _ => (by refine pd_call (k := 2) (f := T.a_is_range) (fd := T.d_is_range) (ps := P_is_range) (F := F_is_range) ?_ ?_ ?_ ?_ ?_ ?_ ?_ ?_; exact d_is_range T; exact hr.mono (by decide); exact rfl; exact T.g_is_range; exact T.F_is_range.kp; exact b_is_range T; exact wok0; exact (ad_cons (pd_var 1) ad_nil))))) ad_nil))))))
def B_all_extents : DS := (sRet (eL (aLc (iSeq (eVar 0)) (gT (gCons' (gN 1) (gCons' (gN 2) gNil')) 2) tYesD (eCB fMax2 (aCons (eC (.int 0)) (aCons (eBin fAdd (eBin fSub (eVar 2) (eVar 1)) (eC (.int 1))) aNil))) [1, 2])))
def F_all_extents : DF := runB 3 1 B_all_extents
theorem d_all_extents (T : Txt K mg) : FnD P w K mg base 1 T.a_all_extents T.d_all_extents P_all_extents F_all_extents := fnD T.F_all_extents sc_all_extents (by decide) B_all_extents (fun cdv A outer s H E hr => (sd_one (sd_ret (pd_L (pl_lc (own := [("low", 1), ("high", 2)]) rfl sc_all_extents.nd (id_seq (pd_var 0)) (blkOk_by (own := [("low", 1), ("high", 2)]) (N := N_all_extents) (sc := defScope s_all_extents) (by decide +kernel)) (fun _ _ _ _ _ => (gd_tup rfl (gd_cons (gd_name (i := 1) sc_all_extents.nd rfl (Or.inl rfl) (by decide)) (gd_cons (gd_name (i := 2) sc_all_extents.nd rfl (Or.inl rfl) (by decide)) gd_nil)))) (fun _ _ _ _ _ => td_nil) (fun _ _ _ _ _ => (pd_cb (call_max2 rfl) cd_max2 (by rfl) T.z_max (by decide +kernel) (ad_cons pd_int (ad_cons (pd_add (pd_sub (pd_var 2) (pd_var 1)) pd_int) ad_nil)))))))))
def B_multiplied : DS := (sSeq (sAsg 1 (eC (.int 1))) (sSeq (sFor (iSeq (eVar 0)) (gN 2) (sAsg 1 (eBin fMul (eVar 1) (eVar 2)))) (sRet (eVar 1))))
def F_multiplied : DF := runB 3 1 B_multiplied
theorem d_multiplied (T : Txt K mg) : FnD P w K mg base 1 T.a_multiplied T.d_multiplied P_multiplied F_multiplied := fnD T.F_multiplied sc_multiplied (by decide) B_multiplied (fun cdv A outer s H E hr => (sd_cons (sd_asg (ps_set (i := 1) sc_multiplied.nd rfl (Or.inl rfl) pd_int)) (sd_cons (sd_for (vs := [2]) (passes_of rfl) rfl (id_seq (pd_var 0)) (gd_name (i := 2) sc_multiplied.nd rfl (Or.inl rfl) (by decide)) (sd_one (sd_asg (ps_set (i := 1) sc_multiplied.nd rfl (Or.inl rfl) (pd_mul (pd_var 1) (pd_var 2)))))) (sd_one (sd_ret (pd_var 1))))))
def B_size_of : DS := (sRet (eCall 1 F_multiplied (aCons (eCall 1 F_all_extents (aCons (eVar 0) aNil)) aNil)))
def F_size_of : DF := runB 1 1 B_size_of
theorem d_size_of (T : Txt K mg) : FnD P w K mg base 2 T.a_size_of T.d_size_of P_size_of F_size_of := fnD T.F_size_of sc_size_of (by decide) B_size_of (fun cdv A outer s H E hr => (sd_one (sd_ret (by refine pd_call (k := 1) (f := T.a_multiplied) (fd := T.d_multiplied) (ps := P_multiplied) (F := F_multiplied) ?_ ?_ ?_ ?_ ?_ ?_ ?_ ?_; exact d_multiplied T; exact hr.mono (by decide); exact rfl; exact T.g_multiplied; exact T.F_multiplied.kp; exact b_multiplied T; exact (wok_takes (takes_of rfl rfl rfl rfl)); exact (ad_cons (by refine pd_call (k := 1) (f := T.a_all_extents) (fd := T.d_all_extents) (ps := P_all_extents) (F := F_all_extents) ?_ ?_ ?_ ?_ ?_ ?_ ?_ ?_; exact d_all_extents T; exact hr.mono (by decide); exact rfl; exact T.g_all_extents; exact T.F_all_extents.kp; exact b_all_extents T; exact (wok_takes (takes_of rfl rfl rfl rfl)); exact (ad_cons (pd_var 0) ad_nil)) ad_nil)))))
def B_weights : DS := (sSeq (sNew 1 (aLst aNil)) (sSeq (sAsg 2 (eC (.int 1))) (sSeq (sFor (iSeq (eCall 1 F_all_extents (aCons (eVar 0) aNil))) (gN 3) (sSeq (sApp 1 (eVar 2)) (sAsg 2 (eBin fMul (eVar 2) (eVar 3))))) (sFrz 1 (sRet (eVar 1))))))
def F_weights : DF := runB 4 1 B_weights
theorem d_weights (T : Txt K mg) : FnD P w K mg base 2 T.a_weights T.d_weights P_weights F_weights := fnD T.F_weights sc_weights (by decide) B_weights (fun cdv A outer s H E hr => (sd_cons (sd_new (ps_set (i := 1) sc_weights.nd rfl (Or.inl rfl) (pl_lst ad_nil))) (sd_cons (sd_asg (ps_set (i := 2) sc_weights.nd rfl (Or.inl rfl) pd_int)) (sd_cons (sd_for (vs := [3]) (passes_of rfl) rfl (id_seq (by refine pd_call (k := 1) (f := T.a_all_extents) (fd := T.d_all_extents) (ps := P_all_extents) (F := F_all_extents) ?_ ?_ ?_ ?_ ?_ ?_ ?_ ?_; exact d_all_extents T; exact hr.mono (by decide); exact rfl; exact T.g_all_extents; exact T.F_all_extents.kp; exact b_all_extents T; exact (wok_takes (takes_of rfl rfl rfl rfl)); exact (ad_cons (pd_var 0) ad_nil))) (gd_name (i := 3) sc_weights.nd rfl (Or.inl rfl) (by decide)) (sd_cons (sd_app (ps_expr (pe_bm PySem.F.plainAttrs_list PySem.F.slot_list_append PySem.F.type_list_append mt_append (pv 1) (pa_cons (pd_var 2) pa_nil)))) (sd_one (sd_asg (ps_set (i := 2) sc_weights.nd rfl (Or.inl rfl) (pd_mul (pd_var 2) (pd_var 3))))))) (sd_frz 1 (sd_one (sd_ret (pd_var 1))))))))
def B_is_element : DS := (sSeq (sIf (tOn (tNo (tTr (eCB fIsi (aCons (eVar 1) (aCons (eC (.ty "tuple")) aNil))))) (tE (eBin fNe (eCB fLen (aCons (eVar 1) aNil)) (eCB fLen (aCons (eVar 0) aNil))))) (sRet (eC (.bl false))) sNx) (sRet (eCB fAll (aCons (eL (aLc (iZip (aCons (eVar 1) (aCons (eVar 0) aNil))) (gT (gCons' (gN 2) (gCons' (gT (gCons' (gN 3) (gCons' (gN 4) gNil')) 2) gNil')) 2) tYesD (eAnd (eCall 1 F_is_number (aCons (eVar 2) aNil)) (eChain fLe fLe (eVar 3) (eVar 2) (eVar 4))) [2, 3, 4])) aNil))))
def F_is_element : DF := runB 5 2 B_is_element
theorem d_is_element (T : Txt K mg) : FnD P w K mg base 2 T.a_is_element T.d_is_element P_is_element F_is_element := fnD T.F_is_element sc_is_element (by decide) B_is_element (fun cdv A outer s H E hr => (sd_cons (sd_if (qd_or (qd_not (qd_tr (pd_cb call_isiA cd_isi (by rfl) T.z_isinstance (by decide +kernel) (ad_cons (pd_var 1) (ad_cons (pd_ty (by rfl) T.z_tuple (by decide +kernel)) ad_nil))))) (qd_or1 (qd_ne hr.units (pd_cb call_len cd_len (by rfl) T.z_len (by decide +kernel) (ad_cons (pd_var 1) ad_nil)) (pd_cb call_len cd_len (by rfl) T.z_len (by decide +kernel) (ad_cons (pd_var 0) ad_nil))))).pt (sd_one (sd_ret pd_bl)) sd_nil) (sd_one (sd_ret (pd_cb (cr_all rfl) cd_all (by rfl) T.z_all (by decide +kernel) (ad_cons (pd_L (pl_lc (own := [("number", 2), ("low", 3), ("high", 4)]) rfl sc_is_element.nd (id_zip2 (by rfl) T.z_zip (ad_cons (pd_var 1) (ad_cons (pd_var 0) ad_nil)) (aCons_len (aCons_len (fun _ _ _ _ h => aNil_len h)))) (blkOk_by (own := [("number", 2), ("low", 3), ("high", 4)]) (N := N_is_element) (sc := defScope s_is_element) (by decide +kernel)) (fun _ _ _ _ _ => (gd_tup rfl (gd_cons (gd_name (i := 2) sc_is_element.nd rfl (Or.inl rfl) (by decide)) (gd_cons (gd_tup rfl (gd_cons (gd_name (i := 3) sc_is_element.nd rfl (Or.inl rfl) (by decide)) (gd_cons (gd_name (i := 4) sc_is_element.nd rfl (Or.inl rfl) (by decide)) gd_nil))) gd_nil)))) (fun _ _ _ _ _ => td_nil) (fun _ _ _ _ _ => (pd_and (by refine pd_call (k := 1) (f := T.a_is_number) (fd := T.d_is_number) (ps := P_is_number) (F := F_is_number) ?_ ?_ ?_ ?_ ?_ ?_ ?_ ?_; exact d_is_number T; exact hr.mono (by decide); exact rfl; exact T.g_is_number; exact T.F_is_number.kp; exact b_is_number T; exact wok0; exact (ad_cons (pd_var 2) ad_nil)) (pd_one (pd_chain op_le op_le opd_cmp opd_cmp (pd_var 3) (pd_var 2) (pd_var 4))))))) ad_nil))))))
def B_place_there : DS := (sRet (eCB fSum (aCons (eL (aLc (iZip (aCons (eVar 1) (aCons (eVar 0) (aCons (eCall 1 F_weights (aCons (eVar 0) aNil)) aNil)))) (gT (gCons' (gN 2) (gCons' (gT (gCons' (gN 4) (gCons' (gN 5) gNil')) 2) (gCons' (gN 3) gNil'))) 3) tYesD (eBin fMul (eBin fSub (eVar 2) (eVar 4)) (eVar 3)) [2, 3, 4, 5])) aNil)))
def F_place_there : DF := runB 6 2 B_place_there
theorem d_place_there (T : Txt K mg) : FnD P w K mg base 3 T.a_place_there T.d_place_there P_place_there F_place_there := fnD T.F_place_there sc_place_there (by decide) B_place_there (fun cdv A outer s H E hr => (sd_one (sd_ret (pd_cb (cr_sum rfl) cd_sum (by rfl) T.z_sum (by decide +kernel) (ad_cons (pd_L (pl_lc (own := [("number", 2), ("weight", 3), ("low", 4), ("_", 5)]) rfl sc_place_there.nd (id_zip3 (by rfl) T.z_zip (ad_cons (pd_var 1) (ad_cons (pd_var 0) (ad_cons (by refine pd_call (k := 2) (f := T.a_weights) (fd := T.d_weights) (ps := P_weights) (F := F_weights) ?_ ?_ ?_ ?_ ?_ ?_ ?_ ?_; exact d_weights T; exact hr.mono (by decide); exact rfl; exact T.g_weights; exact T.F_weights.kp; exact b_weights T; exact (wok_takes (takes_of rfl rfl rfl rfl)); exact (ad_cons (pd_var 0) ad_nil)) ad_nil))) (aCons_len (aCons_len (aCons_len (fun _ _ _ _ h => aNil_len h))))) (blkOk_by (own := [("number", 2), ("weight", 3), ("low", 4), ("_", 5)]) (N := N_place_there) (sc := defScope s_place_there) (by decide +kernel)) (fun _ _ _ _ _ => (gd_tup rfl (gd_cons (gd_name (i := 2) sc_place_there.nd rfl (Or.inl rfl) (by decide)) (gd_cons (gd_tup rfl (gd_cons (gd_name (i := 4) sc_place_there.nd rfl (Or.inl rfl) (by decide)) (gd_cons (gd_name (i := 5) sc_place_there.nd rfl (Or.inl rfl) (by decide)) gd_nil))) (gd_cons (gd_name (i := 3) sc_place_there.nd rfl (Or.inl rfl) (by decide)) gd_nil))))) (fun _ _ _ _ _ => td_nil) (fun _ _ _ _ _ => (pd_mul (pd_sub (pd_var 2) (pd_var 4)) (pd_var 3))))) ad_nil)))))
def B_element_there : DS := (sSeq (sNew 2 (aLst aNil)) (sSeq (sAsg 3 (eVar 1)) (sSeq (sFor (iZip (aCons (eVar 0) (aCons (eCall 1 F_all_extents (aCons (eVar 0) aNil)) aNil))) (gT (gCons' (gT (gCons' (gN 4) (gCons' (gN 5) gNil')) 2) (gCons' (gN 6) gNil')) 2) (sSeq (sApp 2 (eBin fAdd (eVar 4) (eBin fMod (eVar 3) (eVar 6)))) (sAsg 3 (eBin fDiv (eVar 3) (eVar 6))))) (sFrz 2 (sRet (eCB fTuple (aCons (eVar 2) aNil)))))))
def F_element_there : DF := runB 7 2 B_element_there
theorem d_element_there (T : Txt K mg) : FnD P w K mg base 2 T.a_element_there T.d_element_there P_element_there F_element_there := fnD T.F_element_there sc_element_there (by decide) B_element_there (fun cdv A outer s H E hr => (sd_cons (sd_new (ps_set (i := 2) sc_element_there.nd rfl (Or.inl rfl) (pl_lst ad_nil))) (sd_cons (sd_asg (ps_set (i := 3) sc_element_there.nd rfl (Or.inl rfl) (pd_var 1))) (sd_cons (sd_for (vs := [6, 4, 5]) (passes_of rfl) rfl (id_zip2 (by rfl) T.z_zip (ad_cons (pd_var 0) (ad_cons (by refine pd_call (k := 1) (f := T.a_all_extents) (fd := T.d_all_extents) (ps := P_all_extents) (F := F_all_extents) ?_ ?_ ?_ ?_ ?_ ?_ ?_ ?_; exact d_all_extents T; exact hr.mono (by decide); exact rfl; exact T.g_all_extents; exact T.F_all_extents.kp; exact b_all_extents T; exact (wok_takes (takes_of rfl rfl rfl rfl)); exact (ad_cons (pd_var 0) ad_nil)) ad_nil)) (aCons_len (aCons_len (fun _ _ _ _ h => aNil_len h)))) (gd_tup rfl (gd_cons (gd_tup rfl (gd_cons (gd_name (i := 4) sc_element_there.nd rfl (Or.inl rfl) (by decide)) (gd_cons (gd_name (i := 5) sc_element_there.nd rfl (Or.inl rfl) (by decide)) gd_nil))) (gd_cons (gd_name (i := 6) sc_element_there.nd rfl (Or.inl rfl) (by decide)) gd_nil))) (sd_cons (sd_app (ps_expr (pe_bm PySem.F.plainAttrs_list PySem.F.slot_list_append PySem.F.type_list_append mt_append (pv 2) (pa_cons (pd_add (pd_var 4) (pd_mod (pd_var 3) (pd_var 6))) pa_nil)))) (sd_one (sd_asg (ps_set (i := 3) sc_element_there.nd rfl (Or.inl rfl) (pd_div (pd_var 3) (pd_var 6))))))) (sd_frz 2 (sd_one (sd_ret (pd_ct call_tuple_of cd_tuple (by rfl) T.z_tuple (by decide +kernel) (ad_cons (pd_var 2) ad_nil)))))))))
def B_many_in : DS := (sRet (eCall 1 F_multiplied (aCons (eL (aLc (iSeq (eVar 0)) (gN 1) tYesD (eCall 1 F_many_of (aCons (eVar 1) aNil)) [1])) aNil)))
def F_many_in : DF := runB 2 1 B_many_in
theorem d_many_in (T : Txt K mg) : FnD P w K mg base 2 T.a_many_in T.d_many_in P_many_in F_many_in := fnD T.F_many_in sc_many_in (by decide) B_many_in (fun cdv A outer s H E hr => (sd_one (sd_ret (by refine pd_call (k := 1) (f := T.a_multiplied) (fd := T.d_multiplied) (ps := P_multiplied) (F := F_multiplied) ?_ ?_ ?_ ?_ ?_ ?_ ?_ ?_; exact d_multiplied T; exact hr.mono (by decide); exact rfl; exact T.g_multiplied; exact T.F_multiplied.kp; exact b_multiplied T; exact (wok_takes (takes_of rfl rfl rfl rfl)); exact (ad_cons (pd_L (pl_lc (own := [("part", 1)]) rfl sc_many_in.nd (id_seq (pd_var 0)) (blkOk_by (own := [("part", 1)]) (N := N_many_in) (sc := defScope s_many_in) (by decide +kernel)) (fun _ _ _ _ _ => (gd_name (i := 1) sc_many_in.nd rfl (Or.inl rfl) (by decide))) (fun _ _ _ _ _ => td_nil) (fun _ _ _ _ _ => (by refine pd_call (k := 1) (f := T.a_many_of) (fd := T.d_many_of) (ps := P_many_of) (F := F_many_of) ?_ ?_ ?_ ?_ ?_ ?_ ?_ ?_; exact d_many_of T; exact hr.mono (by decide); exact rfl; exact T.g_many_of; exact T.F_many_of.kp; exact b_many_of T; exact wok0; exact (ad_cons (pd_var 1) ad_nil))))) ad_nil)))))
def B_is_section : DS := (sSeq (sIf (tOn (tNo (tTr (eCB fIsi (aCons (eVar 1) (aCons (eC (.ty "tuple")) aNil))))) (tE (eBin fNe (eCB fLen (aCons (eVar 1) aNil)) (eCB fLen (aCons (eVar 0) aNil))))) (sRet (eC (.bl false))) sNx) (sSeq (sIf (tNo (tTr (eCB fAll (aCons (eL (aLc (iSeq (eVar 1)) (gN 2) tYesD (eCall 1 F_is_part (aCons (eVar 2) aNil)) [2])) aNil)))) (sRet (eC (.bl false))) sNx) (sSeq (sIf (tE (eBin fEq (eCall 1 F_many_in (aCons (eVar 1) aNil)) (eC (.int 0)))) (sRet (eC (.bl true))) sNx) (sRet (eCB fAll (aCons (eL (aLc (iZip (aCons (eVar 1) (aCons (eVar 0) aNil))) (gT (gCons' (gN 2) (gCons' (gT (gCons' (gN 3) (gCons' (gN 4) gNil')) 2) gNil')) 2) tYesD (eCall 3 F_lies_between (aCons (eVar 2) (aCons (eVar 3) (aCons (eVar 4) aNil)))) [2, 3, 4])) aNil))))))
def F_is_section : DF := runB 5 2 B_is_section
theorem d_is_section (T : Txt K mg) : FnD P w K mg base 5 T.a_is_section T.d_is_section P_is_section F_is_section := fnD T.F_is_section sc_is_section (by decide) B_is_section (fun cdv A outer s H E hr => (sd_cons (sd_if (qd_or (qd_not (qd_tr (pd_cb call_isiA cd_isi (by rfl) T.z_isinstance (by decide +kernel) (ad_cons (pd_var 1) (ad_cons (pd_ty (by rfl) T.z_tuple (by decide +kernel)) ad_nil))))) (qd_or1 (qd_ne hr.units (pd_cb call_len cd_len (by rfl) T.z_len (by decide +kernel) (ad_cons (pd_var 1) ad_nil)) (pd_cb call_len cd_len (by rfl) T.z_len (by decide +kernel) (ad_cons (pd_var 0) ad_nil))))).pt (sd_one (sd_ret pd_bl)) sd_nil) (sd_cons (sd_if (qd_not (qd_tr (pd_cb (cr_all rfl) cd_all (by rfl) T.z_all (by decide +kernel) (ad_cons (pd_L (pl_lc (own := [("part", 2)]) rfl sc_is_section.nd (id_seq (pd_var 1)) (blkOk_by (own := [("part", 2)]) (N := N_is_section) (sc := defScope s_is_section) (by decide +kernel)) (fun _ _ _ _ _ => (gd_name (i := 2) sc_is_section.nd rfl (Or.inl rfl) (by decide))) (fun _ _ _ _ _ => td_nil) (fun _ _ _ _ _ => (by refine pd_call (k := 4) (f := T.a_is_part) (fd := T.d_is_part) (ps := P_is_part) (F := F_is_part) ?_ ?_ ?_ ?_ ?_ ?_ ?_ ?_; exact d_is_part T; exact hr.mono (by decide); exact rfl; exact T.g_is_part; exact T.F_is_part.kp; exact b_is_part T; exact wok0; exact (ad_cons (pd_var 2) ad_nil))))) ad_nil)))) (sd_one (sd_ret pd_bl)) sd_nil) (sd_cons (sd_if (qd_eq hr.units (by refine pd_call (k := 2) (f := T.a_many_in) (fd := T.d_many_in) (ps := P_many_in) (F := F_many_in) ?_ ?_ ?_ ?_ ?_ ?_ ?_ ?_; exact d_many_in T; exact hr.mono (by decide); exact rfl; exact T.g_many_in; exact T.F_many_in.kp; exact b_many_in T; exact (wok_takes (takes_of rfl rfl rfl rfl)); exact (ad_cons (pd_var 1) ad_nil)) pd_int) (sd_one (sd_ret pd_bl)) sd_nil) (sd_one (sd_ret (pd_cb (cr_all rfl) cd_all (by rfl) T.z_all (by decide +kernel) (ad_cons (pd_L (pl_lc (own := [("part", 2), ("low", 3), ("high", 4)]) rfl sc_is_section.nd (id_zip2 (by rfl) T.z_zip (ad_cons (pd_var 1) (ad_cons (pd_var 0) ad_nil)) (aCons_len (aCons_len (fun _ _ _ _ h => aNil_len h)))) (blkOk_by (own := [("part", 2), ("low", 3), ("high", 4)]) (N := N_is_section) (sc := defScope s_is_section) (by decide +kernel)) (fun _ _ _ _ _ => (gd_tup rfl (gd_cons (gd_name (i := 2) sc_is_section.nd rfl (Or.inl rfl) (by decide)) (gd_cons (gd_tup rfl (gd_cons (gd_name (i := 3) sc_is_section.nd rfl (Or.inl rfl) (by decide)) (gd_cons (gd_name (i := 4) sc_is_section.nd rfl (Or.inl rfl) (by decide)) gd_nil))) gd_nil)))) (fun _ _ _ _ _ => td_nil) (fun _ _ _ _ _ => (by refine pd_call (k := 3) (f := T.a_lies_between) (fd := T.d_lies_between) (ps := P_lies_between) (F := F_lies_between) ?_ ?_ ?_ ?_ ?_ ?_ ?_ ?_; exact d_lies_between T; exact hr.mono (by decide); exact rfl; exact T.g_lies_between; exact T.F_lies_between.kp; exact b_lies_between T; exact wok0; exact (ad_cons (pd_var 2) (ad_cons (pd_var 3) (ad_cons (pd_var 4) ad_nil))))))) ad_nil))))))))
def B_element_in : DS := (sSeq (sNew 2 (aLst aNil)) (sSeq (sAsg 3 (eVar 1)) (sSeq (sFor (iSeq (eVar 0)) (gN 4) (sSeq (sAsg 5 (eCall 1 F_many_of (aCons (eVar 4) aNil))) (sSeq (sApp 2 (eCall 2 F_subscript_of (aCons (eVar 4) (aCons (eBin fMod (eVar 3) (eVar 5)) aNil)))) (sAsg 3 (eBin fDiv (eVar 3) (eVar 5)))))) (sFrz 2 (sRet (eCB fTuple (aCons (eVar 2) aNil)))))))
def F_element_in : DF := runB 6 2 B_element_in
theorem d_element_in (T : Txt K mg) : FnD P w K mg base 2 T.a_element_in T.d_element_in P_element_in F_element_in := fnD T.F_element_in sc_element_in (by decide) B_element_in (fun cdv A outer s H E hr => (sd_cons (sd_new (ps_set (i := 2) sc_element_in.nd rfl (Or.inl rfl) (pl_lst ad_nil))) (sd_cons (sd_asg (ps_set (i := 3) sc_element_in.nd rfl (Or.inl rfl) (pd_var 1))) (sd_cons (sd_for (vs := [4]) (passes_of rfl) rfl (id_seq (pd_var 0)) (gd_name (i := 4) sc_element_in.nd rfl (Or.inl rfl) (by decide)) (sd_cons (sd_asg (ps_set (i := 5) sc_element_in.nd rfl (Or.inl rfl) (by refine pd_call (k := 1) (f := T.a_many_of) (fd := T.d_many_of) (ps := P_many_of) (F := F_many_of) ?_ ?_ ?_ ?_ ?_ ?_ ?_ ?_; exact d_many_of T; exact hr.mono (by decide); exact rfl; exact T.g_many_of; exact T.F_many_of.kp; exact b_many_of T; exact (wok_takes (takes_of rfl rfl rfl rfl)); exact (ad_cons (pd_var 4) ad_nil)))) (sd_cons (sd_app (ps_expr (pe_bm PySem.F.plainAttrs_list PySem.F.slot_list_append PySem.F.type_list_append mt_append (pv 2) (pa_cons (by refine pd_call (k := 1) (f := T.a_subscript_of) (fd := T.d_subscript_of) (ps := P_subscript_of) (F := F_subscript_of) ?_ ?_ ?_ ?_ ?_ ?_ ?_ ?_; exact d_subscript_of T; exact hr.mono (by decide); exact rfl; exact T.g_subscript_of; exact T.F_subscript_of.kp; exact b_subscript_of T; exact (wok_takes (takes_of rfl rfl rfl rfl)); exact (ad_cons (pd_var 4) (ad_cons (pd_mod (pd_var 3) (pd_var 5)) ad_nil))) pa_nil)))) (sd_one (sd_asg (ps_set (i := 3) sc_element_in.nd rfl (Or.inl rfl) (pd_div (pd_var 3) (pd_var 5)))))))) (sd_frz 2 (sd_one (sd_ret (pd_ct call_tuple_of cd_tuple (by rfl) T.z_tuple (by decide +kernel) (ad_cons (pd_var 2) ad_nil)))))))))
def B_joints : DS := (sSeq (sIf (tTr (eCB fIsi (aCons (eVar 0) (aCons (eC (.ty "tuple")) aNil)))) (sSeq (sIf (tE (eBin fEq (eBin fAdd (eVar 2) (eBin fMul (eBin fIx (eVar 0) (eC (.int 2))) (eVar 1))) (eC (.int 1)))) (sRet (eBin fSub (eCall 1 F_many_of (aCons (eVar 0) aNil)) (eC (.int 1)))) sNx) (sRet (eC (.int 0)))) sNx) (sSeq (sAsg 3 (eCall 1 F_subscripts (aCons (eVar 0) aNil))) (sRet (eCB fLen (aCons (eL (aLc (iRng2 (aCons (eC (.int 1)) (aCons (eCB fLen (aCons (eVar 3) aNil)) aNil))) (gN 4) (tE (eBin fEq (eBin fAdd (eVar 2) (eBin fMul (eBin fSub (eBin fIx (eVar 3) (eVar 4)) (eBin fIx (eVar 3) (eBin fSub (eVar 4) (eC (.int 1))))) (eVar 1))) (eC (.int 1)))) (eVar 4) [4])) aNil)))))
def F_joints : DF := runB 5 3 B_joints
theorem d_joints (T : Txt K mg) : FnD P w K mg base 3 T.a_joints T.d_joints P_joints F_joints := fnD T.F_joints sc_joints (by decide) B_joints (fun cdv A outer s H E hr => (sd_cons (sd_if (qd_tr (pd_cb call_isiA cd_isi (by rfl) T.z_isinstance (by decide +kernel) (ad_cons (pd_var 0) (ad_cons (pd_ty (by rfl) T.z_tuple (by decide +kernel)) ad_nil)))) (sd_cons (sd_if (qd_eq hr.units (pd_add (pd_var 2) (pd_mul (pd_ix (pd_var 0) pd_int) (pd_var 1))) pd_int) (sd_one (sd_ret (pd_sub (by refine pd_call (k := 1) (f := T.a_many_of) (fd := T.d_many_of) (ps := P_many_of) (F := F_many_of) ?_ ?_ ?_ ?_ ?_ ?_ ?_ ?_; exact d_many_of T; exact hr.mono (by decide); exact rfl; exact T.g_many_of; exact T.F_many_of.kp; exact b_many_of T; exact (wok_takes (takes_of rfl rfl rfl rfl)); exact (ad_cons (pd_var 0) ad_nil)) pd_int))) sd_nil) (sd_one (sd_ret pd_int))) sd_nil) (sd_cons (sd_asg (ps_set (i := 3) sc_joints.nd rfl (Or.inr rfl) (by refine pd_call (k := 2) (f := T.a_subscripts) (fd := T.d_subscripts) (ps := P_subscripts) (F := F_subscripts) ?_ ?_ ?_ ?_ ?_ ?_ ?_ ?_; exact d_subscripts T; exact hr.mono (by decide); exact rfl; exact T.g_subscripts; exact T.F_subscripts.kp; exact b_subscripts T; exact (wok_takes (takes_of rfl rfl rfl rfl)); exact (ad_cons (pd_var 0) ad_nil)))) (sd_one (sd_ret (pd_cb call_len cd_len (by rfl) T.z_len (by decide +kernel) (ad_cons (pd_L (pl_lc (own := [("index", 4)]) rfl sc_joints.nd (id_rng2 (by rfl) T.z_range (ad_cons pd_int (ad_cons (pd_cb call_len cd_len (by rfl) T.z_len (by decide +kernel) (ad_cons (pd_var 3) ad_nil)) ad_nil))) (blkOk_by (own := [("index", 4)]) (N := N_joints) (sc := defScope s_joints) (by decide +kernel)) (fun _ _ _ _ _ => (gd_name (i := 4) sc_joints.nd rfl (Or.inl rfl) (by decide))) (fun _ _ _ _ _ => (td_one (qd_eq hr.units (pd_add (pd_var 2) (pd_mul (pd_sub (pd_ix (pd_var 3) (pd_var 4)) (pd_ix (pd_var 3) (pd_sub (pd_var 4) pd_int))) (pd_var 1))) pd_int))) (fun _ _ _ _ _ => (pd_var 4)))) ad_nil)))))))
def B_stretches_of : DS := (sSeq (sAsg 2 (eCall 1 F_many_in (aCons (eVar 1) aNil))) (sSeq (sIf (tE (eBin fEq (eVar 2) (eC (.int 0)))) (sRet (eC (.int 0))) sNx) (sSeq (sAsg 3 (eC (.int 0))) (sSeq (sAsg 4 (eVar 2)) (sSeq (sAsg 5 (eC (.int 0))) (sSeq (sFor (iZip (aCons (eVar 1) (aCons (eCall 1 F_weights (aCons (eVar 0) aNil)) aNil))) (gT (gCons' (gN 6) (gCons' (gN 7) gNil')) 2) (sSeq (sAsg 4 (eBin fDiv (eVar 4) (eCall 1 F_many_of (aCons (eVar 6) aNil)))) (sSeq (sAsg 3 (eBin fAdd (eVar 3) (eBin fMul (eVar 4) (eCall 3 F_joints (aCons (eVar 6) (aCons (eVar 7) (aCons (eVar 5) aNil))))))) (sAsg 5 (eBin fAdd (eVar 5) (eBin fMul (eBin fSub (eCall 2 F_subscript_of (aCons (eVar 6) (aCons (eC (.int 0)) aNil))) (eCall 1 F_last_of (aCons (eVar 6) aNil))) (eVar 7))))))) (sRet (eBin fSub (eVar 2) (eVar 3)))))))))
def F_stretches_of : DF := runB 8 2 B_stretches_of
theorem d_stretches_of (T : Txt K mg) : FnD P w K mg base 4 T.a_stretches_of T.d_stretches_of P_stretches_of F_stretches_of := fnD T.F_stretches_of sc_stretches_of (by decide) B_stretches_of (fun cdv A outer s H E hr => (sd_cons (sd_asg (ps_set (i := 2) sc_stretches_of.nd rfl (Or.inl rfl) (by refine pd_call (k := 2) (f := T.a_many_in) (fd := T.d_many_in) (ps := P_many_in) (F := F_many_in) ?_ ?_ ?_ ?_ ?_ ?_ ?_ ?_; exact d_many_in T; exact hr.mono (by decide); exact rfl; exact T.g_many_in; exact T.F_many_in.kp; exact b_many_in T; exact (wok_takes (takes_of rfl rfl rfl rfl)); exact (ad_cons (pd_var 1) ad_nil)))) (sd_cons (sd_if (qd_eq hr.units (pd_var 2) pd_int) (sd_one (sd_ret pd_int)) sd_nil) (sd_cons (sd_asg (ps_set (i := 3) sc_stretches_of.nd rfl (Or.inl rfl) pd_int)) (sd_cons (sd_asg (ps_set (i := 4) sc_stretches_of.nd rfl (Or.inl rfl) (pd_var 2))) (sd_cons (sd_asg (ps_set (i := 5) sc_stretches_of.nd rfl (Or.inl rfl) pd_int)) (sd_cons (sd_for (vs := [6, 7]) (passes_of rfl) rfl (id_zip2 (by rfl) T.z_zip (ad_cons (pd_var 1) (ad_cons (by refine pd_call (k := 2) (f := T.a_weights) (fd := T.d_weights) (ps := P_weights) (F := F_weights) ?_ ?_ ?_ ?_ ?_ ?_ ?_ ?_; exact d_weights T; exact hr.mono (by decide); exact rfl; exact T.g_weights; exact T.F_weights.kp; exact b_weights T; exact (wok_takes (takes_of rfl rfl rfl rfl)); exact (ad_cons (pd_var 0) ad_nil)) ad_nil)) (aCons_len (aCons_len (fun _ _ _ _ h => aNil_len h)))) (gd_tup rfl (gd_cons (gd_name (i := 6) sc_stretches_of.nd rfl (Or.inl rfl) (by decide)) (gd_cons (gd_name (i := 7) sc_stretches_of.nd rfl (Or.inl rfl) (by decide)) gd_nil))) (sd_cons (sd_asg (ps_set (i := 4) sc_stretches_of.nd rfl (Or.inl rfl) (pd_div (pd_var 4) (by refine pd_call (k := 1) (f := T.a_many_of) (fd := T.d_many_of) (ps := P_many_of) (F := F_many_of) ?_ ?_ ?_ ?_ ?_ ?_ ?_ ?_; exact d_many_of T; exact hr.mono (by decide); exact rfl; exact T.g_many_of; exact T.F_many_of.kp; exact b_many_of T; exact (wok_takes (takes_of rfl rfl rfl rfl)); exact (ad_cons (pd_var 6) ad_nil))))) (sd_cons (sd_asg (ps_set (i := 3) sc_stretches_of.nd rfl (Or.inl rfl) (pd_add (pd_var 3) (pd_mul (pd_var 4) (by refine pd_call (k := 3) (f := T.a_joints) (fd := T.d_joints) (ps := P_joints) (F := F_joints) ?_ ?_ ?_ ?_ ?_ ?_ ?_ ?_; exact d_joints T; exact hr.mono (by decide); exact rfl; exact T.g_joints; exact T.F_joints.kp; exact b_joints T; exact (wok_takes (takes_of rfl rfl rfl rfl)); exact (ad_cons (pd_var 6) (ad_cons (pd_var 7) (ad_cons (pd_var 5) ad_nil)))))))) (sd_one (sd_asg (ps_set (i := 5) sc_stretches_of.nd rfl (Or.inl rfl) (pd_add (pd_var 5) (pd_mul (pd_sub (by refine pd_call (k := 1) (f := T.a_subscript_of) (fd := T.d_subscript_of) (ps := P_subscript_of) (F := F_subscript_of) ?_ ?_ ?_ ?_ ?_ ?_ ?_ ?_; exact d_subscript_of T; exact hr.mono (by decide); exact rfl; exact T.g_subscript_of; exact T.F_subscript_of.kp; exact b_subscript_of T; exact (wok_takes (takes_of rfl rfl rfl rfl)); exact (ad_cons (pd_var 6) (ad_cons pd_int ad_nil))) (by refine pd_call (k := 2) (f := T.a_last_of) (fd := T.d_last_of) (ps := P_last_of) (F := F_last_of) ?_ ?_ ?_ ?_ ?_ ?_ ?_ ?_; exact d_last_of T; exact hr.mono (by decide); exact rfl; exact T.g_last_of; exact T.F_last_of.kp; exact b_last_of T; exact (wok_takes (takes_of rfl rfl rfl rfl)); exact (ad_cons (pd_var 6) ad_nil))) (pd_var 7))))))))) (sd_one (sd_ret (pd_sub (pd_var 2) (pd_var 3)))))))))))
def B_check_bounds : DS := (sIf (tNo (tTr (eCall 1 F_is_bounds (aCons (eVar 0) aNil)))) (sRaise "InvalidSection" (eC (.str "bounds"))) sNx)
def F_check_bounds : DF := runB 1 1 B_check_bounds
theorem d_check_bounds (T : Txt K mg) : FnD P w K mg base 4 T.a_check_bounds T.d_check_bounds P_check_bounds F_check_bounds := fnD T.F_check_bounds sc_check_bounds (by decide) B_check_bounds (fun cdv A outer s H E hr => (sd_one (sd_if (qd_not (qd_tr (by refine pd_call (k := 3) (f := T.a_is_bounds) (fd := T.d_is_bounds) (ps := P_is_bounds) (F := F_is_bounds) ?_ ?_ ?_ ?_ ?_ ?_ ?_ ?_; exact d_is_bounds T; exact hr.mono (by decide); exact rfl; exact T.g_is_bounds; exact T.F_is_bounds.kp; exact b_is_bounds T; exact (wok_takes (takes_of rfl rfl rfl rfl)); exact (ad_cons (pd_var 0) ad_nil)))) (sd_one (sd_raise rfl T.e_InvalidSection hr (takes_of rfl rfl rfl rfl) pd_str (by rfl) (by decide))) sd_nil)))
def B_is_open : DS := (sSeq (sIf (tOn (tNo (tTr (eCB fIsi (aCons (eVar 0) (aCons (eC (.ty "tuple")) aNil))))) (tE (eBin fEq (eCB fLen (aCons (eVar 0) aNil)) (eC (.int 0))))) (sRet (eC (.bl false))) sNx) (sSeq (sAsg 1 (eBin fIx (eVar 0) (eUn fNeg (eC (.int 1))))) (sRet (eAnd (eCB fIsi (aCons (eVar 1) (aCons (eC (.ty "tuple")) aNil))) (eAnd (eBin fEq (eCB fLen (aCons (eVar 1) aNil)) (eC (.int 2))) (eBin fIsN (eBin fIx (eVar 1) (eC (.int 1))) (eC .non)))))))
def F_is_open : DF := runB 2 1 B_is_open
theorem d_is_open (T : Txt K mg) : FnD P w K mg base 1 T.a_is_open T.d_is_open P_is_open F_is_open := fnD T.F_is_open sc_is_open (by decide) B_is_open (fun cdv A outer s H E hr => (sd_cons (sd_if (qd_or (qd_not (qd_tr (pd_cb call_isiA cd_isi (by rfl) T.z_isinstance (by decide +kernel) (ad_cons (pd_var 0) (ad_cons (pd_ty (by rfl) T.z_tuple (by decide +kernel)) ad_nil))))) (qd_or1 (qd_eq hr.units (pd_cb call_len cd_len (by rfl) T.z_len (by decide +kernel) (ad_cons (pd_var 0) ad_nil)) pd_int))).pt (sd_one (sd_ret pd_bl)) sd_nil) (sd_cons (sd_asg (ps_set (i := 1) sc_is_open.nd rfl (Or.inl rfl) (pd_ix (pd_var 0) (pd_neg pd_int)))) (sd_one (sd_ret (pd_and (pd_cb call_isiA cd_isi (by rfl) T.z_isinstance (by decide +kernel) (ad_cons (pd_var 1) (ad_cons (pd_ty (by rfl) T.z_tuple (by decide +kernel)) ad_nil))) (pd_and (pd_eq hr.units (pd_cb call_len cd_len (by rfl) T.z_len (by decide +kernel) (ad_cons (pd_var 1) ad_nil)) pd_int) (pd_one (pd_isN (pd_ix (pd_var 1) pd_int) pd_non)))))))))
def B_is_dummy : DS := (sSeq (sIf (tTr (eCall 1 F_is_open (aCons (eVar 0) aNil))) (sSeq (sAsg 1 (eBin fIx (eBin fIx (eVar 0) (eUn fNeg (eC (.int 1)))) (eC (.int 0)))) (sRet (eCall 1 F_is_bounds (aCons (eBin fAdd (eSl (eVar 0) oNone (oSome (eUn fNeg (eC (.int 1))))) (eTup (aCons (eTup (aCons (eVar 1) (aCons (eVar 1) aNil))) aNil))) aNil)))) sNx) (sRet (eCall 1 F_is_bounds (aCons (eVar 0) aNil))))
def F_is_dummy : DF := runB 2 1 B_is_dummy
theorem d_is_dummy (T : Txt K mg) : FnD P w K mg base 4 T.a_is_dummy T.d_is_dummy P_is_dummy F_is_dummy := fnD T.F_is_dummy sc_is_dummy (by decide) B_is_dummy (fun cdv A outer s H E hr => (sd_cons (sd_if (qd_tr (by refine pd_call (k := 1) (f := T.a_is_open) (fd := T.d_is_open) (ps := P_is_open) (F := F_is_open) ?_ ?_ ?_ ?_ ?_ ?_ ?_ ?_; exact d_is_open T; exact hr.mono (by decide); exact rfl; exact T.g_is_open; exact T.F_is_open.kp; exact b_is_open T; exact (wok_takes (takes_of rfl rfl rfl rfl)); exact (ad_cons (pd_var 0) ad_nil))) (sd_cons (sd_asg (ps_set (i := 1) sc_is_dummy.nd rfl (Or.inl rfl) (pd_ix (pd_ix (pd_var 0) (pd_neg pd_int)) pd_int))) (sd_one (sd_ret (by refine pd_call (k := 3) (f := T.a_is_bounds) (fd := T.d_is_bounds) (ps := P_is_bounds) (F := F_is_bounds) ?_ ?_ ?_ ?_ ?_ ?_ ?_ ?_; exact d_is_bounds T; exact hr.mono (by decide); exact rfl; exact T.g_is_bounds; exact T.F_is_bounds.kp; exact b_is_bounds T; exact (wok_takes (takes_of rfl rfl rfl rfl)); exact (ad_cons (pd_add (pd_sl (pd_var 0) od_none (od_some (pd_neg pd_int))) (pd_tup (ad_cons (pd_tup (ad_cons (pd_var 1) (ad_cons (pd_var 1) ad_nil))) ad_nil))) ad_nil))))) sd_nil) (sd_one (sd_ret (by refine pd_call (k := 3) (f := T.a_is_bounds) (fd := T.d_is_bounds) (ps := P_is_bounds) (F := F_is_bounds) ?_ ?_ ?_ ?_ ?_ ?_ ?_ ?_; exact d_is_bounds T; exact hr.mono (by decide); exact rfl; exact T.g_is_bounds; exact T.F_is_bounds.kp; exact b_is_bounds T; exact (wok_takes (takes_of rfl rfl rfl rfl)); exact (ad_cons (pd_var 0) ad_nil))))))
def B_with_rows : DS := (sSeq (sTg (gT (gCons' (gN 2) (gCons' (gN 3) gNil')) 2) (eVar 0)) (sSeq (sAsg 4 (eBin fIx (eBin fIx (eVar 2) (eUn fNeg (eC (.int 1)))) (eC (.int 0)))) (sSeq (sAsg 5 (eBin fAdd (eBin fDiv (eVar 3) (eCB fMax2 (aCons (eC (.int 1)) (aCons (eCall 1 F_size_of (aCons (eSl (eVar 2) oNone (oSome (eUn fNeg (eC (.int 1))))) aNil)) aNil)))) (eVar 1))) (sRet (eBin fAdd (eSl (eVar 2) oNone (oSome (eUn fNeg (eC (.int 1))))) (eTup (aCons (eTup (aCons (eVar 4) (aCons (eBin fSub (eBin fAdd (eVar 4) (eVar 5)) (eC (.int 1))) aNil))) aNil)))))))
def F_with_rows : DF := runB 6 2 B_with_rows
theorem d_with_rows (T : Txt K mg) : FnD P w K mg base 3 T.a_with_rows T.d_with_rows P_with_rows F_with_rows := fnD T.F_with_rows sc_with_rows (by decide) B_with_rows (fun cdv A outer s H E hr => (sd_cons (sd_tg (vs := [2, 3]) (ps_asg (pd_var 0) (gd_tup rfl (gd_cons (gd_name (i := 2) sc_with_rows.nd rfl (Or.inl rfl) (by decide)) (gd_cons (gd_name (i := 3) sc_with_rows.nd rfl (Or.inl rfl) (by decide)) gd_nil))))) (sd_cons (sd_asg (ps_set (i := 4) sc_with_rows.nd rfl (Or.inl rfl) (pd_ix (pd_ix (pd_var 2) (pd_neg pd_int)) pd_int))) (sd_cons (sd_asg (ps_set (i := 5) sc_with_rows.nd rfl (Or.inl rfl) (pd_add (pd_div (pd_var 3) (pd_cb (call_max2 rfl) cd_max2 (by rfl) T.z_max (by decide +kernel) (ad_cons pd_int (ad_cons (by refine pd_call (k := 2) (f := T.a_size_of) (fd := T.d_size_of) (ps := P_size_of) (F := F_size_of) ?_ ?_ ?_ ?_ ?_ ?_ ?_ ?_; exact d_size_of T; exact hr.mono (by decide); exact rfl; exact T.g_size_of; exact T.F_size_of.kp; exact b_size_of T; exact (wok_takes (takes_of rfl rfl rfl rfl)); exact (ad_cons (pd_sl (pd_var 2) od_none (od_some (pd_neg pd_int))) ad_nil)) ad_nil)))) (pd_var 1)))) (sd_one (sd_ret (pd_add (pd_sl (pd_var 2) od_none (od_some (pd_neg pd_int))) (pd_tup (ad_cons (pd_tup (ad_cons (pd_var 4) (ad_cons (pd_sub (pd_add (pd_var 4) (pd_var 5)) pd_int) ad_nil))) ad_nil)))))))))
def B_whole_rows : DS := (sRet (eCall 2 F_with_rows (aCons (eVar 0) (aCons (eC (.int 0)) aNil))))
def F_whole_rows : DF := runB 1 1 B_whole_rows
theorem d_whole_rows (T : Txt K mg) : FnD P w K mg base 4 T.a_whole_rows T.d_whole_rows P_whole_rows F_whole_rows := fnD T.F_whole_rows sc_whole_rows (by decide) B_whole_rows (fun cdv A outer s H E hr => (sd_one (sd_ret (by refine pd_call (k := 3) (f := T.a_with_rows) (fd := T.d_with_rows) (ps := P_with_rows) (F := F_with_rows) ?_ ?_ ?_ ?_ ?_ ?_ ?_ ?_; exact d_with_rows T; exact hr.mono (by decide); exact rfl; exact T.g_with_rows; exact T.F_with_rows.kp; exact b_with_rows T; exact (wok_takes (takes_of rfl rfl rfl rfl)); exact (ad_cons (pd_var 0) (ad_cons pd_int ad_nil))))))
def B_rows_and_rest : DS := (sRet (eCall 2 F_with_rows (aCons (eVar 0) (aCons (eC (.int 1)) aNil))))
def F_rows_and_rest : DF := runB 1 1 B_rows_and_rest
theorem d_rows_and_rest (T : Txt K mg) : FnD P w K mg base 4 T.a_rows_and_rest T.d_rows_and_rest P_rows_and_rest F_rows_and_rest := fnD T.F_rows_and_rest sc_rows_and_rest (by decide) B_rows_and_rest (fun cdv A outer s H E hr => (sd_one (sd_ret (by refine pd_call (k := 3) (f := T.a_with_rows) (fd := T.d_with_rows) (ps := P_with_rows) (F := F_with_rows) ?_ ?_ ?_ ?_ ?_ ?_ ?_ ?_; exact d_with_rows T; exact hr.mono (by decide); exact rfl; exact T.g_with_rows; exact T.F_with_rows.kp; exact b_with_rows T; exact (wok_takes (takes_of rfl rfl rfl rfl)); exact (ad_cons (pd_var 0) (ad_cons pd_int ad_nil))))))
def B_place_in : DS := (sSeq (sAsg 2 (eCall 1 F_rows_and_rest (aCons (eVar 0) aNil))) (sSeq (sIf (tNo (tTr (eCall 2 F_is_element (aCons (eVar 2) (aCons (eVar 1) aNil))))) (sRet (eC .non)) sNx) (sSeq (sAsg 3 (eCall 2 F_place_there (aCons (eVar 2) (aCons (eVar 1) aNil)))) (sRet (eIf (tE (eBin fLt (eVar 3) (eBin fIx (eVar 0) (eC (.int 1))))) (eVar 3) (eC .non))))))
def F_place_in : DF := runB 4 2 B_place_in
theorem d_place_in (T : Txt K mg) : FnD P w K mg base 5 T.a_place_in T.d_place_in P_place_in F_place_in := fnD T.F_place_in sc_place_in (by decide) B_place_in (fun cdv A outer s H E hr => (sd_cons (sd_asg (ps_set (i := 2) sc_place_in.nd rfl (Or.inl rfl) (by refine pd_call (k := 4) (f := T.a_rows_and_rest) (fd := T.d_rows_and_rest) (ps := P_rows_and_rest) (F := F_rows_and_rest) ?_ ?_ ?_ ?_ ?_ ?_ ?_ ?_; exact d_rows_and_rest T; exact hr.mono (by decide); exact rfl; exact T.g_rows_and_rest; exact T.F_rows_and_rest.kp; exact b_rows_and_rest T; exact (wok_takes (takes_of rfl rfl rfl rfl)); exact (ad_cons (pd_var 0) ad_nil)))) (sd_cons (sd_if (qd_not (qd_tr (by refine pd_call (k := 2) (f := T.a_is_element) (fd := T.d_is_element) (ps := P_is_element) (F := F_is_element) ?_ ?_ ?_ ?_ ?_ ?_ ?_ ?_; exact d_is_element T; exact hr.mono (by decide); exact rfl; exact T.g_is_element; exact T.F_is_element.kp; exact b_is_element T; exact (wok_takes (takes_of rfl rfl rfl rfl)); exact (ad_cons (pd_var 2) (ad_cons (pd_var 1) ad_nil))))) (sd_one (sd_ret pd_non)) sd_nil) (sd_cons (sd_asg (ps_set (i := 3) sc_place_in.nd rfl (Or.inl rfl) (by refine pd_call (k := 3) (f := T.a_place_there) (fd := T.d_place_there) (ps := P_place_there) (F := F_place_there) ?_ ?_ ?_ ?_ ?_ ?_ ?_ ?_; exact d_place_there T; exact hr.mono (by decide); exact rfl; exact T.g_place_there; exact T.F_place_there.kp; exact b_place_there T; exact (wok_takes (takes_of rfl rfl rfl rfl)); exact (ad_cons (pd_var 2) (ad_cons (pd_var 1) ad_nil))))) (sd_one (sd_ret (pd_if (qd_lt (pd_var 3) (pd_ix (pd_var 0) pd_int)) (pd_var 3) pd_non)))))))
def B_element_in_holder : DS := (sSeq (sAsg 2 (eCall 1 F_rows_and_rest (aCons (eVar 0) aNil))) (sSeq (sIf (tNo (tE (eChain fLe fLt (eC (.int 0)) (eVar 1) (eCB fMin2 (aCons (eBin fIx (eVar 0) (eC (.int 1))) (aCons (eCall 1 F_size_of (aCons (eVar 2) aNil)) aNil)))))) (sRet (eC .non)) sNx) (sRet (eCall 2 F_element_there (aCons (eVar 2) (aCons (eVar 1) aNil))))))
def F_element_in_holder : DF := runB 3 2 B_element_in_holder
theorem d_element_in_holder (T : Txt K mg) : FnD P w K mg base 5 T.a_element_in_holder T.d_element_in_holder P_element_in_holder F_element_in_holder := fnD T.F_element_in_holder sc_element_in_holder (by decide) B_element_in_holder (fun cdv A outer s H E hr => (sd_cons (sd_asg (ps_set (i := 2) sc_element_in_holder.nd rfl (Or.inl rfl) (by refine pd_call (k := 4) (f := T.a_rows_and_rest) (fd := T.d_rows_and_rest) (ps := P_rows_and_rest) (F := F_rows_and_rest) ?_ ?_ ?_ ?_ ?_ ?_ ?_ ?_; exact d_rows_and_rest T; exact hr.mono (by decide); exact rfl; exact T.g_rows_and_rest; exact T.F_rows_and_rest.kp; exact b_rows_and_rest T; exact (wok_takes (takes_of rfl rfl rfl rfl)); exact (ad_cons (pd_var 0) ad_nil)))) (sd_cons (sd_if (qd_not (qd_chain op_le op_lt opd_cmp opd_cmp pd_int (pd_var 1) (pd_cb (call_min2 rfl) cd_min2 (by rfl) T.z_min (by decide +kernel) (ad_cons (pd_ix (pd_var 0) pd_int) (ad_cons (by refine pd_call (k := 2) (f := T.a_size_of) (fd := T.d_size_of) (ps := P_size_of) (F := F_size_of) ?_ ?_ ?_ ?_ ?_ ?_ ?_ ?_; exact d_size_of T; exact hr.mono (by decide); exact rfl; exact T.g_size_of; exact T.F_size_of.kp; exact b_size_of T; exact (wok_takes (takes_of rfl rfl rfl rfl)); exact (ad_cons (pd_var 2) ad_nil)) ad_nil))))) (sd_one (sd_ret pd_non)) sd_nil) (sd_one (sd_ret (by refine pd_call (k := 2) (f := T.a_element_there) (fd := T.d_element_there) (ps := P_element_there) (F := F_element_there) ?_ ?_ ?_ ?_ ?_ ?_ ?_ ?_; exact d_element_there T; exact hr.mono (by decide); exact rfl; exact T.g_element_there; exact T.F_element_there.kp; exact b_element_there T; exact (wok_takes (takes_of rfl rfl rfl rfl)); exact (ad_cons (pd_var 2) (ad_cons (pd_var 1) ad_nil))))))))
def B_section_handed : DS := (sSeq (sIf (tNo (tTr (eCall 2 F_is_section (aCons (eVar 0) (aCons (eVar 1) aNil))))) (sRaise "InvalidSection" (eC (.str "part"))) sNx) (sSeq (sAsg 2 (eCall 1 F_many_in (aCons (eVar 1) aNil))) (sSeq (sIf (tE (eBin fEq (eVar 2) (eC (.int 0)))) (sRet (eTup (aCons (eC (.int 0)) (aCons (eC (.int 0)) aNil)))) sNx) (sSeq (sIf (tE (eBin fGt (eCall 2 F_stretches_of (aCons (eVar 0) (aCons (eVar 1) aNil))) (eC (.int 1)))) (sRaise "InvalidSection" (eC (.str "gaps"))) sNx) (sRet (eTup (aCons (eCall 2 F_place_there (aCons (eVar 0) (aCons (eCall 2 F_element_in (aCons (eVar 1) (aCons (eC (.int 0)) aNil))) aNil))) (aCons (eVar 2) aNil))))))))
def F_section_handed : DF := runB 3 2 B_section_handed
theorem d_section_handed (T : Txt K mg) : FnD P w K mg base 6 T.a_section_handed T.d_section_handed P_section_handed F_section_handed := fnD T.F_section_handed sc_section_handed (by decide) B_section_handed (fun cdv A outer s H E hr => (sd_cons (sd_if (qd_not (qd_tr (by refine pd_call (k := 5) (f := T.a_is_section) (fd := T.d_is_section) (ps := P_is_section) (F := F_is_section) ?_ ?_ ?_ ?_ ?_ ?_ ?_ ?_; exact d_is_section T; exact hr.mono (by decide); exact rfl; exact T.g_is_section; exact T.F_is_section.kp; exact b_is_section T; exact (wok_takes (takes_of rfl rfl rfl rfl)); exact (ad_cons (pd_var 0) (ad_cons (pd_var 1) ad_nil))))) (sd_one (sd_raise rfl T.e_InvalidSection hr (takes_of rfl rfl rfl rfl) pd_str (by rfl) (by decide))) sd_nil) (sd_cons (sd_asg (ps_set (i := 2) sc_section_handed.nd rfl (Or.inl rfl) (by refine pd_call (k := 2) (f := T.a_many_in) (fd := T.d_many_in) (ps := P_many_in) (F := F_many_in) ?_ ?_ ?_ ?_ ?_ ?_ ?_ ?_; exact d_many_in T; exact hr.mono (by decide); exact rfl; exact T.g_many_in; exact T.F_many_in.kp; exact b_many_in T; exact (wok_takes (takes_of rfl rfl rfl rfl)); exact (ad_cons (pd_var 1) ad_nil)))) (sd_cons (sd_if (qd_eq hr.units (pd_var 2) pd_int) (sd_one (sd_ret (pd_tup (ad_cons pd_int (ad_cons pd_int ad_nil))))) sd_nil) (sd_cons (sd_if (qd_gt (by refine pd_call (k := 4) (f := T.a_stretches_of) (fd := T.d_stretches_of) (ps := P_stretches_of) (F := F_stretches_of) ?_ ?_ ?_ ?_ ?_ ?_ ?_ ?_; exact d_stretches_of T; exact hr.mono (by decide); exact rfl; exact T.g_stretches_of; exact T.F_stretches_of.kp; exact b_stretches_of T; exact (wok_takes (takes_of rfl rfl rfl rfl)); exact (ad_cons (pd_var 0) (ad_cons (pd_var 1) ad_nil))) pd_int) (sd_one (sd_raise rfl T.e_InvalidSection hr (takes_of rfl rfl rfl rfl) pd_str (by rfl) (by decide))) sd_nil) (sd_one (sd_ret (pd_tup (ad_cons (by refine pd_call (k := 3) (f := T.a_place_there) (fd := T.d_place_there) (ps := P_place_there) (F := F_place_there) ?_ ?_ ?_ ?_ ?_ ?_ ?_ ?_; exact d_place_there T; exact hr.mono (by decide); exact rfl; exact T.g_place_there; exact T.F_place_there.kp; exact b_place_there T; exact (wok_takes (takes_of rfl rfl rfl rfl)); exact (ad_cons (pd_var 0) (ad_cons (by refine pd_call (k := 2) (f := T.a_element_in) (fd := T.d_element_in) (ps := P_element_in) (F := F_element_in) ?_ ?_ ?_ ?_ ?_ ?_ ?_ ?_; exact d_element_in T; exact hr.mono (by decide); exact rfl; exact T.g_element_in; exact T.F_element_in.kp; exact b_element_in T; exact (wok_takes (takes_of rfl rfl rfl rfl)); exact (ad_cons (pd_var 1) (ad_cons pd_int ad_nil))) ad_nil))) (ad_cons (pd_var 2) ad_nil))))))))))
def B_part_handed : DS := (sSeq (sIf (tE (eBin fEq (eVar 1) (eC (.str "whole")))) (sRet (eTup (aCons (eC (.int 0)) (aCons (eBin fIx (eVar 0) (eC (.int 1))) aNil)))) sNx) (sSeq (sIf (tOn (tNo (tTr (eCB fIsi (aCons (eVar 1) (aCons (eC (.ty "tuple")) aNil))))) (tE (eBin fNe (eCB fLen (aCons (eVar 1) aNil)) (eC (.int 2))))) (sRaise "InvalidSection" (eC (.str "part"))) sNx) (sSeq (sTg (gT (gCons' (gN 2) (gCons' (gN 3) gNil')) 2) (eVar 1)) (sSeq (sIf (tE (eBin fEq (eVar 2) (eC (.str "section")))) (sRet (eCall 2 F_section_handed (aCons (eCall 1 F_whole_rows (aCons (eVar 0) aNil)) (aCons (eVar 3) aNil)))) sNx) (sSeq (sIf (tE (eBin fNe (eVar 2) (eC (.str "from")))) (sRaise "InvalidSection" (eC (.str "part"))) sNx) (sSeq (sAsg 4 (eCall 2 F_place_in (aCons (eVar 0) (aCons (eVar 3) aNil)))) (sSeq (sIf (tE (eBin fIsN (eVar 4) (eC .non))) (sRaise "InvalidSection" (eC (.str "part"))) sNx) (sRet (eTup (aCons (eVar 4) (aCons (eBin fSub (eBin fIx (eVar 0) (eC (.int 1))) (eVar 4)) aNil)))))))))))
def F_part_handed : DF := runB 5 2 B_part_handed
theorem d_part_handed (T : Txt K mg) : FnD P w K mg base 7 T.a_part_handed T.d_part_handed P_part_handed F_part_handed := fnD T.F_part_handed sc_part_handed (by decide) B_part_handed (fun cdv A outer s H E hr => (sd_cons (sd_if (qd_eq hr.units (pd_var 1) pd_str) (sd_one (sd_ret (pd_tup (ad_cons pd_int (ad_cons (pd_ix (pd_var 0) pd_int) ad_nil))))) sd_nil) (sd_cons (sd_if (qd_or (qd_not (qd_tr (pd_cb call_isiA cd_isi (by rfl) T.z_isinstance (by decide +kernel) (ad_cons (pd_var 1) (ad_cons (pd_ty (by rfl) T.z_tuple (by decide +kernel)) ad_nil))))) (qd_or1 (qd_ne hr.units (pd_cb call_len cd_len (by rfl) T.z_len (by decide +kernel) (ad_cons (pd_var 1) ad_nil)) pd_int))).pt (sd_one (sd_raise rfl T.e_InvalidSection hr (takes_of rfl rfl rfl rfl) pd_str (by rfl) (by decide))) sd_nil) (sd_cons (sd_tg (vs := [2, 3]) (ps_asg (pd_var 1) (gd_tup rfl (gd_cons (gd_name (i := 2) sc_part_handed.nd rfl (Or.inl rfl) (by decide)) (gd_cons (gd_name (i := 3) sc_part_handed.nd rfl (Or.inl rfl) (by decide)) gd_nil))))) (sd_cons (sd_if (qd_eq hr.units (pd_var 2) pd_str) (sd_one (sd_ret (by refine pd_call (k := 6) (f := T.a_section_handed) (fd := T.d_section_handed) (ps := P_section_handed) (F := F_section_handed) ?_ ?_ ?_ ?_ ?_ ?_ ?_ ?_; exact d_section_handed T; exact hr.mono (by decide); exact rfl; exact T.g_section_handed; exact T.F_section_handed.kp; exact b_section_handed T; exact (wok_takes (takes_of rfl rfl rfl rfl)); exact (ad_cons (by refine pd_call (k := 4) (f := T.a_whole_rows) (fd := T.d_whole_rows) (ps := P_whole_rows) (F := F_whole_rows) ?_ ?_ ?_ ?_ ?_ ?_ ?_ ?_; exact d_whole_rows T; exact hr.mono (by decide); exact rfl; exact T.g_whole_rows; exact T.F_whole_rows.kp; exact b_whole_rows T; exact (wok_takes (takes_of rfl rfl rfl rfl)); exact (ad_cons (pd_var 0) ad_nil)) (ad_cons (pd_var 3) ad_nil))))) sd_nil) (sd_cons (sd_if (qd_ne hr.units (pd_var 2) pd_str) (sd_one (sd_raise rfl T.e_InvalidSection hr (takes_of rfl rfl rfl rfl) pd_str (by rfl) (by decide))) sd_nil) (sd_cons (sd_asg (ps_set (i := 4) sc_part_handed.nd rfl (Or.inl rfl) (by refine pd_call (k := 5) (f := T.a_place_in) (fd := T.d_place_in) (ps := P_place_in) (F := F_place_in) ?_ ?_ ?_ ?_ ?_ ?_ ?_ ?_; exact d_place_in T; exact hr.mono (by decide); exact rfl; exact T.g_place_in; exact T.F_place_in.kp; exact b_place_in T; exact (wok_takes (takes_of rfl rfl rfl rfl)); exact (ad_cons (pd_var 0) (ad_cons (pd_var 3) ad_nil))))) (sd_cons (sd_if (qd_isN (pd_var 4) pd_non) (sd_one (sd_raise rfl T.e_InvalidSection hr (takes_of rfl rfl rfl rfl) pd_str (by rfl) (by decide))) sd_nil) (sd_one (sd_ret (pd_tup (ad_cons (pd_var 4) (ad_cons (pd_sub (pd_ix (pd_var 0) pd_int) (pd_var 4)) ad_nil)))))))))))))
def B_received : DS := (sSeq (sTg (gT (gCons' (gN 3) (gCons' (gN 4) gNil')) 2) (eCall 2 F_part_handed (aCons (eVar 0) (aCons (eVar 1) aNil)))) (sSeq (sIf (tNo (tTr (eCall 1 F_is_dummy (aCons (eVar 2) aNil)))) (sRaise "InvalidSection" (eC (.str "dummy"))) sNx) (sSeq (sIf (tTr (eCall 1 F_is_open (aCons (eVar 2) aNil))) (sRet (eTup (aCons (eVar 3) (aCons (eTup (aCons (eVar 2) (aCons (eVar 4) aNil))) aNil)))) sNx) (sSeq (sIf (tE (eBin fGt (eCall 1 F_size_of (aCons (eVar 2) aNil)) (eVar 4))) (sRaise "InvalidSection" (eC (.str "size"))) sNx) (sRet (eTup (aCons (eVar 3) (aCons (eTup (aCons (eVar 2) (aCons (eCall 1 F_size_of (aCons (eVar 2) aNil)) aNil))) aNil))))))))
def F_received : DF := runB 5 3 B_received
theorem d_received (T : Txt K mg) : FnD P w K mg base 8 T.a_received T.d_received P_received F_received := fnD T.F_received sc_received (by decide) B_received (fun cdv A outer s H E hr => (sd_cons (sd_tg (vs := [3, 4]) (ps_asg (by refine pd_call (k := 7) (f := T.a_part_handed) (fd := T.d_part_handed) (ps := P_part_handed) (F := F_part_handed) ?_ ?_ ?_ ?_ ?_ ?_ ?_ ?_; exact d_part_handed T; exact hr.mono (by decide); exact rfl; exact T.g_part_handed; exact T.F_part_handed.kp; exact b_part_handed T; exact (wok_takes (takes_of rfl rfl rfl rfl)); exact (ad_cons (pd_var 0) (ad_cons (pd_var 1) ad_nil))) (gd_tup rfl (gd_cons (gd_name (i := 3) sc_received.nd rfl (Or.inl rfl) (by decide)) (gd_cons (gd_name (i := 4) sc_received.nd rfl (Or.inl rfl) (by decide)) gd_nil))))) (sd_cons (sd_if (qd_not (qd_tr (by refine pd_call (k := 4) (f := T.a_is_dummy) (fd := T.d_is_dummy) (ps := P_is_dummy) (F := F_is_dummy) ?_ ?_ ?_ ?_ ?_ ?_ ?_ ?_; exact d_is_dummy T; exact hr.mono (by decide); exact rfl; exact T.g_is_dummy; exact T.F_is_dummy.kp; exact b_is_dummy T; exact (wok_takes (takes_of rfl rfl rfl rfl)); exact (ad_cons (pd_var 2) ad_nil)))) (sd_one (sd_raise rfl T.e_InvalidSection hr (takes_of rfl rfl rfl rfl) pd_str (by rfl) (by decide))) sd_nil) (sd_cons (sd_if (qd_tr (by refine pd_call (k := 1) (f := T.a_is_open) (fd := T.d_is_open) (ps := P_is_open) (F := F_is_open) ?_ ?_ ?_ ?_ ?_ ?_ ?_ ?_; exact d_is_open T; exact hr.mono (by decide); exact rfl; exact T.g_is_open; exact T.F_is_open.kp; exact b_is_open T; exact (wok_takes (takes_of rfl rfl rfl rfl)); exact (ad_cons (pd_var 2) ad_nil))) (sd_one (sd_ret (pd_tup (ad_cons (pd_var 3) (ad_cons (pd_tup (ad_cons (pd_var 2) (ad_cons (pd_var 4) ad_nil))) ad_nil))))) sd_nil) (sd_cons (sd_if (qd_gt (by refine pd_call (k := 2) (f := T.a_size_of) (fd := T.d_size_of) (ps := P_size_of) (F := F_size_of) ?_ ?_ ?_ ?_ ?_ ?_ ?_ ?_; exact d_size_of T; exact hr.mono (by decide); exact rfl; exact T.g_size_of; exact T.F_size_of.kp; exact b_size_of T; exact (wok_takes (takes_of rfl rfl rfl rfl)); exact (ad_cons (pd_var 2) ad_nil)) (pd_var 4)) (sd_one (sd_raise rfl T.e_InvalidSection hr (takes_of rfl rfl rfl rfl) pd_str (by rfl) (by decide))) sd_nil) (sd_one (sd_ret (pd_tup (ad_cons (pd_var 3) (ad_cons (pd_tup (ad_cons (pd_var 2) (ad_cons (by refine pd_call (k := 2) (f := T.a_size_of) (fd := T.d_size_of) (ps := P_size_of) (F := F_size_of) ?_ ?_ ?_ ?_ ?_ ?_ ?_ ?_; exact d_size_of T; exact hr.mono (by decide); exact rfl; exact T.g_size_of; exact T.F_size_of.kp; exact b_size_of T; exact (wok_takes (takes_of rfl rfl rfl rfl)); exact (ad_cons (pd_var 2) ad_nil)) ad_nil))) ad_nil))))))))))
def B_of_array : DS := (sSeq (sDrop (eCall 1 F_check_bounds (aCons (eVar 0) aNil))) (sRet (eTup (aCons (eVar 0) (aCons (eCall 1 F_size_of (aCons (eVar 0) aNil)) aNil)))))
def F_of_array : DF := runB 1 1 B_of_array
theorem d_of_array (T : Txt K mg) : FnD P w K mg base 5 T.a_of_array T.d_of_array P_of_array F_of_array := fnD T.F_of_array sc_of_array (by decide) B_of_array (fun cdv A outer s H E hr => (sd_cons (sd_expr (by refine pd_call (k := 4) (f := T.a_check_bounds) (fd := T.d_check_bounds) (ps := P_check_bounds) (F := F_check_bounds) ?_ ?_ ?_ ?_ ?_ ?_ ?_ ?_; exact d_check_bounds T; exact hr.mono (by decide); exact rfl; exact T.g_check_bounds; exact T.F_check_bounds.kp; exact b_check_bounds T; exact (wok_takes (takes_of rfl rfl rfl rfl)); exact (ad_cons (pd_var 0) ad_nil))) (sd_one (sd_ret (pd_tup (ad_cons (pd_var 0) (ad_cons (by refine pd_call (k := 2) (f := T.a_size_of) (fd := T.d_size_of) (ps := P_size_of) (F := F_size_of) ?_ ?_ ?_ ?_ ?_ ?_ ?_ ?_; exact d_size_of T; exact hr.mono (by decide); exact rfl; exact T.g_size_of; exact T.F_size_of.kp; exact b_size_of T; exact (wok_takes (takes_of rfl rfl rfl rfl)); exact (ad_cons (pd_var 0) ad_nil)) ad_nil)))))))
def B_dummy_place : DS := (sSeq (sTg (gT (gCons' (gN 4) (gCons' (gN 5) gNil')) 2) (eCall 3 F_received (aCons (eCall 1 F_of_array (aCons (eVar 0) aNil)) (aCons (eVar 1) (aCons (eVar 2) aNil))))) (sSeq (sAsg 6 (eCall 2 F_place_in (aCons (eVar 5) (aCons (eVar 3) aNil)))) (sSeq (sIf (tE (eBin fIsN (eVar 6) (eC .non))) (sRaise "InvalidSection" (eC (.str "element"))) sNx) (sRet (eBin fAdd (eVar 4) (eVar 6))))))
def F_dummy_place : DF := runB 7 4 B_dummy_place
theorem d_dummy_place (T : Txt K mg) : FnD P w K mg base 9 T.a_dummy_place T.d_dummy_place P_dummy_place F_dummy_place := fnD T.F_dummy_place sc_dummy_place (by decide) B_dummy_place (fun cdv A outer s H E hr => (sd_cons (sd_tg (vs := [4, 5]) (ps_asg (by refine pd_call (k := 8) (f := T.a_received) (fd := T.d_received) (ps := P_received) (F := F_received) ?_ ?_ ?_ ?_ ?_ ?_ ?_ ?_; exact d_received T; exact hr.mono (by decide); exact rfl; exact T.g_received; exact T.F_received.kp; exact b_received T; exact (wok_takes (takes_of rfl rfl rfl rfl)); exact (ad_cons (by refine pd_call (k := 5) (f := T.a_of_array) (fd := T.d_of_array) (ps := P_of_array) (F := F_of_array) ?_ ?_ ?_ ?_ ?_ ?_ ?_ ?_; exact d_of_array T; exact hr.mono (by decide); exact rfl; exact T.g_of_array; exact T.F_of_array.kp; exact b_of_array T; exact (wok_takes (takes_of rfl rfl rfl rfl)); exact (ad_cons (pd_var 0) ad_nil)) (ad_cons (pd_var 1) (ad_cons (pd_var 2) ad_nil)))) (gd_tup rfl (gd_cons (gd_name (i := 4) sc_dummy_place.nd rfl (Or.inl rfl) (by decide)) (gd_cons (gd_name (i := 5) sc_dummy_place.nd rfl (Or.inl rfl) (by decide)) gd_nil))))) (sd_cons (sd_asg (ps_set (i := 6) sc_dummy_place.nd rfl (Or.inl rfl) (by refine pd_call (k := 5) (f := T.a_place_in) (fd := T.d_place_in) (ps := P_place_in) (F := F_place_in) ?_ ?_ ?_ ?_ ?_ ?_ ?_ ?_; exact d_place_in T; exact hr.mono (by decide); exact rfl; exact T.g_place_in; exact T.F_place_in.kp; exact b_place_in T; exact (wok_takes (takes_of rfl rfl rfl rfl)); exact (ad_cons (pd_var 5) (ad_cons (pd_var 3) ad_nil))))) (sd_cons (sd_if (qd_isN (pd_var 6) pd_non) (sd_one (sd_raise rfl T.e_InvalidSection hr (takes_of rfl rfl rfl rfl) pd_str (by rfl) (by decide))) sd_nil) (sd_one (sd_ret (pd_add (pd_var 4) (pd_var 6))))))))
def B_dummy_element : DS := (sSeq (sAsg 4 (eCall 1 F_of_array (aCons (eVar 0) aNil))) (sSeq (sTg (gT (gCons' (gN 5) (gCons' (gN 6) gNil')) 2) (eCall 3 F_received (aCons (eVar 4) (aCons (eVar 1) (aCons (eVar 2) aNil))))) (sSeq (sIf (tOn (tNo (tTr (eCall 1 F_is_number (aCons (eVar 3) aNil)))) (tNo (tE (eChain fLe fLt (eC (.int 0)) (eVar 3) (eBin fIx (eVar 4) (eC (.int 1))))))) sNever sNx) (sRet (eCall 2 F_element_in_holder (aCons (eVar 6) (aCons (eBin fSub (eVar 3) (eVar 5)) aNil)))))))
def F_dummy_element : DF := runB 7 4 B_dummy_element
theorem d_dummy_element (T : Txt K mg) : FnD P w K mg base 9 T.a_dummy_element T.d_dummy_element P_dummy_element F_dummy_element := fnD T.F_dummy_element sc_dummy_element (by decide) B_dummy_element (fun cdv A outer s H E hr => (sd_cons (sd_asg (ps_set (i := 4) sc_dummy_element.nd rfl (Or.inl rfl) (by refine pd_call (k := 5) (f := T.a_of_array) (fd := T.d_of_array) (ps := P_of_array) (F := F_of_array) ?_ ?_ ?_ ?_ ?_ ?_ ?_ ?_; exact d_of_array T; exact hr.mono (by decide); exact rfl; exact T.g_of_array; exact T.F_of_array.kp; exact b_of_array T; exact (wok_takes (takes_of rfl rfl rfl rfl)); exact (ad_cons (pd_var 0) ad_nil)))) (sd_cons (sd_tg (vs := [5, 6]) (ps_asg (by refine pd_call (k := 8) (f := T.a_received) (fd := T.d_received) (ps := P_received) (F := F_received) ?_ ?_ ?_ ?_ ?_ ?_ ?_ ?_; exact d_received T; exact hr.mono (by decide); exact rfl; exact T.g_received; exact T.F_received.kp; exact b_received T; exact (wok_takes (takes_of rfl rfl rfl rfl)); exact (ad_cons (pd_var 4) (ad_cons (pd_var 1) (ad_cons (pd_var 2) ad_nil)))) (gd_tup rfl (gd_cons (gd_name (i := 5) sc_dummy_element.nd rfl (Or.inl rfl) (by decide)) (gd_cons (gd_name (i := 6) sc_dummy_element.nd rfl (Or.inl rfl) (by decide)) gd_nil))))) (sd_cons (sd_if (qd_or (qd_not (qd_tr (by refine pd_call (k := 1) (f := T.a_is_number) (fd := T.d_is_number) (ps := P_is_number) (F := F_is_number) ?_ ?_ ?_ ?_ ?_ ?_ ?_ ?_; exact d_is_number T; exact hr.mono (by decide); exact rfl; exact T.g_is_number; exact T.F_is_number.kp; exact b_is_number T; exact (wok_takes (takes_of rfl rfl rfl rfl)); exact (ad_cons (pd_var 3) ad_nil)))) (qd_or1 (qd_not (qd_chain op_le op_lt opd_cmp opd_cmp pd_int (pd_var 3) (pd_ix (pd_var 4) pd_int))))).pt (sd_one sd_never) sd_nil) (sd_one (sd_ret (by refine pd_call (k := 5) (f := T.a_element_in_holder) (fd := T.d_element_in_holder) (ps := P_element_in_holder) (F := F_element_in_holder) ?_ ?_ ?_ ?_ ?_ ?_ ?_ ?_; exact d_element_in_holder T; exact hr.mono (by decide); exact rfl; exact T.g_element_in_holder; exact T.F_element_in_holder.kp; exact b_element_in_holder T; exact (wok_takes (takes_of rfl rfl rfl rfl)); exact (ad_cons (pd_var 6) (ad_cons (pd_sub (pd_var 3) (pd_var 5)) ad_nil)))))))))
def B_w_mix : DS := (sSeq (sAsg 2 (eBin fAdd (eBin fAdd (eBin fAdd (eBin fMod (eCB fInt (aCons (eVar 0) aNil)) (eC (.int 2147483629))) (eBin fMul (eC (.int 52391)) (eVar 1))) (eBin fMod (eCB fInt (aCons (eBin fDiv (eVar 0) (eC (.int 2147483629))) aNil)) (eC (.int 1000003)))) (eC (.int 1)))) (sSeq (sAsg 2 (eBin fMod (eCB fInt (aCons (eBin fMul (eVar 2) (eC (.int 48271))) aNil)) (eC (.int 2147483629)))) (sSeq (sAsg 2 (eBin fMod (eCB fInt (aCons (eBin fMul (eVar 2) (eBin fAdd (eBin fAdd (eBin fDiv (eVar 2) (eC (.int 1021))) (eC (.int 65539))) (eVar 1))) aNil)) (eC (.int 2147483587)))) (sRet (eBin fMod (eCB fInt (aCons (eBin fMul (eVar 2) (eBin fAdd (eBin fDiv (eVar 2) (eC (.int 2011))) (eC (.int 40014)))) aNil)) (eC (.int 2147483563)))))))
def F_w_mix : DF := runB 3 2 B_w_mix
theorem d_w_mix (T : Txt K mg) : FnD P w K mg base 1 T.a_w_mix T.d_w_mix P_w_mix F_w_mix := fnD T.F_w_mix sc_w_mix (by decide) B_w_mix (fun cdv A outer s H E hr => (sd_cons (sd_asg (ps_set (i := 2) sc_w_mix.nd rfl (Or.inl rfl) (pd_add (pd_add (pd_add (pd_mod (pd_ct call_int1 cd_int (by rfl) T.z_int (by decide +kernel) (ad_cons (pd_var 0) ad_nil)) pd_int) (pd_mul pd_int (pd_var 1))) (pd_mod (pd_ct call_int1 cd_int (by rfl) T.z_int (by decide +kernel) (ad_cons (pd_div (pd_var 0) pd_int) ad_nil)) pd_int)) pd_int))) (sd_cons (sd_asg (ps_set (i := 2) sc_w_mix.nd rfl (Or.inl rfl) (pd_mod (pd_ct call_int1 cd_int (by rfl) T.z_int (by decide +kernel) (ad_cons (pd_mul (pd_var 2) pd_int) ad_nil)) pd_int))) (sd_cons (sd_asg (ps_set (i := 2) sc_w_mix.nd rfl (Or.inl rfl) (pd_mod (pd_ct call_int1 cd_int (by rfl) T.z_int (by decide +kernel) (ad_cons (pd_mul (pd_var 2) (pd_add (pd_add (pd_div (pd_var 2) pd_int) pd_int) (pd_var 1))) ad_nil)) pd_int))) (sd_one (sd_ret (pd_mod (pd_ct call_int1 cd_int (by rfl) T.z_int (by decide +kernel) (ad_cons (pd_mul (pd_var 2) (pd_add (pd_div (pd_var 2) pd_int) pd_int)) ad_nil)) pd_int)))))))
def B_w_draw : DS := (sSeq (sIf (tE (eBin fGt (eBin fIx (eVar 0) (eC (.int 0))) (eC (.int 0)))) (sSeq (sAsg 2 (eBin fMod (eCB fInt (aCons (eBin fIx (eVar 0) (eC (.int 0))) aNil)) (eVar 1))) (sSeq (sSetW (eVar 0) (eC (.int 0)) (eBin fDiv (eBin fIx (eVar 0) (eC (.int 0))) (eVar 1))) (sRet (eVar 2)))) sNx) (sSeq (sSetW (eVar 0) (eC (.int 2)) (eBin fAdd (eBin fIx (eVar 0) (eC (.int 2))) (eC (.int 1)))) (sRet (eBin fMod (eCB fInt (aCons (eCall 2 F_w_mix (aCons (eBin fIx (eVar 0) (eC (.int 1))) (aCons (eBin fIx (eVar 0) (eC (.int 2))) aNil))) aNil)) (eVar 1)))))
def F_w_draw : DF := runB 3 2 B_w_draw
theorem d_w_draw (T : Txt K mg) : FnD P w K mg base 2 T.a_w_draw T.d_w_draw P_w_draw F_w_draw := fnD T.F_w_draw sc_w_draw (by decide) B_w_draw (fun cdv A outer s H E hr => (sd_cons (sd_if (qd_gt (pd_ix (pd_var 0) pd_int) pd_int) (sd_cons (sd_asg (ps_set (i := 2) sc_w_draw.nd rfl (Or.inl rfl) (pd_mod (pd_ct call_int1 cd_int (by rfl) T.z_int (by decide +kernel) (ad_cons (pd_ix (pd_var 0) pd_int) ad_nil)) (pd_var 1)))) (sd_cons (sd_setW (ps_asg (pd_div (pd_ix (pd_var 0) pd_int) (pd_var 1)) (pg_sub (pd_var 0) pd_int set_list))) (sd_one (sd_ret (pd_var 2))))) sd_nil) (sd_cons (sd_setW (ps_asg (pd_add (pd_ix (pd_var 0) pd_int) pd_int) (pg_sub (pd_var 0) pd_int set_list))) (sd_one (sd_ret (pd_mod (pd_ct call_int1 cd_int (by rfl) T.z_int (by decide +kernel) (ad_cons (by refine pd_call (k := 1) (f := T.a_w_mix) (fd := T.d_w_mix) (ps := P_w_mix) (F := F_w_mix) ?_ ?_ ?_ ?_ ?_ ?_ ?_ ?_; exact d_w_mix T; exact hr.mono (by decide); exact rfl; exact T.g_w_mix; exact T.F_w_mix.kp; exact b_w_mix T; exact (wok_takes (takes_of rfl rfl rfl rfl)); exact (ad_cons (pd_ix (pd_var 0) pd_int) (ad_cons (pd_ix (pd_var 0) pd_int) ad_nil))) ad_nil)) (pd_var 1)))))))
def B_w_pick : DS := (sRet (eBin fIx (eVar 1) (eCall 2 F_w_draw (aCons (eVar 0) (aCons (eCB fLen (aCons (eVar 1) aNil)) aNil)))))
def F_w_pick : DF := runB 2 2 B_w_pick
theorem d_w_pick (T : Txt K mg) : FnD P w K mg base 3 T.a_w_pick T.d_w_pick P_w_pick F_w_pick := fnD T.F_w_pick sc_w_pick (by decide) B_w_pick (fun cdv A outer s H E hr => (sd_one (sd_ret (pd_ix (pd_var 1) (by refine pd_call (k := 2) (f := T.a_w_draw) (fd := T.d_w_draw) (ps := P_w_draw) (F := F_w_draw) ?_ ?_ ?_ ?_ ?_ ?_ ?_ ?_; exact d_w_draw T; exact hr.mono (by decide); exact rfl; exact T.g_w_draw; exact T.F_w_draw.kp; exact b_w_draw T; exact (wok_takes (takes_of rfl rfl rfl rfl)); exact (ad_cons (pd_var 0) (ad_cons (pd_cb call_len cd_len (by rfl) T.z_len (by decide +kernel) (ad_cons (pd_var 1) ad_nil)) ad_nil)))))))
def B_w_bounds : DS := (sSeq (sNew 3 (aLst aNil)) (sSeq (sFor (iRng1 (aCons (eBin fAdd (eC (.int 1)) (eCall 2 F_w_draw (aCons (eVar 0) (aCons (eVar 1) aNil)))) aNil)) (gN 4) (sSeq (sAsg 5 (eCall 2 F_w_pick (aCons (eVar 0) (aCons (eL (aLst (aCons (eC (.int 1)) (aCons (eC (.int 1)) (aCons (eC (.int 0)) (aCons (eUn fNeg (eC (.int 3))) (aCons (eBin fSub (eCall 2 F_w_draw (aCons (eVar 0) (aCons (eC (.int 41)) aNil))) (eC (.int 20))) aNil))))))) aNil)))) (sSeq (sAsg 6 (eBin fAdd (eVar 5) (eCall 2 F_w_draw (aCons (eVar 0) (aCons (eBin fAdd (eVar 2) (eC (.int 1))) aNil))))) (sSeq (sIf (tE (eBin fEq (eCall 2 F_w_draw (aCons (eVar 0) (aCons (eC (.int 9)) aNil))) (eC (.int 0)))) (sAsg 6 (eBin fSub (eBin fSub (eVar 5) (eC (.int 1))) (eBin fMul (eCall 2 F_w_draw (aCons (eVar 0) (aCons (eC (.int 4)) aNil))) (eCall 2 F_w_draw (aCons (eVar 0) (aCons (eC (.int 2)) aNil)))))) sNx) (sApp 3 (eTup (aCons (eVar 5) (aCons (eVar 6) aNil)))))))) (sFrz 3 (sRet (eCB fTuple (aCons (eVar 3) aNil))))))
def F_w_bounds : DF := runB 7 3 B_w_bounds
theorem d_w_bounds (T : Txt K mg) : FnD P w K mg base 4 T.a_w_bounds T.d_w_bounds P_w_bounds F_w_bounds := fnD T.F_w_bounds sc_w_bounds (by decide) B_w_bounds (fun cdv A outer s H E hr => (sd_cons (sd_new (ps_set (i := 3) sc_w_bounds.nd rfl (Or.inl rfl) (pl_lst ad_nil))) (sd_cons (sd_for (vs := [4]) (passes_of rfl) rfl (id_rng1 (by rfl) T.z_range (ad_cons (pd_add pd_int (by refine pd_call (k := 2) (f := T.a_w_draw) (fd := T.d_w_draw) (ps := P_w_draw) (F := F_w_draw) ?_ ?_ ?_ ?_ ?_ ?_ ?_ ?_; exact d_w_draw T; exact hr.mono (by decide); exact rfl; exact T.g_w_draw; exact T.F_w_draw.kp; exact b_w_draw T; exact (wok_takes (takes_of rfl rfl rfl rfl)); exact (ad_cons (pd_var 0) (ad_cons (pd_var 1) ad_nil)))) ad_nil)) (gd_name (i := 4) sc_w_bounds.nd rfl (Or.inl rfl) (by decide)) (sd_cons (sd_asg (ps_set (i := 5) sc_w_bounds.nd rfl (Or.inl rfl) (by refine pd_call (k := 3) (f := T.a_w_pick) (fd := T.d_w_pick) (ps := P_w_pick) (F := F_w_pick) ?_ ?_ ?_ ?_ ?_ ?_ ?_ ?_; exact d_w_pick T; exact hr.mono (by decide); exact rfl; exact T.g_w_pick; exact T.F_w_pick.kp; exact b_w_pick T; exact (wok_takes (takes_of rfl rfl rfl rfl)); exact (ad_cons (pd_var 0) (ad_cons (pd_L (pl_lst (ad_cons pd_int (ad_cons pd_int (ad_cons pd_int (ad_cons (pd_neg pd_int) (ad_cons (pd_sub (by refine pd_call (k := 2) (f := T.a_w_draw) (fd := T.d_w_draw) (ps := P_w_draw) (F := F_w_draw) ?_ ?_ ?_ ?_ ?_ ?_ ?_ ?_; exact d_w_draw T; exact hr.mono (by decide); exact rfl; exact T.g_w_draw; exact T.F_w_draw.kp; exact b_w_draw T; exact (wok_takes (takes_of rfl rfl rfl rfl)); exact (ad_cons (pd_var 0) (ad_cons pd_int ad_nil))) pd_int) ad_nil))))))) ad_nil))))) (sd_cons (sd_asg (ps_set (i := 6) sc_w_bounds.nd rfl (Or.inl rfl) (pd_add (pd_var 5) (by refine pd_call (k := 2) (f := T.a_w_draw) (fd := T.d_w_draw) (ps := P_w_draw) (F := F_w_draw) ?_ ?_ ?_ ?_ ?_ ?_ ?_ ?_; exact d_w_draw T; exact hr.mono (by decide); exact rfl; exact T.g_w_draw; exact T.F_w_draw.kp; exact b_w_draw T; exact (wok_takes (takes_of rfl rfl rfl rfl)); exact (ad_cons (pd_var 0) (ad_cons (pd_add (pd_var 2) pd_int) ad_nil)))))) (sd_cons (sd_if (qd_eq hr.units (by refine pd_call (k := 2) (f := T.a_w_draw) (fd := T.d_w_draw) (ps := P_w_draw) (F := F_w_draw) ?_ ?_ ?_ ?_ ?_ ?_ ?_ ?_; exact d_w_draw T; exact hr.mono (by decide); exact rfl; exact T.g_w_draw; exact T.F_w_draw.kp; exact b_w_draw T; exact (wok_takes (takes_of rfl rfl rfl rfl)); exact (ad_cons (pd_var 0) (ad_cons pd_int ad_nil))) pd_int) (sd_one (sd_asg (ps_set (i := 6) sc_w_bounds.nd rfl (Or.inl rfl) (pd_sub (pd_sub (pd_var 5) pd_int) (pd_mul (by refine pd_call (k := 2) (f := T.a_w_draw) (fd := T.d_w_draw) (ps := P_w_draw) (F := F_w_draw) ?_ ?_ ?_ ?_ ?_ ?_ ?_ ?_; exact d_w_draw T; exact hr.mono (by decide); exact rfl; exact T.g_w_draw; exact T.F_w_draw.kp; exact b_w_draw T; exact (wok_takes (takes_of rfl rfl rfl rfl)); exact (ad_cons (pd_var 0) (ad_cons pd_int ad_nil))) (by refine pd_call (k := 2) (f := T.a_w_draw) (fd := T.d_w_draw) (ps := P_w_draw) (F := F_w_draw) ?_ ?_ ?_ ?_ ?_ ?_ ?_ ?_; exact d_w_draw T; exact hr.mono (by decide); exact rfl; exact T.g_w_draw; exact T.F_w_draw.kp; exact b_w_draw T; exact (wok_takes (takes_of rfl rfl rfl rfl)); exact (ad_cons (pd_var 0) (ad_cons pd_int ad_nil)))))))) sd_nil) (sd_one (sd_app (ps_expr (pe_bm PySem.F.plainAttrs_list PySem.F.slot_list_append PySem.F.type_list_append mt_append (pv 3) (pa_cons (pd_tup (ad_cons (pd_var 5) (ad_cons (pd_var 6) ad_nil))) pa_nil))))))))) (sd_frz 3 (sd_one (sd_ret (pd_ct call_tuple_of cd_tuple (by rfl) T.z_tuple (by decide +kernel) (ad_cons (pd_var 3) ad_nil))))))))
def B_w_subscripts : DS := (sSeq (sIf (tTr (eCB fIsi (aCons (eVar 0) (aCons (eC (.ty "list")) aNil)))) (sRet (eL (eCBL fList (aCons (eVar 0) aNil)))) sNx) (sSeq (sIf (tNo (tTr (eCB fIsi (aCons (eVar 0) (aCons (eC (.ty "tuple")) aNil))))) (sRet (eL (aLst (aCons (eVar 0) aNil)))) sNx) (sSeq (sMul [1, 2] (mOwn (aLst aNil) (mVal (eBin fIx (eVar 0) (eC (.int 0))) aNil))) (sSeq (whileD (tOn (tAn (tE (eBin fLe (eVar 2) (eBin fIx (eVar 0) (eC (.int 1))))) (tE (eBin fGt (eBin fIx (eVar 0) (eC (.int 2))) (eC (.int 0))))) (tAn (tE (eBin fGe (eVar 2) (eBin fIx (eVar 0) (eC (.int 1))))) (tE (eBin fLt (eBin fIx (eVar 0) (eC (.int 2))) (eC (.int 0)))))) (sSeq (sApp 1 (eVar 2)) (sAsg 2 (eBin fAdd (eVar 2) (eBin fIx (eVar 0) (eC (.int 2)))))) 100000000) (sFrz 1 (sRet (eVar 1)))))))
def F_w_subscripts : DF := runB 3 1 B_w_subscripts
theorem d_w_subscripts (T : Txt K mg) : FnD P w K mg base 1 T.a_w_subscripts T.d_w_subscripts P_w_subscripts F_w_subscripts := fnD T.F_w_subscripts sc_w_subscripts (by decide) B_w_subscripts (fun cdv A outer s H E hr => (sd_cons (sd_if (qd_tr (pd_cb call_isiA cd_isi (by rfl) T.z_isinstance (by decide +kernel) (ad_cons (pd_var 0) (ad_cons (pd_ty (by rfl) T.z_list (by decide +kernel)) ad_nil)))) (sd_one (sd_ret (pd_L (pl_ct call_list_of cl_list (by rfl) T.z_list (by decide +kernel) (ad_cons (pd_var 0) ad_nil))))) sd_nil) (sd_cons (sd_if (qd_not (qd_tr (pd_cb call_isiA cd_isi (by rfl) T.z_isinstance (by decide +kernel) (ad_cons (pd_var 0) (ad_cons (pd_ty (by rfl) T.z_tuple (by decide +kernel)) ad_nil))))) (sd_one (sd_ret (pd_L (pl_lst (ad_cons (pd_var 0) ad_nil))))) sd_nil) (sd_cons (sd_par2 (ps_par rfl sc_w_subscripts.nd rfl rfl (by decide) rfl rfl (md_own (pl_lst ad_nil) (md_val (pd_ix (pd_var 0) pd_int) md_nil)) rfl)) (sd_cons (sd_while 100000000 (passes_of rfl) (qd_or (qd_and (qd_le (pd_var 2) (pd_ix (pd_var 0) pd_int)) (qd_and1 (qd_gt (pd_ix (pd_var 0) pd_int) pd_int))).pt (qd_or1 (qd_and (qd_ge (pd_var 2) (pd_ix (pd_var 0) pd_int)) (qd_and1 (qd_lt (pd_ix (pd_var 0) pd_int) pd_int))).pt)).pt (sd_cons (sd_app (ps_expr (pe_bm PySem.F.plainAttrs_list PySem.F.slot_list_append PySem.F.type_list_append mt_append (pv 1) (pa_cons (pd_var 2) pa_nil)))) (sd_one (sd_asg (ps_set (i := 2) sc_w_subscripts.nd rfl (Or.inl rfl) (pd_add (pd_var 2) (pd_ix (pd_var 0) pd_int))))))) (sd_frz 1 (sd_one (sd_ret (pd_var 1)))))))))
def B_w_elements : DS := (sSeq (sAsg 1 (eL (aLst (aCons (eTup aNil) aNil)))) (sSeq (sFor (iSeq (eRev (eVar 0))) (gN 2) (sSeq (sAsg 3 (eL (aLst aNil))) (sSeq (sFor (iSeq (eVar 1)) (gN 4) (sAsg 3 (eBin fAdd (eVar 3) (eL (aLc (iSeq (eCall 1 F_w_subscripts (aCons (eVar 2) aNil))) (gN 5) tYesD (eBin fAdd (eTup (aCons (eVar 5) aNil)) (eVar 4)) [5]))))) (sAsg 1 (eVar 3))))) (sRet (eVar 1))))
def F_w_elements : DF := runB 6 1 B_w_elements
theorem d_w_elements (T : Txt K mg) : FnD P w K mg base 2 T.a_w_elements T.d_w_elements P_w_elements F_w_elements := fnD T.F_w_elements sc_w_elements (by decide) B_w_elements (fun cdv A outer s H E hr => (sd_cons (sd_asg (ps_set (i := 1) sc_w_elements.nd rfl (Or.inl rfl) (pd_L (pl_lst (ad_cons (pd_tup ad_nil) ad_nil))))) (sd_cons (sd_for (vs := [2]) (passes_of rfl) rfl (id_seq (pd_rev (pd_var 0))) (gd_name (i := 2) sc_w_elements.nd rfl (Or.inl rfl) (by decide)) (sd_cons (sd_asg (ps_set (i := 3) sc_w_elements.nd rfl (Or.inl rfl) (pd_L (pl_lst ad_nil)))) (sd_cons (sd_for (vs := [4]) (passes_of rfl) rfl (id_seq (pd_var 1)) (gd_name (i := 4) sc_w_elements.nd rfl (Or.inr rfl) (by decide)) (sd_one (sd_asg (ps_set (i := 3) sc_w_elements.nd rfl (Or.inl rfl) (pd_add (pd_var 3) (pd_L (pl_lc (own := [("_law_one", 5)]) rfl sc_w_elements.nd (id_seq (by refine pd_call (k := 1) (f := T.a_w_subscripts) (fd := T.d_w_subscripts) (ps := P_w_subscripts) (F := F_w_subscripts) ?_ ?_ ?_ ?_ ?_ ?_ ?_ ?_; exact d_w_subscripts T; exact hr.mono (by decide); exact rfl; exact T.g_w_subscripts; exact T.F_w_subscripts.kp; exact b_w_subscripts T; exact (wok_takes (takes_of rfl rfl rfl rfl)); exact (ad_cons (pd_var 2) ad_nil))) (blkOk_by (own := [("_law_one", 5)]) (N := N_w_elements) (sc := defScope s_w_elements) (by decide +kernel)) (fun _ _ _ _ _ => (gd_name (i := 5) sc_w_elements.nd rfl (Or.inl rfl) (by decide))) (fun _ _ _ _ _ => td_nil) (fun _ _ _ _ _ => (pd_add (pd_tup (ad_cons (pd_var 5) ad_nil)) (pd_var 4)))))))))) (sd_one (sd_asg (ps_set (i := 1) sc_w_elements.nd rfl (Or.inl rfl) (pd_var 3))))))) (sd_one (sd_ret (pd_var 1))))))
def B_w_place : DS := (sSeq (sMul [2, 3] (mVal (eC (.int 0)) (mVal (eC (.int 1)) aNil))) (sSeq (sFor (iZip (aCons (eVar 1) (aCons (eVar 0) aNil))) (gT (gCons' (gN 4) (gCons' (gT (gCons' (gN 5) (gCons' (gN 6) gNil')) 2) gNil')) 2) (sMul [2, 3] (mVal (eBin fAdd (eVar 2) (eBin fMul (eBin fSub (eVar 4) (eVar 5)) (eVar 3))) (mVal (eBin fMul (eVar 3) (eCB fMax2 (aCons (eC (.int 0)) (aCons (eBin fAdd (eBin fSub (eVar 6) (eVar 5)) (eC (.int 1))) aNil)))) aNil)))) (sRet (eVar 2))))
def F_w_place : DF := runB 7 2 B_w_place
theorem d_w_place (T : Txt K mg) : FnD P w K mg base 1 T.a_w_place T.d_w_place P_w_place F_w_place := fnD T.F_w_place sc_w_place (by decide) B_w_place (fun cdv A outer s H E hr => (sd_cons (sd_multi (ps_asg (pe_tup (md_val pd_int (md_val pd_int md_nil))) (pg_tup rfl (pgs_cons (pg_name (i := 2) sc_w_place.nd rfl (Or.inl rfl)) (pgs_cons (pg_name (i := 3) sc_w_place.nd rfl (Or.inl rfl)) pgs_nil)))) rfl (by decide)) (sd_cons (sd_for (vs := [4, 5, 6]) (passes_of rfl) rfl (id_zip2 (by rfl) T.z_zip (ad_cons (pd_var 1) (ad_cons (pd_var 0) ad_nil)) (aCons_len (aCons_len (fun _ _ _ _ h => aNil_len h)))) (gd_tup rfl (gd_cons (gd_name (i := 4) sc_w_place.nd rfl (Or.inl rfl) (by decide)) (gd_cons (gd_tup rfl (gd_cons (gd_name (i := 5) sc_w_place.nd rfl (Or.inl rfl) (by decide)) (gd_cons (gd_name (i := 6) sc_w_place.nd rfl (Or.inl rfl) (by decide)) gd_nil))) gd_nil))) (sd_one (sd_par2 (ps_par rfl sc_w_place.nd rfl rfl (by decide) rfl rfl (md_val (pd_add (pd_var 2) (pd_mul (pd_sub (pd_var 4) (pd_var 5)) (pd_var 3))) (md_val (pd_mul (pd_var 3) (pd_cb (call_max2 rfl) cd_max2 (by rfl) T.z_max (by decide +kernel) (ad_cons pd_int (ad_cons (pd_add (pd_sub (pd_var 6) (pd_var 5)) pd_int) ad_nil)))) md_nil)) rfl)))) (sd_one (sd_ret (pd_var 2))))))
def B_w_one_of : DS := (sSeq (sNew 2 (aLst aNil)) (sSeq (sFor (iSeq (eVar 0)) (gT (gCons' (gN 3) (gCons' (gN 4) gNil')) 2) (sSeq (sApp 2 (eBin fAdd (eVar 3) (eBin fMod (eCB fInt (aCons (eVar 1) aNil)) (eBin fAdd (eBin fSub (eVar 4) (eVar 3)) (eC (.int 1)))))) (sAsg 1 (eBin fDiv (eVar 1) (eBin fAdd (eBin fSub (eVar 4) (eVar 3)) (eC (.int 1))))))) (sFrz 2 (sRet (eCB fTuple (aCons (eVar 2) aNil))))))
def F_w_one_of : DF := runB 5 2 B_w_one_of
theorem d_w_one_of (T : Txt K mg) : FnD P w K mg base 1 T.a_w_one_of T.d_w_one_of P_w_one_of F_w_one_of := fnD T.F_w_one_of sc_w_one_of (by decide) B_w_one_of (fun cdv A outer s H E hr => (sd_cons (sd_new (ps_set (i := 2) sc_w_one_of.nd rfl (Or.inl rfl) (pl_lst ad_nil))) (sd_cons (sd_for (vs := [3, 4]) (passes_of rfl) rfl (id_seq (pd_var 0)) (gd_tup rfl (gd_cons (gd_name (i := 3) sc_w_one_of.nd rfl (Or.inl rfl) (by decide)) (gd_cons (gd_name (i := 4) sc_w_one_of.nd rfl (Or.inl rfl) (by decide)) gd_nil))) (sd_cons (sd_app (ps_expr (pe_bm PySem.F.plainAttrs_list PySem.F.slot_list_append PySem.F.type_list_append mt_append (pv 2) (pa_cons (pd_add (pd_var 3) (pd_mod (pd_ct call_int1 cd_int (by rfl) T.z_int (by decide +kernel) (ad_cons (pd_var 1) ad_nil)) (pd_add (pd_sub (pd_var 4) (pd_var 3)) pd_int))) pa_nil)))) (sd_one (sd_asg (ps_set (i := 1) sc_w_one_of.nd rfl (Or.inl rfl) (pd_div (pd_var 1) (pd_add (pd_sub (pd_var 4) (pd_var 3)) pd_int))))))) (sd_frz 2 (sd_one (sd_ret (pd_ct call_tuple_of cd_tuple (by rfl) T.z_tuple (by decide +kernel) (ad_cons (pd_var 2) ad_nil))))))))
def B_w_size : DS := (sSeq (sAsg 1 (eC (.int 1))) (sSeq (sFor (iSeq (eVar 0)) (gT (gCons' (gN 2) (gCons' (gN 3) gNil')) 2) (sAsg 1 (eBin fMul (eVar 1) (eCB fMax2 (aCons (eC (.int 0)) (aCons (eBin fAdd (eBin fSub (eVar 3) (eVar 2)) (eC (.int 1))) aNil)))))) (sRet (eVar 1))))
def F_w_size : DF := runB 4 1 B_w_size
theorem d_w_size (T : Txt K mg) : FnD P w K mg base 1 T.a_w_size T.d_w_size P_w_size F_w_size := fnD T.F_w_size sc_w_size (by decide) B_w_size (fun cdv A outer s H E hr => (sd_cons (sd_asg (ps_set (i := 1) sc_w_size.nd rfl (Or.inl rfl) pd_int)) (sd_cons (sd_for (vs := [2, 3]) (passes_of rfl) rfl (id_seq (pd_var 0)) (gd_tup rfl (gd_cons (gd_name (i := 2) sc_w_size.nd rfl (Or.inl rfl) (by decide)) (gd_cons (gd_name (i := 3) sc_w_size.nd rfl (Or.inl rfl) (by decide)) gd_nil))) (sd_one (sd_asg (ps_set (i := 1) sc_w_size.nd rfl (Or.inl rfl) (pd_mul (pd_var 1) (pd_cb (call_max2 rfl) cd_max2 (by rfl) T.z_max (by decide +kernel) (ad_cons pd_int (ad_cons (pd_add (pd_sub (pd_var 3) (pd_var 2)) pd_int) ad_nil)))))))) (sd_one (sd_ret (pd_var 1))))))
def B_w_hand : DS := (sSeq (sAsg 2 (eL (aRg1 (eCall 1 F_w_size (aCons (eVar 1) aNil))))) (sSeq (sAsg 3 (eCall 2 F_w_draw (aCons (eVar 0) (aCons (eC (.int 4)) aNil)))) (sSeq (sIf (tOn (tE (eBin fEq (eVar 3) (eC (.int 0)))) (tE (eBin fEq (eVar 2) (eL (aLst aNil))))) (sRet (eTup (aCons (eC (.str "whole")) (aCons (eVar 2) aNil)))) sNx) (sSeq (sIf (tE (eBin fLt (eVar 3) (eC (.int 3)))) (sSeq (sAsg 4 (eCall 2 F_w_one_of (aCons (eVar 1) (aCons (eCall 2 F_w_draw (aCons (eVar 0) (aCons (eCB fLen (aCons (eVar 2) aNil)) aNil))) aNil)))) (sRet (eTup (aCons (eTup (aCons (eC (.str "from")) (aCons (eVar 4) aNil))) (aCons (eSl (eVar 2) (oSome (eCall 2 F_w_place (aCons (eVar 1) (aCons (eVar 4) aNil)))) oNone) aNil))))) sNx) (sSeq (sMul [5, 6] (mOwn (aLst aNil) (mVal (eC (.bl true)) aNil))) (sSeq (sFor (iSeq (eVar 1)) (gT (gCons' (gN 7) (gCons' (gN 8) gNil')) 2) (sSeq (sAsg 9 (eL (eCBL fSorted (aCons (eL (aLc (iRng1 (aCons (eC (.int 2)) aNil)) (gN 11) tYesD (eBin fAdd (eVar 7) (eCall 2 F_w_draw (aCons (eVar 0) (aCons (eBin fAdd (eBin fSub (eVar 8) (eVar 7)) (eC (.int 1))) aNil)))) [11])) aNil)))) (sIf (tAn (tTr (eVar 6)) (tE (eBin fGt (eCall 2 F_w_draw (aCons (eVar 0) (aCons (eC (.int 3)) aNil))) (eC (.int 0))))) (sApp 5 (eTup (aCons (eVar 7) (aCons (eVar 8) (aCons (eC (.int 1)) aNil))))) (sIf (tTr (eVar 6)) (sSeq (sApp 5 (eCall 2 F_w_pick (aCons (eVar 0) (aCons (eL (aLst (aCons (eTup (aCons (eBin fIx (eVar 9) (eC (.int 0))) (aCons (eBin fIx (eVar 9) (eC (.int 1))) (aCons (eC (.int 1)) aNil)))) (aCons (eL (aLst (aCons (eBin fIx (eVar 9) (eC (.int 0))) aNil))) (aCons (eBin fIx (eVar 9) (eC (.int 1))) aNil))))) aNil)))) (sAsg 6 (eC (.bl false)))) (sApp 5 (eCall 2 F_w_pick (aCons (eVar 0) (aCons (eL (aLst (aCons (eBin fIx (eVar 9) (eC (.int 0))) (aCons (eTup (aCons (eBin fIx (eVar 9) (eC (.int 0))) (aCons (eBin fIx (eVar 9) (eC (.int 0))) (aCons (eC (.int 4)) aNil)))) (aCons (eL (aLst (aCons (eBin fIx (eVar 9) (eC (.int 1))) aNil))) aNil))))) aNil)))))))) (sFrz 5 (sRet (eTup (aCons (eTup (aCons (eC (.str "section")) (aCons (eCB fTuple (aCons (eVar 5) aNil)) aNil))) (aCons (eL (aLc (iSeq (eCall 1 F_w_elements (aCons (eVar 5) aNil))) (gN 10) tYesD (eCall 2 F_w_place (aCons (eVar 1) (aCons (eVar 10) aNil))) [10])) aNil)))))))))))
def F_w_hand : DF := runB 12 2 B_w_hand
theorem d_w_hand (T : Txt K mg) : FnD P w K mg base 4 T.a_w_hand T.d_w_hand P_w_hand F_w_hand := fnD T.F_w_hand sc_w_hand (by decide) B_w_hand (fun cdv A outer s H E hr => (sd_cons (sd_asg (ps_set (i := 2) sc_w_hand.nd rfl (Or.inl rfl) (pd_L (pl_rg1 rfl (by rfl) T.z_list (by rfl) T.z_range (by refine pd_call (k := 1) (f := T.a_w_size) (fd := T.d_w_size) (ps := P_w_size) (F := F_w_size) ?_ ?_ ?_ ?_ ?_ ?_ ?_ ?_; exact d_w_size T; exact hr.mono (by decide); exact rfl; exact T.g_w_size; exact T.F_w_size.kp; exact b_w_size T; exact (wok_takes (takes_of rfl rfl rfl rfl)); exact (ad_cons (pd_var 1) ad_nil)))))) (sd_cons (sd_asg (ps_set (i := 3) sc_w_hand.nd rfl (Or.inl rfl) (by refine pd_call (k := 2) (f := T.a_w_draw) (fd := T.d_w_draw) (ps := P_w_draw) (F := F_w_draw) ?_ ?_ ?_ ?_ ?_ ?_ ?_ ?_; exact d_w_draw T; exact hr.mono (by decide); exact rfl; exact T.g_w_draw; exact T.F_w_draw.kp; exact b_w_draw T; exact (wok_takes (takes_of rfl rfl rfl rfl)); exact (ad_cons (pd_var 0) (ad_cons pd_int ad_nil))))) (sd_cons (sd_if (qd_or (qd_eq hr.units (pd_var 3) pd_int) (qd_or1 (qd_eq hr.units (pd_var 2) (pd_L (pl_lst ad_nil))))).pt (sd_one (sd_ret (pd_tup (ad_cons pd_str (ad_cons (pd_var 2) ad_nil))))) sd_nil) (sd_cons (sd_if (qd_lt (pd_var 3) pd_int) (sd_cons (sd_asg (ps_set (i := 4) sc_w_hand.nd rfl (Or.inl rfl) (by refine pd_call (k := 1) (f := T.a_w_one_of) (fd := T.d_w_one_of) (ps := P_w_one_of) (F := F_w_one_of) ?_ ?_ ?_ ?_ ?_ ?_ ?_ ?_; exact d_w_one_of T; exact hr.mono (by decide); exact rfl; exact T.g_w_one_of; exact T.F_w_one_of.kp; exact b_w_one_of T; exact (wok_takes (takes_of rfl rfl rfl rfl)); exact (ad_cons (pd_var 1) (ad_cons (by refine pd_call (k := 2) (f := T.a_w_draw) (fd := T.d_w_draw) (ps := P_w_draw) (F := F_w_draw) ?_ ?_ ?_ ?_ ?_ ?_ ?_ ?_; exact d_w_draw T; exact hr.mono (by decide); exact rfl; exact T.g_w_draw; exact T.F_w_draw.kp; exact b_w_draw T; exact (wok_takes (takes_of rfl rfl rfl rfl)); exact (ad_cons (pd_var 0) (ad_cons (pd_cb call_len cd_len (by rfl) T.z_len (by decide +kernel) (ad_cons (pd_var 2) ad_nil)) ad_nil))) ad_nil))))) (sd_one (sd_ret (pd_tup (ad_cons (pd_tup (ad_cons pd_str (ad_cons (pd_var 4) ad_nil))) (ad_cons (pd_sl (pd_var 2) (od_some (by refine pd_call (k := 1) (f := T.a_w_place) (fd := T.d_w_place) (ps := P_w_place) (F := F_w_place) ?_ ?_ ?_ ?_ ?_ ?_ ?_ ?_; exact d_w_place T; exact hr.mono (by decide); exact rfl; exact T.g_w_place; exact T.F_w_place.kp; exact b_w_place T; exact (wok_takes (takes_of rfl rfl rfl rfl)); exact (ad_cons (pd_var 1) (ad_cons (pd_var 4) ad_nil)))) od_none) ad_nil)))))) sd_nil) (sd_cons (sd_par2 (ps_par rfl sc_w_hand.nd rfl rfl (by decide) rfl rfl (md_own (pl_lst ad_nil) (md_val pd_bl md_nil)) rfl)) (sd_cons (sd_for (vs := [7, 8]) (passes_of rfl) rfl (id_seq (pd_var 1)) (gd_tup rfl (gd_cons (gd_name (i := 7) sc_w_hand.nd rfl (Or.inr rfl) (by decide)) (gd_cons (gd_name (i := 8) sc_w_hand.nd rfl (Or.inr rfl) (by decide)) gd_nil))) (sd_cons (sd_asg (ps_set (i := 9) sc_w_hand.nd rfl (Or.inl rfl) (pd_L (pl_cb cr_sortedI cl_sorted (by rfl) T.z_sorted (by decide +kernel) (ad_cons (pd_L (pl_lc (own := [("_law_k", 11)]) rfl sc_w_hand.nd (id_rng1 (by rfl) T.z_range (ad_cons pd_int ad_nil)) (blkOk_by (own := [("_law_k", 11)]) (N := N_w_hand) (sc := defScope s_w_hand) (by decide +kernel)) (fun _ _ _ _ _ => (gd_name (i := 11) sc_w_hand.nd rfl (Or.inl rfl) (by decide))) (fun _ _ _ _ _ => td_nil) (fun _ _ _ _ _ => (pd_add (pd_var 7) (by refine pd_call (k := 2) (f := T.a_w_draw) (fd := T.d_w_draw) (ps := P_w_draw) (F := F_w_draw) ?_ ?_ ?_ ?_ ?_ ?_ ?_ ?_; exact d_w_draw T; exact hr.mono (by decide); exact rfl; exact T.g_w_draw; exact T.F_w_draw.kp; exact b_w_draw T; exact wok0; exact (ad_cons (pd_var 0) (ad_cons (pd_add (pd_sub (pd_var 8) (pd_var 7)) pd_int) ad_nil))))))) ad_nil))))) (sd_one (sd_if (qd_and (qd_tr (pd_var 6)) (qd_and1 (qd_gt (by refine pd_call (k := 2) (f := T.a_w_draw) (fd := T.d_w_draw) (ps := P_w_draw) (F := F_w_draw) ?_ ?_ ?_ ?_ ?_ ?_ ?_ ?_; exact d_w_draw T; exact hr.mono (by decide); exact rfl; exact T.g_w_draw; exact T.F_w_draw.kp; exact b_w_draw T; exact (wok_takes (takes_of rfl rfl rfl rfl)); exact (ad_cons (pd_var 0) (ad_cons pd_int ad_nil))) pd_int))).pt (sd_one (sd_app (ps_expr (pe_bm PySem.F.plainAttrs_list PySem.F.slot_list_append PySem.F.type_list_append mt_append (pv 5) (pa_cons (pd_tup (ad_cons (pd_var 7) (ad_cons (pd_var 8) (ad_cons pd_int ad_nil)))) pa_nil))))) (sd_one (sd_if (qd_tr (pd_var 6)) (sd_cons (sd_app (ps_expr (pe_bm PySem.F.plainAttrs_list PySem.F.slot_list_append PySem.F.type_list_append mt_append (pv 5) (pa_cons (by refine pd_call (k := 3) (f := T.a_w_pick) (fd := T.d_w_pick) (ps := P_w_pick) (F := F_w_pick) ?_ ?_ ?_ ?_ ?_ ?_ ?_ ?_; exact d_w_pick T; exact hr.mono (by decide); exact rfl; exact T.g_w_pick; exact T.F_w_pick.kp; exact b_w_pick T; exact (wok_takes (takes_of rfl rfl rfl rfl)); exact (ad_cons (pd_var 0) (ad_cons (pd_L (pl_lst (ad_cons (pd_tup (ad_cons (pd_ix (pd_var 9) pd_int) (ad_cons (pd_ix (pd_var 9) pd_int) (ad_cons pd_int ad_nil)))) (ad_cons (pd_L (pl_lst (ad_cons (pd_ix (pd_var 9) pd_int) ad_nil))) (ad_cons (pd_ix (pd_var 9) pd_int) ad_nil))))) ad_nil))) pa_nil)))) (sd_one (sd_asg (ps_set (i := 6) sc_w_hand.nd rfl (Or.inl rfl) pd_bl)))) (sd_one (sd_app (ps_expr (pe_bm PySem.F.plainAttrs_list PySem.F.slot_list_append PySem.F.type_list_append mt_append (pv 5) (pa_cons (by refine pd_call (k := 3) (f := T.a_w_pick) (fd := T.d_w_pick) (ps := P_w_pick) (F := F_w_pick) ?_ ?_ ?_ ?_ ?_ ?_ ?_ ?_; exact d_w_pick T; exact hr.mono (by decide); exact rfl; exact T.g_w_pick; exact T.F_w_pick.kp; exact b_w_pick T; exact (wok_takes (takes_of rfl rfl rfl rfl)); exact (ad_cons (pd_var 0) (ad_cons (pd_L (pl_lst (ad_cons (pd_ix (pd_var 9) pd_int) (ad_cons (pd_tup (ad_cons (pd_ix (pd_var 9) pd_int) (ad_cons (pd_ix (pd_var 9) pd_int) (ad_cons pd_int ad_nil)))) (ad_cons (pd_L (pl_lst (ad_cons (pd_ix (pd_var 9) pd_int) ad_nil))) ad_nil))))) ad_nil))) pa_nil))))))))))) (sd_frz 5 (sd_one (sd_ret (pd_tup (ad_cons (pd_tup (ad_cons pd_str (ad_cons (pd_ct call_tuple_of cd_tuple (by rfl) T.z_tuple (by decide +kernel) (ad_cons (pd_var 5) ad_nil)) ad_nil))) (ad_cons (pd_L (pl_lc (own := [("_law_one", 10)]) rfl sc_w_hand.nd (id_seq (by refine pd_call (k := 2) (f := T.a_w_elements) (fd := T.d_w_elements) (ps := P_w_elements) (F := F_w_elements) ?_ ?_ ?_ ?_ ?_ ?_ ?_ ?_; exact d_w_elements T; exact hr.mono (by decide); exact rfl; exact T.g_w_elements; exact T.F_w_elements.kp; exact b_w_elements T; exact (wok_takes (takes_of rfl rfl rfl rfl)); exact (ad_cons (pd_var 5) ad_nil))) (blkOk_by (own := [("_law_one", 10)]) (N := N_w_hand) (sc := defScope s_w_hand) (by decide +kernel)) (fun _ _ _ _ _ => (gd_name (i := 10) sc_w_hand.nd rfl (Or.inl rfl) (by decide))) (fun _ _ _ _ _ => td_nil) (fun _ _ _ _ _ => (by refine pd_call (k := 1) (f := T.a_w_place) (fd := T.d_w_place) (ps := P_w_place) (F := F_w_place) ?_ ?_ ?_ ?_ ?_ ?_ ?_ ?_; exact d_w_place T; exact hr.mono (by decide); exact rfl; exact T.g_w_place; exact T.F_w_place.kp; exact b_w_place T; exact wok0; exact (ad_cons (pd_var 1) (ad_cons (pd_var 10) ad_nil)))))) ad_nil)))))))))))))
def B_w_dummy : DS := (sSeq (sMul [2, 3] (mOwn (aLst aNil) (mVal (eVar 1) aNil))) (sSeq (sFor (iRng1 (aCons (eCall 2 F_w_pick (aCons (eVar 0) (aCons (eL (aLst (aCons (eC (.int 0)) (aCons (eC (.int 1)) (aCons (eC (.int 2)) (aCons (eC (.int 2)) (aCons (eC (.int 4)) (aCons (eC (.int 6)) aNil)))))))) aNil))) aNil)) (gN 4) (sSeq (sMul [5, 6] (mVal (eBin fSub (eCall 2 F_w_draw (aCons (eVar 0) (aCons (eC (.int 5)) aNil))) (eC (.int 2))) (mVal (eBin fAdd (eC (.int 1)) (eCall 2 F_w_draw (aCons (eVar 0) (aCons (eIf (tE (eBin fLt (eVar 4) (eC (.int 2)))) (eC (.int 4)) (eC (.int 2))) aNil)))) aNil))) (sSeq (sApp 2 (eTup (aCons (eVar 5) (aCons (eBin fSub (eBin fSub (eBin fAdd (eVar 5) (eVar 6)) (eC (.int 1))) (eCB fInt (aCons (eBin fEq (eCall 2 F_w_draw (aCons (eVar 0) (aCons (eC (.int 12)) aNil))) (eC (.int 0))) aNil))) aNil)))) (sAsg 3 (eBin fDiv (eVar 3) (eCB fMax2 (aCons (eC (.int 1)) (aCons (eVar 6) aNil)))))))) (sSeq (sAsg 5 (eBin fSub (eCall 2 F_w_draw (aCons (eVar 0) (aCons (eC (.int 5)) aNil))) (eC (.int 2)))) (sSeq (sAsg 7 (eL (aLst (aCons (eC .non) (aCons (eC .non) (aCons (eBin fSub (eBin fAdd (eVar 5) (eVar 3)) (eC (.int 1))) (aCons (eBin fSub (eBin fAdd (eVar 5) (eVar 3)) (eC (.int 1))) (aCons (eBin fAdd (eVar 5) (eCall 2 F_w_draw (aCons (eVar 0) (aCons (eBin fAdd (eVar 3) (eC (.int 2))) aNil)))) (aCons (eBin fSub (eVar 5) (eC (.int 1))) (aCons (eBin fSub (eVar 5) (eC (.int 4))) aNil)))))))))) (sSeq (sAsg 8 (eCall 2 F_w_pick (aCons (eVar 0) (aCons (eVar 7) aNil)))) (sFrz 2 (sRet (eBin fAdd (eCB fTuple (aCons (eVar 2) aNil)) (eTup (aCons (eTup (aCons (eVar 5) (aCons (eVar 8) aNil))) aNil))))))))))
def F_w_dummy : DF := runB 9 2 B_w_dummy
theorem d_w_dummy (T : Txt K mg) : FnD P w K mg base 4 T.a_w_dummy T.d_w_dummy P_w_dummy F_w_dummy := fnD T.F_w_dummy sc_w_dummy (by decide) B_w_dummy (fun cdv A outer s H E hr => (sd_cons (sd_par2 (ps_par rfl sc_w_dummy.nd rfl rfl (by decide) rfl rfl (md_own (pl_lst ad_nil) (md_val (pd_var 1) md_nil)) rfl)) (sd_cons (sd_for (vs := [4]) (passes_of rfl) rfl (id_rng1 (by rfl) T.z_range (ad_cons (by refine pd_call (k := 3) (f := T.a_w_pick) (fd := T.d_w_pick) (ps := P_w_pick) (F := F_w_pick) ?_ ?_ ?_ ?_ ?_ ?_ ?_ ?_; exact d_w_pick T; exact hr.mono (by decide); exact rfl; exact T.g_w_pick; exact T.F_w_pick.kp; exact b_w_pick T; exact (wok_takes (takes_of rfl rfl rfl rfl)); exact (ad_cons (pd_var 0) (ad_cons (pd_L (pl_lst (ad_cons pd_int (ad_cons pd_int (ad_cons pd_int (ad_cons pd_int (ad_cons pd_int (ad_cons pd_int ad_nil)))))))) ad_nil))) ad_nil)) (gd_name (i := 4) sc_w_dummy.nd rfl (Or.inl rfl) (by decide)) (sd_cons (sd_par2 (ps_par rfl sc_w_dummy.nd rfl rfl (by decide) rfl rfl (md_val (pd_sub (by refine pd_call (k := 2) (f := T.a_w_draw) (fd := T.d_w_draw) (ps := P_w_draw) (F := F_w_draw) ?_ ?_ ?_ ?_ ?_ ?_ ?_ ?_; exact d_w_draw T; exact hr.mono (by decide); exact rfl; exact T.g_w_draw; exact T.F_w_draw.kp; exact b_w_draw T; exact (wok_takes (takes_of rfl rfl rfl rfl)); exact (ad_cons (pd_var 0) (ad_cons pd_int ad_nil))) pd_int) (md_val (pd_add pd_int (by refine pd_call (k := 2) (f := T.a_w_draw) (fd := T.d_w_draw) (ps := P_w_draw) (F := F_w_draw) ?_ ?_ ?_ ?_ ?_ ?_ ?_ ?_; exact d_w_draw T; exact hr.mono (by decide); exact rfl; exact T.g_w_draw; exact T.F_w_draw.kp; exact b_w_draw T; exact (wok_takes (takes_of rfl rfl rfl rfl)); exact (ad_cons (pd_var 0) (ad_cons (pd_if (qd_lt (pd_var 4) pd_int) pd_int pd_int) ad_nil)))) md_nil)) rfl)) (sd_cons (sd_app (ps_expr (pe_bm PySem.F.plainAttrs_list PySem.F.slot_list_append PySem.F.type_list_append mt_append (pv 2) (pa_cons (pd_tup (ad_cons (pd_var 5) (ad_cons (pd_sub (pd_sub (pd_add (pd_var 5) (pd_var 6)) pd_int) (pd_ct call_int1 cd_int (by rfl) T.z_int (by decide +kernel) (ad_cons (pd_eq hr.units (by refine pd_call (k := 2) (f := T.a_w_draw) (fd := T.d_w_draw) (ps := P_w_draw) (F := F_w_draw) ?_ ?_ ?_ ?_ ?_ ?_ ?_ ?_; exact d_w_draw T; exact hr.mono (by decide); exact rfl; exact T.g_w_draw; exact T.F_w_draw.kp; exact b_w_draw T; exact (wok_takes (takes_of rfl rfl rfl rfl)); exact (ad_cons (pd_var 0) (ad_cons pd_int ad_nil))) pd_int) ad_nil))) ad_nil))) pa_nil)))) (sd_one (sd_asg (ps_set (i := 3) sc_w_dummy.nd rfl (Or.inl rfl) (pd_div (pd_var 3) (pd_cb (call_max2 rfl) cd_max2 (by rfl) T.z_max (by decide +kernel) (ad_cons pd_int (ad_cons (pd_var 6) ad_nil)))))))))) (sd_cons (sd_asg (ps_set (i := 5) sc_w_dummy.nd rfl (Or.inl rfl) (pd_sub (by refine pd_call (k := 2) (f := T.a_w_draw) (fd := T.d_w_draw) (ps := P_w_draw) (F := F_w_draw) ?_ ?_ ?_ ?_ ?_ ?_ ?_ ?_; exact d_w_draw T; exact hr.mono (by decide); exact rfl; exact T.g_w_draw; exact T.F_w_draw.kp; exact b_w_draw T; exact (wok_takes (takes_of rfl rfl rfl rfl)); exact (ad_cons (pd_var 0) (ad_cons pd_int ad_nil))) pd_int))) (sd_cons (sd_asg (ps_set (i := 7) sc_w_dummy.nd rfl (Or.inl rfl) (pd_L (pl_lst (ad_cons pd_non (ad_cons pd_non (ad_cons (pd_sub (pd_add (pd_var 5) (pd_var 3)) pd_int) (ad_cons (pd_sub (pd_add (pd_var 5) (pd_var 3)) pd_int) (ad_cons (pd_add (pd_var 5) (by refine pd_call (k := 2) (f := T.a_w_draw) (fd := T.d_w_draw) (ps := P_w_draw) (F := F_w_draw) ?_ ?_ ?_ ?_ ?_ ?_ ?_ ?_; exact d_w_draw T; exact hr.mono (by decide); exact rfl; exact T.g_w_draw; exact T.F_w_draw.kp; exact b_w_draw T; exact (wok_takes (takes_of rfl rfl rfl rfl)); exact (ad_cons (pd_var 0) (ad_cons (pd_add (pd_var 3) pd_int) ad_nil)))) (ad_cons (pd_sub (pd_var 5) pd_int) (ad_cons (pd_sub (pd_var 5) pd_int) ad_nil))))))))))) (sd_cons (sd_asg (ps_set (i := 8) sc_w_dummy.nd rfl (Or.inl rfl) (by refine pd_call (k := 3) (f := T.a_w_pick) (fd := T.d_w_pick) (ps := P_w_pick) (F := F_w_pick) ?_ ?_ ?_ ?_ ?_ ?_ ?_ ?_; exact d_w_pick T; exact hr.mono (by decide); exact rfl; exact T.g_w_pick; exact T.F_w_pick.kp; exact b_w_pick T; exact (wok_takes (takes_of rfl rfl rfl rfl)); exact (ad_cons (pd_var 0) (ad_cons (pd_var 7) ad_nil))))) (sd_frz 2 (sd_one (sd_ret (pd_add (pd_ct call_tuple_of cd_tuple (by rfl) T.z_tuple (by decide +kernel) (ad_cons (pd_var 2) ad_nil)) (pd_tup (ad_cons (pd_tup (ad_cons (pd_var 5) (ad_cons (pd_var 8) ad_nil))) ad_nil))))))))))))
def B_w_seats : DS := (sSeq (sAsg 2 (eL (aLst (aCons (eTup aNil) aNil)))) (sSeq (sFor (iSeq (eRev (eSl (eVar 0) oNone (oSome (eUn fNeg (eC (.int 1))))))) (gT (gCons' (gN 3) (gCons' (gN 4) gNil')) 2) (sSeq (sAsg 5 (eL (aLst aNil))) (sSeq (sFor (iSeq (eVar 2)) (gN 6) (sAsg 5 (eBin fAdd (eVar 5) (eL (aLc (iRng2 (aCons (eVar 3) (aCons (eBin fAdd (eVar 4) (eC (.int 1))) aNil))) (gN 9) tYesD (eBin fAdd (eTup (aCons (eVar 9) aNil)) (eVar 6)) [9]))))) (sAsg 2 (eVar 5))))) (sSeq (sMul [7, 8] (mVal (eL (aLst aNil)) (mVal (eBin fIx (eBin fIx (eVar 0) (eUn fNeg (eC (.int 1)))) (eC (.int 0))) aNil))) (sSeq (whileD (tAn (tE (eBin fNe (eVar 2) (eL (aLst aNil)))) (tIfD (tE (eBin fIsN (eBin fIx (eBin fIx (eVar 0) (eUn fNeg (eC (.int 1)))) (eC (.int 1))) (eC .non))) (tE (eBin fLt (eCB fLen (aCons (eVar 7) aNil)) (eVar 1))) (tE (eBin fLe (eVar 8) (eBin fIx (eBin fIx (eVar 0) (eUn fNeg (eC (.int 1)))) (eC (.int 1))))))) (sSeq (sAsg 7 (eBin fAdd (eVar 7) (eL (aLc (iSeq (eVar 2)) (gN 6) tYesD (eBin fAdd (eVar 6) (eTup (aCons (eVar 8) aNil))) [6])))) (sAsg 8 (eBin fAdd (eVar 8) (eC (.int 1))))) 100000000) (sSeq (sIf (tE (eBin fIsN (eBin fIx (eBin fIx (eVar 0) (eUn fNeg (eC (.int 1)))) (eC (.int 1))) (eC .non))) (sRet (eSl (eVar 7) oNone (oSome (eVar 1)))) sNx) (sRet (eIf (tE (eBin fLe (eCB fLen (aCons (eVar 7) aNil)) (eVar 1))) (eVar 7) (eC .non))))))))
def F_w_seats : DF := runB 10 2 B_w_seats
theorem d_w_seats (T : Txt K mg) : FnD P w K mg base 1 T.a_w_seats T.d_w_seats P_w_seats F_w_seats := fnD T.F_w_seats sc_w_seats (by decide) B_w_seats (fun cdv A outer s H E hr => (sd_cons (sd_asg (ps_set (i := 2) sc_w_seats.nd rfl (Or.inl rfl) (pd_L (pl_lst (ad_cons (pd_tup ad_nil) ad_nil))))) (sd_cons (sd_for (vs := [3, 4]) (passes_of rfl) rfl (id_seq (pd_rev (pd_sl (pd_var 0) od_none (od_some (pd_neg pd_int))))) (gd_tup rfl (gd_cons (gd_name (i := 3) sc_w_seats.nd rfl (Or.inl rfl) (by decide)) (gd_cons (gd_name (i := 4) sc_w_seats.nd rfl (Or.inl rfl) (by decide)) gd_nil))) (sd_cons (sd_asg (ps_set (i := 5) sc_w_seats.nd rfl (Or.inl rfl) (pd_L (pl_lst ad_nil)))) (sd_cons (sd_for (vs := [6]) (passes_of rfl) rfl (id_seq (pd_var 2)) (gd_name (i := 6) sc_w_seats.nd rfl (Or.inr rfl) (by decide)) (sd_one (sd_asg (ps_set (i := 5) sc_w_seats.nd rfl (Or.inl rfl) (pd_add (pd_var 5) (pd_L (pl_lc (own := [("_law_one", 9)]) rfl sc_w_seats.nd (id_rng2 (by rfl) T.z_range (ad_cons (pd_var 3) (ad_cons (pd_add (pd_var 4) pd_int) ad_nil))) (blkOk_by (own := [("_law_one", 9)]) (N := N_w_seats) (sc := defScope s_w_seats) (by decide +kernel)) (fun _ _ _ _ _ => (gd_name (i := 9) sc_w_seats.nd rfl (Or.inl rfl) (by decide))) (fun _ _ _ _ _ => td_nil) (fun _ _ _ _ _ => (pd_add (pd_tup (ad_cons (pd_var 9) ad_nil)) (pd_var 6)))))))))) (sd_one (sd_asg (ps_set (i := 2) sc_w_seats.nd rfl (Or.inl rfl) (pd_var 5))))))) (sd_cons (sd_multi (ps_asg (pe_tup (md_val (pd_L (pl_lst ad_nil)) (md_val (pd_ix (pd_ix (pd_var 0) (pd_neg pd_int)) pd_int) md_nil))) (pg_tup rfl (pgs_cons (pg_name (i := 7) sc_w_seats.nd rfl (Or.inl rfl)) (pgs_cons (pg_name (i := 8) sc_w_seats.nd rfl (Or.inr rfl)) pgs_nil)))) rfl (by decide)) (sd_cons (sd_while 100000000 (passes_of rfl) (qd_and (qd_ne hr.units (pd_var 2) (pd_L (pl_lst ad_nil))) (qd_and1 (qd_ifx (qd_isN (pd_ix (pd_ix (pd_var 0) (pd_neg pd_int)) pd_int) pd_non) (qd_lt (pd_cb call_len cd_len (by rfl) T.z_len (by decide +kernel) (ad_cons (pd_var 7) ad_nil)) (pd_var 1)) (qd_le (pd_var 8) (pd_ix (pd_ix (pd_var 0) (pd_neg pd_int)) pd_int))))).pt (sd_cons (sd_asg (ps_set (i := 7) sc_w_seats.nd rfl (Or.inl rfl) (pd_add (pd_var 7) (pd_L (pl_lc (own := [("_law_row", 6)]) rfl sc_w_seats.nd (id_seq (pd_var 2)) (blkOk_by (own := [("_law_row", 6)]) (N := N_w_seats) (sc := defScope s_w_seats) (by decide +kernel)) (fun _ _ _ _ _ => (gd_name (i := 6) sc_w_seats.nd rfl (Or.inl rfl) (by decide))) (fun _ _ _ _ _ => td_nil) (fun _ _ _ _ _ => (pd_add (pd_var 6) (pd_tup (ad_cons (pd_var 8) ad_nil))))))))) (sd_one (sd_asg (ps_set (i := 8) sc_w_seats.nd rfl (Or.inr rfl) (pd_add (pd_var 8) pd_int)))))) (sd_cons (sd_if (qd_isN (pd_ix (pd_ix (pd_var 0) (pd_neg pd_int)) pd_int) pd_non) (sd_one (sd_ret (pd_sl (pd_var 7) od_none (od_some (pd_var 1))))) sd_nil) (sd_one (sd_ret (pd_if (qd_le (pd_cb call_len cd_len (by rfl) T.z_len (by decide +kernel) (ad_cons (pd_var 7) ad_nil)) (pd_var 1)) (pd_var 7) pd_non)))))))))
theorem kb_dummy_element_3_2_1_0 (T : Txt K mg) : KwB T.d_dummy_element ["bounds", "part", "dummy", "place"] 0 ["place", "dummy", "part", "bounds"] [3, 2, 1, 0] := Fun.kwb T.F_dummy_element fun _ _ _ _ _ _ us ws h1 h2 => match us, ws, h1, h2 with | [], [_, _, _, _], _, _ => rfl
theorem kb_dummy_place_3_2_1_0 (T : Txt K mg) : KwB T.d_dummy_place ["bounds", "part", "dummy", "element"] 0 ["element", "dummy", "part", "bounds"] [3, 2, 1, 0] := Fun.kwb T.F_dummy_place fun _ _ _ _ _ _ us ws h1 h2 => match us, ws, h1, h2 with | [], [_, _, _, _], _, _ => rfl
def B_w_right : DS := (sSeq (sAsg 6 (eCall 3 F_w_bounds (aCons (eVar 0) (aCons (eC (.int 3)) (aCons (eC (.int 4)) aNil))))) (sSeq (sTg (gT (gCons' (gN 8) (gCons' (gN 1) gNil')) 2) (eCall 2 F_w_hand (aCons (eVar 0) (aCons (eVar 6) aNil)))) (sSeq (sAsg 7 (eCall 2 F_w_dummy (aCons (eVar 0) (aCons (eCB fLen (aCons (eVar 1) aNil)) aNil)))) (sSeq (sAsg 2 (eCall 2 F_w_seats (aCons (eVar 7) (aCons (eCB fLen (aCons (eVar 1) aNil)) aNil)))) (sSeq (sIf (tE (eBin fIsN (eVar 2) (eC .non))) (sRet (eC (.bl true))) sNx) (sSeq (sNewD 3) (sSeq (sFor (iZip (aCons (eVar 1) (aCons (eVar 2) aNil))) (gT (gCons' (gN 4) (gCons' (gN 9) gNil')) 2) (sSeq (sPutD 3 (eVar 4) (eVar 9)) (sIf (tE (eBin fNe (eCall 4 F_dummy_place (aCons (eVar 6) (aCons (eVar 8) (aCons (eVar 7) (aCons (eVar 9) aNil))))) (eVar 4))) (sRet (eC (.bl false))) sNx))) (sSeq (sFor (iRng1 (aCons (eCall 1 F_w_size (aCons (eVar 6) aNil)) aNil)) (gN 4) (sSeq (sIf (tE (eBin fNe (eCall 4 F_dummy_element (aCons (eVar 6) (aCons (eVar 8) (aCons (eVar 7) (aCons (eVar 4) aNil))))) (eGetD 3 (eVar 4)))) (sRet (eC (.bl false))) sNx) (sIf (tE (eBin fNe (eCallK 4 0 4 [3, 2, 1, 0] F_dummy_element aNil (aCons (eVar 4) (aCons (eVar 7) (aCons (eVar 8) (aCons (eVar 6) aNil))))) (eGetD 3 (eVar 4)))) (sRet (eC (.bl false))) sNx))) (sSeq (sIf (tE (eBin fNe (eVar 2) (eL (aLst aNil)))) (sSeq (sAsg 4 (eCallK 4 0 4 [3, 2, 1, 0] F_dummy_place aNil (aCons (eBin fIx (eVar 2) (eUn fNeg (eC (.int 1)))) (aCons (eVar 7) (aCons (eVar 8) (aCons (eVar 6) aNil)))))) (sIf (tE (eBin fNe (eVar 4) (eBin fIx (eVar 1) (eBin fSub (eCB fLen (aCons (eVar 2) aNil)) (eC (.int 1)))))) (sRet (eC (.bl false))) sNx)) sNx) (sSeq (sFor (iRng1 (aCons (eC (.int 6)) aNil)) (gN 5) (sSeq (sAsg 9 (eCB fTuple (aCons (eL (aLc (iSeq (eVar 7)) (gT (gCons' (gN 10) (gCons' (gN 11) gNil')) 2) tYesD (eBin fAdd (eBin fSub (eVar 10) (eC (.int 1))) (eCall 2 F_w_draw (aCons (eVar 0) (aCons (eC (.int 6)) aNil)))) [10, 11])) aNil))) (sIf (tAn (tE (eBin fNin (eVar 9) (eVar 2))) (tNo (tTr (eTryF "InvalidSection" "element" (eCall 4 F_dummy_place (aCons (eVar 6) (aCons (eVar 8) (aCons (eVar 7) (aCons (eVar 9) aNil))))))))) (sRet (eC (.bl false))) sNx))) (sRet (eC (.bl true)))))))))))))
def F_w_right : DF := runB 12 1 B_w_right
theorem d_w_right (T : Txt K mg) (TR : LamT T base) : FnD P w K mg base 12 T.a_w_right T.d_w_right P_w_right F_w_right := fnDc T.F_w_right TR.code sc_w_right (by decide) B_w_right (fun A outer s H E hr => (sd_cons (sd_asg (ps_set (i := 6) sc_w_right.nd rfl (Or.inr rfl) (by refine pd_call (k := 4) (f := T.a_w_bounds) (fd := T.d_w_bounds) (ps := P_w_bounds) (F := F_w_bounds) ?_ ?_ ?_ ?_ ?_ ?_ ?_ ?_; exact d_w_bounds T; exact hr.mono (by decide); exact rfl; exact T.g_w_bounds; exact T.F_w_bounds.kp; exact b_w_bounds T; exact (wok_takes (takes_of rfl rfl rfl rfl)); exact (ad_cons (pd_var 0) (ad_cons pd_int (ad_cons pd_int ad_nil)))))) (sd_cons (sd_tg (vs := [8, 1]) (ps_asg (by refine pd_call (k := 4) (f := T.a_w_hand) (fd := T.d_w_hand) (ps := P_w_hand) (F := F_w_hand) ?_ ?_ ?_ ?_ ?_ ?_ ?_ ?_; exact d_w_hand T; exact hr.mono (by decide); exact rfl; exact T.g_w_hand; exact T.F_w_hand.kp; exact b_w_hand T; exact (wok_takes (takes_of rfl rfl rfl rfl)); exact (ad_cons (pd_var 0) (ad_cons (pd_var 6) ad_nil))) (gd_tup rfl (gd_cons (gd_name (i := 8) sc_w_right.nd rfl (Or.inr rfl) (by decide)) (gd_cons (gd_name (i := 1) sc_w_right.nd rfl (Or.inl rfl) (by decide)) gd_nil))))) (sd_cons (sd_asg (ps_set (i := 7) sc_w_right.nd rfl (Or.inr rfl) (by refine pd_call (k := 4) (f := T.a_w_dummy) (fd := T.d_w_dummy) (ps := P_w_dummy) (F := F_w_dummy) ?_ ?_ ?_ ?_ ?_ ?_ ?_ ?_; exact d_w_dummy T; exact hr.mono (by decide); exact rfl; exact T.g_w_dummy; exact T.F_w_dummy.kp; exact b_w_dummy T; exact (wok_takes (takes_of rfl rfl rfl rfl)); exact (ad_cons (pd_var 0) (ad_cons (pd_cb call_len cd_len (by rfl) T.z_len (by decide +kernel) (ad_cons (pd_var 1) ad_nil)) ad_nil))))) (sd_cons (sd_asg (ps_set (i := 2) sc_w_right.nd rfl (Or.inl rfl) (by refine pd_call (k := 1) (f := T.a_w_seats) (fd := T.d_w_seats) (ps := P_w_seats) (F := F_w_seats) ?_ ?_ ?_ ?_ ?_ ?_ ?_ ?_; exact d_w_seats T; exact hr.mono (by decide); exact rfl; exact T.g_w_seats; exact T.F_w_seats.kp; exact b_w_seats T; exact (wok_takes (takes_of rfl rfl rfl rfl)); exact (ad_cons (pd_var 7) (ad_cons (pd_cb call_len cd_len (by rfl) T.z_len (by decide +kernel) (ad_cons (pd_var 1) ad_nil)) ad_nil))))) (sd_cons (sd_if (qd_isN (pd_var 2) pd_non) (sd_one (sd_ret pd_bl)) sd_nil) (sd_cons (sd_newD (ps_set (i := 3) sc_w_right.nd rfl (Or.inl rfl) pe_dnewK)) (sd_cons (sd_for (vs := [4, 9]) (passes_of rfl) rfl (id_zip2 (by rfl) T.z_zip (ad_cons (pd_var 1) (ad_cons (pd_var 2) ad_nil)) (aCons_len (aCons_len (fun _ _ _ _ h => aNil_len h)))) (gd_tup rfl (gd_cons (gd_name (i := 4) sc_w_right.nd rfl (Or.inl rfl) (by decide)) (gd_cons (gd_name (i := 9) sc_w_right.nd rfl (Or.inr rfl) (by decide)) gd_nil))) (sd_cons (sd_putD (i := 3) (ps_dput (units1 hr) (pv 3) (pd_var 4) (pd_var 9) rfl)) (sd_one (sd_if (qd_ne hr.units (by refine pd_call (k := 9) (f := T.a_dummy_place) (fd := T.d_dummy_place) (ps := P_dummy_place) (F := F_dummy_place) ?_ ?_ ?_ ?_ ?_ ?_ ?_ ?_; exact d_dummy_place T; exact hr.mono (by decide); exact rfl; exact T.g_dummy_place; exact T.F_dummy_place.kp; exact b_dummy_place T; exact (wok_takes (takes_of rfl rfl rfl rfl)); exact (ad_cons (pd_var 6) (ad_cons (pd_var 8) (ad_cons (pd_var 7) (ad_cons (pd_var 9) ad_nil))))) (pd_var 4)) (sd_one (sd_ret pd_bl)) sd_nil)))) (sd_cons (sd_for (vs := [4]) (passes_of rfl) rfl (id_rng1 (by rfl) T.z_range (ad_cons (by refine pd_call (k := 1) (f := T.a_w_size) (fd := T.d_w_size) (ps := P_w_size) (F := F_w_size) ?_ ?_ ?_ ?_ ?_ ?_ ?_ ?_; exact d_w_size T; exact hr.mono (by decide); exact rfl; exact T.g_w_size; exact T.F_w_size.kp; exact b_w_size T; exact (wok_takes (takes_of rfl rfl rfl rfl)); exact (ad_cons (pd_var 6) ad_nil)) ad_nil)) (gd_name (i := 4) sc_w_right.nd rfl (Or.inl rfl) (by decide)) (sd_cons (sd_if (qd_ne hr.units (by refine pd_call (k := 9) (f := T.a_dummy_element) (fd := T.d_dummy_element) (ps := P_dummy_element) (F := F_dummy_element) ?_ ?_ ?_ ?_ ?_ ?_ ?_ ?_; exact d_dummy_element T; exact hr.mono (by decide); exact rfl; exact T.g_dummy_element; exact T.F_dummy_element.kp; exact b_dummy_element T; exact (wok_takes (takes_of rfl rfl rfl rfl)); exact (ad_cons (pd_var 6) (ad_cons (pd_var 8) (ad_cons (pd_var 7) (ad_cons (pd_var 4) ad_nil))))) (pd_getD (i := 3) (pe_dget1 (units1 hr) (pv 3) (pd_var 4) ⟨rfl, rfl, rfl, rfl⟩))) (sd_one (sd_ret pd_bl)) sd_nil) (sd_one (sd_if (qd_ne hr.units (by refine pd_callK0 (k := 9) (f := T.a_dummy_element) (fd := T.d_dummy_element) (ps := P_dummy_element) (F := F_dummy_element) (ks := ["place", "dummy", "part", "bounds"]) (π := [3, 2, 1, 0]) ?_ ?_ ?_ ?_ ?_ ?_ ?_ ?_; exact d_dummy_element T; exact hr.mono (by decide); exact rfl; exact T.g_dummy_element; exact T.F_dummy_element.kp; exact kb_dummy_element_3_2_1_0 T; exact (wok_takes (takes_of rfl rfl rfl rfl)); exact (kd_cons (pd_var 4) (kd_cons (pd_var 7) (kd_cons (pd_var 8) (kd_cons (pd_var 6) kd_nil))))) (pd_getD (i := 3) (pe_dget1 (units1 hr) (pv 3) (pd_var 4) ⟨rfl, rfl, rfl, rfl⟩))) (sd_one (sd_ret pd_bl)) sd_nil)))) (sd_cons (sd_if (qd_ne hr.units (pd_var 2) (pd_L (pl_lst ad_nil))) (sd_cons (sd_asg (ps_set (i := 4) sc_w_right.nd rfl (Or.inl rfl) (by refine pd_callK0 (k := 9) (f := T.a_dummy_place) (fd := T.d_dummy_place) (ps := P_dummy_place) (F := F_dummy_place) (ks := ["element", "dummy", "part", "bounds"]) (π := [3, 2, 1, 0]) ?_ ?_ ?_ ?_ ?_ ?_ ?_ ?_; exact d_dummy_place T; exact hr.mono (by decide); exact rfl; exact T.g_dummy_place; exact T.F_dummy_place.kp; exact kb_dummy_place_3_2_1_0 T; exact (wok_takes (takes_of rfl rfl rfl rfl)); exact (kd_cons (pd_ix (pd_var 2) (pd_neg pd_int)) (kd_cons (pd_var 7) (kd_cons (pd_var 8) (kd_cons (pd_var 6) kd_nil))))))) (sd_one (sd_if (qd_ne hr.units (pd_var 4) (pd_ix (pd_var 1) (pd_sub (pd_cb call_len cd_len (by rfl) T.z_len (by decide +kernel) (ad_cons (pd_var 2) ad_nil)) pd_int))) (sd_one (sd_ret pd_bl)) sd_nil))) sd_nil) (sd_cons (sd_for (vs := [5]) (passes_of rfl) rfl (id_rng1 (by rfl) T.z_range (ad_cons pd_int ad_nil)) (gd_name (i := 5) sc_w_right.nd rfl (Or.inl rfl) (by decide)) (sd_cons (sd_asg (ps_set (i := 9) sc_w_right.nd rfl (Or.inr rfl) (pd_ct call_tuple_of cd_tuple (by rfl) T.z_tuple (by decide +kernel) (ad_cons (pd_L (pl_lc (own := [("_law_low", 10), ("_law_high", 11)]) rfl sc_w_right.nd (id_seq (pd_var 7)) (blkOk_by (own := [("_law_low", 10), ("_law_high", 11)]) (N := N_w_right) (sc := defScope s_w_right) (by decide +kernel)) (fun _ _ _ _ _ => (gd_tup rfl (gd_cons (gd_name (i := 10) sc_w_right.nd rfl (Or.inl rfl) (by decide)) (gd_cons (gd_name (i := 11) sc_w_right.nd rfl (Or.inl rfl) (by decide)) gd_nil)))) (fun _ _ _ _ _ => td_nil) (fun _ _ _ _ _ => (pd_add (pd_sub (pd_var 10) pd_int) (by refine pd_call (k := 2) (f := T.a_w_draw) (fd := T.d_w_draw) (ps := P_w_draw) (F := F_w_draw) ?_ ?_ ?_ ?_ ?_ ?_ ?_ ?_; exact d_w_draw T; exact hr.mono (by decide); exact rfl; exact T.g_w_draw; exact T.F_w_draw.kp; exact b_w_draw T; exact wok0; exact (ad_cons (pd_var 0) (ad_cons pd_int ad_nil))))))) ad_nil)))) (sd_one (sd_if (qd_and (qd_nin (units65 hr) (pd_var 9) (pd_var 2)) (qd_and1 (qd_not (qd_tr (by exact pd_lamF (val := "element") (k := 9) (g := T.a_w_is_none) (fd := T.d_w_is_none) (Ng := N_w_is_none) (a := "_law_ask") T.e_InvalidSection (by rfl) T.g_w_is_none T.F_w_is_none (b_w_is_none T) sc_w_is_none rfl (.inl rfl) (fun _ _ => gives_flag T.e_InvalidSection rfl (by decide) sc_w_is_none.nd rfl rfl (by decide) (by decide) (fun _ => rfl)) TR.TB rfl TR.mem TR.uq (hr.mono (by decide)) (show LamX.LamS (defScope s_w_right) _ from LamX.lamS_by (by decide +kernel)) rfl (fun _ _ _ _ _ => rfl) (fun _ _ _ _ _ _ _ hr => (by refine pd_call (k := 9) (f := T.a_dummy_place) (fd := T.d_dummy_place) (ps := P_dummy_place) (F := F_dummy_place) ?_ ?_ ?_ ?_ ?_ ?_ ?_ ?_; exact d_dummy_place T; exact hr.mono (by decide); exact rfl; exact T.g_dummy_place; exact T.F_dummy_place.kp; exact b_dummy_place T; exact (wok_takes (takes_of rfl rfl rfl rfl)); exact (ad_cons (pd_var 6) (ad_cons (pd_var 8) (ad_cons (pd_var 7) (ad_cons (pd_var 9) ad_nil))))))))))).pt (sd_one (sd_ret pd_bl)) sd_nil)))) (sd_one (sd_ret pd_bl)))))))))))))
end

end DL

set_option maxHeartbeats 2000000
namespace DL
open PySem PySem.Spec PyProof.Rows L2
open Evl (Ex)

variable [TabT]
/-! ### the law's own shell: the source of wells, the turns -/
section
variable {X : Cx}
/-- list + list, whatever the first one is -/
theorem op_catS : OpR X (binaryOp .Add) (fun x y H Q => ∃ l b xs zs, x = V.ref l ∧ y = V.ref b ∧ SqL X.K H l xs ∧ SqL X.K H b zs ∧ xs.length + zs.length ≤ sizeLine ∧ ∀ p, H p = none → Q (.ref p) (upd H p (.lst (xs ++ zs)))) := by
  intro pins s σ H x y v u Q I rx ry h
  obtain ⟨l, b, xs, zs, rfl, rfl, hH, hB, hz, q⟩ := h
  cases rx
  cases ry
  obtain ⟨its, r, ⟨⟨cls, dd, data, sl⟩, n, ho, hc, hdn, hd⟩, hl⟩ := I.list hH
  obtain ⟨its2, r2, ⟨⟨cls2, dd2, data2, sl2⟩, n2, ho2, hc2, hdn2, hd2⟩, hl2⟩ := I.list hB
  simp only at hc hd hc2 hd2
  subst hc hd hc2 hd2
  have e : its.toArray ++ its2.toArray = (its ++ its2).toArray := by simp
  refine concat_meets ⟨_, ho, rfl⟩ ⟨_, ho2, rfl⟩ noFill_list_add seq_list_add PySem.F.slot_list_add PySem.F.entry_list_add (PySem.F.args_list_add_2 _ _) (list_addW l b its.toArray its2.toArray n n2 dd dd2 sl sl2 (by rw [List.size_toArray, List.size_toArray, ← r.length, ← r2.length]; exact hz)) ⟨ho, ho2, ?_⟩
  rw [e]
  exact ⟨.ref _, _, I.lnew (t' := s.toks) (r.append r2) (by rw [List.length_append]; exact hz), rfl, q _ I.fresh⟩
end
theorem Rd.keep {H H' : Hp} {a : Addr} {u : HO} (h : Rd H a u) (k : ∀ o, H a = some o → H' a = some o) : Rd H' a u := h.elim (fun e => .inl (k _ e)) fun ⟨o, e⟩ => .inr ⟨o, k _ e⟩
theorem SqL.keep {K : PySem.W.Frag} {H H' : Hp} {a : Addr} {xs : List V} (h : SqL K H a xs) (k : ∀ o, H a = some o → H' a = some o) : SqL K H' a xs := h.elim (fun e => .inl (Rd.keep e k)) .inr
theorem SqL.keepN {K : PySem.W.Frag} {H H' : Hp} {a : Addr} {xs : List V} (h : SqL K H a xs) (k : ∀ o, NT o → H a = some o → H' a = some o) : SqL K H' a xs := h.elim (fun e => .inl (e.elim (fun e => .inl (k _ nt_lst e)) fun ⟨o, e⟩ => .inr ⟨o, k _ (fun _ z => nomatch z) e⟩)) .inr
theorem same_upd {H : Hp} {p : Addr} {o : HO} (h : H p = none) : Same H (upd H p o) := fun b x e => by
  rw [upd_ne (ne_of_none e h)]
  exact e
section
variable {P : Program} {w : World} {K : PySem.W.Frag} {mg : Str → Option Value} {base : Heap}
abbrev N_w_source : List Str := ["_law_script", "_law_k", "_law_cell"]
abbrev P_w_source : List Str := ["_law_script", "_law_k"]
theorem sc_w_source : FnScope N_w_source P_w_source (defScope s_w_source) := ⟨rfl, rfl, rfl, by decide +kernel, rfl, by decide +kernel, by decide +kernel⟩
def spSource (K : PySem.W.Frag) : Sp := fun vs H Q _ => ∃ (a : Addr) (ns : List Int) (k : Nat), vs = [.ref a, .int k] ∧ SqL K H a (ns.map V.int) ∧ ns.length ≤ 63 ∧ k < 4 ∧
  ∀ H' p (c d : Int), Same H H' → H p = none → H' p = some (.lst (wl (c, d, 0))) → Q (.ref p) H'
theorem head0 {ns : List Int} : ∃ c, atI (ns.map V.int ++ [V.int 0]) 0 = some (.int c) := by
  cases ns with
  | nil => exact ⟨0, rfl⟩
  | cons c r => exact ⟨c, atI_nat (j := 0) rfl⟩
theorem ok_source (T : Txt K mg) : FnOk P w K mg base (L2.CX P w) 1 T.a_w_source T.d_w_source P_w_source (spSource K) := by
  refine T.F_w_source.okX sc_w_source (fun vs H Q E h => ?_) (fun cdv A outer s H vs Q E hr h => ?_)
  · obtain ⟨a, ns, k, rfl, _⟩ := h
    rfl
  · obtain ⟨a, ns, k, rfl, hS, hlen, hk, q⟩ := h
    refine ⟨_, pss_cons (ps_set (i := 2) sc_w_source.nd rfl (.inl rfl) (pe_op op_add (pe_ix ix_list (pe_op op_catS (pv 0) (pe_lst (pa_cons pe_int pa_nil))) pe_int (fun _ _ => rfl)) (pe_op op_mul pe_int (pv 1))))
      (pss_cons (ps_if (pt_cmpR op_lt (pv 1) (pe_callB call_len_seq (by rfl) T.z_len PySem.boot_len (pa_cons (pv 0) pa_nil)) (nomark _))
        (pss_one (ps_set (i := 2) sc_w_source.nd rfl (.inl rfl) (pe_ix ix_list (pv 0) (pv 1) (fun _ _ => rfl)))) pss_nil)
      (pss_one (ps_ret (pe_lst (pa_cons (pe_op op_mul (pv 2) (pe_callTy call_int1 (by rfl) T.z_int (by decide +kernel) (pa_cons (pe_cmpR op_ge (pv 2) (pe_op op_pow pe_int pe_int) (nomark _)) pa_nil))) (pa_cons (pv 2) (pa_cons pe_int pa_nil))))))), ?_⟩
    obtain ⟨c0, hc0⟩ := head0 (ns := ns)
    refine ⟨.ref a, rfl, by decide, fun p1 n1 => ?_⟩
    have s1 : Same H (upd H p1 (.lst [.int 0])) := same_upd n1
    refine ⟨a, p1, ns.map V.int, [.int 0], rfl, rfl, SqL.keep hS (s1 a), SqL.of upd_same, ?_, fun p2 n2 => ?_⟩
    · rw [List.length_map]
      exact Nat.le_trans (Nat.add_le_add_right hlen 1) (by decide)
    have s2 := s1.trans (same_upd (o := .lst (ns.map V.int ++ [V.int 0])) n2)
    refine ⟨p2, _, 0, .int c0, rfl, rfl, SqL.of upd_same, hc0, .int k, rfl, 7919, k, rfl, rfl, .inl ⟨by decide, by decide⟩, c0, 7919 * k, rfl, rfl, ?_⟩
    -- if k < len(script)
    have fin : ∀ (d : Int) (H1 : Hp), Same H H1 → ∀ p, H1 p = none → ∀ c : Int, Q (.ref p) (upd H1 p (.lst [.int c, .int d, .int 0])) := fun d H1 sm p hp c =>
      q _ p c d (sm.trans (same_upd hp)) (by
        cases e : H p with
        | none => rfl
        | some o => rw [sm _ _ e] at hp; cases hp) upd_same
    refine ⟨.int k, rfl, .ref a, rfl, a, ns.map V.int, rfl, .inl (SqL.keep hS (s2 a)), k, (ns.map V.int).length, rfl, rfl, _, rfl, ite2 (fun e => ?_) (fun e => ?_)⟩
    · have e0 : (k : Int) < ((ns.map V.int).length : Int) := of_decide_eq_true e
      rw [List.length_map] at e0
      have hk2 : k < ns.length := by omega
      refine ⟨.ref a, rfl, .int k, rfl, a, _, k, .int ns[k], rfl, rfl, SqL.keep hS (s2 a), atI_nat (by rw [List.getElem?_map, List.getElem?_eq_getElem hk2]; rfl), ?_⟩
      refine ⟨.int ns[k], rfl, .int ns[k], rfl, 10, 18, rfl, rfl, ⟨by decide, by decide, by decide⟩, _, _, rfl, rfl, .inr ⟨_, rfl, ?_⟩⟩
      refine ⟨_, _, rfl, rfl, .inr ?_, .int ns[k], rfl, (show 3 ≤ sizeLine by decide), fun p hp => fin _ _ s2 p hp _⟩
      split <;> exact ⟨by decide, by decide⟩
    · refine ⟨_, rfl, _, rfl, 10, 18, rfl, rfl, ⟨by decide, by decide, by decide⟩, _, _, rfl, rfl, .inr ⟨_, rfl, ?_⟩⟩
      refine ⟨_, _, rfl, rfl, .inr ?_, _, rfl, (show 3 ≤ sizeLine by decide), fun p hp => fin _ _ s2 p hp _⟩
      split <;> exact ⟨by decide, by decide⟩
abbrev N_law : List Str := ["_law_script", "_law_k", "_law_well", "_law_turn"]
abbrev P_law : List Str := ["_law_script"]
theorem sc_law : FnScope N_law P_law (defScope s_law) := ⟨rfl, rfl, rfl, by decide +kernel, rfl, by decide +kernel, by decide +kernel⟩
def spLaw (K : PySem.W.Frag) : Sp := fun vs H Q _ => ∃ (a : Addr) (ns : List Int), vs = [.ref a] ∧ SqL K H a (ns.map V.int) ∧ ns.length ≤ 63 ∧ LamX.Tabs TabT.T H ∧ ∀ H', Q (.bl true) H'
/-- how far the well's own count has come -/
def Lap (b : Nat) (w : Wl) : Prop := 0 ≤ w.2.2 ∧ w.2.2 ≤ b
theorem ok_law (T : Txt K mg) (TR : LamT T base) (hR : ∀ (b : Nat) (w : Wl), b < 1000000 → Lap b w → ∃ w', F_w_right [.well] w = .ok (.bl true) w' ∧ Lap (b + 1000) w') : FnOk P w K mg base (L2.CX P w) (12 + 1) T.a_law T.d_law P_law (spLaw K) := by
  refine T.F_law.okX sc_law (fun vs H Q E h => ?_) (fun cdv A outer s H vs Q E hr h => ?_)
  · obtain ⟨a, ns, rfl, _⟩ := h
    rfl
  · obtain ⟨a, ns, rfl, hS, hlen, hTb, q⟩ := h
    refine ⟨_, pss_cons (ps_for (passes_of rfl) rfl (pi_range1 (by rfl) T.z_range (pa_cons (pe_callB (call_max2 rfl) (by rfl) T.z_max (by decide +kernel) (pa_cons pe_int (pa_cons (pe_callB (call_min2 rfl) (by rfl) T.z_min (by decide +kernel) (pa_cons pe_int (pa_cons (pe_callB call_len_seq (by rfl) T.z_len PySem.boot_len (pa_cons (pv 0) pa_nil)) pa_nil))) pa_nil))) pa_nil))
        (pg_name (i := 1) sc_law.nd rfl (.inl rfl))
        (pss_cons (ps_set (i := 2) sc_law.nd rfl (.inl rfl) (by refine pe_callS (CX := L2.CX P w) (k := 1) (f := T.a_w_source) (fd := T.d_w_source) (ps := P_w_source) (sp := spSource K) (E := WE W0) (t := tCons (tVar 0) (tCons (tVar 1) tNil)) ?_ ?_ ?_ ?_ ?_ ?_ ?_ ?_; exact ok_source T; exact hr.mono (by decide); exact rfl; exact T.g_w_source; exact T.F_w_source.kp; exact b_w_source T; exact wok0; exact pa_cons (pv 0) (pa_cons (pv 1) pa_nil)))
          (pss_one (ps_for (passes_of rfl) rfl (pi_range1 (by rfl) T.z_range (pa_cons pe_int pa_nil)) (pg_name (i := 3) sc_law.nd rfl (.inl rfl))
            (pss_one (ps_if (pt_not (pt_truth (by refine pe_callS (CX := L2.CX P w) (k := 12) (f := T.a_w_right) (fd := T.d_w_right) (ps := P_w_right) (sp := spD mg 1 F_w_right) (E := WE W0) (t := tCons (tVar 2) tNil) ?_ ?_ ?_ ?_ ?_ ?_ ?_ ?_; exact d_w_right T TR; exact hr; exact rfl; exact T.g_w_right; exact T.F_w_right.kp; exact b_w_right T; exact wok0; exact pa_cons (pv 2) pa_nil) (by intro _; rfl)))
              (pss_one (ps_ret pe_bl)) pss_nil))))))
      (pss_one (ps_ret pe_bl)), ?_⟩
    refine ⟨.ref a, rfl, a, _, rfl, .inl hS, _, _, rfl, _, _, rfl, _, rfl, ?_, ?_, ?_⟩
    · split <;> split at * <;> omega
    · split <;> split at * <;> omega
    have hn4 : ∀ z : Int, ((if (if z < 4 then z else 4) > 1 then (if z < 4 then z else 4) else 1) : Int).toNat ≤ 4 := fun z => by
      split <;> split at * <;> omega
    obtain ⟨n, hn⟩ : ∃ n : Nat, n = ((if (if (((ns.map V.int).length : Nat) : Int) < 4 then (((ns.map V.int).length : Nat) : Int) else 4) > 1 then (if (((ns.map V.int).length : Nat) : Int) < 4 then (((ns.map V.int).length : Nat) : Int) else 4) else 1) : Int).toNat := ⟨_, rfl⟩
    have hn5 : n ≤ 4 := by
      rw [hn]
      exact hn4 _
    have kS : ∀ H' : Hp, (∀ o, NT o → H a = some o → H' a = some o) → SqL K H' a (ns.map V.int) := fun H' k => SqL.keepN hS k
    refine ⟨fun i m σ H1 => m = n - i ∧ i ≤ n ∧ ((∀ o, NT o → H a = some o → H1 a = some o) ∧ LamX.Tabs TabT.T H1) ∧ ∃ y1 y2 y3, σ = [some (.ref a), y1, y2, y3], ⟨n, rfl, Nat.zero_le _, ⟨fun _ _ e => e, hTb⟩, none, none, none, rfl⟩, ?_⟩
    rintro i m σ H1 ⟨rfl, hi, k1, y1, y2, y3, rfl⟩
    by_cases hlt : i < n
    · refine .inr ⟨show i < Int.toNat _ from hn ▸ hlt, fun σ' H' => ((∀ o, NT o → H a = some o → H' a = some o) ∧ LamX.Tabs TabT.T H') ∧ ∃ y1 y2 y3, σ' = [some (.ref a), y1, y2, y3], fun σ' H' hN => ⟨n - (i + 1), by omega, rfl, hlt, hN⟩, fun x H2 hy => ?_⟩
      obtain ⟨rfl, rfl⟩ := hy
      refine ⟨.ref a, rfl, .int (0 + i), rfl, a, ns, i, by rw [Int.zero_add], kS _ k1.1, hlen, by omega, fun H3 p c d sm np hp => ?_⟩
      have k3 : (∀ o, NT o → H a = some o → H3 a = some o) ∧ LamX.Tabs TabT.T H3 := ⟨fun o t e => sm _ _ (k1.1 o t e), k1.2.ext sm⟩
      have hap : ∀ o, NT o → H a = some o → a ≠ p := fun o t e z => by
        have e2 := k1.1 o t e
        rw [z, np] at e2
        cases e2
      refine ⟨6, rfl, by decide, by decide, fun t m σ H4 => m = 6 - t ∧ t ≤ 6 ∧ ((∀ o, NT o → H a = some o → H4 a = some o) ∧ LamX.Tabs TabT.T H4) ∧ ∃ y3 w4, σ = [some (.ref a), some (.int (0 + i)), some (.ref p), y3] ∧ Lap (1000 * t) w4 ∧ H4 p = some (.lst (wl w4)), ⟨6, rfl, by decide, k3, _, (c, d, 0), rfl, ⟨Int.le_refl 0, Int.le_refl 0⟩, hp⟩, ?_⟩
      rintro t m σ H4 ⟨rfl, ht, k4, y3, w4, rfl, l4, hp4⟩
      by_cases ht3 : t < 6
      · refine .inr ⟨ht3, fun σ' H' => ((∀ o, NT o → H a = some o → H' a = some o) ∧ LamX.Tabs TabT.T H') ∧ ∃ y3 w4, σ' = [some (.ref a), some (.int (0 + i)), some (.ref p), y3] ∧ Lap (1000 * (t + 1)) w4 ∧ H' p = some (.lst (wl w4)), fun σ' H' hN => ⟨6 - (t + 1), by omega, rfl, ht3, hN⟩, fun x H5 hy => ?_⟩
        obtain ⟨rfl, rfl⟩ := hy
        obtain ⟨w6, e6, l6⟩ := hR (1000 * t) w4 (by omega) l4
        refine ⟨.ref p, rfl, p, fun _ => none, [.well], w4, ⟨fun _ _ z => (by cases z), hp4, rfl, k4.2, fun _ _ z => (by cases z)⟩, .cons .well .nil, rfl, ?_⟩
        rw [e6]
        intro H6 Hf6 g6 b6 v rv
        cases rv
        refine ⟨true, rfl, iteF ?_⟩
        exact ⟨⟨fun o t e => g6.keepN a o (hap o t e) t (k4.1 o t e), b6.tb⟩, _, w6, rfl, l6, b6.well⟩
      · exact .inl ⟨show 6 ≤ t from by omega, k4, _, _, _, rfl⟩
    · exact .inl ⟨show Int.toNat _ ≤ i from hn ▸ by omega, q H1⟩
end
end DL

set_option maxHeartbeats 2000000
namespace DL
open PySem PySem.Spec PyProof.Rows L2
variable [TabT]
/-! ### equality of plain values -/
@[simp] theorem okD_int {a : Int} : okD (.int a) = true := rfl
@[simp] theorem eqD_int {a b : Int} : eqD (.int a) (.int b) = decide (a = b) := by
  show (PyData.eqv (.int a) (.int b)) = _
  unfold PyData.eqv
  rfl
/-- tuples of ints -/
def eD (xs : List Int) : D := .tup (xs.map .int)
theorem toPDs_ints : ∀ xs : List Int, toPDs (xs.map D.int) = xs.map PyData.int
  | [] => by simp [toPDs]
  | x :: xs => by simp [toPDs, toPD, toPDs_ints xs]
theorem lay_ints : ∀ xs : List Int, PyData.canLayAll0 (xs.map PyData.int) = true ∧ PyData.depthAll (xs.map PyData.int) = 0
  | [] => by simp [PyData.canLayAll0, PyData.depthAll]
  | x :: xs => by
    have := lay_ints xs
    simp [PyData.canLayAll0, PyData.depthAll, PyData.canLay0, PyData.depth, this]
@[simp] theorem okD_ints {xs : List Int} : okD (eD xs) = true := by
  have := lay_ints xs
  simp [okD, eD, toPD, toPDs_ints, SeqAt.shaped, PyData.canLay0, PyData.depth, this]
theorem eqvAll_ints : ∀ xs ys : List Int, PyData.eqvAll (xs.map PyData.int) (ys.map PyData.int) = decide (xs = ys)
  | [], [] => by simp [PyData.eqvAll]
  | [], y :: ys => by simp [PyData.eqvAll]
  | x :: xs, [] => by simp [PyData.eqvAll]
  | x :: xs, y :: ys => by
    have := eqvAll_ints xs ys
    have e : PyData.eqv (.int x) (.int y) = decide (x = y) := by unfold PyData.eqv; rfl
    simp [PyData.eqvAll, e, this]
@[simp] theorem eqD_ints {xs ys : List Int} : eqD (eD xs) (eD ys) = decide (xs = ys) := by
  show PyData.eqv (toPD (eD xs)) (toPD (eD ys)) = _
  simp only [eD, toPD, toPDs_ints]
  rw [show PyData.eqv (.tuple (xs.map PyData.int)) (.tuple (ys.map PyData.int)) = PyData.eqvAll (xs.map PyData.int) (ys.map PyData.int) by unfold PyData.eqv; rfl]
  exact eqvAll_ints xs ys
/-! ### the program's functions on bounds, elements, places -/
abbrev FAR : Int := 500000000000000000000000000000
def pD (p : Int × Int) : D := .tup [.int p.1, .int p.2]
def bD (bs : List (Int × Int)) : D := .tup (bs.map pD)
def ext (p : Int × Int) : Int := if p.2 - p.1 + 1 > 0 then p.2 - p.1 + 1 else 0
def inR (n : Int) : Bool := decide (-FAR ≤ n) && decide (n ≤ FAR)
structure Bds (bs : List (Int × Int)) : Prop where
  one : 1 ≤ bs.length
  few : bs.length ≤ 7
  near : ∀ p ∈ bs, inR p.1 = true ∧ inR p.2 = true
section
variable {w : Wl} {bs : List (Int × Int)} {xs : List Int}
theorem lim7 {n : Nat} (h : n ≤ 7) : n ≤ lim := Nat.le_trans h (by decide)
theorem e_is_number {n : Int} : F_is_number [.int n] w = .ok (.bl true) w := rfl
theorem e_is_range {p : Int × Int} : F_is_range [pD p] w = .ok (.bl ([p.1, p.2].all inR)) w := by
  apply okE_eq
  have h := lc_all (A := (eAnd (eCall 1 F_is_number (aCons (eVar 1) aNil)) (eChain fLe fLe (eUn fNeg (eC (D.int 500000000000000000000000000000))) (eVar 1) (eC (D.int 500000000000000000000000000000))))) (G := gN 1) D.int (fun n => .bl (inR n)) (s := [some (D.tup [D.int p.fst, D.int p.snd]), none]) (w := w) (xs := [p.1, p.2]) (fun x _ => by
    simp [e_is_number, inR]
    by_cases h : -500000000000000000000000000000 ≤ x <;> simp [h])
  simp only [List.map_cons, List.map_nil] at h
  simp [F_is_range, B_is_range, okE_run, pD, List.replicate, h]
  have h2 : fAll w [.lst [D.bl (inR p.1), D.bl (inR p.2)]] = some (.bl ([p.1, p.2].all inR)) := v_all (f := inR) (l := [p.1, p.2])
  simp [h2]
  decide
theorem e_is_bounds (h : Bds bs) : F_is_bounds [bD bs] w = .ok (.bl true) w := by
  apply okE_eq
  have h1 := h.one
  have h7 := h.few
  simp [F_is_bounds, B_is_bounds, okE_run, bD, List.replicate]
  refine ⟨by omega, by omega, lim7 h7, okE_lcall pD (fun p => .bl ([p.1, p.2].all inR)) (fun x _ => ?_) ?_⟩
  · simp [pD]
    rw [show (D.tup [D.int x.1, D.int x.2]) = pD x from rfl, e_is_range]
    simp
  · simp
    intro a b hab
    simpa using h.near _ hab
theorem e_check (h : Bds bs) : F_check_bounds [bD bs] w = .ok .non w := by
  apply okE_eq
  simp [F_check_bounds, B_check_bounds, okE_run, bD, List.replicate]
  rw [show D.tup (bs.map pD) = bD bs from rfl, e_is_bounds h]
  simp
theorem e_all_extents (h7 : bs.length ≤ 7) : F_all_extents [bD bs] w = .ok (.lst (bs.map fun p => .int (ext p))) w := by
  apply okE_eq
  simp [F_all_extents, B_all_extents, okE_run, bD, List.replicate]
  refine ⟨lim7 h7, okE_lcall pD (fun p => .int (ext p)) (fun x _ => ?_) (by simp)⟩
  simp [pD, ext]
/-- what the numbers come to, multiplied -/
def prod : List Int → Int
  | [] => 1
  | n :: r => n * prod r
def small (n : Int) : Prop := 0 ≤ n ∧ n ≤ 2 ^ 110
theorem prod_append {ms ns : List Int} : prod (ms ++ ns) = prod ms * prod ns := by
  induction ms with
  | nil => simp [prod]
  | cons m r ih => simp [prod, ih, Int.mul_assoc]
theorem prod_small : ∀ {ns : List Int}, (∀ n ∈ ns, small n) → 0 ≤ prod ns ∧ prod ns ≤ 2 ^ (110 * ns.length)
  | [], _ => ⟨by decide, by decide⟩
  | n :: r, h => by
    have ih := prod_small fun m hm => h m (List.mem_cons_of_mem _ hm)
    have hn := h n List.mem_cons_self
    refine ⟨Int.mul_nonneg hn.1 ih.1, ?_⟩
    have : n * prod r ≤ 2 ^ 110 * 2 ^ (110 * r.length) := Int.mul_le_mul hn.2 ih.2 ih.1 (by decide)
    rw [← Int.pow_add] at this
    rw [List.length_cons, show 110 * (r.length + 1) = 110 + 110 * r.length by omega]
    exact this
theorem nat_lt_pow {a : Int} {k : Nat} (h0 : 0 ≤ a) (h : a ≤ 2 ^ k) : a.natAbs < 2 ^ (k + 1) := by
  have e : (a.natAbs : Int) = a := Int.natAbs_of_nonneg h0
  have : (a.natAbs : Int) ≤ ((2 ^ k : Nat) : Int) := by rw [e]; simpa using h
  have h2 : a.natAbs ≤ 2 ^ k := by exact_mod_cast this
  have h3 : 2 ^ k < 2 ^ (k + 1) := Nat.pow_lt_pow_right (by decide) (by omega)
  omega
theorem mul_small {a b : Int} {i j : Nat} (ha : 0 ≤ a) (ha2 : a ≤ 2 ^ i) (hb : 0 ≤ b) (hb2 : b ≤ 2 ^ j) (h : i + j ≤ 900000) : mulOk a b :=
  mulOk_of (nat_lt_pow ha ha2) (nat_lt_pow hb hb2) (by omega) (by omega) (by omega)
theorem e_multiplied {ns : List Int} (h7 : ns.length ≤ 7) (hs : ∀ n ∈ ns, small n) : F_multiplied [.lst (ns.map .int)] w = .ok (.int (prod ns)) w := by
  apply okE_eq
  simp [F_multiplied, B_multiplied, okE_run, List.replicate]
  refine okS_loop (fun i s w' => w' = w ∧ ∃ t, s = [some (.lst (ns.map .int)), some (.int (prod (ns.take i))), t]) 0 ⟨rfl, none, by simp [prod]⟩ ?_ ?_
  · rintro i d s w' hd ⟨rfl, t, rfl⟩
    rw [List.getElem?_map] at hd
    obtain ⟨n, hn, rfl⟩ := Option.map_eq_some_iff.mp hd
    have hi : i < ns.length := (List.getElem?_eq_some_iff.mp hn).1
    have ps := prod_small (ns := ns.take i) fun m hm => hs m (List.mem_of_mem_take hm)
    have hns := hs n (List.mem_of_getElem? hn)
    simp
    refine ⟨mul_small ps.1 ps.2 hns.1 hns.2 (by rw [List.length_take]; omega), ?_⟩
    rw [List.take_add_one, hn]
    simp [prod_append, prod]
  · rintro s w' ⟨rfl, t, rfl⟩
    simp
/-- wide bounds: none of them beyond some 33 figures -/
structure Bw (bs : List (Int × Int)) : Prop where
  few : bs.length ≤ 7
  near : ∀ p ∈ bs, (-40564819207303340847894502572032 ≤ p.1 ∧ p.1 ≤ 40564819207303340847894502572032) ∧ -40564819207303340847894502572032 ≤ p.2 ∧ p.2 ≤ 40564819207303340847894502572032
theorem inR_iff {n : Int} : inR n = true ↔ -FAR ≤ n ∧ n ≤ FAR := by simp [inR]
theorem Bds.wide {bs : List (Int × Int)} (h : Bds bs) : Bw bs := ⟨h.few, fun p hp => by
  obtain ⟨h1, h2⟩ := h.near p hp
  rw [inR_iff] at h1 h2
  simp only [FAR] at h1 h2
  omega⟩
theorem ext_small {p : Int × Int} (h : (-40564819207303340847894502572032 ≤ p.1 ∧ p.1 ≤ 40564819207303340847894502572032) ∧ -40564819207303340847894502572032 ≤ p.2 ∧ p.2 ≤ 40564819207303340847894502572032) : small (ext p) := by
  obtain ⟨h1, h2⟩ := h
  unfold ext small
  have : (2 : Int) ^ 110 = 1298074214633706907132624082305024 := by decide
  rw [this]
  split <;> omega
theorem exts_small (h : Bw bs) : ∀ n ∈ bs.map ext, small n := fun n hn => by
  obtain ⟨p, hp, rfl⟩ := List.mem_map.mp hn
  exact ext_small (h.near p hp)
theorem e_size_of (h : Bw bs) : F_size_of [bD bs] w = .ok (.int (prod (bs.map ext))) w := by
  apply okE_eq
  simp [F_size_of, B_size_of, okE_run, bD, List.replicate]
  rw [show D.tup (bs.map pD) = bD bs from rfl, e_all_extents h.few]
  simp
  have := e_multiplied (w := w) (ns := bs.map ext) (by simpa using h.few) (exts_small h)
  rw [List.map_map] at this
  rw [show (bs.map fun p => D.int (ext p)) = bs.map (D.int ∘ ext) from rfl, this]
  simp
def wts : Int → List Int → List Int
  | _, [] => []
  | a, n :: r => a :: wts (a * n) r
theorem wts_get : ∀ {ns : List Int} {a : Int} {i : Nat}, i < ns.length → (wts a ns)[i]? = some (a * prod (ns.take i))
  | n :: r, a, 0, _ => by simp [wts, prod]
  | n :: r, a, i + 1, h => by
    have := wts_get (ns := r) (a := a * n) (i := i) (by simpa using h)
    simp [wts, this, prod, Int.mul_assoc]
theorem wts_len : ∀ {ns : List Int} {a : Int}, (wts a ns).length = ns.length
  | [], _ => rfl
  | n :: r, a => by simp [wts, wts_len (ns := r)]
theorem e_weights (h : Bw bs) : F_weights [bD bs] w = .ok (.lst ((wts 1 (bs.map ext)).map .int)) w := by
  apply okE_eq
  have h7 := h.few
  simp [F_weights, B_weights, okE_run, bD, List.replicate]
  rw [show D.tup (bs.map pD) = bD bs from rfl, e_all_extents h.few]
  simp
  refine okS_loop (fun i s w' => w' = w ∧ ∃ t, s = [some (bD bs), some (.own (((wts 1 (bs.map ext)).take i).map .int)), some (.int (prod ((bs.map ext).take i))), t]) 0 ⟨rfl, none, by simp [prod, bD]⟩ ?_ ?_
  · rintro i d s w' hd ⟨rfl, t, rfl⟩
    rw [List.getElem?_map] at hd
    obtain ⟨p, hp, rfl⟩ := Option.map_eq_some_iff.mp hd
    have hi : i < bs.length := (List.getElem?_eq_some_iff.mp hp).1
    have ps := prod_small (ns := (bs.map ext).take i) fun m hm => exts_small h m (List.mem_of_mem_take hm)
    have hns := exts_small h (ext p) (List.mem_map_of_mem (List.mem_of_getElem? hp))
    have hg := wts_get (ns := bs.map ext) (a := 1) (i := i) (by simpa using hi)
    have hl : lim = 16000000 := rfl
    simp
    refine ⟨by omega, mul_small ps.1 ps.2 hns.1 hns.2 (by rw [List.length_take]; omega), ?_, ?_⟩
    · rw [List.take_add_one, List.getElem?_map, hg]
      simp
    · rw [List.take_add_one, List.getElem?_map, hp]
      simp [prod_append, prod]
  · rintro s w' ⟨rfl, t, rfl⟩
    simp
    rw [List.take_of_length_le (by rw [List.length_map, wts_len]; simp)]
/-- an element of the array -/
def El : List (Int × Int) → List Int → Prop
  | [], [] => True
  | p :: bs, x :: xs => (p.1 ≤ x ∧ x ≤ p.2) ∧ El bs xs
  | _, _ => False
theorem El.len : ∀ {bs : List (Int × Int)} {xs : List Int}, El bs xs → xs.length = bs.length
  | [], [], _ => rfl
  | p :: bs, x :: xs, h => by simp [El.len h.2]
  | [], _ :: _, h => h.elim
  | _ :: _, [], h => h.elim
theorem El.zip : ∀ {bs : List (Int × Int)} {xs : List Int}, El bs xs → ∀ t ∈ xs.zip bs, t.2.1 ≤ t.1 ∧ t.1 ≤ t.2.2
  | [], [], _, t, ht => by simp at ht
  | p :: bs, x :: xs, h, t, ht => by
    rcases List.mem_cons.mp ht with e | e
    · subst e; exact h.1
    · exact El.zip h.2 t e
  | [], _ :: _, h, _, _ => h.elim
  | _ :: _, [], h, _, _ => h.elim
theorem e_is_element (h : Bw bs) (he : El bs xs) : F_is_element [bD bs, eD xs] w = .ok (.bl true) w := by
  apply okE_eq
  have h7 := h.few
  have hl := he.len
  have hlim : lim = 16000000 := rfl
  simp [F_is_element, B_is_element, okE_run, bD, eD, List.replicate, hl]
  rw [zipD_maps]
  refine ⟨by simp; omega, okE_lcall _ (fun t => .bl (decide (t.2.1 ≤ t.1) && decide (t.1 ≤ t.2.2))) (fun t _ => ?_) ?_⟩
  · simp [pD, e_is_number]
    by_cases h : t.2.1 ≤ t.1 <;> simp [h]
  · simp
    intro a b c ht
    exact El.zip he _ ht
/-- the place, the first subscript running fastest -/
def place : List (Int × Int) → List Int → Int
  | p :: bs, x :: xs => (x - p.1) + ext p * place bs xs
  | _, _ => 0
theorem sum_place : ∀ {bs : List (Int × Int)} {xs : List Int} {a : Int}, El bs xs → ((xs.zip (bs.zip (wts a (bs.map ext)))).map fun t => (t.1 - t.2.1.1) * t.2.2).sum = a * place bs xs
  | [], [], a, _ => by simp [place]
  | p :: bs, x :: xs, a, h => by
    have ih := sum_place (a := a * ext p) h.2
    simp only [List.map_cons, wts, List.zip_cons_cons, List.sum_cons, ih, place]
    rw [Int.mul_add, Int.mul_comm a (x - p.1), Int.mul_assoc]
  | [], _ :: _, _, h => h.elim
  | _ :: _, [], _, h => h.elim
theorem near_diff {p : Int × Int} {x : Int} (h : (-40564819207303340847894502572032 ≤ p.1 ∧ p.1 ≤ 40564819207303340847894502572032) ∧ -40564819207303340847894502572032 ≤ p.2 ∧ p.2 ≤ 40564819207303340847894502572032) (hx : p.1 ≤ x ∧ x ≤ p.2) : 0 ≤ x - p.1 ∧ x - p.1 ≤ 2 ^ 110 := by
  obtain ⟨h1, h2⟩ := h
  have : (2 : Int) ^ 110 = 1298074214633706907132624082305024 := by decide
  rw [this]
  omega
theorem wts_small : ∀ {ns : List Int} {a : Int} {k : Nat}, (0 ≤ a ∧ a ≤ 2 ^ k) → (∀ n ∈ ns, small n) → ∀ m ∈ wts a ns, 0 ≤ m ∧ m ≤ 2 ^ (k + 110 * ns.length)
  | [], _, _, _, _, m, hm => by simp [wts] at hm
  | n :: r, a, k, ha, hs, m, hm => by
    rcases List.mem_cons.mp hm with e | e
    · subst e
      exact ⟨ha.1, Int.le_trans ha.2 (by exact_mod_cast Nat.pow_le_pow_right (by decide) (by omega))⟩
    · have hn := hs n List.mem_cons_self
      have h1 : 0 ≤ a * n := Int.mul_nonneg ha.1 hn.1
      have h2 : a * n ≤ 2 ^ (k + 110) := by
        rw [Int.pow_add]
        exact Int.mul_le_mul ha.2 hn.2 hn.1 (Int.le_trans ha.1 ha.2)
      have := wts_small (k := k + 110) ⟨h1, h2⟩ (fun q hq => hs q (List.mem_cons_of_mem _ hq)) m e
      rw [List.length_cons, show k + 110 * (r.length + 1) = k + 110 + 110 * r.length by omega]
      exact this
theorem mem_zip3 {α β γ : Type} {l : List α} {m : List β} {n : List γ} {t : α × β × γ} (h : t ∈ l.zip (m.zip n)) : (t.1, t.2.1) ∈ l.zip m ∧ t.2.2 ∈ n := by
  induction l generalizing m n with
  | nil => simp at h
  | cons x l ih =>
    cases m with
    | nil => simp at h
    | cons y m =>
      cases n with
      | nil => simp at h
      | cons z n =>
        simp only [List.zip_cons_cons, List.mem_cons] at h ⊢
        rcases h with e | e
        · subst e; simp
        · exact ⟨.inr (ih e).1, .inr (ih e).2⟩
theorem e_place_there (h : Bw bs) (he : El bs xs) : F_place_there [bD bs, eD xs] w = .ok (.int (place bs xs)) w := by
  apply okE_eq
  have h7 := h.few
  have hl := he.len
  have hlim : lim = 16000000 := rfl
  simp [F_place_there, B_place_there, okE_run, List.replicate]
  unfold bD eD
  simp
  rw [show D.tup (bs.map pD) = bD bs from rfl, e_weights h]
  simp only [R.bind_ok, okE_ok]
  simp only [show bD bs = D.tup (bs.map pD) from rfl]
  simp
  rw [zip3D_maps]
  refine ⟨by simp; omega, okE_lcall _ (fun t => .int ((t.1 - t.2.1.1) * t.2.2)) (fun t ht => ?_) ?_⟩
  · obtain ⟨m1, m2⟩ := mem_zip3 ht
    have hz := El.zip he _ m1
    have hb := h.near t.2.1 (List.of_mem_zip m1).2
    have hd := near_diff hb hz
    have hw := wts_small (k := 0) ⟨by decide, by decide⟩ (exts_small h) _ m2
    simp [pD]
    exact mul_small hd.1 hd.2 hw.1 hw.2 (by simp; omega)
  · rw [v_sum]
    simp
    rw [sum_place he]
    omega
/-- the element at a place -/
def elem : List (Int × Int) → Int → List Int
  | [], _ => []
  | p :: bs, n => (p.1 + n.fmod (ext p)) :: elem bs (n.fdiv (ext p))
def rest : List (Int × Int) → Int → Int
  | [], n => n
  | p :: bs, n => rest bs (n.fdiv (ext p))
theorem elem_append {as bs : List (Int × Int)} {n : Int} : elem (as ++ bs) n = elem as n ++ elem bs (rest as n) := by
  induction as generalizing n with
  | nil => rfl
  | cons p r ih => simp [elem, rest, ih]
theorem rest_append {as bs : List (Int × Int)} {n : Int} : rest (as ++ bs) n = rest bs (rest as n) := by
  induction as generalizing n with
  | nil => rfl
  | cons p r ih => simp [rest, ih]
theorem elem_len : ∀ {bs : List (Int × Int)} {n : Int}, (elem bs n).length = bs.length
  | [], _ => rfl
  | p :: bs, n => by simp [elem, elem_len (bs := bs)]
theorem e_element_there {n : Int} (h : Bw bs) (hp : ∀ p ∈ bs, ext p ≠ 0) : F_element_there [bD bs, .int n] w = .ok (eD (elem bs n)) w := by
  apply okE_eq
  have h7 := h.few
  have hlim : lim = 16000000 := rfl
  simp [F_element_there, B_element_there, okE_run, List.replicate]
  unfold bD
  simp
  rw [show D.tup (bs.map pD) = bD bs from rfl, e_all_extents h.few]
  simp only [show bD bs = D.tup (bs.map pD) from rfl]
  simp
  rw [show bs.map pD = bs.map (fun p => pD p) from rfl, zipD_map]
  refine okS_loop (fun i s w' => w' = w ∧ ∃ t1 t2 t3, s = [some (bD bs), some (.int n), some (.own ((elem (bs.take i) n).map .int)), some (.int (rest (bs.take i) n)), t1, t2, t3]) 0 ⟨rfl, none, none, none, by simp [rest, elem, bD]⟩ ?_ ?_
  · rintro i d s w' hd ⟨rfl, t1, t2, t3, rfl⟩
    rw [List.getElem?_map] at hd
    obtain ⟨p, hpp, rfl⟩ := Option.map_eq_some_iff.mp hd
    have hi : i < bs.length := (List.getElem?_eq_some_iff.mp hpp).1
    have hm := List.mem_of_getElem? hpp
    have hs := ext_small (h.near p hm)
    have h0 := hp p hm
    simp [pD, h0]
    refine ⟨by rw [elem_len, List.length_take]; omega, divOk_of h0 (Nat.lt_of_lt_of_le (nat_lt_pow hs.1 hs.2) (Nat.pow_le_pow_right (by decide) (by decide))), ?_, ?_⟩
    · rw [List.take_add_one, hpp]
      simp [elem_append, elem]
    · rw [List.take_add_one, hpp]
      simp [rest_append, rest]
  · rintro s w' ⟨rfl, t1, t2, t3, rfl⟩
    simp [eD]
end
end DL

set_option maxHeartbeats 2000000
namespace DL
open PySem PySem.Spec PyProof.Rows L2
variable [TabT]
/-! ### places and elements, there and back -/
section
variable {w : Wl} {bs : List (Int × Int)} {xs : List Int}
theorem ext_of {p : Int × Int} {x : Int} (h : p.1 ≤ x ∧ x ≤ p.2) : ext p = p.2 - p.1 + 1 ∧ 0 ≤ x - p.1 ∧ x - p.1 < ext p := by
  unfold ext
  split <;> omega
theorem fmod_at {x e q : Int} (h0 : 0 ≤ x) (h1 : x < e) : (x + e * q).fmod e = x ∧ (x + e * q).fdiv e = q := by
  have he : 0 ≤ e := by omega
  rw [Int.fmod_eq_emod_of_nonneg _ he, Int.fdiv_eq_ediv_of_nonneg _ he]
  exact ⟨by rw [Int.add_mul_emod_self_left, Int.emod_eq_of_lt h0 h1], by rw [Int.add_mul_ediv_left _ _ (by omega), Int.ediv_eq_zero_of_lt h0 h1, Int.zero_add]⟩
theorem elem_place : ∀ {bs : List (Int × Int)} {xs : List Int}, El bs xs → elem bs (place bs xs) = xs
  | [], [], _ => rfl
  | p :: bs, x :: xs, h => by
    have hx := ext_of h.1
    have hf := fmod_at (q := place bs xs) hx.2.1 hx.2.2
    simp only [place, elem, hf.1, hf.2, elem_place h.2]
    congr 1
    omega
  | [], _ :: _, h => h.elim
  | _ :: _, [], h => h.elim
theorem place_range : ∀ {bs : List (Int × Int)} {xs : List Int}, El bs xs → 0 ≤ place bs xs ∧ place bs xs < prod (bs.map ext)
  | [], [], _ => by simp [place, prod]
  | p :: bs, x :: xs, h => by
    have hx := ext_of h.1
    have ih := place_range h.2
    simp only [place, List.map_cons, prod]
    have h1 : 0 ≤ ext p * place bs xs := Int.mul_nonneg (by omega) ih.1
    have h2 : ext p * (place bs xs + 1) ≤ ext p * prod (bs.map ext) := Int.mul_le_mul_of_nonneg_left (by omega) (by omega)
    rw [Int.mul_add, Int.mul_one] at h2
    omega
  | [], _ :: _, h => h.elim
  | _ :: _, [], h => h.elim
theorem El.ext0 : ∀ {bs : List (Int × Int)} {xs : List Int}, El bs xs → ∀ p ∈ bs, ext p ≠ 0
  | [], [], _, p, hp => by simp at hp
  | p :: bs, x :: xs, h, q, hq => by
    rcases List.mem_cons.mp hq with e | e
    · subst e
      have := ext_of h.1
      omega
    · exact El.ext0 h.2 q e
  | [], _ :: _, h, _, _ => h.elim
  | _ :: _, [], h, _, _ => h.elim
end
end DL

set_option maxHeartbeats 2000000
namespace DL
open PySem PySem.Spec PyProof.Rows L2
variable [TabT]
/-! ### draws -/
section
variable {w : Wl} {b : Nat}
theorem fmod_range {a n : Int} (h : 0 < n) : 0 ≤ a.fmod n ∧ a.fmod n < n := by
  rw [Int.fmod_eq_emod_of_nonneg _ (by omega)]
  exact ⟨Int.emod_nonneg _ (by omega), Int.emod_lt_of_pos _ h⟩
theorem fdiv_range {a n : Int} (h : 0 < n) (h0 : 0 ≤ a) : 0 ≤ a.fdiv n ∧ a.fdiv n ≤ a := by
  rw [Int.fdiv_eq_ediv_of_nonneg _ (by omega)]
  exact ⟨Int.ediv_nonneg h0 (by omega), Int.ediv_le_self _ h0⟩
theorem divOk_small {n : Int} (h0 : 0 < n) (h1 : n ≤ 2 ^ 100) : divOk n :=
  divOk_of (by omega) (Nat.lt_of_lt_of_le (nat_lt_pow (by omega) h1) (Nat.pow_le_pow_right (by decide) (by decide)))
theorem p40 : (2 : Int) ^ 40 = 1099511627776 := by decide
theorem p100 : (2 : Int) ^ 100 = 1267650600228229401496703205376 := by decide
theorem seq_nx {U V : DS} {s s1 : Sl} {w w1 : Wl} (h : U s w = .nx s1 w1) : sSeq U V s w = V s1 w1 := by unfold sSeq; rw [h]
theorem run_rt {n k : Nat} {B : DS} {ds : List D} {d : D} {w w1 : Wl} (hl : ds.length = k) (h : B (ds.map some ++ List.replicate (n - k) none) w = .rt d w1) : runB n k B ds w = .ok d w1 := by unfold runB; rw [if_pos hl, h]
abbrev mE1 (k1 k2 k3 : Int) : DE := eBin fAdd (eBin fAdd (eBin fAdd (eBin fMod (eCB fInt (aCons (eVar 0) aNil)) (eC (.int k1))) (eBin fMul (eC (.int k2)) (eVar 1))) (eBin fMod (eCB fInt (aCons (eBin fDiv (eVar 0) (eC (.int k1))) aNil)) (eC (.int k3)))) (eC (.int 1))
abbrev mE2 (k4 k1 : Int) : DE := eBin fMod (eCB fInt (aCons (eBin fMul (eVar 2) (eC (.int k4))) aNil)) (eC (.int k1))
abbrev mE3 (k6 k7 k5 : Int) : DE := eBin fMod (eCB fInt (aCons (eBin fMul (eVar 2) (eBin fAdd (eBin fAdd (eBin fDiv (eVar 2) (eC (.int k6))) (eC (.int k7))) (eVar 1))) aNil)) (eC (.int k5))
abbrev mE4 (k8 k9 k10 : Int) : DE := eBin fMod (eCB fInt (aCons (eBin fMul (eVar 2) (eBin fAdd (eBin fDiv (eVar 2) (eC (.int k8))) (eC (.int k9)))) aNil)) (eC (.int k10))
theorem mE1_ok {c l k1 k2 k3 : Int} {t : Option D} {w : Wl} (d1 : divOk k1) (m1 : mulOk k2 l) (n1 : k1 ≠ 0) (n3 : k3 ≠ 0) : mE1 k1 k2 k3 [some (.int c), some (.int l), t] w = .ok (.int (c.fmod k1 + k2 * l + (c.fdiv k1).fmod k3 + 1)) w := by
  apply okE_eq
  simp [mE1, d1, m1, n1, n3]
theorem mE2_ok {c l z k4 k1 : Int} {w : Wl} (m : mulOk z k4) (n1 : k1 ≠ 0) : mE2 k4 k1 [some (.int c), some (.int l), some (.int z)] w = .ok (.int ((z * k4).fmod k1)) w := by
  apply okE_eq
  simp [mE2, m, n1]
theorem mE3_ok {c l z k6 k7 k5 : Int} {w : Wl} (d : divOk k6) (m : mulOk z (z.fdiv k6 + k7 + l)) (n : k5 ≠ 0) : mE3 k6 k7 k5 [some (.int c), some (.int l), some (.int z)] w = .ok (.int ((z * (z.fdiv k6 + k7 + l)).fmod k5)) w := by
  apply okE_eq
  simp [mE3, m, n, d]
theorem mE4_ok {c l z k8 k9 k10 : Int} {w : Wl} (d : divOk k8) (m : mulOk z (z.fdiv k8 + k9)) (n : k10 ≠ 0) : mE4 k8 k9 k10 [some (.int c), some (.int l), some (.int z)] w = .ok (.int ((z * (z.fdiv k8 + k9)).fmod k10)) w := by
  apply okE_eq
  simp [mE4, m, n, d]
theorem mix_run {c l k1 k2 k3 k4 k5 k6 k7 k8 k9 k10 z1 z2 z3 : Int} {w : Wl} (hz1 : z1 = c.fmod k1 + k2 * l + (c.fdiv k1).fmod k3 + 1) (hz2 : z2 = (z1 * k4).fmod k1) (hz3 : z3 = (z2 * (z2.fdiv k6 + k7 + l)).fmod k5)
    (d1 : divOk k1) (d2 : divOk k6) (d3 : divOk k8) (m1 : mulOk k2 l) (m2 : mulOk z1 k4) (m3 : mulOk z2 (z2.fdiv k6 + k7 + l)) (m4 : mulOk z3 (z3.fdiv k8 + k9)) (n1 : k1 ≠ 0) (n3 : k3 ≠ 0) (n5 : k5 ≠ 0) (n10 : k10 ≠ 0) :
    runB 3 2 (sSeq (sAsg 2 (mE1 k1 k2 k3)) (sSeq (sAsg 2 (mE2 k4 k1)) (sSeq (sAsg 2 (mE3 k6 k7 k5)) (sRet (mE4 k8 k9 k10))))) [.int c, .int l] w = .ok (.int ((z3 * (z3.fdiv k8 + k9)).fmod k10)) w := by
  have e1 : sAsg 2 (mE1 k1 k2 k3) [some (.int c), some (.int l), none] w = .nx [some (.int c), some (.int l), some (.int z1)] w := by
    unfold sAsg
    rw [mE1_ok d1 m1 n1 n3, ← hz1]
    rfl
  have e2 : sAsg 2 (mE2 k4 k1) [some (.int c), some (.int l), some (.int z1)] w = .nx [some (.int c), some (.int l), some (.int z2)] w := by
    unfold sAsg
    rw [mE2_ok m2 n1, ← hz2]
    rfl
  have e3 : sAsg 2 (mE3 k6 k7 k5) [some (.int c), some (.int l), some (.int z2)] w = .nx [some (.int c), some (.int l), some (.int z3)] w := by
    unfold sAsg
    rw [mE3_ok d2 m3 n5, ← hz3]
    rfl
  have e4 : sRet (mE4 k8 k9 k10) [some (.int c), some (.int l), some (.int z3)] w = .rt (.int ((z3 * (z3.fdiv k8 + k9)).fmod k10)) w := by
    unfold sRet
    rw [mE4_ok d3 m4 n10]
  exact run_rt rfl ((seq_nx e1).trans ((seq_nx e2).trans ((seq_nx e3).trans e4)))
theorem mix_num {c l k1 k2 k3 k4 k5 k6 k7 k8 k9 z1 z2 z3 : Int} (hz1 : z1 = c.fmod k1 + k2 * l + (c.fdiv k1).fmod k3 + 1) (hz2 : z2 = (z1 * k4).fmod k1) (hz3 : z3 = (z2 * (z2.fdiv k6 + k7 + l)).fmod k5) (h0 : 0 ≤ l) (h1 : l ≤ 2000000) (b1 : 0 < k1 ∧ k1 ≤ 4294967296) (b2 : 0 ≤ k2 ∧ k2 ≤ 100000) (b3 : 0 < k3 ∧ k3 ≤ 2000000) (b4 : 0 ≤ k4 ∧ k4 ≤ 100000) (b5 : 0 < k5 ∧ k5 ≤ 4294967296) (b6 : 0 < k6 ∧ k6 ≤ 10000) (b7 : 0 ≤ k7 ∧ k7 ≤ 100000) (b8 : 0 < k8 ∧ k8 ≤ 10000) (b9 : 0 ≤ k9 ∧ k9 ≤ 100000) :
    (0 ≤ z1 ∧ z1 ≤ 1099511627776) ∧ (0 ≤ z2 ∧ z2 < 4294967296) ∧ (0 ≤ z3 ∧ z3 < 4294967296) ∧ (0 ≤ z2.fdiv k6 + k7 + l ∧ z2.fdiv k6 + k7 + l ≤ 1099511627776) ∧ 0 ≤ z3.fdiv k8 + k9 ∧ z3.fdiv k8 + k9 ≤ 1099511627776 := by
  have a1 := fmod_range (a := c) b1.1
  have a2 := fmod_range (a := c.fdiv k1) b3.1
  have a3 : 0 ≤ k2 * l ∧ k2 * l ≤ 200000000000 := ⟨Int.mul_nonneg b2.1 h0, Int.le_trans (Int.mul_le_mul b2.2 h1 h0 (by omega)) (by omega)⟩
  have r2 := fmod_range (a := z1 * k4) b1.1
  rw [← hz2] at r2
  have r3 := fdiv_range (a := z2) b6.1 r2.1
  have r4 := fmod_range (a := z2 * (z2.fdiv k6 + k7 + l)) b5.1
  rw [← hz3] at r4
  have r5 := fdiv_range (a := z3) b8.1 r4.1
  omega
theorem mul_40 {a b : Int} (ha : 0 ≤ a ∧ a ≤ 1099511627776) (hb : 0 ≤ b ∧ b ≤ 1099511627776) : mulOk a b := by
  have e40 := p40
  exact mul_small (i := 40) (j := 40) ha.1 (by rw [e40]; exact ha.2) hb.1 (by rw [e40]; exact hb.2) (by omega)
theorem div_40 {a : Int} (ha : 0 < a ∧ a ≤ 1099511627776) : divOk a := by
  have e100 := p100
  exact divOk_small ha.1 (by rw [e100]; omega)
/-- the mixture, for any constants of the right size -/
theorem mix_gen {c l k1 k2 k3 k4 k5 k6 k7 k8 k9 k10 : Int} {w : Wl} (h0 : 0 ≤ l) (h1 : l ≤ 2000000) (b1 : 0 < k1 ∧ k1 ≤ 4294967296) (b2 : 0 ≤ k2 ∧ k2 ≤ 100000) (b3 : 0 < k3 ∧ k3 ≤ 2000000) (b4 : 0 ≤ k4 ∧ k4 ≤ 100000) (b5 : 0 < k5 ∧ k5 ≤ 4294967296) (b6 : 0 < k6 ∧ k6 ≤ 10000) (b7 : 0 ≤ k7 ∧ k7 ≤ 100000) (b8 : 0 < k8 ∧ k8 ≤ 10000) (b9 : 0 ≤ k9 ∧ k9 ≤ 100000) (b10 : 0 < k10) :
    ∃ m, runB 3 2 (sSeq (sAsg 2 (mE1 k1 k2 k3)) (sSeq (sAsg 2 (mE2 k4 k1)) (sSeq (sAsg 2 (mE3 k6 k7 k5)) (sRet (mE4 k8 k9 k10))))) [.int c, .int l] w = .ok (.int m) w := by
  obtain ⟨z1, hz1⟩ : ∃ z, z = c.fmod k1 + k2 * l + (c.fdiv k1).fmod k3 + 1 := ⟨_, rfl⟩
  obtain ⟨z2, hz2⟩ : ∃ z, z = (z1 * k4).fmod k1 := ⟨_, rfl⟩
  obtain ⟨z3, hz3⟩ : ∃ z, z = (z2 * (z2.fdiv k6 + k7 + l)).fmod k5 := ⟨_, rfl⟩
  obtain ⟨r1, r2, r3, r4, r5⟩ := mix_num hz1 hz2 hz3 h0 h1 b1 b2 b3 b4 b5 b6 b7 b8 b9
  exact ⟨_, mix_run hz1 hz2 hz3 (div_40 ⟨b1.1, by omega⟩) (div_40 ⟨b6.1, by omega⟩) (div_40 ⟨b8.1, by omega⟩) (mul_40 ⟨b2.1, by omega⟩ ⟨h0, by omega⟩) (mul_40 r1 ⟨b4.1, by omega⟩) (mul_40 ⟨r2.1, by omega⟩ r4) (mul_40 ⟨r3.1, by omega⟩ r5) (by omega) (by omega) (by omega) (by omega)⟩
theorem e_mix {c l : Int} (h0 : 0 ≤ l) (h1 : l ≤ 2000000) : ∃ m, F_w_mix [.int c, .int l] w = .ok (.int m) w :=
  mix_gen h0 h1 ⟨by omega, by omega⟩ ⟨by omega, by omega⟩ ⟨by omega, by omega⟩ ⟨by omega, by omega⟩ ⟨by omega, by omega⟩ ⟨by omega, by omega⟩ ⟨by omega, by omega⟩ ⟨by omega, by omega⟩ ⟨by omega, by omega⟩ (by omega)
theorem e_draw {n : Int} (h0 : 0 < n) (h1 : n ≤ 2 ^ 100) (hb : b < 1010000) (hw : Lap b w) : okE (F_w_draw [.well, .int n] w) fun d w' => ∃ k : Int, d = .int k ∧ (0 ≤ k ∧ k < n) ∧ Lap (b + 1) w' := by
  obtain ⟨l0, l1⟩ := hw
  have hn : n ≠ 0 := by omega
  have dn : divOk n := divOk_small h0 h1
  simp [F_w_draw, B_w_draw, okE_run, List.replicate]
  by_cases hp : 0 < w.1
  · simp [hp, hn, dn]
    exact ⟨fmod_range h0, l0, by show w.2.2 ≤ _; omega⟩
  · obtain ⟨m, hm⟩ := e_mix (w := (w.1, w.2.1, w.2.2 + 1)) (c := w.2.1) (l := w.2.2 + 1) (by omega) (by omega)
    simp [hp, hm, hn]
    exact ⟨fmod_range h0, by show 0 ≤ w.2.2 + 1; omega, by show w.2.2 + 1 ≤ _; omega⟩
/-- a draw, and then on -/
theorem draw {n : Int} {Q : D → Wl → Prop} (hw : Lap b w) (h0 : 0 < n) (h1 : n ≤ 2 ^ 100) (hb : b < 1010000) (q : ∀ (k : Int) (w' : Wl), 0 ≤ k → k < n → Lap (b + 1) w' → Q (.int k) w') : okE (F_w_draw [.well, .int n] w) Q :=
  okE_mono (e_draw h0 h1 hb hw) fun d w' ⟨k, e, h, l⟩ => by subst e; exact q k w' h.1 h.2 l
theorem lap_le {c : Nat} (h : Lap b w) (h1 : b ≤ c) : Lap c w := ⟨h.1, by have := h.2; omega⟩
end
end DL

set_option maxHeartbeats 2000000
namespace DL
open PySem PySem.Spec PyProof.Rows L2
variable [TabT]
/-! ### slices -/
@[simp] theorem okE_sl {A : DE} {L M : Sl → Wl → R (Option Int)} {s : Sl} {w : Wl} {Q : D → Wl → Prop} : okE (eSl A L M s w) Q = okE (A s w) fun x w1 => okE (L s w1) fun l w2 => okE (M s w2) fun m w3 => match x with
    | .lst xs => Q (.lst (cutD xs l m)) w3
    | .tup xs => Q (.tup (cutD xs l m)) w3
    | _ => False := by
  unfold eSl; simp only [okE_bind]; congr; funext x w1; congr; funext l w2; congr; funext m w3; cases x <;> rfl
@[simp] theorem okE_oNone {s : Sl} {w : Wl} {Q : Option Int → Wl → Prop} : okE (oNone s w) Q = Q none w := rfl
@[simp] theorem okE_oSome {A : DE} {s : Sl} {w : Wl} {Q : Option Int → Wl → Prop} : okE (oSome A s w) Q = okE (A s w) fun x w1 => match x with
    | .int i => Q (some i) w1
    | _ => False := by unfold oSome; simp only [okE_bind]; congr; funext x w1; cases x <;> rfl
theorem cutD_init {α : Type} {xs : List α} {x : α} : cutD (xs ++ [x]) none (some (-1)) = xs := by
  unfold cutD
  have e : HT.sIx (xs ++ [x]).length (xs ++ [x]).length (some (-1)) = xs.length := by
    unfold HT.sIx
    simp
    omega
  rw [e, HT.sIx_none]
  simp
theorem atI_snoc {xs : List D} {x : D} : atI (xs ++ [x]) (-1) = some x := atI_last xs x
/-! ### dummies -/
def lastB (bs : List (Int × Int)) (low : Int) (x : D) : D := .tup (bs.map pD ++ [.tup [.int low, x]])
theorem lastB_int {bs : List (Int × Int)} {low hi : Int} : lastB bs low (.int hi) = bD (bs ++ [(low, hi)]) := by simp [lastB, bD, pD]
def mx (n : Int) : Int := if n > 1 then n else 1
@[simp] theorem getS_bD {bs : List (Int × Int)} {s : Sl} : getS (some (bD bs) :: s) 0 = some (bD bs) := rfl
@[simp] theorem getS_eD {xs : List Int} {s : Sl} : getS (some (eD xs) :: s) 0 = some (eD xs) := rfl
@[simp] theorem getS_lastB {bs : List (Int × Int)} {low : Int} {x : D} {s : Sl} : getS (some (lastB bs low x) :: s) 0 = some (lastB bs low x) := rfl
section
variable {w : Wl} {bs : List (Int × Int)} {xs : List Int} {low many more : Int} {x : D}
theorem mx_ok (h : Bw bs) : divOk (mx (prod (bs.map ext))) := by
  have hp := prod_small (exts_small h)
  have h7 := h.few
  have : mx (prod (bs.map ext)) ≤ 2 ^ (110 * (bs.map ext).length) := by
    unfold mx
    split
    · exact hp.2
    · have : (1 : Int) ≤ 2 ^ (110 * (bs.map ext).length) := by exact_mod_cast Nat.one_le_two_pow
      exact this
  have h0 : 0 < mx (prod (bs.map ext)) := by unfold mx; split <;> omega
  exact divOk_of (by omega) (Nat.lt_of_lt_of_le (nat_lt_pow (by omega) this) (Nat.pow_le_pow_right (by decide) (by rw [List.length_map]; omega)))
theorem e_with_rows (h : Bw bs) : F_with_rows [.tup [lastB bs low x, .int many], .int more] w = .ok (bD (bs ++ [(low, low + (many.fdiv (mx (prod (bs.map ext))) + more) - 1)])) w := by
  apply okE_eq
  have h7 := h.few
  have hlim : lim = 16000000 := rfl
  have hm := mx_ok h
  simp [F_with_rows, B_with_rows, okE_run, List.replicate]
  unfold lastB
  simp [atI_snoc, cutD_init]
  rw [show atI [D.int low, x] 0 = some (D.int low) from rfl]
  simp
  rw [show D.tup (bs.map pD) = bD bs from rfl, e_size_of h]
  simp
  rw [show (if prod (bs.map ext) > 1 then prod (bs.map ext) else 1) = mx (prod (bs.map ext)) from rfl]
  simp [hm, hlim, bD, pD]
  omega
/-- strings that the program compares -/
theorem okD_str (c : Str) (h : (PyData.str c).canLay0 = true) : okD (.str c) = true := by
  simp [okD, toPD, SeqAt.shaped, h, PyData.depth]
@[simp] theorem okD_whole : okD (.str "whole") = true := okD_str _ (by decide +kernel)
@[simp] theorem okD_from : okD (.str "from") = true := okD_str _ (by decide +kernel)
@[simp] theorem okD_section : okD (.str "section") = true := okD_str _ (by decide +kernel)
@[simp] theorem eqD_str {a b : Str} : eqD (.str a) (.str b) = (a == b) := by
  show (PyData.eqv (.str a) (.str b)) = _
  unfold PyData.eqv
  rfl
@[simp] theorem eqD_tupstr {xs : List D} {b : Str} : eqD (.tup xs) (.str b) = false := by
  show (PyData.eqv (.tuple _) (.str b)) = _
  unfold PyData.eqv
  rfl
theorem okD_hand {c : Str} {d : D} (h1 : okD (.str c) = true) (h2 : (toPD d).canLay0 = true ∧ (toPD d).depth ≤ 60) : okD (.tup [.str c, d]) = true := by
  have h3 : (PyData.str c).canLay0 = true := by
    simp [okD, toPD, SeqAt.shaped] at h1
    exact h1.1
  simp [okD, toPD, toPDs, SeqAt.shaped, PyData.canLay0, PyData.canLayAll0, PyData.depth, PyData.depthAll, h2.1]
  refine ⟨by simpa [PyData.canLay0] using h3, ?_⟩
  have := h2.2
  omega
theorem e_of_array (h : Bds bs) : F_of_array [bD bs] w = .ok (.tup [bD bs, .int (prod (bs.map ext))]) w := by
  apply okE_eq
  have hlim : lim = 16000000 := rfl
  simp [F_of_array, B_of_array, okE_run, List.replicate, e_check h, e_size_of h.wide, hlim]
theorem e_open_no (h : bs ≠ []) : F_is_open [bD bs] w = .ok (.bl false) w := by
  apply okE_eq
  obtain ⟨as, p, rfl⟩ : ∃ as p, bs = as ++ [p] := ⟨bs.dropLast, bs.getLast h, (List.dropLast_concat_getLast h).symm⟩
  rw [show bD (as ++ [p]) = lastB as p.1 (.int p.2) by rw [lastB_int]]
  simp [F_is_open, B_is_open, okE_run, List.replicate]
  unfold lastB
  simp [atI_snoc]
  intro _
  rw [show atI [D.int p.1, D.int p.2] 1 = some (D.int p.2) from rfl]
  rfl
theorem e_open_yes : F_is_open [lastB bs low .non] w = .ok (.bl true) w := by
  apply okE_eq
  simp [F_is_open, B_is_open, okE_run, List.replicate]
  unfold lastB
  simp [atI_snoc]
  refine ⟨by omega, ?_⟩
  rw [show atI [D.int low, D.non] 1 = some D.non from rfl]
  rfl
theorem e_dummy_no (h : Bds bs) : F_is_dummy [bD bs] w = .ok (.bl true) w := by
  apply okE_eq
  have hne : bs ≠ [] := fun z => by
    have := h.one
    rw [z] at this
    simp at this
  simp [F_is_dummy, B_is_dummy, okE_run, List.replicate, e_open_no hne, e_is_bounds h]
theorem e_dummy_yes (h : Bds (bs ++ [(low, low)])) : F_is_dummy [lastB bs low .non] w = .ok (.bl true) w := by
  apply okE_eq
  have hlim : lim = 16000000 := rfl
  have h7 := h.few
  rw [List.length_append] at h7
  simp [F_is_dummy, B_is_dummy, okE_run, List.replicate, e_open_yes]
  unfold lastB
  simp [atI_snoc, cutD_init]
  rw [show atI [D.int low, D.non] 0 = some (D.int low) from rfl]
  simp [hlim]
  rw [show D.tup (bs.map pD ++ [D.tup [D.int low, D.int low]]) = bD (bs ++ [(low, low)]) by simp [bD, pD], e_is_bounds h]
  simp
  simp at h7
  omega
theorem e_rest (h : Bw bs) : F_rows_and_rest [.tup [lastB bs low x, .int many]] w = .ok (bD (bs ++ [(low, low + (many.fdiv (mx (prod (bs.map ext))) + 1) - 1)])) w := by
  apply okE_eq
  simp [F_rows_and_rest, B_rows_and_rest, okE_run, List.replicate, e_with_rows h]
theorem e_whole (h : Bw bs) : F_whole_rows [.tup [lastB bs low x, .int many]] w = .ok (bD (bs ++ [(low, low + (many.fdiv (mx (prod (bs.map ext))) + 0) - 1)])) w := by
  apply okE_eq
  simp [F_whole_rows, B_whole_rows, okE_run, List.replicate, e_with_rows h]
/-- the bounds of a holder with all its rows, and the rest -/
def rowsB (bs : List (Int × Int)) (low many : Int) : List (Int × Int) := bs ++ [(low, low + (many.fdiv (mx (prod (bs.map ext))) + 1) - 1)]
theorem e_place_in (h : Bw bs) (hr : Bw (rowsB bs low many)) (he : El (rowsB bs low many) xs) (hm : place (rowsB bs low many) xs < many) : F_place_in [.tup [lastB bs low x, .int many], eD xs] w = .ok (.int (place (rowsB bs low many) xs)) w := by
  apply okE_eq
  simp [F_place_in, B_place_in, okE_run, List.replicate, e_rest h]
  rw [show bD (bs ++ [(low, low + (many.fdiv (mx (prod (bs.map ext))) + 1) - 1)]) = bD (rowsB bs low many) from rfl, e_is_element hr he]
  simp
  rw [e_place_there hr he]
  simp
  rw [show atI [lastB bs low x, D.int many] 1 = some (D.int many) from rfl]
  simp [hm]
@[simp] theorem v_isN_int {a : Int} : fIsN w (.int a) .non = some (.bl false) := rfl
@[simp] theorem v_isN_tup {a : List D} : fIsN w (.tup a) .non = some (.bl false) := rfl
@[simp] theorem v_isN_non : fIsN w .non .non = some (.bl true) := rfl
theorem eq_fs : (("from" : Str) == ("section" : Str)) = false := by decide
/-- a part that begins at an element -/
def fromD (xs : List Int) : D := .tup [.str "from", eD xs]
theorem lay_eD {xs : List Int} : (toPD (eD xs)).canLay0 = true ∧ (toPD (eD xs)).depth ≤ 60 := by
  have := lay_ints xs
  simp [eD, toPD, toPDs_ints, PyData.canLay0, PyData.depth, this]
@[simp] theorem eqD_fromD {xs : List Int} {c : Str} : eqD (fromD xs) (.str c) = false := eqD_tupstr
@[simp] theorem okD_fromD {xs : List Int} : okD (fromD xs) = true := okD_hand okD_from lay_eD
theorem e_from (h : Bw bs) (hr : Bw (rowsB bs low many)) (he : El (rowsB bs low many) xs) (hm : place (rowsB bs low many) xs < many) :
    F_part_handed [.tup [lastB bs low x, .int many], fromD xs] w = .ok (eD [place (rowsB bs low many) xs, many - place (rowsB bs low many) xs]) w := by
  apply okE_eq
  have hlim : lim = 16000000 := rfl
  simp [F_part_handed, B_part_handed, okE_run, List.replicate]
  rw [show getS (some (fromD xs) :: [none, none, none]) 0 = some (fromD xs) from rfl]
  simp
  unfold fromD
  simp [eq_fs]
  rw [e_place_in h hr he hm]
  simp
  rw [show atI [lastB bs low x, D.int many] 1 = some (D.int many) from rfl]
  simp [hlim, eD]
theorem e_whole_part (b : D) : F_part_handed [.tup [b, .int many], .str "whole"] w = .ok (eD [0, many]) w := by
  apply okE_eq
  have hlim : lim = 16000000 := rfl
  simp [F_part_handed, B_part_handed, okE_run, List.replicate]
  rw [show atI [b, D.int many] 1 = some (D.int many) from rfl]
  simp [hlim, eD]
/-- what is received: the first place, and the holder -/
theorem e_received_open {hd part : D} {p m : Int} (hp : F_part_handed [hd, part] w = .ok (eD [p, m]) w) (h : Bds (bs ++ [(low, low)])) (g1 : ∀ s, getS (some hd :: s) 0 = some hd) (g2 : ∀ s, getS (some part :: s) 0 = some part) :
    F_received [hd, part, lastB bs low .non] w = .ok (.tup [.int p, .tup [lastB bs low .non, .int m]]) w := by
  apply okE_eq
  have hlim : lim = 16000000 := rfl
  simp [F_received, B_received, okE_run, List.replicate, g1, g2, hp]
  unfold eD
  simp [g1, g2, hlim, e_dummy_yes h, e_open_yes]
theorem e_received {hd part : D} {p m : Int} {ds : List (Int × Int)} (hp : F_part_handed [hd, part] w = .ok (eD [p, m]) w) (h : Bds ds) (hs : prod (ds.map ext) ≤ m) (g1 : ∀ s, getS (some hd :: s) 0 = some hd) (g2 : ∀ s, getS (some part :: s) 0 = some part) :
    F_received [hd, part, bD ds] w = .ok (.tup [.int p, .tup [bD ds, .int (prod (ds.map ext))]]) w := by
  apply okE_eq
  have hlim : lim = 16000000 := rfl
  have hne : ds ≠ [] := fun z => by
    have := h.one
    rw [z] at this
    simp at this
  simp [F_received, B_received, okE_run, List.replicate, g1, g2, hp]
  unfold eD
  simp [g1, g2, hlim, e_dummy_no h, e_open_no hne, e_size_of h.wide]
  omega
end
end DL

set_option maxHeartbeats 2000000
namespace DL
open PySem PySem.Spec PyProof.Rows L2
variable [TabT]
theorem okE_lcall2 {γ : Type} {A : DE} {G : DG} (g f : γ → D) {s : Sl} {w : Wl} {xs : List γ} {ds : List D} {Q : List D → Wl → Prop} (e : ds = xs.map g) (h : ∀ x ∈ xs, okO (G (g x) s) fun s1 => okE (A s1 w) fun d w1 => d = f x ∧ w1 = w) (q : Q (xs.map f) w) : okE (lcD G tYesD A ds s w) Q := by
  subst e
  exact okE_lcall g f h q
/-! ### triplets by one -/
def tD (a b : Int) : D := .tup [.int a, .int b, .int 1]
def far (n : Int) : Prop := -1000000000000000000000000000000 ≤ n ∧ n ≤ 1000000000000000000000000000000
section
variable {w : Wl} {a b n : Int}
theorem e_far1 (h : far n) : F_is_far [.int n] w = .ok (.bl true) w := by
  apply okE_eq
  simp [F_is_far, B_is_far, okE_run, e_is_number, h.1, h.2]
theorem e_far_no {xs : List D} : F_is_far [.tup xs] w = .ok (.bl false) w := by
  apply okE_eq
  have e : F_is_number [.tup xs] w = .ok (.bl false) w := rfl
  simp [F_is_far, B_is_far, okE_run, e]
theorem e_triplet (ha : far a) (hb : far b) : F_is_triplet [tD a b] w = .ok (.bl true) w := by
  apply okE_eq
  have hlim : lim = 16000000 := rfl
  simp [F_is_triplet, B_is_triplet, okE_run, List.replicate, tD, hlim]
  refine okE_lcall2 D.int (fun n => .bl true) (xs := [a, b, 1]) rfl (fun x hx => ?_) ?_
  · have hx2 : far x := by
      simp at hx
      rcases hx with e | e | e
      · rw [e]; exact ha
      · rw [e]; exact hb
      · rw [e]; exact ⟨by decide, by decide⟩
    simp [e_far1 hx2]
  · rw [v_all]
    simp
    rw [show atI [D.int a, D.int b, D.int 1] 2 = some (D.int 1) from rfl]
    simp
theorem e_part (ha : far a) (hb : far b) : F_is_part [tD a b] w = .ok (.bl true) w := by
  apply okE_eq
  have e1 : F_is_far [tD a b] w = .ok (.bl false) w := e_far_no
  have e2 := e_triplet (w := w) ha hb
  unfold tD at e1 e2 ⊢
  simp [F_is_part, B_is_part, okE_run, List.replicate, e1, e2]
theorem e_many (h : a ≤ b) : F_many_of [tD a b] w = .ok (.int (b - a + 1)) w := by
  apply okE_eq
  have d1 : divOk 1 := divOk_small (by decide) (by decide)
  simp [F_many_of, B_many_of, okE_run, List.replicate, tD, d1]
  intro _
  omega
theorem e_sub {k : Int} (hk : mulOk k 1) : F_subscript_of [tD a b, .int k] w = .ok (.int (a + k)) w := by
  apply okE_eq
  simp [F_subscript_of, B_subscript_of, okE_run, List.replicate, tD]
  rw [show atI [D.int a, D.int b, D.int 1] 0 = some (D.int a) from rfl, show atI [D.int a, D.int b, D.int 1] 2 = some (D.int 1) from rfl]
  simp [hk]
theorem mul_one_ok {k : Int} (h0 : 0 ≤ k) (h1 : k ≤ 2 ^ 110) : mulOk k 1 := mul_small (j := 1) h0 h1 (by decide) (by decide) (by decide)
theorem far_diff (ha : far a) (hb : far b) (h : a ≤ b) : 0 ≤ b - a ∧ b - a ≤ 2 ^ 110 := by
  have e : (2 : Int) ^ 110 = 1298074214633706907132624082305024 := by decide
  unfold far at ha hb
  omega
theorem e_last (ha : far a) (hb : far b) (h : a ≤ b) : F_last_of [tD a b] w = .ok (.int b) w := by
  apply okE_eq
  have hd := far_diff ha hb h
  have e1 := e_many (w := w) h
  have e2 := e_sub (w := w) (a := a) (b := b) (k := b - a + 1 - 1) (mul_one_ok (by omega) (by omega))
  unfold tD at e1 e2 ⊢
  simp only [F_last_of, B_last_of, okE_run, List.replicate]
  simp [e1]
  simp at e2
  rw [e2]
  simp
  omega
theorem e_lies {l h : Int} (ha : far a) (hb : far b) (hab : a ≤ b) (hl : l ≤ a) (hh : b ≤ h) : F_lies_between [tD a b, .int l, .int h] w = .ok (.bl true) w := by
  apply okE_eq
  have hlim : lim = 16000000 := rfl
  have e1 := e_last (w := w) ha hb hab
  unfold tD at e1 ⊢
  simp [F_lies_between, B_lies_between, okE_run, List.replicate, e1]
  rw [show atI [D.int a, D.int b, D.int 1] 0 = some (D.int a) from rfl]
  simp [hlim]
  refine okE_lcall2 D.int (fun n => .bl true) (xs := [a, b]) rfl (fun x hx => ?_) ?_
  · have hx2 : l ≤ x ∧ x ≤ h := by
      simp at hx
      rcases hx with e | e <;> omega
    simp [hx2.1, hx2.2]
  · rw [v_all]
    simp
/-! ### sections of two such parts -/
def sD (a b c d : Int) : D := .tup [tD a b, tD c d]
variable {c d l0 h0 l1 h1 : Int}
theorem e_many_in (hab : a ≤ b) (hcd : c ≤ d) (s1 : small (b - a + 1)) (s2 : small (d - c + 1)) : F_many_in [sD a b c d] w = .ok (.int ((b - a + 1) * (d - c + 1))) w := by
  apply okE_eq
  have hlim : lim = 16000000 := rfl
  simp [F_many_in, B_many_in, okE_run, List.replicate, sD, hlim]
  refine okE_lcall2 (fun p : Int × Int => tD p.1 p.2) (fun p => .int (p.2 - p.1 + 1)) (xs := [(a, b), (c, d)]) rfl (fun x hx => ?_) ?_
  · have hx2 : x.1 ≤ x.2 := by
      simp at hx
      rcases hx with e | e <;> (rw [e]; assumption)
    have e1 := e_many (w := w) hx2
    unfold tD at e1 ⊢
    simp [e1]
  · have e := e_multiplied (w := w) (ns := [b - a + 1, d - c + 1]) (by simp) (by simp; exact ⟨s1, s2⟩)
    simp only [List.map_cons, List.map_nil] at e ⊢
    rw [e]
    simp [prod]
theorem e_is_section (ha : far a) (hb : far b) (hc : far c) (hd : far d) (hab : a ≤ b) (hcd : c ≤ d) (s1 : small (b - a + 1)) (s2 : small (d - c + 1)) (g0 : l0 ≤ a ∧ b ≤ h0) (g1 : l1 ≤ c ∧ d ≤ h1) :
    F_is_section [bD [(l0, h0), (l1, h1)], sD a b c d] w = .ok (.bl true) w := by
  apply okE_eq
  have hlim : lim = 16000000 := rfl
  have em := e_many_in (w := w) hab hcd s1 s2
  simp [F_is_section, B_is_section, okE_run, List.replicate, sD, bD, hlim]
  unfold sD at em
  refine okE_lcall2 (fun p : Int × Int => tD p.1 p.2) (fun p => .bl true) (xs := [(a, b), (c, d)]) rfl (fun x hx => ?_) ?_
  · have hx2 : F_is_part [tD x.1 x.2] w = .ok (.bl true) w := by
      simp at hx
      rcases hx with e | e <;> (rw [e]; apply e_part <;> assumption)
    unfold tD at hx2 ⊢
    simp [hx2]
  · rw [v_all]
    simp [em, hlim]
    have hne : ¬ ((b - a + 1) * (d - c + 1) = 0) := by
      have : 0 < (b - a + 1) * (d - c + 1) := Int.mul_pos (by omega) (by omega)
      omega
    intro _ _
    refine ⟨by simp [zipD], okE_lcall2 (fun t : (Int × Int) × Int × Int => .tup [tD t.1.1 t.1.2, pD (t.2.1, t.2.2)]) (fun p => .bl true) (xs := [((a, b), l0, h0), ((c, d), l1, h1)]) rfl (fun x hx => ?_) ?_⟩
    · have hx2 : F_lies_between [tD x.1.1 x.1.2, .int x.2.1, .int x.2.2] w = .ok (.bl true) w := by
        simp at hx
        rcases hx with e | e
        · rw [e]; exact e_lies ha hb hab g0.1 g0.2
        · rw [e]; exact e_lies hc hd hcd g1.1 g1.2
      unfold tD at hx2 ⊢
      simp [pD, hx2]
    · rw [v_all]
      simp
theorem okS_cons {G : DG} {U : DS} {r : List D} {x : D} {s : Sl} {N : Sl → Wl → Prop} {Z : D → Wl → Prop} (h : okO (G x s) fun s1 => okS (U s1 w) (fun s2 w2 => okS (loopD G U r s2 w2) N Z) Z) : okS (loopD G U (x :: r) s w) N Z := by
  unfold loopD
  cases e : G x s with
  | none => rw [e] at h; exact h.elim
  | some s1 =>
    rw [e] at h
    simp only [okO_some] at h
    dsimp only
    cases e2 : U s1 w <;> (rw [e2] at h; first | exact h | exact h.elim)
@[simp] theorem okS_nil {G : DG} {U : DS} {s : Sl} {N : Sl → Wl → Prop} {Z : D → Wl → Prop} : okS (loopD G U [] s w) N Z = N s w := rfl
@[simp] theorem getS_tD {s : Sl} : getS (some (tD a b) :: s) 0 = some (tD a b) := rfl
theorem e_joints {t wt : Int} (hab : a ≤ b) (hw : 0 ≤ wt ∧ wt ≤ 2 ^ 220) (ht : t + wt = 1) : F_joints [tD a b, .int wt, .int t] w = .ok (.int (b - a)) w := by
  apply okE_eq
  have hm : mulOk 1 wt := mul_small (i := 1) (by decide) (by decide) hw.1 hw.2 (by decide)
  have e1 := e_many (w := w) hab
  unfold tD at e1 ⊢
  simp [F_joints, B_joints, okE_run, List.replicate]
  rw [show atI [D.int a, D.int b, D.int 1] 2 = some (D.int 1) from rfl]
  simp [hm, e1, ht]
theorem e_stretches (ha : far l0) (hb : far h0) (hc : far c) (hd : far d) (hab : l0 ≤ h0) (hcd : c ≤ d) (s1 : small (h0 - l0 + 1)) (s2 : small (d - c + 1)) (hB : Bw [(l0, h0), (l1, h1)]) :
    F_stretches_of [bD [(l0, h0), (l1, h1)], sD l0 h0 c d] w = .ok (.int 1) w := by
  apply okE_eq
  have em := e_many_in (w := w) hab hcd s1 s2
  have e0 := e_many (w := w) hab
  have e1 := e_many (w := w) hcd
  have ew := e_weights (w := w) hB
  have hx : ext (l0, h0) = h0 - l0 + 1 := by
    unfold ext
    dsimp only
    split <;> omega
  simp only [List.map_cons, List.map_nil, wts, hx, Int.one_mul] at ew
  have hj0 := e_joints (w := w) (a := l0) (b := h0) (wt := 1) (t := 0) hab ⟨by decide, by decide⟩ (by decide)
  have hj1 := e_joints (w := w) (a := c) (b := d) (wt := h0 - l0 + 1) (t := l0 - h0) hcd ⟨by omega, Int.le_trans s1.2 (by decide)⟩ (by omega)
  have hl0 := e_last (w := w) ha hb hab
  have hl1 := e_last (w := w) hc hd hcd
  have hs0 := e_sub (w := w) (a := l0) (b := h0) (k := 0) (mul_one_ok (by decide) (by decide))
  have hs1 := e_sub (w := w) (a := c) (b := d) (k := 0) (mul_one_ok (by decide) (by decide))
  have hpos : 0 < (h0 - l0 + 1) * (d - c + 1) := Int.mul_pos (by omega) (by omega)
  have q0 : ((h0 - l0 + 1) * (d - c + 1)).fdiv (h0 - l0 + 1) = d - c + 1 := by
    rw [Int.fdiv_eq_ediv_of_nonneg _ (by omega), Int.mul_comm]
    exact Int.mul_ediv_cancel _ (by omega)
  have q1 : (d - c + 1).fdiv (d - c + 1) = 1 := by
    rw [Int.fdiv_eq_ediv_of_nonneg _ (by omega)]
    exact Int.ediv_self (by omega)
  have dv0 : divOk (h0 - l0 + 1) := divOk_of (by omega) (Nat.lt_of_lt_of_le (nat_lt_pow s1.1 s1.2) (Nat.pow_le_pow_right (by decide) (by decide)))
  have dv1 : divOk (d - c + 1) := divOk_of (by omega) (Nat.lt_of_lt_of_le (nat_lt_pow s2.1 s2.2) (Nat.pow_le_pow_right (by decide) (by decide)))
  simp only [F_stretches_of, B_stretches_of, okE_run, List.replicate]
  simp [em, show getS (some (sD l0 h0 c d) :: [none, none, none, none, none, none]) 0 = some (sD l0 h0 c d) from rfl]
  refine ⟨⟨by omega, by omega⟩, ?_⟩
  rw [show ∀ q, getS (some (sD l0 h0 c d) :: q) 0 = some (sD l0 h0 c d) from fun _ => rfl]
  simp only [okO_some]
  rw [ew]
  simp only [okE_ok]
  rw [show zip2D [sD l0 h0 c d, D.lst [D.int 1, D.int (h0 - l0 + 1)]] = some [.tup [tD l0 h0, .int 1], .tup [tD c d, .int (h0 - l0 + 1)]] from rfl]
  simp only [okO_some]
  have mA : mulOk (d - c + 1) (h0 - l0) := mul_small (i := 110) (j := 110) s2.1 s2.2 (by omega) (by have := s1.2; omega) (by decide)
  have mB : mulOk (l0 + 0 - h0) 1 := by
    have := far_diff ha hb hab
    refine mulOk_of (i := 112) (j := 2) ?_ (by decide) (by decide) (by decide) (by decide)
    have e : (l0 + 0 - h0).natAbs = (h0 - l0).natAbs := by omega
    rw [e]
    exact Nat.lt_of_lt_of_le (nat_lt_pow this.1 this.2) (Nat.pow_le_pow_right (by decide) (by decide))
  have mC : mulOk 1 (d - c) := mul_small (i := 1) (j := 110) (by decide) (by decide) (by omega) (by have := s2.2; omega) (by decide)
  have mD : mulOk (c + 0 - d) (h0 - l0 + 1) := by
    have := far_diff hc hd hcd
    refine mulOk_of (i := 112) (j := 112) ?_ (Nat.lt_of_lt_of_le (nat_lt_pow s1.1 s1.2) (Nat.pow_le_pow_right (by decide) (by decide))) (by decide) (by decide) (by decide)
    have e : (c + 0 - d).natAbs = (d - c).natAbs := by omega
    rw [e]
    exact Nat.lt_of_lt_of_le (nat_lt_pow this.1 this.2) (Nat.pow_le_pow_right (by decide) (by decide))
  refine okS_cons ?_
  simp [e0, dv0, q0, hj0, mA, hs0, hl0]
  refine ⟨by simpa using mB, ?_⟩
  refine okS_cons ?_
  simp [e1, dv1, q1]
  simp [hj1, mC, hs1, hl1]
  have eP : (h0 - l0 + 1) * (d - c + 1) = (d - c + 1) * (h0 - l0) + (d - c + 1) := by
    rw [Int.add_mul, Int.one_mul, Int.mul_comm]
  refine ⟨by simpa using mD, ?_⟩
  omega
theorem e_element_in (hc : far c) (hab : a ≤ b) (hcd : c ≤ d) (s1 : small (b - a + 1)) (s2 : small (d - c + 1)) : F_element_in [sD a b c d, .int 0] w = .ok (eD [a, c]) w := by
  apply okE_eq
  have hlim : lim = 16000000 := rfl
  have e0 := e_many (w := w) hab
  have e1 := e_many (w := w) hcd
  have hs0 := e_sub (w := w) (a := a) (b := b) (k := 0) (mul_one_ok (by decide) (by decide))
  have hs1 := e_sub (w := w) (a := c) (b := d) (k := 0) (mul_one_ok (by decide) (by decide))
  have dv0 : divOk (b - a + 1) := divOk_of (by omega) (Nat.lt_of_lt_of_le (nat_lt_pow s1.1 s1.2) (Nat.pow_le_pow_right (by decide) (by decide)))
  have dv1 : divOk (d - c + 1) := divOk_of (by omega) (Nat.lt_of_lt_of_le (nat_lt_pow s2.1 s2.2) (Nat.pow_le_pow_right (by decide) (by decide)))
  have n0 : b - a + 1 ≠ 0 := by omega
  have n1 : d - c + 1 ≠ 0 := by omega
  have f0 : (0 : Int).fmod (b - a + 1) = 0 := by rw [Int.fmod_eq_emod_of_nonneg _ (by omega)]; simp
  have f1 : (0 : Int).fmod (d - c + 1) = 0 := by rw [Int.fmod_eq_emod_of_nonneg _ (by omega)]; simp
  have f2 : (0 : Int).fdiv (b - a + 1) = 0 := by rw [Int.fdiv_eq_ediv_of_nonneg _ (by omega)]; simp
  simp [F_element_in, B_element_in, okE_run, List.replicate]
  rw [show getS (some (sD a b c d) :: [some (D.int 0), some (D.own []), some (D.int 0), none, none]) 0 = some (sD a b c d) from rfl]
  simp [sD]
  refine okS_cons ?_
  simp [e0, hs0, f0, f2, dv0, n0, hlim]
  refine okS_cons ?_
  simp [e1, hs1, f1, dv1, n1, hlim, eD]
theorem e_section (ha : far l0) (hb : far h0) (hc : far c) (hd : far d) (hab : l0 ≤ h0) (hcd : c ≤ d) (s1 : small (h0 - l0 + 1)) (s2 : small (d - c + 1)) (hB : Bw [(l0, h0), (l1, h1)]) (g1 : l1 ≤ c ∧ d ≤ h1) :
    F_section_handed [bD [(l0, h0), (l1, h1)], sD l0 h0 c d] w = .ok (eD [place [(l0, h0), (l1, h1)] [l0, c], (h0 - l0 + 1) * (d - c + 1)]) w := by
  apply okE_eq
  have hlim : lim = 16000000 := rfl
  have hpos : 0 < (h0 - l0 + 1) * (d - c + 1) := Int.mul_pos (by omega) (by omega)
  have hel : El [(l0, h0), (l1, h1)] [l0, c] := ⟨⟨Int.le_refl _, hab⟩, ⟨g1.1, by omega⟩, trivial⟩
  have gs : ∀ q, getS (some (sD l0 h0 c d) :: q) 0 = some (sD l0 h0 c d) := fun _ => rfl
  simp [F_section_handed, B_section_handed, okE_run, List.replicate, gs, e_is_section ha hb hc hd hab hcd s1 s2 ⟨Int.le_refl _, Int.le_refl _⟩ g1, e_many_in hab hcd s1 s2, e_stretches ha hb hc hd hab hcd s1 s2 hB, e_element_in hc hab hcd s1 s2, e_place_there hB hel, hlim]
  rw [if_neg (by omega)]
  rfl
end
end DL

set_option maxHeartbeats 2000000
namespace DL
open PySem PySem.Spec PyProof.Rows L2
variable [TabT]
/-- a value that a slot hands back as it is -/
def Sees (d : D) : Prop := ∀ s, getS (some d :: s) 0 = some d
section
variable {w : Wl} {bs : List (Int × Int)} {part dummy b2 el d : D} {p m q : Int}
theorem sees_tup {xs : List D} : Sees (.tup xs) := fun _ => rfl
theorem sees_str {c : Str} : Sees (.str c) := fun _ => rfl
theorem e_dummy_place (h : Bds bs) (g : Sees part) (g2 : Sees dummy) (g3 : Sees el) (hr : F_received [.tup [bD bs, .int (prod (bs.map ext))], part, dummy] w = .ok (.tup [.int p, .tup [b2, .int m]]) w) (hp : F_place_in [.tup [b2, .int m], el] w = .ok (.int q) w) :
    F_dummy_place [bD bs, part, dummy, el] w = .ok (.int (p + q)) w := by
  apply okE_eq
  simp [F_dummy_place, B_dummy_place, okE_run, List.replicate, e_of_array h, g _, g2 _, g3 _, hr, hp]
theorem e_dummy_element (h : Bds bs) (g : Sees part) (g2 : Sees dummy) (hr : F_received [.tup [bD bs, .int (prod (bs.map ext))], part, dummy] w = .ok (.tup [.int p, .tup [b2, .int m]]) w) (h0 : 0 ≤ q) (h1 : q < prod (bs.map ext)) (he : F_element_in_holder [.tup [b2, .int m], .int (q - p)] w = .ok d w) :
    F_dummy_element [bD bs, part, dummy, .int q] w = .ok d w := by
  apply okE_eq
  simp [F_dummy_element, B_dummy_element, okE_run, List.replicate, e_of_array h, g _, g2 _, hr, e_is_number]
  rw [show atI [bD bs, D.int (prod (bs.map ext))] 1 = some (D.int (prod (bs.map ext))) from rfl]
  simp [h0, h1, he]
theorem e_in_holder {low many k : Int} {x : D} (h : Bw bs) (hr : Bw (rowsB bs low many)) (h0 : 0 ≤ k) (h1 : k < many) (h2 : k < prod ((rowsB bs low many).map ext)) (hne : ∀ p ∈ rowsB bs low many, ext p ≠ 0) :
    F_element_in_holder [.tup [lastB bs low x, .int many], .int k] w = .ok (eD (elem (rowsB bs low many) k)) w := by
  apply okE_eq
  simp [F_element_in_holder, B_element_in_holder, okE_run, List.replicate, e_rest h]
  rw [show bD (bs ++ [(low, low + (many.fdiv (mx (prod (bs.map ext))) + 1) - 1)]) = bD (rowsB bs low many) from rfl, show atI [lastB bs low x, D.int many] 1 = some (D.int many) from rfl, e_size_of hr]
  have : k < if prod ((rowsB bs low many).map ext) < many then prod ((rowsB bs low many).map ext) else many := by split <;> assumption
  simp [h0, this, e_element_there hr hne]
end
end DL

set_option maxHeartbeats 2000000
namespace DL
open PySem PySem.Spec PyProof.Rows L2
variable [TabT]
/-! ### the law's own: size, place, element -/
section
variable {w : Wl} {bs : List (Int × Int)} {xs : List Int}
@[simp] theorem seqD_bD : seqD (bD bs) = some (true, bs.map pD) := rfl
@[simp] theorem seqD_eD : seqD (eD xs) = some (true, xs.map .int) := rfl
def PL (A B : D) (v : Int) (s : Sl) : Prop := ∃ (b' : Int) (t4 t5 t6 : Option D), s = [some A, some B, some (.int v), some (.int b'), t4, t5, t6]
theorem ext_max {p : Int × Int} : (if p.2 - p.1 + 1 > 0 then p.2 - p.1 + 1 else 0) = ext p := rfl
theorem ext_max2 {a b : Int} : (if 0 < b - a + 1 then b - a + 1 else 0) = ext (a, b) := rfl
theorem e_w_size (h : Bw bs) : F_w_size [bD bs] w = .ok (.int (prod (bs.map ext))) w := by
  apply okE_eq
  simp -implicitDefEqProofs [F_w_size, B_w_size, okE_run, List.replicate]
  refine okS_loop (fun i s w' => w' = w ∧ ∃ t u, s = [some (bD bs), some (.int (prod ((bs.map ext).take i))), t, u]) 0 ⟨rfl, none, none, by simp [prod]⟩ ?_ ?_
  · rintro i d s w' hd ⟨rfl, t, u, rfl⟩
    rw [List.getElem?_map] at hd
    obtain ⟨p, hp, rfl⟩ := Option.map_eq_some_iff.mp hd
    have hi : i < bs.length := (List.getElem?_eq_some_iff.mp hp).1
    have ps := prod_small (ns := (bs.map ext).take i) fun m hm => exts_small h m (List.mem_of_mem_take hm)
    have hns := exts_small h (ext p) (List.mem_map_of_mem (List.mem_of_getElem? hp))
    have h7 := h.few
    have hm := mul_small ps.1 ps.2 hns.1 hns.2 (by rw [List.length_take]; omega)
    unfold pD
    simp -implicitDefEqProofs [ext_max2]
    refine ⟨by simpa using hm, ?_⟩
    rw [List.take_add_one, List.getElem?_map, hp]
    simp [prod_append, prod]
  · rintro s w' ⟨rfl, t, u, rfl⟩
    simp -implicitDefEqProofs
    rw [List.take_of_length_le (by simp)]
/-- the place, counted as the law does -/
theorem e_w_place (h : Bw bs) (he : El bs xs) : F_w_place [bD bs, eD xs] w = .ok (.int (place bs xs)) w := by
  apply okE_eq
  have hlen := he.len
  simp -implicitDefEqProofs [F_w_place, B_w_place, okE_run, List.replicate]
  rw [zip2_two seqD_eD seqD_bD]
  simp only [okO_some]
  rw [zipD_maps]
  have key : ∀ (bs : List (Int × Int)) (xs : List Int) (f b : Int) (k : Nat) (t4 t5 t6 : Option D) (A B : D), El bs xs → (∀ p ∈ bs, (-40564819207303340847894502572032 ≤ p.1 ∧ p.1 ≤ 40564819207303340847894502572032) ∧ -40564819207303340847894502572032 ≤ p.2 ∧ p.2 ≤ 40564819207303340847894502572032) → (0 ≤ b ∧ b ≤ 2 ^ k) → k + 110 * bs.length ≤ 1000 →
      okS (loopD (gT (gCons' (gN 4) (gCons' (gT (gCons' (gN 5) (gCons' (gN 6) gNil')) 2) gNil')) 2) (sMul [2, 3] (mVal (eBin fAdd (eVar 2) (eBin fMul (eBin fSub (eVar 4) (eVar 5)) (eVar 3))) (mVal (eBin fMul (eVar 3) (eCB fMax2 (aCons (eC (.int 0)) (aCons (eBin fAdd (eBin fSub (eVar 6) (eVar 5)) (eC (.int 1))) aNil)))) aNil)))
        ((xs.zip bs).map fun x => .tup [.int x.1, pD x.2]) [some A, some B, some (.int f), some (.int b), t4, t5, t6] w)
        (fun s w' => w' = w ∧ PL A B (f + b * place bs xs) s) (fun _ _ => False) := by
    intro bs
    induction bs with
    | nil =>
      intro xs f b k t4 t5 t6 A B he hn hb hk
      cases xs with
      | nil => exact ⟨rfl, b, t4, t5, t6, by unfold place; rw [Int.mul_zero, Int.add_zero]⟩
      | cons x r => exact he.elim
    | cons p r ih =>
      intro xs f b k t4 t5 t6 A B he hn hb hk
      cases xs with
      | nil => exact he.elim
      | cons x xr =>
        obtain ⟨hx, he⟩ := he
        have hp := hn p List.mem_cons_self
        have hd := near_diff hp hx
        have hs := ext_small hp
        have m1 : mulOk (x - p.1) b := mul_small hd.1 hd.2 hb.1 hb.2 (by simp at hk; omega)
        have m2 : mulOk b (ext p) := mul_small hb.1 hb.2 hs.1 hs.2 (by simp at hk; omega)
        have hb2 : 0 ≤ b * ext p ∧ b * ext p ≤ 2 ^ (k + 110) := ⟨Int.mul_nonneg hb.1 hs.1, by
          rw [Int.pow_add]
          exact Int.mul_le_mul hb.2 hs.2 hs.1 (Int.le_trans hb.1 hb.2)⟩
        have := ih xr (f + (x - p.1) * b) (b * ext p) (k + 110) (some (.int x)) (some (.int p.1)) (some (.int p.2)) A B he (fun q hq => hn q (List.mem_cons_of_mem _ hq)) hb2 (by simp at hk; omega)
        rw [List.zip_cons_cons, List.map_cons]
        refine okS_cons ?_
        unfold pD
        simp -implicitDefEqProofs [ext_max2, m1, m2]
        refine okS_mono this (fun s w' hh => ?_) (fun _ _ hh => hh)
        obtain ⟨rfl, hh⟩ := hh
        refine ⟨rfl, ?_⟩
        have e : f + b * place (p :: r) (x :: xr) = f + (x - p.1) * b + b * ext p * place r xr := by
          show f + b * ((x - p.1) + ext p * place r xr) = _
          rw [Int.mul_add, Int.mul_comm (x - p.1) b, Int.mul_assoc]
          omega
        rw [e]
        exact hh
  refine okS_mono (key bs xs 0 1 0 none none none _ _ he h.near ⟨by decide, by decide⟩ (by have := h.few; omega)) (fun s w' hh => ?_) (fun _ _ hh => hh.elim)
  obtain ⟨rfl, b', t4, t5, t6, rfl⟩ := hh
  simp -implicitDefEqProofs
/-- an element by its number -/
theorem e_w_one_of (h : Bw bs) (hp : ∀ p ∈ bs, ext p ≠ 0) (n : Int) : F_w_one_of [bD bs, .int n] w = .ok (eD (elem bs n)) w := by
  apply okE_eq
  have hlim : lim = 16000000 := rfl
  have h7 := h.few
  simp -implicitDefEqProofs [F_w_one_of, B_w_one_of, okE_run, List.replicate]
  refine okS_loop (fun i s w' => w' = w ∧ ∃ t u, s = [some (bD bs), some (.int (rest (bs.take i) n)), some (.own ((elem (bs.take i) n).map .int)), t, u]) 0 ⟨rfl, none, none, by simp [rest, elem]⟩ ?_ ?_
  · rintro i d s w' hd ⟨rfl, t, u, rfl⟩
    rw [List.getElem?_map] at hd
    obtain ⟨p, hpi, rfl⟩ := Option.map_eq_some_iff.mp hd
    have hi : i < bs.length := (List.getElem?_eq_some_iff.mp hpi).1
    have hmem := List.mem_of_getElem? hpi
    have hne := hp p hmem
    have hs := ext_small (h.near p hmem)
    have he : p.2 - p.1 + 1 = ext p := by
      unfold ext at hne ⊢
      split
      · rfl
      · rename_i hh
        rw [if_neg hh] at hne
        exact (hne rfl).elim
    have e110 : (2 : Int) ^ 110 = 1298074214633706907132624082305024 := by decide
    have hd : divOk (ext p) := divOk_of hne (Nat.lt_of_lt_of_le (nat_lt_pow hs.1 hs.2) (Nat.pow_le_pow_right (by decide) (by decide)))
    unfold pD
    simp -implicitDefEqProofs [he, hne, hd, elem_len]
    refine ⟨by omega, ?_⟩
    rw [List.take_add_one, hpi]
    simp [elem_append, rest_append, elem, rest]
  · rintro s w' ⟨rfl, t, u, rfl⟩
    simp -implicitDefEqProofs
    rfl
end
end DL

set_option maxHeartbeats 2000000
namespace DL
open PySem PySem.Spec PyProof.Rows L2
variable [TabT]
/-! ### parts and contiguous sections: places, one behind the other -/
inductive Pk where
  | run (a b : Int) | one (a : Int) | lst (a : Int) | num (a : Int)
namespace Pk
def fst : Pk → Int
  | run a _ => a
  | one a => a
  | lst a => a
  | num a => a
def las : Pk → Int
  | run _ b => b
  | one a => a
  | lst a => a
  | num a => a
def cn (p : Pk) : Int := p.las - p.fst + 1
def toD : Pk → D
  | run a b => tD a b
  | one a => .tup [.int a, .int a, .int 4]
  | lst a => .lst [.int a]
  | num a => .int a
end Pk
def subs (p : Pk) : List Int := (List.range p.cn.toNat).map fun k => p.fst + (k : Nat)
/-- a part of a dimension -/
def VP (d : Int × Int) (p : Pk) : Prop := d.1 ≤ p.fst ∧ p.las ≤ d.2 ∧ p.fst ≤ p.las
def els : List Pk → List (List Int)
  | [] => [[]]
  | p :: ps => (els ps).flatMap fun row => (subs p).map fun x => x :: row
def tot (ps : List Pk) : Int := prod (ps.map Pk.cn)
def firsts (ps : List Pk) : List Int := ps.map Pk.fst
def Sg : List (Int × Int) → List Pk → Prop
  | [], [] => True
  | d :: ds, p :: ps => VP d p ∧ p.cn = 1 ∧ Sg ds ps
  | _, _ => False
/-- whole dimensions, one that need not be whole, single subscripts -/
def Cg : List (Int × Int) → List Pk → Prop
  | [], [] => True
  | d :: ds, p :: ps => VP d p ∧ ((p = .run d.1 d.2 ∧ Cg ds ps) ∨ Sg ds ps)
  | _, _ => False
theorem Sg.els : ∀ {bs : List (Int × Int)} {ps : List Pk}, Sg bs ps → els ps = [firsts ps] ∧ tot ps = 1
  | [], [], _ => ⟨rfl, rfl⟩
  | d :: ds, p :: ps, ⟨_, h1, h⟩ => by
    obtain ⟨h2, h3⟩ := Sg.els h
    refine ⟨?_, ?_⟩
    · unfold DL.els subs
      rw [h2, h1]
      simp [firsts]
    · unfold tot at *
      simp only [List.map_cons, prod, h1, h3]
      rfl
theorem Sg.el : ∀ {bs : List (Int × Int)} {ps : List Pk}, Sg bs ps → El bs (firsts ps)
  | [], [], _ => True.intro
  | d :: ds, p :: ps, ⟨hv, _, h⟩ => ⟨⟨hv.1, by have := hv.2; omega⟩, Sg.el h⟩
theorem Cg.el : ∀ {bs : List (Int × Int)} {ps : List Pk}, Cg bs ps → El bs (firsts ps)
  | [], [], _ => True.intro
  | d :: ds, p :: ps, ⟨hv, h⟩ => ⟨⟨hv.1, by have := hv.2; omega⟩, h.elim (fun h => Cg.el h.2) Sg.el⟩
theorem tot_pos : ∀ {bs : List (Int × Int)} {ps : List Pk}, Cg bs ps → 1 ≤ tot ps
  | [], [], _ => by decide
  | d :: ds, p :: ps, ⟨hv, h⟩ => by
    have h1 : 1 ≤ tot ps := h.elim (fun h => tot_pos h.2) fun h => by rw [(Sg.els h).2]; exact Int.le_refl _
    have h2 : 1 ≤ p.cn := by unfold Pk.cn; have := hv.2.2; omega
    show 1 ≤ p.cn * tot ps
    exact Int.mul_pos (by omega) (by omega)
theorem flat_range {α : Type} (g : Nat → α) (E : Nat) : ∀ m : Nat, ((List.range m).flatMap fun k => (List.range E).map fun j => g (k * E + j)) = (List.range (m * E)).map g
  | 0 => by simp
  | m + 1 => by
    rw [List.range_succ, List.flatMap_append, flat_range g E m, Nat.succ_mul, List.range_add, List.map_append, List.map_map]
    simp
theorem Cg.places : ∀ {bs : List (Int × Int)} {ps : List Pk}, Cg bs ps → (els ps).map (place bs) = (List.range (tot ps).toNat).map fun k => place bs (firsts ps) + (k : Nat)
  | [], [], _ => rfl
  | d :: ds, p :: ps, ⟨hv, h⟩ => by
    have hc : 1 ≤ p.cn := by unfold Pk.cn; have := hv.2.2; omega
    rcases h with ⟨he, h⟩ | h
    · subst he
      have ih := Cg.places h
      have ht := tot_pos h
      have hx : ext d = (Pk.run d.1 d.2).cn := by
        unfold ext Pk.cn
        have := hv.2.2
        show (if d.2 - d.1 + 1 > 0 then d.2 - d.1 + 1 else 0) = d.2 - d.1 + 1
        have this : d.1 ≤ d.2 := this
        split <;> omega
      obtain ⟨E, hE⟩ : ∃ E : Nat, (E : Int) = (Pk.run d.1 d.2).cn := ⟨(Pk.run d.1 d.2).cn.toNat, by omega⟩
      obtain ⟨m, hm⟩ : ∃ m : Nat, (m : Int) = tot ps := ⟨(tot ps).toNat, by omega⟩
      have e1 : tot (.run d.1 d.2 :: ps) = ((m * E : Nat) : Int) := by
        show (Pk.run d.1 d.2).cn * tot ps = _
        rw [← hE, ← hm, Int.natCast_mul, Int.mul_comm]
      have e2 : ∀ row : List Int, ((subs (.run d.1 d.2)).map fun x => place (d :: ds) (x :: row)) = (List.range E).map fun (j : Nat) => (j : Int) + ext d * place ds row := by
        intro row
        unfold subs
        rw [List.map_map, ← hE, Int.toNat_natCast]
        apply List.map_congr_left
        intro j _
        show (d.1 + (j : Int)) - d.1 + ext d * place ds row = _
        omega
      have e3 : (els (.run d.1 d.2 :: ps)).map (place (d :: ds)) = ((els ps).map (place ds)).flatMap fun q => (List.range E).map fun (j : Nat) => (j : Int) + ext d * q := by
        show List.map (place (d :: ds)) ((els ps).flatMap fun row => (subs (.run d.1 d.2)).map fun x => x :: row) = _
        rw [List.map_flatMap, List.flatMap_map]
        congr 1
        funext row
        rw [List.map_map]
        exact e2 row
      rw [e3, ih, e1, Int.toNat_natCast, ← hm, Int.toNat_natCast, List.flatMap_map]
      rw [← flat_range (fun i => place (d :: ds) (firsts (.run d.1 d.2 :: ps)) + (i : Nat)) E m]
      congr 1
      funext k
      apply List.map_congr_left
      intro j _
      show (j : Int) + ext d * (place ds (firsts ps) + (k : Int)) = (d.1 - d.1 + ext d * place ds (firsts ps)) + ((k * E + j : Nat) : Int)
      rw [hx, ← hE, Int.mul_add, Int.natCast_add, Int.natCast_mul, Int.mul_comm (E : Int) (k : Int)]
      omega
    · obtain ⟨h2, h3⟩ := Sg.els h
      have e1 : tot (p :: ps) = p.cn := by
        show p.cn * tot ps = _
        rw [h3, Int.mul_one]
      rw [e1]
      unfold els subs
      rw [h2]
      simp only [List.flatMap_cons, List.flatMap_nil, List.append_nil, List.map_map]
      apply List.map_congr_left
      intro k _
      show (p.fst + (k : Int)) - d.1 + ext d * place ds (firsts ps) = (p.fst - d.1 + ext d * place ds (firsts ps)) + (k : Int)
      omega
end DL

set_option maxHeartbeats 2000000
namespace DL
open PySem PySem.Spec PyProof.Rows L2
variable [TabT]
/-! ### parts, as the program has them -/
section
variable {w : Wl} {p : Pk}
def Sm (x : Int) : Prop := -1000000000 ≤ x ∧ x ≤ 1000000000
/-- a part of small numbers -/
structure Gp (p : Pk) : Prop where
  a : Sm p.fst
  b : Sm p.las
  le : p.fst ≤ p.las
  one : (∀ a b, p ≠ .run a b) → p.fst = p.las
theorem Sm.far {x : Int} (h : Sm x) : far x := by unfold Sm at h; unfold DL.far; omega
@[simp] theorem at3_0 {α : Type} {x : α} {r : List α} : atI (x :: r) 0 = some x := atI_nat (j := 0) rfl
@[simp] theorem at3_1 {α : Type} {x y : α} {r : List α} : atI (x :: y :: r) 1 = some y := atI_nat (j := 1) rfl
@[simp] theorem at3_2 {α : Type} {x y z : α} {r : List α} : atI (x :: y :: z :: r) 2 = some z := atI_nat (j := 2) rfl
@[simp] theorem getS_pk {s : Sl} : getS (some p.toD :: s) 0 = some p.toD := by cases p <;> rfl
theorem bt9 {x : Int} (h : Sm x) : x.natAbs < 2 ^ 31 := by unfold Sm at h; omega
theorem mul9 {x y : Int} (h : Sm x) (h2 : Sm y) : mulOk x y := mulOk_of (bt9 h) (bt9 h2) (by decide) (by decide) (by decide)
theorem e_one_triplet {a : Int} (h : Sm a) : F_is_triplet [.tup [.int a, .int a, .int 4]] w = .ok (.bl true) w := by
  apply okE_eq
  have hl : (3 : Nat) ≤ lim := by decide
  simp -implicitDefEqProofs [F_is_triplet, B_is_triplet, okE_run, List.replicate, hl]
  refine okE_lcall (xs := [a, a, 4]) D.int (fun n => .bl true) (fun x hx => ?_) ?_
  · have hf : F_is_far [.int x] w = .ok (.bl true) w := e_far1 (by
      simp only [List.mem_cons, List.not_mem_nil, or_false] at hx
      have := h.far
      unfold far at *
      omega)
    simp -implicitDefEqProofs [hf]
  · rw [v_all]
    simp -implicitDefEqProofs
theorem e_part_pk (h : Gp p) : F_is_part [p.toD] w = .ok (.bl true) w := by
  cases p with
  | run a b => exact e_part h.a.far h.b.far
  | one a =>
    apply okE_eq
    have h1 := e_one_triplet (w := w) (a := a) h.a
    simp -implicitDefEqProofs [Pk.toD, F_is_part, B_is_part, okE_run, List.replicate, e_far_no, h1]
  | lst a =>
    apply okE_eq
    have h1 := e_far1 (w := w) (n := a) h.a.far
    have hl : (1 : Nat) ≤ lim := by decide
    simp -implicitDefEqProofs [Pk.toD, F_is_part, B_is_part, okE_run, List.replicate]
    refine ⟨hl, okE_lcall (xs := [a]) D.int (fun n => .bl true) (fun x hx => ?_) ?_⟩
    · have e := List.mem_singleton.mp hx
      subst e
      simp -implicitDefEqProofs [h1]
    · rw [v_all]
      simp -implicitDefEqProofs
  | num a =>
    apply okE_eq
    have h1 := e_far1 (w := w) (n := a) h.a.far
    simp -implicitDefEqProofs [Pk.toD, F_is_part, B_is_part, okE_run, List.replicate, h1]
theorem e_many_pk (h : Gp p) : F_many_of [p.toD] w = .ok (.int p.cn) w := by
  cases p with
  | run a b => exact e_many h.le
  | one a =>
    apply okE_eq
    have hd : divOk 4 := divOk_of (by decide) (by decide)
    simp -implicitDefEqProofs [Pk.toD, F_many_of, B_many_of, okE_run, List.replicate, hd, Pk.cn, Pk.fst, Pk.las]
  | lst a =>
    apply okE_eq
    simp -implicitDefEqProofs [Pk.toD, F_many_of, B_many_of, okE_run, List.replicate, Pk.cn, Pk.fst, Pk.las]
  | num a =>
    apply okE_eq
    simp -implicitDefEqProofs [Pk.toD, F_many_of, B_many_of, okE_run, List.replicate, Pk.cn, Pk.fst, Pk.las]
theorem e_sub_pk (h : Gp p) : F_subscript_of [p.toD, .int 0] w = .ok (.int p.fst) w := by
  have h0 : Sm 0 := ⟨by decide, by decide⟩
  cases p with
  | run a b =>
    have := e_sub (w := w) (a := a) (b := b) (k := 0) (mul9 h0 ⟨by decide, by decide⟩)
    rw [Int.add_zero] at this
    exact this
  | one a =>
    apply okE_eq
    have hm : mulOk 0 4 := mul9 h0 ⟨by decide, by decide⟩
    simp -implicitDefEqProofs [Pk.toD, F_subscript_of, B_subscript_of, okE_run, List.replicate, hm, Pk.fst]
  | lst a =>
    apply okE_eq
    simp -implicitDefEqProofs [Pk.toD, F_subscript_of, B_subscript_of, okE_run, List.replicate, Pk.fst]
  | num a =>
    apply okE_eq
    simp -implicitDefEqProofs [Pk.toD, F_subscript_of, B_subscript_of, okE_run, List.replicate, Pk.fst]
theorem e_last_pk (h : Gp p) : F_last_of [p.toD] w = .ok (.int p.las) w := by
  have hm := e_many_pk (w := w) h
  cases p with
  | run a b => exact e_last h.a.far h.b.far h.le
  | _ =>
    have hs := e_sub_pk (w := w) h
    apply okE_eq
    simp -implicitDefEqProofs [F_last_of, B_last_of, okE_run, List.replicate, hm]
    simp -implicitDefEqProofs [Pk.cn, Pk.fst, Pk.las] at hs ⊢
    simp -implicitDefEqProofs [hs]
theorem e_lies_pk {l hh : Int} (h : Gp p) (hl : l ≤ p.fst) (hh' : p.las ≤ hh) : F_lies_between [p.toD, .int l, .int hh] w = .ok (.bl true) w := by
  have h1 : (1 : Nat) ≤ lim := by decide
  cases p with
  | run a b => exact e_lies h.a.far h.b.far h.le hl hh'
  | one a =>
    have ha : l ≤ a := hl
    have hb : a ≤ hh := hh'
    apply okE_eq
    have hla := e_last_pk (w := w) h
    simp -implicitDefEqProofs [Pk.toD, Pk.las] at hla
    have h2 : (2 : Nat) ≤ lim := by decide
    simp -implicitDefEqProofs [Pk.toD, F_lies_between, B_lies_between, okE_run, List.replicate, hla, h2]
    refine okE_lcall (xs := [a, a]) D.int (fun n => .bl true) (fun x hx => ?_) ?_
    · have e : x = a := by simpa using hx
      subst e
      simp -implicitDefEqProofs [ha, hb]
    · rw [v_all]
      simp -implicitDefEqProofs
  | lst a =>
    have ha : l ≤ a := hl
    have hb : a ≤ hh := hh'
    apply okE_eq
    have hm := e_many_pk (w := w) h
    have hs := e_sub_pk (w := w) h
    simp -implicitDefEqProofs [Pk.toD, Pk.cn, Pk.fst, Pk.las] at hm hs
    have hsub : F_subscripts [.lst [.int a]] w = .ok (.lst [.int a]) w := by
      apply okE_eq
      simp -implicitDefEqProofs [F_subscripts, B_subscripts, okE_run, List.replicate, hm]
      refine ⟨by simp [upTo]; exact h1, ?_⟩
      refine okE_lcall (xs := [(0 : Int)]) D.int (fun n => .int a) (fun x hx => ?_) ?_
      · have e : x = 0 := by simpa using hx
        subst e
        simp -implicitDefEqProofs [hs]
      · simp
    simp -implicitDefEqProofs [Pk.toD, F_lies_between, B_lies_between, okE_run, List.replicate, hsub]
    refine ⟨h1, okE_lcall (xs := [a]) D.int (fun n => .bl true) (fun x hx => ?_) ?_⟩
    · have e : x = a := by simpa using hx
      subst e
      simp -implicitDefEqProofs [ha, hb]
    · rw [v_all]
      simp -implicitDefEqProofs
  | num a =>
    have ha : l ≤ a := hl
    have hb : a ≤ hh := hh'
    apply okE_eq
    have hm := e_many_pk (w := w) h
    have hs := e_sub_pk (w := w) h
    simp -implicitDefEqProofs [Pk.toD, Pk.cn, Pk.fst, Pk.las] at hm hs
    have hsub : F_subscripts [.int a] w = .ok (.lst [.int a]) w := by
      apply okE_eq
      simp -implicitDefEqProofs [F_subscripts, B_subscripts, okE_run, List.replicate, hm]
      refine ⟨by simp [upTo]; exact h1, ?_⟩
      refine okE_lcall (xs := [(0 : Int)]) D.int (fun n => .int a) (fun x hx => ?_) ?_
      · have e : x = 0 := by simpa using hx
        subst e
        simp -implicitDefEqProofs [hs]
      · simp
    simp -implicitDefEqProofs [Pk.toD, F_lies_between, B_lies_between, okE_run, List.replicate, hsub]
    refine ⟨h1, okE_lcall (xs := [a]) D.int (fun n => .bl true) (fun x hx => ?_) ?_⟩
    · have e : x = a := by simpa using hx
      subst e
      simp -implicitDefEqProofs [ha, hb]
    · rw [v_all]
      simp -implicitDefEqProofs
end
end DL

set_option maxHeartbeats 2000000
namespace DL
open PySem PySem.Spec PyProof.Rows L2
variable [TabT]
/-! ### contiguous sections, as the program has them -/
section
variable {w : Wl} {p : Pk} {bs : List (Int × Int)} {ps : List Pk}
def secD (ps : List Pk) : D := .tup (ps.map Pk.toD)
@[simp] theorem getS_sec {s : Sl} : getS (some (secD ps) :: s) 0 = some (secD ps) := rfl
@[simp] theorem seqD_sec : seqD (secD ps) = some (true, ps.map Pk.toD) := rfl
theorem okE_lcall3 {γ : Type} {A : DE} {G : DG} (g f : γ → D) {s : Sl} {w : Wl} {xs : List γ} {ds : List D} {Q : List D → Wl → Prop} (e : ds = xs.map g) (h : ∀ x ∈ xs, okO (G (g x) s) fun s1 => okE (A s1 w) fun d w1 => d = f x ∧ w1 = w) (q : Q (xs.map f) w) : okE (lcD G tYesD A ds s w) Q := okE_lcall2 g f e h q
theorem Gp.small (h : Gp p) : small p.cn := by
  have := h.a
  have := h.b
  have := h.le
  have e : (2 : Int) ^ 110 = 1298074214633706907132624082305024 := by decide
  unfold Sm at *
  unfold DL.small Pk.cn
  omega
theorem e_many_in_pk (h7 : ps.length ≤ 7) (h : ∀ p ∈ ps, Gp p) : F_many_in [secD ps] w = .ok (.int (tot ps)) w := by
  apply okE_eq
  have hlim : lim = 16000000 := rfl
  simp -implicitDefEqProofs [F_many_in, B_many_in, okE_run, List.replicate]
  refine ⟨by omega, okE_lcall3 Pk.toD (fun p => .int p.cn) rfl (fun x hx => ?_) ?_⟩
  · simp -implicitDefEqProofs [e_many_pk (h x hx)]
  · have := e_multiplied (w := w) (ns := ps.map Pk.cn) (by simpa using h7) (fun n hn => by
      obtain ⟨p, hp, rfl⟩ := List.mem_map.mp hn
      exact (h p hp).small)
    rw [List.map_map] at this
    rw [show (ps.map fun p => D.int p.cn) = ps.map (D.int ∘ Pk.cn) from rfl, this]
    exact ⟨rfl, rfl⟩
theorem Cg.len : ∀ {bs : List (Int × Int)} {ps : List Pk}, Cg bs ps → ps.length = bs.length := fun {bs ps} h => by
  have := h.el.len
  simpa [firsts] using this
theorem Sg.vp : ∀ {bs : List (Int × Int)} {ps : List Pk}, Sg bs ps → ∀ t ∈ ps.zip bs, VP t.2 t.1
  | [], [], _ => by simp
  | d :: ds, p :: ps, ⟨hv, _, h⟩ => by
    intro t ht
    rw [List.zip_cons_cons] at ht
    rcases List.mem_cons.mp ht with rfl | ht
    · exact hv
    · exact Sg.vp h t ht
theorem Cg.vp : ∀ {bs : List (Int × Int)} {ps : List Pk}, Cg bs ps → ∀ t ∈ ps.zip bs, VP t.2 t.1
  | [], [], _ => by simp
  | d :: ds, p :: ps, ⟨hv, h⟩ => by
    intro t ht
    rw [List.zip_cons_cons] at ht
    rcases List.mem_cons.mp ht with rfl | ht
    · exact hv
    · exact h.elim (fun h => Cg.vp h.2 t ht) fun h => Sg.vp h t ht
theorem e_is_section_pk (h7 : bs.length ≤ 7) (hc : Cg bs ps) (h : ∀ p ∈ ps, Gp p) : F_is_section [bD bs, secD ps] w = .ok (.bl true) w := by
  apply okE_eq
  have hlim : lim = 16000000 := rfl
  have hlen := hc.len
  have ht := tot_pos hc
  have ht0 : tot ps ≠ 0 := by omega
  have em := e_many_in_pk (w := w) (ps := ps) (by omega) h
  have q1 : fIsi w [secD ps, .ty "tuple"] = some (.bl true) := rfl
  have q2 : fLen w [secD ps] = some (.int ps.length) := by show some (D.int ((ps.map Pk.toD).length : Nat)) = _; rw [List.length_map]
  have q3 : fLen w [bD bs] = some (.int bs.length) := by show some (D.int ((bs.map pD).length : Nat)) = _; rw [List.length_map]
  simp -implicitDefEqProofs [F_is_section, B_is_section, okE_run, List.replicate, q1, q2, q3, hlen]
  refine ⟨by omega, okE_lcall3 Pk.toD (fun p => .bl true) rfl (fun x hx => ?_) ?_⟩
  · simp -implicitDefEqProofs [e_part_pk (h x hx)]
  · rw [v_all]
    simp -implicitDefEqProofs [em, ht0]
    rw [zip2_two seqD_sec seqD_bD]
    simp only [okO_some]
    rw [zipD_maps]
    refine ⟨by rw [List.length_map, List.length_zip, hlen]; simp; omega, okE_lcall3 (fun t : Pk × Int × Int => .tup [t.1.toD, pD t.2]) (fun _ => .bl true) rfl (fun t ht => ?_) ?_⟩
    · have hv := hc.vp t ht
      have hl := e_lies_pk (w := w) (p := t.1) (l := t.2.1) (hh := t.2.2) (h t.1 (List.of_mem_zip ht).1) hv.1 hv.2.1
      unfold pD
      simp -implicitDefEqProofs [hl]
    · rw [v_all]
      simp -implicitDefEqProofs
theorem e_element_pk (h7 : ps.length ≤ 7) (h : ∀ p ∈ ps, Gp p) : F_element_in [secD ps, .int 0] w = .ok (eD (firsts ps)) w := by
  apply okE_eq
  have hlim : lim = 16000000 := rfl
  simp -implicitDefEqProofs [F_element_in, B_element_in, okE_run, List.replicate]
  refine okS_loop (fun i s w' => w' = w ∧ ∃ t u, s = [some (secD ps), some (.int 0), some (.own ((firsts (ps.take i)).map .int)), some (.int 0), t, u]) 0 ⟨rfl, none, none, by simp [firsts]⟩ ?_ ?_
  · rintro i d s w' hd ⟨rfl, t, u, rfl⟩
    rw [List.getElem?_map] at hd
    obtain ⟨p, hp, rfl⟩ := Option.map_eq_some_iff.mp hd
    have hi : i < ps.length := (List.getElem?_eq_some_iff.mp hp).1
    have hg := h p (List.mem_of_getElem? hp)
    have hcn : 1 ≤ p.cn := by unfold Pk.cn; have := hg.le; omega
    have hcn0 : p.cn ≠ 0 := by omega
    have hsm := hg.small
    have hd : divOk p.cn := divOk_of hcn0 (Nat.lt_of_lt_of_le (nat_lt_pow hsm.1 hsm.2) (Nat.pow_le_pow_right (by decide) (by decide)))
    have f0 : (0 : Int).fmod p.cn = 0 := by rw [Int.fmod_eq_emod_of_nonneg _ (by omega)]; simp
    have f1 : (0 : Int).fdiv p.cn = 0 := by rw [Int.fdiv_eq_ediv_of_nonneg _ (by omega)]; simp
    simp -implicitDefEqProofs [e_many_pk hg, e_sub_pk hg, hd, f0, f1, hcn0, firsts]
    refine ⟨by omega, ?_⟩
    rw [List.take_add_one, List.getElem?_map, hp]
    simp
  · rintro s w' ⟨rfl, t, u, rfl⟩
    simp -implicitDefEqProofs
    rfl
theorem e_subs1 {a : Int} (d : D) (hm : F_many_of [d] w = .ok (.int 1) w) (hs : F_subscript_of [d, .int 0] w = .ok (.int a) w) (hg : ∀ s, getS (some d :: s) 0 = some d) : F_subscripts [d] w = .ok (.lst [.int a]) w := by
  apply okE_eq
  have h1 : (1 : Nat) ≤ lim := by decide
  simp -implicitDefEqProofs [F_subscripts, B_subscripts, okE_run, List.replicate, hm, hg]
  refine ⟨by simp [upTo]; exact h1, ?_⟩
  refine okE_lcall (xs := [(0 : Int)]) D.int (fun n => .int a) (fun x hx => ?_) ?_
  · have e : x = 0 := by simpa using hx
    subst e
    simp -implicitDefEqProofs [hs, hg]
  · simp
theorem joints1 {t wt a : Int} (d : D) (hd : F_subscripts [d] w = .ok (.lst [.int a]) w) (hg : ∀ s, getS (some d :: s) 0 = some d) (ht : fIsi w [d, .ty "tuple"] = some (.bl false)) : F_joints [d, .int wt, .int t] w = .ok (.int 0) w := by
  apply okE_eq
  simp -implicitDefEqProofs [F_joints, B_joints, okE_run, List.replicate, hd, hg, ht]
  unfold upTo lcD
  simp
/-- joints of a part behind parts that are whole, or of one number -/
theorem e_joints_pk {t wt : Int} (h : Gp p) (m4 : mulOk 4 wt) (m1 : mulOk 1 wt) (hj : t + wt = 1 ∨ p.cn = 1) : F_joints [p.toD, .int wt, .int t] w = .ok (.int (p.cn - 1)) w := by
  have hm := e_many_pk (w := w) h
  cases p with
  | run a b =>
    apply okE_eq
    have q : fIx w (Pk.run a b).toD (.int 2) = some (.int 1) := rfl
    have q2 : fIsi w [(Pk.run a b).toD, .ty "tuple"] = some (.bl true) := rfl
    simp -implicitDefEqProofs [F_joints, B_joints, okE_run, List.replicate, hm, q, q2, m1]
    omega
  | one a =>
    apply okE_eq
    have hc : (Pk.one a).cn = 1 := by show a - a + 1 = 1; omega
    have q : fIx w (Pk.one a).toD (.int 2) = some (.int 4) := rfl
    have q2 : fIsi w [(Pk.one a).toD, .ty "tuple"] = some (.bl true) := rfl
    simp -implicitDefEqProofs [F_joints, B_joints, okE_run, List.replicate, hm, q, q2, m4, hc]
  | lst a =>
    apply okE_eq
    have hc : (Pk.lst a).cn = 1 := by show a - a + 1 = 1; omega
    rw [hc] at hm
    have := joints1 (w := w) (t := t) (wt := wt) _ (e_subs1 _ hm (e_sub_pk h) fun s => getS_pk) (fun s => getS_pk) rfl
    rw [this, hc]
    exact ⟨rfl, rfl⟩
  | num a =>
    apply okE_eq
    have hc : (Pk.num a).cn = 1 := by show a - a + 1 = 1; omega
    rw [hc] at hm
    have := joints1 (w := w) (t := t) (wt := wt) _ (e_subs1 _ hm (e_sub_pk h) fun s => getS_pk) (fun s => getS_pk) rfl
    rw [this, hc]
    exact ⟨rfl, rfl⟩
def SL (A B C : D) (J : Int) (s : Sl) : Prop := ∃ (r t : Int) (t6 t7 : Option D), s = [some A, some B, some C, some (.int J), some (.int r), some (.int t), t6, t7]
theorem cn_bt (h : Gp p) : 1 ≤ p.cn ∧ p.cn ≤ 2000000001 := by
  have := h.a
  have := h.b
  have := h.le
  unfold Sm at *
  unfold Pk.cn
  omega
theorem tot_bt : ∀ {ps : List Pk}, (∀ p ∈ ps, Gp p) → 0 ≤ tot ps ∧ tot ps ≤ 2 ^ (110 * ps.length) := fun {ps} h => by
  have := prod_small (ns := ps.map Pk.cn) fun n hn => by
    obtain ⟨p, hp, rfl⟩ := List.mem_map.mp hn
    exact (h p hp).small
  simpa [tot] using this
theorem stretch_loop : ∀ (bs : List (Int × Int)) (ps : List Pk) (A B C : D) (J t wt : Int) (k : Nat) (t6 t7 : Option D), (∀ p ∈ ps, Gp p) → (Cg bs ps ∧ t + wt = 1) ∨ Sg bs ps → (0 ≤ wt ∧ wt ≤ 2 ^ k) → k + 110 * bs.length ≤ 1000 → ps.length = bs.length → (∀ p ∈ bs, small (ext p)) →
    okS (loopD (gT (gCons' (gN 6) (gCons' (gN 7) gNil')) 2) (sSeq (sAsg 4 (eBin fDiv (eVar 4) (eCall 1 F_many_of (aCons (eVar 6) aNil)))) (sSeq (sAsg 3 (eBin fAdd (eVar 3) (eBin fMul (eVar 4) (eCall 3 F_joints (aCons (eVar 6) (aCons (eVar 7) (aCons (eVar 5) aNil))))))) (sAsg 5 (eBin fAdd (eVar 5) (eBin fMul (eBin fSub (eCall 2 F_subscript_of (aCons (eVar 6) (aCons (eC (.int 0)) aNil))) (eCall 1 F_last_of (aCons (eVar 6) aNil))) (eVar 7))))))
      ((ps.zip (wts wt (bs.map ext))).map fun x => .tup [x.1.toD, .int x.2]) [some A, some B, some C, some (.int J), some (.int (tot ps)), some (.int t), t6, t7] w)
      (fun s w' => w' = w ∧ SL A B C (J + (tot ps - 1)) s) (fun _ _ => False) := by
  intro bs
  induction bs with
  | nil =>
    intro ps A B C J t wt k t6 t7 hg hc hw hk hl hx
    have : ps = [] := List.length_eq_zero_iff.mp hl
    subst this
    have e : J + (tot [] - 1) = J := by show J + (1 - 1) = J; omega
    rw [e]
    exact ⟨rfl, _, _, _, _, rfl⟩
  | cons d ds ih =>
    intro ps A B C J t wt k t6 t7 hg hc hw hk hl hx
    cases ps with
    | nil => cases hl
    | cons p ps =>
      have hgp := hg p List.mem_cons_self
      have hgs : ∀ q ∈ ps, Gp q := fun q hq => hg q (List.mem_cons_of_mem _ hq)
      have hcn := cn_bt hgp
      have hsm := hgp.small
      have htb := tot_bt hgs
      have hl2 : ps.length = ds.length := by simpa using hl
      have e110 : (2 : Int) ^ 110 = 1298074214633706907132624082305024 := by decide
      have hkk : k + 110 * (ds.length + 1) ≤ 1000 := by simpa using hk
      have hR : (tot (p :: ps)).fdiv p.cn = tot ps := by
        show (p.cn * tot ps).fdiv p.cn = tot ps
        rw [Int.mul_comm, Int.mul_fdiv_cancel _ (by omega)]
      have hdv : divOk p.cn := divOk_of (by omega) (Nat.lt_of_lt_of_le (nat_lt_pow hsm.1 hsm.2) (Nat.pow_le_pow_right (by decide) (by decide)))
      have hxd := hx d List.mem_cons_self
      have hj : t + wt = 1 ∨ p.cn = 1 := hc.elim (fun h => .inl h.2) fun h => .inr h.2.1
      have hjo := e_joints_pk (w := w) (p := p) (t := t) (wt := wt) hgp (mul_small (i := 3) (by decide) (by decide) hw.1 hw.2 (by omega)) (mul_small (i := 1) (by decide) (by decide) hw.1 hw.2 (by omega)) hj
      have m1 : mulOk (tot ps) (p.cn - 1) := mul_small htb.1 htb.2 (j := 110) (by omega) (by omega) (by omega)
      have m2 : mulOk (p.fst - p.las) wt := by
        refine mulOk_of (i := 111) (j := k + 1) ?_ (nat_lt_pow hw.1 hw.2) (by decide) (by omega) (by omega)
        have e : (p.fst - p.las).natAbs = (p.cn - 1).natAbs := by unfold Pk.cn; omega
        rw [e]
        exact nat_lt_pow (by omega) (by omega)
      have hw2 : 0 ≤ wt * ext d ∧ wt * ext d ≤ 2 ^ (k + 110) := ⟨Int.mul_nonneg hw.1 hxd.1, by
        rw [Int.pow_add]
        exact Int.mul_le_mul hw.2 hxd.2 hxd.1 (Int.le_trans hw.1 hw.2)⟩
      have hnext : (Cg ds ps ∧ t + (p.fst - p.las) * wt + wt * ext d = 1) ∨ Sg ds ps := by
        rcases hc with ⟨⟨hv, hh⟩, h1⟩ | ⟨hv, _, hh⟩
        · rcases hh with ⟨he, hh⟩ | hh
          · left
            refine ⟨hh, ?_⟩
            subst he
            have hle : d.1 ≤ d.2 := hv.2.2
            have e1 : ext d = d.2 - d.1 + 1 := by unfold ext; split <;> omega
            have e2 : (Pk.run d.1 d.2).fst - (Pk.run d.1 d.2).las = d.1 - d.2 := rfl
            rw [e1, e2, Int.mul_comm wt, Int.add_assoc, ← Int.add_mul]
            have e3 : d.1 - d.2 + (d.2 - d.1 + 1) = 1 := by omega
            rw [e3]
            omega
          · exact .inr hh
        · exact .inr hh
      have := ih ps A B C (J + tot ps * (p.cn - 1)) (t + (p.fst - p.las) * wt) (wt * ext d) (k + 110) (some p.toD) (some (.int wt)) hgs hnext hw2 (by omega) hl2 (fun q hq => hx q (List.mem_cons_of_mem _ hq))
      rw [List.map_cons]
      unfold wts
      rw [List.zip_cons_cons, List.map_cons]
      refine okS_cons ?_
      simp -implicitDefEqProofs [e_many_pk hgp, hdv, hR, hjo, m1, e_sub_pk hgp, e_last_pk hgp, m2]
      refine okS_mono this (fun s w' hh => ?_) (fun _ _ hh => hh)
      obtain ⟨rfl, hh⟩ := hh
      refine ⟨rfl, ?_⟩
      have e : J + (tot (p :: ps) - 1) = J + tot ps * (p.cn - 1) + (tot ps - 1) := by
        show J + (p.cn * tot ps - 1) = _
        rw [Int.mul_sub, Int.mul_one, Int.mul_comm p.cn]
        omega
      rw [e]
      exact hh
end
end DL

set_option maxHeartbeats 2000000
namespace DL
open PySem PySem.Spec PyProof.Rows L2
variable [TabT]
section
variable {w : Wl} {p : Pk} {bs : List (Int × Int)} {ps : List Pk}
theorem okS_then {U V : DS} {s : Sl} {w : Wl} {N : Sl → Wl → Prop} {Z : D → Wl → Prop} (M : Sl → Wl → Prop) (h : okS (U s w) M Z) (q : ∀ s1 w1, M s1 w1 → okS (V s1 w1) N Z) : okS (sSeq U V s w) N Z := by
  rw [okS_seq]
  exact okS_mono h q fun _ _ z => z
theorem okS_to {U V : DS} {s : Sl} {N : Sl → Wl → Prop} {Z : D → Wl → Prop} (M : Sl → Wl → Prop) (h : ∀ M' : Sl → Wl → Prop, (∀ s1 w1, M s1 w1 → M' s1 w1) → okS (U s w) M' Z) (q : ∀ s1 w1, M s1 w1 → okS (V s1 w1) N Z) : okS (sSeq U V s w) N Z := okS_then M (h M fun _ _ z => z) q
@[simp] theorem seqD_l {xs : List D} : seqD (.lst xs) = some (false, xs) := rfl
theorem e_stretches_pk (hB : Bw bs) (hc : Cg bs ps) (h : ∀ p ∈ ps, Gp p) : F_stretches_of [bD bs, secD ps] w = .ok (.int 1) w := by
  apply okE_eq
  have hlen := hc.len
  have h7 := hB.few
  have ht := tot_pos hc
  have ht0 : tot ps ≠ 0 := by omega
  have em := e_many_in_pk (w := w) (ps := ps) (by omega) h
  have ew := e_weights (w := w) hB
  unfold F_stretches_of
  rw [okE_run]
  refine ⟨rfl, ?_⟩
  show okS (B_stretches_of [some (bD bs), some (secD ps), none, none, none, none, none, none] w) _ _
  unfold B_stretches_of
  refine okS_to (fun s1 w1 => w1 = w ∧ s1 = [some (bD bs), some (secD ps), some (.int (tot ps)), none, none, none, none, none]) ?_ ?_
  · intro M' hM'
    simp -implicitDefEqProofs [em]
    exact hM' _ _ ⟨rfl, rfl⟩
  rintro _ w1 ⟨rfl, rfl⟩
  refine okS_to (fun s1 w2 => w2 = w1 ∧ s1 = [some (bD bs), some (secD ps), some (.int (tot ps)), none, none, none, none, none]) ?_ ?_
  · intro M' hM'
    simp -implicitDefEqProofs [ht0]
    exact hM' _ _ ⟨rfl, rfl⟩
  rintro _ w1 ⟨rfl, rfl⟩
  refine okS_to (fun s1 w2 => w2 = w1 ∧ s1 = [some (bD bs), some (secD ps), some (.int (tot ps)), some (.int 0), none, none, none, none]) ?_ ?_
  · intro M' hM'
    simp -implicitDefEqProofs
    exact hM' _ _ ⟨rfl, rfl⟩
  rintro _ w1 ⟨rfl, rfl⟩
  refine okS_to (fun s1 w2 => w2 = w1 ∧ s1 = [some (bD bs), some (secD ps), some (.int (tot ps)), some (.int 0), some (.int (tot ps)), none, none, none]) ?_ ?_
  · intro M' hM'
    simp -implicitDefEqProofs
    exact hM' _ _ ⟨rfl, rfl⟩
  rintro _ w1 ⟨rfl, rfl⟩
  refine okS_to (fun s1 w2 => w2 = w1 ∧ s1 = [some (bD bs), some (secD ps), some (.int (tot ps)), some (.int 0), some (.int (tot ps)), some (.int 0), none, none]) ?_ ?_
  · intro M' hM'
    simp -implicitDefEqProofs
    exact hM' _ _ ⟨rfl, rfl⟩
  rintro _ w1 ⟨rfl, rfl⟩
  refine okS_to (fun s1 w2 => w2 = w1 ∧ SL (bD bs) (secD ps) (.int (tot ps)) (0 + (tot ps - 1)) s1) ?_ ?_
  · intro M' hM'
    have := stretch_loop (w := w1) bs ps (bD bs) (secD ps) (.int (tot ps)) 0 0 1 0 none none h (.inl ⟨hc, by omega⟩) ⟨by decide, by decide⟩ (by omega) hlen fun p hp => ext_small (hB.near p hp)
    rw [okS_for, okI_zip]
    simp only [okE_cons, okE_nil, okE_var, getS_succ, getS_sec, getS_bD, okO_some, okE_call, List.length_cons, List.length_nil, ew, okE_ok]
    refine ⟨trivial, ?_⟩
    rw [zip2_two seqD_sec seqD_l]
    simp only [okO_some]
    rw [zipD_maps]
    exact okS_mono this (fun s w' hh => hM' _ _ hh) fun _ _ hh => hh.elim
  rintro s1 w1 ⟨rfl, r, t, t6, t7, rfl⟩
  simp -implicitDefEqProofs
  omega
theorem e_section_pk (hB : Bw bs) (hc : Cg bs ps) (h : ∀ p ∈ ps, Gp p) : F_section_handed [bD bs, secD ps] w = .ok (eD [place bs (firsts ps), tot ps]) w := by
  apply okE_eq
  have hlen := hc.len
  have h7 := hB.few
  have ht := tot_pos hc
  have ht0 : tot ps ≠ 0 := by omega
  have hl2 : (2 : Nat) ≤ lim := by decide
  have em := e_many_in_pk (w := w) (ps := ps) (by omega) h
  have es := e_is_section_pk (w := w) h7 hc h
  have et := e_stretches_pk (w := w) hB hc h
  have ee := e_element_pk (w := w) (ps := ps) (by omega) h
  have ep := e_place_there (w := w) hB hc.el
  simp -implicitDefEqProofs [F_section_handed, B_section_handed, okE_run, List.replicate, em, es, et, ee, ep, ht0, hl2]
  rfl
/-! ### what the law goes through -/
/-- a while loop: I k: at most k turns are left -/
theorem okS_while {T : DT} {U : DS} {N : Sl → Wl → Prop} {Z : D → Wl → Prop} (I : Nat → Sl → Wl → Prop) : ∀ (n k : Nat) {s : Sl} {w : Wl}, k < n → I k s w → (∀ k s w, I k s w → okE (T s w) fun c w1 => if c = true then ∃ j, k = j + 1 ∧ okS (U s w1) (I j) Z else N s w1) → okS (whileD T U n s w) N Z
  | 0, k, s, w, hk, _, _ => by omega
  | n + 1, k, s, w, hk, h, hs => by
    have h1 := hs k s w h
    unfold whileD
    cases e : T s w with
    | no => rw [e] at h1; exact h1
    | er x w1 => rw [e] at h1; exact h1
    | ok c w1 =>
      rw [e] at h1
      simp only [okE_ok] at h1
      cases c with
      | false => exact h1
      | true =>
        rw [if_pos rfl] at h1
        obtain ⟨j, rfl, h2⟩ := h1
        dsimp only
        cases e2 : U s w1 with
        | nx s2 w2 => rw [e2] at h2; exact okS_while I n j (by omega) h2 hs
        | rt d w2 => rw [e2] at h2; exact h2
        | bk _ _ => rw [e2] at h2; exact h2.elim
        | ct _ _ => rw [e2] at h2; exact h2.elim
        | er _ _ _ => rw [e2] at h2; exact h2.elim
        | no => rw [e2] at h2; exact h2.elim
def US (A : D) (a s : Int) (N m : Nat) (st : Sl) : Prop := ∃ i : Nat, i + m = N ∧ st = [some A, some (.own ((List.range i).map fun k => .int (a + (k : Nat) * s))), some (.int (a + (i : Nat) * s))]
theorem e_w_subscripts (h : Gp p) (h9 : p.cn ≤ 1000) : F_w_subscripts [p.toD] w = .ok (.lst ((subs p).map .int)) w := by
  have hl1 : (1 : Nat) ≤ lim := by decide
  have hlim : lim = 16000000 := rfl
  have key : ∀ (a b s : Int) (N : Nat), N ≤ 1000 → 0 < s → (∀ i : Nat, i ≤ N → (a + (i : Int) * s ≤ b ↔ i < N)) → F_w_subscripts [.tup [.int a, .int b, .int s]] w = .ok (.lst ((List.range N).map fun k => .int (a + (k : Nat) * s))) w := by
    intro a b s N hN hs hi
    apply okE_eq
    have hsn : ¬ s < 0 := by omega
    generalize hA : D.tup [.int a, .int b, .int s] = A
    have gA : ∀ s : Sl, getS (some A :: s) 0 = some A := fun s => by rw [← hA]; rfl
    have q1 : fIsi w [A, .ty "list"] = some (.bl false) := by rw [← hA]; rfl
    have q2 : fIsi w [A, .ty "tuple"] = some (.bl true) := by rw [← hA]; rfl
    have x0 : fIx w A (.int 0) = some (.int a) := by rw [← hA]; exact v_ixT.trans at3_0
    have x1 : fIx w A (.int 1) = some (.int b) := by rw [← hA]; exact v_ixT.trans at3_1
    have x2 : fIx w A (.int 2) = some (.int s) := by rw [← hA]; exact v_ixT.trans at3_2
    have hl0 : (0 : Nat) ≤ lim := by decide
    unfold F_w_subscripts
    rw [okE_run]
    refine ⟨rfl, ?_⟩
    show okS (B_w_subscripts [some A, none, none] w) _ _
    unfold B_w_subscripts
    refine okS_to (fun s1 w1 => w1 = w ∧ s1 = [some A, none, none]) ?_ ?_
    · intro M' hM'
      simp -implicitDefEqProofs [gA, q1]
      exact hM' _ _ ⟨rfl, rfl⟩
    rintro _ w1 ⟨rfl, rfl⟩
    refine okS_to (fun s1 w2 => w2 = w1 ∧ s1 = [some A, none, none]) ?_ ?_
    · intro M' hM'
      simp -implicitDefEqProofs [gA, q2]
      exact hM' _ _ ⟨rfl, rfl⟩
    rintro _ w1 ⟨rfl, rfl⟩
    refine okS_to (fun s1 w2 => w2 = w1 ∧ US A a s N N s1) ?_ ?_
    · intro M' hM'
      simp -implicitDefEqProofs [gA, x0]
      exact hM' _ _ ⟨rfl, 0, by omega, by simp⟩
    rintro s1 w1 ⟨rfl, hU⟩
    refine okS_to (fun s1 w2 => w2 = w1 ∧ US A a s N 0 s1) ?_ ?_
    · intro M' hM'
      refine okS_while (fun m s' w' => w' = w1 ∧ US A a s N m s') 100000000 N (by omega) ⟨rfl, hU⟩ ?_
      rintro m s' w' ⟨rfl, i, him, rfl⟩
      have hci := hi i (by omega)
      simp -implicitDefEqProofs [gA, x1, x2, hs, hsn]
      by_cases hlt : i < N
      · rw [if_pos (hci.mpr hlt)]
        refine ⟨m - 1, by omega, by omega, i + 1, by omega, ?_⟩
        rw [List.range_succ, List.map_append]
        have e : a + (i : Int) * s + s = a + ((i + 1 : Nat) : Int) * s := by rw [Int.natCast_add, Int.add_mul]; omega
        rw [e]
        rfl
      · rw [if_neg (fun h => hlt (hci.mp h))]
        exact hM' _ _ ⟨rfl, i, by omega, rfl⟩
    rintro s1 w1 ⟨rfl, i, hi0, rfl⟩
    have : i = N := by omega
    subst this
    simp -implicitDefEqProofs
  cases p with
  | run a b =>
    have hle : a ≤ b := h.le
    have h9 : b - a + 1 ≤ 1000 := h9
    have := key a b 1 (b - a + 1).toNat (by omega) (by decide) (fun i hi => by omega)
    have e : (subs (.run a b)).map D.int = (List.range (b - a + 1).toNat).map fun k => D.int (a + (k : Nat) * 1) := by
      show List.map D.int ((List.range (b - a + 1).toNat).map fun k => a + (k : Nat)) = _
      rw [List.map_map]
      apply List.map_congr_left
      intro k _
      show D.int (a + (k : Int)) = D.int (a + (k : Int) * 1)
      rw [Int.mul_one]
    rw [e]
    exact this
  | one a =>
    have := key a a 4 1 (by omega) (by decide) (fun i hi => by omega)
    have e : (subs (.one a)).map D.int = (List.range 1).map fun k => D.int (a + (k : Nat) * 4) := by
      show List.map D.int ((List.range (a - a + 1).toNat).map fun k => a + (k : Nat)) = _
      have : (a - a + 1).toNat = 1 := by omega
      rw [this]
      simp
    rw [e]
    exact this
  | lst a =>
    apply okE_eq
    have e : (subs (.lst a)).map D.int = [D.int a] := by
      show List.map D.int ((List.range (a - a + 1).toNat).map fun k => a + (k : Nat)) = _
      have : (a - a + 1).toNat = 1 := by omega
      rw [this]
      simp
    rw [e]
    simp -implicitDefEqProofs [F_w_subscripts, B_w_subscripts, okE_run, List.replicate, Pk.toD, hl1]
  | num a =>
    apply okE_eq
    have e : (subs (.num a)).map D.int = [D.int a] := by
      show List.map D.int ((List.range (a - a + 1).toNat).map fun k => a + (k : Nat)) = _
      have : (a - a + 1).toNat = 1 := by omega
      rw [this]
      simp
    rw [e]
    simp -implicitDefEqProofs [F_w_subscripts, B_w_subscripts, okE_run, List.replicate, Pk.toD, hl1]
end
end DL

set_option maxHeartbeats 2000000
namespace DL
open PySem PySem.Spec PyProof.Rows L2
variable [TabT]
/-! ### all elements of a section, as the law goes through them -/
section
variable {w : Wl} {p : Pk} {bs : List (Int × Int)} {ps : List Pk}
def rowsD (rs : List (List Int)) : D := .lst (rs.map eD)
theorem els_len : ∀ ps : List Pk, ((els ps).length : Int) = prod (ps.map fun p => ((subs p).length : Int))
  | [] => rfl
  | p :: ps => by
    show (((els ps).flatMap fun row => (subs p).map fun x => x :: row).length : Int) = ((subs p).length : Int) * _
    rw [List.length_flatMap, ← els_len ps]
    have : ((els ps).map fun row => ((subs p).map fun x => x :: row).length) = (els ps).map fun _ => (subs p).length := by simp
    rw [this]
    simp [List.map_const', Int.mul_comm]
theorem els_row : ∀ {ps : List Pk} {row : List Int}, row ∈ els ps → row.length = ps.length
  | [], row, h => by
    have := List.mem_singleton.mp h
    rw [this]
    rfl
  | p :: ps, row, h => by
    obtain ⟨r, hr, h⟩ := List.mem_flatMap.mp h
    obtain ⟨x, _, rfl⟩ := List.mem_map.mp h
    simp [els_row hr]
theorem e_w_elements (h7 : ps.length ≤ 7) (h : ∀ p ∈ ps, Gp p ∧ p.cn ≤ 1000) (hl : ∀ k, (els (ps.drop k)).length ≤ 1000000) : F_w_elements [.lst (ps.map Pk.toD)] w = .ok (rowsD (els ps)) w := by
  apply okE_eq
  have hlim : lim = 16000000 := rfl
  have hl1 : (1 : Nat) ≤ lim := by decide
  have hl0 : (0 : Nat) ≤ lim := by decide
  unfold F_w_elements
  rw [okE_run]
  refine ⟨rfl, ?_⟩
  show okS (B_w_elements [some (.lst (ps.map Pk.toD)), none, none, none, none, none] w) _ _
  unfold B_w_elements
  refine okS_to (fun s1 w1 => w1 = w ∧ s1 = [some (.lst (ps.map Pk.toD)), some (rowsD (els [])), none, none, none, none]) ?_ ?_
  · intro M' hM'
    simp -implicitDefEqProofs [hl1]
    exact hM' _ _ ⟨rfl, rfl⟩
  rintro _ w1 ⟨rfl, rfl⟩
  refine okS_to (fun s1 w2 => w2 = w1 ∧ ∃ t2 t3 t4 t5, s1 = [some (.lst (ps.map Pk.toD)), some (rowsD (els ps)), t2, t3, t4, t5]) ?_ ?_
  · intro M' hM'
    simp -implicitDefEqProofs only [okS_for, okI_seq, okE_rev, okE_var, getS_lst, okO_some, seqD_l]
    rw [← List.map_reverse]
    refine okS_loop0 (fun i s' w' => w' = w1 ∧ ∃ t2 t3 t4 t5, s' = [some (.lst (ps.map Pk.toD)), some (rowsD (els (ps.drop (ps.length - i)))), t2, t3, t4, t5]) ⟨rfl, none, none, none, none, by simp⟩ ?_ ?_
    · rintro i d s' w' hd ⟨rfl, t2, t3, t4, t5, rfl⟩
      rw [List.getElem?_map] at hd
      obtain ⟨p, hp, rfl⟩ := Option.map_eq_some_iff.mp hd
      have hi : i < ps.length := by
        have := (List.getElem?_eq_some_iff.mp hp).1
        simpa using this
      rw [List.getElem?_reverse hi] at hp
      have hdrop : ps.drop (ps.length - (i + 1)) = p :: ps.drop (ps.length - i) := by
        have e1 : ps.length - (i + 1) = ps.length - 1 - i := by omega
        have hlt : ps.length - 1 - i < ps.length := by omega
        rw [e1, List.drop_eq_getElem_cons hlt]
        have : ps[ps.length - 1 - i] = p := by
          rw [List.getElem?_eq_getElem hlt] at hp
          exact Option.some.inj hp
        rw [this]
        congr 2
        omega
      have hcur := hl (ps.length - (i + 1))
      rw [hdrop] at hcur ⊢
      have hg := h p (List.mem_of_getElem? hp)
      have hsub := fun w => e_w_subscripts (w := w) hg.1 hg.2
      have hql : (ps.drop (ps.length - i)).length ≤ 7 := by rw [List.length_drop]; omega
      generalize ps.drop (ps.length - i) = qs at *
      rw [v_gN, okO_some]
      refine okS_to (fun s1 w2 => w2 = w' ∧ s1 = [some (.lst (ps.map Pk.toD)), some (rowsD (els qs)), some p.toD, some (.lst []), t4, t5]) ?_ ?_
      · intro M' hM'
        simp -implicitDefEqProofs [hl0]
        exact hM' _ _ ⟨rfl, rfl⟩
      rintro _ w2 ⟨rfl, rfl⟩
      refine okS_to (fun s1 w3 => w3 = w2 ∧ ∃ t4 t5, s1 = [some (.lst (ps.map Pk.toD)), some (rowsD (els qs)), some p.toD, some (rowsD (els (p :: qs))), t4, t5]) ?_ ?_
      · intro M' hM'
        have hrow : ∀ (s : Sl), getS (some (rowsD (els qs)) :: s) 0 = some (rowsD (els qs)) := fun s => rfl
        have hseq : seqD (rowsD (els qs)) = some (false, (els qs).map eD) := rfl
        simp -implicitDefEqProofs only [okS_for, okI_seq, okE_var, getS_succ, hrow, hseq, okO_some]
        refine okS_loop0 (fun j s' w' => w' = w2 ∧ ∃ t4 t5, s' = [some (.lst (ps.map Pk.toD)), some (rowsD (els qs)), some p.toD, some (rowsD (((els qs).take j).flatMap fun row => (subs p).map fun x => x :: row)), t4, t5]) ⟨rfl, t4, t5, by simp [rowsD]⟩ ?_ ?_
        · rintro j d s' w3 hd ⟨rfl, t4, t5, rfl⟩
          rw [List.getElem?_map] at hd
          obtain ⟨row, hrw, rfl⟩ := Option.map_eq_some_iff.mp hd
          have hj : j < (els qs).length := (List.getElem?_eq_some_iff.mp hrw).1
          have hsl : (subs p).length ≤ 1000 := by
            unfold subs
            rw [List.length_map, List.length_range]
            have := hg.2
            omega
          have hpl : ((((els qs).take (j + 1)).flatMap fun row => (subs p).map fun x => x :: row).map eD).length ≤ 1000000 := by
            rw [List.length_map]
            refine Nat.le_trans ?_ hcur
            show _ ≤ ((els qs).flatMap fun row => (subs p).map fun x => x :: row).length
            conv => rhs; rw [← List.take_append_drop (j + 1) (els qs), List.flatMap_append, List.length_append]
            omega
          have hnext : ((els qs).take (j + 1)).flatMap (fun row => (subs p).map fun x => x :: row) = ((els qs).take j).flatMap (fun row => (subs p).map fun x => x :: row) ++ (subs p).map fun x => x :: row := by
            rw [List.take_add_one, hrw, List.flatMap_append]
            simp
          rw [hnext] at hpl ⊢
          generalize ((els qs).take j).flatMap (fun row => (subs p).map fun x => x :: row) = F at *
          have hF : ∀ (s : Sl), getS (some (rowsD F) :: s) 0 = some (rowsD F) := fun s => rfl
          have hadd : ∀ (ys : List D) (P : D → Prop), okO (fAdd w3 (rowsD F) (.lst ys)) P = ((F.map eD).length + ys.length ≤ lim ∧ P (.lst (F.map eD ++ ys))) := fun ys P => v_addL
          simp -implicitDefEqProofs [hF, hsub, getS_pk]
          refine ⟨by omega, ?_⟩
          refine okE_lcall3 (γ := Int) D.int (fun x => eD (x :: row)) rfl (fun x hx => ?_) ?_
          · have ht : ∀ P : D → Prop, okO (fAdd w3 (.tup [.int x]) (eD row)) P = (1 + (row.map D.int).length ≤ lim ∧ P (.tup ([.int x] ++ row.map D.int))) := fun P => v_addT
            have hrl : row.length ≤ 1000 := by rw [els_row (List.mem_of_getElem? hrw)]; omega
            simp -implicitDefEqProofs [ht, hl1]
            exact ⟨by omega, rfl⟩
          · rw [hadd]
            rw [List.map_append, List.length_append, List.length_map, List.length_map, List.length_map] at hpl
            refine ⟨by rw [List.length_map, List.length_map]; omega, ?_⟩
            refine ⟨rfl, ?_⟩
            unfold rowsD
            rw [List.map_append, List.map_map]
            rfl
        · rintro s' w3 ⟨rfl, t4, t5, rfl⟩
          refine hM' _ _ ⟨rfl, t4, t5, ?_⟩
          rw [List.length_map, List.take_length]
          rfl
      rintro _ w3 ⟨rfl, t4, t5, rfl⟩
      have hr2 : ∀ (s : Sl), getS (some (rowsD (els (p :: qs))) :: s) 0 = some (rowsD (els (p :: qs))) := fun s => rfl
      simp -implicitDefEqProofs [hr2]
    · rintro s' w' ⟨rfl, t2, t3, t4, t5, rfl⟩
      refine hM' _ _ ⟨rfl, t2, t3, t4, t5, ?_⟩
      simp
  rintro _ w1 ⟨rfl, t2, t3, t4, t5, rfl⟩
  have hr2 : ∀ (s : Sl), getS (some (rowsD (els ps)) :: s) 0 = some (rowsD (els ps)) := fun s => rfl
  simp -implicitDefEqProofs [hr2]
end
end DL

set_option maxHeartbeats 2000000
namespace DL
open PySem PySem.Spec PyProof.Rows L2
variable [TabT]
/-! ### dummies: drawn, and how many seats they have -/
section
variable {w : Wl} {b : Nat} {ds : List (Int × Int)} {low : Int} {x : D}
/-- the dimensions ahead of the last one -/
structure Dm (ds : List (Int × Int)) : Prop where
  few : ds.length ≤ 6
  dim : ∀ d ∈ ds, -2 ≤ d.1 ∧ d.1 ≤ 2 ∧ d.1 - 1 ≤ d.2 ∧ d.2 ≤ d.1 + 3
theorem Dm.bw (h : Dm ds) : Bw ds := ⟨by have := h.few; omega, fun p hp => by
  have := h.dim p hp
  omega⟩
theorem Dm.ext4 (h : Dm ds) : ∀ d ∈ ds, 0 ≤ ext d ∧ ext d ≤ 4 := fun d hd => by
  have := h.dim d hd
  unfold ext
  split <;> omega
theorem prod4 : ∀ {ns : List Int}, (∀ n ∈ ns, 0 ≤ n ∧ n ≤ 4) → 0 ≤ prod ns ∧ prod ns ≤ 4 ^ ns.length
  | [], _ => ⟨by decide, by decide⟩
  | n :: r, h => by
    have ih := prod4 fun m hm => h m (List.mem_cons_of_mem _ hm)
    have hn := h n List.mem_cons_self
    refine ⟨Int.mul_nonneg hn.1 ih.1, ?_⟩
    have : n * prod r ≤ 4 * 4 ^ r.length := Int.mul_le_mul hn.2 ih.2 ih.1 (by decide)
    rw [List.length_cons, Int.pow_succ, Int.mul_comm _ (4 : Int)]
    exact this
theorem Dm.size (h : Dm ds) : 0 ≤ prod (ds.map ext) ∧ prod (ds.map ext) ≤ 4096 := by
  have := prod4 (ns := ds.map ext) fun n hn => by
    obtain ⟨d, hd, rfl⟩ := List.mem_map.mp hn
    exact h.ext4 d hd
  refine ⟨this.1, Int.le_trans this.2 ?_⟩
  rw [List.length_map]
  have h6 := h.few
  have : (4 : Int) ^ ds.length ≤ 4 ^ 6 := by
    have := Nat.pow_le_pow_right (n := 4) (by decide) h6
    exact_mod_cast this
  exact Int.le_trans this (by decide)
/-- the elements of the dimensions ahead -/
def ahd : List (Int × Int) → List (List Int)
  | [] => [[]]
  | d :: ds => (ahd ds).flatMap fun row => ((List.range (d.2 + 1 - d.1).toNat).map fun k => d.1 + (k : Nat)).map fun x => x :: row
theorem ahd_len : ∀ ds : List (Int × Int), ((ahd ds).length : Int) = prod (ds.map ext)
  | [] => rfl
  | d :: ds => by
    have e : (((List.range (d.2 + 1 - d.1).toNat).map fun k => d.1 + (k : Nat)).length : Int) = ext d := by
      rw [List.length_map, List.length_range]
      unfold ext
      split <;> omega
    show (((ahd ds).flatMap fun row => ((List.range (d.2 + 1 - d.1).toNat).map fun k => d.1 + (k : Nat)).map fun x => x :: row).length : Int) = ext d * _
    rw [List.length_flatMap, ← ahd_len ds, ← e]
    have : ((ahd ds).map fun row => (((List.range (d.2 + 1 - d.1).toNat).map fun k => d.1 + (k : Nat)).map fun x => x :: row).length) = (ahd ds).map fun _ => ((List.range (d.2 + 1 - d.1).toNat).map fun k => d.1 + (k : Nat)).length := by simp
    rw [this]
    simp [List.map_const', Int.mul_comm]
theorem ahd_row : ∀ {ds : List (Int × Int)} {row : List Int}, row ∈ ahd ds → row.length = ds.length
  | [], row, h => by
    have := List.mem_singleton.mp h
    rw [this]
    rfl
  | p :: ps, row, h => by
    obtain ⟨r, hr, h⟩ := List.mem_flatMap.mp h
    obtain ⟨x, _, rfl⟩ := List.mem_map.mp h
    simp [ahd_row hr]
theorem Dm.drop (h : Dm ds) (k : Nat) : Dm (ds.drop k) := ⟨by rw [List.length_drop]; have := h.few; omega, fun d hd => h.dim d (List.mem_of_mem_drop hd)⟩
theorem Dm.ahd4096 (h : Dm ds) : (ahd ds).length ≤ 4096 := by
  have := ahd_len ds
  have := h.size
  omega
def DS3 (A G : D) (rows : List (List Int)) (s : Sl) : Prop := ∃ t3 t4 t5 t6 t7 t8 t9, s = [some A, some G, some (rowsD rows), t3, t4, t5, t6, t7, t8, t9]
/-- the loop over the dimensions ahead, the last one first -/
theorem ahead_loop (h : Dm ds) {A G : D} {w1 : Wl} :
    okS (sFor (iSeq (eC (.tup (ds.map pD).reverse))) (gT (gCons' (gN 3) (gCons' (gN 4) gNil')) 2) (sSeq (sAsg 5 (eL (aLst aNil))) (sSeq (sFor (iSeq (eVar 2)) (gN 6) (sAsg 5 (eBin fAdd (eVar 5) (eL (aLc (iRng2 (aCons (eVar 3) (aCons (eBin fAdd (eVar 4) (eC (.int 1))) aNil))) (gN 9) tYesD (eBin fAdd (eTup (aCons (eVar 9) aNil)) (eVar 6)) [9]))))) (sAsg 2 (eVar 5)))) [some A, some G, some (rowsD (ahd [])), none, none, none, none, none, none, none] w1) (fun s w' => w' = w1 ∧ DS3 A G (ahd ds) s) (fun _ _ => False) := by
  have hlim : lim = 16000000 := rfl
  have hl1 : (1 : Nat) ≤ lim := by decide
  have hl0 : (0 : Nat) ≤ lim := by decide
  simp -implicitDefEqProofs only [okS_for, okI_seq, okE_c, seqD_tup, okO_some]
  rw [← List.map_reverse]
  refine okS_loop0 (fun i s' w' => w' = w1 ∧ DS3 A G (ahd (ds.drop (ds.length - i))) s') ⟨rfl, none, none, none, none, none, none, none, by simp⟩ ?_ ?_
  · rintro i d s' w' hd ⟨rfl, t3, t4, t5, t6, t7, t8, t9, rfl⟩
    rw [List.getElem?_map] at hd
    obtain ⟨p, hp, rfl⟩ := Option.map_eq_some_iff.mp hd
    have hi : i < ds.length := by
      have := (List.getElem?_eq_some_iff.mp hp).1
      simpa using this
    rw [List.getElem?_reverse hi] at hp
    have hdrop : ds.drop (ds.length - (i + 1)) = p :: ds.drop (ds.length - i) := by
      have e1 : ds.length - (i + 1) = ds.length - 1 - i := by omega
      have hlt : ds.length - 1 - i < ds.length := by omega
      rw [e1, List.drop_eq_getElem_cons hlt]
      have : ds[ds.length - 1 - i] = p := by
        rw [List.getElem?_eq_getElem hlt] at hp
        exact Option.some.inj hp
      rw [this]
      congr 2
      omega
    have hcur := (h.drop (ds.length - (i + 1))).ahd4096
    have hql : (ds.drop (ds.length - i)).length ≤ 6 := (h.drop _).few
    rw [hdrop] at hcur ⊢
    have hdim := h.dim p (List.mem_of_getElem? hp)
    generalize ds.drop (ds.length - i) = qs at *
    obtain ⟨l, u⟩ := p
    simp only at hdim
    unfold pD
    simp only [v_gT, v_gCons, v_gN, v_gNil, okO_some, List.set]
    refine ⟨by simp, ?_⟩
    refine okS_to (fun s1 w2 => w2 = w' ∧ s1 = [some A, some G, some (rowsD (ahd qs)), some (.int l), some (.int u), some (.lst []), t6, t7, t8, t9]) ?_ ?_
    · intro M' hM'
      simp -implicitDefEqProofs [hl0]
      exact hM' _ _ ⟨rfl, rfl⟩
    rintro _ w2 ⟨rfl, rfl⟩
    refine okS_to (fun s1 w3 => w3 = w2 ∧ ∃ t6 t9, s1 = [some A, some G, some (rowsD (ahd qs)), some (.int l), some (.int u), some (rowsD (ahd ((l, u) :: qs))), t6, t7, t8, t9]) ?_ ?_
    · intro M' hM'
      have hrow : ∀ (s : Sl), getS (some (rowsD (ahd qs)) :: s) 0 = some (rowsD (ahd qs)) := fun s => rfl
      have hseq : seqD (rowsD (ahd qs)) = some (false, (ahd qs).map eD) := rfl
      simp -implicitDefEqProofs only [okS_for, okI_seq, okE_var, getS_succ, hrow, hseq, okO_some]
      refine okS_loop0 (fun j s' w' => w' = w2 ∧ ∃ t6 t9, s' = [some A, some G, some (rowsD (ahd qs)), some (.int l), some (.int u), some (rowsD (((ahd qs).take j).flatMap fun row => ((List.range (u + 1 - l).toNat).map fun k => l + (k : Nat)).map fun x => x :: row)), t6, t7, t8, t9]) ⟨rfl, t6, t9, by simp [rowsD]⟩ ?_ ?_
      · rintro j d s' w3 hd ⟨rfl, t6, t9, rfl⟩
        rw [List.getElem?_map] at hd
        obtain ⟨row, hrw, rfl⟩ := Option.map_eq_some_iff.mp hd
        have hj : j < (ahd qs).length := (List.getElem?_eq_some_iff.mp hrw).1
        have hrl : row.length ≤ 1000 := by rw [ahd_row (List.mem_of_getElem? hrw)]; omega
        have hpl : ((((ahd qs).take (j + 1)).flatMap fun row => ((List.range (u + 1 - l).toNat).map fun k => l + (k : Nat)).map fun x => x :: row).map eD).length ≤ 1000000 := by
          rw [List.length_map]
          refine Nat.le_trans ?_ (Nat.le_trans hcur (by decide))
          show _ ≤ ((ahd qs).flatMap fun row => ((List.range (u + 1 - l).toNat).map fun k => l + (k : Nat)).map fun x => x :: row).length
          conv => rhs; rw [← List.take_append_drop (j + 1) (ahd qs), List.flatMap_append, List.length_append]
          omega
        have hnext : ((ahd qs).take (j + 1)).flatMap (fun row => ((List.range (u + 1 - l).toNat).map fun k => l + (k : Nat)).map fun x => x :: row) = ((ahd qs).take j).flatMap (fun row => ((List.range (u + 1 - l).toNat).map fun k => l + (k : Nat)).map fun x => x :: row) ++ ((List.range (u + 1 - l).toNat).map fun k => l + (k : Nat)).map fun x => x :: row := by
          rw [List.take_add_one, hrw, List.flatMap_append]
          simp
        rw [hnext] at hpl ⊢
        generalize ((ahd qs).take j).flatMap (fun row => ((List.range (u + 1 - l).toNat).map fun k => l + (k : Nat)).map fun x => x :: row) = F at *
        have hF : ∀ (s : Sl), getS (some (rowsD F) :: s) 0 = some (rowsD F) := fun s => rfl
        have hadd : ∀ (ys : List D) (P : D → Prop), okO (fAdd w3 (rowsD F) (.lst ys)) P = ((F.map eD).length + ys.length ≤ lim ∧ P (.lst (F.map eD ++ ys))) := fun ys P => v_addL
        simp -implicitDefEqProofs [hF]
        have hlen : (upTo l (u + 1 - l).toNat).length = (u + 1 - l).toNat := by simp [upTo]
        refine ⟨⟨by omega, by omega⟩, by rw [hlen]; omega, ?_⟩
        have hup : upTo l (u + 1 - l).toNat = ((List.range (u + 1 - l).toNat).map fun k => l + (k : Nat)).map D.int := by
          rw [List.map_map]
          rfl
        rw [hup]
        refine okE_lcall3 (γ := Int) D.int (fun x => eD (x :: row)) rfl (fun x hx => ?_) ?_
        · have ht : ∀ P : D → Prop, okO (fAdd w3 (.tup [.int x]) (eD row)) P = (1 + (row.map D.int).length ≤ lim ∧ P (.tup ([.int x] ++ row.map D.int))) := fun P => v_addT
          simp -implicitDefEqProofs [ht, hl1]
          exact ⟨by omega, rfl⟩
        · rw [hadd]
          rw [List.map_append, List.length_append, List.length_map, List.length_map, List.length_map] at hpl
          refine ⟨by rw [List.length_map, List.length_map]; omega, ?_⟩
          refine ⟨rfl, ?_⟩
          unfold rowsD
          simp only [List.map_append, List.map_map]
          rfl
      · rintro s' w3 ⟨rfl, t6, t9, rfl⟩
        refine hM' _ _ ⟨rfl, t6, t9, ?_⟩
        rw [List.length_map, List.take_length]
        rfl
    rintro _ w3 ⟨rfl, t6, t9, rfl⟩
    have hr2 : ∀ (s : Sl), getS (some (rowsD (ahd ((l, u) :: qs))) :: s) 0 = some (rowsD (ahd ((l, u) :: qs))) := fun s => rfl
    simp -implicitDefEqProofs [hr2]
    exact ⟨_, _, _, _, _, _, _, rfl⟩
  · rintro s' w' ⟨rfl, t3, t4, t5, t6, t7, t8, t9, rfl⟩
    refine ⟨rfl, t3, t4, t5, t6, t7, t8, t9, ?_⟩
    simp
end
end DL

set_option maxHeartbeats 2000000
namespace DL
open PySem PySem.Spec PyProof.Rows L2
variable [TabT]
/-! ### seats -/
section
variable {w : Wl} {b : Nat} {ds : List (Int × Int)} {low : Int} {x : D}
theorem lay_rows : ∀ rs : List (List Int), PyData.canLayAll0 (toPDs (rs.map eD)) = true ∧ PyData.depthAll (toPDs (rs.map eD)) ≤ 1
  | [] => by simp [toPDs, PyData.canLayAll0, PyData.depthAll]
  | r :: rs => by
    have h1 := lay_rows rs
    have h2 := lay_ints r
    simp [toPDs, eD, toPD, toPDs_ints, PyData.canLayAll0, PyData.depthAll, PyData.canLay0, PyData.depth, h2]
    exact ⟨h1.1, by omega⟩
theorem okD_rows {rs : List (List Int)} : okD (rowsD rs) = true := by
  have h := lay_rows rs
  simp [okD, rowsD, toPD, SeqAt.shaped, PyData.canLay0, PyData.depth, h.1]
  omega
theorem okD_nilL : okD (.lst []) = true := rfl
theorem eqD_rows_nil {rs : List (List Int)} : eqD (rowsD rs) (.lst []) = rs.isEmpty := by
  show PyData.eqv (.list (toPDs (rs.map eD))) (.list []) = _
  have e : ∀ a b : List PyData, PyData.eqv (.list a) (.list b) = PyData.eqvAll a b := fun a b => by unfold PyData.eqv; rfl
  rw [e]
  cases rs with
  | nil => rfl
  | cons r rs => rfl
theorem ix_lastB : fIx w (lastB ds low x) (.int (-1)) = some (.tup [.int low, x]) := (v_ixT (xs := ds.map pD ++ [.tup [.int low, x]])).trans atI_snoc
def SQ2 (A G : D) (rows : List (List Int)) (F : List D) (here : Int) (s : Sl) : Prop := ∃ t3 t4 t5 t6 t9, s = [some A, some G, some (rowsD rows), t3, t4, t5, t6, some (.lst F), some (.int here), t9]
@[simp] theorem okT_ifD {C S T : DT} {s : Sl} {QT : Bool → Wl → Prop} : okE (tIfD C S T s w) QT = okE (C s w) fun k w1 => if k = true then okE (S s w1) QT else okE (T s w1) QT := by
  unfold tIfD; simp only [okE_bind]; congr; funext k w1; cases k <;> rfl
def seatB : DS := (sSeq (sAsg 7 (eBin fAdd (eVar 7) (eL (aLc (iSeq (eVar 2)) (gN 6) tYesD (eBin fAdd (eVar 6) (eTup (aCons (eVar 8) aNil))) [6])))) (sAsg 8 (eBin fAdd (eVar 8) (eC (.int 1)))))
/-- one turn of the loop over the last subscript -/
theorem seat_turn {A G : D} {rows : List (List Int)} {F : List D} {here : Int} {s : Sl} {w' : Wl} (hr : ∀ r ∈ rows, r.length ≤ 10) (hE : rows.length ≤ 4096) (hF : F.length ≤ 8000000) (hs : SQ2 A G rows F here s) :
    okS (seatB s w') (fun s1 w1 => w1 = w' ∧ ∃ F' : List D, F'.length = F.length + rows.length ∧ SQ2 A G rows F' (here + 1) s1) (fun _ _ => False) := by
  obtain ⟨t3, t4, t5, t6, t9, rfl⟩ := hs
  unfold seatB
  have hlim : lim = 16000000 := rfl
  have hl1 : (1 : Nat) ≤ lim := by decide
  have hrow : ∀ (s : Sl), getS (some (rowsD rows) :: s) 0 = some (rowsD rows) := fun s => rfl
  have hseq : seqD (rowsD rows) = some (false, rows.map eD) := rfl
  refine okS_to (fun s1 w1 => w1 = w' ∧ ∃ F' : List D, F'.length = F.length + rows.length ∧ SQ2 A G rows F' here s1) ?_ ?_
  · intro M' hM'
    simp -implicitDefEqProofs [hrow, hseq]
    refine ⟨by omega, ?_⟩
    refine okE_lcall3 (γ := List Int) eD (fun r => eD (r ++ [here])) rfl (fun r hx => ?_) ?_
    · have ht : ∀ P : D → Prop, okO (fAdd w' (eD r) (.tup [.int here])) P = ((r.map D.int).length + 1 ≤ lim ∧ P (.tup (r.map D.int ++ [.int here]))) := fun P => v_addT
      have := hr r hx
      simp -implicitDefEqProofs [ht, hl1]
      refine ⟨by omega, ?_⟩
      unfold eD
      simp
    · simp -implicitDefEqProofs
      refine ⟨by omega, hM' _ _ ⟨rfl, F ++ rows.map fun r => eD (r ++ [here]), by simp, t3, t4, t5, t6, t9, rfl⟩⟩
  rintro s1 w1 ⟨rfl, F', hF', t3, t4, t5, t6, t9, rfl⟩
  simp -implicitDefEqProofs
  exact ⟨F', hF', t3, t4, t5, t6, t9, rfl⟩
theorem nil_flag {rows : List (List Int)} : (rows.isEmpty = true) ↔ rows = [] := List.isEmpty_iff
/-- what there is of seats: none that there are too many of, else as many as the dummy has; an open one: as many as are given, or none -/
theorem e_w_seats {g : Int} (h : Dm ds) (hg : 0 ≤ g ∧ g ≤ 1000) (hx : x = .non ∨ ∃ hi, x = .int hi ∧ hi ≤ low + g + 1) (hlow : -1000 ≤ low ∧ low ≤ 1000) : okE (F_w_seats [lastB ds low x, .int g] w) fun d w' => w' = w ∧
    ((x = .non ∧ ∃ L, d = .lst L) ∨ ∃ hi, x = .int hi ∧ ((prod (ds.map ext) * ext (low, hi) ≤ g ∧ ∃ L : List D, d = .lst L ∧ (L.length : Int) = prod (ds.map ext) * ext (low, hi)) ∨ (g < prod (ds.map ext) * ext (low, hi) ∧ d = .non))) := by
  have hlim : lim = 16000000 := rfl
  have hl0 : (0 : Nat) ≤ lim := by decide
  have hl1 : (1 : Nat) ≤ lim := by decide
  generalize hA : lastB ds low x = A
  have gA : ∀ s : Sl, getS (some A :: s) 0 = some A := fun s => by rw [← hA]; rfl
  have xA : ∀ w, fIx w A (.int (-1)) = some (.tup [.int low, x]) := fun w => by rw [← hA]; exact ix_lastB
  have x0 : ∀ w, fIx w (.tup [.int low, x]) (.int 0) = some (.int low) := fun w => v_ixT.trans at3_0
  have x1 : ∀ w, fIx w (.tup [.int low, x]) (.int 1) = some x := fun w => v_ixT.trans at3_1
  have cA : cutD (ds.map pD ++ [D.tup [.int low, x]]) none (some (-1)) = ds.map pD := cutD_init
  have hEl := ahd_len ds
  have hE4 := h.ahd4096
  unfold F_w_seats
  rw [okE_run]
  refine ⟨rfl, ?_⟩
  show okS (B_w_seats [some A, some (.int g), none, none, none, none, none, none, none, none] w) _ _
  unfold B_w_seats
  refine okS_to (fun s1 w1 => w1 = w ∧ s1 = [some A, some (.int g), some (rowsD (ahd [])), none, none, none, none, none, none, none]) ?_ ?_
  · intro M' hM'
    simp -implicitDefEqProofs [hl1]
    exact hM' _ _ ⟨rfl, rfl⟩
  rintro _ w1 ⟨rfl, rfl⟩
  refine okS_to (fun s1 w2 => w2 = w1 ∧ DS3 A (.int g) (ahd ds) s1) ?_ ?_
  · intro M' hM'
    have hal := ahead_loop (ds := ds) (A := A) (G := .int g) (w1 := w1) h
    simp only [okS_for, okI_seq, okE_c, seqD_tup, okO_some] at hal
    have hsl : okE (eSl (eVar 0) oNone (oSome (eUn fNeg (eC (.int 1)))) [some A, some (.int g), some (rowsD (ahd [])), none, none, none, none, none, none, none] w1) (fun d w2 => d = .tup (ds.map pD) ∧ w2 = w1) := by
      rw [← hA]
      unfold lastB
      simp [cA]
    have hsl := okE_eq hsl
    simp only [okS_for, okI_seq, okE_rev, hsl, okE_ok, seqD_tup, okO_some]
    exact okS_mono hal (fun s w' hh => hM' _ _ hh) fun _ _ hh => hh.elim
  rintro s1 w1 ⟨rfl, hD⟩
  have hrl : ∀ r ∈ ahd ds, r.length ≤ 10 := fun r hr => by rw [ahd_row hr]; have := h.few; omega
  generalize ahd ds = rows at *
  generalize prod (ds.map ext) = P at *
  have grow : ∀ (s : Sl), getS (some (rowsD rows) :: s) 0 = some (rowsD rows) := fun s => rfl
  refine okS_to (fun s1 w2 => w2 = w1 ∧ SQ2 A (.int g) rows [] low s1) ?_ ?_
  · intro M' hM'
    obtain ⟨t3, t4, t5, t6, t7, t8, t9, rfl⟩ := hD
    simp -implicitDefEqProofs [gA, xA, x0, hl0]
    exact hM' _ _ ⟨rfl, t3, t4, t5, t6, t9, rfl⟩
  rintro s1 w1 ⟨rfl, hS⟩
  have isn : ∀ (w : Wl) (i : Int), fIsN w (.int i) .non = some (.bl false) := fun _ _ => rfl
  have isn2 : ∀ (w : Wl), fIsN w .non .non = some (.bl true) := fun _ => rfl
  rcases hx with rfl | ⟨hi, rfl, hhi⟩
  · -- open
    refine okS_to (fun s1 w2 => w2 = w1 ∧ ∃ F here, SQ2 A (.int g) rows F here s1) ?_ ?_
    · intro M' hM'
      rw [show (sSeq (sAsg 7 (eBin fAdd (eVar 7) (eL (aLc (iSeq (eVar 2)) (gN 6) tYesD (eBin fAdd (eVar 6) (eTup (aCons (eVar 8) aNil))) [6])))) (sAsg 8 (eBin fAdd (eVar 8) (eC (.int 1))))) = seatB from rfl]
      refine okS_while (fun m s' w' => w' = w1 ∧ ∃ (F : List D) (here : Int), g ≤ F.length + m ∧ (F.length : Int) ≤ g + rows.length ∧ SQ2 A (.int g) rows F here s') 100000000 1000 (by omega) ⟨rfl, [], low, by simp; omega, by simp; omega, hS⟩ ?_
      rintro m s' w' ⟨rfl, F, here, h1, h2, hQ⟩
      have hturn := seat_turn (w' := w') hrl hE4 (F := F) (by omega) hQ
      obtain ⟨t3, t4, t5, t6, t9, rfl⟩ := hQ
      have q1 : fLen w' [.lst F] = some (.int F.length) := rfl
      simp -implicitDefEqProofs [gA, xA, x1, isn2, grow, okD_rows, okD_nilL, eqD_rows_nil, hl0]
      by_cases hr0 : rows = []
      · simp -implicitDefEqProofs [hr0]
        subst hr0
        exact hM' _ _ ⟨rfl, F, here, t3, t4, t5, t6, t9, rfl⟩
      · simp -implicitDefEqProofs [hr0]
        have hpos : 0 < rows.length := List.length_pos_iff.mpr hr0
        by_cases hlt : (F.length : Int) < g
        · rw [if_pos hlt]
          refine ⟨m - 1, by omega, ?_⟩
          refine okS_mono hturn (fun s2 w2 hh => ?_) (fun _ _ hh => hh.elim)
          obtain ⟨rfl, F', hF', hQ'⟩ := hh
          exact ⟨rfl, F', by omega, by omega, here + 1, hQ'⟩
        · rw [if_neg hlt]
          exact hM' _ _ ⟨rfl, F, here, t3, t4, t5, t6, t9, rfl⟩
    rintro s1 w1 ⟨rfl, F, here, t3, t4, t5, t6, t9, rfl⟩
    simp -implicitDefEqProofs [gA, xA, x1, isn2]
  · -- closed
    obtain ⟨T, hT⟩ : ∃ T : Nat, T = (hi - low + 1).toNat := ⟨_, rfl⟩
    refine okS_to (fun s1 w2 => w2 = w1 ∧ ∃ (F : List D) (here : Int), F.length = T * rows.length ∧ SQ2 A (.int g) rows F here s1) ?_ ?_
    · intro M' hM'
      rw [show (sSeq (sAsg 7 (eBin fAdd (eVar 7) (eL (aLc (iSeq (eVar 2)) (gN 6) tYesD (eBin fAdd (eVar 6) (eTup (aCons (eVar 8) aNil))) [6])))) (sAsg 8 (eBin fAdd (eVar 8) (eC (.int 1))))) = seatB from rfl]
      refine okS_while (fun m s' w' => w' = w1 ∧ ∃ (i : Nat) (F : List D), i + m = T ∧ F.length = i * rows.length ∧ SQ2 A (.int g) rows F (low + i) s') 100000000 T (by omega) ⟨rfl, 0, [], by omega, by simp, by simpa using hS⟩ ?_
      rintro m s' w' ⟨rfl, i, F, h1, h2, hQ⟩
      have hbd : F.length ≤ 8000000 := by
        rw [h2]
        have : i * rows.length ≤ 1002 * 4096 := Nat.mul_le_mul (by omega) hE4
        omega
      have hturn := seat_turn (w' := w') hrl hE4 (F := F) hbd hQ
      obtain ⟨t3, t4, t5, t6, t9, rfl⟩ := hQ
      simp -implicitDefEqProofs [gA, xA, x1, isn, grow, okD_rows, okD_nilL, eqD_rows_nil, hl0]
      by_cases hr0 : rows = []
      · simp -implicitDefEqProofs [hr0]
        subst hr0
        exact hM' _ _ ⟨rfl, F, _, by simpa using h2, t3, t4, t5, t6, t9, rfl⟩
      · simp -implicitDefEqProofs [hr0]
        by_cases hlt : low + (i : Int) ≤ hi
        · rw [if_pos hlt]
          refine ⟨m - 1, by omega, ?_⟩
          refine okS_mono hturn (fun s2 w2 hh => ?_) (fun _ _ hh => hh.elim)
          obtain ⟨rfl, F', hF', hQ'⟩ := hh
          refine ⟨rfl, i + 1, by omega, F', by rw [hF', h2, Nat.succ_mul], ?_⟩
          have e : low + (i : Int) + 1 = low + ((i : Int) + 1) := by omega
          rw [e] at hQ'
          simpa using hQ'
        · rw [if_neg hlt]
          have : i = T := by omega
          subst this
          exact hM' _ _ ⟨rfl, F, _, h2, t3, t4, t5, t6, t9, rfl⟩
    rintro s1 w1 ⟨rfl, F, here, hF, t3, t4, t5, t6, t9, rfl⟩
    have hext : ext (low, hi) = (T : Int) := by
      unfold ext
      show (if hi - low + 1 > 0 then hi - low + 1 else 0) = _
      split <;> omega
    have hlenF : (F.length : Int) = P * ext (low, hi) := by
      rw [hF, hext, ← hEl, Int.natCast_mul, Int.mul_comm]
    have q1 : fLen w1 [.lst F] = some (.int F.length) := rfl
    simp -implicitDefEqProofs [gA, xA, x1, isn]
    rw [← hlenF]
    by_cases hle : (F.length : Int) ≤ g
    · simp [hle]
    · simp [hle]
      omega
end
end DL

set_option maxHeartbeats 2000000
namespace DL
open PySem PySem.Spec PyProof.Rows L2
variable [TabT]
/-! ### whole rows; what is drawn -/
section
variable {w : Wl} {b : Nat} {ds : List (Int × Int)} {low : Int} {x : D}
theorem isNotI (w : Wl) (i : Int) : fNotN w (.int i) .non = some (.bl true) := rfl
theorem isNotN (w : Wl) : fNotN w .non .non = some (.bl false) := rfl
theorem atI_of {α : Type} {l : List α} {k : Int} (h0 : 0 ≤ k) (h1 : k < l.length) : ∃ x, atI l k = some x ∧ x ∈ l := by
  obtain ⟨j, rfl⟩ := Int.eq_ofNat_of_zero_le h0
  have hj : j < l.length := by omega
  exact ⟨l[j], atI_nat (by simp [hj]), by simp⟩
/-- one of some -/
theorem pick {l : List D} {Q : D → Wl → Prop} (hw : Lap b w) (h0 : l ≠ []) (h1 : l.length ≤ 1000) (hb : b < 1010000) (q : ∀ x ∈ l, ∀ (w' : Wl), Lap (b + 1) w' → Q x w') : okE (F_w_pick [.well, .lst l] w) Q := by
  have hl : 0 < l.length := List.length_pos_iff.mpr h0
  have e100 := p100
  simp [F_w_pick, B_w_pick, okE_run, List.replicate]
  refine draw hw (by omega) (by omega) hb fun k w' k0 k1 l1 => ?_
  obtain ⟨x, hx, hm⟩ := atI_of k0 k1
  simp [hx]
  exact q x hm w' l1
theorem pickI {ns : List Int} (P : Int → Prop) (hP : ∀ n ∈ ns, P n) {Q : D → Wl → Prop} (hw : Lap b w) (h0 : ns ≠ []) (h1 : ns.length ≤ 1000) (hb : b < 1010000) (q : ∀ (n : Int) (w' : Wl), P n → Lap (b + 1) w' → Q (.int n) w') : okE (F_w_pick [.well, .lst (ns.map .int)] w) Q :=
  pick hw (by simpa using h0) (by simpa using h1) hb fun x hx w' l => by
    obtain ⟨n, hn, rfl⟩ := List.mem_map.mp hx
    exact q n w' (hP n hn) l
/-- near bounds -/
structure Nb (bs : List (Int × Int)) : Prop where
  one : 1 ≤ bs.length
  few : bs.length ≤ 3
  dim : ∀ p ∈ bs, -100 ≤ p.1 ∧ p.1 ≤ 100 ∧ -100 ≤ p.2 ∧ p.2 ≤ p.1 + 4
theorem e_bounds (hb : b < 1002000) (hw : Lap b w) : okE (F_w_bounds [.well, .int 3, .int 4] w) fun d w' => ∃ bs, d = bD bs ∧ Nb bs ∧ Lap (b + 100) w' := by
  have hlim : lim = 16000000 := rfl
  have e100 := p100
  simp [F_w_bounds, B_w_bounds, okE_run, List.replicate]
  refine draw hw (by decide) (by decide) (by omega) fun k w1 k0 k1 l1 => ?_
  simp
  refine ⟨⟨by omega, by omega⟩, ?_⟩
  have hk : (1 + k).toNat ≤ 3 := by omega
  refine okS_loop0 (fun i s w' => Lap (b + 1 + 10 * i) w' ∧ ∃ bs t4 t5 t6, s = [some .well, some (.int 3), some (.int 4), some (.own (bs.map pD)), t4, t5, t6] ∧ bs.length = i ∧ ∀ p ∈ bs, -100 ≤ p.1 ∧ p.1 ≤ 100 ∧ -100 ≤ p.2 ∧ p.2 ≤ p.1 + 4) ⟨l1, [], none, none, none, rfl, rfl, by simp⟩ ?_ ?_
  · rintro i d s w2 hd ⟨l2, bs, t4, t5, t6, rfl, hbl, hbs⟩
    have hi : i < (1 + k).toNat := by
      have := (List.getElem?_eq_some_iff.mp hd).1
      simpa [upTo] using this
    simp
    refine draw l2 (by decide) (by decide) (by omega) fun k3 w3 a3 b3 l3 => ?_
    simp [hlim]
    refine pick l3 (by simp) (by simp) (by omega) fun x hx w4 l4 => ?_
    obtain ⟨low, rfl, hlow⟩ : ∃ low : Int, x = .int low ∧ -50 ≤ low ∧ low ≤ 50 := by
      simp at hx
      rcases hx with e | e | e | e <;> exact ⟨_, e, by omega, by omega⟩
    simp
    refine draw l4 (by decide) (by decide) (by omega) fun k5 w5 a5 b5 l5 => ?_
    simp
    refine draw l5 (by decide) (by decide) (by omega) fun k6 w6 a6 b6 l6 => ?_
    simp
    split
    · refine draw l6 (by decide) (by decide) (by omega) fun k7 w7 a7 b7 l7 => ?_
      refine draw l7 (by decide) (by decide) (by omega) fun k8 w8 a8 b8 l8 => ?_
      have hm : 0 ≤ k7 * k8 ∧ k7 * k8 ≤ 3 := ⟨Int.mul_nonneg a7 a8, by
        have : k7 * k8 ≤ 3 * 1 := Int.mul_le_mul (by omega) (by omega) a8 (by decide)
        omega⟩
      simp [hlim]
      refine ⟨mul_small (i := 10) (j := 10) a7 (by omega) a8 (by omega) (by decide), by omega, lap_le l8 (by omega), bs ++ [(low, low - 1 - k7 * k8)], by simp [pD], by simp [hbl], ?_⟩
      intro a c hac
      rcases List.mem_append.mp hac with h | h
      · exact hbs _ h
      · have e := List.mem_singleton.mp h
        cases e
        omega
    · refine ⟨by omega, lap_le l6 (by omega), bs ++ [(low, low + k5)], by simp [pD], by simp [hbl], ?_⟩
      intro a c hac
      rcases List.mem_append.mp hac with h | h
      · exact hbs _ h
      · have e := List.mem_singleton.mp h
        cases e
        omega
  · rintro s w2 ⟨l2, bs, t4, t5, t6, rfl, hbl, hbs⟩
    simp [upTo] at hbl l2
    simp
    exact ⟨bs, rfl, ⟨by omega, by omega, hbs⟩, lap_le l2 (by omega)⟩
/-- a drawn dummy -/
def DuS (g : Int) (ds : List (Int × Int)) (left : Int) (s : Sl) : Prop := ∃ t4 t5 t6 t7 t8, s = [some .well, some (.int g), some (.own (ds.map pD)), some (.int left), t4, t5, t6, t7, t8]
def DuO (low g : Int) (x : D) : Prop := x = .non ∨ ∃ hi, x = .int hi ∧ -6 ≤ hi ∧ hi ≤ low + g + 1
theorem e_dummy {g : Int} (hg : 0 ≤ g ∧ g ≤ 1000) (hb : b < 1002000) (hw : Lap b w) : okE (F_w_dummy [.well, .int g] w) fun d w' => ∃ ds low x, d = lastB ds low x ∧ Dm ds ∧ (-2 ≤ low ∧ low ≤ 2) ∧ DuO low g x ∧ Lap (b + 40) w' := by
  have hlim : lim = 16000000 := rfl
  have hl0 : (0 : Nat) ≤ lim := by decide
  have hl6 : (6 : Nat) ≤ lim := by decide
  have hl7 : (7 : Nat) ≤ lim := by decide
  have e100 := p100
  unfold F_w_dummy
  rw [okE_run]
  refine ⟨rfl, ?_⟩
  show okS (B_w_dummy [some .well, some (.int g), none, none, none, none, none, none, none] w) _ _
  unfold B_w_dummy
  refine okS_to (fun s1 w1 => w1 = w ∧ DuS g [] g s1) ?_ ?_
  · intro M' hM'
    simp -implicitDefEqProofs [hl0]
    exact hM' _ _ ⟨rfl, none, none, none, none, none, rfl⟩
  rintro s1 w1 ⟨rfl, hD⟩
  refine okS_to (fun s1 w2 => ∃ (ds : List (Int × Int)) (left : Int), Dm ds ∧ (0 ≤ left ∧ left ≤ g) ∧ Lap (b + 20) w2 ∧ DuS g ds left s1) ?_ ?_
  · intro M' hM'
    obtain ⟨t4, t5, t6, t7, t8, rfl⟩ := hD
    simp -implicitDefEqProofs [hl6]
    have hp : ∀ n ∈ [(0 : Int), 1, 2, 2, 4, 6], 0 ≤ n ∧ n ≤ 6 := by
      intro n hn
      simp only [List.mem_cons, List.not_mem_nil, or_false] at hn
      omega
    refine pickI (ns := [0, 1, 2, 2, 4, 6]) (fun n => 0 ≤ n ∧ n ≤ 6) hp hw (by simp) (by simp) (by omega) fun n w2 hn l2 => ?_
    simp -implicitDefEqProofs
    refine ⟨⟨by omega, by omega⟩, ?_⟩
    have hk : n.toNat ≤ 6 := by omega
    refine okS_loop0 (fun i s w' => Lap (b + 1 + 3 * i) w' ∧ ∃ (ds : List (Int × Int)) (left : Int), ds.length = i ∧ (∀ d ∈ ds, -2 ≤ d.1 ∧ d.1 ≤ 2 ∧ d.1 - 1 ≤ d.2 ∧ d.2 ≤ d.1 + 3) ∧ (0 ≤ left ∧ left ≤ g) ∧ DuS g ds left s) ⟨l2, [], g, rfl, by simp, by omega, t4, t5, t6, t7, t8, rfl⟩ ?_ ?_
    · rintro i d s w2 hd ⟨l2, ds, left, hdl, hds, hlf, t4, t5, t6, t7, t8, rfl⟩
      have hi : i < n.toNat := by
        have := (List.getElem?_eq_some_iff.mp hd).1
        simpa [upTo] using this
      have hdi : d = .int (0 + (i : Nat)) := by
        have := (List.getElem?_eq_some_iff.mp hd).2
        simpa [upTo] using this.symm
      subst hdi
      rw [v_gN, okO_some]
      refine okS_to (fun s1 w3 => ∃ lo sz : Int, (-2 ≤ lo ∧ lo ≤ 2) ∧ (1 ≤ sz ∧ sz ≤ 4) ∧ Lap (b + 1 + 3 * i + 2) w3 ∧ ∃ t4, s1 = [some .well, some (.int g), some (.own (ds.map pD)), some (.int left), t4, some (.int lo), some (.int sz), t7, t8]) ?_ ?_
      · intro M' hM'
        simp -implicitDefEqProofs
        refine draw l2 (by decide) (by decide) (by omega) fun k3 w3 a3 b3 l3 => ?_
        simp -implicitDefEqProofs
        by_cases hi2 : (i : Int) < 2
        · rw [if_pos hi2]
          refine draw l3 (by decide) (by decide) (by omega) fun k4 w4 a4 b4 l4 => ?_
          simp -implicitDefEqProofs
          exact hM' _ _ ⟨_, _, by omega, by omega, l4, _, rfl⟩
        · rw [if_neg hi2]
          refine draw l3 (by decide) (by decide) (by omega) fun k4 w4 a4 b4 l4 => ?_
          simp -implicitDefEqProofs
          exact hM' _ _ ⟨_, _, by omega, by omega, l4, _, rfl⟩
      rintro _ w3 ⟨lo, sz, hlo, hsz, l3, t4, rfl⟩
      refine okS_to (fun s1 w4 => Lap (b + 1 + 3 * (i + 1)) w4 ∧ ∃ (hi : Int), (lo - 1 ≤ hi ∧ hi ≤ lo + 3) ∧ s1 = [some .well, some (.int g), some (.own ((ds ++ [(lo, hi)]).map pD)), some (.int left), t4, some (.int lo), some (.int sz), t7, t8]) ?_ ?_
      · intro M' hM'
        simp -implicitDefEqProofs
        refine draw l3 (by decide) (by decide) (by omega) fun k4 w4 a4 b4 l4 => ?_
        simp -implicitDefEqProofs
        by_cases hk4 : k4 = 0
        · simp -implicitDefEqProofs [hk4]
          refine ⟨by omega, by omega, hM' _ _ ⟨lap_le l4 (by omega), lo + sz - 1 - 1, by omega, ?_⟩⟩
          simp [pD]
        · simp -implicitDefEqProofs [hk4]
          refine ⟨by omega, by omega, hM' _ _ ⟨lap_le l4 (by omega), lo + sz - 1, by omega, ?_⟩⟩
          simp [pD]
      rintro _ w4 ⟨l4, hi', hhi, rfl⟩
      have hm : (if sz > 1 then sz else 1) = sz := by split <;> omega
      have hdv : divOk sz := divOk_small (by omega) (by omega)
      have hf := fdiv_range (a := left) (n := sz) (by omega) (by omega)
      simp -implicitDefEqProofs [hm, hdv]
      refine ⟨l4, ds ++ [(lo, hi')], by simp [hdl], ?_, left.fdiv sz, by omega, t4, some (.int lo), some (.int sz), t7, t8, by simp⟩
      intro a c hac
      rcases List.mem_append.mp hac with h | h
      · exact hds _ h
      · have e := List.mem_singleton.mp h
        cases e
        omega
    · rintro s w2 ⟨l2, ds, left, hdl, hds, hlf, hS⟩
      simp [upTo] at hdl l2
      exact hM' _ _ ⟨ds, left, ⟨by omega, hds⟩, hlf, lap_le l2 (by omega), hS⟩
  rintro s1 w1 ⟨ds, left, hds, hlf, l1, t4, t5, t6, t7, t8, rfl⟩
  have h6 := hds.few
  refine okS_to (fun s1 w2 => ∃ low : Int, (-2 ≤ low ∧ low ≤ 2) ∧ Lap (b + 21) w2 ∧ ∃ t4 t6 t7 t8, s1 = [some .well, some (.int g), some (.own (ds.map pD)), some (.int left), t4, some (.int low), t6, t7, t8]) ?_ ?_
  · intro M' hM'
    simp -implicitDefEqProofs
    refine draw l1 (by decide) (by decide) (by omega) fun k4 w4 a4 b4 l4 => ?_
    simp -implicitDefEqProofs
    exact hM' _ _ ⟨_, by omega, l4, _, _, _, _, rfl⟩
  rintro _ w2 ⟨low, hlow, l2, t4, t6, t7, t8, rfl⟩
  refine okS_to (fun s1 w3 => ∃ L : List D, L.length = 7 ∧ (∀ x ∈ L, DuO low g x) ∧ Lap (b + 22) w3 ∧ ∃ t4 t6 t8, s1 = [some .well, some (.int g), some (.own (ds.map pD)), some (.int left), t4, some (.int low), t6, some (.lst L), t8]) ?_ ?_
  · intro M' hM'
    simp -implicitDefEqProofs
    refine draw l2 (by omega) (by omega) (by omega) fun k4 w4 a4 b4 l4 => ?_
    simp -implicitDefEqProofs [hl7]
    refine hM' _ _ ⟨_, rfl, ?_, l4, _, _, _, rfl⟩
    intro x hx
    simp only [List.mem_cons, List.not_mem_nil, or_false] at hx
    rcases hx with e | e | e | e | e | e | e
    · exact Or.inl e
    · exact Or.inl e
    · exact Or.inr ⟨_, e, by omega, by omega⟩
    · exact Or.inr ⟨_, e, by omega, by omega⟩
    · exact Or.inr ⟨_, e, by omega, by omega⟩
    · exact Or.inr ⟨_, e, by omega, by omega⟩
    · exact Or.inr ⟨_, e, by omega, by omega⟩
  rintro _ w3 ⟨L, hL7, hL, l3, t4, t6, t8, rfl⟩
  refine okS_to (fun s1 w3 => ∃ x : D, DuO low g x ∧ Lap (b + 23) w3 ∧ ∃ t4 t6 t7, s1 = [some .well, some (.int g), some (.own (ds.map pD)), some (.int left), t4, some (.int low), t6, t7, some x]) ?_ ?_
  · intro M' hM'
    simp -implicitDefEqProofs
    refine pick l3 (List.ne_nil_of_length_pos (by omega)) (by omega) (by omega) fun x hx w5 l5 => ?_
    exact hM' _ _ ⟨x, hL x hx, l5, _, _, _, rfl⟩
  rintro _ w3 ⟨x, hx, l3, t4, t6, t7, rfl⟩
  have hx' : ∀ (s : Sl), getS (some x :: s) 0 = some x := by
    rcases hx with rfl | ⟨hi, rfl, _⟩ <;> exact fun s => rfl
  simp -implicitDefEqProofs [hx', hlim, frzS]
  exact ⟨by omega, ds, low, x, rfl, hds, hlow, hx, lap_le l3 (by omega)⟩
end
end DL

set_option maxHeartbeats 2000000
namespace DL
open PySem PySem.Spec PyProof.Rows L2
variable [TabT]
/-! ### elements and sections: what the draws make -/
section
variable {w : Wl} {b : Nat} {bs : List (Int × Int)} {ps : List Pk} {d : Int × Int} {p : Pk}
theorem ext_nn (d : Int × Int) : 0 ≤ ext d := by unfold ext; split <;> omega
theorem prod_pos_of : ∀ {ns : List Int}, (∀ n ∈ ns, 0 ≤ n) → 0 < prod ns → ∀ n ∈ ns, 0 < n
  | [], _, _, n, hn => by simp at hn
  | m :: r, h0, hp, n, hn => by
    have hm := h0 m List.mem_cons_self
    have hp' : 0 < m * prod r := hp
    have h1 : 0 < m := by
      rcases Int.lt_or_eq_of_le hm with h | h
      · exact h
      · rw [← h, Int.zero_mul] at hp'
        omega
    have h2 : 0 < prod r := by
      rcases (by omega : 0 < prod r ∨ prod r ≤ 0) with h | h
      · exact h
      · have := Int.mul_le_mul_of_nonneg_left h hm
        rw [Int.mul_zero] at this
        omega
    rcases List.mem_cons.mp hn with rfl | hn
    · exact h1
    · exact prod_pos_of (fun k hk => h0 k (List.mem_cons_of_mem _ hk)) h2 n hn
theorem exts_pos (h : 0 < prod (bs.map ext)) : ∀ d ∈ bs, 0 < ext d := fun d hd =>
  prod_pos_of (fun n hn => by obtain ⟨d, _, rfl⟩ := List.mem_map.mp hn; exact ext_nn d) h _ (List.mem_map_of_mem hd)
theorem elem_el : ∀ {bs : List (Int × Int)} {n : Int}, (∀ d ∈ bs, 0 < ext d) → El bs (elem bs n)
  | [], _, _ => trivial
  | p :: bs, n, h => by
    have h1 := h p List.mem_cons_self
    have hf := fmod_range (a := n) h1
    have he : ext p = p.2 - p.1 + 1 := by
      unfold ext at h1 ⊢
      split
      · rfl
      · rename_i hh; rw [if_neg hh] at h1; omega
    exact ⟨⟨by omega, by omega⟩, elem_el fun d hd => h d (List.mem_cons_of_mem _ hd)⟩
theorem place_elem : ∀ {bs : List (Int × Int)} {n : Int}, (∀ d ∈ bs, 0 < ext d) → 0 ≤ n → n < prod (bs.map ext) → place bs (elem bs n) = n
  | [], n, _, h0, h1 => by
    have : n < 1 := h1
    show (0 : Int) = n
    omega
  | p :: bs, n, h, h0, h1 => by
    have hp := h p List.mem_cons_self
    have h1 : n < ext p * prod (bs.map ext) := h1
    have hq : n.fdiv (ext p) < prod (bs.map ext) := by
      rw [Int.fdiv_eq_ediv_of_nonneg _ (by omega)]
      exact Int.ediv_lt_of_lt_mul hp (by rw [Int.mul_comm]; exact h1)
    have ih := place_elem (fun d hd => h d (List.mem_cons_of_mem _ hd)) (fdiv_range hp h0).1 hq
    simp only [elem, place]
    rw [ih, show p.1 + n.fmod (ext p) - p.1 = n.fmod (ext p) by omega]
    exact Int.fmod_add_mul_fdiv n (ext p)
/-! sections, built one part behind the other -/
def Wh : List (Int × Int) → List Pk → Prop
  | [], [] => True
  | d :: ds, p :: ps => VP d p ∧ p = .run d.1 d.2 ∧ Wh ds ps
  | _, _ => False
theorem Wh.snoc : ∀ {bs : List (Int × Int)} {ps : List Pk}, Wh bs ps → d.1 ≤ d.2 → Wh (bs ++ [d]) (ps ++ [.run d.1 d.2])
  | [], [], _, h => ⟨⟨Int.le_refl _, Int.le_refl _, h⟩, rfl, trivial⟩
  | c :: bs, q :: ps, ⟨hv, e, hw⟩, h => ⟨hv, e, hw.snoc h⟩
  | [], _ :: _, hh, _ => hh.elim
  | _ :: _, [], hh, _ => hh.elim
theorem Wh.part : ∀ {bs : List (Int × Int)} {ps : List Pk}, Wh bs ps → VP d p → Cg (bs ++ [d]) (ps ++ [p])
  | [], [], _, h => ⟨h, Or.inr trivial⟩
  | c :: bs, q :: ps, ⟨hv, e, hw⟩, h => ⟨hv, Or.inl ⟨e, hw.part h⟩⟩
  | [], _ :: _, hh, _ => hh.elim
  | _ :: _, [], hh, _ => hh.elim
theorem Sg.snoc : ∀ {bs : List (Int × Int)} {ps : List Pk}, Sg bs ps → VP d p → p.cn = 1 → Sg (bs ++ [d]) (ps ++ [p])
  | [], [], _, h, e => ⟨h, e, trivial⟩
  | c :: bs, q :: ps, ⟨hv, e', hw⟩, h, e => ⟨hv, e', hw.snoc h e⟩
  | [], _ :: _, hh, _, _ => hh.elim
  | _ :: _, [], hh, _, _ => hh.elim
theorem Cg.snoc : ∀ {bs : List (Int × Int)} {ps : List Pk}, Cg bs ps → VP d p → p.cn = 1 → Cg (bs ++ [d]) (ps ++ [p])
  | [], [], _, h, e => ⟨h, Or.inr trivial⟩
  | c :: bs, q :: ps, ⟨hv, hh⟩, h, e => ⟨hv, hh.elim (fun hh => Or.inl ⟨hh.1, Cg.snoc hh.2 h e⟩) fun hh => Or.inr (hh.snoc h e)⟩
  | [], _ :: _, hh, _, _ => hh.elim
  | _ :: _, [], hh, _, _ => hh.elim
theorem Wh.cg : ∀ {bs : List (Int × Int)} {ps : List Pk}, Wh bs ps → Cg bs ps
  | [], [], _ => trivial
  | c :: bs, q :: ps, ⟨hv, e, hw⟩ => ⟨hv, Or.inl ⟨e, hw.cg⟩⟩
  | [], _ :: _, hh => hh.elim
  | _ :: _, [], hh => hh.elim
theorem vp_cn (h : VP d p) : 1 ≤ p.cn ∧ p.cn ≤ ext d := by
  unfold VP at h
  unfold Pk.cn ext
  split <;> omega
theorem Sg.tot_le : ∀ {bs : List (Int × Int)} {ps : List Pk}, Sg bs ps → tot ps ≤ prod (bs.map ext)
  | [], [], _ => Int.le_refl _
  | c :: bs, q :: ps, ⟨hv, e, h⟩ => Int.mul_le_mul (vp_cn hv).2 h.tot_le (by show 0 ≤ tot ps; rw [(Sg.els h).2]; decide) (ext_nn _)
  | [], _ :: _, hh => hh.elim
  | _ :: _, [], hh => hh.elim
theorem Cg.tot_le : ∀ {bs : List (Int × Int)} {ps : List Pk}, Cg bs ps → tot ps ≤ prod (bs.map ext)
  | [], [], _ => Int.le_refl _
  | c :: bs, q :: ps, ⟨hv, h⟩ => by
    refine Int.mul_le_mul (vp_cn hv).2 ?_ (show 0 ≤ tot ps from ?_) (ext_nn _)
    · exact h.elim (fun h => Cg.tot_le h.2) Sg.tot_le
    · exact h.elim (fun h => by have := tot_pos h.2; omega) fun h => by rw [(Sg.els h).2]; decide
  | [], _ :: _, hh => hh.elim
  | _ :: _, [], hh => hh.elim
theorem els_drop : ∀ {ps : List Pk} (k : Nat), (∀ p ∈ ps, 1 ≤ p.cn) → (els (ps.drop k)).length ≤ (els ps).length
  | ps, 0, _ => by simp
  | [], k + 1, _ => by simp
  | p :: ps, k + 1, h => by
    have ih := els_drop k fun q hq => h q (List.mem_cons_of_mem _ hq)
    rw [List.drop_succ_cons]
    refine Nat.le_trans ih ?_
    show _ ≤ ((els ps).flatMap fun row => (subs p).map fun x => x :: row).length
    rw [List.length_flatMap]
    have e : ((els ps).map fun row => ((subs p).map fun x => x :: row).length) = (els ps).map fun _ => (subs p).length := by simp
    rw [e]
    have h1 := h p List.mem_cons_self
    have hs : 1 ≤ (subs p).length := by
      unfold subs
      rw [List.length_map, List.length_range]
      omega
    simp [List.map_const']
    exact Nat.le_mul_of_pos_right _ hs
theorem els_tot : ∀ {ps : List Pk}, (∀ p ∈ ps, 1 ≤ p.cn) → ((els ps).length : Int) = tot ps := fun {ps} h => by
  rw [els_len]
  unfold tot
  congr 1
  apply List.map_congr_left
  intro p hp
  have := h p hp
  unfold subs
  rw [List.length_map, List.length_range]
  omega
theorem Cg.cn1 (h : Cg bs ps) : ∀ p ∈ ps, 1 ≤ p.cn := fun p hp => by
  have hl := h.len
  obtain ⟨i, hi, rfl⟩ := List.mem_iff_getElem.mp hp
  have hi2 : i < bs.length := by omega
  have hz : (ps[i], bs[i]) ∈ ps.zip bs := by
    rw [List.mem_iff_getElem]
    exact ⟨i, by simp; omega, by simp⟩
  exact (vp_cn (h.vp _ hz)).1
theorem upTo_map {a : Int} {n : Nat} : ((List.range n).map fun k => a + (k : Nat)).map D.int = upTo a n := by
  rw [List.map_map]
  rfl
/-- two numbers in order -/
theorem sort2 (u v : Int) : sortI [u, v] = if u ≤ v then [u, v] else [v, u] := by
  apply sorted_unique ((sortI_perm _).trans ?_) (sortI_le _)
  · split <;> simp <;> omega
  · split
    · exact List.Perm.refl _
    · exact List.Perm.swap _ _ _
theorem sort2_ex (u v : Int) : ∃ s0 s1 : Int, sortI [u, v] = [s0, s1] ∧ s0 ≤ s1 ∧ (s0 = u ∨ s0 = v) ∧ (s1 = u ∨ s1 = v) := by
  rw [sort2]
  split
  · exact ⟨_, _, rfl, by omega, by simp, by simp⟩
  · exact ⟨_, _, rfl, by omega, by simp, by simp⟩
/-- a comprehension, one turn -/
theorem okE_lcC {G : DG} {T : DT} {A : DE} {d : D} {r : List D} {s : Sl} {w : Wl} {Q : List D → Wl → Prop} : okE (lcD G T A (d :: r) s w) Q = okO (G d s) fun s1 => okE (T s1 w).noer fun k w1 => if k = true then okE (A s1 w1).noer fun y w2 => okE (lcD G T A r s w2) fun ys w3 => Q (y :: ys) w3 else okE (lcD G T A r s w1) Q := by
  rw [lcD]
  cases G d s with
  | none => rfl
  | some s1 =>
    show okE ((T s1 w).noer.bind _) Q = okE (T s1 w).noer _
    rw [okE_bind]
    congr
    funext k w1
    cases k
    · rfl
    · show okE ((A s1 w1).noer.bind _) Q = okE (A s1 w1).noer _
      rw [okE_bind]
      congr
      funext y w2
      rw [okE_bind]
      rfl
theorem okE_lcN {G : DG} {T : DT} {A : DE} {s : Sl} {w : Wl} {Q : List D → Wl → Prop} : okE (lcD G T A [] s w) Q = Q [] w := rfl
end
end DL

set_option maxHeartbeats 2000000
namespace DL
open PySem PySem.Spec PyProof.Rows L2
variable [TabT]
/-! ### the law's hands -/
section
variable {w : Wl} {b : Nat} {bs : List (Int × Int)} {ps : List Pk}
theorem okD_up {a : Int} {n : Nat} : okD (.lst (upTo a n)) = true := by
  rw [← upTo_map]
  have := lay_ints ((List.range n).map fun k => a + (k : Nat))
  simp only [okD, toPD, toPDs_ints, SeqAt.shaped, PyData.canLay0, PyData.depth, this.1, this.2]
  rfl
theorem okD_nil0 : okD (.lst []) = true := rfl
theorem eqD_up_nil {a : Int} {n : Nat} : eqD (.lst (upTo a n)) (.lst []) = decide (n = 0) := by
  have e : ∀ a b : List PyData, PyData.eqv (.list a) (.list b) = PyData.eqvAll a b := fun a b => by unfold PyData.eqv; rfl
  show PyData.eqv (.list (toPDs (upTo a n))) (.list []) = _
  rw [e]
  cases n with
  | zero => rfl
  | succ n =>
    have : upTo a (n + 1) = .int (a + (0 : Nat)) :: (List.range n).map fun i => .int (a + ((i + 1 : Nat))) := by
      unfold upTo
      rw [List.range_succ_eq_map]
      simp
    rw [this]
    rfl
theorem okE_rg1 {A : DE} {s : Sl} {Q : List D → Wl → Prop} : okE (aRg1 A s w) Q = okE (A s w) fun x w1 => match x with
    | .int j => rgOk 0 j ∧ Q (upTo 0 j.toNat) w1
    | _ => False := by
  unfold aRg1
  rw [okE_bind]
  congr
  funext x w1
  cases x <;> try rfl
  rename_i j
  show okE (if rgOk 0 j then R.ok (upTo 0 (j - 0).toNat) w1 else .no) Q = _
  rw [show j - 0 = j by omega]
  split <;> simp [*]
theorem okE_rg2 {A B : DE} {s : Sl} {Q : List D → Wl → Prop} : okE (aRg2 A B s w) Q = okE (A s w) fun x w1 => okE (B s w1) fun y w2 => match x, y with
    | .int i, .int j => rgOk i j ∧ Q (upTo i (j - i).toNat) w2
    | _, _ => False := by
  unfold aRg2
  rw [okE_bind]
  congr
  funext x w1
  rw [okE_bind]
  congr
  funext y w2
  cases x <;> try rfl
  cases y <;> try rfl
  rename_i i j
  show okE (if rgOk i j then R.ok (upTo i (j - i).toNat) w2 else .no) Q = _
  split <;> simp [*]
theorem cut_up {n p : Nat} (h : p ≤ n) : cutD (upTo 0 n) (some (p : Int)) none = upTo p (n - p) := by
  have hl : (upTo 0 n).length = n := by simp [upTo]
  unfold cutD
  rw [HT.sIx_none, hl, HT.sIx_nat, Nat.min_eq_left h]
  rw [List.take_of_length_le (by rw [List.length_drop, hl]; omega)]
  apply List.ext_getElem
  · rw [List.length_drop, hl]; simp [upTo]
  · intro i h1 h2
    rw [List.getElem_drop]
    simp [upTo]
theorem prod_ge1 : ∀ {ns : List Int}, (∀ n ∈ ns, 0 < n) → 1 ≤ prod ns
  | [], _ => Int.le_refl _
  | n :: r, h => by
    have h1 := h n List.mem_cons_self
    have h2 := prod_ge1 fun m hm => h m (List.mem_cons_of_mem _ hm)
    show 1 ≤ n * prod r
    exact Int.mul_pos h1 (by omega)
theorem mem_le_prod : ∀ {ds : List (Int × Int)} {d : Int × Int}, (∀ d ∈ ds, 0 < ext d) → d ∈ ds → ext d ≤ prod (ds.map ext)
  | [], _, _, h => by simp at h
  | c :: ds, d, hp, h => by
    have h1 := hp c List.mem_cons_self
    have h2 : 1 ≤ prod (ds.map ext) := prod_ge1 fun n hn => by
      obtain ⟨d, hd, rfl⟩ := List.mem_map.mp hn
      exact hp d (List.mem_cons_of_mem _ hd)
    show ext d ≤ ext c * prod (ds.map ext)
    rcases List.mem_cons.mp h with rfl | h
    · have := Int.mul_le_mul_of_nonneg_left h2 (show 0 ≤ ext d by omega)
      omega
    · have ih := mem_le_prod (fun d hd => hp d (List.mem_cons_of_mem _ hd)) h
      have := Int.mul_le_mul_of_nonneg_right (show 1 ≤ ext c by omega) (show 0 ≤ prod (ds.map ext) by omega)
      omega
theorem subs_in {p : Pk} {x : Int} (h : x ∈ subs p) : p.fst ≤ x ∧ x ≤ p.las := by
  unfold subs at h
  obtain ⟨k, hk, rfl⟩ := List.mem_map.mp h
  have := List.mem_range.mp hk
  unfold Pk.cn at this
  omega
theorem els_el : ∀ {bs : List (Int × Int)} {ps : List Pk}, Cg bs ps → ∀ row ∈ els ps, El bs row
  | [], [], _, row, hr => by
    rw [List.mem_singleton.mp hr]
    trivial
  | d :: ds, p :: ps, ⟨hv, h⟩, row, hr => by
    obtain ⟨r, hq, hm⟩ := List.mem_flatMap.mp hr
    obtain ⟨x, hx, rfl⟩ := List.mem_map.mp hm
    have hs := subs_in hx
    refine ⟨⟨by have := hv.1; omega, by have := hv.2.1; omega⟩, ?_⟩
    rcases h with h | h
    · exact els_el h.2 r hq
    · rw [(Sg.els h).1] at hq
      rw [List.mem_singleton.mp hq]
      exact h.el
  | [], _ :: _, hh, _, _ => hh.elim
  | _ :: _, [], hh, _, _ => hh.elim
def HdP (bs : List (Int × Int)) (d : D) : Prop :=
  (d = .tup [.str "whole", .lst (upTo 0 (prod (bs.map ext)).toNat)]) ∨
  (∃ xs, El bs xs ∧ d = .tup [fromD xs, .lst (upTo (place bs xs) (prod (bs.map ext) - place bs xs).toNat)]) ∨
  (∃ ps, Cg bs ps ∧ (∀ p ∈ ps, Gp p) ∧ d = .tup [.tup [.str "section", secD ps], .lst (upTo (place bs (firsts ps)) (tot ps).toNat)])
/-- the state behind the loop -/
def HdS (bs : List (Int × Int)) (ps : List Pk) (fr : Bool) (s : Sl) : Prop := ∃ t2 t3 t4 t7 t8 t9 t10 t11, s = [some .well, some (bD bs), t2, t3, t4, some (.own (ps.map Pk.toD)), some (.bl fr), t7, t8, t9, t10, t11]
theorem gp_run {a c : Int} (ha : Sm a) (hc : Sm c) (h : a ≤ c) : Gp (.run a c) := ⟨ha, hc, h, fun hh => (hh a c rfl).elim⟩
theorem gp_one {a : Int} (ha : Sm a) : Gp (.one a) := ⟨ha, ha, Int.le_refl _, fun _ => rfl⟩
theorem gp_lst {a : Int} (ha : Sm a) : Gp (.lst a) := ⟨ha, ha, Int.le_refl _, fun _ => rfl⟩
theorem gp_num {a : Int} (ha : Sm a) : Gp (.num a) := ⟨ha, ha, Int.le_refl _, fun _ => rfl⟩
/-- the last part of the hand's text: section and places -/
theorem hand_end (h : Bw bs) (hc : Cg bs ps) (hg : ∀ p ∈ ps, Gp p) (hp : prod (bs.map ext) ≤ 1000) {fr : Bool} {s : Sl} (hs : HdS bs ps fr s) :
    okS (sFrz 5 (sRet (eTup (aCons (eTup (aCons (eC (.str "section")) (aCons (eCB fTuple (aCons (eVar 5) aNil)) aNil))) (aCons (eL (aLc (iSeq (eCall 1 F_w_elements (aCons (eVar 5) aNil))) (gN 10) tYesD (eCall 2 F_w_place (aCons (eVar 1) (aCons (eVar 10) aNil))) [10])) aNil)))) s w) (fun _ _ => False) (fun d w' => w' = w ∧ HdP bs d) := by
  obtain ⟨t2, t3, t4, t7, t8, t9, t10, t11, rfl⟩ := hs
  have hlim : lim = 16000000 := rfl
  have hl2 : (2 : Nat) ≤ lim := by decide
  have hl7 : ps.length ≤ 7 := by have := hc.len; have := h.few; omega
  have hcn := hc.cn1
  have htl := hc.tot_le
  have het := els_tot hcn
  have hcl : ∀ p ∈ ps, p.cn ≤ 1000 := fun p hpm => by
    have hl := hc.len
    obtain ⟨i, hi, rfl⟩ := List.mem_iff_getElem.mp hpm
    have hi2 : i < bs.length := by omega
    have hz : (ps[i], bs[i]) ∈ ps.zip bs := by
      rw [List.mem_iff_getElem]
      exact ⟨i, by simp; omega, by simp⟩
    have h1 : ps[i].cn ≤ ext bs[i] := (vp_cn (hc.vp _ hz)).2
    have h2 : ext bs[i] ≤ prod (bs.map ext) := by
      have hpos : 0 < prod (bs.map ext) := by have := tot_pos hc; omega
      exact mem_le_prod (exts_pos hpos) (List.getElem_mem hi2)
    omega
  have hE := fun w => e_w_elements (w := w) hl7 (fun p hp => ⟨hg p hp, hcl p hp⟩) (fun k => Nat.le_trans (els_drop k hcn) (by omega))
  have hpl := hc.places
  have hrow : seqD (rowsD (els ps)) = some (false, (els ps).map eD) := rfl
  have hel : ∀ row ∈ els ps, El bs row := els_el hc
  simp -implicitDefEqProofs [frzS, hl2, hE, hrow]
  refine ⟨by omega, ?_⟩
  refine okE_lcall3 (γ := List Int) eD (fun r => .int (place bs r)) rfl (fun r hr => ?_) ?_
  · have := fun w => e_w_place (w := w) h (hel r hr)
    simp -implicitDefEqProofs [this]
  · refine ⟨rfl, Or.inr (Or.inr ⟨ps, hc, hg, ?_⟩)⟩
    have : (els ps).map (fun r => D.int (place bs r)) = upTo (place bs (firsts ps)) (tot ps).toNat := by
      rw [← upTo_map, ← hpl, List.map_map]
      rfl
    rw [this]
    rfl
end
end DL

set_option maxHeartbeats 2000000
namespace DL
open PySem PySem.Spec PyProof.Rows L2
variable [TabT]
section
variable {w : Wl} {b : Nat} {bs : List (Int × Int)} {ps : List Pk}
theorem v_sort2 {u v : Int} (w : Wl) : fSorted w [.lst [.int u, .int v]] = some ((sortI [u, v]).map .int) := by
  unfold fSorted
  rfl
def spotE : DE := eL (eCBL fSorted (aCons (eL (aLc (iRng1 (aCons (eC (.int 2)) aNil)) (gN 11) tYesD (eBin fAdd (eVar 7) (eCall 2 F_w_draw (aCons (eVar 0) (aCons (eBin fAdd (eBin fSub (eVar 8) (eVar 7)) (eC (.int 1))) aNil)))) [11])) aNil))
/-- the state within the loop -/
def HdL (bs : List (Int × Int)) (ps : List Pk) (fr : Bool) (lo hi s0 s1 : Int) (s : Sl) : Prop := ∃ t2 t3 t4 t10 t11, s = [some .well, some (bD bs), t2, t3, t4, some (.own (ps.map Pk.toD)), some (.bl fr), some (.int lo), some (.int hi), some (.lst [.int s0, .int s1]), t10, t11]
def SpP (bs : List (Int × Int)) (ps : List Pk) (fr : Bool) (lo hi : Int) (b : Nat) (s : Sl) (w' : Wl) : Prop := ∃ s0 s1, (lo ≤ s0 ∧ s0 ≤ s1 ∧ s1 ≤ hi) ∧ Lap (b + 2) w' ∧ HdL bs ps fr lo hi s0 s1 s
theorem spot_turn {fr : Bool} {lo hi : Int} {t2 t3 t4 t9 t10 t11 : Option D} (hlo : Sm lo) (hhi : Sm hi) (hle : lo ≤ hi) (hb : b < 1002000) (hw : Lap b w) :
    okS (sAsg 9 spotE [some .well, some (bD bs), t2, t3, t4, some (.own (ps.map Pk.toD)), some (.bl fr), some (.int lo), some (.int hi), t9, t10, t11] w) (SpP bs ps fr lo hi b) (fun _ _ => False) := by
  have hlim : lim = 16000000 := rfl
  have hl2 : (2 : Nat) ≤ lim := by decide
  have hl1 : (1 : Nat) ≤ lim := by decide
  have e2 : upTo 0 2 = [.int 0, .int 1] := rfl
  unfold Sm at hlo hhi
  unfold spotE
  simp -implicitDefEqProofs [e2, okE_lcC, okE_lcN, wipeS, hl2]
  refine draw hw (by omega) (by have := p100; omega) (by omega) fun k w1 k0 k1 l1 => ?_
  simp -implicitDefEqProofs
  refine draw l1 (by omega) (by have := p100; omega) (by omega) fun k' w2 k0' k1' l2 => ?_
  obtain ⟨s0, s1, e, h01, h0, h1⟩ := sort2_ex (lo + k) (lo + k')
  simp -implicitDefEqProofs [v_sort2, e]
  exact ⟨s0, s1, by omega, l2, _, _, _, _, _, rfl⟩
/-- what the loop keeps -/
def HdI (bs : List (Int × Int)) (ps : List Pk) (fr : Bool) : Prop := (fr = true → Wh bs ps) ∧ (fr = false → Cg bs ps) ∧ (∀ p ∈ ps, Gp p)
def PkP (bs cs : List (Int × Int)) (n : Nat) (lo hi : Int) (b : Nat) (s : Sl) (w' : Wl) : Prop := ∃ ps' fr', HdI (cs ++ [(lo, hi)]) ps' fr' ∧ ps'.length = n + 1 ∧ Lap (b + 2) w' ∧ HdS bs ps' fr' s
def pickB : DS := (sIf (tAn (tTr (eVar 6)) (tE (eBin fGt (eCall 2 F_w_draw (aCons (eVar 0) (aCons (eC (.int 3)) aNil))) (eC (.int 0))))) (sApp 5 (eTup (aCons (eVar 7) (aCons (eVar 8) (aCons (eC (.int 1)) aNil))))) (sIf (tTr (eVar 6)) (sSeq (sApp 5 (eCall 2 F_w_pick (aCons (eVar 0) (aCons (eL (aLst (aCons (eTup (aCons (eBin fIx (eVar 9) (eC (.int 0))) (aCons (eBin fIx (eVar 9) (eC (.int 1))) (aCons (eC (.int 1)) aNil)))) (aCons (eL (aLst (aCons (eBin fIx (eVar 9) (eC (.int 0))) aNil))) (aCons (eBin fIx (eVar 9) (eC (.int 1))) aNil))))) aNil)))) (sAsg 6 (eC (.bl false)))) (sApp 5 (eCall 2 F_w_pick (aCons (eVar 0) (aCons (eL (aLst (aCons (eBin fIx (eVar 9) (eC (.int 0))) (aCons (eTup (aCons (eBin fIx (eVar 9) (eC (.int 0))) (aCons (eBin fIx (eVar 9) (eC (.int 0))) (aCons (eC (.int 4)) aNil)))) (aCons (eL (aLst (aCons (eBin fIx (eVar 9) (eC (.int 1))) aNil))) aNil))))) aNil))))))
theorem HdI.cg {fr : Bool} (h : HdI bs ps fr) : Cg bs ps := by
  cases fr
  · exact h.2.1 rfl
  · exact (h.1 rfl).cg
theorem gp_snoc {p : Pk} (h : ∀ p ∈ ps, Gp p) (hp : Gp p) : ∀ q ∈ ps ++ [p], Gp q := fun q hq => by
  rcases List.mem_append.mp hq with hq | hq
  · exact h q hq
  · rw [List.mem_singleton.mp hq]; exact hp
theorem pick_turn {cs : List (Int × Int)} {fr : Bool} {lo hi s0 s1 : Int} {s : Sl} (hlo : Sm lo) (hhi : Sm hi) (h01 : lo ≤ s0 ∧ s0 ≤ s1 ∧ s1 ≤ hi) (hb : b < 1002000) (hw : Lap b w) (h7 : ps.length ≤ 7) (hI : HdI cs ps fr) (hs : HdL bs ps fr lo hi s0 s1 s) :
    okS (pickB s w) (PkP bs cs ps.length lo hi b) (fun _ _ => False) := by
  obtain ⟨t2, t3, t4, t10, t11, rfl⟩ := hs
  have hlim : lim = 16000000 := rfl
  have hl3 : (3 : Nat) ≤ lim := by decide
  have hl1 : (1 : Nat) ≤ lim := by decide
  have m0 : Sm s0 := by unfold Sm at *; omega
  have m1 : Sm s1 := by unfold Sm at *; omega
  have i0 : ∀ w, fIx w (.lst [.int s0, .int s1]) (.int 0) = some (.int s0) := fun w => rfl
  have i1 : ∀ w, fIx w (.lst [.int s0, .int s1]) (.int 1) = some (.int s1) := fun w => rfl
  unfold pickB
  have addp : ∀ p : Pk, Gp p → VP (lo, hi) p → (fr = true ∨ p.cn = 1) → HdI (cs ++ [(lo, hi)]) (ps ++ [p]) false := fun p g v hh => by
    refine ⟨fun e => (by cases e), fun _ => ?_, gp_snoc hI.2.2 g⟩
    cases fr
    · exact (hI.2.1 rfl).snoc v (hh.resolve_left (by simp))
    · exact (hI.1 rfl).part v
  cases fr
  · simp -implicitDefEqProofs [i0, i1, hl3, hl1]
    refine pick hw (by simp) (by simp) (by omega) fun x hx w1 l1 => ?_
    obtain ⟨p, rfl, g, v, c⟩ : ∃ p : Pk, x = p.toD ∧ Gp p ∧ VP (lo, hi) p ∧ p.cn = 1 := by
      simp only [List.mem_cons, List.not_mem_nil, or_false] at hx
      rcases hx with e | e | e
      · exact ⟨.num s0, e, gp_num m0, ⟨by show lo ≤ s0; omega, by show s0 ≤ hi; omega, Int.le_refl _⟩, by show s0 - s0 + 1 = 1; omega⟩
      · exact ⟨.one s0, e, gp_one m0, ⟨by show lo ≤ s0; omega, by show s0 ≤ hi; omega, Int.le_refl _⟩, by show s0 - s0 + 1 = 1; omega⟩
      · exact ⟨.lst s1, e, gp_lst m1, ⟨by show lo ≤ s1; omega, by show s1 ≤ hi; omega, Int.le_refl _⟩, by show s1 - s1 + 1 = 1; omega⟩
    refine ⟨by omega, ps ++ [p], false, addp p g v (Or.inr c), by simp, lap_le l1 (by omega), t2, t3, t4, some (.int lo), some (.int hi), some (.lst [.int s0, .int s1]), t10, t11, by simp⟩
  · simp -implicitDefEqProofs
    refine draw hw (by decide) (by decide) (by omega) fun k w1 k0 k1 l1 => ?_
    simp -implicitDefEqProofs
    by_cases hk : 0 < k
    · rw [if_pos hk]
      simp -implicitDefEqProofs [hl3]
      refine ⟨by omega, ps ++ [.run lo hi], true, ⟨fun _ => (hI.1 rfl).snoc (show lo ≤ hi by omega), fun e => (by cases e), gp_snoc hI.2.2 (gp_run hlo hhi (by omega))⟩, by simp, lap_le l1 (by omega), t2, t3, t4, some (.int lo), some (.int hi), some (.lst [.int s0, .int s1]), t10, t11, by simp [Pk.toD, tD]⟩
    · rw [if_neg hk]
      simp -implicitDefEqProofs [i0, i1, hl3, hl1]
      refine pick l1 (by simp) (by simp) (by omega) fun x hx w2 l2 => ?_
      obtain ⟨p, rfl, g, v⟩ : ∃ p : Pk, x = p.toD ∧ Gp p ∧ VP (lo, hi) p := by
        simp only [List.mem_cons, List.not_mem_nil, or_false] at hx
        rcases hx with e | e | e
        · exact ⟨.run s0 s1, e, gp_run m0 m1 (by omega), ⟨by show lo ≤ s0; omega, by show s1 ≤ hi; omega, by show s0 ≤ s1; omega⟩⟩
        · exact ⟨.lst s0, e, gp_lst m0, ⟨by show lo ≤ s0; omega, by show s0 ≤ hi; omega, Int.le_refl _⟩⟩
        · exact ⟨.num s1, e, gp_num m1, ⟨by show lo ≤ s1; omega, by show s1 ≤ hi; omega, Int.le_refl _⟩⟩
      refine ⟨by omega, ps ++ [p], false, addp p g v (Or.inl rfl), by simp, lap_le l2 (by omega), t2, t3, t4, some (.int lo), some (.int hi), some (.lst [.int s0, .int s1]), t10, t11, by simp⟩
end
end DL

set_option maxHeartbeats 2000000
namespace DL
open PySem PySem.Spec PyProof.Rows L2
variable [TabT]
section
variable {w : Wl} {b : Nat} {bs : List (Int × Int)} {ps : List Pk}
def HdW (bs : List (Int × Int)) (b : Nat) (d : D) (w' : Wl) : Prop := HdP bs d ∧ Lap (b + 40) w'
def HdJ (bs : List (Int × Int)) (b i : Nat) (s : Sl) (w' : Wl) : Prop := ∃ ps fr, HdI (bs.take i) ps fr ∧ ps.length = i ∧ Lap (b + 1 + 4 * i) w' ∧ HdS bs ps fr s
/-- the loop over the bounds -/
theorem hand_loop (h : Bw bs) (hn : ∀ d ∈ bs, Sm d.1 ∧ Sm d.2) (hpos : ∀ d ∈ bs, 0 < ext d) (hb : b < 1001500) {s : Sl} (hs : HdJ bs b 0 s w) :
    okS (sFor (iSeq (eVar 1)) (gT (gCons' (gN 7) (gCons' (gN 8) gNil')) 2) (sSeq (sAsg 9 spotE) pickB) s w) (HdJ bs b bs.length) (HdW bs b) := by
  have h7 := h.few
  have hseq : seqD (bD bs) = some (true, bs.map pD) := rfl
  have h0 := hs
  obtain ⟨ps, fr, hI, hl, l0, t2, t3, t4, t7, t8, t9, t10, t11, rfl⟩ := hs
  simp -implicitDefEqProofs only [okS_for, okI_seq, okE_var, getS_succ, getS_bD, hseq, okO_some]
  refine okS_loop0 (fun i s w' => HdJ bs b i s w') h0 ?_ ?_
  · rintro i d s w1 hd ⟨ps, fr, hI, hl, l1, t2, t3, t4, t7, t8, t9, t10, t11, rfl⟩
    rw [List.getElem?_map] at hd
    obtain ⟨⟨lo, hi⟩, hp, rfl⟩ := Option.map_eq_some_iff.mp hd
    have hi' : i < bs.length := (List.getElem?_eq_some_iff.mp hp).1
    have hmem := List.mem_of_getElem? hp
    have hsm := hn _ hmem
    have hle : lo ≤ hi := by
      have h1 := hpos _ hmem
      unfold ext at h1
      split at h1
      · rename_i hh
        have hh : hi - lo + 1 > 0 := hh
        omega
      · omega
    unfold pD
    simp only [v_gT, v_gCons, v_gN, v_gNil, okO_some, List.set]
    refine ⟨by simp, ?_⟩
    refine okS_then (SpP bs ps fr lo hi (b + 1 + 4 * i)) ?_ ?_
    · exact okS_mono (spot_turn (t2 := t2) (t3 := t3) (t4 := t4) (t9 := t9) (t10 := t10) (t11 := t11) hsm.1 hsm.2 hle (by omega) l1) (fun _ _ q => q) fun _ _ q => q.elim
    rintro s2 w2 ⟨s0, s1, h01, l2, hL⟩
    refine okS_mono (pick_turn (bs := bs) (cs := bs.take i) hsm.1 hsm.2 h01 (by omega) l2 (by omega) hI hL) ?_ fun _ _ q => q.elim
    rintro s3 w3 ⟨ps', fr', hI', hl', l3, hS⟩
    refine ⟨ps', fr', ?_, by omega, lap_le l3 (by omega), hS⟩
    rw [List.take_add_one, hp]
    exact hI'
  · intro s w1 hJ
    rw [List.length_map] at hJ
    exact hJ
theorem e_hand (h : Bw bs) (hn : ∀ d ∈ bs, Sm d.1 ∧ Sm d.2) (hP : prod (bs.map ext) ≤ 1000) (hb : b < 1001500) (hw : Lap b w) : okE (F_w_hand [.well, bD bs] w) (HdW bs b) := by
  have hlim : lim = 16000000 := rfl
  have hl0 : (0 : Nat) ≤ lim := by decide
  have hl2 : (2 : Nat) ≤ lim := by decide
  have h7 := h.few
  have hsz := fun w => e_w_size (w := w) h
  have hp0 : 0 ≤ prod (bs.map ext) := (prod_small (exts_small h)).1
  obtain ⟨S, hS⟩ : ∃ S : Nat, (S : Int) = prod (bs.map ext) := ⟨(prod (bs.map ext)).toNat, by omega⟩
  have hrg : rgOk 0 (prod (bs.map ext)) := by
    unfold rgOk
    omega
  have e2 : (prod (bs.map ext)).toNat = S := by omega
  unfold F_w_hand
  rw [okE_run]
  refine ⟨rfl, ?_⟩
  show okS (B_w_hand [some .well, some (bD bs), none, none, none, none, none, none, none, none, none, none] w) _ _
  unfold B_w_hand
  refine okS_to (fun s1 w1 => w1 = w ∧ s1 = [some .well, some (bD bs), some (.lst (upTo 0 S)), none, none, none, none, none, none, none, none, none]) ?_ ?_
  · intro M' hM'
    simp -implicitDefEqProofs [okE_rg1, hsz, hrg, e2]
    exact hM' _ _ ⟨rfl, rfl⟩
  rintro _ w1 ⟨rfl, rfl⟩
  refine okS_to (fun s1 w2 => ∃ k : Int, (0 ≤ k ∧ k < 4) ∧ Lap (b + 1) w2 ∧ s1 = [some .well, some (bD bs), some (.lst (upTo 0 S)), some (.int k), none, none, none, none, none, none, none, none]) ?_ ?_
  · intro M' hM'
    simp -implicitDefEqProofs
    exact draw hw (by decide) (by decide) (by omega) fun k w2 k0 k1 l2 => hM' _ _ ⟨k, ⟨k0, k1⟩, l2, rfl⟩
  rintro _ w2 ⟨k, hk, l2, rfl⟩
  refine okS_to (fun s1 w3 => w3 = w2 ∧ S ≠ 0 ∧ s1 = [some .well, some (bD bs), some (.lst (upTo 0 S)), some (.int k), none, none, none, none, none, none, none, none]) ?_ ?_
  · intro M' hM'
    have hw1 : HdW bs b (.tup [.str "whole", .lst (upTo 0 S)]) w2 := ⟨Or.inl (by rw [← hS, Int.toNat_natCast]), lap_le l2 (by omega)⟩
    simp -implicitDefEqProofs [okD_up, okD_nil0, eqD_up_nil, hl0, hl2]
    by_cases hk0 : k = 0
    · rw [if_pos hk0]
      exact hw1
    · rw [if_neg hk0]
      by_cases hS0 : S = 0
      · rw [if_pos hS0]
        exact hw1
      · rw [if_neg hS0]
        exact hM' _ _ ⟨rfl, hS0, rfl⟩
  rintro _ w3 ⟨rfl, hS0, rfl⟩
  have hpos := exts_pos (bs := bs) (by omega)
  refine okS_to (fun s1 w4 => w4 = w3 ∧ s1 = [some .well, some (bD bs), some (.lst (upTo 0 S)), some (.int k), none, none, none, none, none, none, none, none]) ?_ ?_
  · intro M' hM'
    have hlen : (upTo 0 S).length = S := by simp [upTo]
    simp -implicitDefEqProofs [hl2, hlen]
    by_cases hk3 : k < 3
    · rw [if_pos hk3]
      refine draw l2 (by omega) (by have := p100; omega) (by omega) fun n w5 n0 n1 l5 => ?_
      have he := elem_el (bs := bs) (n := n) hpos
      have hone := fun w => e_w_one_of (w := w) h (fun p hp => by have := hpos p hp; omega) n
      have hpl := fun w => e_w_place (w := w) h he
      have hpe := place_elem (bs := bs) hpos n0 (by omega)
      rw [hpe] at hpl
      simp -implicitDefEqProofs [hone, hpl]
      obtain ⟨m, rfl⟩ := Int.eq_ofNat_of_zero_le n0
      rw [cut_up (by omega)]
      refine ⟨Or.inr (Or.inl ⟨_, he, ?_⟩), lap_le l5 (by omega)⟩
      rw [hpe, ← hS]
      have : S - m = ((S : Int) - (m : Int)).toNat := by omega
      rw [this]
      rfl
    · rw [if_neg hk3]
      exact hM' _ _ ⟨rfl, rfl⟩
  rintro _ w4 ⟨rfl, rfl⟩
  refine okS_to (fun s1 w5 => w5 = w4 ∧ HdJ bs b 0 s1 w5) ?_ ?_
  · intro M' hM'
    simp -implicitDefEqProofs [hl0]
    exact hM' _ _ ⟨rfl, [], true, ⟨fun _ => trivial, fun e => (by cases e), by simp⟩, rfl, l2, _, _, _, _, _, _, _, _, rfl⟩
  rintro s5 w5 ⟨rfl, hJ⟩
  refine okS_then (HdJ bs b bs.length) (hand_loop h hn hpos hb hJ) ?_
  rintro s6 w6 ⟨ps, fr, hI, hl, l6, hS6⟩
  rw [List.take_length] at hI
  refine okS_mono (hand_end h hI.cg hI.2.2 hP hS6) (fun _ _ q => q.elim) ?_
  rintro d w7 ⟨rfl, hd⟩
  exact ⟨hd, lap_le l6 (by omega)⟩
end
end DL

set_option maxHeartbeats 2000000
namespace DL
open PySem PySem.Spec PyProof.Rows L2
variable [TabT]
section
variable {w : Wl} {b : Nat} {bs : List (Int × Int)} {ps : List Pk} {many : Int}
theorem lay_pk (p : Pk) : PyData.canLay0 (toPD p.toD) = true ∧ PyData.depth (toPD p.toD) ≤ 1 := by
  cases p <;> simp [Pk.toD, tD, toPD, toPDs, PyData.canLay0, PyData.depth, PyData.canLayAll0, PyData.depthAll]
theorem lay_pks : ∀ ps : List Pk, PyData.canLayAll0 (toPDs (ps.map Pk.toD)) = true ∧ PyData.depthAll (toPDs (ps.map Pk.toD)) ≤ 1
  | [] => by simp [toPDs, PyData.canLayAll0, PyData.depthAll]
  | p :: ps => by
    have h1 := lay_pks ps
    have h2 := lay_pk p
    simp [toPDs, PyData.canLayAll0, PyData.depthAll, h2]
    exact ⟨h1.1, by omega⟩
def secH (ps : List Pk) : D := .tup [.str "section", secD ps]
theorem lay_sec : (toPD (secD ps)).canLay0 = true ∧ (toPD (secD ps)).depth ≤ 60 := by
  have h := lay_pks ps
  simp [secD, toPD, PyData.canLay0, PyData.depth, h.1]
  omega
@[simp] theorem okD_sec : okD (secH ps) = true := okD_hand okD_section lay_sec
theorem eq_sw : (("section" : Str) == ("from" : Str)) = false := by decide
theorem eq_ww : (("whole" : Str) == ("whole" : Str)) = true := by decide
theorem eq_ff : (("from" : Str) == ("from" : Str)) = true := by decide
/-- what is handed on next: a part, and the numbers of its places -/
def NxP (bs : List (Int × Int)) (many : Int) (d : D) : Prop :=
  (d = .tup [.str "whole", .lst (upTo 0 many.toNat)]) ∨
  (∃ xs, El bs xs ∧ d = .tup [fromD xs, .lst (upTo (place bs xs) (many - place bs xs).toNat)]) ∨
  (∃ ps, Cg bs ps ∧ (∀ p ∈ ps, Gp p) ∧ d = .tup [secH ps, .lst (upTo (place bs (firsts ps)) (tot ps).toNat)])
def NxW (bs : List (Int × Int)) (many : Int) (b : Nat) (d : D) (w' : Wl) : Prop := NxP bs many d ∧ Lap (b + 40) w'
end
end DL

set_option maxHeartbeats 2000000
namespace DL
open PySem PySem.Spec PyProof.Rows L2
variable [TabT]
section
variable {w : Wl} {b : Nat} {ds bs here : List (Int × Int)} {ps : List Pk} {many low hi hi2 : Int} {hdr d x : D}
theorem place_last : ∀ {ds : List (Int × Int)} {xs : List Int}, place (ds ++ [(low, hi)]) xs = place (ds ++ [(low, hi2)]) xs
  | [], [] => rfl
  | [], x :: xs => by
    show x - low + ext (low, hi) * place [] xs = x - low + ext (low, hi2) * place [] xs
    have : place [] xs = 0 := by cases xs <;> rfl
    rw [this, Int.mul_zero, Int.mul_zero]
  | p :: ds, [] => rfl
  | p :: ds, x :: xs => by
    show x - p.1 + ext p * place (ds ++ [(low, hi)]) xs = x - p.1 + ext p * place (ds ++ [(low, hi2)]) xs
    rw [place_last]
theorem El.last : ∀ {ds : List (Int × Int)} {xs : List Int}, El (ds ++ [(low, hi)]) xs → hi ≤ hi2 → El (ds ++ [(low, hi2)]) xs
  | [], [x], ⟨h, _⟩, hl => ⟨⟨h.1, by have : x ≤ hi := h.2; show x ≤ hi2; omega⟩, trivial⟩
  | [], [], h, _ => h.elim
  | [], _ :: _ :: _, ⟨_, h⟩, _ => h.elim
  | p :: ds, [], h, _ => h.elim
  | p :: ds, x :: xs, ⟨h1, h⟩, hl => ⟨h1, h.last hl⟩
/-- who holds: an array or a dummy, and so many places -/
structure Hold (here : List (Int × Int)) (hdr : D) (many : Int) : Prop where
  ex : ∃ ds low x hi, hdr = .tup [lastB ds low x, .int many] ∧ here = ds ++ [(low, hi)] ∧ (0 < prod (here.map ext) → hi = low + (many.fdiv (mx (prod (ds.map ext))) + 0) - 1)
  bw : Bw here
  near : ∀ d ∈ here, Sm d.1 ∧ Sm d.2
  m0 : 0 ≤ many
  m1 : many ≤ 1000
  sz : prod (here.map ext) ≤ many
theorem Bw.init (h : Bw (ds ++ [(low, hi)])) : Bw ds := ⟨by have := h.few; rw [List.length_append] at this; omega, fun p hp => h.near p (List.mem_append_left _ hp)⟩
theorem e_section_part (h : Bw (ds ++ [(low, hi)])) (he : hi = low + (many.fdiv (mx (prod (ds.map ext))) + 0) - 1) (hc : Cg (ds ++ [(low, hi)]) ps) (hg : ∀ p ∈ ps, Gp p) : F_part_handed [.tup [lastB ds low x, .int many], secH ps] w = .ok (eD [place (ds ++ [(low, hi)]) (firsts ps), tot ps]) w := by
  apply okE_eq
  have hlim : lim = 16000000 := rfl
  have hw := e_whole (w := w) (low := low) (many := many) (x := x) h.init
  rw [← he] at hw
  have hs := e_section_pk (w := w) h hc hg
  have en : ∀ c : Str, eqD (secH ps) (.str c) = false := fun c => eqD_tupstr
  have ess : (("section" : Str) == ("section" : Str)) = true := by decide
  have g0 : ∀ s, getS (some (secH ps) :: s) 0 = some (secH ps) := fun s => rfl
  simp -implicitDefEqProofs [F_part_handed, B_part_handed, okE_run, List.replicate, g0, en]
  unfold secH
  simp -implicitDefEqProofs [ess, hw]
  rw [hs]
  exact ⟨rfl, rfl⟩
theorem tot_room (hc : Cg here ps) : place here (firsts ps) + tot ps ≤ prod (here.map ext) := by
  have ht := tot_pos hc
  have hp := hc.places
  have hm : place here (firsts ps) + (((tot ps).toNat - 1 : Nat) : Int) ∈ (els ps).map (place here) := by
    rw [hp]
    exact List.mem_map_of_mem (f := fun k : Nat => place here (firsts ps) + (k : Int)) (List.mem_range.mpr (by omega))
  obtain ⟨row, hr, e⟩ := List.mem_map.mp hm
  have := place_range (els_el hc row hr)
  omega
/-- the part of a hand, as the program sees it -/
theorem part_hold (H : Hold here hdr many) (hN : NxP here many d) : ∃ (hd : D) (f m : Int), d = .tup [hd, .lst (upTo f m.toNat)] ∧ Sees hd ∧ (0 ≤ f ∧ 0 ≤ m ∧ f + m ≤ many ∧ (m = 0 → f = 0)) ∧ ∀ w, F_part_handed [hdr, hd] w = .ok (eD [f, m]) w := by
  obtain ⟨ds, low, x, hi, rfl, rfl, he⟩ := H.ex
  have m0 := H.m0
  rcases hN with rfl | ⟨xs, hx, rfl⟩ | ⟨ps, hc, hg, rfl⟩
  · exact ⟨_, 0, many, rfl, sees_str, by omega, fun w => e_whole_part _⟩
  · have hr := place_range hx
    have hs := H.sz
    have hhi := he (by omega)
    have hle : hi ≤ low + (many.fdiv (mx (prod (ds.map ext))) + 1) - 1 := by omega
    have hbr : Bw (rowsB ds low many) := by
      refine ⟨by have := H.bw.few; unfold rowsB; simpa using this, fun p hp => ?_⟩
      rcases List.mem_append.mp hp with h | h
      · exact H.bw.near p (List.mem_append_left _ h)
      · have e := List.mem_singleton.mp h
        subst e
        have hn := H.near (low, hi) (List.mem_append_right _ List.mem_cons_self)
        unfold Sm at hn
        dsimp only at hn ⊢
        omega
    have hpl : place (ds ++ [(low, hi)]) xs = place (rowsB ds low many) xs := place_last
    refine ⟨_, place (ds ++ [(low, hi)]) xs, many - place (ds ++ [(low, hi)]) xs, rfl, sees_tup, by omega, fun w => ?_⟩
    rw [hpl]
    exact e_from H.bw.init hbr (hx.last hle) (by rw [← hpl]; omega)
  · have ht := tot_pos hc
    have hr := tot_room hc
    have hs := H.sz
    have hf := place_range hc.el
    exact ⟨_, _, _, rfl, sees_tup, by omega, fun w => e_section_part H.bw (he (by omega)) hc hg⟩
end
end DL

set_option maxHeartbeats 2000000
namespace DL
open PySem PySem.Spec PyProof.Rows L2
variable [TabT]
section
variable {w : Wl} {b : Nat} {bs : List (Int × Int)} {rows : List (D × D)} {q m : Int}
def handD (t : D × D) : D := .tup [t.1, t.2]
/-- a chain of hands, from holder to holder -/
def Chn : D → List (D × D) → Int → D → Prop
  | h, [], q, h' => q = 0 ∧ h' = h
  | h, t :: r, q, h' => Sees t.1 ∧ Sees t.2 ∧ ∃ (f : Int) (h1 : D), (∀ w, F_received [h, t.1, t.2] w = .ok (.tup [.int f, h1]) w) ∧ Sees h1 ∧ (0 ≤ f ∧ f ≤ 1000) ∧ ∃ q', Chn h1 r q' h' ∧ q = f + q'
theorem Chn.snoc {t : D × D} {f : Int} {h2 : D} (g1 : Sees t.1) (g2 : Sees t.2) (h3 : Sees h2) (hf : 0 ≤ f ∧ f ≤ 1000) : ∀ {r : List (D × D)} {q : Int} {h h1 : D}, Chn h r q h1 → (∀ w, F_received [h1, t.1, t.2] w = .ok (.tup [.int f, h2]) w) → Chn h (r ++ [t]) (q + f) h2
  | [], q, h, h1, ⟨e1, e2⟩, hr => by
    subst e1 e2
    exact ⟨g1, g2, f, h2, hr, h3, hf, 0, ⟨rfl, rfl⟩, by omega⟩
  | u :: r, q, h, h1, ⟨k1, k2, f1, h1', hr1, k3, hf1, q', hc, e⟩, hr => ⟨k1, k2, f1, h1', hr1, k3, hf1, q' + f, hc.snoc g1 g2 h3 hf hr, by omega⟩
theorem Chn.q0 : ∀ {r : List (D × D)} {q : Int} {h h1 : D}, Chn h r q h1 → 0 ≤ q ∧ q ≤ 1000 * r.length
  | [], q, h, h1, ⟨e, _⟩ => by subst e; exact ⟨Int.le_refl _, Int.le_refl _⟩
  | u :: r, q, h, h1, ⟨_, _, f, h2, _, _, hf, q', hc, e⟩ => by
    have := hc.q0
    rw [List.length_cons]
    omega
def HOn (A B : D) (h : D) (q : Int) (s : Sl) : Prop := ∃ t4 t5 t6 t7, s = [some A, some B, some h, some (.int q), t4, t5, t6, t7]
theorem chain_loop {A B : D} (gA : Sees A) (gB : Sees B) : ∀ (r : List (D × D)) (q0 q : Int) (h h' : D) (s : Sl), Chn h r q h' → Sees h → HOn A B h q0 s →
    okS (loopD (gT (gCons' (gN 4) (gCons' (gN 5) gNil')) 2) (sSeq (sTg (gT (gCons' (gN 6) (gCons' (gN 2) gNil')) 2) (eCall 3 F_received (aCons (eVar 2) (aCons (eVar 4) (aCons (eVar 5) aNil))))) (sAsg 3 (eBin fAdd (eVar 3) (eVar 6)))) (r.map handD) s w) (fun s w' => w' = w ∧ HOn A B h' (q0 + q) s) (fun _ _ => False)
  | [], q0, q, h, h', s, ⟨e1, e2⟩, hh, hs => by
    subst e1 e2
    exact ⟨rfl, by rw [Int.add_zero]; exact hs⟩
  | t :: r, q0, q, h, h', s, ⟨g1, g2, f, h1, hr, g3, hf, q', hc, e⟩, hh, ⟨t4, t5, t6, t7, hs⟩ => by
    subst hs
    rw [List.map_cons]
    refine okS_cons ?_
    unfold handD
    simp -implicitDefEqProofs [hh _, g1 _, g2 _, hr]
    have := chain_loop gA gB r (q0 + f) q' h1 h' [some A, some B, some h1, some (.int (q0 + f)), some t.1, some t.2, some (.int f), t7] hc g3 ⟨_, _, _, _, rfl⟩
    rw [show q0 + q = q0 + f + q' by omega]
    exact this
theorem v_all1 {n : Nat} : fAll w [.lst (List.replicate n (.bl true))] = some (.bl true) := by
  have : List.replicate n (D.bl true) = (List.replicate n true).map D.bl := by simp
  rw [this, v_all]
  simp
end
end DL

set_option maxHeartbeats 2000000
namespace DL
open PySem PySem.Spec PyProof.Rows L2
variable [TabT]
/-! ### loops with a break deep in the body -/
/-- like okS, with a word for a break -/
def okK (r : RS) (N : Sl → Wl → Prop) (Z : D → Wl → Prop) (K : Sl → Wl → Prop) : Prop := match r with
  | .nx s w => N s w
  | .rt d w => Z d w
  | .bk s w => K s w
  | _ => False
section
variable {s : Sl} {w : Wl} {N K : Sl → Wl → Prop} {Z : D → Wl → Prop} {U V : DS} {T : DT}
theorem okK_S {r : RS} (h : okS r N Z) : okK r N Z K := by
  cases r <;> first | exact h | exact h.elim
theorem okK_seq (h : okK (U s w) (fun s1 w1 => okK (V s1 w1) N Z K) Z K) : okK (sSeq U V s w) N Z K := by
  unfold sSeq
  cases e : U s w <;> rw [e] at h <;> first | exact h | exact h.elim
theorem okK_then (M : Sl → Wl → Prop) (h : okS (U s w) M Z) (q : ∀ s1 w1, M s1 w1 → okK (V s1 w1) N Z K) : okK (sSeq U V s w) N Z K := by
  refine okK_seq ?_
  cases e : U s w <;> rw [e] at h <;> first | exact q _ _ h | exact h | exact h.elim
theorem okK_to (M : Sl → Wl → Prop) (h : ∀ M' : Sl → Wl → Prop, (∀ s1 w1, M s1 w1 → M' s1 w1) → okS (U s w) M' Z) (q : ∀ s1 w1, M s1 w1 → okK (V s1 w1) N Z K) : okK (sSeq U V s w) N Z K := okK_then M (h M fun _ _ z => z) q
theorem okK_brk (h : okE (T s w) fun k w1 => if k = true then K s w1 else okK (V s w1) N Z K) : okK (sSeq (sIf T sBrk sNx) V s w) N Z K := by
  refine okK_seq ?_
  unfold sIf
  cases e : T s w with
  | no => rw [e] at h; exact h.elim
  | er _ _ => rw [e] at h; exact h.elim
  | ok k w1 =>
    rw [e] at h
    simp only [okE_ok] at h
    cases k with
    | true => rw [if_pos rfl] at h; exact h
    | false => rw [if_neg (by simp)] at h; exact h
theorem okS_loopK {G : DG} (I : Nat → Sl → Wl → Prop) : ∀ {ds : List D} {s : Sl} {w : Wl} (m : Nat), I m s w →
    (∀ i d s w, ds[i]? = some d → I (m + i) s w → okO (G d s) fun s1 => okK (U s1 w) (I (m + i + 1)) Z N) → (∀ s w, I (m + ds.length) s w → N s w) → okS (loopD G U ds s w) N Z
  | [], s, w, m, h0, _, he => he s w h0
  | d :: ds, s, w, m, h0, hs, he => by
    have h1 := hs 0 d s w rfl h0
    unfold loopD
    cases e : G d s with
    | none => rw [e] at h1; exact h1.elim
    | some s1 =>
      rw [e] at h1
      simp only [okO_some] at h1
      dsimp only
      cases e2 : U s1 w with
      | nx s2 w2 =>
        rw [e2] at h1
        exact okS_loopK I (m + 1) h1 (fun i d' s' w' hd hI => by
          have := hs (i + 1) d' s' w' (by simpa using hd) (by rw [show m + (i + 1) = m + 1 + i by omega]; exact hI)
          rw [show m + (i + 1) + 1 = m + 1 + i + 1 by omega] at this
          exact this) (fun s' w' hI => he s' w' (by rw [List.length_cons, show m + (ds.length + 1) = m + 1 + ds.length by omega]; exact hI))
      | rt d' w2 => rw [e2] at h1; exact h1
      | bk s2 w2 => rw [e2] at h1; exact h1
      | ct _ _ => rw [e2] at h1; exact h1.elim
      | er _ _ _ => rw [e2] at h1; exact h1.elim
      | no => rw [e2] at h1; exact h1.elim
end
/-! ### the places, cut and picked -/
theorem at_up {q j : Int} {n : Nat} (h0 : 0 ≤ j) (h1 : j < n) : atI (upTo q n) j = some (.int (q + j)) := by
  obtain ⟨i, rfl⟩ := Int.eq_ofNat_of_zero_le h0
  refine atI_nat ?_
  unfold upTo
  rw [List.getElem?_map, List.getElem?_range (by omega)]
  rfl
theorem cut_up_to {q : Int} {n k : Nat} (h : k ≤ n) : cutD (upTo q n) none (some (k : Int)) = upTo q k := by
  have hl : (upTo q n).length = n := by simp [upTo]
  unfold cutD
  rw [HT.sIx_none, hl, HT.sIx_nat, Nat.min_eq_left h, List.drop_zero, Nat.sub_zero]
  apply List.ext_getElem
  · rw [List.length_take, hl]; simp [upTo]; omega
  · intro i h1 h2
    rw [List.getElem_take]
    simp [upTo]
end DL

set_option maxHeartbeats 2000000
namespace DL
open PySem PySem.Spec PyProof.Rows L2
variable [TabT]
section
variable {w : Wl} {b : Nat} {ds bs here : List (Int × Int)} {m low hi f q : Int} {hdr hd x : D}
theorem prod_snoc : prod ((ds ++ [(low, hi)]).map ext) = prod (ds.map ext) * ext (low, hi) := by
  rw [List.map_append, prod_append]
  show prod (ds.map ext) * (ext (low, hi) * 1) = _
  rw [Int.mul_one]
theorem mx_pos {n : Int} (h : 0 < n) : mx n = n := by unfold mx; split <;> omega
theorem prod_nn : ∀ ds : List (Int × Int), 0 ≤ prod (ds.map ext)
  | [] => by decide
  | d :: ds => Int.mul_nonneg (ext_nn d) (prod_nn ds)
theorem fst_pos {a c : Int} (ha : 0 ≤ a) (hc : 0 ≤ c) (h : 0 < a * c) : 0 < a ∧ 0 < c := by
  refine ⟨?_, ?_⟩
  · rcases Int.lt_or_eq_of_le ha with h1 | h1
    · exact h1
    · rw [← h1, Int.zero_mul] at h; omega
  · rcases Int.lt_or_eq_of_le hc with h1 | h1
    · exact h1
    · rw [← h1, Int.mul_zero] at h; omega
theorem closed_hi (h : 0 < prod ((ds ++ [(low, hi)]).map ext)) : hi = low + ((prod ((ds ++ [(low, hi)]).map ext)).fdiv (mx (prod (ds.map ext))) + 0) - 1 := by
  rw [prod_snoc] at h ⊢
  obtain ⟨h1, h2⟩ := fst_pos (prod_nn ds) (ext_nn _) h
  rw [mx_pos h1, Int.mul_fdiv_cancel_left _ (by omega)]
  unfold ext at h2 ⊢
  split
  · omega
  · rename_i hh; rw [if_neg hh] at h2; omega
theorem Hold.sees (H : Hold here hdr m) : Sees hdr := by
  obtain ⟨ds, low, x, hi, rfl, _, _⟩ := H.ex
  exact sees_tup
theorem sm_bw (h7 : here.length ≤ 7) (h : ∀ d ∈ here, Sm d.1 ∧ Sm d.2) : Bw here := ⟨h7, fun p hp => by
  have := h p hp
  unfold Sm at this
  omega⟩
theorem sm_bds (h1 : 1 ≤ here.length) (h7 : here.length ≤ 7) (h : ∀ d ∈ here, Sm d.1 ∧ Sm d.2) : Bds here := ⟨h1, h7, fun p hp => by
  have := h p hp
  unfold Sm at this
  rw [inR_iff, inR_iff]
  simp only [FAR]
  omega⟩
theorem dm_sm (h : Dm ds) (hl : -2 ≤ low ∧ low ≤ 2) (hh : -100000 ≤ hi ∧ hi ≤ 100000) : ∀ d ∈ ds ++ [(low, hi)], Sm d.1 ∧ Sm d.2 := fun d hd => by
  unfold Sm
  rcases List.mem_append.mp hd with hd | hd
  · have := h.dim d hd
    omega
  · have e := List.mem_singleton.mp hd
    subst e
    dsimp only
    omega
theorem dm_len (h : Dm ds) : 1 ≤ (ds ++ [(low, hi)]).length ∧ (ds ++ [(low, hi)]).length ≤ 7 := by
  have := h.few
  rw [List.length_append]
  show 1 ≤ ds.length + 1 ∧ ds.length + 1 ≤ 7
  omega
theorem next_closed (H : Hold here hdr m) (hp : ∀ w, F_part_handed [hdr, hd] w = .ok (eD [f, q]) w) (g : Sees hd) (hD : Dm ds) (hl : -2 ≤ low ∧ low ≤ 2) (hh : -6 ≤ hi ∧ hi ≤ low + q + 1) (hq : 0 ≤ q ∧ q ≤ 1000) (hs : prod ((ds ++ [(low, hi)]).map ext) ≤ q) :
    Hold (ds ++ [(low, hi)]) (.tup [bD (ds ++ [(low, hi)]), .int (prod ((ds ++ [(low, hi)]).map ext))]) (prod ((ds ++ [(low, hi)]).map ext)) ∧ ∀ w, F_received [hdr, hd, bD (ds ++ [(low, hi)])] w = .ok (.tup [.int f, .tup [bD (ds ++ [(low, hi)]), .int (prod ((ds ++ [(low, hi)]).map ext))]]) w := by
  have hsm := dm_sm hD hl (hi := hi) (by omega)
  have hln := dm_len (low := low) (hi := hi) hD
  refine ⟨⟨⟨ds, low, .int hi, hi, by rw [lastB_int], rfl, closed_hi⟩, sm_bw hln.2 hsm, hsm, prod_nn _, by omega, Int.le_refl _⟩, fun w => ?_⟩
  exact e_received (hp w) (sm_bds hln.1 hln.2 hsm) hs H.sees g
theorem ext_c {c : Int} (h : 0 ≤ c) : ext (low, low + c - 1) = c := by
  unfold ext
  show (if low + c - 1 - low + 1 > 0 then low + c - 1 - low + 1 else 0) = c
  split <;> omega
theorem next_open (H : Hold here hdr m) (hp : ∀ w, F_part_handed [hdr, hd] w = .ok (eD [f, q]) w) (g : Sees hd) (hD : Dm ds) (hl : -2 ≤ low ∧ low ≤ 2) (hq : 0 ≤ q ∧ q ≤ 1000) (hs : 0 < prod (ds.map ext)) :
    Hold (ds ++ [(low, low + q.fdiv (prod (ds.map ext)) - 1)]) (.tup [lastB ds low .non, .int q]) q ∧ ∀ w, F_received [hdr, hd, lastB ds low .non] w = .ok (.tup [.int f, .tup [lastB ds low .non, .int q]]) w := by
  have hf := fdiv_range (a := q) hs hq.1
  have hsm := dm_sm hD hl (hi := low + q.fdiv (prod (ds.map ext)) - 1) (by omega)
  have hsm2 := dm_sm hD hl (hi := low) (by omega)
  have hln := dm_len (low := low) (hi := low + q.fdiv (prod (ds.map ext)) - 1) hD
  have hln2 := dm_len (low := low) (hi := low) hD
  refine ⟨⟨⟨ds, low, .non, _, rfl, rfl, fun _ => by rw [mx_pos hs]; omega⟩, sm_bw hln.2 hsm, hsm, hq.1, hq.2, ?_⟩, fun w => ?_⟩
  · rw [prod_snoc]
    have e : ext (low, low + q.fdiv (prod (ds.map ext)) - 1) = q.fdiv (prod (ds.map ext)) := ext_c hf.1
    rw [e]
    have h1 := Int.fmod_add_mul_fdiv q (prod (ds.map ext))
    have h2 := fmod_range (a := q) hs
    omega
  · exact e_received_open (hp w) (sm_bds hln2.1 hln2.2 hsm2) H.sees g
theorem nb_prod : ∀ {bs : List (Int × Int)}, (∀ p ∈ bs, -100 ≤ p.1 ∧ p.1 ≤ 100 ∧ -100 ≤ p.2 ∧ p.2 ≤ p.1 + 4) → prod (bs.map ext) ≤ 5 ^ bs.length
  | [], _ => by decide
  | d :: ds, h => by
    have ih := nb_prod fun p hp => h p (List.mem_cons_of_mem _ hp)
    have h1 := h d List.mem_cons_self
    have e : ext d ≤ 5 := by unfold ext; split <;> omega
    rw [List.length_cons, Int.pow_succ, Int.mul_comm _ (5 : Int)]
    exact Int.mul_le_mul e ih (prod_nn ds) (by decide)
theorem Nb.sm (h : Nb bs) : ∀ d ∈ bs, Sm d.1 ∧ Sm d.2 := fun d hd => by
  have := h.dim d hd
  unfold Sm
  omega
theorem Nb.bds (h : Nb bs) : Bds bs := sm_bds h.one (by have := h.few; omega) h.sm
theorem Nb.sz (h : Nb bs) : prod (bs.map ext) ≤ 125 := by
  refine Int.le_trans (nb_prod h.dim) ?_
  have := Nat.pow_le_pow_right (n := 5) (by decide) h.few
  exact_mod_cast this
theorem hold0 (h : Nb bs) : Hold bs (.tup [bD bs, .int (prod (bs.map ext))]) (prod (bs.map ext)) := by
  have hs := h.sz
  refine ⟨?_, h.bds.wide, h.sm, prod_nn _, by omega, Int.le_refl _⟩
  have hne : bs ≠ [] := List.ne_nil_of_length_pos (by have := h.one; omega)
  obtain ⟨ds, d, rfl⟩ : ∃ ds d, bs = ds ++ [d] := ⟨bs.dropLast, bs.getLast hne, (List.dropLast_concat_getLast hne).symm⟩
  obtain ⟨low, hi⟩ := d
  exact ⟨ds, low, .int hi, hi, by rw [lastB_int], rfl, closed_hi⟩
theorem part_from {xs : List Int} (H : Hold here hdr m) (hx : El here xs) (w : Wl) : F_part_handed [hdr, fromD xs] w = .ok (eD [place here xs, m - place here xs]) w := by
  obtain ⟨ds, low, x, hi, rfl, rfl, he⟩ := H.ex
  have hr := place_range hx
  have hs := H.sz
  have m0 := H.m0
  have hhi := he (by omega)
  have hle : hi ≤ low + (m.fdiv (mx (prod (ds.map ext))) + 1) - 1 := by omega
  have hbr : Bw (rowsB ds low m) := by
    refine ⟨by have := H.bw.few; unfold rowsB; simpa using this, fun p hp => ?_⟩
    rcases List.mem_append.mp hp with h | h
    · exact H.bw.near p (List.mem_append_left _ h)
    · have e := List.mem_singleton.mp h
      subst e
      have hn := H.near (low, hi) (List.mem_append_right _ List.mem_cons_self)
      unfold Sm at hn
      dsimp only at hn ⊢
      omega
  have hpl : place (ds ++ [(low, hi)]) xs = place (rowsB ds low m) xs := place_last
  rw [hpl]
  exact e_from H.bw.init hbr (hx.last hle) (by rw [← hpl]; omega)
end
end DL

set_option maxHeartbeats 2000000
namespace DL
open PySem PySem.Spec PyProof.Rows L2
variable [TabT]
section
variable {ds : List (Int × Int)} {low : Int}
/-! ### elements by their number -/
theorem whole_rest {p : Int × Int} {Q i j : Int} : ext p * Q * i + j = j + ext p * (Q * i) := by rw [Int.mul_assoc, Int.add_comm]
/-- whole turns ahead of a number change nothing -/
theorem elem_turn : ∀ {bs : List (Int × Int)} {i j : Int}, (∀ d ∈ bs, 0 < ext d) → elem bs (prod (bs.map ext) * i + j) = elem bs j
  | [], _, _, _ => rfl
  | p :: bs, i, j, h => by
    have hp := h p List.mem_cons_self
    have ih := elem_turn (i := i) (j := j.fdiv (ext p)) fun d hd => h d (List.mem_cons_of_mem _ hd)
    have e : prod ((p :: bs).map ext) * i + j = j + ext p * (prod (bs.map ext) * i) := whole_rest
    rw [e]
    show (p.1 + (j + ext p * (prod (bs.map ext) * i)).fmod (ext p)) :: elem bs ((j + ext p * (prod (bs.map ext) * i)).fdiv (ext p)) = (p.1 + j.fmod (ext p)) :: elem bs (j.fdiv (ext p))
    rw [Int.add_mul_fmod_self_left, Int.add_mul_fdiv_left _ _ (by omega), Int.add_comm (j.fdiv (ext p)), ih]
/-- what is left of a number behind all dimensions -/
theorem rest_turn : ∀ {bs : List (Int × Int)} {i j : Int}, (∀ d ∈ bs, 0 < ext d) → 0 ≤ j → j < prod (bs.map ext) → rest bs (prod (bs.map ext) * i + j) = i
  | [], i, j, _, h0, h1 => by
    have h1 : j < 1 := h1
    show 1 * i + j = i
    omega
  | p :: bs, i, j, h, h0, h1 => by
    have hp := h p List.mem_cons_self
    have h1 : j < ext p * prod (bs.map ext) := h1
    have hq : j.fdiv (ext p) < prod (bs.map ext) := by
      rw [Int.fdiv_eq_ediv_of_nonneg _ (by omega)]
      exact Int.ediv_lt_of_lt_mul hp (by rw [Int.mul_comm]; exact h1)
    have ih := rest_turn (i := i) (fun d hd => h d (List.mem_cons_of_mem _ hd)) (fdiv_range hp h0).1 hq
    have e : prod ((p :: bs).map ext) * i + j = j + ext p * (prod (bs.map ext) * i) := whole_rest
    rw [e]
    show rest bs ((j + ext p * (prod (bs.map ext) * i)).fdiv (ext p)) = i
    rw [Int.add_mul_fdiv_left _ _ (by omega), Int.add_comm (j.fdiv (ext p)), ih]
/-- the rows ahead are the elements in their order -/
theorem ahd_elem : ∀ {ds : List (Int × Int)}, (∀ d ∈ ds, 0 < ext d) → ahd ds = (List.range (prod (ds.map ext)).toNat).map fun k => elem ds (k : Nat)
  | [], _ => rfl
  | d :: ds, h => by
    have hd := h d List.mem_cons_self
    have ih := ahd_elem fun c hc => h c (List.mem_cons_of_mem _ hc)
    have hE : (d.2 + 1 - d.1).toNat = (ext d).toNat := by
      unfold ext
      split <;> omega
    have hf := flat_range (fun n => elem (d :: ds) (n : Nat)) (ext d).toNat (prod (ds.map ext)).toNat
    have hm : (prod (ds.map ext)).toNat * (ext d).toNat = (prod ((d :: ds).map ext)).toNat := by
      have h0 : 0 ≤ prod (ds.map ext) := by
        rcases (by omega : 0 ≤ prod (ds.map ext) ∨ prod (ds.map ext) < 0) with z | z
        · exact z
        · exfalso
          have : ∀ ns : List Int, (∀ n ∈ ns, 0 < n) → 0 ≤ prod ns := by
            intro ns
            induction ns with
            | nil => intro _; decide
            | cons a r ih => exact fun q => Int.mul_nonneg (Int.le_of_lt (q a List.mem_cons_self)) (ih fun n hn => q n (List.mem_cons_of_mem _ hn))
          have := this (ds.map ext) fun n hn => by
            obtain ⟨c, hc, rfl⟩ := List.mem_map.mp hn
            exact h c (List.mem_cons_of_mem _ hc)
          omega
      show _ = (ext d * prod (ds.map ext)).toNat
      rw [Int.toNat_mul (by omega) h0, Nat.mul_comm]
    rw [hm] at hf
    rw [← hf]
    show (ahd ds).flatMap (fun row => ((List.range (d.2 + 1 - d.1).toNat).map fun k => d.1 + (k : Nat)).map fun x => x :: row) = _
    rw [ih, hE, List.flatMap_map]
    congr
    funext m
    rw [List.map_map]
    apply List.map_congr_left
    intro j hj
    have hj := List.mem_range.mp hj
    have hf := fmod_at (x := (j : Int)) (e := ext d) (q := (m : Int)) (by omega) (by omega)
    have e : ((m * (ext d).toNat + j : Nat) : Int) = (j : Int) + ext d * (m : Int) := by
      have : (((ext d).toNat : Nat) : Int) = ext d := by omega
      rw [Int.natCast_add, Int.natCast_mul, this, Int.mul_comm, Int.add_comm]
    show (d.1 + (j : Int)) :: elem ds (m : Nat) = (d.1 + (((m * (ext d).toNat + j : Nat) : Int)).fmod (ext d)) :: elem ds (((m * (ext d).toNat + j : Nat) : Int).fdiv (ext d))
    rw [e, hf.1, hf.2]
/-- the element of a dummy at a number -/
def seat (ds : List (Int × Int)) (low k : Int) : List Int := elem ds k ++ [low + rest ds k]
/-- the elements in so many rows -/
def sts (ds : List (Int × Int)) (low : Int) (i : Nat) : List (List Int) := (List.range i).flatMap fun t => (ahd ds).map fun r => r ++ [low + (t : Nat)]
theorem sts_succ {i : Nat} : sts ds low (i + 1) = sts ds low i ++ (ahd ds).map fun r => r ++ [low + (i : Nat)] := by
  unfold sts
  rw [List.range_succ, List.flatMap_append]
  simp
theorem sts_len : ∀ i : Nat, (sts ds low i).length = i * (ahd ds).length
  | 0 => by simp [sts]
  | i + 1 => by rw [sts_succ, List.length_append, sts_len i, List.length_map, Nat.succ_mul]
theorem sts_seat (h : ∀ d ∈ ds, 0 < ext d) (h0 : 0 ≤ prod (ds.map ext)) (i : Nat) : sts ds low i = (List.range (i * (prod (ds.map ext)).toNat)).map fun k => seat ds low (k : Nat) := by
  rw [← flat_range]
  unfold sts
  congr
  funext t
  rw [ahd_elem h, List.map_map]
  apply List.map_congr_left
  intro j hj
  have hj := List.mem_range.mp hj
  have e : ((t * (prod (ds.map ext)).toNat + j : Nat) : Int) = prod (ds.map ext) * (t : Int) + (j : Int) := by
    have : (((prod (ds.map ext)).toNat : Nat) : Int) = prod (ds.map ext) := by omega
    rw [Int.natCast_add, Int.natCast_mul, this, Int.mul_comm]
  unfold seat
  rw [e, elem_turn h, rest_turn h (by omega) (by omega)]
  rfl
/-- so many seats -/
def seatL (ds : List (Int × Int)) (low : Int) (n : Nat) : List (List Int) := (List.range n).map fun k => seat ds low (k : Nat)
theorem sts_take (h : ∀ d ∈ ds, 0 < ext d) (h0 : 0 ≤ prod (ds.map ext)) {i n : Nat} (hn : n ≤ i * (prod (ds.map ext)).toNat) : (sts ds low i).take n = seatL ds low n := by
  rw [sts_seat h h0, ← List.map_take, List.take_range, Nat.min_eq_left hn]
  rfl
theorem rest_div (h : ∀ d ∈ ds, 0 < ext d) (hP : 0 < prod (ds.map ext)) {k : Int} : rest ds k = k.fdiv (prod (ds.map ext)) := by
  have h1 := fmod_range (a := k) hP
  have e := Int.fmod_add_mul_fdiv k (prod (ds.map ext))
  have := rest_turn (i := k.fdiv (prod (ds.map ext))) h h1.1 h1.2
  rw [← this]
  congr 1
  omega
theorem rows_prod {N : Int} (hP : 0 < prod (ds.map ext)) (hN : 0 ≤ N) : ext (low, low + (N.fdiv (mx (prod (ds.map ext))) + 1) - 1) = N.fdiv (prod (ds.map ext)) + 1 ∧ N < prod ((rowsB ds low N).map ext) := by
  have hmx : mx (prod (ds.map ext)) = prod (ds.map ext) := by
    unfold mx
    split <;> omega
  have hq := fdiv_range hP hN
  have he : ext (low, low + (N.fdiv (mx (prod (ds.map ext))) + 1) - 1) = N.fdiv (prod (ds.map ext)) + 1 := by
    rw [hmx]
    generalize N.fdiv (prod (ds.map ext)) = q at *
    show (if low + (q + 1) - 1 - low + 1 > 0 then low + (q + 1) - 1 - low + 1 else 0) = _
    split <;> omega
  refine ⟨he, ?_⟩
  unfold rowsB
  rw [List.map_append, prod_append]
  show N < prod (ds.map ext) * (ext (low, low + (N.fdiv (mx (prod (ds.map ext))) + 1) - 1) * 1)
  rw [he, Int.mul_one, Int.mul_add, Int.mul_one]
  have e := Int.fmod_add_mul_fdiv N (prod (ds.map ext))
  have h1 := fmod_range (a := N) hP
  omega
/-- a seat is the element at its number in the rows -/
theorem seat_elem (h : ∀ d ∈ ds, 0 < ext d) (hP : 0 < prod (ds.map ext)) {k N : Int} (h0 : 0 ≤ k) (hN : k ≤ N) : elem (rowsB ds low N) k = seat ds low k := by
  have hr := (rows_prod (low := low) (N := N) hP (by omega)).1
  unfold rowsB seat
  rw [elem_append]
  show elem ds k ++ [low + (rest ds k).fmod (ext (low, low + (N.fdiv (mx (prod (ds.map ext))) + 1) - 1))] = _
  rw [hr, rest_div h hP]
  have hle : k.fdiv (prod (ds.map ext)) ≤ N.fdiv (prod (ds.map ext)) := by
    rw [Int.fdiv_eq_ediv_of_nonneg _ (by omega), Int.fdiv_eq_ediv_of_nonneg _ (by omega)]
    exact Int.ediv_le_ediv hP hN
  have hk := fdiv_range hP h0
  have := (fmod_at (x := k.fdiv (prod (ds.map ext))) (e := N.fdiv (prod (ds.map ext)) + 1) (q := 0) (by omega) (by omega)).1
  rw [Int.mul_zero, Int.add_zero] at this
  rw [this]
theorem rows_zero (hP : prod (ds.map ext) = 0) {N : Int} : prod ((rowsB ds low N).map ext) = 0 := by
  unfold rowsB
  rw [List.map_append, prod_append, hP, Int.zero_mul]
theorem rows_exts (h : ∀ d ∈ ds, 0 < ext d) (hP : 0 < prod (ds.map ext)) {N : Int} (hN : 0 ≤ N) : ∀ d ∈ rowsB ds low N, 0 < ext d := fun d hd => by
  have hq := fdiv_range hP hN
  rcases List.mem_append.mp hd with z | z
  · exact h d z
  · rw [List.mem_singleton.mp z, (rows_prod hP hN).1]
    omega
theorem ahd_nil (hP : prod (ds.map ext) = 0) (hl : ((ahd ds).length : Int) = prod (ds.map ext)) : ahd ds = [] := List.length_eq_zero_iff.mp (by omega)
end
end DL

set_option maxHeartbeats 2000000
namespace DL
open PySem PySem.Spec PyProof.Rows L2
variable [TabT]
/-! ### the seats, with what they hold -/
section
variable {w : Wl} {b : Nat} {ds : List (Int × Int)} {low : Int} {x : D}
theorem cut_take {α : Type} {l : List α} {g : Int} (h : 0 ≤ g) : cutD l none (some g) = l.take g.toNat := by
  obtain ⟨n, rfl⟩ := Int.eq_ofNat_of_zero_le h
  unfold cutD
  rw [HT.sIx_none, HT.sIx_nat]
  simp
/-- one turn of the loop over the last subscript -/
theorem seat_turn2 {A G : D} {rows : List (List Int)} {F : List D} {here : Int} {s : Sl} {w' : Wl} (hr : ∀ r ∈ rows, r.length ≤ 10) (hE : rows.length ≤ 4096) (hF : F.length ≤ 8000000) (hs : SQ2 A G rows F here s) :
    okS (seatB s w') (fun s1 w1 => w1 = w' ∧ SQ2 A G rows (F ++ rows.map fun r => eD (r ++ [here])) (here + 1) s1) (fun _ _ => False) := by
  obtain ⟨t3, t4, t5, t6, t9, rfl⟩ := hs
  unfold seatB
  have hlim : lim = 16000000 := rfl
  have hl1 : (1 : Nat) ≤ lim := by decide
  have hrow : ∀ (s : Sl), getS (some (rowsD rows) :: s) 0 = some (rowsD rows) := fun s => rfl
  have hseq : seqD (rowsD rows) = some (false, rows.map eD) := rfl
  refine okS_to (fun s1 w1 => w1 = w' ∧ SQ2 A G rows (F ++ rows.map fun r => eD (r ++ [here])) here s1) ?_ ?_
  · intro M' hM'
    simp -implicitDefEqProofs [hrow, hseq]
    refine ⟨by omega, ?_⟩
    refine okE_lcall3 (γ := List Int) eD (fun r => eD (r ++ [here])) rfl (fun r hx => ?_) ?_
    · have ht : ∀ P : D → Prop, okO (fAdd w' (eD r) (.tup [.int here])) P = ((r.map D.int).length + 1 ≤ lim ∧ P (.tup (r.map D.int ++ [.int here]))) := fun P => v_addT
      have := hr r hx
      simp -implicitDefEqProofs [ht, hl1]
      refine ⟨by omega, ?_⟩
      unfold eD
      simp
    · simp -implicitDefEqProofs
      refine ⟨by omega, hM' _ _ ⟨rfl, t3, t4, t5, t6, t9, rfl⟩⟩
  rintro s1 w1 ⟨rfl, t3, t4, t5, t6, t9, rfl⟩
  simp -implicitDefEqProofs
  exact ⟨t3, t4, t5, t6, t9, rfl⟩
theorem sts_map_succ {i : Nat} : (sts ds low i).map eD ++ (ahd ds).map (fun r => eD (r ++ [low + (i : Nat)])) = (sts ds low (i + 1)).map eD := by
  rw [sts_succ, List.map_append, List.map_map]
  rfl
/-- what there is of a dummy of so many places: all its places, or as many as are given -/
def Its (ds : List (Int × Int)) (low g : Int) (x : D) (N : Int) : Prop := (x = .non ∧ N = g) ∨ ∃ hi, x = .int hi ∧ N = prod (ds.map ext) * ext (low, hi) ∧ N ≤ g
theorem dm_exts (h : Dm ds) (hP : 0 < prod (ds.map ext)) : ∀ d ∈ ds, 0 < ext d := exts_pos hP
/-- none that there are too many of, else all seats -/
theorem e_w_seats2 {g : Int} (h : Dm ds) (hg : 0 ≤ g ∧ g ≤ 1000) (hx : x = .non ∨ ∃ hi, x = .int hi ∧ hi ≤ low + g + 1) (hlow : -1000 ≤ low ∧ low ≤ 1000) : okE (F_w_seats [lastB ds low x, .int g] w) fun d w' => w' = w ∧
    (d = .non ∨ ∃ (N : Int) (n : Nat), Its ds low g x N ∧ (0 ≤ N ∧ N ≤ g) ∧ (prod (ds.map ext) = 0 → n = 0) ∧ (0 < prod (ds.map ext) → (n : Int) = N) ∧ d = rowsD (seatL ds low n)) := by
  have hlim : lim = 16000000 := rfl
  have hl0 : (0 : Nat) ≤ lim := by decide
  have hl1 : (1 : Nat) ≤ lim := by decide
  generalize hA : lastB ds low x = A
  have gA : ∀ s : Sl, getS (some A :: s) 0 = some A := fun s => by rw [← hA]; rfl
  have xA : ∀ w, fIx w A (.int (-1)) = some (.tup [.int low, x]) := fun w => by rw [← hA]; exact ix_lastB
  have x0 : ∀ w, fIx w (.tup [.int low, x]) (.int 0) = some (.int low) := fun w => v_ixT.trans at3_0
  have x1 : ∀ w, fIx w (.tup [.int low, x]) (.int 1) = some x := fun w => v_ixT.trans at3_1
  have cA : cutD (ds.map pD ++ [D.tup [.int low, x]]) none (some (-1)) = ds.map pD := cutD_init
  have hEl := ahd_len ds
  have hE4 := h.ahd4096
  have hsz := h.size
  unfold F_w_seats
  rw [okE_run]
  refine ⟨rfl, ?_⟩
  show okS (B_w_seats [some A, some (.int g), none, none, none, none, none, none, none, none] w) _ _
  unfold B_w_seats
  refine okS_to (fun s1 w1 => w1 = w ∧ s1 = [some A, some (.int g), some (rowsD (ahd [])), none, none, none, none, none, none, none]) ?_ ?_
  · intro M' hM'
    simp -implicitDefEqProofs [hl1]
    exact hM' _ _ ⟨rfl, rfl⟩
  rintro _ w1 ⟨rfl, rfl⟩
  refine okS_to (fun s1 w2 => w2 = w1 ∧ DS3 A (.int g) (ahd ds) s1) ?_ ?_
  · intro M' hM'
    have hal := ahead_loop (ds := ds) (A := A) (G := .int g) (w1 := w1) h
    simp only [okS_for, okI_seq, okE_c, seqD_tup, okO_some] at hal
    have hsl : okE (eSl (eVar 0) oNone (oSome (eUn fNeg (eC (.int 1)))) [some A, some (.int g), some (rowsD (ahd [])), none, none, none, none, none, none, none] w1) (fun d w2 => d = .tup (ds.map pD) ∧ w2 = w1) := by
      rw [← hA]
      unfold lastB
      simp [cA]
    have hsl := okE_eq hsl
    simp only [okS_for, okI_seq, okE_rev, hsl, okE_ok, seqD_tup, okO_some]
    exact okS_mono hal (fun s w' hh => hM' _ _ hh) fun _ _ hh => hh.elim
  rintro s1 w1 ⟨rfl, hD⟩
  have hrl : ∀ r ∈ ahd ds, r.length ≤ 10 := fun r hr => by rw [ahd_row hr]; have := h.few; omega
  obtain ⟨rows, hrows⟩ : ∃ rows, rows = ahd ds := ⟨_, rfl⟩
  rw [← hrows] at hD hEl hE4 hrl
  obtain ⟨SL, hSL⟩ : ∃ SL : Nat → List D, ∀ i, SL i = (sts ds low i).map eD := ⟨_, fun _ => rfl⟩
  have hSn : ∀ i : Nat, SL i ++ rows.map (fun r => eD (r ++ [low + (i : Nat)])) = SL (i + 1) := fun i => by rw [hSL, hSL, hrows]; exact sts_map_succ
  have hSlen : ∀ i : Nat, (SL i).length = i * rows.length := fun i => by rw [hSL, List.length_map, sts_len, hrows]
  have hS0 : SL 0 = [] := by rw [hSL]; rfl
  have hStake : ∀ i n : Nat, (0 < prod (ds.map ext) → n ≤ i * rows.length) → (prod (ds.map ext) = 0 → n = 0) → (SL i).take n = (seatL ds low n).map eD := fun i n h1 h2 => by
    rcases (by omega : prod (ds.map ext) = 0 ∨ 0 < prod (ds.map ext)) with z | z
    · rw [h2 z]
      simp [seatL]
    · rw [hSL, ← List.map_take, sts_take (dm_exts h z) (by omega)]
      have := h1 z
      have e : (prod (ds.map ext)).toNat = rows.length := by omega
      rw [e]
      exact this
  generalize hPg : prod (ds.map ext) = P at *
  have grow : ∀ (s : Sl), getS (some (rowsD rows) :: s) 0 = some (rowsD rows) := fun s => rfl
  refine okS_to (fun s1 w2 => w2 = w1 ∧ SQ2 A (.int g) rows [] low s1) ?_ ?_
  · intro M' hM'
    obtain ⟨t3, t4, t5, t6, t7, t8, t9, rfl⟩ := hD
    simp -implicitDefEqProofs [gA, xA, x0, hl0]
    exact hM' _ _ ⟨rfl, t3, t4, t5, t6, t9, rfl⟩
  rintro s1 w1 ⟨rfl, hS⟩
  have isn : ∀ (w : Wl) (i : Int), fIsN w (.int i) .non = some (.bl false) := fun _ _ => rfl
  have isn2 : ∀ (w : Wl), fIsN w .non .non = some (.bl true) := fun _ => rfl
  rcases hx with rfl | ⟨hi, rfl, hhi⟩
  · -- open
    refine okS_to (fun s1 w2 => w2 = w1 ∧ ∃ i : Nat, (rows = [] ∨ g ≤ ((SL i).length : Int)) ∧ SQ2 A (.int g) rows (SL i) (low + (i : Nat)) s1) ?_ ?_
    · intro M' hM'
      rw [show (sSeq (sAsg 7 (eBin fAdd (eVar 7) (eL (aLc (iSeq (eVar 2)) (gN 6) tYesD (eBin fAdd (eVar 6) (eTup (aCons (eVar 8) aNil))) [6])))) (sAsg 8 (eBin fAdd (eVar 8) (eC (.int 1))))) = seatB from rfl]
      refine okS_while (fun m s' w' => w' = w1 ∧ ∃ i : Nat, g ≤ (SL i).length + m ∧ ((SL i).length : Int) ≤ g + rows.length ∧ SQ2 A (.int g) rows (SL i) (low + (i : Nat)) s') 100000000 1000 (by omega) ⟨rfl, 0, by rw [hS0]; simp; omega, by rw [hS0]; simp; omega, by rw [hS0]; simpa using hS⟩ ?_
      rintro m s' w' ⟨rfl, i, h1, h2, hQ⟩
      have hturn := seat_turn2 (w' := w') hrl hE4 (F := SL i) (by omega) hQ
      obtain ⟨t3, t4, t5, t6, t9, rfl⟩ := hQ
      have q1 : fLen w' [.lst (SL i)] = some (.int (SL i).length) := rfl
      simp -implicitDefEqProofs [gA, xA, x1, isn2, grow, okD_rows, okD_nilL, eqD_rows_nil, hl0]
      by_cases hr0 : rows = []
      · simp -implicitDefEqProofs [hr0]
        exact hM' _ _ ⟨rfl, i, .inl hr0, t3, t4, t5, t6, t9, by rw [hr0]⟩
      · simp -implicitDefEqProofs [hr0]
        have hpos : 0 < rows.length := List.length_pos_iff.mpr hr0
        by_cases hlt : ((SL i).length : Int) < g
        · rw [if_pos hlt]
          refine ⟨m - 1, by omega, ?_⟩
          refine okS_mono hturn (fun s2 w2 hh => ?_) (fun _ _ hh => hh.elim)
          obtain ⟨rfl, hQ'⟩ := hh
          rw [hSn] at hQ'
          have l1 := hSlen (i + 1)
          have l0 := hSlen i
          rw [Nat.succ_mul] at l1
          refine ⟨rfl, i + 1, by omega, by omega, ?_⟩
          have e : low + (i : Int) + 1 = low + ((i : Int) + 1) := by omega
          rw [e] at hQ'
          simpa using hQ'
        · rw [if_neg hlt]
          exact hM' _ _ ⟨rfl, i, .inr (by omega), t3, t4, t5, t6, t9, rfl⟩
    rintro s1 w1 ⟨rfl, i, hi, t3, t4, t5, t6, t9, rfl⟩
    have hlen := hSlen i
    have hcut : ∀ l : List D, cutD l none (some g) = l.take g.toNat := fun l => cut_take hg.1
    have htk : ∃ n : Nat, (SL i).take g.toNat = (seatL ds low n).map eD ∧ (P = 0 → n = 0) ∧ (0 < P → (n : Int) = g) := by
      rcases (by omega : P = 0 ∨ 0 < P) with z | z
      · have hr0 : rows.length = 0 := by omega
        rw [hr0, Nat.mul_zero] at hlen
        refine ⟨0, ?_, fun _ => rfl, fun z' => by omega⟩
        rw [List.length_eq_zero_iff.mp hlen]
        simp [seatL]
      · refine ⟨g.toNat, hStake i g.toNat (fun _ => ?_) (fun z' => by omega), fun z' => by omega, fun _ => by omega⟩
        rcases hi with e | e
        · rw [e] at hEl
          simp at hEl
          omega
        · omega
    obtain ⟨n, hn1, hn2, hn3⟩ := htk
    simp -implicitDefEqProofs [gA, xA, x1, isn2, hcut]
    exact ⟨g, .inl ⟨rfl, rfl⟩, by omega, n, hn2, hn3, by rw [hn1]; rfl⟩
  · -- closed
    obtain ⟨T, hT⟩ : ∃ T : Nat, T = (hi - low + 1).toNat := ⟨_, rfl⟩
    refine okS_to (fun s1 w2 => w2 = w1 ∧ ∃ (i : Nat) (here : Int), (SL i).length = T * rows.length ∧ SQ2 A (.int g) rows (SL i) here s1) ?_ ?_
    · intro M' hM'
      rw [show (sSeq (sAsg 7 (eBin fAdd (eVar 7) (eL (aLc (iSeq (eVar 2)) (gN 6) tYesD (eBin fAdd (eVar 6) (eTup (aCons (eVar 8) aNil))) [6])))) (sAsg 8 (eBin fAdd (eVar 8) (eC (.int 1))))) = seatB from rfl]
      refine okS_while (fun m s' w' => w' = w1 ∧ ∃ i : Nat, i + m = T ∧ SQ2 A (.int g) rows (SL i) (low + (i : Nat)) s') 100000000 T (by omega) ⟨rfl, 0, by omega, by rw [hS0]; simpa using hS⟩ ?_
      rintro m s' w' ⟨rfl, i, h1, hQ⟩
      have hl := hSlen i
      have hbd : (SL i).length ≤ 8000000 := by
        rw [hl]
        have : i * rows.length ≤ 1002 * 4096 := Nat.mul_le_mul (by omega) hE4
        omega
      have hturn := seat_turn2 (w' := w') hrl hE4 (F := SL i) hbd hQ
      obtain ⟨t3, t4, t5, t6, t9, rfl⟩ := hQ
      simp -implicitDefEqProofs [gA, xA, x1, isn, grow, okD_rows, okD_nilL, eqD_rows_nil, hl0]
      by_cases hr0 : rows = []
      · simp -implicitDefEqProofs [hr0]
        exact hM' _ _ ⟨rfl, i, _, by rw [hl, hr0]; simp, t3, t4, t5, t6, t9, by rw [hr0]⟩
      · simp -implicitDefEqProofs [hr0]
        by_cases hlt : low + (i : Int) ≤ hi
        · rw [if_pos hlt]
          refine ⟨m - 1, by omega, ?_⟩
          refine okS_mono hturn (fun s2 w2 hh => ?_) (fun _ _ hh => hh.elim)
          obtain ⟨rfl, hQ'⟩ := hh
          rw [hSn] at hQ'
          refine ⟨rfl, i + 1, by omega, ?_⟩
          have e : low + (i : Int) + 1 = low + ((i : Int) + 1) := by omega
          rw [e] at hQ'
          simpa using hQ'
        · rw [if_neg hlt]
          have : i = T := by omega
          subst this
          exact hM' _ _ ⟨rfl, i, _, hl, t3, t4, t5, t6, t9, rfl⟩
    rintro s1 w1 ⟨rfl, i, here, hF, t3, t4, t5, t6, t9, rfl⟩
    have hext : ext (low, hi) = (T : Int) := by
      unfold ext
      show (if hi - low + 1 > 0 then hi - low + 1 else 0) = _
      split <;> omega
    have hlenF : ((SL i).length : Int) = P * ext (low, hi) := by
      rw [hF, hext, ← hEl, Int.natCast_mul, Int.mul_comm]
    have q1 : fLen w1 [.lst (SL i)] = some (.int (SL i).length) := rfl
    simp -implicitDefEqProofs [gA, xA, x1, isn]
    by_cases hle : ((SL i).length : Int) ≤ g
    · simp [hle]
      refine ⟨P * ext (low, hi), .inr ⟨hi, rfl, by rw [hPg], by rw [← hlenF]; exact hle⟩, ⟨by omega, by omega⟩, (SL i).length, ?_, fun _ => hlenF, ?_⟩
      · intro z
        rw [z, Int.zero_mul] at hlenF
        omega
      · have := hStake i (SL i).length (fun _ => by rw [hSlen i]; exact Nat.le_refl _) (fun z => by rw [z, Int.zero_mul] at hlenF; omega)
        rw [List.take_length] at this
        unfold rowsD
        rw [← this]
    · simp [hle]
end
end DL

set_option maxHeartbeats 2000000
namespace DL
open PySem PySem.Spec PyProof.Rows L2
variable [TabT]
/-! ### places and elements of a dummy, as the program tells them -/
section
variable {w : Wl} {b : Nat} {bs ds : List (Int × Int)} {xs : List Int} {low f m N : Int} {x hd el part dummy b2 : D} {p q : Int}
theorem tryF_er {cn val : Str} {E : DE} {s : Sl} {w w1 : Wl} {y : Str} (h : E s w = .er ⟨cn, [("part", .str y)]⟩ w1) : eTryF cn val E s w = .ok (.bl (decide (y = val))) w1 := by
  unfold eTryF
  rw [h]
  simp
theorem El.of_zip : ∀ {bs : List (Int × Int)} {xs : List Int}, xs.length = bs.length → (∀ t ∈ xs.zip bs, t.2.1 ≤ t.1 ∧ t.1 ≤ t.2.2) → El bs xs
  | [], [], _, _ => trivial
  | p :: bs, x :: xs, hl, h => ⟨h (x, p) List.mem_cons_self, El.of_zip (by simpa using hl) fun t ht => h t (List.mem_cons_of_mem _ ht)⟩
  | [], _ :: _, hl, _ => by simp at hl
  | _ :: _, [], hl, _ => by simp at hl
theorem e_is_element_no (h : Bw bs) (hl : xs.length = bs.length) (hn : ¬ El bs xs) : F_is_element [bD bs, eD xs] w = .ok (.bl false) w := by
  apply okE_eq
  have h7 := h.few
  have hlim : lim = 16000000 := rfl
  simp [F_is_element, B_is_element, okE_run, bD, eD, List.replicate, hl]
  rw [zipD_maps]
  refine ⟨by simp; omega, okE_lcall _ (fun t => .bl (decide (t.2.1 ≤ t.1) && decide (t.1 ≤ t.2.2))) (fun t _ => ?_) ?_⟩
  · simp [pD, e_is_number]
    by_cases h : t.2.1 ≤ t.1 <;> simp [h]
  · simp
    refine Classical.byContradiction fun hno => hn (El.of_zip hl fun t ht => ?_)
    refine Classical.byContradiction fun hc => hno ⟨t.1, t.2.1, t.2.2, ht, fun h1 => ?_⟩
    omega
theorem e_place_in_no (h : Bw ds) (hr : Bw (rowsB ds low N)) (hl : xs.length = (rowsB ds low N).length) (hno : El (rowsB ds low N) xs → N ≤ place (rowsB ds low N) xs) : F_place_in [.tup [lastB ds low x, .int N], eD xs] w = .ok .non w := by
  apply okE_eq
  simp [F_place_in, B_place_in, okE_run, List.replicate, e_rest h]
  rw [show bD (ds ++ [(low, low + (N.fdiv (mx (prod (ds.map ext))) + 1) - 1)]) = bD (rowsB ds low N) from rfl]
  by_cases he : El (rowsB ds low N) xs
  · rw [e_is_element hr he]
    simp
    rw [e_place_there hr he]
    simp
    exact hno he
  · rw [e_is_element_no hr hl he]
    simp
theorem e_dummy_place_no (h : Bds bs) (g : Sees part) (g2 : Sees dummy) (g3 : Sees el) (hr : F_received [.tup [bD bs, .int (prod (bs.map ext))], part, dummy] w = .ok (.tup [.int p, .tup [b2, .int m]]) w) (hp : F_place_in [.tup [b2, .int m], el] w = .ok .non w) :
    F_dummy_place [bD bs, part, dummy, el] w = .er ⟨"InvalidSection", [("part", .str "element")]⟩ w := by
  apply xE_err
  simp [F_dummy_place, B_dummy_place, xE_run, List.replicate, e_of_array h, g _, g2 _, g3 _, hr, hp]
theorem e_in_holder_no {k : Int} (h : Bw ds) (hr : Bw (rowsB ds low N)) (hk : k < 0 ∨ N ≤ k ∨ prod ((rowsB ds low N).map ext) ≤ k) : F_element_in_holder [.tup [lastB ds low x, .int N], .int k] w = .ok .non w := by
  apply okE_eq
  simp [F_element_in_holder, B_element_in_holder, okE_run, List.replicate, e_rest h]
  rw [show bD (ds ++ [(low, low + (N.fdiv (mx (prod (ds.map ext))) + 1) - 1)]) = bD (rowsB ds low N) from rfl]
  intro h0
  rw [e_size_of hr]
  generalize prod ((rowsB ds low N).map ext) = R at *
  have : ¬ k < if R < N then R else N := by split <;> omega
  simp [this]
theorem rows_bw (hD : Dm ds) (hlow : -2 ≤ low ∧ low ≤ 2) (hN : 0 ≤ N ∧ N ≤ 1000) : Bw (rowsB ds low N) := by
  have hmx : 0 < mx (prod (ds.map ext)) := by unfold mx; split <;> omega
  have hq := fdiv_range hmx hN.1
  refine ⟨?_, fun p hp => ?_⟩
  · have := hD.few
    unfold rowsB
    rw [List.length_append]
    show ds.length + 1 ≤ 7
    omega
  · rcases List.mem_append.mp hp with h | h
    · have := hD.dim p h
      omega
    · have e := List.mem_singleton.mp h
      subst e
      dsimp only
      omega
theorem rows_len : (rowsB ds low N).length = ds.length + 1 := by
  unfold rowsB
  rw [List.length_append]
  rfl
/-- a dummy that has so many places, so many seats -/
structure Du (bs ds : List (Int × Int)) (low f m : Int) (hd x : D) (N : Int) (n : Nat) : Prop where
  nb : Nb bs
  see : Sees hd
  dm : Dm ds
  lo : -2 ≤ low ∧ low ≤ 2
  rg : 0 ≤ f ∧ 0 ≤ N ∧ N ≤ m ∧ f + m ≤ prod (bs.map ext)
  z : prod (ds.map ext) = 0 → n = 0
  nz : 0 < prod (ds.map ext) → (n : Int) = N
  rc : ∀ w, F_received [.tup [bD bs, .int (prod (bs.map ext))], hd, lastB ds low x] w = .ok (.tup [.int f, .tup [lastB ds low x, .int N]]) w
variable {n : Nat}
theorem du_rc (hB : Nb bs) (g : Sees hd) (hp : ∀ w, F_part_handed [.tup [bD bs, .int (prod (bs.map ext))], hd] w = .ok (eD [f, m]) w) (hD : Dm ds) (hlow : -2 ≤ low ∧ low ≤ 2) (hx : DuO low m x) (hm : m ≤ 1000) (hI : Its ds low m x N) : ∀ w, F_received [.tup [bD bs, .int (prod (bs.map ext))], hd, lastB ds low x] w = .ok (.tup [.int f, .tup [lastB ds low x, .int N]]) w := fun w => by
  rcases hI with ⟨rfl, rfl⟩ | ⟨hi, rfl, rfl, hle⟩
  · have hsm := dm_sm hD hlow (hi := low) (by omega)
    have hln := dm_len (low := low) (hi := low) hD
    exact e_received_open (hp w) (sm_bds hln.1 hln.2 hsm) (fun s => rfl) g
  · have hh : -6 ≤ hi ∧ hi ≤ low + m + 1 := by
      rcases hx with z | ⟨hi', e, h1, h2⟩
      · cases z
      · cases e
        exact ⟨h1, h2⟩
    have hsm := dm_sm hD hlow (hi := hi) (by omega)
    have hln := dm_len (low := low) (hi := hi) hD
    rw [lastB_int, ← prod_snoc]
    rw [← prod_snoc] at hle
    exact e_received (hp w) (sm_bds hln.1 hln.2 hsm) hle (fun s => rfl) g
theorem Du.m1 (D : Du bs ds low f m hd x N n) : N ≤ 125 := by
  have := D.rg
  have := D.nb.sz
  omega
theorem Du.bw (D : Du bs ds low f m hd x N n) : Bw (rowsB ds low N) := by
  have := D.rg
  have := D.m1
  exact rows_bw D.dm D.lo ⟨by omega, by omega⟩
theorem Du.n0 (D : Du bs ds low f m hd x N n) : 0 ≤ prod (ds.map ext) ∧ (n : Int) ≤ N := by
  have h := D.dm.size.1
  have := D.rg
  refine ⟨h, ?_⟩
  rcases (by omega : prod (ds.map ext) = 0 ∨ 0 < prod (ds.map ext)) with z | z
  · rw [D.z z]; omega
  · rw [D.nz z]; exact Int.le_refl _
theorem Du.pos (D : Du bs ds low f m hd x N n) (h : 0 < n) : 0 < prod (ds.map ext) ∧ (n : Int) = N := by
  have h0 := D.dm.size.1
  rcases (by omega : prod (ds.map ext) = 0 ∨ 0 < prod (ds.map ext)) with z | z
  · have := D.z z; omega
  · exact ⟨z, D.nz z⟩
theorem sees_eD {xs : List Int} : Sees (eD xs) := fun _ => rfl
theorem sees_lastB : Sees (lastB ds low x) := fun _ => rfl
/-- the place of a seat -/
theorem Du.place (D : Du bs ds low f m hd x N n) {k : Int} (h0 : 0 ≤ k) (h1 : k < n) : F_dummy_place [bD bs, hd, lastB ds low x, eD (seat ds low k)] w = .ok (.int (f + k)) w := by
  obtain ⟨hP, hN⟩ := D.pos (by omega)
  have hex := dm_exts D.dm hP
  have hr := D.rg
  have hre := rows_exts (low := low) hex hP hr.2.1
  have hrp := (rows_prod (low := low) hP hr.2.1).2
  have he := seat_elem (low := low) (N := N) hex hP h0 (by omega)
  have hpl := place_elem (n := k) hre h0 (by omega)
  have hel := elem_el (n := k) hre
  refine e_dummy_place D.nb.bds D.see sees_lastB sees_eD (D.rc w) ?_
  rw [← he]
  have := e_place_in (w := w) (x := x) D.dm.bw D.bw hel (by rw [hpl]; omega)
  rw [hpl] at this
  exact this
/-- what is no seat has no place -/
theorem Du.none (D : Du bs ds low f m hd x N n) (hl : xs.length = ds.length + 1) (hno : xs ∉ seatL ds low n) : F_dummy_place [bD bs, hd, lastB ds low x, eD xs] w = .er ⟨"InvalidSection", [("part", .str "element")]⟩ w := by
  refine e_dummy_place_no D.nb.bds D.see sees_lastB sees_eD (D.rc w) (e_place_in_no D.dm.bw D.bw (by rw [rows_len]; exact hl) fun he => ?_)
  rcases (by omega : N ≤ DL.place (rowsB ds low N) xs ∨ DL.place (rowsB ds low N) xs < N) with z | z
  · exact z
  · exfalso
    have hpr := place_range he
    have h0 := D.dm.size.1
    rcases (by omega : prod (ds.map ext) = 0 ∨ 0 < prod (ds.map ext)) with y | y
    · rw [rows_zero y] at hpr
      omega
    · have hN := D.nz y
      have := seat_elem (low := low) (N := N) (dm_exts D.dm y) y hpr.1 (by omega)
      rw [elem_place he] at this
      refine hno ?_
      unfold seatL
      rw [List.mem_map]
      refine ⟨(DL.place (rowsB ds low N) xs).toNat, List.mem_range.mpr (by omega), ?_⟩
      rw [show (((DL.place (rowsB ds low N) xs).toNat : Nat) : Int) = DL.place (rowsB ds low N) xs by omega]
      exact this.symm
/-- the element at a place of the array -/
theorem Du.elem (D : Du bs ds low f m hd x N n) {q : Int} (h0 : 0 ≤ q) (h1 : q < prod (bs.map ext)) : F_dummy_element [bD bs, hd, lastB ds low x, .int q] w = .ok (if 0 ≤ q - f ∧ q - f < n then eD (seat ds low (q - f)) else .non) w := by
  refine e_dummy_element D.nb.bds D.see sees_lastB (D.rc w) h0 h1 ?_
  have hr := D.rg
  split
  · rename_i h
    obtain ⟨hP, hN⟩ := D.pos (by omega)
    have hex := dm_exts D.dm hP
    have hre := rows_exts (low := low) hex hP hr.2.1
    have hrp := (rows_prod (low := low) hP hr.2.1).2
    rw [← seat_elem (low := low) (N := N) hex hP h.1 (by omega)]
    exact e_in_holder D.dm.bw D.bw h.1 (by omega) (by omega) fun p hp => by have := hre p hp; omega
  · rename_i h
    refine e_in_holder_no D.dm.bw D.bw ?_
    have hd0 := D.dm.size.1
    rcases (by omega : prod (ds.map ext) = 0 ∨ 0 < prod (ds.map ext)) with y | y
    · rw [rows_zero y]
      omega
    · have hN := D.nz y
      omega
end
end DL

set_option maxHeartbeats 2000000
namespace DL
open PySem PySem.Spec PyProof.Rows L2
variable [TabT]
/-! ### what is due; what is drawn and asked -/
section
variable {w : Wl} {b : Nat} {bs ds : List (Int × Int)} {xs : List Int} {low f m N : Int} {x hd : D} {n : Nat}
theorem okD_nonD : okD .non = true := rfl
theorem eqD_nonD : eqD .non .non = true := by
  show (PyData.eqv .none .none) = _
  unfold PyData.eqv
  rfl
theorem getI_map {f : Int} {g : Nat → D} {j : Int} : ∀ l : List Nat, getI (l.map fun k : Nat => f + (k : Int)) (l.map g) j = if 0 ≤ j - f ∧ (j - f).toNat ∈ l then g (j - f).toNat else .non
  | [] => by simp [getI]
  | k :: l => by
    show (if f + (k : Int) = j then g k else getI (l.map fun k : Nat => f + (k : Int)) (l.map g) j) = _
    rw [getI_map l]
    by_cases h : f + (k : Int) = j
    · rw [if_pos h]
      have e : (j - f).toNat = k := by omega
      rw [e, if_pos ⟨by omega, List.mem_cons_self⟩]
    · rw [if_neg h]
      by_cases h2 : 0 ≤ j - f ∧ (j - f).toNat ∈ l
      · rw [if_pos h2, if_pos ⟨h2.1, List.mem_cons_of_mem _ h2.2⟩]
      · rw [if_neg h2, if_neg]
        rintro ⟨z1, z2⟩
        rcases List.mem_cons.mp z2 with e | e
        · omega
        · exact h2 ⟨z1, e⟩
/-- what is due in so many places -/
def dueK (f : Int) (i : Nat) : List Int := (List.range i).map fun k : Nat => f + (k : Int)
def dueX (ds : List (Int × Int)) (low : Int) (i : Nat) : List D := (List.range i).map fun k : Nat => eD (seat ds low (k : Int))
theorem due_get {j : Int} : getI (dueK f n) (dueX ds low n) j = if 0 ≤ j - f ∧ j - f < n then eD (seat ds low (j - f)) else .non := by
  unfold dueK dueX
  rw [getI_map]
  by_cases h : 0 ≤ j - f ∧ j - f < n
  · rw [if_pos h, if_pos ⟨h.1, List.mem_range.mpr (by omega)⟩, show (((j - f).toNat : Nat) : Int) = j - f by omega]
  · rw [if_neg h, if_neg]
    rintro ⟨z1, z2⟩
    have := List.mem_range.mp z2
    omega
theorem due_succ {i : Nat} : dueK f i ++ [f + (i : Int)] = dueK f (i + 1) ∧ dueX ds low i ++ [eD (seat ds low (i : Int))] = dueX ds low (i + 1) := by
  unfold dueK dueX
  rw [List.range_succ, List.map_append, List.map_append]
  exact ⟨rfl, rfl⟩
theorem due_new {i : Nat} : f + (i : Int) ∉ dueK f i := fun h => by
  obtain ⟨k, hk, e⟩ := List.mem_map.mp h
  have := List.mem_range.mp hk
  omega
theorem due_len {i : Nat} : (dueK f i).length = i := by simp [dueK]
theorem zip_seats (h : n ≤ m.toNat) : zipD (upTo f m.toNat) ((seatL ds low n).map eD) = (List.range n).map fun k : Nat => .tup [.int (f + (k : Int)), eD (seat ds low (k : Int))] := by
  unfold zipD seatL upTo
  apply List.ext_getElem
  · simp
    omega
  · intro i h1 h2
    simp
theorem seatL_last {k : Nat} : (seatL ds low (k + 1)).map eD = (seatL ds low k).map eD ++ [eD (seat ds low (k : Int))] := by
  unfold seatL
  rw [List.range_succ, List.map_append, List.map_append]
  rfl
theorem any_rows {L : List (List Int)} : ((L.map eD).any fun d => eqD d (eD xs)) = decide (xs ∈ L) := by
  rw [Bool.eq_iff_iff, List.any_eq_true, decide_eq_true_eq]
  constructor
  · rintro ⟨d, hd, e⟩
    obtain ⟨ys, hy, rfl⟩ := List.mem_map.mp hd
    rw [eqD_ints] at e
    rw [← of_decide_eq_true e]
    exact hy
  · intro h
    exact ⟨eD xs, List.mem_map_of_mem h, by rw [eqD_ints]; simp⟩
abbrev drawG : DG := gT (gCons' (gN 10) (gCons' (gN 11) gNil')) 2
abbrev drawE : DE := eBin fAdd (eBin fSub (eVar 10) (eC (.int 1))) (eCall 2 F_w_draw (aCons (eVar 0) (aCons (eC (.int 6)) aNil)))
/-- as many drawn numbers as there are dimensions -/
theorem lc_drawn {t1 t2 t3 t4 t5 t6 t7 t8 t9 t10 t11 : Option D} : ∀ (L : List D) (c : Nat) (w : Wl), (∀ d ∈ L, ∃ (l : Int) (y : D), d = .tup [.int l, y]) → c + L.length ≤ 1005000 → Lap c w →
    okE (lcD drawG tYesD drawE L [some .well, t1, t2, t3, t4, t5, t6, t7, t8, t9, t10, t11] w) fun zs w' => ∃ xs : List Int, zs = xs.map .int ∧ xs.length = L.length ∧ Lap (c + L.length) w'
  | [], c, w, _, _, l => ⟨[], rfl, rfl, l⟩
  | d :: L, c, w, h, hc, l => by
    obtain ⟨lo, y, rfl⟩ := h d List.mem_cons_self
    rw [okE_lcC]
    simp only [v_gT, v_gCons, v_gN, v_gNil, okO_some, List.set]
    rw [List.length_cons] at hc
    simp -implicitDefEqProofs
    refine draw l (by decide) (by decide) (by omega) fun k w1 a1 b1 l1 => ?_
    simp -implicitDefEqProofs
    refine okE_mono (lc_drawn L (c + 1) w1 (fun d hd => h d (List.mem_cons_of_mem _ hd)) (by omega) l1) ?_
    rintro zs w2 ⟨xs, rfl, hl, l2⟩
    exact ⟨(lo - 1 + k) :: xs, rfl, by simp [hl], by rw [show c + (L.length + 1) = c + 1 + L.length by omega]; exact l2⟩
end
end DL

set_option maxHeartbeats 2000000
namespace DL
open PySem PySem.Spec PyProof.Rows L2
variable [TabT]
/-! ### the loops of the law -/
section
variable {w : Wl} {b : Nat} {bs ds : List (Int × Int)} {xs : List Int} {low f m N : Int} {x hd P R : D} {n : Nat} {t3 t4 t5 t9 : Option D}
def zipB : DS := (sSeq (sPutD 3 (eVar 4) (eVar 9)) (sIf (tE (eBin fNe (eCall 4 F_dummy_place (aCons (eVar 6) (aCons (eVar 8) (aCons (eVar 7) (aCons (eVar 9) aNil))))) (eVar 4))) (sRet (eC (.bl false))) sNx))
def spotB : DS := (sSeq (sIf (tE (eBin fNe (eCall 4 F_dummy_element (aCons (eVar 6) (aCons (eVar 8) (aCons (eVar 7) (aCons (eVar 4) aNil))))) (eGetD 3 (eVar 4)))) (sRet (eC (.bl false))) sNx) (sIf (tE (eBin fNe (eCallK 4 0 4 [3, 2, 1, 0] F_dummy_element aNil (aCons (eVar 4) (aCons (eVar 7) (aCons (eVar 8) (aCons (eVar 6) aNil))))) (eGetD 3 (eVar 4)))) (sRet (eC (.bl false))) sNx))
def askB : DS := (sSeq (sAsg 9 (eCB fTuple (aCons (eL (aLc (iSeq (eVar 7)) (gT (gCons' (gN 10) (gCons' (gN 11) gNil')) 2) tYesD (eBin fAdd (eBin fSub (eVar 10) (eC (.int 1))) (eCall 2 F_w_draw (aCons (eVar 0) (aCons (eC (.int 6)) aNil)))) [10, 11])) aNil))) (sIf (tAn (tE (eBin fNin (eVar 9) (eVar 2))) (tNo (tTr (eTryF "InvalidSection" "element" (eCall 4 F_dummy_place (aCons (eVar 6) (aCons (eVar 8) (aCons (eVar 7) (aCons (eVar 9) aNil))))))))) (sRet (eC (.bl false))) sNx))
def lastQ : DS := (sIf (tE (eBin fNe (eVar 2) (eL (aLst aNil)))) (sSeq (sAsg 4 (eCallK 4 0 4 [3, 2, 1, 0] F_dummy_place aNil (aCons (eBin fIx (eVar 2) (eUn fNeg (eC (.int 1)))) (aCons (eVar 7) (aCons (eVar 8) (aCons (eVar 6) aNil)))))) (sIf (tE (eBin fNe (eVar 4) (eBin fIx (eVar 1) (eBin fSub (eCB fLen (aCons (eVar 2) aNil)) (eC (.int 1)))))) (sRet (eC (.bl false))) sNx)) sNx)
/-- the state: what is due in so many places -/
def Sd (bs ds : List (Int × Int)) (low f : Int) (P R hd x : D) (i : Nat) (t4 t5 t9 : Option D) : Sl := [some .well, some P, some R, some (.dct (dueK f i) (dueX ds low i)), t4, t5, some (bD bs), some (lastB ds low x), some hd, t9, none, none]
theorem zip_step (U : Du bs ds low f m hd x N n) {i : Nat} (hi : i < n) : okS (zipB (Sd bs ds low f P R hd x i (some (.int (f + (i : Int)))) t5 (some (eD (seat ds low (i : Int))))) w) (fun s1 w1 => w1 = w ∧ s1 = Sd bs ds low f P R hd x (i + 1) (some (.int (f + (i : Int)))) t5 (some (eD (seat ds low (i : Int))))) (fun _ _ => False) := by
  have hlim : lim = 16000000 := rfl
  have hpl := fun w => U.place (w := w) (k := (i : Int)) (by omega) (by omega)
  have hm1 := U.m1
  have hn0 := U.n0
  obtain ⟨e1, e2⟩ := due_succ (f := f) (ds := ds) (low := low) (i := i)
  have hnew := due_new (f := f) (i := i)
  have hlen := due_len (f := f) (i := i)
  have gS := U.see
  have gE : ∀ s : Sl, getS (some (eD (seat ds low (i : Int))) :: s) 0 = some (eD (seat ds low (i : Int))) := fun _ => rfl
  have gB : ∀ s : Sl, getS (some (bD bs) :: s) 0 = some (bD bs) := fun _ => rfl
  have gL : ∀ s : Sl, getS (some (lastB ds low x) :: s) 0 = some (lastB ds low x) := fun _ => rfl
  unfold zipB Sd
  rw [← e1, ← e2]
  simp -implicitDefEqProofs [gE, gB, gL, gS _, hnew, hlen, hpl]
  omega
theorem spot_step (U : Du bs ds low f m hd x N n) {q : Int} (h0 : 0 ≤ q) (h1 : q < prod (bs.map ext)) : okS (spotB (Sd bs ds low f P R hd x n (some (.int q)) t5 t9) w) (fun s1 w1 => w1 = w ∧ s1 = Sd bs ds low f P R hd x n (some (.int q)) t5 t9) (fun _ _ => False) := by
  have hel := fun w => U.elem (w := w) h0 h1
  have hgt := due_get (f := f) (n := n) (ds := ds) (low := low) (j := q)
  have gS := U.see
  have gB : ∀ s : Sl, getS (some (bD bs) :: s) 0 = some (bD bs) := fun _ => rfl
  have gL : ∀ s : Sl, getS (some (lastB ds low x) :: s) 0 = some (lastB ds low x) := fun _ => rfl
  have hk : okD (if 0 ≤ q - f ∧ q - f < n then eD (seat ds low (q - f)) else .non) = true ∧ eqD (if 0 ≤ q - f ∧ q - f < n then eD (seat ds low (q - f)) else .non) (if 0 ≤ q - f ∧ q - f < n then eD (seat ds low (q - f)) else .non) = true := by
    split
    · exact ⟨okD_ints, by simp⟩
    · exact ⟨okD_nonD, eqD_nonD⟩
  rw [← hgt] at hk hel
  obtain ⟨v, hv⟩ : ∃ v, getI (dueK f n) (dueX ds low n) q = v := ⟨_, rfl⟩
  rw [hv] at hk hel
  unfold spotB Sd
  simp -implicitDefEqProofs [gB, gL, gS _, hel, hk.1, hk.2, permute, hv]
theorem ask_step (U : Du bs ds low f m hd x N n) {c : Nat} (hc : c ≤ 1004000) (hR : R = rowsD (seatL ds low n)) (l : Lap c w) : okS (askB (Sd bs ds low f P R hd x n t4 t5 t9) w) (fun s1 w1 => Lap (c + 7) w1 ∧ ∃ t9, s1 = Sd bs ds low f P R hd x n t4 t5 t9) (fun _ _ => False) := by
  have gS := U.see
  have gB : ∀ s : Sl, getS (some (bD bs) :: s) 0 = some (bD bs) := fun _ => rfl
  have gL : ∀ s : Sl, getS (some (lastB ds low x) :: s) 0 = some (lastB ds low x) := fun _ => rfl
  have qL : seqD (lastB ds low x) = some (true, ds.map pD ++ [.tup [.int low, x]]) := rfl
  have h6 := U.dm.few
  have hlim : lim = 16000000 := rfl
  unfold askB Sd
  refine okS_to (fun s1 w1 => Lap (c + 7) w1 ∧ ∃ xs : List Int, xs.length = ds.length + 1 ∧ s1 = Sd bs ds low f P R hd x n t4 t5 (some (eD xs))) ?_ ?_
  · intro M' hM'
    have hlc := lc_drawn (t1 := some P) (t2 := some R) (t3 := some (.dct (dueK f n) (dueX ds low n))) (t4 := t4) (t5 := t5) (t6 := some (bD bs)) (t7 := some (lastB ds low x)) (t8 := some hd) (t9 := t9) (t10 := none) (t11 := none) (ds.map pD ++ [.tup [.int low, x]]) c w (fun d hd => by
      rcases List.mem_append.mp hd with h | h
      · obtain ⟨p, _, rfl⟩ := List.mem_map.mp h
        exact ⟨p.1, .int p.2, rfl⟩
      · exact ⟨low, x, List.mem_singleton.mp h⟩) (by simp; omega) l
    simp -implicitDefEqProofs [gL, qL]
    refine ⟨by omega, okE_mono hlc ?_⟩
    rintro zs w1 ⟨xs, rfl, hl, l1⟩
    simp at hl l1
    exact hM' _ _ ⟨lap_le l1 (by omega), xs, by omega, rfl⟩
  rintro _ w1 ⟨l1, xs, hl, rfl⟩
  unfold Sd
  have gE : ∀ s : Sl, getS (some (eD xs) :: s) 0 = some (eD xs) := fun _ => rfl
  have gR : ∀ s : Sl, getS (some R :: s) 0 = some R := fun _ => by rw [hR]; rfl
  have hin : ∀ Q : D → Prop, okO (fInG true w1 (eD xs) R) Q = Q (.bl (!decide (xs ∈ seatL ds low n))) := fun Q => by
    have h2 : (okD (eD xs) && okD R) = true := by rw [hR, okD_ints, okD_rows]; rfl
    rw [hR] at h2 ⊢
    unfold rowsD at h2 ⊢
    show okO (if _ then some _ else none) Q = _
    rw [if_pos h2]
    show Q (.bl (!((seatL ds low n).map eD).any fun d => eqD d (eD xs))) = _
    rw [any_rows]
  by_cases hx : xs ∈ seatL ds low n
  · simp -implicitDefEqProofs [gE, gR, hin, hx]
    exact l1
  · have hno := fun w => U.none (w := w) hl hx
    have q1 : eTryF "InvalidSection" "element" (eCall 4 F_dummy_place (aCons (eVar 6) (aCons (eVar 8) (aCons (eVar 7) (aCons (eVar 9) aNil))))) [some .well, some P, some R, some (.dct (dueK f n) (dueX ds low n)), t4, t5, some (bD bs), some (lastB ds low x), some hd, some (eD xs), none, none] w1 = .ok (.bl (decide (("element" : Str) = "element"))) w1 := tryF_er (by
      apply xE_err
      simp -implicitDefEqProofs [gE, gB, gL, gS _, hno])
    simp -implicitDefEqProofs [gE, gR, hin, hx, q1]
    exact l1
theorem last_step (U : Du bs ds low f m hd x N n) (hP : P = .lst (upTo f m.toNat)) (hR : R = rowsD (seatL ds low n)) : okS (lastQ (Sd bs ds low f P R hd x n t4 t5 t9) w) (fun s1 w1 => w1 = w ∧ ∃ t4, s1 = Sd bs ds low f P R hd x n t4 t5 t9) (fun _ _ => False) := by
  have gS := U.see
  have gB : ∀ s : Sl, getS (some (bD bs) :: s) 0 = some (bD bs) := fun _ => rfl
  have gL : ∀ s : Sl, getS (some (lastB ds low x) :: s) 0 = some (lastB ds low x) := fun _ => rfl
  have gR : ∀ s : Sl, getS (some R :: s) 0 = some R := fun _ => by rw [hR]; rfl
  have gP : ∀ s : Sl, getS (some P :: s) 0 = some P := fun _ => by rw [hP]; rfl
  have hl0 : (0 : Nat) ≤ lim := by decide
  have hok : okD R = true := by rw [hR]; exact okD_rows
  have hl : fLen w [R] = some (.int n) := by rw [hR]; unfold rowsD; show some (D.int (((seatL ds low n).map eD).length : Nat)) = _; simp [seatL]
  have heq : eqD R (.lst []) = decide (n = 0) := by
    rw [hR, eqD_rows_nil]
    rcases n with _ | k
    · rfl
    · unfold seatL
      rw [List.range_succ]
      simp
  unfold lastQ Sd
  rcases n with _ | k
  · simp -implicitDefEqProofs [gR, okD_nilL, hok, heq, hl0]
  · have hix : fIx w R (.int (-1)) = some (eD (seat ds low (k : Int))) := by
      rw [hR]
      unfold rowsD
      rw [seatL_last]
      show atI _ (-1) = _
      exact atI_snoc
    have hrg := U.rg
    have hn0 := U.n0
    have hpx : fIx w P (.int (k : Int)) = some (.int (f + (k : Int))) := by
      rw [hP]
      show atI _ _ = _
      exact at_up (by omega) (by omega)
    have hpl := fun w => U.place (w := w) (k := (k : Int)) (by omega) (by omega)
    have e1 : ((k + 1 : Nat) : Int) - 1 = (k : Int) := by omega
    have gE : ∀ s : Sl, getS (some (eD (seat ds low (k : Int))) :: s) 0 = some (eD (seat ds low (k : Int))) := fun _ => rfl
    simp -implicitDefEqProofs [gR, gP, gB, gL, gS _, okD_nilL, hok, heq, hl0, hix, hpl, hl, permute]
    rw [hpx]
    simp -implicitDefEqProofs
end
end DL

set_option maxHeartbeats 2000000
namespace DL
open PySem PySem.Spec PyProof.Rows L2
variable [TabT]
/-! ### the law's turn -/
section
variable {w : Wl} {b : Nat}
theorem e_right (hb : b < 1000000) (hw : Lap b w) : okE (F_w_right [.well] w) fun d w' => d = .bl true ∧ Lap (b + 1000) w' := by
  have hlim : lim = 16000000 := rfl
  unfold F_w_right
  rw [okE_run]
  refine ⟨rfl, ?_⟩
  show okS (B_w_right [some .well, none, none, none, none, none, none, none, none, none, none, none] w) _ _
  unfold B_w_right
  refine okS_to (fun s1 w1 => ∃ bs, Nb bs ∧ Lap (b + 100) w1 ∧ s1 = [some .well, none, none, none, none, none, some (bD bs), none, none, none, none, none]) ?_ ?_
  · intro M' hM'
    simp -implicitDefEqProofs
    refine okE_mono (e_bounds (by omega) hw) ?_
    rintro d w1 ⟨bs, rfl, hB, l1⟩
    exact hM' _ _ ⟨bs, hB, l1, rfl⟩
  rintro _ w1 ⟨bs, hB, l1, rfl⟩
  have hS := hB.sz
  have hp0 := prod_nn bs
  refine okS_to (fun s1 w2 => ∃ hd f m, Sees hd ∧ (0 ≤ f ∧ 0 ≤ m ∧ f + m ≤ prod (bs.map ext)) ∧ (∀ w, F_part_handed [.tup [bD bs, .int (prod (bs.map ext))], hd] w = .ok (eD [f, m]) w) ∧ Lap (b + 140) w2 ∧ s1 = [some .well, some (.lst (upTo f m.toNat)), none, none, none, none, some (bD bs), none, some hd, none, none, none]) ?_ ?_
  · intro M' hM'
    simp -implicitDefEqProofs
    refine okE_mono (e_hand hB.bds.wide hB.sm (by omega) (by omega) l1) ?_
    rintro d w2 ⟨hd, l2⟩
    obtain ⟨hd', f, m, rfl, g, hfm, hp⟩ := part_hold (hold0 hB) hd
    simp only [v_gT, v_gCons, v_gN, v_gNil, okO_some, List.set]
    exact ⟨by simp, hM' _ _ ⟨hd', f, m, g, ⟨hfm.1, hfm.2.1, hfm.2.2.1⟩, hp, lap_le l2 (by omega), rfl⟩⟩
  rintro _ w2 ⟨hd, f, m, g, hfm, hp, l2, rfl⟩
  have hlen : (upTo f m.toNat).length = m.toNat := by simp [upTo]
  have hmm : ((m.toNat : Nat) : Int) = m := by omega
  obtain ⟨LP, hLP⟩ : ∃ LP, LP = upTo f m.toNat := ⟨_, rfl⟩
  rw [← hLP] at hlen ⊢
  have hlP : fLen w2 [.lst LP] = some (.int m) := by
    show some (D.int (LP.length : Nat)) = _
    rw [hlen, hmm]
  refine okS_to (fun s1 w3 => ∃ ds low x, Dm ds ∧ (-2 ≤ low ∧ low ≤ 2) ∧ DuO low m x ∧ Lap (b + 180) w3 ∧ s1 = [some .well, some (.lst LP), none, none, none, none, some (bD bs), some (lastB ds low x), some hd, none, none, none]) ?_ ?_
  · intro M' hM'
    simp -implicitDefEqProofs [hlen, hmm]
    refine okE_mono (e_dummy (g := m) (by omega) (by omega) l2) ?_
    rintro d w1 ⟨ds, low, x, rfl, h1, h2, h3, l1⟩
    exact hM' _ _ ⟨ds, low, x, h1, h2, h3, lap_le l1 (by omega), rfl⟩
  rintro _ w3 ⟨ds, low, x, hD, hlow, hx, l3, rfl⟩
  have hx2 : x = .non ∨ ∃ hi, x = .int hi ∧ hi ≤ low + m + 1 := hx.elim Or.inl fun ⟨hi, e, h1, h2⟩ => Or.inr ⟨hi, e, h2⟩
  have gL : ∀ s : Sl, getS (some (lastB ds low x) :: s) 0 = some (lastB ds low x) := fun s => rfl
  refine okS_to (fun s1 w4 => w4 = w3 ∧ ∃ d, (d = .non ∨ ∃ (N : Int) (n : Nat), Its ds low m x N ∧ (0 ≤ N ∧ N ≤ m) ∧ (prod (ds.map ext) = 0 → n = 0) ∧ (0 < prod (ds.map ext) → (n : Int) = N) ∧ d = rowsD (seatL ds low n)) ∧ s1 = [some .well, some (.lst LP), some d, none, none, none, some (bD bs), some (lastB ds low x), some hd, none, none, none]) ?_ ?_
  · intro M' hM'
    simp -implicitDefEqProofs [hlen, hmm, gL]
    refine okE_mono (e_w_seats2 (g := m) hD (by omega) hx2 (by omega)) ?_
    rintro d w4 ⟨rfl, h⟩
    exact hM' _ _ ⟨rfl, d, h, rfl⟩
  rintro _ w4 ⟨rfl, d, hd2, rfl⟩
  rcases hd2 with rfl | ⟨N, n, hI, hN, hz, hnz, rfl⟩
  · refine okS_to (fun _ _ => False) ?_ (fun _ _ q => q.elim)
    intro M' hM'
    simp -implicitDefEqProofs
    exact lap_le l3 (by omega)
  have hU : Du bs ds low f m hd x N n := ⟨hB, g, hD, hlow, ⟨hfm.1, hN.1, hN.2, hfm.2.2⟩, hz, hnz, du_rc hB g hp hD hlow hx (by omega) hI⟩
  obtain ⟨R, hR⟩ : ∃ R, R = rowsD (seatL ds low n) := ⟨_, rfl⟩
  rw [← hR]
  have gR : ∀ s : Sl, getS (some R :: s) 0 = some R := fun _ => by rw [hR]; rfl
  have nR : ∀ w, fIsN w R .non = some (.bl false) := fun w => by rw [hR]; rfl
  refine okS_to (fun s1 w5 => w5 = w4 ∧ s1 = [some .well, some (.lst LP), some R, none, none, none, some (bD bs), some (lastB ds low x), some hd, none, none, none]) ?_ ?_
  · intro M' hM'
    have hm' := hM' _ _ ⟨rfl, rfl⟩
    simp -implicitDefEqProofs [gR, nR]
    exact hm'
  rintro _ w5 ⟨rfl, rfl⟩
  refine okS_to (fun s1 w6 => w6 = w5 ∧ s1 = Sd bs ds low f (.lst LP) R hd x 0 none none none) ?_ ?_
  · intro M' hM'
    have hm' := hM' _ _ ⟨rfl, rfl⟩
    rw [okS_newD]
    exact hm'
  rintro _ w6 ⟨rfl, rfl⟩
  refine okS_to (fun s1 w7 => w7 = w6 ∧ ∃ t4 t9, s1 = Sd bs ds low f (.lst LP) R hd x n t4 none t9) ?_ ?_
  · intro M' hM'
    have hz2 : zip2D [.lst LP, R] = some ((List.range n).map fun k : Nat => .tup [.int (f + (k : Int)), eD (seat ds low (k : Int))]) := by
      have := hU.n0
      rw [hR, hLP, ← zip_seats (m := m) (by omega)]
      rfl
    show okS (sFor (iZip (aCons (eVar 1) (aCons (eVar 2) aNil))) (gT (gCons' (gN 4) (gCons' (gN 9) gNil')) 2) zipB (Sd bs ds low f (.lst LP) R hd x 0 none none none) w6) _ _
    unfold Sd
    simp -implicitDefEqProofs only [okS_for, okI_zip, okE_cons, okE_nil, okE_var]
    simp -implicitDefEqProofs [gR, hz2]
    refine okS_loop0 (fun i s w7 => w7 = w6 ∧ ∃ t4 t9, s = Sd bs ds low f (.lst LP) R hd x i t4 none t9) ⟨rfl, none, none, rfl⟩ ?_ ?_
    · rintro i d s w7 hd' ⟨rfl, t4, t9, rfl⟩
      have hi : i < n := by
        have := (List.getElem?_eq_some_iff.mp hd').1
        simpa using this
      rw [List.getElem?_map, List.getElem?_range hi] at hd'
      cases hd'
      unfold Sd
      simp only [v_gT, v_gCons, v_gN, v_gNil, okO_some, List.set]
      refine ⟨rfl, okS_mono (zip_step (w := w7) (P := .lst LP) (R := R) (t5 := none) hU hi) ?_ (fun _ _ q => q.elim)⟩
      rintro s1 w8 ⟨rfl, rfl⟩
      exact ⟨rfl, _, _, rfl⟩
    · rintro s w7 ⟨rfl, t4, t9, rfl⟩
      refine hM' _ _ ⟨rfl, t4, t9, ?_⟩
      rw [List.length_map, List.length_range]
  rintro _ w7 ⟨rfl, t4, t9, rfl⟩
  refine okS_to (fun s1 w8 => w8 = w7 ∧ ∃ t4, s1 = Sd bs ds low f (.lst LP) R hd x n t4 none t9) ?_ ?_
  · intro M' hM'
    have hsz := fun w => e_w_size (w := w) hB.bds.wide
    have gB : ∀ s : Sl, getS (some (bD bs) :: s) 0 = some (bD bs) := fun _ => rfl
    show okS (sFor (iRng1 (aCons (eCall 1 F_w_size (aCons (eVar 6) aNil)) aNil)) (gN 4) spotB (Sd bs ds low f (.lst LP) R hd x n t4 none t9) w7) _ _
    unfold Sd
    simp -implicitDefEqProofs only [okS_for, okI_rng1, okE_cons, okE_nil]
    simp -implicitDefEqProofs [gB, hsz]
    refine ⟨⟨by omega, by omega⟩, ?_⟩
    refine okS_loop0 (fun i s w8 => w8 = w7 ∧ ∃ t4, s = Sd bs ds low f (.lst LP) R hd x n t4 none t9) ⟨rfl, t4, rfl⟩ ?_ ?_
    · rintro i d s w8 hd' ⟨rfl, t4, rfl⟩
      have hi : i < (prod (bs.map ext)).toNat := by
        have := (List.getElem?_eq_some_iff.mp hd').1
        simpa [upTo] using this
      have hdi : d = .int (0 + (i : Nat)) := by
        have := (List.getElem?_eq_some_iff.mp hd').2
        simpa [upTo] using this.symm
      subst hdi
      unfold Sd
      simp only [v_gN, okO_some, List.set]
      refine okS_mono (spot_step (w := w8) (P := .lst LP) (R := R) (t5 := none) (t9 := t9) hU (q := 0 + (i : Nat)) (by omega) (by omega)) ?_ (fun _ _ q => q.elim)
      rintro s1 w9 ⟨rfl, rfl⟩
      exact ⟨rfl, _, rfl⟩
    · rintro s w8 ⟨rfl, t4, rfl⟩
      exact hM' _ _ ⟨rfl, t4, rfl⟩
  rintro _ w8 ⟨rfl, t4, rfl⟩
  refine okS_to (fun s1 w9 => w9 = w8 ∧ ∃ t4, s1 = Sd bs ds low f (.lst LP) R hd x n t4 none t9) ?_ ?_
  · intro M' hM'
    exact okS_mono (last_step (w := w8) (t4 := t4) (t5 := none) (t9 := t9) hU (by rw [hLP]) hR) (fun _ _ q => hM' _ _ q) (fun _ _ q => q.elim)
  rintro _ w9 ⟨rfl, t4, rfl⟩
  refine okS_to (fun s1 w10 => Lap (b + 240) w10 ∧ ∃ t4 t5 t9, s1 = Sd bs ds low f (.lst LP) R hd x n t4 t5 t9) ?_ ?_
  · intro M' hM'
    show okS (sFor (iRng1 (aCons (eC (.int 6)) aNil)) (gN 5) askB (Sd bs ds low f (.lst LP) R hd x n t4 none t9) w9) _ _
    simp -implicitDefEqProofs only [okS_for, okI_rng1, okE_cons, okE_nil, okE_c]
    simp -implicitDefEqProofs
    refine okS_loop0 (fun i s w10 => Lap (b + 180 + 7 * i) w10 ∧ ∃ t4 t5 t9, s = Sd bs ds low f (.lst LP) R hd x n t4 t5 t9) ⟨l3, t4, none, t9, rfl⟩ ?_ ?_
    · rintro i d s w10 hd' ⟨l10, t4, t5, t9, rfl⟩
      have hi : i < 6 := by
        have := (List.getElem?_eq_some_iff.mp hd').1
        simpa [upTo] using this
      unfold Sd
      simp only [v_gN, okO_some, List.set]
      refine okS_mono (ask_step (w := w10) (P := .lst LP) (t4 := t4) (t5 := some d) (t9 := t9) hU (by omega) hR l10) ?_ (fun _ _ q => q.elim)
      rintro s1 w11 ⟨l11, t9, rfl⟩
      exact ⟨l11, _, _, _, rfl⟩
    · rintro s w10 ⟨l10, q⟩
      have h6 : (upTo 0 (6 : Int).toNat).length = 6 := by simp [upTo]
      refine hM' _ _ ⟨lap_le l10 (by simp [upTo]), q⟩
  rintro _ w10 ⟨l10, t4, t5, t9, rfl⟩
  simp -implicitDefEqProofs
  exact lap_le l10 (by omega)
theorem right_ok (b : Nat) (w : Wl) (hb : b < 1000000) (hw : Lap b w) : ∃ w', F_w_right [.well] w = .ok (.bl true) w' ∧ Lap (b + 1000) w' := by
  obtain ⟨d, w', e, rfl, l⟩ := okE_ex (e_right hb hw)
  exact ⟨w', e, l⟩
end
end DL

set_option maxHeartbeats 2000000
namespace DL
open PySem PySem.Spec PyProof.Rows L2
open Evl (Ex)

/-! ### what the top has written; the law's own head -/
theorem all_mk {l : PySem.W.OpenLaw} {w : World} {K : PySem.W.Frag} {h : Heap} {mg : Str → Option Value} {fa f0 f1 f2 f3 f4 f5 f6 f7 f8 f9 f10 f11 f12 f13 f14 f15 f16 f17 f18 f19 f20 f21 f22 f23 f24 f25 f26 f27 f28 f29 f30 f31 f32 f33 f34 f35 f36 f37 f38 f39 f40 f41 f42 f43 f44 f45 f46 f47 f48 f49 f50 f51 f52 C_InvalidSection I_InvalidSection : Addr} (X : K.In h) (G : h.Ns mainGlobals mg) (hfa : mg "law" = some (.ref fa))
    {c_T P_T : Addr} {dc_T : Option Addr} {vs_T : Array Value} {sl_T : Array (Option Value)}
    {od0 an0 od1 an1 od2 an2 od3 an3 od4 an4 od5 an5 od6 an6 od7 an7 od8 an8 od9 an9 od10 an10 od11 an11 od12 an12 od13 an13 od14 an14 od15 an15 od16 an16 od17 an17 od18 an18 od19 an19 od20 an20 od21 an21 od22 an22 od23 an23 od24 an24 od25 an25 od26 an26 od27 an27 od28 an28 od29 an29 od30 an30 od31 an31 od32 an32 od33 an33 od34 an34 od35 an35 od36 an36 od37 an37 od38 an38 od39 an39 od40 an40 od41 an41 od42 an42 od43 an43 od44 an44 od45 an45 od46 an46 od47 an47 od48 an48 od49 an49 od50 an50 od51 an51 od52 an52 od_InvalidSection an_InvalidSection : Option Addr} {sl0 sl1 sl2 sl3 sl4 sl5 sl6 sl7 sl8 sl9 sl10 sl11 sl12 sl13 sl14 sl15 sl16 sl17 sl18 sl19 sl20 sl21 sl22 sl23 sl24 sl25 sl26 sl27 sl28 sl29 sl30 sl31 sl32 sl33 sl34 sl35 sl36 sl37 sl38 sl39 sl40 sl41 sl42 sl43 sl44 sl45 sl46 sl47 sl48 sl49 sl50 sl51 sl52 sl_InvalidSection : Array (Option Value)} {oc0 kV0 dc0 pm0 cd0 ct0 oc1 kV1 dc1 pm1 cd1 ct1 oc2 kV2 dc2 pm2 cd2 ct2 oc3 kV3 dc3 pm3 cd3 ct3 oc4 kV4 dc4 pm4 cd4 ct4 oc5 kV5 dc5 pm5 cd5 ct5 oc6 kV6 dc6 pm6 cd6 ct6 oc7 kV7 dc7 pm7 cd7 ct7 oc8 kV8 dc8 pm8 cd8 ct8 oc9 kV9 dc9 pm9 cd9 ct9 oc10 kV10 dc10 pm10 cd10 ct10 oc11 kV11 dc11 pm11 cd11 ct11 oc12 kV12 dc12 pm12 cd12 ct12 oc13 kV13 dc13 pm13 cd13 ct13 oc14 kV14 dc14 pm14 cd14 ct14 oc15 kV15 dc15 pm15 cd15 ct15 oc16 kV16 dc16 pm16 cd16 ct16 oc17 kV17 dc17 pm17 cd17 ct17 oc18 kV18 dc18 pm18 cd18 ct18 oc19 kV19 dc19 pm19 cd19 ct19 oc20 kV20 dc20 pm20 cd20 ct20 oc21 kV21 dc21 pm21 cd21 ct21 oc22 kV22 dc22 pm22 cd22 ct22 oc23 kV23 dc23 pm23 cd23 ct23 oc24 kV24 dc24 pm24 cd24 ct24 oc25 kV25 dc25 pm25 cd25 ct25 oc26 kV26 dc26 pm26 cd26 ct26 oc27 kV27 dc27 pm27 cd27 ct27 oc28 kV28 dc28 pm28 cd28 ct28 oc29 kV29 dc29 pm29 cd29 ct29 oc30 kV30 dc30 pm30 cd30 ct30 oc31 kV31 dc31 pm31 cd31 ct31 oc32 kV32 dc32 pm32 cd32 ct32 oc33 kV33 dc33 pm33 cd33 ct33 oc34 kV34 dc34 pm34 cd34 ct34 oc35 kV35 dc35 pm35 cd35 ct35 oc36 kV36 dc36 pm36 cd36 ct36 oc37 kV37 dc37 pm37 cd37 ct37 oc38 kV38 dc38 pm38 cd38 ct38 oc39 kV39 dc39 pm39 cd39 ct39 oc40 kV40 dc40 pm40 cd40 ct40 oc41 kV41 dc41 pm41 cd41 ct41 oc42 kV42 dc42 pm42 cd42 ct42 oc43 kV43 dc43 pm43 cd43 ct43 oc44 kV44 dc44 pm44 cd44 ct44 oc45 kV45 dc45 pm45 cd45 ct45 oc46 kV46 dc46 pm46 cd46 ct46 oc47 kV47 dc47 pm47 cd47 ct47 oc48 kV48 dc48 pm48 cd48 ct48 oc49 kV49 dc49 pm49 ct49 oc50 kV50 dc50 pm50 cd50 ct50 oc51 kV51 dc51 pm51 cd51 ct51 oc52 kV52 dc52 pm52 cd52 ct52 oc_InvalidSection dc_InvalidSection pm_InvalidSection cd_InvalidSection ct_InvalidSection : Value} {t_FAR t_LIST_LIMIT t_FARTHEST t_DIMENSIONS : Tok}
    (a0 : PySem.W.nsIn K mainGlobals "is_number" = some (some (.ref f0)))
    (l0 : K.lookup f0 = some ⟨oc0, od0, .func (PySem.W.fnOf "is_number" "is_number" (defArgs s_is_number) (defBody s_is_number) (defScope s_is_number) .none kV0 dc0 pm0 an0 cd0 ct0), sl0⟩)
    (c0 : PySem.W.codeIn K cd0 "is_number" = true)
    (k0 : PySem.W.keepIn K (.ref f0) = true)
    (a1 : PySem.W.nsIn K mainGlobals "is_far" = some (some (.ref f1)))
    (l1 : K.lookup f1 = some ⟨oc1, od1, .func (PySem.W.fnOf "is_far" "is_far" (defArgs s_is_far) (defBody s_is_far) (defScope s_is_far) .none kV1 dc1 pm1 an1 cd1 ct1), sl1⟩)
    (c1 : PySem.W.codeIn K cd1 "is_far" = true)
    (k1 : PySem.W.keepIn K (.ref f1) = true)
    (a2 : PySem.W.nsIn K mainGlobals "is_triplet" = some (some (.ref f2)))
    (l2 : K.lookup f2 = some ⟨oc2, od2, .func (PySem.W.fnOf "is_triplet" "is_triplet" (defArgs s_is_triplet) (defBody s_is_triplet) (defScope s_is_triplet) .none kV2 dc2 pm2 an2 cd2 ct2), sl2⟩)
    (c2 : PySem.W.codeIn K cd2 "is_triplet" = true)
    (k2 : PySem.W.keepIn K (.ref f2) = true)
    (a3 : PySem.W.nsIn K mainGlobals "is_part" = some (some (.ref f3)))
    (l3 : K.lookup f3 = some ⟨oc3, od3, .func (PySem.W.fnOf "is_part" "is_part" (defArgs s_is_part) (defBody s_is_part) (defScope s_is_part) .none kV3 dc3 pm3 an3 cd3 ct3), sl3⟩)
    (c3 : PySem.W.codeIn K cd3 "is_part" = true)
    (k3 : PySem.W.keepIn K (.ref f3) = true)
    (a4 : PySem.W.nsIn K mainGlobals "many_of" = some (some (.ref f4)))
    (l4 : K.lookup f4 = some ⟨oc4, od4, .func (PySem.W.fnOf "many_of" "many_of" (defArgs s_many_of) (defBody s_many_of) (defScope s_many_of) .none kV4 dc4 pm4 an4 cd4 ct4), sl4⟩)
    (c4 : PySem.W.codeIn K cd4 "many_of" = true)
    (k4 : PySem.W.keepIn K (.ref f4) = true)
    (a5 : PySem.W.nsIn K mainGlobals "subscript_of" = some (some (.ref f5)))
    (l5 : K.lookup f5 = some ⟨oc5, od5, .func (PySem.W.fnOf "subscript_of" "subscript_of" (defArgs s_subscript_of) (defBody s_subscript_of) (defScope s_subscript_of) .none kV5 dc5 pm5 an5 cd5 ct5), sl5⟩)
    (c5 : PySem.W.codeIn K cd5 "subscript_of" = true)
    (k5 : PySem.W.keepIn K (.ref f5) = true)
    (a6 : PySem.W.nsIn K mainGlobals "last_of" = some (some (.ref f6)))
    (l6 : K.lookup f6 = some ⟨oc6, od6, .func (PySem.W.fnOf "last_of" "last_of" (defArgs s_last_of) (defBody s_last_of) (defScope s_last_of) .none kV6 dc6 pm6 an6 cd6 ct6), sl6⟩)
    (c6 : PySem.W.codeIn K cd6 "last_of" = true)
    (k6 : PySem.W.keepIn K (.ref f6) = true)
    (a7 : PySem.W.nsIn K mainGlobals "subscripts" = some (some (.ref f7)))
    (l7 : K.lookup f7 = some ⟨oc7, od7, .func (PySem.W.fnOf "subscripts" "subscripts" (defArgs s_subscripts) (defBody s_subscripts) (defScope s_subscripts) .none kV7 dc7 pm7 an7 cd7 ct7), sl7⟩)
    (c7 : PySem.W.codeIn K cd7 "subscripts" = true)
    (k7 : PySem.W.keepIn K (.ref f7) = true)
    (a8 : PySem.W.nsIn K mainGlobals "lies_between" = some (some (.ref f8)))
    (l8 : K.lookup f8 = some ⟨oc8, od8, .func (PySem.W.fnOf "lies_between" "lies_between" (defArgs s_lies_between) (defBody s_lies_between) (defScope s_lies_between) .none kV8 dc8 pm8 an8 cd8 ct8), sl8⟩)
    (c8 : PySem.W.codeIn K cd8 "lies_between" = true)
    (k8 : PySem.W.keepIn K (.ref f8) = true)
    (a9 : PySem.W.nsIn K mainGlobals "is_range" = some (some (.ref f9)))
    (l9 : K.lookup f9 = some ⟨oc9, od9, .func (PySem.W.fnOf "is_range" "is_range" (defArgs s_is_range) (defBody s_is_range) (defScope s_is_range) .none kV9 dc9 pm9 an9 cd9 ct9), sl9⟩)
    (c9 : PySem.W.codeIn K cd9 "is_range" = true)
    (k9 : PySem.W.keepIn K (.ref f9) = true)
    (a10 : PySem.W.nsIn K mainGlobals "is_bounds" = some (some (.ref f10)))
    (l10 : K.lookup f10 = some ⟨oc10, od10, .func (PySem.W.fnOf "is_bounds" "is_bounds" (defArgs s_is_bounds) (defBody s_is_bounds) (defScope s_is_bounds) .none kV10 dc10 pm10 an10 cd10 ct10), sl10⟩)
    (c10 : PySem.W.codeIn K cd10 "is_bounds" = true)
    (k10 : PySem.W.keepIn K (.ref f10) = true)
    (a11 : PySem.W.nsIn K mainGlobals "all_extents" = some (some (.ref f11)))
    (l11 : K.lookup f11 = some ⟨oc11, od11, .func (PySem.W.fnOf "all_extents" "all_extents" (defArgs s_all_extents) (defBody s_all_extents) (defScope s_all_extents) .none kV11 dc11 pm11 an11 cd11 ct11), sl11⟩)
    (c11 : PySem.W.codeIn K cd11 "all_extents" = true)
    (k11 : PySem.W.keepIn K (.ref f11) = true)
    (a12 : PySem.W.nsIn K mainGlobals "multiplied" = some (some (.ref f12)))
    (l12 : K.lookup f12 = some ⟨oc12, od12, .func (PySem.W.fnOf "multiplied" "multiplied" (defArgs s_multiplied) (defBody s_multiplied) (defScope s_multiplied) .none kV12 dc12 pm12 an12 cd12 ct12), sl12⟩)
    (c12 : PySem.W.codeIn K cd12 "multiplied" = true)
    (k12 : PySem.W.keepIn K (.ref f12) = true)
    (a13 : PySem.W.nsIn K mainGlobals "size_of" = some (some (.ref f13)))
    (l13 : K.lookup f13 = some ⟨oc13, od13, .func (PySem.W.fnOf "size_of" "size_of" (defArgs s_size_of) (defBody s_size_of) (defScope s_size_of) .none kV13 dc13 pm13 an13 cd13 ct13), sl13⟩)
    (c13 : PySem.W.codeIn K cd13 "size_of" = true)
    (k13 : PySem.W.keepIn K (.ref f13) = true)
    (a14 : PySem.W.nsIn K mainGlobals "weights" = some (some (.ref f14)))
    (l14 : K.lookup f14 = some ⟨oc14, od14, .func (PySem.W.fnOf "weights" "weights" (defArgs s_weights) (defBody s_weights) (defScope s_weights) .none kV14 dc14 pm14 an14 cd14 ct14), sl14⟩)
    (c14 : PySem.W.codeIn K cd14 "weights" = true)
    (k14 : PySem.W.keepIn K (.ref f14) = true)
    (a15 : PySem.W.nsIn K mainGlobals "is_element" = some (some (.ref f15)))
    (l15 : K.lookup f15 = some ⟨oc15, od15, .func (PySem.W.fnOf "is_element" "is_element" (defArgs s_is_element) (defBody s_is_element) (defScope s_is_element) .none kV15 dc15 pm15 an15 cd15 ct15), sl15⟩)
    (c15 : PySem.W.codeIn K cd15 "is_element" = true)
    (k15 : PySem.W.keepIn K (.ref f15) = true)
    (a16 : PySem.W.nsIn K mainGlobals "place_there" = some (some (.ref f16)))
    (l16 : K.lookup f16 = some ⟨oc16, od16, .func (PySem.W.fnOf "place_there" "place_there" (defArgs s_place_there) (defBody s_place_there) (defScope s_place_there) .none kV16 dc16 pm16 an16 cd16 ct16), sl16⟩)
    (c16 : PySem.W.codeIn K cd16 "place_there" = true)
    (k16 : PySem.W.keepIn K (.ref f16) = true)
    (a17 : PySem.W.nsIn K mainGlobals "element_there" = some (some (.ref f17)))
    (l17 : K.lookup f17 = some ⟨oc17, od17, .func (PySem.W.fnOf "element_there" "element_there" (defArgs s_element_there) (defBody s_element_there) (defScope s_element_there) .none kV17 dc17 pm17 an17 cd17 ct17), sl17⟩)
    (c17 : PySem.W.codeIn K cd17 "element_there" = true)
    (k17 : PySem.W.keepIn K (.ref f17) = true)
    (a18 : PySem.W.nsIn K mainGlobals "many_in" = some (some (.ref f18)))
    (l18 : K.lookup f18 = some ⟨oc18, od18, .func (PySem.W.fnOf "many_in" "many_in" (defArgs s_many_in) (defBody s_many_in) (defScope s_many_in) .none kV18 dc18 pm18 an18 cd18 ct18), sl18⟩)
    (c18 : PySem.W.codeIn K cd18 "many_in" = true)
    (k18 : PySem.W.keepIn K (.ref f18) = true)
    (a19 : PySem.W.nsIn K mainGlobals "is_section" = some (some (.ref f19)))
    (l19 : K.lookup f19 = some ⟨oc19, od19, .func (PySem.W.fnOf "is_section" "is_section" (defArgs s_is_section) (defBody s_is_section) (defScope s_is_section) .none kV19 dc19 pm19 an19 cd19 ct19), sl19⟩)
    (c19 : PySem.W.codeIn K cd19 "is_section" = true)
    (k19 : PySem.W.keepIn K (.ref f19) = true)
    (a20 : PySem.W.nsIn K mainGlobals "element_in" = some (some (.ref f20)))
    (l20 : K.lookup f20 = some ⟨oc20, od20, .func (PySem.W.fnOf "element_in" "element_in" (defArgs s_element_in) (defBody s_element_in) (defScope s_element_in) .none kV20 dc20 pm20 an20 cd20 ct20), sl20⟩)
    (c20 : PySem.W.codeIn K cd20 "element_in" = true)
    (k20 : PySem.W.keepIn K (.ref f20) = true)
    (a21 : PySem.W.nsIn K mainGlobals "joints" = some (some (.ref f21)))
    (l21 : K.lookup f21 = some ⟨oc21, od21, .func (PySem.W.fnOf "joints" "joints" (defArgs s_joints) (defBody s_joints) (defScope s_joints) .none kV21 dc21 pm21 an21 cd21 ct21), sl21⟩)
    (c21 : PySem.W.codeIn K cd21 "joints" = true)
    (k21 : PySem.W.keepIn K (.ref f21) = true)
    (a22 : PySem.W.nsIn K mainGlobals "stretches_of" = some (some (.ref f22)))
    (l22 : K.lookup f22 = some ⟨oc22, od22, .func (PySem.W.fnOf "stretches_of" "stretches_of" (defArgs s_stretches_of) (defBody s_stretches_of) (defScope s_stretches_of) .none kV22 dc22 pm22 an22 cd22 ct22), sl22⟩)
    (c22 : PySem.W.codeIn K cd22 "stretches_of" = true)
    (k22 : PySem.W.keepIn K (.ref f22) = true)
    (a23 : PySem.W.nsIn K mainGlobals "check_bounds" = some (some (.ref f23)))
    (l23 : K.lookup f23 = some ⟨oc23, od23, .func (PySem.W.fnOf "check_bounds" "check_bounds" (defArgs s_check_bounds) (defBody s_check_bounds) (defScope s_check_bounds) .none kV23 dc23 pm23 an23 cd23 ct23), sl23⟩)
    (c23 : PySem.W.codeIn K cd23 "check_bounds" = true)
    (k23 : PySem.W.keepIn K (.ref f23) = true)
    (a24 : PySem.W.nsIn K mainGlobals "is_open" = some (some (.ref f24)))
    (l24 : K.lookup f24 = some ⟨oc24, od24, .func (PySem.W.fnOf "is_open" "is_open" (defArgs s_is_open) (defBody s_is_open) (defScope s_is_open) .none kV24 dc24 pm24 an24 cd24 ct24), sl24⟩)
    (c24 : PySem.W.codeIn K cd24 "is_open" = true)
    (k24 : PySem.W.keepIn K (.ref f24) = true)
    (a25 : PySem.W.nsIn K mainGlobals "is_dummy" = some (some (.ref f25)))
    (l25 : K.lookup f25 = some ⟨oc25, od25, .func (PySem.W.fnOf "is_dummy" "is_dummy" (defArgs s_is_dummy) (defBody s_is_dummy) (defScope s_is_dummy) .none kV25 dc25 pm25 an25 cd25 ct25), sl25⟩)
    (c25 : PySem.W.codeIn K cd25 "is_dummy" = true)
    (k25 : PySem.W.keepIn K (.ref f25) = true)
    (a26 : PySem.W.nsIn K mainGlobals "with_rows" = some (some (.ref f26)))
    (l26 : K.lookup f26 = some ⟨oc26, od26, .func (PySem.W.fnOf "with_rows" "with_rows" (defArgs s_with_rows) (defBody s_with_rows) (defScope s_with_rows) .none kV26 dc26 pm26 an26 cd26 ct26), sl26⟩)
    (c26 : PySem.W.codeIn K cd26 "with_rows" = true)
    (k26 : PySem.W.keepIn K (.ref f26) = true)
    (a27 : PySem.W.nsIn K mainGlobals "whole_rows" = some (some (.ref f27)))
    (l27 : K.lookup f27 = some ⟨oc27, od27, .func (PySem.W.fnOf "whole_rows" "whole_rows" (defArgs s_whole_rows) (defBody s_whole_rows) (defScope s_whole_rows) .none kV27 dc27 pm27 an27 cd27 ct27), sl27⟩)
    (c27 : PySem.W.codeIn K cd27 "whole_rows" = true)
    (k27 : PySem.W.keepIn K (.ref f27) = true)
    (a28 : PySem.W.nsIn K mainGlobals "rows_and_rest" = some (some (.ref f28)))
    (l28 : K.lookup f28 = some ⟨oc28, od28, .func (PySem.W.fnOf "rows_and_rest" "rows_and_rest" (defArgs s_rows_and_rest) (defBody s_rows_and_rest) (defScope s_rows_and_rest) .none kV28 dc28 pm28 an28 cd28 ct28), sl28⟩)
    (c28 : PySem.W.codeIn K cd28 "rows_and_rest" = true)
    (k28 : PySem.W.keepIn K (.ref f28) = true)
    (a29 : PySem.W.nsIn K mainGlobals "place_in" = some (some (.ref f29)))
    (l29 : K.lookup f29 = some ⟨oc29, od29, .func (PySem.W.fnOf "place_in" "place_in" (defArgs s_place_in) (defBody s_place_in) (defScope s_place_in) .none kV29 dc29 pm29 an29 cd29 ct29), sl29⟩)
    (c29 : PySem.W.codeIn K cd29 "place_in" = true)
    (k29 : PySem.W.keepIn K (.ref f29) = true)
    (a30 : PySem.W.nsIn K mainGlobals "element_in_holder" = some (some (.ref f30)))
    (l30 : K.lookup f30 = some ⟨oc30, od30, .func (PySem.W.fnOf "element_in_holder" "element_in_holder" (defArgs s_element_in_holder) (defBody s_element_in_holder) (defScope s_element_in_holder) .none kV30 dc30 pm30 an30 cd30 ct30), sl30⟩)
    (c30 : PySem.W.codeIn K cd30 "element_in_holder" = true)
    (k30 : PySem.W.keepIn K (.ref f30) = true)
    (a31 : PySem.W.nsIn K mainGlobals "section_handed" = some (some (.ref f31)))
    (l31 : K.lookup f31 = some ⟨oc31, od31, .func (PySem.W.fnOf "section_handed" "section_handed" (defArgs s_section_handed) (defBody s_section_handed) (defScope s_section_handed) .none kV31 dc31 pm31 an31 cd31 ct31), sl31⟩)
    (c31 : PySem.W.codeIn K cd31 "section_handed" = true)
    (k31 : PySem.W.keepIn K (.ref f31) = true)
    (a32 : PySem.W.nsIn K mainGlobals "part_handed" = some (some (.ref f32)))
    (l32 : K.lookup f32 = some ⟨oc32, od32, .func (PySem.W.fnOf "part_handed" "part_handed" (defArgs s_part_handed) (defBody s_part_handed) (defScope s_part_handed) .none kV32 dc32 pm32 an32 cd32 ct32), sl32⟩)
    (c32 : PySem.W.codeIn K cd32 "part_handed" = true)
    (k32 : PySem.W.keepIn K (.ref f32) = true)
    (a33 : PySem.W.nsIn K mainGlobals "received" = some (some (.ref f33)))
    (l33 : K.lookup f33 = some ⟨oc33, od33, .func (PySem.W.fnOf "received" "received" (defArgs s_received) (defBody s_received) (defScope s_received) .none kV33 dc33 pm33 an33 cd33 ct33), sl33⟩)
    (c33 : PySem.W.codeIn K cd33 "received" = true)
    (k33 : PySem.W.keepIn K (.ref f33) = true)
    (a34 : PySem.W.nsIn K mainGlobals "of_array" = some (some (.ref f34)))
    (l34 : K.lookup f34 = some ⟨oc34, od34, .func (PySem.W.fnOf "of_array" "of_array" (defArgs s_of_array) (defBody s_of_array) (defScope s_of_array) .none kV34 dc34 pm34 an34 cd34 ct34), sl34⟩)
    (c34 : PySem.W.codeIn K cd34 "of_array" = true)
    (k34 : PySem.W.keepIn K (.ref f34) = true)
    (a35 : PySem.W.nsIn K mainGlobals "dummy_place" = some (some (.ref f35)))
    (l35 : K.lookup f35 = some ⟨oc35, od35, .func (PySem.W.fnOf "dummy_place" "dummy_place" (defArgs s_dummy_place) (defBody s_dummy_place) (defScope s_dummy_place) .none kV35 dc35 pm35 an35 cd35 ct35), sl35⟩)
    (c35 : PySem.W.codeIn K cd35 "dummy_place" = true)
    (k35 : PySem.W.keepIn K (.ref f35) = true)
    (a36 : PySem.W.nsIn K mainGlobals "dummy_element" = some (some (.ref f36)))
    (l36 : K.lookup f36 = some ⟨oc36, od36, .func (PySem.W.fnOf "dummy_element" "dummy_element" (defArgs s_dummy_element) (defBody s_dummy_element) (defScope s_dummy_element) .none kV36 dc36 pm36 an36 cd36 ct36), sl36⟩)
    (c36 : PySem.W.codeIn K cd36 "dummy_element" = true)
    (k36 : PySem.W.keepIn K (.ref f36) = true)
    (a37 : PySem.W.nsIn K mainGlobals "_law_mix" = some (some (.ref f37)))
    (l37 : K.lookup f37 = some ⟨oc37, od37, .func (PySem.W.fnOf "_law_mix" "_law_mix" (defArgs s_w_mix) (defBody s_w_mix) (defScope s_w_mix) .none kV37 dc37 pm37 an37 cd37 ct37), sl37⟩)
    (c37 : PySem.W.codeIn K cd37 "_law_mix" = true)
    (k37 : PySem.W.keepIn K (.ref f37) = true)
    (a38 : PySem.W.nsIn K mainGlobals "_law_draw" = some (some (.ref f38)))
    (l38 : K.lookup f38 = some ⟨oc38, od38, .func (PySem.W.fnOf "_law_draw" "_law_draw" (defArgs s_w_draw) (defBody s_w_draw) (defScope s_w_draw) .none kV38 dc38 pm38 an38 cd38 ct38), sl38⟩)
    (c38 : PySem.W.codeIn K cd38 "_law_draw" = true)
    (k38 : PySem.W.keepIn K (.ref f38) = true)
    (a39 : PySem.W.nsIn K mainGlobals "_law_pick" = some (some (.ref f39)))
    (l39 : K.lookup f39 = some ⟨oc39, od39, .func (PySem.W.fnOf "_law_pick" "_law_pick" (defArgs s_w_pick) (defBody s_w_pick) (defScope s_w_pick) .none kV39 dc39 pm39 an39 cd39 ct39), sl39⟩)
    (c39 : PySem.W.codeIn K cd39 "_law_pick" = true)
    (k39 : PySem.W.keepIn K (.ref f39) = true)
    (a40 : PySem.W.nsIn K mainGlobals "_law_bounds" = some (some (.ref f40)))
    (l40 : K.lookup f40 = some ⟨oc40, od40, .func (PySem.W.fnOf "_law_bounds" "_law_bounds" (defArgs s_w_bounds) (defBody s_w_bounds) (defScope s_w_bounds) .none kV40 dc40 pm40 an40 cd40 ct40), sl40⟩)
    (c40 : PySem.W.codeIn K cd40 "_law_bounds" = true)
    (k40 : PySem.W.keepIn K (.ref f40) = true)
    (a41 : PySem.W.nsIn K mainGlobals "_law_subscripts" = some (some (.ref f41)))
    (l41 : K.lookup f41 = some ⟨oc41, od41, .func (PySem.W.fnOf "_law_subscripts" "_law_subscripts" (defArgs s_w_subscripts) (defBody s_w_subscripts) (defScope s_w_subscripts) .none kV41 dc41 pm41 an41 cd41 ct41), sl41⟩)
    (c41 : PySem.W.codeIn K cd41 "_law_subscripts" = true)
    (k41 : PySem.W.keepIn K (.ref f41) = true)
    (a42 : PySem.W.nsIn K mainGlobals "_law_elements" = some (some (.ref f42)))
    (l42 : K.lookup f42 = some ⟨oc42, od42, .func (PySem.W.fnOf "_law_elements" "_law_elements" (defArgs s_w_elements) (defBody s_w_elements) (defScope s_w_elements) .none kV42 dc42 pm42 an42 cd42 ct42), sl42⟩)
    (c42 : PySem.W.codeIn K cd42 "_law_elements" = true)
    (k42 : PySem.W.keepIn K (.ref f42) = true)
    (a43 : PySem.W.nsIn K mainGlobals "_law_place" = some (some (.ref f43)))
    (l43 : K.lookup f43 = some ⟨oc43, od43, .func (PySem.W.fnOf "_law_place" "_law_place" (defArgs s_w_place) (defBody s_w_place) (defScope s_w_place) .none kV43 dc43 pm43 an43 cd43 ct43), sl43⟩)
    (c43 : PySem.W.codeIn K cd43 "_law_place" = true)
    (k43 : PySem.W.keepIn K (.ref f43) = true)
    (a44 : PySem.W.nsIn K mainGlobals "_law_one_of" = some (some (.ref f44)))
    (l44 : K.lookup f44 = some ⟨oc44, od44, .func (PySem.W.fnOf "_law_one_of" "_law_one_of" (defArgs s_w_one_of) (defBody s_w_one_of) (defScope s_w_one_of) .none kV44 dc44 pm44 an44 cd44 ct44), sl44⟩)
    (c44 : PySem.W.codeIn K cd44 "_law_one_of" = true)
    (k44 : PySem.W.keepIn K (.ref f44) = true)
    (a45 : PySem.W.nsIn K mainGlobals "_law_size" = some (some (.ref f45)))
    (l45 : K.lookup f45 = some ⟨oc45, od45, .func (PySem.W.fnOf "_law_size" "_law_size" (defArgs s_w_size) (defBody s_w_size) (defScope s_w_size) .none kV45 dc45 pm45 an45 cd45 ct45), sl45⟩)
    (c45 : PySem.W.codeIn K cd45 "_law_size" = true)
    (k45 : PySem.W.keepIn K (.ref f45) = true)
    (a46 : PySem.W.nsIn K mainGlobals "_law_hand" = some (some (.ref f46)))
    (l46 : K.lookup f46 = some ⟨oc46, od46, .func (PySem.W.fnOf "_law_hand" "_law_hand" (defArgs s_w_hand) (defBody s_w_hand) (defScope s_w_hand) .none kV46 dc46 pm46 an46 cd46 ct46), sl46⟩)
    (c46 : PySem.W.codeIn K cd46 "_law_hand" = true)
    (k46 : PySem.W.keepIn K (.ref f46) = true)
    (a47 : PySem.W.nsIn K mainGlobals "_law_dummy" = some (some (.ref f47)))
    (l47 : K.lookup f47 = some ⟨oc47, od47, .func (PySem.W.fnOf "_law_dummy" "_law_dummy" (defArgs s_w_dummy) (defBody s_w_dummy) (defScope s_w_dummy) .none kV47 dc47 pm47 an47 cd47 ct47), sl47⟩)
    (c47 : PySem.W.codeIn K cd47 "_law_dummy" = true)
    (k47 : PySem.W.keepIn K (.ref f47) = true)
    (a48 : PySem.W.nsIn K mainGlobals "_law_seats" = some (some (.ref f48)))
    (l48 : K.lookup f48 = some ⟨oc48, od48, .func (PySem.W.fnOf "_law_seats" "_law_seats" (defArgs s_w_seats) (defBody s_w_seats) (defScope s_w_seats) .none kV48 dc48 pm48 an48 cd48 ct48), sl48⟩)
    (c48 : PySem.W.codeIn K cd48 "_law_seats" = true)
    (k48 : PySem.W.keepIn K (.ref f48) = true)
    (a49 : PySem.W.nsIn K mainGlobals "_law_right" = some (some (.ref f49)))
    (l49 : K.lookup f49 = some ⟨oc49, od49, .func (PySem.W.fnOf "_law_right" "_law_right" (defArgs s_w_right) (defBody s_w_right) (defScope s_w_right) .none kV49 dc49 pm49 an49 (.ref c_T) ct49), sl49⟩)
    (c49 : PySem.W.codeIn K (.ref c_T) "_law_right" = true)
    (k49 : PySem.W.keepIn K (.ref f49) = true)
    (a50 : PySem.W.nsIn K mainGlobals "_law_source" = some (some (.ref f50)))
    (l50 : K.lookup f50 = some ⟨oc50, od50, .func (PySem.W.fnOf "_law_source" "_law_source" (defArgs s_w_source) (defBody s_w_source) (defScope s_w_source) .none kV50 dc50 pm50 an50 cd50 ct50), sl50⟩)
    (c50 : PySem.W.codeIn K cd50 "_law_source" = true)
    (k50 : PySem.W.keepIn K (.ref f50) = true)
    (a51 : PySem.W.nsIn K mainGlobals "_law_is_none" = some (some (.ref f51)))
    (l51 : K.lookup f51 = some ⟨oc51, od51, .func (PySem.W.fnOf "_law_is_none" "_law_is_none" (defArgs s_w_is_none) (defBody s_w_is_none) (defScope s_w_is_none) .none kV51 dc51 pm51 an51 cd51 ct51), sl51⟩)
    (c51 : PySem.W.codeIn K cd51 "_law_is_none" = true)
    (k51 : PySem.W.keepIn K (.ref f51) = true)
    (a52 : PySem.W.nsIn K mainGlobals "law" = some (some (.ref f52)))
    (l52 : K.lookup f52 = some ⟨oc52, od52, .func (PySem.W.fnOf "law" "law" (defArgs s_law) (defBody s_law) (defScope s_law) .none kV52 dc52 pm52 an52 cd52 ct52), sl52⟩)
    (c52 : PySem.W.codeIn K cd52 "law" = true)
    (k52 : PySem.W.keepIn K (.ref f52) = true)
    (lc_T : K.lookup c_T = some ⟨.type "code", dc_T, .fields vs_T, sl_T⟩)
    (vP_T : vs_T[11]? = some (.ref P_T))
    (hc_T : PySem.W.codeHdIn K c_T P_T = true)
    (np_T : K.lookup P_T = none)
    (hp_T : h.get? P_T = some { cls := .none, data := .fields #[] })
    (a_InvalidSection : PySem.W.nsIn K mainGlobals "InvalidSection" = some (some (.ref C_InvalidSection)))
    (x1_InvalidSection : PySem.W.excInitIn K C_InvalidSection PySem.ErrX.aeM "ArithmeticError.__new__" = true)
    (x2_InvalidSection : PySem.W.excOver K C_InvalidSection PySem.ErrX.aeM = true)
    (sa_InvalidSection : PySem.W.findIn K (.ref C_InvalidSection) "__setattr__" = some (some (.builtin "object.__setattr__")))
    (ga_InvalidSection : PySem.W.findIn K (.ref C_InvalidSection) "__getattribute__" = some (some (.builtin "BaseException.__getattribute__")))
    (gg_InvalidSection : PySem.W.findIn K (.ref C_InvalidSection) "__getattr__" = some none)
    (nb_InvalidSection : PySem.W.findIn K (.ref C_InvalidSection) "part" = some none)
    (i1_InvalidSection : PySem.W.findIn K (.ref C_InvalidSection) "__init__" = some (some (.ref I_InvalidSection)))
    (t1_InvalidSection : PySem.W.typeIn K (.ref I_InvalidSection) = some (.type "function"))
    (l1_InvalidSection : K.lookup I_InvalidSection = some ⟨oc_InvalidSection, od_InvalidSection, .func (PySem.W.fnOf "__init__" "InvalidSection.__init__" (PySem.ErrX.jA ⟨6, 17, 6, 21⟩ ⟨6, 23, 6, 27⟩) (PySem.ErrX.jB ⟨7, 8, 7, 12⟩ ⟨7, 8, 7, 17⟩ ⟨7, 20, 7, 24⟩ ⟨7, 8, 7, 24⟩) PySem.ErrX.jS .none .none dc_InvalidSection pm_InvalidSection an_InvalidSection cd_InvalidSection ct_InvalidSection), sl_InvalidSection⟩)
    (c1_InvalidSection : PySem.W.codeIn K cd_InvalidSection "InvalidSection.__init__" = true)
    (kC_InvalidSection : PySem.W.keepIn K (.ref C_InvalidSection) = true)
    (eC_InvalidSection : PySem.W.subIn K (.ref C_InvalidSection) (.type "BaseException") = some true)
    (tC_InvalidSection : PySem.W.typeIn K (.ref C_InvalidSection) = some (.type "type"))
    (hC_InvalidSection : PySem.W.hasDictIn K C_InvalidSection = true)
    (iC_InvalidSection : PySem.W.isClsIn K C_InvalidSection = true)
    (sC_InvalidSection : PySem.W.subIn K (.ref C_InvalidSection) (.ref C_InvalidSection) = some true)
    (z_int : PySem.W.nsIn K mainGlobals "int" = some none)
    (z_isinstance : PySem.W.nsIn K mainGlobals "isinstance" = some none)
    (z_bool : PySem.W.nsIn K mainGlobals "bool" = some none)
    (z_tuple : PySem.W.nsIn K mainGlobals "tuple" = some none)
    (z_len : PySem.W.nsIn K mainGlobals "len" = some none)
    (z_all : PySem.W.nsIn K mainGlobals "all" = some none)
    (z_list : PySem.W.nsIn K mainGlobals "list" = some none)
    (z_max : PySem.W.nsIn K mainGlobals "max" = some none)
    (z_range : PySem.W.nsIn K mainGlobals "range" = some none)
    (z_zip : PySem.W.nsIn K mainGlobals "zip" = some none)
    (z_sum : PySem.W.nsIn K mainGlobals "sum" = some none)
    (z_min : PySem.W.nsIn K mainGlobals "min" = some none)
    (z_sorted : PySem.W.nsIn K mainGlobals "sorted" = some none)
    (z_abs : PySem.W.nsIn K mainGlobals "abs" = some none)
    (v_FAR : PySem.W.nsIn K mainGlobals "FAR" = some (some (.int 1000000000000000000000000000000 t_FAR)))
    (v_LIST_LIMIT : PySem.W.nsIn K mainGlobals "LIST_LIMIT" = some (some (.int 64 t_LIST_LIMIT)))
    (v_FARTHEST : PySem.W.nsIn K mainGlobals "FARTHEST" = some (some (.int 500000000000000000000000000000 t_FARTHEST)))
    (v_DIMENSIONS : PySem.W.nsIn K mainGlobals "DIMENSIONS" = some (some (.int 7 t_DIMENSIONS)))
    : LamX.LawAtS l w K (L2.CX l.prog w) 13 63 "_law_script" mg fa h := by
  have e := hfa.symm.trans (PySem.W.mg_of X G a52)
  cases e
  letI iT : TabT := ⟨[(P_T, qual_w_right)]⟩
  have one : ∀ p ∈ [(c_T, P_T)], p = (c_T, P_T) := fun p hp => List.mem_singleton.mp hp
  refine ⟨PySem.W.fnOf "law" "law" (defArgs s_law) (defBody s_law) (defScope s_law) .none kV52 dc52 pm52 an52 cd52 ct52, [(c_T, P_T)], spLaw K, fun p hp => by rw [one p hp]; exact hp_T, fun p hp => by rw [one p hp]; exact np_T, fun p hp => by rw [one p hp]; exact PySem.W.codeHd_of_K X hc_T, fun s v => .of_eq rfl, fun H a ns hl _ hT hS => ⟨a, ns, rfl, hS, hl, fun p hp => by rw [List.mem_singleton.mp (show p ∈ [(P_T, qual_w_right)] from hp)]; exact LamX.TabS.nil (hT (c_T, P_T) (List.mem_singleton.mpr rfl)), fun _ => rfl⟩, fun base _ _ hB => ?_⟩
  let T : Txt K mg := {
      a_is_number := f0,
      d_is_number := _,
      F_is_number := fun_mk (st := s_is_number) l0 c0 k0,
      g_is_number := PySem.W.mg_of X G a0,
      a_is_far := f1,
      d_is_far := _,
      F_is_far := fun_mk (st := s_is_far) l1 c1 k1,
      g_is_far := PySem.W.mg_of X G a1,
      a_is_triplet := f2,
      d_is_triplet := _,
      F_is_triplet := fun_mk (st := s_is_triplet) l2 c2 k2,
      g_is_triplet := PySem.W.mg_of X G a2,
      a_is_part := f3,
      d_is_part := _,
      F_is_part := fun_mk (st := s_is_part) l3 c3 k3,
      g_is_part := PySem.W.mg_of X G a3,
      a_many_of := f4,
      d_many_of := _,
      F_many_of := fun_mk (st := s_many_of) l4 c4 k4,
      g_many_of := PySem.W.mg_of X G a4,
      a_subscript_of := f5,
      d_subscript_of := _,
      F_subscript_of := fun_mk (st := s_subscript_of) l5 c5 k5,
      g_subscript_of := PySem.W.mg_of X G a5,
      a_last_of := f6,
      d_last_of := _,
      F_last_of := fun_mk (st := s_last_of) l6 c6 k6,
      g_last_of := PySem.W.mg_of X G a6,
      a_subscripts := f7,
      d_subscripts := _,
      F_subscripts := fun_mk (st := s_subscripts) l7 c7 k7,
      g_subscripts := PySem.W.mg_of X G a7,
      a_lies_between := f8,
      d_lies_between := _,
      F_lies_between := fun_mk (st := s_lies_between) l8 c8 k8,
      g_lies_between := PySem.W.mg_of X G a8,
      a_is_range := f9,
      d_is_range := _,
      F_is_range := fun_mk (st := s_is_range) l9 c9 k9,
      g_is_range := PySem.W.mg_of X G a9,
      a_is_bounds := f10,
      d_is_bounds := _,
      F_is_bounds := fun_mk (st := s_is_bounds) l10 c10 k10,
      g_is_bounds := PySem.W.mg_of X G a10,
      a_all_extents := f11,
      d_all_extents := _,
      F_all_extents := fun_mk (st := s_all_extents) l11 c11 k11,
      g_all_extents := PySem.W.mg_of X G a11,
      a_multiplied := f12,
      d_multiplied := _,
      F_multiplied := fun_mk (st := s_multiplied) l12 c12 k12,
      g_multiplied := PySem.W.mg_of X G a12,
      a_size_of := f13,
      d_size_of := _,
      F_size_of := fun_mk (st := s_size_of) l13 c13 k13,
      g_size_of := PySem.W.mg_of X G a13,
      a_weights := f14,
      d_weights := _,
      F_weights := fun_mk (st := s_weights) l14 c14 k14,
      g_weights := PySem.W.mg_of X G a14,
      a_is_element := f15,
      d_is_element := _,
      F_is_element := fun_mk (st := s_is_element) l15 c15 k15,
      g_is_element := PySem.W.mg_of X G a15,
      a_place_there := f16,
      d_place_there := _,
      F_place_there := fun_mk (st := s_place_there) l16 c16 k16,
      g_place_there := PySem.W.mg_of X G a16,
      a_element_there := f17,
      d_element_there := _,
      F_element_there := fun_mk (st := s_element_there) l17 c17 k17,
      g_element_there := PySem.W.mg_of X G a17,
      a_many_in := f18,
      d_many_in := _,
      F_many_in := fun_mk (st := s_many_in) l18 c18 k18,
      g_many_in := PySem.W.mg_of X G a18,
      a_is_section := f19,
      d_is_section := _,
      F_is_section := fun_mk (st := s_is_section) l19 c19 k19,
      g_is_section := PySem.W.mg_of X G a19,
      a_element_in := f20,
      d_element_in := _,
      F_element_in := fun_mk (st := s_element_in) l20 c20 k20,
      g_element_in := PySem.W.mg_of X G a20,
      a_joints := f21,
      d_joints := _,
      F_joints := fun_mk (st := s_joints) l21 c21 k21,
      g_joints := PySem.W.mg_of X G a21,
      a_stretches_of := f22,
      d_stretches_of := _,
      F_stretches_of := fun_mk (st := s_stretches_of) l22 c22 k22,
      g_stretches_of := PySem.W.mg_of X G a22,
      a_check_bounds := f23,
      d_check_bounds := _,
      F_check_bounds := fun_mk (st := s_check_bounds) l23 c23 k23,
      g_check_bounds := PySem.W.mg_of X G a23,
      a_is_open := f24,
      d_is_open := _,
      F_is_open := fun_mk (st := s_is_open) l24 c24 k24,
      g_is_open := PySem.W.mg_of X G a24,
      a_is_dummy := f25,
      d_is_dummy := _,
      F_is_dummy := fun_mk (st := s_is_dummy) l25 c25 k25,
      g_is_dummy := PySem.W.mg_of X G a25,
      a_with_rows := f26,
      d_with_rows := _,
      F_with_rows := fun_mk (st := s_with_rows) l26 c26 k26,
      g_with_rows := PySem.W.mg_of X G a26,
      a_whole_rows := f27,
      d_whole_rows := _,
      F_whole_rows := fun_mk (st := s_whole_rows) l27 c27 k27,
      g_whole_rows := PySem.W.mg_of X G a27,
      a_rows_and_rest := f28,
      d_rows_and_rest := _,
      F_rows_and_rest := fun_mk (st := s_rows_and_rest) l28 c28 k28,
      g_rows_and_rest := PySem.W.mg_of X G a28,
      a_place_in := f29,
      d_place_in := _,
      F_place_in := fun_mk (st := s_place_in) l29 c29 k29,
      g_place_in := PySem.W.mg_of X G a29,
      a_element_in_holder := f30,
      d_element_in_holder := _,
      F_element_in_holder := fun_mk (st := s_element_in_holder) l30 c30 k30,
      g_element_in_holder := PySem.W.mg_of X G a30,
      a_section_handed := f31,
      d_section_handed := _,
      F_section_handed := fun_mk (st := s_section_handed) l31 c31 k31,
      g_section_handed := PySem.W.mg_of X G a31,
      a_part_handed := f32,
      d_part_handed := _,
      F_part_handed := fun_mk (st := s_part_handed) l32 c32 k32,
      g_part_handed := PySem.W.mg_of X G a32,
      a_received := f33,
      d_received := _,
      F_received := fun_mk (st := s_received) l33 c33 k33,
      g_received := PySem.W.mg_of X G a33,
      a_of_array := f34,
      d_of_array := _,
      F_of_array := fun_mk (st := s_of_array) l34 c34 k34,
      g_of_array := PySem.W.mg_of X G a34,
      a_dummy_place := f35,
      d_dummy_place := _,
      F_dummy_place := fun_mk (st := s_dummy_place) l35 c35 k35,
      g_dummy_place := PySem.W.mg_of X G a35,
      a_dummy_element := f36,
      d_dummy_element := _,
      F_dummy_element := fun_mk (st := s_dummy_element) l36 c36 k36,
      g_dummy_element := PySem.W.mg_of X G a36,
      a_w_mix := f37,
      d_w_mix := _,
      F_w_mix := fun_mk (st := s_w_mix) l37 c37 k37,
      g_w_mix := PySem.W.mg_of X G a37,
      a_w_draw := f38,
      d_w_draw := _,
      F_w_draw := fun_mk (st := s_w_draw) l38 c38 k38,
      g_w_draw := PySem.W.mg_of X G a38,
      a_w_pick := f39,
      d_w_pick := _,
      F_w_pick := fun_mk (st := s_w_pick) l39 c39 k39,
      g_w_pick := PySem.W.mg_of X G a39,
      a_w_bounds := f40,
      d_w_bounds := _,
      F_w_bounds := fun_mk (st := s_w_bounds) l40 c40 k40,
      g_w_bounds := PySem.W.mg_of X G a40,
      a_w_subscripts := f41,
      d_w_subscripts := _,
      F_w_subscripts := fun_mk (st := s_w_subscripts) l41 c41 k41,
      g_w_subscripts := PySem.W.mg_of X G a41,
      a_w_elements := f42,
      d_w_elements := _,
      F_w_elements := fun_mk (st := s_w_elements) l42 c42 k42,
      g_w_elements := PySem.W.mg_of X G a42,
      a_w_place := f43,
      d_w_place := _,
      F_w_place := fun_mk (st := s_w_place) l43 c43 k43,
      g_w_place := PySem.W.mg_of X G a43,
      a_w_one_of := f44,
      d_w_one_of := _,
      F_w_one_of := fun_mk (st := s_w_one_of) l44 c44 k44,
      g_w_one_of := PySem.W.mg_of X G a44,
      a_w_size := f45,
      d_w_size := _,
      F_w_size := fun_mk (st := s_w_size) l45 c45 k45,
      g_w_size := PySem.W.mg_of X G a45,
      a_w_hand := f46,
      d_w_hand := _,
      F_w_hand := fun_mk (st := s_w_hand) l46 c46 k46,
      g_w_hand := PySem.W.mg_of X G a46,
      a_w_dummy := f47,
      d_w_dummy := _,
      F_w_dummy := fun_mk (st := s_w_dummy) l47 c47 k47,
      g_w_dummy := PySem.W.mg_of X G a47,
      a_w_seats := f48,
      d_w_seats := _,
      F_w_seats := fun_mk (st := s_w_seats) l48 c48 k48,
      g_w_seats := PySem.W.mg_of X G a48,
      a_w_right := f49,
      d_w_right := _,
      F_w_right := fun_mk (st := s_w_right) l49 c49 k49,
      g_w_right := PySem.W.mg_of X G a49,
      a_w_source := f50,
      d_w_source := _,
      F_w_source := fun_mk (st := s_w_source) l50 c50 k50,
      g_w_source := PySem.W.mg_of X G a50,
      a_w_is_none := f51,
      d_w_is_none := _,
      F_w_is_none := fun_mk (st := s_w_is_none) l51 c51 k51,
      g_w_is_none := PySem.W.mg_of X G a51,
      a_law := fa,
      d_law := _,
      F_law := fun_mk (st := s_law) l52 c52 k52,
      g_law := PySem.W.mg_of X G a52,
      z_int := PySem.W.mg_none_of X G z_int,
      z_isinstance := PySem.W.mg_none_of X G z_isinstance,
      z_bool := PySem.W.mg_none_of X G z_bool,
      z_tuple := PySem.W.mg_none_of X G z_tuple,
      z_len := PySem.W.mg_none_of X G z_len,
      z_all := PySem.W.mg_none_of X G z_all,
      z_list := PySem.W.mg_none_of X G z_list,
      z_max := PySem.W.mg_none_of X G z_max,
      z_range := PySem.W.mg_none_of X G z_range,
      z_zip := PySem.W.mg_none_of X G z_zip,
      z_sum := PySem.W.mg_none_of X G z_sum,
      z_min := PySem.W.mg_none_of X G z_min,
      z_sorted := PySem.W.mg_none_of X G z_sorted,
      z_abs := PySem.W.mg_none_of X G z_abs,
      C_InvalidSection := C_InvalidSection,
      I_InvalidSection := I_InvalidSection,
      e_InvalidSection := { gC := PySem.W.mg_of X G a_InvalidSection, mkr := x1_InvalidSection, ov := x2_InvalidSection, sa := sa_InvalidSection, ga := ga_InvalidSection, gg := gg_InvalidSection, noN := nb_InvalidSection, iC := i1_InvalidSection, tC := t1_InvalidSection, kC := kC_InvalidSection, exC := eC_InvalidSection, tyC := tC_InvalidSection, hdC := hC_InvalidSection, te := exm_own eC_InvalidSection iC_InvalidSection tC_InvalidSection sC_InvalidSection, fn := ⟨_, _, _, _, _, _, _, _, _, _, _, _, _, _, l1_InvalidSection, c1_InvalidSection⟩ },
      t_FAR := t_FAR,
      c_FAR := PySem.W.mg_of X G v_FAR,
      t_LIST_LIMIT := t_LIST_LIMIT,
      c_LIST_LIMIT := PySem.W.mg_of X G v_LIST_LIMIT,
      t_FARTHEST := t_FARTHEST,
      c_FARTHEST := PySem.W.mg_of X G v_FARTHEST,
      t_DIMENSIONS := t_DIMENSIONS,
      c_DIMENSIONS := PySem.W.mg_of X G v_DIMENSIONS }
  have TR : LamT T base := { c := c_T, P := P_T, code := rfl, TB := hB _ (List.mem_singleton.mpr rfl), mem := List.mem_singleton.mpr rfl, uq := fun p hp _ => by rw [List.mem_singleton.mp (show p ∈ [(P_T, qual_w_right)] from hp)] }
  exact ok_law (P := l.prog) (w := w) (K := K) (mg := mg) (base := base) T TR right_ok
end DL
open PySem PySem.W PyProof.Rows
set_option maxHeartbeats 0 in
theorem PySem.Challenge.cw_sectionwise_k70_whole_elements_of_dummie_holds : PySem.Challenge.rw_sectionwise_k70_whole_elements_of_dummie.Holds := by
  w_on; o_law; k_head; (case hw => w_witness2)
  k_fill
  refine LamX.walk_ofTs (l := PySem.Challenge.rw_sectionwise_k70_whole_elements_of_dummie) (n := 63) (k := 13) (x := "_law_script") (CX := fun w => L2.CX PySem.Challenge.pw_sectionwise_k70_whole_elements_of_dummie w) rfl (by decide) rfl ⟨rfl, by decide, by decide⟩ (fun w h Y => PySem.W.km_in_of Y) ?F (fun _ _ _ _ _ h => by obtain ⟨_, _, _, _, _, _, _, _, _, _, _, _, z⟩ := h; exact z)
  case F =>
    intro w mg fa h Y KX G hmg
    refine' DL.all_mk KX G hmg ?a0 ?l0 ?c0 ?k0 ?a1 ?l1 ?c1 ?k1 ?a2 ?l2 ?c2 ?k2 ?a3 ?l3 ?c3 ?k3 ?a4 ?l4 ?c4 ?k4 ?a5 ?l5 ?c5 ?k5 ?a6 ?l6 ?c6 ?k6 ?a7 ?l7 ?c7 ?k7 ?a8 ?l8 ?c8 ?k8 ?a9 ?l9 ?c9 ?k9 ?a10 ?l10 ?c10 ?k10 ?a11 ?l11 ?c11 ?k11 ?a12 ?l12 ?c12 ?k12 ?a13 ?l13 ?c13 ?k13 ?a14 ?l14 ?c14 ?k14 ?a15 ?l15 ?c15 ?k15 ?a16 ?l16 ?c16 ?k16 ?a17 ?l17 ?c17 ?k17 ?a18 ?l18 ?c18 ?k18 ?a19 ?l19 ?c19 ?k19 ?a20 ?l20 ?c20 ?k20 ?a21 ?l21 ?c21 ?k21 ?a22 ?l22 ?c22 ?k22 ?a23 ?l23 ?c23 ?k23 ?a24 ?l24 ?c24 ?k24 ?a25 ?l25 ?c25 ?k25 ?a26 ?l26 ?c26 ?k26 ?a27 ?l27 ?c27 ?k27 ?a28 ?l28 ?c28 ?k28 ?a29 ?l29 ?c29 ?k29 ?a30 ?l30 ?c30 ?k30 ?a31 ?l31 ?c31 ?k31 ?a32 ?l32 ?c32 ?k32 ?a33 ?l33 ?c33 ?k33 ?a34 ?l34 ?c34 ?k34 ?a35 ?l35 ?c35 ?k35 ?a36 ?l36 ?c36 ?k36 ?a37 ?l37 ?c37 ?k37 ?a38 ?l38 ?c38 ?k38 ?a39 ?l39 ?c39 ?k39 ?a40 ?l40 ?c40 ?k40 ?a41 ?l41 ?c41 ?k41 ?a42 ?l42 ?c42 ?k42 ?a43 ?l43 ?c43 ?k43 ?a44 ?l44 ?c44 ?k44 ?a45 ?l45 ?c45 ?k45 ?a46 ?l46 ?c46 ?k46 ?a47 ?l47 ?c47 ?k47 ?a48 ?l48 ?c48 ?k48 ?a49 ?l49 ?c49 ?k49 ?a50 ?l50 ?c50 ?k50 ?a51 ?l51 ?c51 ?k51 ?a52 ?l52 ?c52 ?k52 ?lc_T ?vP_T ?hc_T ?np_T ?hp_T ?a_InvalidSection ?x1_InvalidSection ?x2_InvalidSection ?sa_InvalidSection ?ga_InvalidSection ?gg_InvalidSection ?nb_InvalidSection ?i1_InvalidSection ?t1_InvalidSection ?l1_InvalidSection ?c1_InvalidSection ?kC_InvalidSection ?eC_InvalidSection ?tC_InvalidSection ?hC_InvalidSection ?iC_InvalidSection ?sC_InvalidSection ?z_int ?z_isinstance ?z_bool ?z_tuple ?z_len ?z_all ?z_list ?z_max ?z_range ?z_zip ?z_sum ?z_min ?z_sorted ?z_abs ?v_FAR ?v_LIST_LIMIT ?v_FARTHEST ?v_DIMENSIONS
    (case a0 => k_is); (case l0 => k_is); (case c0 => k_is); (case k0 => k_is); (case a1 => k_is); (case l1 => k_is); (case c1 => k_is); (case k1 => k_is); (case a2 => k_is); (case l2 => k_is); (case c2 => k_is); (case k2 => k_is); (case a3 => k_is); (case l3 => k_is); (case c3 => k_is); (case k3 => k_is); (case a4 => k_is); (case l4 => k_is); (case c4 => k_is); (case k4 => k_is); (case a5 => k_is); (case l5 => k_is); (case c5 => k_is); (case k5 => k_is); (case a6 => k_is); (case l6 => k_is); (case c6 => k_is); (case k6 => k_is); (case a7 => k_is); (case l7 => k_is); (case c7 => k_is); (case k7 => k_is); (case a8 => k_is); (case l8 => k_is); (case c8 => k_is); (case k8 => k_is); (case a9 => k_is); (case l9 => k_is); (case c9 => k_is); (case k9 => k_is); (case a10 => k_is); (case l10 => k_is); (case c10 => k_is); (case k10 => k_is); (case a11 => k_is); (case l11 => k_is); (case c11 => k_is); (case k11 => k_is); (case a12 => k_is); (case l12 => k_is); (case c12 => k_is); (case k12 => k_is); (case a13 => k_is); (case l13 => k_is); (case c13 => k_is); (case k13 => k_is); (case a14 => k_is); (case l14 => k_is); (case c14 => k_is); (case k14 => k_is); (case a15 => k_is); (case l15 => k_is); (case c15 => k_is); (case k15 => k_is); (case a16 => k_is); (case l16 => k_is); (case c16 => k_is); (case k16 => k_is); (case a17 => k_is); (case l17 => k_is); (case c17 => k_is); (case k17 => k_is); (case a18 => k_is); (case l18 => k_is); (case c18 => k_is); (case k18 => k_is); (case a19 => k_is); (case l19 => k_is); (case c19 => k_is); (case k19 => k_is); (case a20 => k_is); (case l20 => k_is); (case c20 => k_is); (case k20 => k_is); (case a21 => k_is); (case l21 => k_is); (case c21 => k_is); (case k21 => k_is); (case a22 => k_is); (case l22 => k_is); (case c22 => k_is); (case k22 => k_is); (case a23 => k_is); (case l23 => k_is); (case c23 => k_is); (case k23 => k_is); (case a24 => k_is); (case l24 => k_is); (case c24 => k_is); (case k24 => k_is); (case a25 => k_is); (case l25 => k_is); (case c25 => k_is); (case k25 => k_is); (case a26 => k_is); (case l26 => k_is); (case c26 => k_is); (case k26 => k_is); (case a27 => k_is); (case l27 => k_is); (case c27 => k_is); (case k27 => k_is); (case a28 => k_is); (case l28 => k_is); (case c28 => k_is); (case k28 => k_is); (case a29 => k_is); (case l29 => k_is); (case c29 => k_is); (case k29 => k_is); (case a30 => k_is); (case l30 => k_is); (case c30 => k_is); (case k30 => k_is); (case a31 => k_is); (case l31 => k_is); (case c31 => k_is); (case k31 => k_is); (case a32 => k_is); (case l32 => k_is); (case c32 => k_is); (case k32 => k_is); (case a33 => k_is); (case l33 => k_is); (case c33 => k_is); (case k33 => k_is); (case a34 => k_is); (case l34 => k_is); (case c34 => k_is); (case k34 => k_is); (case a35 => k_is); (case l35 => k_is); (case c35 => k_is); (case k35 => k_is); (case a36 => k_is); (case l36 => k_is); (case c36 => k_is); (case k36 => k_is); (case a37 => k_is); (case l37 => k_is); (case c37 => k_is); (case k37 => k_is); (case a38 => k_is); (case l38 => k_is); (case c38 => k_is); (case k38 => k_is); (case a39 => k_is); (case l39 => k_is); (case c39 => k_is); (case k39 => k_is); (case a40 => k_is); (case l40 => k_is); (case c40 => k_is); (case k40 => k_is); (case a41 => k_is); (case l41 => k_is); (case c41 => k_is); (case k41 => k_is); (case a42 => k_is); (case l42 => k_is); (case c42 => k_is); (case k42 => k_is); (case a43 => k_is); (case l43 => k_is); (case c43 => k_is); (case k43 => k_is); (case a44 => k_is); (case l44 => k_is); (case c44 => k_is); (case k44 => k_is); (case a45 => k_is); (case l45 => k_is); (case c45 => k_is); (case k45 => k_is); (case a46 => k_is); (case l46 => k_is); (case c46 => k_is); (case k46 => k_is); (case a47 => k_is); (case l47 => k_is); (case c47 => k_is); (case k47 => k_is); (case a48 => k_is); (case l48 => k_is); (case c48 => k_is); (case k48 => k_is); (case a49 => k_is); (case l49 => k_is); (case c49 => k_is); (case k49 => k_is); (case a50 => k_is); (case l50 => k_is); (case c50 => k_is); (case k50 => k_is); (case a51 => k_is); (case l51 => k_is); (case c51 => k_is); (case k51 => k_is); (case a52 => k_is); (case l52 => k_is); (case c52 => k_is); (case k52 => k_is); (case lc_T => k_is); (case vP_T => first | rfl | kx_is | k_is | decide +kernel); (case hc_T => first | rfl | kx_is | k_is | decide +kernel); (case np_T => first | rfl | kx_is | k_is | decide +kernel); (case hp_T => exact PySem.W.km_tabs_of Y _ (by simp)); (case a_InvalidSection => k_is); (case x1_InvalidSection => first | rfl | kx_is | k_is | decide +kernel); (case x2_InvalidSection => first | rfl | kx_is | k_is | decide +kernel); (case sa_InvalidSection => k_is); (case ga_InvalidSection => k_is); (case gg_InvalidSection => k_is); (case nb_InvalidSection => k_is); (case i1_InvalidSection => k_is); (case t1_InvalidSection => k_is); (case l1_InvalidSection => k_is); (case c1_InvalidSection => k_is); (case kC_InvalidSection => k_is); (case eC_InvalidSection => k_is); (case tC_InvalidSection => k_is); (case hC_InvalidSection => k_is); (case iC_InvalidSection => k_is); (case sC_InvalidSection => first | rfl | kx_is | k_is | decide +kernel); (case z_int => k_is); (case z_isinstance => k_is); (case z_bool => k_is); (case z_tuple => k_is); (case z_len => k_is); (case z_all => k_is); (case z_list => k_is); (case z_max => k_is); (case z_range => k_is); (case z_zip => k_is); (case z_sum => k_is); (case z_min => k_is); (case z_sorted => k_is); (case z_abs => k_is); (case v_FAR => k_is); (case v_LIST_LIMIT => k_is); (case v_FARTHEST => k_is); (case v_DIMENSIONS => k_is)
