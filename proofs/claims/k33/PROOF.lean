import PyProof.Rows.All
import HandS.ForMost
import HandS.ForExc
import HandS.Style
import HandS.Wide
import HandS.Zip
import HandS.Defaults
import HandS.IsInst
import HandS.Walk
import HandS.Evl
import HandS.TupAny
import HandS.TupMul
import KE.GoesNew
import KE.KExcLine
import HandS.Lambda
import HandS.Deep
import HandS.SortInts
import HandS.Conv
import KE.GoesEnum
import HandS.Comp
import HandS.Strs
import HandS.SetBool
import KE.DataMinMax
import PyProof.ReprRoads
import KE.KExcInit
import PyProof.SumWalkG
import PyProof.ListOps
import HandS.ExcValue
import PySem.Challenge.RW_sectionwise_k33_assignments_with_lists
set_option Elab.async false
set_option linter.all false
set_option maxRecDepth 100000

set_option maxHeartbeats 2000000
namespace DL
open PySem PySem.Spec PyProof.Rows L2
open Evl (Ex)

/-! ### data, and how it stands in the heap -/
/-- the keys of a dict: tuples of ints, or ints and texts -/
inductive DKs where
  | t (ks : List (List Int)) | k (ks : List Key)
/-- what a program's value is, without addresses: lists that nobody writes any more are trees -/
inductive D where
  | non | bl (b : Bool) | int (i : Int) | str (x : Str) | lst (xs : List D) | tup (xs : List D)
  /-- a list that only its own slot knows -/
  | own (xs : List D)
  /-- a dict that only its own slot knows -/
  | dct (ks : DKs) (xs : List D)
  /-- a dict that nobody writes any more -/
  | dcf (ks : DKs) (xs : List D)
  /-- a list that is new -/
  | nl (xs : List D)
  /-- the list of three numbers that draws change -/
  | well
  | ref (a : Addr)
  /-- a built-in class -/
  | ty (n : String)
/-- the tables of code objects that may grow, each with the name of what it holds -/
class TabT where
  T : List (PySem.Addr × PySem.Str)
  em : T = []
theorem tabs_nil [TabT] {H : Hp} : LamX.Tabs TabT.T H := fun q hq => by rw [TabT.em] at hq; cases hq
/-- no table -/
def NT (o : HO) : Prop := ∀ ps, o ≠ .tbl ps
/-- neither a table nor a tuple -/
def NU (o : HO) : Prop := NT o ∧ ∀ xs, o ≠ .tup xs
theorem nt_lst {xs : List V} : NT (.lst xs) := fun _ z => nomatch z
theorem nu_lst {xs : List V} : NU (.lst xs) := ⟨nt_lst, fun _ z => nomatch z⟩
theorem nt_tup {xs : List V} : NT (.tup xs) := fun _ z => nomatch z
theorem nt_xd {xs : List (Str × V)} : NT (.xd xs) := fun _ z => nomatch z
/-- nothing there but a table, if anything -/
def Fr (H : Hp) (p : Addr) : Prop := ∀ o, H p = some o → ¬ NT o
theorem Fr.of {H : Hp} {p : Addr} (h : H p = none) : Fr H p := fun o e => by rw [h] at e; cases e
theorem ne_of_fr {H : Hp} {a p : Addr} {o : HO} (h : H a = some o) (t : NT o) (n : Fr H p) : a ≠ p := fun z => n o (z ▸ h) t
theorem tabs_upd {T : List (PySem.Addr × PySem.Str)} {H : Hp} {p : Addr} {o : HO} (t : LamX.Tabs T H) (h : H p = none ∨ ∃ xs, H p = some (.lst xs)) : LamX.Tabs T (upd H p o) := fun q hq => by
  obtain ⟨ps, h1, h2, h3⟩ := t q hq
  have n1 : q.1 ≠ p := fun z => by
    rw [z] at h1
    rcases h with e | ⟨xs, e⟩ <;> (rw [e] at h1; cases h1)
  refine ⟨ps, by rw [upd_ne n1]; exact h1, h2, fun pos cv hc => ?_⟩
  obtain ⟨c, e1, e2⟩ := h3 pos cv hc
  have n2 : c ≠ p := fun z => by
    rw [z] at e2
    rcases h with e | ⟨xs, e⟩
    · rw [e] at e2; cases e2
    · rw [e] at e2
      have := Option.some.inj e2
      unfold LamX.CodeO at this
      cases this
  exact ⟨c, e1, by rw [upd_ne n2]; exact e2⟩
variable [TabT]
/-- the objects that were there before -/
class OldT where
  old : Hp
variable [OldT]
abbrev Wl := Int × Int × Int
/-- a tuple of ints as a key -/
def keyT (k : List Int) : List Key := k.map Sum.inl
def wl (w : Wl) : List V := [.int w.1, .int w.2.1, .int w.2.2]
mutual
inductive Rep (wa : Addr) (Hf : Hp) : V → D → Prop
  | non : Rep wa Hf .non .non
  | bl (b : Bool) : Rep wa Hf (.bl b) (.bl b)
  | int (i : Int) : Rep wa Hf (.int i) (.int i)
  | str (x : Str) : Rep wa Hf (.str x) (.str x)
  | lst {a : Addr} {xs : List V} {ds : List D} : Hf a = some (.lst xs) → Reps wa Hf xs ds → Rep wa Hf (.ref a) (.lst ds)
  | tup {a : Addr} {xs : List V} {ds : List D} : Hf a = some (.tup xs) → Reps wa Hf xs ds → Rep wa Hf (.ref a) (.tup ds)
  | well : Rep wa Hf (.ref wa) .well
  | ref (a : Addr) : Rep wa Hf (.ref a) (.ref a)
  | ty (n : String) : Rep wa Hf (.ty n) (.ty n)
  | nl {a : Addr} {xs : List V} {ds : List D} : Hf a = some (.lst xs) → OldT.old a = none → Reps wa Hf xs ds → Rep wa Hf (.ref a) (.nl ds)
  | dft {a : Addr} {ob : Obj} {kvs : List (List Key × V)} {ks : List (List Int)} {ds : List D} : Hf a = some (.frz ob (.dT kvs)) → kvs.map (·.1) = ks.map keyT → Reps wa Hf (kvs.map (·.2)) ds → Rep wa Hf (.ref a) (.dcf (.t ks) ds)
  | dfk {a : Addr} {ob : Obj} {kvs : List (Key × V)} {ks : List Key} {ds : List D} : Hf a = some (.frz ob (.dK kvs)) → kvs.map (·.1) = ks → Reps wa Hf (kvs.map (·.2)) ds → Rep wa Hf (.ref a) (.dcf (.k ks) ds)
inductive Reps (wa : Addr) (Hf : Hp) : List V → List D → Prop
  | nil : Reps wa Hf [] []
  | cons {v : V} {vs : List V} {d : D} {ds : List D} : Rep wa Hf v d → Reps wa Hf vs ds → Reps wa Hf (v :: vs) (d :: ds)
end
section
variable {wa : Addr} {Hf Hf' Hf1 H H' H1 : Hp}
mutual
theorem Rep.mono (e : Ex Hf Hf') : ∀ {v : V} {d : D}, Rep wa Hf v d → Rep wa Hf' v d
  | _, _, .non => .non
  | _, _, .bl b => .bl b
  | _, _, .int i => .int i
  | _, _, .str x => .str x
  | _, _, .lst h r => .lst (e _ _ h) (Reps.mono e r)
  | _, _, .tup h r => .tup (e _ _ h) (Reps.mono e r)
  | _, _, .well => .well
  | _, _, .ref a => .ref a
  | _, _, .ty a => .ty a
  | _, _, .nl h o r => .nl (e _ _ h) o (Reps.mono e r)
  | _, _, .dft h k r => .dft (e _ _ h) k (Reps.mono e r)
  | _, _, .dfk h k r => .dfk (e _ _ h) k (Reps.mono e r)
theorem Reps.mono (e : Ex Hf Hf') : ∀ {vs : List V} {ds : List D}, Reps wa Hf vs ds → Reps wa Hf' vs ds
  | _, _, .nil => .nil
  | _, _, .cons h r => .cons (Rep.mono e h) (Reps.mono e r)
end
theorem Reps.length : ∀ {vs : List V} {ds : List D}, Reps wa Hf vs ds → vs.length = ds.length
  | _, _, .nil => rfl
  | _, _, .cons _ r => by simp [Reps.length r]
theorem Reps.get : ∀ {vs : List V} {ds : List D} {i : Nat} {d : D}, Reps wa Hf vs ds → ds[i]? = some d → ∃ v, vs[i]? = some v ∧ Rep wa Hf v d
  | _, _, _, _, .nil, e => by simp at e
  | _, _, 0, _, .cons r _, e => by simp at e; subst e; exact ⟨_, rfl, r⟩
  | _, _, i + 1, d, .cons _ t, e => by
    obtain ⟨v, h1, h2⟩ := Reps.get (i := i) (d := d) t (by simpa using e)
    exact ⟨v, by simpa using h1, h2⟩
theorem Reps.getV : ∀ {vs : List V} {ds : List D} {i : Nat} {v : V}, Reps wa Hf vs ds → vs[i]? = some v → ∃ d, ds[i]? = some d ∧ Rep wa Hf v d
  | _, _, _, _, .nil, e => by simp at e
  | _, _, 0, _, .cons r _, e => by simp at e; subst e; exact ⟨_, rfl, r⟩
  | _, _, i + 1, d, .cons _ t, e => by
    obtain ⟨v, h1, h2⟩ := Reps.getV (i := i) (v := d) t (by simpa using e)
    exact ⟨v, by simpa using h1, h2⟩
theorem Reps.append : ∀ {vs ws : List V} {ds es : List D}, Reps wa Hf vs ds → Reps wa Hf ws es → Reps wa Hf (vs ++ ws) (ds ++ es)
  | _, _, _, _, .nil, s => s
  | _, _, _, _, .cons r t, s => .cons r (Reps.append t s)
theorem Reps.take : ∀ {vs : List V} {ds : List D} (n : Nat), Reps wa Hf vs ds → Reps wa Hf (vs.take n) (ds.take n)
  | _, _, 0, _ => .nil
  | _, _, _ + 1, .nil => .nil
  | _, _, n + 1, .cons r t => .cons r (Reps.take n t)
theorem Reps.drop : ∀ {vs : List V} {ds : List D} (n : Nat), Reps wa Hf vs ds → Reps wa Hf (vs.drop n) (ds.drop n)
  | _, _, 0, r => r
  | _, _, _ + 1, .nil => .nil
  | _, _, n + 1, .cons _ t => Reps.drop n t
theorem Reps.reverse : ∀ {vs : List V} {ds : List D}, Reps wa Hf vs ds → Reps wa Hf vs.reverse ds.reverse
  | _, _, .nil => .nil
  | _, _, .cons r t => by
    rw [List.reverse_cons, List.reverse_cons]
    exact (Reps.reverse t).append (.cons r .nil)
theorem Reps.rep {vs : List V} {ds : List D} (h : Reps wa Hf vs ds) : ∀ k : Nat, Reps wa Hf (List.replicate k vs).flatten (List.replicate k ds).flatten
  | 0 => .nil
  | k + 1 => by
    rw [List.replicate_succ, List.replicate_succ, List.flatten_cons, List.flatten_cons]
    exact h.append (h.rep k)
theorem Reps.ints : ∀ {vs : List V} {ns : List Int}, Reps wa Hf vs (ns.map D.int) → vs = ns.map V.int
  | _, [], h => by cases h; rfl
  | _, n :: ns, h => by
    cases h with
    | cons h1 h2 =>
      cases h1
      rw [Reps.ints h2]
      rfl
theorem Reps.bls : ∀ {vs : List V} {ns : List Bool}, Reps wa Hf vs (ns.map D.bl) → vs = ns.map V.bl
  | _, [], h => by cases h; rfl
  | _, n :: ns, h => by
    cases h with
    | cons h1 h2 =>
      cases h1
      rw [Reps.bls h2]
      rfl
theorem Reps.of_ints : ∀ {ns : List Int}, Reps wa Hf (ns.map V.int) (ns.map D.int)
  | [] => .nil
  | n :: ns => .cons (.int n) Reps.of_ints

/-- the frozen part is there, and the well -/
structure Base (wa : Addr) (Hf H : Hp) (w : Wl) : Prop where
  ex : Ex Hf H
  well : H wa = some (.lst (wl w))
  nw : Hf wa = none
  tb : LamX.Tabs TabT.T H
  nt : ∀ a o, Hf a = some o → NT o
  od : Ex OldT.old Hf
/-- from a heap to a later one -/
structure Go (wa : Addr) (H Hf H' Hf' : Hp) : Prop where
  keepN : ∀ a o, a ≠ wa → NT o → H a = some o → H' a = some o
  ex : Ex Hf Hf'
  newN : ∀ a o, NU o → H a = some o → Hf' a = Hf a
  thereN : ∀ a o, NT o → H a = some o → ∃ o', NT o' ∧ (NU o → NU o') ∧ H' a = some o'
theorem Go.keep (g : Go wa H Hf H' Hf') (a : Addr) (xs : List V) (n : a ≠ wa) (h : H a = some (.lst xs)) : H' a = some (.lst xs) := g.keepN a _ n nt_lst h
theorem Go.new (g : Go wa H Hf H' Hf') (a : Addr) (xs : List V) (h : H a = some (.lst xs)) : Hf' a = Hf a := g.newN a _ nu_lst h
theorem Go.refl : Go wa H Hf H Hf := ⟨fun _ _ _ _ h => h, Ex.refl _, fun _ _ _ _ => rfl, fun _ o t h => ⟨o, t, id, h⟩⟩
theorem Go.trans (a : Go wa H Hf H1 Hf1) (b : Go wa H1 Hf1 H' Hf') : Go wa H Hf H' Hf' :=
  ⟨fun x o n t h => b.keepN x o n t (a.keepN x o n t h), a.ex.trans b.ex, fun x o t h => by
    obtain ⟨o', t', u', h'⟩ := a.thereN x o t.1 h
    rw [b.newN x o' (u' t) h', a.newN x o t h], fun x o t h => by
    obtain ⟨o', t', u', h'⟩ := a.thereN x o t h
    obtain ⟨o2, t2, u2, h2⟩ := b.thereN x o' t' h'
    exact ⟨o2, t2, fun z => u2 (u' z), h2⟩⟩
theorem Go.fr (g : Go wa H Hf H' Hf') {p : Addr} (h : Fr H' p) : Fr H p := fun o q t => by
  obtain ⟨o', t', _, e⟩ := g.thereN p o t q
  exact h o' e t'
theorem Go.free (g : Go wa H Hf H' Hf') {p : Addr} (h : H' p = none) : Fr H p := g.fr (.of h)
/-- a new object, not frozen -/
theorem Go.new1 {p : Addr} {o : HO} (h : H p = none) : Go wa H Hf (upd H p o) Hf :=
  ⟨fun a u _ _ e => by rw [upd_ne (ne_of_none e h)]; exact e, Ex.refl _, fun _ _ _ _ => rfl, fun a u t e => ⟨u, t, id, by rw [upd_ne (ne_of_none e h)]; exact e⟩⟩
/-- a new object, frozen at once -/
theorem Go.newF {p : Addr} {o : HO} (x : Ex Hf H) (h : H p = none) : Go wa H Hf (upd H p o) (upd Hf p o) :=
  have hf : Hf p = none := Evl.fresh_back x h
  ⟨fun a u _ _ e => by rw [upd_ne (ne_of_none e h)]; exact e, Ex.new hf, fun a u _ e => by rw [upd_ne (ne_of_none e h)], fun a u t e => ⟨u, t, id, by rw [upd_ne (ne_of_none e h)]; exact e⟩⟩
theorem Base.new1 {w : Wl} {p : Addr} {o : HO} (b : Base wa Hf H w) (h : H p = none) : Base wa Hf (upd H p o) w :=
  ⟨b.ex.trans (Ex.new h), by rw [upd_ne (ne_of_none b.well h)]; exact b.well, b.nw, tabs_upd b.tb (.inl h), b.nt, b.od⟩
theorem nt_upd {Hf : Hp} {p : Addr} {o : HO} (n : ∀ a o, Hf a = some o → NT o) (t : NT o) : ∀ a u, upd Hf p o a = some u → NT u := fun a u e => by
  by_cases hp : a = p
  · subst hp; rw [upd_same] at e; cases e; exact t
  · rw [upd_ne hp] at e; exact n a u e
theorem ex_upd2 {p : Addr} {o : HO} (x : Ex Hf H) : Ex (upd Hf p o) (upd H p o) := fun a u e => by
  by_cases hp : a = p
  · subst hp; rw [upd_same] at e ⊢; exact e
  · rw [upd_ne hp] at e ⊢; exact x a u e
theorem Base.newF {w : Wl} {p : Addr} {o : HO} (b : Base wa Hf H w) (h : H p = none) (t : NT o := by first | exact nt_lst | exact nt_tup | exact nt_xd) : Base wa (upd Hf p o) (upd H p o) w :=
  ⟨ex_upd2 b.ex, by rw [upd_ne (ne_of_none b.well h)]; exact b.well, by rw [upd_ne (ne_of_none b.well h)]; exact b.nw, tabs_upd b.tb (.inl h), nt_upd b.nt t, b.od.trans (Ex.new (Evl.fresh_back b.ex h))⟩
end

/-! ### what comes of a piece of code -/
structure Exn where
  name : Str
  fs : List (Str × D)
inductive R (α : Type) where
  | ok (a : α) (w : Wl) | er (x : Exn) (w : Wl) | no
def R.bind {α β : Type} (r : R α) (k : α → Wl → R β) : R β := match r with
  | .ok a w => k a w
  | .er x w => .er x w
  | .no => .no
def R.noer {α : Type} (r : R α) : R α := match r with
  | .ok a w => .ok a w
  | _ => .no
@[simp] theorem R.bind_ok {α β : Type} {a : α} {w : Wl} {k : α → Wl → R β} : (R.ok a w).bind k = k a w := rfl
@[simp] theorem R.bind_er {α β : Type} {x : Exn} {w : Wl} {k : α → Wl → R β} : (R.er x w).bind k = .er x w := rfl
@[simp] theorem R.bind_no {α β : Type} {k : α → Wl → R β} : (R.no).bind k = .no := rfl
@[simp] theorem R.noer_ok {α : Type} {a : α} {w : Wl} : (R.ok a w).noer = .ok a w := rfl
abbrev Sl := List (Option D)
abbrev DE := Sl → Wl → R D
abbrev DT := Sl → Wl → R Bool
abbrev DA := Sl → Wl → R (List D)
abbrev DG := D → Sl → Option Sl
inductive RS where
  | nx (s : Sl) (w : Wl) | rt (d : D) (w : Wl) | bk (s : Sl) (w : Wl) | ct (s : Sl) (w : Wl) | er (x : Exn) (s : Sl) (w : Wl) | no
abbrev DS := Sl → Wl → RS
abbrev DF := List D → Wl → R D

/-- what an exception is -/
def ErrV (mg : Str → Option Value) (wa : Addr) (Hf : Hp) (x : Exn) (cls : Value) (dx : Option Addr) : Prop :=
  ∃ (C d : Addr) (vs : List (Str × V)), mg x.name = some (.ref C) ∧ cls = .ref C ∧ dx = some d ∧ Hf d = some (.xd vs) ∧ vs.map (·.1) = x.fs.map (·.1) ∧ Reps wa Hf (vs.map (·.2)) (x.fs.map (·.2))
def Fin {α : Type} (wa : Addr) (Hf H : Hp) (r : R α) (Ok : α → Wl → Hp → Hp → Prop) (Er : Exn → Wl → Hp → Hp → Prop) : Prop := match r with
  | .ok a w' => ∀ H' Hf', Go wa H Hf H' Hf' → Base wa Hf' H' w' → Ok a w' H' Hf'
  | .er x w' => ∀ H' Hf', Go wa H Hf H' Hf' → Base wa Hf' H' w' → Er x w' H' Hf'
  | .no => False
section
variable {wa : Addr} {Hf H : Hp} {α β : Type}
theorem Fin.bind {r : R α} {k : α → Wl → R β} {Ok : β → Wl → Hp → Hp → Prop} {Er : Exn → Wl → Hp → Hp → Prop} (h : Fin wa Hf H (r.bind k) Ok Er) :
    Fin wa Hf H r (fun a w1 H1 Hf1 => Fin wa Hf1 H1 (k a w1) Ok Er) Er := by
  cases r with
  | ok a w1 =>
    intro H1 Hf1 g b
    have h : Fin wa Hf H (k a w1) Ok Er := h
    cases e : k a w1 with
    | ok a2 w2 => rw [e] at h; exact fun H2 Hf2 g2 b2 => h H2 Hf2 (g.trans g2) b2
    | er x w2 => rw [e] at h; exact fun H2 Hf2 g2 b2 => h H2 Hf2 (g.trans g2) b2
    | no => rw [e] at h; exact h
  | er x w1 => exact h
  | no => exact h
theorem Fin.mono {r : R α} {Ok Ok' : α → Wl → Hp → Hp → Prop} {Er Er' : Exn → Wl → Hp → Hp → Prop} (h : Fin wa Hf H r Ok Er)
    (ho : ∀ a w' H' Hf', Go wa H Hf H' Hf' → Base wa Hf' H' w' → Ok a w' H' Hf' → Ok' a w' H' Hf') (he : ∀ x w' H' Hf', Go wa H Hf H' Hf' → Base wa Hf' H' w' → Er x w' H' Hf' → Er' x w' H' Hf') : Fin wa Hf H r Ok' Er' := by
  cases r with
  | ok a w1 => exact fun H1 Hf1 g b => ho _ _ _ _ g b (h H1 Hf1 g b)
  | er x w1 => exact fun H1 Hf1 g b => he _ _ _ _ g b (h H1 Hf1 g b)
  | no => exact h
theorem Fin.here {a : α} {w : Wl} {Ok : α → Wl → Hp → Hp → Prop} {Er : Exn → Wl → Hp → Hp → Prop} (h : Fin wa Hf H (.ok a w) Ok Er) (b : Base wa Hf H w) : Ok a w H Hf := h H Hf Go.refl b
theorem Fin.noer {r : R α} {Ok : α → Wl → Hp → Hp → Prop} {Er Er' : Exn → Wl → Hp → Hp → Prop} (h : Fin wa Hf H r.noer Ok Er) : Fin wa Hf H r Ok Er' := by
  cases r with
  | ok a w1 => exact h
  | er x w1 => exact False.elim h
  | no => exact h
end

/-! ### slots -/
theorem nt_dT {kvs : List (List Key × V)} : NT (.dT kvs) := fun _ z => nomatch z
theorem nt_dK {kvs : List (Key × V)} : NT (.dK kvs) := fun _ z => nomatch z
theorem nu_dT {kvs : List (List Key × V)} : NU (.dT kvs) := ⟨nt_dT, fun _ z => nomatch z⟩
theorem nu_dK {kvs : List (Key × V)} : NU (.dK kvs) := ⟨nt_dK, fun _ z => nomatch z⟩
/-- what a dict holds -/
inductive DicR (wa : Addr) (Hf : Hp) : HO → DKs → List D → Prop
  | t {kvs : List (List Key × V)} {ks : List (List Int)} {xs : List D} : kvs.map (·.1) = ks.map keyT → Reps wa Hf (kvs.map (·.2)) xs → DicR wa Hf (.dT kvs) (.t ks) xs
  | k {kvs : List (Key × V)} {ks : List Key} {xs : List D} : kvs.map (·.1) = ks → Reps wa Hf (kvs.map (·.2)) xs → DicR wa Hf (.dK kvs) (.k ks) xs
theorem DicR.mono {wa : Addr} {Hf Hf' : Hp} {o : HO} {ks : DKs} {xs : List D} (r : DicR wa Hf o ks xs) (e : Ex Hf Hf') : DicR wa Hf' o ks xs := by
  cases r with
  | t h r => exact .t h (r.mono e)
  | k h r => exact .k h (r.mono e)
theorem DicR.nt {wa : Addr} {Hf : Hp} {o : HO} {ks : DKs} {xs : List D} (r : DicR wa Hf o ks xs) : NT o := by
  cases r with
  | t h r => exact nt_dT
  | k h r => exact nt_dK
theorem DicR.nu {wa : Addr} {Hf : Hp} {o : HO} {ks : DKs} {xs : List D} (r : DicR wa Hf o ks xs) : NU o := by
  cases r with
  | t h r => exact nu_dT
  | k h r => exact nu_dK
/-- a value that only its slot knows -/
def IsO (d : D) : Prop := (∃ xs, d = .own xs) ∨ ∃ ks xs, d = .dct ks xs
theorem isO_own {xs : List D} : IsO (.own xs) := .inl ⟨xs, rfl⟩
theorem isO_dct {ks : DKs} {xs : List D} : IsO (.dct ks xs) := .inr ⟨ks, xs, rfl⟩
structure Slots (wa : Addr) (Hf H : Hp) (σ : L2.St) (s : Sl) : Prop where
  len : σ.length = s.length
  val : ∀ (i : Nat) (d : D), s[i]? = some (some d) → ¬ IsO d → ∃ v, σ[i]? = some (some v) ∧ Rep wa Hf v d
  own : ∀ (i : Nat) (xs : List D), s[i]? = some (some (.own xs)) → ∃ p vs, σ[i]? = some (some (.ref p)) ∧ H p = some (.lst vs) ∧ Hf p = none ∧ p ≠ wa ∧ Reps wa Hf vs xs
  dic : ∀ (i : Nat) (ks : DKs) (xs : List D), s[i]? = some (some (.dct ks xs)) → ∃ p o, σ[i]? = some (some (.ref p)) ∧ H p = some o ∧ Hf p = none ∧ p ≠ wa ∧ DicR wa Hf o ks xs
  inj : ∀ (i j : Nat) (d e : D) (p : Addr), s[i]? = some (some d) → IsO d → s[j]? = some (some e) → IsO e → σ[i]? = some (some (.ref p)) → σ[j]? = some (some (.ref p)) → i = j
def OwnNew (H0 : Hp) (σ : L2.St) (s : Sl) : Prop := ∀ (i : Nat) (d : D) (p : Addr), s[i]? = some (some d) → IsO d → σ[i]? = some (some (.ref p)) → Fr H0 p
theorem rep_own {wa : Addr} {Hf : Hp} {v : V} {xs : List D} : ¬ Rep wa Hf v (.own xs) := fun h => nomatch h
theorem rep_isO {wa : Addr} {Hf : Hp} {v : V} {d : D} (r : Rep wa Hf v d) : ¬ IsO d := fun h => by
  rcases h with ⟨xs, rfl⟩ | ⟨ks, xs, rfl⟩
  · exact nomatch r
  · exact nomatch r
section
variable {wa : Addr} {Hf Hf' H H' H0 : Hp} {σ : L2.St} {s : Sl}
theorem Slots.go (x : Slots wa Hf H σ s) (g : Go wa H Hf H' Hf') : Slots wa Hf' H' σ s :=
  ⟨x.len, fun i d e n => let ⟨v, h1, h2⟩ := x.val i d e n; ⟨v, h1, h2.mono g.ex⟩, fun i xs e => by
    obtain ⟨p, vs, h1, h2, h3, h4, h5⟩ := x.own i xs e
    exact ⟨p, vs, h1, g.keep p _ h4 h2, (g.new p _ h2).trans h3, h4, h5.mono g.ex⟩, fun i ks xs e => by
    obtain ⟨p, kvs, h1, h2, h3, h4, h5⟩ := x.dic i ks xs e
    exact ⟨p, kvs, h1, g.keepN p _ h4 h5.nt h2, (g.newN p _ h5.nu h2).trans h3, h4, h5.mono g.ex⟩, x.inj⟩
/-- the object of such a slot -/
theorem Slots.oAt (x : Slots wa Hf H σ s) {j : Nat} {e : D} (h : s[j]? = some (some e)) (io : IsO e) : ∃ q o, σ[j]? = some (some (.ref q)) ∧ H q = some o ∧ NT o ∧ Hf q = none ∧ q ≠ wa := by
  rcases io with ⟨xs, rfl⟩ | ⟨ks, xs, rfl⟩
  · obtain ⟨q, vs, k1, k2, k3, k4, _⟩ := x.own j xs h
    exact ⟨q, _, k1, k2, nt_lst, k3, k4⟩
  · obtain ⟨q, vs, k1, k2, k3, k4, k5⟩ := x.dic j ks xs h
    exact ⟨q, _, k1, k2, k5.nt, k3, k4⟩
/-- where a slot that is written stands -/
theorem set_key {σ : L2.St} {s : Sl} {i : Nat} {v : V} {d : D} (hl : σ.length = s.length) (j : Nat) (e : Option D) (h : (s.set i (some d))[j]? = some e) : (j = i ∧ e = some d ∧ (σ.set i (some v))[j]? = some (some v)) ∨ (j ≠ i ∧ s[j]? = some e ∧ (σ.set i (some v))[j]? = σ[j]?) := by
  by_cases hj : j = i
  · subst hj
    rw [List.getElem?_set] at h
    split at h
    · split at h
      · rename_i h1 h2
        refine .inl ⟨rfl, (Option.some.inj h).symm, ?_⟩
        rw [List.getElem?_set_self (by rw [hl]; exact h2)]
      · cases h
    · rename_i h1
      exact absurd rfl h1
  · refine .inr ⟨hj, ?_, List.getElem?_set_ne (Ne.symm hj)⟩
    rw [List.getElem?_set_ne (Ne.symm hj)] at h
    exact h
theorem Slots.set (x : Slots wa Hf H σ s) {i : Nat} {v : V} {d : D} (r : Rep wa Hf v d) : Slots wa Hf H (σ.set i (some v)) (s.set i (some d)) := by
  have nd := rep_isO r
  refine ⟨by simp [x.len], fun j e h n => ?_, fun j xs h => ?_, fun j ks xs h => ?_, fun j k e u p h1 n1 h2 n2 h3 h4 => ?_⟩
  · rcases set_key (v := v) x.len j _ h with ⟨rfl, e1, e2⟩ | ⟨_, e1, e2⟩
    · cases e1
      exact ⟨v, e2, r⟩
    · rw [e2]
      exact x.val j e e1 n
  · rcases set_key (v := v) x.len j _ h with ⟨rfl, e1, e2⟩ | ⟨_, e1, e2⟩
    · cases e1
      exact absurd isO_own nd
    · rw [e2]
      exact x.own j xs e1
  · rcases set_key (v := v) x.len j _ h with ⟨rfl, e1, e2⟩ | ⟨_, e1, e2⟩
    · cases e1
      exact absurd isO_dct nd
    · rw [e2]
      exact x.dic j ks xs e1
  · rcases set_key (v := v) x.len j _ h1 with ⟨_, e1, _⟩ | ⟨_, e1, e2⟩
    · cases e1
      exact absurd n1 nd
    · rcases set_key (v := v) x.len k _ h2 with ⟨_, f1, _⟩ | ⟨_, f1, f2⟩
      · cases f1
        exact absurd n2 nd
      · rw [e2] at h3
        rw [f2] at h4
        exact x.inj j k e u p e1 n1 f1 n2 h3 h4
theorem OwnNew.set (x : OwnNew H0 σ s) {i : Nat} {v : V} {d : D} (nd : ¬ IsO d) : OwnNew H0 (σ.set i (some v)) (s.set i (some d)) := fun j e p h1 n1 h2 => by
  by_cases hj : j = i
  · subst hj
    rw [List.getElem?_set] at h1
    split at h1
    · split at h1
      · cases h1
        exact absurd n1 nd
      · cases h1
    · rename_i hne
      exact absurd rfl hne
  · rw [List.getElem?_set_ne (Ne.symm hj)] at h1 h2
    exact x j e p h1 n1 h2
/-- a new list, or a new dict, into a slot -/
theorem Slots.setO (x : Slots wa Hf H σ s) {i : Nat} {p : Addr} {d : D} (io : IsO d) (hl : ∀ xs, d = .own xs → ∃ vs, H p = some (.lst vs) ∧ Reps wa Hf vs xs) (hd : ∀ ks xs, d = .dct ks xs → ∃ o, H p = some o ∧ DicR wa Hf o ks xs) (hf : Hf p = none) (hw : p ≠ wa)
    (hn : ∀ (j : Nat) (e : D), s[j]? = some (some e) → IsO e → σ[j]? ≠ some (some (.ref p))) : Slots wa Hf H (σ.set i (some (.ref p))) (s.set i (some d)) := by
  refine ⟨by simp [x.len], fun j e h n => ?_, fun j ys h => ?_, fun j ks ys h => ?_, fun j k e u q h1 n1 h2 n2 h3 h4 => ?_⟩
  · rcases set_key (v := .ref p) x.len j _ h with ⟨rfl, e1, e2⟩ | ⟨_, e1, e2⟩
    · cases e1
      exact absurd io n
    · rw [e2]
      exact x.val j e e1 n
  · rcases set_key (v := .ref p) x.len j _ h with ⟨rfl, e1, e2⟩ | ⟨_, e1, e2⟩
    · obtain ⟨vs, k1, k2⟩ := hl ys (Option.some.inj e1).symm
      exact ⟨p, vs, e2, k1, hf, hw, k2⟩
    · rw [e2]
      exact x.own j ys e1
  · rcases set_key (v := .ref p) x.len j _ h with ⟨rfl, e1, e2⟩ | ⟨_, e1, e2⟩
    · obtain ⟨vs, k1, k2⟩ := hd ks ys (Option.some.inj e1).symm
      exact ⟨p, vs, e2, k1, hf, hw, k2⟩
    · rw [e2]
      exact x.dic j ks ys e1
  · rcases set_key (v := .ref p) x.len j _ h1 with ⟨hji, e1, e2⟩ | ⟨hji, e1, e2⟩
    · rcases set_key (v := .ref p) x.len k _ h2 with ⟨hki, f1, f2⟩ | ⟨_, f1, f2⟩
      · rw [hji, hki]
      · rw [e2] at h3
        cases h3
        rw [f2] at h4
        exact absurd h4 (hn k u f1 n2)
    · rcases set_key (v := .ref p) x.len k _ h2 with ⟨_, f1, f2⟩ | ⟨_, f1, f2⟩
      · rw [f2] at h4
        cases h4
        rw [e2] at h3
        exact absurd h3 (hn j e e1 n1)
      · rw [e2] at h3
        rw [f2] at h4
        exact x.inj j k e u q e1 n1 f1 n2 h3 h4
theorem Slots.setOwn (x : Slots wa Hf H σ s) {i : Nat} {p : Addr} {vs : List V} {xs : List D} (hp : H p = some (.lst vs)) (hf : Hf p = none) (hw : p ≠ wa) (r : Reps wa Hf vs xs)
    (hn : ∀ (j : Nat) (e : D), s[j]? = some (some e) → IsO e → σ[j]? ≠ some (some (.ref p))) : Slots wa Hf H (σ.set i (some (.ref p))) (s.set i (some (.own xs))) :=
  x.setO isO_own (fun ys e => by cases e; exact ⟨vs, hp, r⟩) (fun ks ys e => nomatch e) hf hw hn
theorem Slots.setDct (x : Slots wa Hf H σ s) {i : Nat} {p : Addr} {o : HO} {ks : DKs} {xs : List D} (hp : H p = some o) (hf : Hf p = none) (hw : p ≠ wa) (r : DicR wa Hf o ks xs)
    (hn : ∀ (j : Nat) (e : D), s[j]? = some (some e) → IsO e → σ[j]? ≠ some (some (.ref p))) : Slots wa Hf H (σ.set i (some (.ref p))) (s.set i (some (.dct ks xs))) :=
  x.setO isO_dct (fun ys e => nomatch e) (fun ks ys e => by cases e; exact ⟨o, hp, r⟩) hf hw hn
theorem OwnNew.setO (x : OwnNew H0 σ s) {i : Nat} {p : Addr} {d : D} (hl : σ.length = s.length) (h0 : Fr H0 p) : OwnNew H0 (σ.set i (some (.ref p))) (s.set i (some d)) := fun j e q h1 n1 h2 => by
  by_cases hj : j = i
  · subst hj
    rw [List.getElem?_set] at h1
    split at h1
    · split at h1
      · rename_i _ hlt
        rw [List.getElem?_set_self (by rw [hl]; exact hlt)] at h2
        cases h2
        exact h0
      · cases h1
    · rename_i hne
      exact absurd rfl hne
  · rw [List.getElem?_set_ne (Ne.symm hj)] at h1 h2
    exact x j e q h1 n1 h2
theorem OwnNew.setOwn (x : OwnNew H0 σ s) {i : Nat} {p : Addr} {xs : List D} (hl : σ.length = s.length) (h0 : Fr H0 p) : OwnNew H0 (σ.set i (some (.ref p))) (s.set i (some (.own xs))) := x.setO hl h0
/-- a slot's own object is written -/
theorem Slots.writeO (x : Slots wa Hf H σ s) {i : Nat} {d0 d : D} {p : Addr} {o : HO} (hi : s[i]? = some (some d0)) (i0 : IsO d0) (hp : σ[i]? = some (some (.ref p))) (io : IsO d) (hf : Hf p = none) (hw : p ≠ wa)
    (hl : ∀ xs, d = .own xs → ∃ vs, o = .lst vs ∧ Reps wa Hf vs xs) (hd : ∀ ks xs, d = .dct ks xs → DicR wa Hf o ks xs) : Slots wa Hf (upd H p o) σ (s.set i (some d)) := by
  have hlt : i < s.length := (List.getElem?_eq_some_iff.mp hi).1
  have key : ∀ (j : Nat) (e : Option D), (s.set i (some d))[j]? = some e → (j = i ∧ e = some d) ∨ (j ≠ i ∧ s[j]? = some e) := fun j e h => by
    by_cases hj : j = i
    · subst hj
      rw [List.getElem?_set_self hlt] at h
      exact .inl ⟨rfl, (Option.some.inj h).symm⟩
    · rw [List.getElem?_set_ne (Ne.symm hj)] at h
      exact .inr ⟨hj, h⟩
  refine ⟨by simp [x.len], fun j e h n => ?_, fun j zs h => ?_, fun j ks zs h => ?_, fun j k e u q e1 n1 e2 n2 e3 e4 => ?_⟩
  · rcases key j _ h with ⟨_, e1⟩ | ⟨_, e1⟩
    · cases e1
      exact absurd io n
    · exact x.val j e e1 n
  · rcases key j _ h with ⟨rfl, e1⟩ | ⟨hj, e1⟩
    · obtain ⟨vs, k1, k2⟩ := hl zs (Option.some.inj e1).symm
      exact ⟨p, vs, hp, by rw [upd_same, k1], hf, hw, k2⟩
    · obtain ⟨q, us, k1, k2, k3, k4, k5⟩ := x.own j zs e1
      have hne : q ≠ p := fun z => by
        subst z
        exact hj (x.inj j i _ _ q e1 isO_own hi i0 k1 hp)
      exact ⟨q, us, k1, by rw [upd_ne hne]; exact k2, k3, k4, k5⟩
  · rcases key j _ h with ⟨rfl, e1⟩ | ⟨hj, e1⟩
    · exact ⟨p, o, hp, upd_same, hf, hw, hd ks zs (Option.some.inj e1).symm⟩
    · obtain ⟨q, us, k1, k2, k3, k4, k5⟩ := x.dic j ks zs e1
      have hne : q ≠ p := fun z => by
        subst z
        exact hj (x.inj j i _ _ q e1 isO_dct hi i0 k1 hp)
      exact ⟨q, us, k1, by rw [upd_ne hne]; exact k2, k3, k4, k5⟩
  · have o1 : ∃ z, s[j]? = some (some z) ∧ IsO z := by
      rcases key j _ e1 with ⟨rfl, _⟩ | ⟨_, f⟩
      · exact ⟨d0, hi, i0⟩
      · exact ⟨e, f, n1⟩
    have o2 : ∃ z, s[k]? = some (some z) ∧ IsO z := by
      rcases key k _ e2 with ⟨rfl, _⟩ | ⟨_, f⟩
      · exact ⟨d0, hi, i0⟩
      · exact ⟨u, f, n2⟩
    obtain ⟨z1, o1, m1⟩ := o1
    obtain ⟨z2, o2, m2⟩ := o2
    exact x.inj j k z1 z2 q o1 m1 o2 m2 e3 e4
theorem Slots.write (x : Slots wa Hf H σ s) {i : Nat} {xs ys : List D} {p : Addr} {ws : List V} (hi : s[i]? = some (some (.own xs))) (hp : σ[i]? = some (some (.ref p))) (r : Reps wa Hf ws ys) :
    Slots wa Hf (upd H p (.lst ws)) σ (s.set i (some (.own ys))) := by
  obtain ⟨p', vs, h1, h2, h3, h4, h5⟩ := x.own i xs hi
  rw [hp] at h1
  cases h1
  exact x.writeO hi isO_own hp isO_own h3 h4 (fun zs e => by cases e; exact ⟨ws, rfl, r⟩) (fun ks zs e => nomatch e)
theorem Slots.writeD (x : Slots wa Hf H σ s) {i : Nat} {ks ls : DKs} {xs ys : List D} {p : Addr} {o : HO} (hi : s[i]? = some (some (.dct ks xs))) (hp : σ[i]? = some (some (.ref p))) (r : DicR wa Hf o ls ys) :
    Slots wa Hf (upd H p o) σ (s.set i (some (.dct ls ys))) := by
  obtain ⟨p', vs, h1, h2, h3, h4, h5⟩ := x.dic i ks xs hi
  rw [hp] at h1
  cases h1
  exact x.writeO hi isO_dct hp isO_dct h3 h4 (fun zs e => nomatch e) (fun ks zs e => by cases e; exact r)
/-- a slot's own list is read from now on -/
theorem Slots.frz (x : Slots wa Hf H σ s) {i : Nat} {xs : List D} {p : Addr} {vs : List V} (hi : s[i]? = some (some (.own xs))) (hp : σ[i]? = some (some (.ref p))) (hv : H p = some (.lst vs)) :
    Slots wa (upd Hf p (.lst vs)) H σ (s.set i (some (.lst xs))) := by
  have hlt : i < s.length := (List.getElem?_eq_some_iff.mp hi).1
  obtain ⟨p', vs', h1, h2, h3, h4, h5⟩ := x.own i xs hi
  rw [hp] at h1
  cases h1
  rw [hv] at h2
  cases h2
  have e0 : Ex Hf (upd Hf p (.lst vs)) := Ex.new h3
  have key : ∀ (j : Nat) (e : Option D), (s.set i (some (.lst xs)))[j]? = some e → (j = i ∧ e = some (.lst xs)) ∨ (j ≠ i ∧ s[j]? = some e) := fun j e h => by
    by_cases hj : j = i
    · subst hj
      rw [List.getElem?_set_self hlt] at h
      exact .inl ⟨rfl, (Option.some.inj h).symm⟩
    · rw [List.getElem?_set_ne (Ne.symm hj)] at h
      exact .inr ⟨hj, h⟩
  have nl : ¬ IsO (.lst xs) := fun h => by
    rcases h with ⟨ys, e⟩ | ⟨ks, ys, e⟩
    · cases e
    · cases e
  refine ⟨by simp [x.len], fun j e h n => ?_, fun j zs h => ?_, fun j ks zs h => ?_, fun j k e u q e1 n1 e2 n2 e3 e4 => ?_⟩
  · rcases key j _ h with ⟨rfl, e1⟩ | ⟨_, e1⟩
    · cases e1
      exact ⟨_, hp, .lst upd_same (h5.mono e0)⟩
    · obtain ⟨v, k1, k2⟩ := x.val j e e1 n
      exact ⟨v, k1, k2.mono e0⟩
  · rcases key j _ h with ⟨_, e1⟩ | ⟨hj, e1⟩
    · cases e1
    · obtain ⟨q, us, k1, k2, k3, k4, k5⟩ := x.own j zs e1
      have hne : q ≠ p := fun z => by
        subst z
        exact hj (x.inj j i _ _ q e1 isO_own hi isO_own k1 hp)
      exact ⟨q, us, k1, k2, by rw [upd_ne hne]; exact k3, k4, k5.mono e0⟩
  · rcases key j _ h with ⟨_, e1⟩ | ⟨hj, e1⟩
    · cases e1
    · obtain ⟨q, us, k1, k2, k3, k4, k5⟩ := x.dic j ks zs e1
      have hne : q ≠ p := fun z => by
        subst z
        exact hj (x.inj j i _ _ q e1 isO_dct hi isO_own k1 hp)
      exact ⟨q, us, k1, k2, by rw [upd_ne hne]; exact k3, k4, k5.mono e0⟩
  · rcases key j _ e1 with ⟨_, f⟩ | ⟨_, f⟩
    · cases f
      exact absurd n1 nl
    · rcases key k _ e2 with ⟨_, f2⟩ | ⟨_, f2⟩
      · cases f2
        exact absurd n2 nl
      · exact x.inj j k e u q f n1 f2 n2 e3 e4
theorem OwnNew.sub {s' : Sl} (x : OwnNew H0 σ s) (h : ∀ (i : Nat) d, s'[i]? = some (some d) → IsO d → ∃ e, s[i]? = some (some e) ∧ IsO e) : OwnNew H0 σ s' := fun i d p h1 n1 h2 => by
  obtain ⟨e, e1, e2⟩ := h i d h1 n1
  exact x i e p e1 e2 h2
end
end DL

set_option maxHeartbeats 2000000
namespace DL
open PySem PySem.Spec PyProof.Rows L2
variable [TabT] [OldT]
open Evl (Ex)
abbrev Rl (β α : Type) := Addr → Hp → β → α → Prop
abbrev rD : Rl V D := Rep
abbrev rAs : Rl (List V) (List D) := Reps
abbrev rB : Rl Bool Bool := fun _ _ b c => b = c
abbrev rO : Rl (Option Int) (Option Int) := fun _ _ b c => b = c
/-- a fresh list -/
abbrev Er (mg : Str → Option Value) (W : WX) (wa : Addr) (σ : L2.St) : Exn → Wl → Hp → Hp → Prop := fun x _ H' Hf' => ∀ cls dx, ErrV mg wa Hf' x cls dx → W cls dx σ H'
def lf {α β : Type} (rel : Rl β α) (mg : Str → Option Value) (W : WX) (E : Sl → Wl → R α) : L2.St → Hp → (β → Hp → Prop) → Prop := fun σ H Q =>
  ∃ wa Hf sD w, Base wa Hf H w ∧ Slots wa Hf H σ sD ∧ Fin wa Hf H (E sD w) (fun d _ H' Hf' => ∀ v, rel wa Hf' v d → Q v H') (Er mg W wa σ)
/-- the same, the value a list that is new -/
def lfL (mg : Str → Option Value) (W : WX) (E : Sl → Wl → R (List D)) : TE := fun σ H Q =>
  ∃ wa Hf sD w, Base wa Hf H w ∧ Slots wa Hf H σ sD ∧ Fin wa Hf H (E sD w) (fun ds _ H' Hf' => ∀ p vs, Fr H p → H' p = some (.lst vs) → Hf' p = none → p ≠ wa → Reps wa Hf' vs ds → Q (.ref p) H') (Er mg W wa σ)
abbrev lE := lf rD
abbrev lA := lf rAs
abbrev lT := lf rB
abbrev lO := lf rO
section
variable {α β γ δ : Type} {X : Cx} {mg : Str → Option Value} {W : WX} {e a b c : Expr} {pos : Pos} {σ : L2.St} {H : Hp}
theorem weakE {t t' : TE} (h : PE X e t) (i : ∀ σ H Q, t' σ H Q → t σ H Q) : PE X e t' := ⟨fun pins s σ H Q I q => h.run pins s σ H Q I (i σ H Q q)⟩
theorem weakT {t t' : TT} (h : PT X e t) (i : ∀ σ H Q, t' σ H Q → t σ H Q) : PT X e t' := ⟨fun pins s σ H Q I q => h.run pins s σ H Q I (i σ H Q q)⟩
theorem weakW {t t' : TT} (h : PW X e t) (i : ∀ σ H Q, t' σ H Q → t σ H Q) : PW X e t' := ⟨fun wh pins s σ H Q I q => h.run wh pins s σ H Q I (i σ H Q q)⟩
theorem weakA {es : List Expr} {t t' : TA} (h : PA X es t) (i : ∀ σ H Q, t' σ H Q → t σ H Q) : PA X es t' := ⟨fun p pins s σ H Q I q => h.run p pins s σ H Q I (i σ H Q q)⟩
theorem weakO {o : Option Expr} {t t' : TO} (h : PO X o t) (i : ∀ σ H Q, t' σ H Q → t σ H Q) : PO X o t' := ⟨fun pins s σ H Q I q => h.run pins s σ H Q I (i σ H Q q)⟩
theorem orE {t t' : TE} (h : PE X e t) (h' : PE X e t') : PE X e (fun σ H Q => t σ H Q ∨ t' σ H Q) := ⟨fun pins s σ H Q I q => q.elim (fun q => h.run pins s σ H Q I q) fun q => h'.run pins s σ H Q I q⟩
theorem orT {t t' : TT} (h : PT X e t) (h' : PT X e t') : PT X e (fun σ H Q => t σ H Q ∨ t' σ H Q) := ⟨fun pins s σ H Q I q => q.elim (fun q => h.run pins s σ H Q I q) fun q => h'.run pins s σ H Q I q⟩
/-! ### names, constants -/
def getS (s : Sl) (i : Nat) : Option D := match s[i]? with
  | some (some (.own _)) => none
  | some (some (.dct _ _)) => none
  | some (some d) => some d
  | _ => none
def eVar (i : Nat) : DE := fun s w => match getS s i with
  | some d => .ok d w
  | none => .no
def eC (d : D) : DE := fun _ w => .ok d w
theorem getS_some {wa : Addr} {Hf : Hp} {s : Sl} {i : Nat} {d : D} (x : Slots wa Hf H σ s) (h : getS s i = some d) : ∃ v, σ[i]? = some (some v) ∧ Rep wa Hf v d := by
  unfold getS at h
  split at h
  · cases h
  · cases h
  · rename_i d' hn hn2 hi
    cases h
    exact x.val i d hi fun z => by
      rcases z with ⟨xs, z⟩ | ⟨ks, xs, z⟩
      · exact hn xs z
      · exact hn2 ks xs z
  · cases h
theorem pd_var (i : Nat) {x : Str} (hN : X.N[i]? = some x := by rfl) (hv : Vis X.env.scope x := by first | exact Or.inl rfl | exact Or.inr (Or.inl rfl) | exact Or.inr (Or.inr rfl)) (hd : (x == ("__debug__" : Str)) = false := by decide)
    (hcd : (x == ("__classdict__" : Str)) = false := by decide) : PE X (.Name x pos) (lE mg W (eVar i)) := weakE (pe_var hN hv hd hcd) fun σ H Q h => by
  obtain ⟨wa, Hf, sD, w, hb, hs, hf⟩ := h
  unfold eVar at hf
  split at hf
  · rename_i d hi
    obtain ⟨v, h1, h2⟩ := getS_some hs hi
    exact ⟨v, h1, hf.here hb v h2⟩
  · exact hf.elim
theorem pd_c {v : V} {d : D} (h : PE X e (tC v)) (r : ∀ wa Hf, Rep wa Hf v d) : PE X e (lE mg W (eC d)) := weakE h fun σ H Q h => by
  obtain ⟨wa, Hf, sD, w, hb, hs, hf⟩ := h
  exact hf.here hb v (r _ _)
theorem pd_int {i j} : PE X (.Constant (.int i) j pos) (lE mg W (eC (.int i))) := pd_c pe_int fun _ _ => .int i
theorem pd_bl {i j} : PE X (.Constant (.bool i) j pos) (lE mg W (eC (.bl i))) := pd_c pe_bl fun _ _ => .bl i
theorem pd_non {j} : PE X (.Constant .none j pos) (lE mg W (eC .non)) := pd_c pe_non fun _ _ => .non
theorem pd_str {i j} : PE X (.Constant (.str i) j pos) (lE mg W (eC (.str i))) := pd_c pe_str fun _ _ => .str i
theorem pd_globI {x : Str} {i : Int} {t : Tok} (hg : Gl X x) (hm : X.mg x = some (.int i t)) (hd : (x == ("__debug__" : Str)) = false := by decide) : PE X (.Name x pos) (lE mg W (eC (.int i))) := pd_c (pe_glob hg hm (v := .int i) ⟨t, rfl⟩ hd) fun _ _ => .int i
theorem pd_ty {x : Str} {n : String} (hg : Gl X x) (hm : X.mg x = none) (hv : bootBuiltins x = some (.type n)) (hn : x ≠ "__name__" := by decide) (hd : (x == ("__debug__" : Str)) = false := by decide) : PE X (.Name x pos) (lE mg W (eC (.ty n))) :=
  pd_c (pe_bltn (v := .ty n) hg hm hv rfl hn hd) fun _ _ => .ty n

/-! ### operations on values -/
/-- a two-place rule does what f tells -/
def OpD (r : R2) (f : Wl → D → D → Option D) : Prop := ∀ wa Hf H w x y u v z Q, Base wa Hf H w → Rep wa Hf u x → Rep wa Hf v y → f w x y = some z →
  (∀ H' Hf', Go wa H Hf H' Hf' → Base wa Hf' H' w → ∀ v', Rep wa Hf' v' z → Q v' H') → r u v H Q
def UnD (r : V → Hp → VK → Prop) (f : Wl → D → Option D) : Prop := ∀ wa Hf H w x u z Q, Base wa Hf H w → Rep wa Hf u x → f w x = some z →
  (∀ H' Hf', Go wa H Hf H' Hf' → Base wa Hf' H' w → ∀ v', Rep wa Hf' v' z → Q v' H') → r u H Q
def CaD (r : List V → Hp → VK → Prop) (f : Wl → List D → Option D) : Prop := ∀ wa Hf H w ds us z Q, Base wa Hf H w → Reps wa Hf us ds → f w ds = some z →
  (∀ H' Hf', Go wa H Hf H' Hf' → Base wa Hf' H' w → ∀ v', Rep wa Hf' v' z → Q v' H') → r us H Q
/-- a call that makes a list -/
def CaL (r : List V → Hp → VK → Prop) (f : Wl → List D → Option (List D)) : Prop := ∀ wa Hf H w ds us zs Q, Base wa Hf H w → Reps wa Hf us ds → f w ds = some zs →
  (∀ H' Hf' p vs, Go wa H Hf H' Hf' → Base wa Hf' H' w → Fr H p → H' p = some (.lst vs) → Hf' p = none → p ≠ wa → Reps wa Hf' vs zs → Q (.ref p) H') → r us H Q
def OpL (r : R2) (f : Wl → D → D → Option (List D)) : Prop := ∀ wa Hf H w x y u v zs Q, Base wa Hf H w → Rep wa Hf u x → Rep wa Hf v y → f w x y = some zs →
  (∀ H' Hf' p vs, Go wa H Hf H' Hf' → Base wa Hf' H' w → Fr H p → H' p = some (.lst vs) → Hf' p = none → p ≠ wa → Reps wa Hf' vs zs → Q (.ref p) H') → r u v H Q
def opt {α : Type} (o : Option α) (w : Wl) : R α := match o with
  | some z => .ok z w
  | none => .no
@[simp] theorem opt_some {α : Type} {z : α} {w : Wl} : opt (some z) w = .ok z w := rfl
@[simp] theorem opt_none {α : Type} {w : Wl} : opt (none : Option α) w = .no := rfl
theorem Fin.opt {α : Type} {wa : Addr} {Hf H : Hp} {o : Option α} {w : Wl} {Ok : α → Wl → Hp → Hp → Prop} {Er : Exn → Wl → Hp → Hp → Prop} (h : Fin wa Hf H (opt o w) Ok Er) : ∃ z, o = some z ∧ ∀ H' Hf', Go wa H Hf H' Hf' → Base wa Hf' H' w → Ok z w H' Hf' := by
  cases o with
  | none => exact h.elim
  | some z => exact ⟨z, rfl, h⟩
def eBin (f : Wl → D → D → Option D) (A B : DE) : DE := fun s w => (A s w).bind fun x w1 => (B s w1).bind fun y w2 => opt (f w2 x y) w2
def eUn (f : Wl → D → Option D) (A : DE) : DE := fun s w => (A s w).bind fun x w1 => opt (f w1 x) w1
def eCB (f : Wl → List D → Option D) (A : DA) : DE := fun s w => (A s w).bind fun x w1 => opt (f w1 x) w1
variable {A B C : DE} {r r' : R2} {f g : Wl → D → D → Option D}

theorem bin_ok {Q : VK} (hf : OpD r f) (h : lE mg W (eBin f A B) σ H Q) : tOp r (lE mg W A) (lE mg W B) σ H Q := by
  obtain ⟨wa, Hf, sD, w, hb, hs, h⟩ := h
  refine ⟨wa, Hf, sD, w, hb, hs, h.bind.mono (fun x w1 H1 Hf1 g1 b1 q v rv => ?_) (fun _ _ _ _ _ _ q => q)⟩
  refine ⟨wa, Hf1, sD, w1, b1, hs.go g1, q.bind.mono (fun y w2 H2 Hf2 g2 b2 q2 v2 rv2 => ?_) (fun _ _ _ _ _ _ q => q)⟩
  obtain ⟨z, e, q3⟩ := q2.opt
  exact hf wa Hf2 H2 w2 x y v v2 z Q b2 (rv.mono g2.ex) rv2 e q3
theorem un_ok {Q : VK} {r : V → Hp → VK → Prop} {f : Wl → D → Option D} (hf : UnD r f) (h : lE mg W (eUn f A) σ H Q) : tUn r (lE mg W A) σ H Q := by
  obtain ⟨wa, Hf, sD, w, hb, hs, h⟩ := h
  refine ⟨wa, Hf, sD, w, hb, hs, h.bind.mono (fun x w1 H1 Hf1 g1 b1 q v rv => ?_) (fun _ _ _ _ _ _ q => q)⟩
  obtain ⟨z, e, q3⟩ := q.opt
  exact hf wa Hf1 H1 w1 x v z Q b1 rv e q3
theorem cb_ok {Q : VK} {r : List V → Hp → VK → Prop} {f : Wl → List D → Option D} {A : DA} (hf : CaD r f) (h : lE mg W (eCB f A) σ H Q) : tCB r (lA mg W A) σ H Q := by
  obtain ⟨wa, Hf, sD, w, hb, hs, h⟩ := h
  refine ⟨wa, Hf, sD, w, hb, hs, h.bind.mono (fun x w1 H1 Hf1 g1 b1 q v rv => ?_) (fun _ _ _ _ _ _ q => q)⟩
  obtain ⟨z, e, q3⟩ := q.opt
  exact hf wa Hf1 H1 w1 x v z Q b1 rv e q3
def eCBL (f : Wl → List D → Option (List D)) (A : DA) : DA := fun s w => (A s w).bind fun x w1 => opt (f w1 x) w1
def eBinL (f : Wl → D → D → Option (List D)) (A B : DE) : DA := fun s w => (A s w).bind fun x w1 => (B s w1).bind fun y w2 => opt (f w2 x y) w2
theorem cbL_ok {Q : VK} {r : List V → Hp → VK → Prop} {f : Wl → List D → Option (List D)} {A : DA} (hf : CaL r f) (h : lfL mg W (eCBL f A) σ H Q) : tCB r (lA mg W A) σ H Q := by
  obtain ⟨wa, Hf, sD, w, hb, hs, h⟩ := h
  refine ⟨wa, Hf, sD, w, hb, hs, h.bind.mono (fun x w1 H1 Hf1 g1 b1 q v rv => ?_) (fun _ _ _ _ _ _ q => q)⟩
  obtain ⟨z, e, q3⟩ := q.opt
  exact hf wa Hf1 H1 w1 x v z Q b1 rv e fun H' Hf' p vs g b n e1 e2 e3 r => q3 H' Hf' g b p vs (g1.fr n) e1 e2 e3 r
theorem binL_ok {Q : VK} {f : Wl → D → D → Option (List D)} (hf : OpL r f) (h : lfL mg W (eBinL f A B) σ H Q) : tOp r (lE mg W A) (lE mg W B) σ H Q := by
  obtain ⟨wa, Hf, sD, w, hb, hs, h⟩ := h
  refine ⟨wa, Hf, sD, w, hb, hs, h.bind.mono (fun x w1 H1 Hf1 g1 b1 q v rv => ?_) (fun _ _ _ _ _ _ q => q)⟩
  refine ⟨wa, Hf1, sD, w1, b1, hs.go g1, q.bind.mono (fun y w2 H2 Hf2 g2 b2 q2 v2 rv2 => ?_) (fun _ _ _ _ _ _ q => q)⟩
  obtain ⟨z, e, q3⟩ := q2.opt
  exact hf wa Hf2 H2 w2 x y v v2 z Q b2 (rv.mono g2.ex) rv2 e fun H' Hf' p vs g b n e1 e2 e3 r => q3 H' Hf' g b p vs ((g1.trans g2).fr n) e1 e2 e3 r
/-- a new list, read from now on -/
def eL (A : DA) : DE := fun s w => (A s w).bind fun ds w1 => .ok (.lst ds) w1
theorem eL_ok {Q : VK} {A : DA} (h : lE mg W (eL A) σ H Q) : lfL mg W A σ H Q := by
  obtain ⟨wa, Hf, sD, w, hb, hs, h⟩ := h
  refine ⟨wa, Hf, sD, w, hb, hs, ?_⟩
  unfold eL at h
  cases ea : A sD w with
  | ok ds w1 =>
    rw [ea] at h
    intro H1 Hf1 g1 b1 p vs n e1 e2 e3 rv
    have ex : Ex Hf1 (upd Hf1 p (.lst vs)) := Ex.new e2
    have g2 : Go wa H Hf H1 (upd Hf1 p (.lst vs)) := ⟨g1.keepN, g1.ex.trans ex, fun a o t h => by rw [upd_ne (ne_of_fr h t.1 n)]; exact g1.newN a o t h, g1.thereN⟩
    have b2 : Base wa (upd Hf1 p (.lst vs)) H1 w1 := ⟨fun a u h => by
      by_cases hp : a = p
      · subst hp; rw [upd_same] at h; rw [← h]; exact e1
      · rw [upd_ne hp] at h; exact b1.ex a u h, b1.well, by rw [upd_ne (Ne.symm e3)]; exact b1.nw, b1.tb, nt_upd b1.nt nt_lst, b1.od.trans ex⟩
    exact h H1 _ g2 b2 (.ref p) (.lst upd_same (rv.mono ex))
  | er x w1 => rw [ea] at h; exact h
  | no => rw [ea] at h; exact h
theorem pd_L {A : DA} (h : PE X e (lfL mg W A)) : PE X e (lE mg W (eL A)) := weakE h fun _ _ _ q => eL_ok q
end
end DL

set_option maxHeartbeats 2000000
namespace DL
open PySem PySem.Spec PyProof.Rows L2
variable [TabT] [OldT]
open Evl (Ex)
section
variable {α β γ δ : Type} {X : Cx} {mg : Str → Option Value} {W : WX} {e a b c : Expr} {pos : Pos} {σ : L2.St} {H : Hp} {A B C : DE} {r r' : R2} {f g : Wl → D → D → Option D}
theorem frzL {wa : Addr} {Hf H : Hp} {w : Wl} {Q : VK} {z : D} {vs : List V} {ds : List D} (hb : Base wa Hf H w) (rv : Reps wa Hf vs ds) (q : ∀ H' Hf', Go wa H Hf H' Hf' → Base wa Hf' H' w → ∀ v', Rep wa Hf' v' (.lst ds) → Q v' H') : ∀ p, H p = none → Q (.ref p) (upd H p (.lst vs)) := fun p hp =>
  q _ _ (Go.newF hb.ex hp) (hb.newF hp) _ (.lst upd_same (rv.mono (Ex.new (Evl.fresh_back hb.ex hp))))
theorem frzT {wa : Addr} {Hf H : Hp} {w : Wl} {Q : VK} {z : D} {vs : List V} {ds : List D} (hb : Base wa Hf H w) (rv : Reps wa Hf vs ds) (q : ∀ H' Hf', Go wa H Hf H' Hf' → Base wa Hf' H' w → ∀ v', Rep wa Hf' v' (.tup ds) → Q v' H') : ∀ p, H p = none → Q (.ref p) (upd H p (.tup vs)) := fun p hp =>
  q _ _ (Go.newF hb.ex hp) (hb.newF hp) _ (.tup upd_same (rv.mono (Ex.new (Evl.fresh_back hb.ex hp))))
/-! ### two-place operators -/
theorem pd_bin {op : Operator} (ho : OpR X (binaryOp op) r) (hf : OpD r f) (ha : PE X a (lE mg W A)) (hb : PE X b (lE mg W B)) : PE X (.BinOp a op b pos) (lE mg W (eBin f A B)) := weakE (pe_op ho ha hb) fun _ _ _ q => bin_ok hf q
theorem pd_un {op : UnaryOp} {r : V → Hp → VK → Prop} {f : Wl → D → Option D} (ho : UnR X (unaryOp op) r) (hf : UnD r f) (ha : PE X a (lE mg W A)) : PE X (.UnaryOp op a pos) (lE mg W (eUn f A)) := weakE (pe_un ho ha) fun _ _ _ q => un_ok hf q
def lim : Nat := 16000000
theorem lim_le {n : Nat} (h : n ≤ lim) : n ≤ sizeLine := by
  rw [sizeLine_eq]
  have : lim = 16000000 := rfl
  omega
def fAdd : Wl → D → D → Option D := fun _ x y => match x, y with
  | .int i, .int j => some (.int (i + j))
  | .tup xs, .tup ys => if xs.length + ys.length ≤ lim then some (.tup (xs ++ ys)) else none
  | .lst xs, .lst ys => if xs.length + ys.length ≤ lim then some (.lst (xs ++ ys)) else none
  | .str x, .str y => if x.length + y.length ≤ lim then some (.str (x ++ y)) else none
  | _, _ => none
def rAddS : R2 := fun x y H Q => ∃ i j, x = .str i ∧ y = .str j ∧ i.length + j.length ≤ sizeLine ∧ Q (.str (i ++ j)) H
def rAddA (K : PySem.W.Frag) : R2 := fun x y H Q => (rI0 (fun i j => .int (i + j)) x y H Q ∨ rCatA K x y H Q) ∨ rCat x y H Q ∨ rAddS x y H Q
theorem op_addA : OpR X (binaryOp .Add) (rAddA X.K) := (op_add.or op_catA).or (op_cat.or op_add_str)
theorem opd_add {K : PySem.W.Frag} : OpD (rAddA K) fAdd := by
  intro wa Hf H w x y u v z Q hb ru rv h q
  unfold fAdd at h
  split at h
  · cases h
    cases ru
    cases rv
    exact .inl (.inl ⟨_, _, rfl, rfl, q _ _ Go.refl hb _ (.int _)⟩)
  · split at h
    · rename_i hz
      cases h
      cases ru with
      | tup h1 r1 =>
        cases rv with
        | tup h2 r2 =>
          have l1 := r1.length
          have l2 := r2.length
          refine .inl (.inr ⟨_, _, _, _, rfl, rfl, SqT.of (hb.ex _ _ h1), SqT.of (hb.ex _ _ h2), lim_le (by omega), fun e => ?_, fun _ e => ?_, fun _ _ => frzT (z := .non) hb (r1.append r2) q⟩)
          · subst e
            cases r1
            exact q _ _ Go.refl hb _ (.tup h2 (by simpa using r2))
          · subst e
            cases r2
            exact q _ _ Go.refl hb _ (.tup h1 (by simpa using r1))
    · cases h
  · split at h
    · rename_i hz
      cases h
      cases ru with
      | lst h1 r1 =>
        cases rv with
        | lst h2 r2 =>
          have l1 := r1.length
          have l2 := r2.length
          exact .inr (.inl ⟨_, _, _, _, rfl, rfl, hb.ex _ _ h1, hb.ex _ _ h2, lim_le (by omega), frzL (z := .non) hb (r1.append r2) q⟩)
    · cases h
  · split at h
    · rename_i hz
      cases h
      cases ru
      cases rv
      exact .inr (.inr ⟨_, _, rfl, rfl, lim_le hz, q _ _ Go.refl hb _ (.str _)⟩)
    · cases h
  · cases h
theorem pd_add (ha : PE X a (lE mg W A)) (hb : PE X b (lE mg W B)) : PE X (.BinOp a .Add b pos) (lE mg W (eBin fAdd A B)) := pd_bin op_addA opd_add ha hb
def fSub : Wl → D → D → Option D := fun _ x y => match x, y with
  | .int i, .int j => some (.int (i - j))
  | _, _ => none
theorem pd_sub (ha : PE X a (lE mg W A)) (hb : PE X b (lE mg W B)) : PE X (.BinOp a .Sub b pos) (lE mg W (eBin fSub A B)) := pd_bin op_sub (fun wa Hf H w x y u v z Q hb ru rv h q => by
  unfold fSub at h
  split at h
  · cases h
    cases ru
    cases rv
    exact ⟨_, _, rfl, rfl, q _ _ Go.refl hb _ (.int _)⟩
  · cases h) ha hb
/-- factors that the model multiplies: together below a million bits -/
def mulOk (i j : Int) : Prop := i.natAbs.log2 + j.natAbs.log2 < 1000000
instance (i j : Int) : Decidable (mulOk i j) := by unfold mulOk; infer_instance
def fMul : Wl → D → D → Option D := fun _ x y => match x, y with
  | .int i, .int j => if mulOk i j then some (.int (i * j)) else none
  | .lst xs, .int k => if 0 ≤ k ∧ k ≤ 1000000 ∧ xs.length * k.toNat ≤ lim then some (.lst (List.replicate k.toNat xs).flatten) else none
  | .tup xs, .int k => if xs ≠ [] ∧ 2 ≤ k ∧ k ≤ 1000 ∧ xs.length ≤ 1000 then some (.tup (List.replicate k.toNat xs).flatten) else none
  | _, _ => none
def rMulA (K : PySem.W.Frag) : R2 := fun x y H Q => rI CMulW (fun i j => .int (i * j)) x y H Q ∨ rRep x y H Q ∨ rRepT K x y H Q
theorem op_mulA : OpR X (binaryOp .Mult) (rMulA X.K) := op_mulW.or (op_rep.or op_repT)
theorem opd_mul {K : PySem.W.Frag} : OpD (rMulA K) fMul := by
  intro wa Hf H w x y u v z Q hb ru rv h q
  unfold fMul at h
  split at h
  · split at h
    · rename_i hm
      cases h
      cases ru
      cases rv
      exact .inl ⟨_, _, rfl, rfl, hm, q _ _ Go.refl hb _ (.int _)⟩
    · cases h
  · split at h
    · rename_i hm
      cases h
      cases rv
      cases ru with
      | lst h1 r1 =>
        have l1 := r1.length
        exact .inr (.inl ⟨_, _, _, rfl, rfl, hb.ex _ _ h1, by omega, by omega, by rw [l1]; exact lim_le hm.2.2, frzL (z := .non) hb (r1.rep _) q⟩)
    · cases h
  · split at h
    · rename_i hm
      cases h
      cases rv
      cases ru with
      | tup h1 r1 =>
        have l1 := r1.length
        refine .inr (.inr ⟨_, _, _, rfl, rfl, SqT.of (hb.ex _ _ h1), fun e => ?_, hm.2.1, hm.2.2.1, by omega, frzT (z := .non) hb (r1.rep _) q⟩)
        subst e
        cases r1
        exact hm.1 rfl
    · cases h
  · cases h
theorem pd_mul (ha : PE X a (lE mg W A)) (hb : PE X b (lE mg W B)) : PE X (.BinOp a .Mult b pos) (lE mg W (eBin fMul A B)) := pd_bin op_mulA opd_mul ha hb
def divOk (j : Int) : Prop := j ≠ 0 ∧ j.natAbs.log2 < 9000
instance (j : Int) : Decidable (divOk j) := by unfold divOk; infer_instance
def fDiv : Wl → D → D → Option D := fun _ x y => match x, y with
  | .int i, .int j => if divOk j then some (.int (i.fdiv j)) else none
  | _, _ => none
theorem op_divA : OpR X (binaryOp .FloorDiv) (rI (fun _ j => divOk j) fun i j => .int (i.fdiv j)) := opI fun i j _ _ _ _ _ hc q => floordiv_int hc.1 q (.inl (PyProof.noPylong_of_log2 hc.2))
theorem pd_div (ha : PE X a (lE mg W A)) (hb : PE X b (lE mg W B)) : PE X (.BinOp a .FloorDiv b pos) (lE mg W (eBin fDiv A B)) := pd_bin op_divA (fun wa Hf H w x y u v z Q hb ru rv h q => by
  unfold fDiv at h
  split at h
  · split at h
    · rename_i hm
      cases h
      cases ru
      cases rv
      exact ⟨_, _, rfl, rfl, hm, q _ _ Go.refl hb _ (.int _)⟩
    · cases h
  · cases h) ha hb
def fMod : Wl → D → D → Option D := fun _ x y => match x, y with
  | .int i, .int j => if j ≠ 0 then some (.int (i.fmod j)) else none
  | _, _ => none
theorem pd_mod (ha : PE X a (lE mg W A)) (hb : PE X b (lE mg W B)) : PE X (.BinOp a .Mod b pos) (lE mg W (eBin fMod A B)) := pd_bin op_modN (fun wa Hf H w x y u v z Q hb ru rv h q => by
  unfold fMod at h
  split at h
  · split at h
    · rename_i hm
      cases h
      cases ru
      cases rv
      exact ⟨_, _, rfl, rfl, hm, q _ _ Go.refl hb _ (.int _)⟩
    · cases h
  · cases h) ha hb
def fPow : Wl → D → D → Option D := fun _ x y => match x, y with
  | .int i, .int j => if 0 ≤ j ∧ j ≤ 1000000 ∧ i.natAbs < 18446744073709551616 then some (.int (i ^ j.toNat)) else none
  | _, _ => none
theorem pd_pow (ha : PE X a (lE mg W A)) (hb : PE X b (lE mg W B)) : PE X (.BinOp a .Pow b pos) (lE mg W (eBin fPow A B)) := pd_bin op_pow (fun wa Hf H w x y u v z Q hb ru rv h q => by
  unfold fPow at h
  split at h
  · split at h
    · rename_i hm
      cases h
      cases ru
      cases rv
      exact ⟨_, _, rfl, rfl, ⟨hm.1, hm.2.1, hm.2.2⟩, q _ _ Go.refl hb _ (.int _)⟩
    · cases h
  · cases h) ha hb
def fNeg : Wl → D → Option D := fun _ x => match x with
  | .int i => some (.int (-i))
  | _ => none
theorem pd_neg (ha : PE X a (lE mg W A)) : PE X (.UnaryOp .USub a pos) (lE mg W (eUn fNeg A)) := pd_un un_neg (fun wa Hf H w x u z Q hb ru h q => by
  unfold fNeg at h
  split at h
  · cases h
    cases ru
    exact ⟨_, rfl, q _ _ Go.refl hb _ (.int _)⟩
  · cases h) ha

/-! ### comparisons -/
def fCmp (p : Int → Int → Bool) : Wl → D → D → Option D := fun _ x y => match x, y with
  | .int i, .int j => some (.bl (p i j))
  | _, _ => none
theorem opd_cmp {p : Int → Int → Bool} : OpD (rI0 fun i j => .bl (p i j)) (fCmp p) := by
  intro wa Hf H w x y u v z Q hb ru rv h q
  unfold fCmp at h
  split at h
  · cases h
    cases ru
    cases rv
    exact ⟨_, _, rfl, rfl, q _ _ Go.refl hb _ (.bl _)⟩
  · cases h
abbrev fLt := fCmp fun i j => decide (i < j)
abbrev fLe := fCmp fun i j => decide (i ≤ j)
abbrev fGt := fCmp fun i j => decide (j < i)
abbrev fGe := fCmp fun i j => decide (j ≤ i)
/-- a comparison, by its operator's rule -/
theorem pd_cmp {op : CmpOp} (ho : OpR X (compareOp op) r) (hf : OpD r f) (ha : PE X a (lE mg W A)) (hb : PE X b (lE mg W B)) (hm : behindInMarks op b = false) : PE X (.Compare a [op] [b] pos) (lE mg W (eBin f A B)) := weakE (pe_cmpR ho ha hb hm) fun _ _ _ q => bin_ok hf q
theorem pd_lt (ha : PE X a (lE mg W A)) (hb : PE X b (lE mg W B)) : PE X (.Compare a [.Lt] [b] pos) (lE mg W (eBin fLt A B)) := pd_cmp op_lt opd_cmp ha hb (nomark _)
theorem pd_le (ha : PE X a (lE mg W A)) (hb : PE X b (lE mg W B)) : PE X (.Compare a [.LtE] [b] pos) (lE mg W (eBin fLe A B)) := pd_cmp op_le opd_cmp ha hb (nomark _)
theorem pd_gt (ha : PE X a (lE mg W A)) (hb : PE X b (lE mg W B)) : PE X (.Compare a [.Gt] [b] pos) (lE mg W (eBin fGt A B)) := pd_cmp op_gt opd_cmp ha hb (nomark _)
theorem pd_ge (ha : PE X a (lE mg W A)) (hb : PE X b (lE mg W B)) : PE X (.Compare a [.GtE] [b] pos) (lE mg W (eBin fGe A B)) := pd_cmp op_ge opd_cmp ha hb (nomark _)
mutual
def toPD : D → PyData
  | .non => .none
  | .bl b => .bool b
  | .int i => .int i
  | .str x => .str x
  | .lst xs => .list (toPDs xs)
  | .nl xs => .list (toPDs xs)
  | .tup xs => .tuple (toPDs xs)
  | _ => .dict []
def toPDs : List D → List PyData
  | [] => []
  | x :: xs => toPD x :: toPDs xs
end
section
variable {K : PySem.W.Frag} {wa : Addr} {Hf : Hp} {w : Wl}
mutual
theorem Rep.dp (hb : Base wa Hf H w) : ∀ {v : V} {d : D}, Rep wa Hf v d → (toPD d).canLay0 = true → Dp K H v (toPD d)
  | _, _, .non, _ => .non
  | _, _, .bl b, _ => .bl b
  | _, _, .int b, _ => .int b
  | _, _, .str b, _ => .str b
  | _, _, .lst h r, c => .lst (SqL.of (hb.ex _ _ h)) (Reps.dp hb r (by simpa [toPD, PyData.canLay0] using c))
  | _, _, .nl h o r, c => .lst (SqL.of (hb.ex _ _ h)) (Reps.dp hb r (by simpa [toPD, PyData.canLay0] using c))
  | _, _, .dft _ _ _, c => by simp [toPD, PyData.canLay0] at c
  | _, _, .dfk _ _ _, c => by simp [toPD, PyData.canLay0] at c
  | _, _, .tup h r, c => .tup (SqT.of (hb.ex _ _ h)) (Reps.dp hb r (by simpa [toPD, PyData.canLay0] using c))
  | _, _, .well, c => by simp [toPD, PyData.canLay0] at c
  | _, _, .ref a, c => by simp [toPD, PyData.canLay0] at c
  | _, _, .ty a, c => by simp [toPD, PyData.canLay0] at c
theorem Reps.dp (hb : Base wa Hf H w) : ∀ {vs : List V} {ds : List D}, Reps wa Hf vs ds → PyData.canLayAll0 (toPDs ds) = true → DpAll K H vs (toPDs ds)
  | _, _, .nil, _ => .nil
  | _, d :: ds, .cons h r, c => by
    have c' : (toPD d).canLay0 = true ∧ PyData.canLayAll0 (toPDs ds) = true := by simpa [toPDs, PyData.canLayAll0] using c
    exact .cons (Rep.dp hb h c'.1) (Reps.dp hb r c'.2)
end
theorem shaped_lay {d : PyData} (h : SeqAt.shaped d = true) : d.canLay0 = true := by
  unfold SeqAt.shaped at h
  rw [Bool.and_eq_true] at h
  exact h.1
end
def okD (x : D) : Bool := SeqAt.shaped (toPD x)
def eqD (x y : D) : Bool := PyData.eqv (toPD x) (toPD y)
def fEq : Wl → D → D → Option D := fun _ x y => if okD x && okD y then some (.bl (eqD x y)) else none
def fNe : Wl → D → D → Option D := fun _ x y => if okD x && okD y then some (.bl (!eqD x y)) else none
theorem opd_eq {K : PySem.W.Frag} : OpD (rEqD K) fEq := by
  intro wa Hf H w x y u v z Q hb ru rv h q
  unfold fEq at h
  split at h
  · rename_i hc
    rw [Bool.and_eq_true] at hc
    cases h
    exact ⟨_, _, ru.dp hb (shaped_lay hc.1), rv.dp hb (shaped_lay hc.2), hc.1, hc.2, q _ _ Go.refl hb _ (.bl _)⟩
  · cases h
theorem opd_ne {K : PySem.W.Frag} : OpD (rNeD K) fNe := by
  intro wa Hf H w x y u v z Q hb ru rv h q
  unfold fNe at h
  split at h
  · rename_i hc
    rw [Bool.and_eq_true] at hc
    cases h
    exact ⟨_, _, ru.dp hb (shaped_lay hc.1), rv.dp hb (shaped_lay hc.2), hc.1, hc.2, q _ _ Go.refl hb _ (.bl _)⟩
  · cases h
theorem pd_eq (hu : X.A.units + 64 < cLine) (ha : PE X a (lE mg W A)) (hb : PE X b (lE mg W B)) : PE X (.Compare a [.Eq] [b] pos) (lE mg W (eBin fEq A B)) := pd_cmp (op_eqD hu) opd_eq ha hb (nomark _)
theorem pd_ne (hu : X.A.units + 64 < cLine) (ha : PE X a (lE mg W A)) (hb : PE X b (lE mg W B)) : PE X (.Compare a [.NotEq] [b] pos) (lE mg W (eBin fNe A B)) := pd_cmp (op_neD hu) opd_ne ha hb (nomark _)
def fIsN : Wl → D → D → Option D := fun _ x y => match x, y with
  | .non, .non => some (.bl true)
  | .well, .non | .ref _, .non | .ty _, .non | .dcf _ _, .non | .bl _, .non | .int _, .non | .str _, .non | .lst _, .non | .tup _, .non => some (.bl false)
  | _, _ => none
def fNotN : Wl → D → D → Option D := fun w x y => match fIsN w x y with
  | some (.bl k) => some (.bl (!k))
  | _ => none
theorem isN_of {wa : Addr} {Hf : Hp} {w : Wl} {x y z : D} {u v : V} (ru : Rep wa Hf u x) (rv : Rep wa Hf v y) (h : fIsN w x y = some z) : v = .non ∧ z = .bl (decide (u = .non)) := by
  unfold fIsN at h
  split at h <;> first
    | (cases h; cases ru <;> cases rv <;> exact ⟨rfl, rfl⟩)
    | cases h
theorem pd_isN (ha : PE X a (lE mg W A)) (hb : PE X b (lE mg W B)) : PE X (.Compare a [.Is] [b] pos) (lE mg W (eBin fIsN A B)) := pd_cmp op_isN (fun wa Hf H w x y u v z Q hb ru rv h q => by
  obtain ⟨e1, e2⟩ := isN_of ru rv h
  subst e2
  exact ⟨e1, q _ _ Go.refl hb _ (.bl _)⟩) ha hb (nomark _)
theorem pd_notN (ha : PE X a (lE mg W A)) (hb : PE X b (lE mg W B)) : PE X (.Compare a [.IsNot] [b] pos) (lE mg W (eBin fNotN A B)) := pd_cmp op_notN (fun wa Hf H w x y u v z Q hb ru rv h q => by
  unfold fNotN at h
  split at h
  · rename_i k hk
    cases h
    obtain ⟨e1, e2⟩ := isN_of ru rv hk
    cases e2
    exact ⟨e1, q _ _ Go.refl hb _ (.bl _)⟩
  · cases h) ha hb (nomark _)
/-- a op1 b op2 c -/
def eChain (f g : Wl → D → D → Option D) (A B C : DE) : DE := fun s w => (A s w).bind fun x w1 => (B s w1).bind fun y w2 => (opt (f w2 x y) w2).bind fun z w3 => match z with
  | .bl true => (C s w3).bind fun u w4 => opt (g w4 y u) w4
  | .bl false => .ok (.bl false) w3
  | _ => .no
theorem chain_ok {Q : VK} (hf : OpD r f) (hg : OpD r' g) (h : lE mg W (eChain f g A B C) σ H Q) : tChain r r' (lE mg W A) (lE mg W B) (lE mg W C) σ H Q := by
  obtain ⟨wa, Hf, sD, w, hb, hs, h⟩ := h
  refine ⟨wa, Hf, sD, w, hb, hs, h.bind.mono (fun x w1 H1 Hf1 g1 b1 q v rv => ?_) (fun _ _ _ _ _ _ q => q)⟩
  refine ⟨wa, Hf1, sD, w1, b1, hs.go g1, q.bind.mono (fun y w2 H2 Hf2 g2 b2 q2 v2 rv2 => ?_) (fun _ _ _ _ _ _ q => q)⟩
  obtain ⟨z, e, q3⟩ := q2.bind.opt
  refine hf wa Hf2 H2 w2 x y v v2 z _ b2 (rv.mono g2.ex) rv2 e fun H3 Hf3 g3 b3 v3 r3 => ?_
  have q4 := q3 H3 Hf3 g3 b3
  split at q4
  · cases r3
    refine ⟨true, rfl, iteT ?_⟩
    refine ⟨wa, Hf3, sD, _, b3, (hs.go g1).go (g2.trans g3), q4.bind.mono (fun u w4 H4 Hf4 g4 b4 q5 v4 r4 => ?_) (fun _ _ _ _ _ _ q => q)⟩
    obtain ⟨z2, e2, q6⟩ := q5.opt
    exact hg wa Hf4 H4 _ _ _ v2 v4 z2 Q b4 (rv2.mono (g3.trans g4).ex) r4 e2 q6
  · cases r3
    exact ⟨false, rfl, iteF (q4.here b3 _ (.bl false))⟩
  · exact q4.elim
theorem pd_chain {op op' : CmpOp} (ho : OpR X (compareOp op) r) (ho' : OpR X (compareOp op') r') (hf : OpD r f) (hg : OpD r' g) (ha : PE X a (lE mg W A)) (hb : PE X b (lE mg W B)) (hc : PE X c (lE mg W C))
    (hm : lastMarks [op, op'] [b, c] = false := by with_unfolding_all rfl) : PE X (.Compare a [op, op'] [b, c] pos) (lE mg W (eChain f g A B C)) := weakE (pe_chain ho ho' ha hb hc hm) fun _ _ _ q => chain_ok hf hg q

/-! ### and, or, not as values -/
def eAnd (A B : DE) : DE := fun s w => (A s w).bind fun x w1 => match x with
  | .bl true => B s w1
  | .bl false => .ok (.bl false) w1
  | _ => .no
def eOr (A B : DE) : DE := fun s w => (A s w).bind fun x w1 => match x with
  | .bl true => .ok (.bl true) w1
  | .bl false => B s w1
  | _ => .no
def eNot (A : DE) : DE := fun s w => (A s w).bind fun x w1 => match x with
  | .bl k => .ok (.bl (!k)) w1
  | _ => .no
variable {rest : List Expr}
theorem pd_one {op} (h : PE X a (lE mg W A)) : PE X (.BoolOp op [a] pos) (lE mg W A) := pe_one h
theorem pd_and (ha : PE X a (lE mg W A)) (hb : PE X (.BoolOp .And (b :: rest) pos) (lE mg W B)) : PE X (.BoolOp .And (a :: b :: rest) pos) (lE mg W (eAnd A B)) := weakE (pe_and ha hb) fun σ H Q h => by
  obtain ⟨wa, Hf, sD, w, hb, hs, h⟩ := h
  refine ⟨wa, Hf, sD, w, hb, hs, h.bind.mono (fun x w1 H1 Hf1 g1 b1 q v rv => ?_) (fun _ _ _ _ _ _ q => q)⟩
  split at q
  · cases rv
    exact ⟨true, rfl, iteT ⟨wa, Hf1, sD, w1, b1, hs.go g1, q⟩⟩
  · cases rv
    exact ⟨false, rfl, iteF (q.here b1 _ (.bl false))⟩
  · exact q.elim
theorem pd_or (ha : PE X a (lE mg W A)) (hb : PE X (.BoolOp .Or (b :: rest) pos) (lE mg W B)) : PE X (.BoolOp .Or (a :: b :: rest) pos) (lE mg W (eOr A B)) := weakE (pe_or ha hb) fun σ H Q h => by
  obtain ⟨wa, Hf, sD, w, hb, hs, h⟩ := h
  refine ⟨wa, Hf, sD, w, hb, hs, h.bind.mono (fun x w1 H1 Hf1 g1 b1 q v rv => ?_) (fun _ _ _ _ _ _ q => q)⟩
  split at q
  · cases rv
    exact ⟨true, rfl, iteT (q.here b1 _ (.bl true))⟩
  · cases rv
    exact ⟨false, rfl, iteF ⟨wa, Hf1, sD, w1, b1, hs.go g1, q⟩⟩
  · exact q.elim
theorem pd_not (ha : PE X a (lE mg W A)) : PE X (.UnaryOp .Not a pos) (lE mg W (eNot A)) := weakE (pe_not ha) fun σ H Q h => by
  obtain ⟨wa, Hf, sD, w, hb, hs, h⟩ := h
  refine ⟨wa, Hf, sD, w, hb, hs, h.bind.mono (fun x w1 H1 Hf1 g1 b1 q v rv => ?_) (fun _ _ _ _ _ _ q => q)⟩
  split at q
  · cases rv
    exact ⟨_, rfl, q.here b1 _ (.bl _)⟩
  · exact q.elim

/-! ### tests -/
def tE (A : DE) : DT := fun s w => (A s w).bind fun x w1 => match x with
  | .bl k => .ok k w1
  | _ => .no
def tAn (A B : DT) : DT := fun s w => (A s w).bind fun k w1 => if k then B s w1 else .ok false w1
def tOn (A B : DT) : DT := fun s w => (A s w).bind fun k w1 => if k then .ok true w1 else B s w1
def tNo (A : DT) : DT := fun s w => (A s w).bind fun k w1 => .ok (!k) w1
def truD : D → Option Bool
  | .non => some false
  | .bl b => some b
  | .int i => some (i != 0)
  | .str y => if y.length ≤ lim then some ((y.length : Int) != 0) else none
  | .lst xs => some (!xs.isEmpty)
  | .tup xs => some (!xs.isEmpty)
  | _ => none
def tTr (A : DE) : DT := fun s w => (A s w).bind fun x w1 => opt (truD x) w1
variable {S T : DT}
theorem tE_ok {Q : Bool → Hp → Prop} (h : lT mg W (tE A) σ H Q) : tTest (lE mg W A) σ H Q := by
  obtain ⟨wa, Hf, sD, w, hb, hs, h⟩ := h
  refine ⟨wa, Hf, sD, w, hb, hs, h.bind.mono (fun x w1 H1 Hf1 g1 b1 q v rv => ?_) (fun _ _ _ _ _ _ q => q)⟩
  split at q
  · cases rv
    exact ⟨_, rfl, q.here b1 _ rfl⟩
  · exact q.elim
/-- a comparison as a test -/
theorem qd_cmp {op : CmpOp} (ho : OpR X (compareOp op) r) (hf : OpD r f) (ha : PE X a (lE mg W A)) (hb : PE X b (lE mg W B)) (hm : behindInMarks op b = false) : PT X (.Compare a [op] [b] pos) (lT mg W (tE (eBin f A B))) := weakT (pt_cmpR ho ha hb hm) fun σ H Q h => by
  have q := tE_ok h
  exact bin_ok hf q
theorem qd_lt (ha : PE X a (lE mg W A)) (hb : PE X b (lE mg W B)) : PT X (.Compare a [.Lt] [b] pos) (lT mg W (tE (eBin fLt A B))) := qd_cmp op_lt opd_cmp ha hb (nomark _)
theorem qd_le (ha : PE X a (lE mg W A)) (hb : PE X b (lE mg W B)) : PT X (.Compare a [.LtE] [b] pos) (lT mg W (tE (eBin fLe A B))) := qd_cmp op_le opd_cmp ha hb (nomark _)
theorem qd_gt (ha : PE X a (lE mg W A)) (hb : PE X b (lE mg W B)) : PT X (.Compare a [.Gt] [b] pos) (lT mg W (tE (eBin fGt A B))) := qd_cmp op_gt opd_cmp ha hb (nomark _)
theorem qd_ge (ha : PE X a (lE mg W A)) (hb : PE X b (lE mg W B)) : PT X (.Compare a [.GtE] [b] pos) (lT mg W (tE (eBin fGe A B))) := qd_cmp op_ge opd_cmp ha hb (nomark _)
theorem qd_eq (hu : X.A.units + 64 < cLine) (ha : PE X a (lE mg W A)) (hb : PE X b (lE mg W B)) : PT X (.Compare a [.Eq] [b] pos) (lT mg W (tE (eBin fEq A B))) := qd_cmp (op_eqD hu) opd_eq ha hb (nomark _)
theorem qd_ne (hu : X.A.units + 64 < cLine) (ha : PE X a (lE mg W A)) (hb : PE X b (lE mg W B)) : PT X (.Compare a [.NotEq] [b] pos) (lT mg W (tE (eBin fNe A B))) := qd_cmp (op_neD hu) opd_ne ha hb (nomark _)
theorem qd_isN (ha : PE X a (lE mg W A)) (hb : PE X b (lE mg W B)) : PT X (.Compare a [.Is] [b] pos) (lT mg W (tE (eBin fIsN A B))) := qd_cmp op_isN (fun wa Hf H w x y u v z Q hb ru rv h q => by
  obtain ⟨e1, e2⟩ := isN_of ru rv h
  subst e2
  exact ⟨e1, q _ _ Go.refl hb _ (.bl _)⟩) ha hb (nomark _)
theorem qd_notN (ha : PE X a (lE mg W A)) (hb : PE X b (lE mg W B)) : PT X (.Compare a [.IsNot] [b] pos) (lT mg W (tE (eBin fNotN A B))) := qd_cmp op_notN (fun wa Hf H w x y u v z Q hb ru rv h q => by
  unfold fNotN at h
  split at h
  · rename_i k hk
    cases h
    obtain ⟨e1, e2⟩ := isN_of ru rv hk
    cases e2
    exact ⟨e1, q _ _ Go.refl hb _ (.bl _)⟩
  · cases h) ha hb (nomark _)
theorem qd_chain {op op' : CmpOp} (ho : OpR X (compareOp op) r) (ho' : OpR X (compareOp op') r') (hf : OpD r f) (hg : OpD r' g) (ha : PE X a (lE mg W A)) (hb : PE X b (lE mg W B)) (hc : PE X c (lE mg W C))
    (hm : lastMarks [op, op'] [b, c] = false := by with_unfolding_all rfl) : PT X (.Compare a [op, op'] [b, c] pos) (lT mg W (tE (eChain f g A B C))) := weakT (pt_chain ho ho' ha hb hc hm) fun σ H Q h => by
  have q := tE_ok h
  exact chain_ok hf hg q
/-- any other expression as a test: its truth -/
theorem qd_tr (ha : PE X a (lE mg W A)) (he : ∀ whole, isTrue a X.env whole = (do let v ← whole; standAt a.pos; holding [v] (truthy v)) := by intro _; rfl) : PT X a (lT mg W (tTr A)) := weakT (pt_truth ha he) fun σ H Q h => by
  obtain ⟨wa, Hf, sD, w, hb, hs, h⟩ := h
  refine ⟨wa, Hf, sD, w, hb, hs, h.bind.mono (fun x w1 H1 Hf1 g1 b1 q v rv => ?_) (fun _ _ _ _ _ _ q => q)⟩
  obtain ⟨z, e, q3⟩ := q.opt
  refine ⟨z, ?_, q3 _ _ Go.refl b1 _ rfl⟩
  unfold truD at e
  split at e
  · cases e; cases rv; rfl
  · cases e; cases rv; rfl
  · cases e; cases rv; rfl
  · split at e
    · rename_i hz
      cases e
      cases rv
      exact ⟨lim_le hz, rfl⟩
    · cases e
  · cases e
    cases rv with
    | lst h1 r1 =>
      refine .inl ⟨_, SqL.of (b1.ex _ _ h1), ?_⟩
      cases r1 <;> rfl
  · cases e
    cases rv with
    | tup h1 r1 =>
      refine .inr (.inl ⟨_, SqT.of (b1.ex _ _ h1), ?_⟩)
      cases r1 <;> rfl
  · cases e
theorem qd_and1 (ha : PT X a (lT mg W S)) : PW X (.BoolOp .And [a] pos) (lT mg W S) := pw_and1 ha
theorem qd_or1 (ha : PT X a (lT mg W S)) : PW X (.BoolOp .Or [a] pos) (lT mg W S) := pw_or1 ha
theorem qd_and (ha : PT X a (lT mg W S)) (hb : PW X (.BoolOp .And (b :: rest) pos) (lT mg W T)) : PW X (.BoolOp .And (a :: b :: rest) pos) (lT mg W (tAn S T)) := weakW (pw_and ha hb) fun σ H Q h => by
  obtain ⟨wa, Hf, sD, w, hb, hs, h⟩ := h
  refine ⟨wa, Hf, sD, w, hb, hs, h.bind.mono (fun x w1 H1 Hf1 g1 b1 q v rv => ?_) (fun _ _ _ _ _ _ q => q)⟩
  cases rv
  cases x with
  | true => exact iteT ⟨wa, Hf1, sD, w1, b1, hs.go g1, q⟩
  | false => exact iteF (q.here b1 _ rfl)
theorem qd_or (ha : PT X a (lT mg W S)) (hb : PW X (.BoolOp .Or (b :: rest) pos) (lT mg W T)) : PW X (.BoolOp .Or (a :: b :: rest) pos) (lT mg W (tOn S T)) := weakW (pw_or ha hb) fun σ H Q h => by
  obtain ⟨wa, Hf, sD, w, hb, hs, h⟩ := h
  refine ⟨wa, Hf, sD, w, hb, hs, h.bind.mono (fun x w1 H1 Hf1 g1 b1 q v rv => ?_) (fun _ _ _ _ _ _ q => q)⟩
  cases rv
  cases x with
  | true => exact iteT (q.here b1 _ rfl)
  | false => exact iteF ⟨wa, Hf1, sD, w1, b1, hs.go g1, q⟩
theorem qd_not (ha : PT X a (lT mg W S)) : PT X (.UnaryOp .Not a pos) (lT mg W (tNo S)) := weakT (pt_not ha) fun σ H Q h => by
  obtain ⟨wa, Hf, sD, w, hb, hs, h⟩ := h
  refine ⟨wa, Hf, sD, w, hb, hs, h.bind.mono (fun x w1 H1 Hf1 g1 b1 q v rv => ?_) (fun _ _ _ _ _ _ q => q)⟩
  cases rv
  exact q.here b1 _ rfl
/-- a if t else b -/
def eIf (T : DT) (A B : DE) : DE := fun s w => (T s w).bind fun k w1 => if k then A s w1 else B s w1
theorem pd_if (hc : PT X c (lT mg W T)) (ha : PE X a (lE mg W A)) (hb : PE X b (lE mg W B)) : PE X (.IfExp c a b pos) (lE mg W (eIf T A B)) := weakE (pe_ifExp hc ha hb) fun σ H Q h => by
  obtain ⟨wa, Hf, sD, w, hb, hs, h⟩ := h
  refine ⟨wa, Hf, sD, w, hb, hs, h.bind.mono (fun x w1 H1 Hf1 g1 b1 q v rv => ?_) (fun _ _ _ _ _ _ q => q)⟩
  cases rv
  cases x with
  | true => exact iteT ⟨wa, Hf1, sD, w1, b1, hs.go g1, q⟩
  | false => exact iteF ⟨wa, Hf1, sD, w1, b1, hs.go g1, q⟩

/-! ### argument lists, displays -/
def aNil : DA := fun _ w => .ok [] w
def aCons (A : DE) (As : DA) : DA := fun s w => (A s w).bind fun x w1 => (As s w1).bind fun xs w2 => .ok (x :: xs) w2
variable {As : DA} {es : List Expr}
theorem ad_nil : PA X [] (lA mg W aNil) := weakA pa_nil fun σ H Q h => by
  obtain ⟨wa, Hf, sD, w, hb, hs, h⟩ := h
  exact h.here hb _ .nil
theorem ad_cons (ha : PE X a (lE mg W A)) (hr : PA X es (lA mg W As)) (hs : starEach (a :: es) X.env = (false, eval a X.env) :: starEach es X.env := by rfl) : PA X (a :: es) (lA mg W (aCons A As)) := weakA (pa_cons ha hr hs) fun σ H Q h => by
  obtain ⟨wa, Hf, sD, w, hb, hs, h⟩ := h
  refine ⟨wa, Hf, sD, w, hb, hs, h.bind.mono (fun x w1 H1 Hf1 g1 b1 q v rv => ?_) (fun _ _ _ _ _ _ q => q)⟩
  refine ⟨wa, Hf1, sD, w1, b1, hs.go g1, q.bind.mono (fun y w2 H2 Hf2 g2 b2 q2 v2 rv2 => ?_) (fun _ _ _ _ _ _ q => q)⟩
  exact q2.here b2 _ (.cons (rv.mono g2.ex) rv2)
def eTup (As : DA) : DE := fun s w => (As s w).bind fun xs w1 => if xs.length ≤ lim then .ok (.tup xs) w1 else .no
def aLst (As : DA) : DA := fun s w => (As s w).bind fun xs w1 => if xs.length ≤ lim then .ok xs w1 else .no
theorem pd_tup {k} (ha : PA X es (lA mg W As)) : PE X (.Tuple es k pos) (lE mg W (eTup As)) := weakE (pe_tup ha) fun σ H Q h => by
  obtain ⟨wa, Hf, sD, w, hb, hs, h⟩ := h
  refine ⟨wa, Hf, sD, w, hb, hs, h.bind.mono (fun x w1 H1 Hf1 g1 b1 q v rv => ?_) (fun _ _ _ _ _ _ q => q)⟩
  split at q
  · rename_i hz
    refine ⟨by rw [rv.length]; exact lim_le hz, fun p hp => ?_⟩
    exact q _ _ (Go.newF b1.ex hp) (b1.newF hp) _ (.tup upd_same (rv.mono (Ex.new (Evl.fresh_back b1.ex hp))))
  · exact q.elim
theorem pl_lst (ha : PA X es (lA mg W As)) : PE X (.List es pos) (lfL mg W (aLst As)) := weakE (pe_lst ha) fun σ H Q h => by
  obtain ⟨wa, Hf, sD, w, hb, hs, h⟩ := h
  refine ⟨wa, Hf, sD, w, hb, hs, h.bind.mono (fun x w1 H1 Hf1 g1 b1 q v rv => ?_) (fun _ _ _ _ _ _ q => q)⟩
  split at q
  · rename_i hz
    refine ⟨by rw [rv.length]; exact lim_le hz, fun p hp => ?_⟩
    exact q _ _ (Go.new1 hp) (b1.new1 hp) p v (g1.free hp) upd_same (Evl.fresh_back b1.ex hp) (fun z => by rw [z, b1.well] at hp; cases hp) rv
  · exact q.elim

/-! ### subscripts -/
def atD (w : Wl) (x : D) (i : Int) : Option D := match x with
  | .lst xs => atI xs i
  | .tup xs => atI xs i
  | .well => atI [.int w.1, .int w.2.1, .int w.2.2] i
  | _ => none
def fIx : Wl → D → D → Option D := fun w x y => match y with
  | .int i => atD w x i
  | _ => none
theorem atI_rep {wa : Addr} {Hf : Hp} {vs : List V} {ds : List D} {i : Int} {d : D} (r : Reps wa Hf vs ds) (h : atI ds i = some d) : ∃ v, atI vs i = some v ∧ Rep wa Hf v d := by
  unfold atI at h ⊢
  rw [r.length]
  cases e : ixN ds.length i with
  | none => rw [e] at h; cases h
  | some j =>
    rw [e] at h
    exact r.get h
theorem opd_ix {K : PySem.W.Frag} : OpD (rIx K) fIx := by
  intro wa Hf H w x y u v z Q hb ru rv h q
  unfold fIx at h
  split at h
  · cases rv
    unfold atD at h
    split at h
    · cases ru with
      | lst h1 r1 =>
        obtain ⟨v', e, r'⟩ := atI_rep r1 h
        exact .inl ⟨_, _, _, _, rfl, rfl, SqL.of (hb.ex _ _ h1), e, q _ _ Go.refl hb _ r'⟩
    · cases ru with
      | tup h1 r1 =>
        obtain ⟨v', e, r'⟩ := atI_rep r1 h
        exact .inr (.inl ⟨_, _, _, _, rfl, rfl, SqT.of (hb.ex _ _ h1), e, q _ _ Go.refl hb _ r'⟩)
    · cases ru
      obtain ⟨v', e, r'⟩ := atI_rep (wa := wa) (Hf := Hf) (vs := wl w) (.cons (.int _) (.cons (.int _) (.cons (.int _) .nil))) h
      exact .inl ⟨_, _, _, _, rfl, rfl, SqL.of hb.well, e, q _ _ Go.refl hb _ r'⟩
    · cases h
  · cases h
theorem pd_ix (ha : PE X a (lE mg W A)) (hb : PE X b (lE mg W B)) (hs : PlainIx b := by exact fun _ _ => rfl) : PE X (.Subscript a b pos) (lE mg W (eBin fIx A B)) := weakE (pe_ix ix_seq ha hb hs) fun _ _ _ q => bin_ok opd_ix q
/-- a part of a slice -/
def oNone : Sl → Wl → R (Option Int) := fun _ w => .ok none w
def oSome (A : DE) : Sl → Wl → R (Option Int) := fun s w => (A s w).bind fun x w1 => match x with
  | .int i => .ok (some i) w1
  | _ => .no
theorem od_none : PO X none (lO mg W oNone) := weakO po_none fun σ H Q h => by
  obtain ⟨wa, Hf, sD, w, hb, hs, h⟩ := h
  exact h.here hb _ rfl
theorem od_some (ha : PE X a (lE mg W A)) : PO X (some a) (lO mg W (oSome A)) := weakO (po_some ha) fun σ H Q h => by
  obtain ⟨wa, Hf, sD, w, hb, hs, h⟩ := h
  refine ⟨wa, Hf, sD, w, hb, hs, h.bind.mono (fun x w1 H1 Hf1 g1 b1 q v rv => ?_) (fun _ _ _ _ _ _ q => q)⟩
  split at q
  · cases rv
    exact ⟨_, rfl, q.here b1 _ rfl⟩
  · exact q.elim
def cutD {α : Type} (xs : List α) (lo hi : Option Int) : List α := (xs.drop (HT.sIx xs.length 0 lo)).take (HT.sIx xs.length xs.length hi - HT.sIx xs.length 0 lo)
theorem cut_rep {wa : Addr} {Hf : Hp} {vs : List V} {ds : List D} {lo hi : Option Int} (r : Reps wa Hf vs ds) : Reps wa Hf (cutV vs lo hi) (cutD ds lo hi) := by
  unfold cutV cutD
  rw [r.length]
  exact (r.drop _).take _
theorem cutD_whole {α : Type} {xs : List α} {lo hi : Option Int} (h : HT.sIx xs.length 0 lo = 0 ∧ HT.sIx xs.length xs.length hi = xs.length) : cutD xs lo hi = xs := by
  unfold cutD
  rw [h.1, h.2]
  simp
def eSl (A : DE) (L M : Sl → Wl → R (Option Int)) : DE := fun s w => (A s w).bind fun x w1 => (L s w1).bind fun l w2 => (M s w2).bind fun m w3 => match x with
  | .lst xs => .ok (.lst (cutD xs l m)) w3
  | .tup xs => .ok (.tup (cutD xs l m)) w3
  | _ => .no
theorem pd_sl {lo hi : Option Expr} {p2 : Pos} {L M : Sl → Wl → R (Option Int)} (ha : PE X a (lE mg W A)) (hl : PO X lo (lO mg W L)) (hm : PO X hi (lO mg W M)) : PE X (.Subscript a (.Slice lo hi none p2) pos) (lE mg W (eSl A L M)) :=
  weakE (pe_slice (sl_list.or sl_tupA) ha hl hm) fun σ H Q h => by
  obtain ⟨wa, Hf, sD, w, hb, hs, h⟩ := h
  refine ⟨wa, Hf, sD, w, hb, hs, h.bind.mono (fun x w1 H1 Hf1 g1 b1 q v rv => ?_) (fun _ _ _ _ _ _ q => q)⟩
  refine ⟨wa, Hf1, sD, w1, b1, hs.go g1, q.bind.mono (fun y w2 H2 Hf2 g2 b2 q2 v2 rv2 => ?_) (fun _ _ _ _ _ _ q => q)⟩
  refine ⟨wa, Hf2, sD, w2, b2, (hs.go g1).go g2, q2.bind.mono (fun z w3 H3 Hf3 g3 b3 q3 v3 rv3 => ?_) (fun _ _ _ _ _ _ q => q)⟩
  cases rv2
  cases rv3
  split at q3
  · cases rv with
    | lst h1 r1 =>
      refine .inl ⟨_, _, rfl, SqL.of (b3.ex _ _ (g3.ex _ _ (g2.ex _ _ h1))), ?_⟩
      exact frzL (z := .non) b3 (cut_rep ((r1.mono g2.ex).mono g3.ex)) q3
  · cases rv with
    | tup h1 r1 =>
      have h3 := g3.ex _ _ (g2.ex _ _ h1)
      have r3 := (r1.mono g2.ex).mono g3.ex
      refine .inr ⟨_, _, rfl, SqT.of (b3.ex _ _ h3), fun hw => ?_, fun _ => frzT (z := .non) b3 (cut_rep r3) q3⟩
      rw [r3.length] at hw
      refine q3 _ _ Go.refl b3 _ ?_
      rw [cutD_whole hw]
      exact .tup h3 r3
  · exact q3.elim

/-! ### calls of built-ins by values -/
theorem pd_cb {x : Str} {id : String} {r : List V → Hp → VK → Prop} {f : Wl → List D → Option D} {p : Pos} (hc : CallR X (.builtin id) r) (hf : CaD r f) (hg : Gl X x) (hm : X.mg x = none) (hv : bootBuiltins x = some (.builtin id)) (ha : PA X (a :: es) (lA mg W As)) (hn : x ≠ "__name__" := by decide) (hdb : (x == ("__debug__" : Str)) = false := by decide)
    (he : starEach (a :: es) X.env = (false, eval a X.env) :: starEach es X.env := by rfl) (hpl : (backTo pos (starEach es X.env)).any (·.1) = false := by rfl) : PE X (.Call (.Name x p) (a :: es) [] pos) (lE mg W (eCB f As)) :=
  weakE (pe_callB hc hg hm hv ha hn hdb he hpl) fun _ _ _ q => cb_ok hf q
theorem pd_ct {x : Str} {id : String} {r : List V → Hp → VK → Prop} {f : Wl → List D → Option D} {p : Pos} (hc : CallR X (.type id) r) (hf : CaD r f) (hg : Gl X x) (hm : X.mg x = none) (hv : bootBuiltins x = some (.type id)) (ha : PA X (a :: es) (lA mg W As)) (hn : x ≠ "__name__" := by decide) (hdb : (x == ("__debug__" : Str)) = false := by decide)
    (he : starEach (a :: es) X.env = (false, eval a X.env) :: starEach es X.env := by rfl) (hpl : (backTo pos (starEach es X.env)).any (·.1) = false := by rfl) : PE X (.Call (.Name x p) (a :: es) [] pos) (lE mg W (eCB f As)) :=
  weakE (pe_callTy hc hg hm hv ha hn hdb he hpl) fun _ _ _ q => cb_ok hf q
theorem pl_ct {x : Str} {id : String} {r : List V → Hp → VK → Prop} {f : Wl → List D → Option (List D)} {p : Pos} (hc : CallR X (.type id) r) (hf : CaL r f) (hg : Gl X x) (hm : X.mg x = none) (hv : bootBuiltins x = some (.type id)) (ha : PA X (a :: es) (lA mg W As)) (hn : x ≠ "__name__" := by decide) (hdb : (x == ("__debug__" : Str)) = false := by decide)
    (he : starEach (a :: es) X.env = (false, eval a X.env) :: starEach es X.env := by rfl) (hpl : (backTo pos (starEach es X.env)).any (·.1) = false := by rfl) : PE X (.Call (.Name x p) (a :: es) [] pos) (lfL mg W (eCBL f As)) :=
  weakE (pe_callTy hc hg hm hv ha hn hdb he hpl) fun _ _ _ q => cbL_ok hf q
end
end DL

set_option maxHeartbeats 2000000
namespace DL
open PySem PySem.Spec PyProof.Rows L2
variable [TabT] [OldT]
open Evl (Ex)
/-! ### built-ins by values -/
def ints? : List D → Option (List Int)
  | [] => some []
  | .int i :: r => (ints? r).map (i :: ·)
  | _ => none
def bls? : List D → Option (List Bool)
  | [] => some []
  | .bl i :: r => (bls? r).map (i :: ·)
  | _ => none
@[simp] theorem ints?_map : ∀ ns : List Int, ints? (ns.map .int) = some ns
  | [] => rfl
  | n :: r => by simp [ints?, ints?_map r]
@[simp] theorem bls?_map : ∀ ns : List Bool, bls? (ns.map .bl) = some ns
  | [] => rfl
  | n :: r => by simp [bls?, bls?_map r]
theorem ints?_some : ∀ {ds : List D} {ns : List Int}, ints? ds = some ns → ds = ns.map .int
  | [], ns, h => by cases h; rfl
  | .int i :: r, ns, h => by
    unfold ints? at h
    cases e : ints? r with
    | none => rw [e] at h; cases h
    | some ms =>
      rw [e] at h
      cases h
      rw [ints?_some e]
      rfl
  | .non :: _, _, h | .bl _ :: _, _, h | .str _ :: _, _, h | .lst _ :: _, _, h | .tup _ :: _, _, h | .own _ :: _, _, h | .dct _ _ :: _, _, h | .well :: _, _, h | .ref _ :: _, _, h | .ty _ :: _, _, h => by cases h
theorem bls?_some : ∀ {ds : List D} {ns : List Bool}, bls? ds = some ns → ds = ns.map .bl
  | [], ns, h => by cases h; rfl
  | .bl i :: r, ns, h => by
    unfold bls? at h
    cases e : bls? r with
    | none => rw [e] at h; cases h
    | some ms =>
      rw [e] at h
      cases h
      rw [bls?_some e]
      rfl
  | .non :: _, _, h | .int _ :: _, _, h | .str _ :: _, _, h | .lst _ :: _, _, h | .tup _ :: _, _, h | .own _ :: _, _, h | .dct _ _ :: _, _, h | .well :: _, _, h | .ref _ :: _, _, h | .ty _ :: _, _, h => by cases h
section
variable {X : Cx} {H : Hp}
def fLen : Wl → List D → Option D := fun _ ds => match ds with
  | [.lst xs] => some (.int xs.length)
  | [.tup xs] => some (.int xs.length)
  | [.str x] => if x.length ≤ lim then some (.int x.length) else none
  | _ => none
theorem cd_len {K : PySem.W.Frag} : CaD (fun xs H Q => ∃ x n, xs = [x] ∧ LenV K x H n ∧ Q (.int n) H) fLen := by
  intro wa Hf H w ds us z Q hb rs h q
  unfold fLen at h
  split at h
  · cases h
    cases rs with
    | cons r1 r2 =>
      cases r2
      cases r1 with
      | lst h1 r1 => exact ⟨_, _, rfl, .inl ⟨_, SqL.of (hb.ex _ _ h1), rfl⟩, by rw [r1.length]; exact q _ _ Go.refl hb _ (.int _)⟩
  · cases h
    cases rs with
    | cons r1 r2 =>
      cases r2
      cases r1 with
      | tup h1 r1 => exact ⟨_, _, rfl, .inr ⟨_, SqT.of (hb.ex _ _ h1), rfl⟩, by rw [r1.length]; exact q _ _ Go.refl hb _ (.int _)⟩
  · split at h
    · rename_i hz
      cases h
      cases rs with
      | cons r1 r2 =>
        cases r2
        cases r1
        exact ⟨_, _, rfl, ⟨lim_le hz, rfl⟩, q _ _ Go.refl hb _ (.int _)⟩
    · cases h
  · cases h
def fMax2 : Wl → List D → Option D := fun _ ds => match ds with
  | [.int i, .int j] => some (.int (if j > i then j else i))
  | _ => none
def fMin2 : Wl → List D → Option D := fun _ ds => match ds with
  | [.int i, .int j] => some (.int (if j < i then j else i))
  | _ => none
theorem cd_max2 : CaD (fun xs H Q => ∃ i j, xs = [.int i, .int j] ∧ Q (.int (if j > i then j else i)) H) fMax2 := by
  intro wa Hf H w ds us z Q hb rs h q
  unfold fMax2 at h
  split at h
  · cases h
    cases rs with
    | cons r1 r2 =>
      cases r1
      cases r2 with
      | cons r1 r2 =>
        cases r1
        cases r2
        exact ⟨_, _, rfl, q _ _ Go.refl hb _ (.int _)⟩
  · cases h
theorem cd_min2 : CaD (fun xs H Q => ∃ i j, xs = [.int i, .int j] ∧ Q (.int (if j < i then j else i)) H) fMin2 := by
  intro wa Hf H w ds us z Q hb rs h q
  unfold fMin2 at h
  split at h
  · cases h
    cases rs with
    | cons r1 r2 =>
      cases r1
      cases r2 with
      | cons r1 r2 =>
        cases r1
        cases r2
        exact ⟨_, _, rfl, q _ _ Go.refl hb _ (.int _)⟩
  · cases h
def fAbs : Wl → List D → Option D := fun _ ds => match ds with
  | [.int i] => some (.int (if i < 0 then -i else i))
  | _ => none
theorem cd_abs : CaD (fun xs H Q => ∃ i, xs = [.int i] ∧ Q (.int (if i < 0 then -i else i)) H) fAbs := by
  intro wa Hf H w ds us z Q hb rs h q
  unfold fAbs at h
  split at h
  · cases h
    cases rs with
    | cons r1 r2 =>
      cases r1
      cases r2
      exact ⟨_, rfl, q _ _ Go.refl hb _ (.int _)⟩
  · cases h
def fInt : Wl → List D → Option D := fun _ ds => match ds with
  | [.int i] => some (.int i)
  | [.bl k] => some (.int (if k then 1 else 0))
  | _ => none
theorem cd_int : CaD (fun xs H Q => (∃ i, xs = [.int i] ∧ Q (.int i) H) ∨ ∃ k, xs = [.bl k] ∧ Q (.int (if k then 1 else 0)) H) fInt := by
  intro wa Hf H w ds us z Q hb rs h q
  unfold fInt at h
  split at h
  · cases h
    cases rs with
    | cons r1 r2 =>
      cases r1
      cases r2
      exact .inl ⟨_, rfl, q _ _ Go.refl hb _ (.int _)⟩
  · cases h
    cases rs with
    | cons r1 r2 =>
      cases r1
      cases r2
      exact .inr ⟨_, rfl, q _ _ Go.refl hb _ (.int _)⟩
  · cases h
def fSum : Wl → List D → Option D := fun _ ds => match ds with
  | [.lst xs] => (ints? xs).map fun ns => .int ns.sum
  | _ => none
theorem one_lst {wa : Addr} {Hf : Hp} {us : List V} {xs : List D} (r : Reps wa Hf us [.lst xs]) : ∃ a vs, us = [.ref a] ∧ Hf a = some (.lst vs) ∧ Reps wa Hf vs xs := by
  cases r with
  | cons r1 r2 =>
    cases r2
    cases r1 with
    | lst h1 r1 => exact ⟨_, _, rfl, h1, r1⟩
theorem cd_sum {K : PySem.W.Frag} : CaD (rSum K) fSum := by
  intro wa Hf H w ds us z Q hb rs h q
  unfold fSum at h
  split at h
  · rename_i xs
    cases e : ints? xs with
    | none => rw [e] at h; cases h
    | some ns =>
      rw [e] at h
      cases h
      obtain ⟨a, vs, rfl, h1, r1⟩ := one_lst rs
      rw [ints?_some e] at r1
      have e2 := r1.ints
      subst e2
      exact ⟨a, ns, rfl, SqL.of (hb.ex _ _ h1), q _ _ Go.refl hb _ (.int _)⟩
  · cases h
def fAll : Wl → List D → Option D := fun _ ds => match ds with
  | [.lst xs] => (bls? xs).map fun ns => .bl (ns.all id)
  | _ => none
def fAny : Wl → List D → Option D := fun _ ds => match ds with
  | [.lst xs] => (bls? xs).map fun ns => .bl (ns.any id)
  | _ => none
theorem cd_all {K : PySem.W.Frag} : CaD (rAll K) fAll := by
  intro wa Hf H w ds us z Q hb rs h q
  unfold fAll at h
  split at h
  · rename_i xs
    cases e : bls? xs with
    | none => rw [e] at h; cases h
    | some ns =>
      rw [e] at h
      cases h
      obtain ⟨a, vs, rfl, h1, r1⟩ := one_lst rs
      rw [bls?_some e] at r1
      have e2 := r1.bls
      subst e2
      exact ⟨a, ns, rfl, SqL.of (hb.ex _ _ h1), q _ _ Go.refl hb _ (.bl _)⟩
  · cases h
theorem cd_any {K : PySem.W.Frag} : CaD (rAny K) fAny := by
  intro wa Hf H w ds us z Q hb rs h q
  unfold fAny at h
  split at h
  · rename_i xs
    cases e : bls? xs with
    | none => rw [e] at h; cases h
    | some ns =>
      rw [e] at h
      cases h
      obtain ⟨a, vs, rfl, h1, r1⟩ := one_lst rs
      rw [bls?_some e] at r1
      have e2 := r1.bls
      subst e2
      exact ⟨a, ns, rfl, SqL.of (hb.ex _ _ h1), q _ _ Go.refl hb _ (.bl _)⟩
  · cases h
def fTuple : Wl → List D → Option D := fun _ ds => match ds with
  | [.lst xs] => some (.tup xs)
  | [.tup xs] => some (.tup xs)
  | _ => none
theorem cd_tuple {K : PySem.W.Frag} : CaD (fun xs H Q => ∃ p ys, xs = [.ref p] ∧ ((SqL K H p ys ∧ ∀ l, H l = none → Q (.ref l) (upd H l (.tup ys))) ∨ (SqT K H p ys ∧ Q (.ref p) H))) fTuple := by
  intro wa Hf H w ds us z Q hb rs h q
  unfold fTuple at h
  split at h
  · cases h
    obtain ⟨a, vs, rfl, h1, r1⟩ := one_lst rs
    exact ⟨a, vs, rfl, .inl ⟨SqL.of (hb.ex _ _ h1), frzT (z := .non) hb r1 q⟩⟩
  · cases h
    cases rs with
    | cons r1 r2 =>
      cases r2
      cases r1 with
      | tup h1 r1 => exact ⟨_, _, rfl, .inr ⟨SqT.of (hb.ex _ _ h1), q _ _ Go.refl hb _ (.tup h1 r1)⟩⟩
  · cases h
/-- list(x): a new list -/
def fList : Wl → List D → Option (List D) := fun _ ds => match ds with
  | [.lst xs] => some xs
  | [.tup xs] => some xs
  | _ => none
theorem newL {wa : Addr} {Hf H : Hp} {w : Wl} {Q : VK} {vs : List V} {ds : List D} (hb : Base wa Hf H w) (rv : Reps wa Hf vs ds) (q : ∀ H' Hf' p vs, Go wa H Hf H' Hf' → Base wa Hf' H' w → Fr H p → H' p = some (.lst vs) → Hf' p = none → p ≠ wa → Reps wa Hf' vs ds → Q (.ref p) H') : ∀ p, H p = none → Q (.ref p) (upd H p (.lst vs)) := fun p hp =>
  q _ _ p vs (Go.new1 hp) (hb.new1 hp) (.of hp) upd_same (Evl.fresh_back hb.ex hp) (fun z => by rw [z, hb.well] at hp; cases hp) rv
theorem cl_list {K : PySem.W.Frag} : CaL (fun xs H Q => ∃ p ys, xs = [.ref p] ∧ (SqL K H p ys ∨ SqT K H p ys) ∧ ∀ l, H l = none → Q (.ref l) (upd H l (.lst ys))) fList := by
  intro wa Hf H w ds us z Q hb rs h q
  unfold fList at h
  split at h
  · cases h
    obtain ⟨a, vs, rfl, h1, r1⟩ := one_lst rs
    exact ⟨a, vs, rfl, .inl (SqL.of (hb.ex _ _ h1)), newL hb r1 q⟩
  · cases h
    cases rs with
    | cons r1 r2 =>
      cases r2
      cases r1 with
      | tup h1 r1 => exact ⟨_, _, rfl, .inr (SqT.of (hb.ex _ _ h1)), newL hb r1 q⟩
  · cases h
/-- isinstance -/
def tyD : D → Option String
  | .non => some "NoneType"
  | .bl _ => some "bool"
  | .int _ => some "int"
  | .str _ => some "str"
  | .lst _ => some "list"
  | .nl _ => some "list"
  | .tup _ => some "tuple"
  | _ => none
theorem tyD_ok {wa : Addr} {Hf : Hp} {K : PySem.W.Frag} {w : Wl} {x : D} {v : V} {t : String} (hb : Base wa Hf H w) (r : Rep wa Hf v x) (h : tyD x = some t) : TyX K H v (.type t) := by
  cases r with
  | non => cases h; exact .base .non
  | bl b => cases h; exact .base (.bl b)
  | int b => cases h; exact .base (.int b)
  | str b => cases h; exact .base (.str b)
  | lst h1 r1 => cases h; exact .base (.lst (hb.ex _ _ h1))
  | nl h1 o r1 => cases h; exact .base (.lst (hb.ex _ _ h1))
  | dft _ _ _ => cases h
  | dfk _ _ _ => cases h
  | tup h1 r1 => cases h; exact .base (.tup (hb.ex _ _ h1))
  | well => cases h
  | ref a => cases h
  | ty a => cases h
def isB (t : String) (n : String) : Option Bool := if t = n then some true else match n with
  | "int" => if t = "bool" then some true else if t = "NoneType" ∨ t = "str" ∨ t = "list" ∨ t = "tuple" then some false else none
  | "bool" | "str" | "list" | "tuple" => if t = "NoneType" ∨ t = "str" ∨ t = "list" ∨ t = "tuple" ∨ t = "bool" ∨ t = "int" then some false else none
  | _ => none
theorem kitB_all : ∀ t ∈ ["NoneType", "bool", "int", "str", "list", "tuple"], ∀ n ∈ ["bool", "int", "str", "list", "tuple"], kitB t n = isB t n := by decide +kernel
theorem isB_kit {K : PySem.W.Frag} {t n : String} {b : Bool} {x : D} (ht : tyD x = some t) (h : isB t n = some b) : PySem.W.kitOne K (.type t) (.type n) = some b := by
  have mt : t ∈ ["NoneType", "bool", "int", "str", "list", "tuple"] := by
    cases x <;> first | (cases ht; decide) | cases ht
  have mn : n ∈ ["bool", "int", "str", "list", "tuple"] ∨ n = "NoneType" := by
    unfold isB at h
    split at h
    · rename_i e
      subst e
      revert mt
      intro mt
      simp only [List.mem_cons, List.not_mem_nil, or_false] at mt ⊢
      rcases mt with h | h | h | h | h | h <;> simp [h]
    · split at h <;> first | (left; decide) | cases h
  rcases mn with mn | mn
  · exact kit_ty (by rw [kitB_all t mt n mn]; exact h)
  · subst mn
    unfold isB at h
    split at h
    · rename_i e
      subst e
      cases h
      exact kit_ty (by decide +kernel)
    · simp at h
def fIsi : Wl → List D → Option D := fun _ ds => match ds with
  | [x, .ty n] => (tyD x).bind fun t => (isB t n).map .bl
  | [x, .tup [.ty n, .ty m]] => (tyD x).bind fun t => (isB t n).bind fun b => if b then some (.bl true) else (isB t m).map .bl
  | _ => none
theorem cd_isi {K : PySem.W.Frag} : CaD (fun xs H Q => rIsi K xs H Q ∨ rIsiT K xs H Q) fIsi := by
  intro wa Hf H w ds us z Q hb rs h q
  unfold fIsi at h
  split at h
  · rename_i x n
    cases e : tyD x with
    | none => rw [e] at h; cases h
    | some t =>
      rw [e] at h
      cases e2 : isB t n with
      | none => simp [e2] at h
      | some b =>
        simp only [Option.bind_some, e2, Option.map_some, Option.some.injEq] at h
        subst h
        cases rs with
        | cons r1 r2 =>
          cases r2 with
          | cons r2 r3 =>
            cases r2
            cases r3
            exact .inl ⟨_, _, _, _, b, rfl, .ty n, tyD_ok hb r1 e, isB_kit e e2, q _ _ Go.refl hb _ (.bl _)⟩
  · rename_i x n m
    cases e : tyD x with
    | none => rw [e] at h; cases h
    | some t =>
      rw [e] at h
      cases e2 : isB t n with
      | none => simp [e2] at h
      | some b =>
        simp only [Option.bind_some, e2] at h
        cases rs with
        | cons r1 r2 =>
          cases r2 with
          | cons r2 r3 =>
            cases r3
            cases r2 with
            | tup h1 r2 =>
              cases r2 with
              | cons ra rb =>
                cases ra
                cases rb with
                | cons rb rc =>
                  cases rb
                  cases rc
                  have pc : Paired ClsV [V.ty n, V.ty m] [Value.type n, Value.type m] := .cons (.ty n) (.cons (.ty m) .nil)
                  cases b with
                  | true =>
                    simp only [if_true, Option.some.injEq] at h
                    subst h
                    refine .inr ⟨_, _, _, _, _, true, rfl, hb.ex _ _ h1, pc, tyD_ok hb r1 e, ?_, q _ _ Go.refl hb _ (.bl _)⟩
                    unfold PySem.W.kitAny
                    rw [isB_kit e e2]
                  | false =>
                    simp only [Bool.false_eq_true, if_false] at h
                    cases e3 : isB t m with
                    | none => rw [e3] at h; cases h
                    | some b2 =>
                      rw [e3] at h
                      cases h
                      refine .inr ⟨_, _, _, _, _, b2, rfl, hb.ex _ _ h1, pc, tyD_ok hb r1 e, ?_, q _ _ Go.refl hb _ (.bl _)⟩
                      unfold PySem.W.kitAny
                      rw [isB_kit e e2]
                      show PySem.W.kitAny K (.type t) [.type m] = some b2
                      unfold PySem.W.kitAny
                      rw [isB_kit e e3]
                      cases b2 <;> rfl
  · cases h
theorem call_isiA : CallR X (.builtin "isinstance") (fun xs H Q => rIsi X.K xs H Q ∨ rIsiT X.K xs H Q) := call_isi.or call_isiT
/-- divmod -/
def fDivmod : Wl → List D → Option D := fun _ ds => match ds with
  | [.int i, .int j] => if divOk j then some (.tup [.int (i.fdiv j), .int (i.fmod j)]) else none
  | _ => none
def rDivmod : List V → Hp → VK → Prop := fun xs H Q => ∃ i j, xs = [.int i, .int j] ∧ divOk j ∧ ∀ p, H p = none → Q (.ref p) (upd H p (.tup [.int (i.fdiv j), .int (i.fmod j)]))
theorem call_divmodA : CallR X (.builtin "divmod") rDivmod := by
  intro pins s σ H xs us Q I r h
  obtain ⟨i, j, rfl, ⟨h1, h2⟩, q⟩ := h
  obtain ⟨u, w', rfl, ⟨t, rfl⟩, ⟨t', rfl⟩⟩ := vals2 r
  refine divmod_int h1 ?_ (.inl (PyProof.noPylong_of_log2 h2))
  have hn : H s.heap.objs.size = none := I.hok.fresh (Nat.le_refl _)
  refine ⟨.ref s.heap.objs.size, _, ?_, rfl, q _ hn⟩
  refine I.laid (fun b o e => Heap.get?_push_of_some _ e) (Nat.le_refl _) ⟨by simp only [List.length_cons, List.length_nil]; rw [sizeLine_eq]; decide, [.int (i.fdiv j) s.toks, .int (i.fmod j) (s.toks + 1)], .cons ⟨_, rfl⟩ (.cons ⟨_, rfl⟩ .nil), ?_⟩
  exact ⟨_, Heap.get?_push_size s.heap rfl, rfl, 0, rfl⟩
theorem cd_divmod : CaD rDivmod fDivmod := by
  intro wa Hf H w ds us z Q hb rs h q
  unfold fDivmod at h
  split at h
  · split at h
    · rename_i hd
      cases h
      cases rs with
      | cons r1 r2 =>
        cases r1
        cases r2 with
        | cons r1 r2 =>
          cases r1
          cases r2
          exact ⟨_, _, rfl, hd, frzT (z := .non) hb (.cons (.int _) (.cons (.int _) .nil)) q⟩
    · cases h
  · cases h
end
end DL

set_option maxHeartbeats 2000000
namespace DL
open PySem PySem.Spec PyProof.Rows L2
variable [TabT] [OldT]
open Evl (Ex)
/-! ### what is walked -/
structure WalkD (wa : Addr) (Hf : Hp) (J : It) (ds : List D) : Prop where
  goes : ∀ i H, i < ds.length → Ex Hf H → J.go i H
  stops : ∀ H, Ex Hf H → J.stop ds.length H
  yields : ∀ i H Hf1 w x H' d, ds[i]? = some d → Ex Hf Hf1 → Base wa Hf1 H w → J.yld i H x H' → ∃ Hf2, Go wa H Hf1 H' Hf2 ∧ Base wa Hf2 H' w ∧ Rep wa Hf2 x d
abbrev DI := Sl → Wl → R (List D)
def lI (mg : Str → Option Value) (W : WX) (I : DI) : TI := fun σ H R =>
  ∃ wa Hf sD w, Base wa Hf H w ∧ Slots wa Hf H σ sD ∧ Fin wa Hf H (I sD w) (fun ds _ H' Hf' => ∀ J, WalkD wa Hf' J ds → R J H') (Er mg W wa σ)
section
variable {X : Cx} {mg : Str → Option Value} {W : WX} {tg it a b e : Expr} {es : List Expr} {pos : Pos} {σ : L2.St} {H : Hp} {wa : Addr} {Hf : Hp}
theorem weakI {t t' : TI} (h : PI X tg it t) (i : ∀ σ H Q, t' σ H Q → t σ H Q) : PI X tg it t' := ⟨fun pins s σ H Q I q => h.run pins s σ H Q I (i σ H Q q)⟩
theorem orI {t t' : TI} (h : PI X tg it t) (h' : PI X tg it t') : PI X tg it (fun σ H Q => t σ H Q ∨ t' σ H Q) := ⟨fun pins s σ H Q I q => q.elim (fun q => h.run pins s σ H Q I q) fun q => h'.run pins s σ H Q I q⟩
theorem walkD_list {K : PySem.W.Frag} {p : Addr} {vs : List V} {ds : List D} (h : Hf p = some (.lst vs)) (r : Reps wa Hf vs ds) : WalkD wa Hf (Itl K p) ds :=
  ⟨fun i H hi x => by
    have hi' : i < vs.length := by rw [r.length]; exact hi
    exact ⟨vs, vs[i], SqL.of (x _ _ h), by simp [hi']⟩, fun H x => ⟨vs, SqL.of (x _ _ h), Nat.le_of_eq r.length⟩, fun i H Hf1 w y H' d hd x b q => by
    obtain ⟨rfl, q⟩ := q
    obtain ⟨v, e1, r1⟩ := (r.mono x).get hd
    have e2 := q vs (SqL.of (b.ex _ _ (x _ _ h)))
    rw [e1] at e2
    cases e2
    exact ⟨Hf1, Go.refl, b, r1⟩⟩
theorem walkD_tup {K : PySem.W.Frag} {p : Addr} {vs : List V} {ds : List D} (h : Hf p = some (.tup vs)) (r : Reps wa Hf vs ds) : WalkD wa Hf (Itt K p) ds :=
  ⟨fun i H hi x => by
    have hi' : i < vs.length := by rw [r.length]; exact hi
    exact ⟨vs, vs[i], SqT.of (x _ _ h), by simp [hi']⟩, fun H x => ⟨vs, SqT.of (x _ _ h), Nat.le_of_eq r.length⟩, fun i H Hf1 w y H' d hd x b q => by
    obtain ⟨rfl, q⟩ := q
    obtain ⟨v, e1, r1⟩ := (r.mono x).get hd
    have e2 := q vs (SqT.of (b.ex _ _ (x _ _ h)))
    rw [e1] at e2
    cases e2
    exact ⟨Hf1, Go.refl, b, r1⟩⟩
def upTo (lo : Int) (n : Nat) : List D := (List.range n).map fun i => .int (lo + (i : Nat))
theorem walkD_range {lo : Int} {n : Nat} : WalkD wa Hf (Itr lo n) (upTo lo n) :=
  ⟨fun i H hi x => by
    have h : i < n := by simpa [upTo] using hi
    exact h, fun H x => by
    have h : n ≤ (upTo lo n).length := by simp [upTo]
    exact h, fun i H Hf1 w y H' d hd x b q => by
    obtain ⟨rfl, q⟩ := q
    unfold upTo at hd
    rw [List.getElem?_map] at hd
    cases e : (List.range n)[i]? with
    | none => rw [e] at hd; cases hd
    | some j =>
      rw [e] at hd
      have ej : j = i := by
        rw [List.getElem?_range] at e
        · exact (Option.some.inj e).symm
        · have := (List.getElem?_eq_some_iff.mp e).1
          simpa using this
      subst ej
      cases hd
      rw [q]
      exact ⟨Hf1, Go.refl, b, .int _⟩⟩
def enumD (xs : List D) : List D := xs.zipIdx.map fun p => .tup [.int (p.2 : Nat), p.1]
theorem walkD_enum {K : PySem.W.Frag} {p : Addr} {vs : List V} {ds : List D} (h : Hf p = some (.lst vs)) (r : Reps wa Hf vs ds) : WalkD wa Hf (Ite K p) (enumD ds) :=
  ⟨fun i H hi x => by
    have hi' : i < vs.length := by rw [r.length]; simpa [enumD] using hi
    exact ⟨vs, vs[i], SqL.of (x _ _ h), by simp [hi']⟩, fun H x => ⟨vs, SqL.of (x _ _ h), by simp [enumD, r.length]⟩, fun i H Hf1 w y H' d hd x b q => by
    obtain ⟨T, z, rfl, hT, rfl, q⟩ := q
    unfold enumD at hd
    rw [List.getElem?_map, List.getElem?_zipIdx] at hd
    cases e : ds[i]? with
    | none => rw [e] at hd; cases hd
    | some d1 =>
      rw [e] at hd
      cases hd
      obtain ⟨v, e1, r1⟩ := (r.mono x).get e
      have e2 := q vs (SqL.of (b.ex _ _ (x _ _ h)))
      rw [e1] at e2
      cases e2
      rw [Nat.zero_add]
      exact ⟨_, Go.newF b.ex hT, b.newF hT, .tup upd_same (.cons (.int _) (.cons (r1.mono (Ex.new (Evl.fresh_back b.ex hT))) .nil))⟩⟩
/-- over a list or a tuple -/
def iSeq (A : DE) : DI := fun s w => (A s w).bind fun x w1 => match x with
  | .lst xs => .ok xs w1
  | .tup xs => .ok xs w1
  | _ => .no
theorem id_seq {A : DE} (ha : PE X a (lE mg W A)) : PI X tg a (lI mg W (iSeq A)) := weakI (orI (pi_list ha) (pi_tup ha)) fun σ H Q h => by
  obtain ⟨wa, Hf, sD, w, hb, hs, h⟩ := h
  unfold iSeq at h
  cases ea : A sD w with
  | ok x w1 =>
    rw [ea, R.bind_ok] at h
    cases x with
    | lst xs =>
      refine .inl ⟨wa, Hf, sD, w, hb, hs, ?_⟩
      rw [ea]
      intro H1 Hf1 g b v rv
      cases rv with
      | lst h1 r1 => exact ⟨_, rfl, ⟨_, SqL.of (b.ex _ _ h1)⟩, h H1 Hf1 g b _ (walkD_list h1 r1)⟩
    | tup xs =>
      refine .inr ⟨wa, Hf, sD, w, hb, hs, ?_⟩
      rw [ea]
      intro H1 Hf1 g b v rv
      cases rv with
      | tup h1 r1 => exact ⟨_, rfl, ⟨_, SqT.of (b.ex _ _ h1)⟩, h H1 Hf1 g b _ (walkD_tup h1 r1)⟩
    | _ => exact h.elim
  | er x w1 =>
    rw [ea] at h
    refine .inl ⟨wa, Hf, sD, w, hb, hs, ?_⟩
    rw [ea]
    exact h
  | no => rw [ea] at h; exact h.elim
/-- over a new list -/
def iRng1 (As : DA) : DI := fun s w => (As s w).bind fun xs w1 => match xs with
  | [.int j] => if -4611686018427387904 ≤ j ∧ j < 4611686018427387904 then .ok (upTo 0 j.toNat) w1 else .no
  | _ => .no
def iRng2 (As : DA) : DI := fun s w => (As s w).bind fun xs w1 => match xs with
  | [.int i, .int j] => if (-4611686018427387904 ≤ i ∧ i < 4611686018427387904) ∧ -4611686018427387904 ≤ j ∧ j < 4611686018427387904 then .ok (upTo i (j - i).toNat) w1 else .no
  | _ => .no
theorem id_rng1 {As : DA} {p : Pos} (hg : Gl X "range") (hm : X.mg "range" = none) (ha : PA X [a] (lA mg W As)) (hs : starEach [a] X.env = [(false, eval a X.env)] := by rfl) : PI X tg (.Call (.Name "range" p) [a] [] pos) (lI mg W (iRng1 As)) := weakI (pi_range1 hg hm ha hs) fun σ H Q h => by
  obtain ⟨wa, Hf, sD, w, hb, hs, h⟩ := h
  refine ⟨wa, Hf, sD, w, hb, hs, h.bind.mono (fun x w1 H1 Hf1 g1 b1 q v rv => ?_) (fun _ _ _ _ _ _ q => q)⟩
  split at q
  · split at q
    · rename_i hz
      cases rv with
      | cons r1 r2 =>
        cases r1
        cases r2
        exact ⟨_, rfl, by omega, by omega, q.here b1 _ walkD_range⟩
    · exact q.elim
  · exact q.elim
theorem id_rng2 {As : DA} {p : Pos} (hg : Gl X "range") (hm : X.mg "range" = none) (ha : PA X [a, b] (lA mg W As)) (hs : starEach [a, b] X.env = [(false, eval a X.env), (false, eval b X.env)] := by rfl) (hs2 : starEach [b] X.env = [(false, eval b X.env)] := by rfl) : PI X tg (.Call (.Name "range" p) [a, b] [] pos) (lI mg W (iRng2 As)) := weakI (pi_range2 hg hm ha hs hs2) fun σ H Q h => by
  obtain ⟨wa, Hf, sD, w, hb, hs, h⟩ := h
  refine ⟨wa, Hf, sD, w, hb, hs, h.bind.mono (fun x w1 H1 Hf1 g1 b1 q v rv => ?_) (fun _ _ _ _ _ _ q => q)⟩
  split at q
  · split at q
    · rename_i hz
      cases rv with
      | cons r1 r2 =>
        cases r1
        cases r2 with
        | cons r1 r2 =>
          cases r1
          cases r2
          exact ⟨_, _, rfl, ⟨by omega, by omega, by omega, by omega⟩, q.here b1 _ walkD_range⟩
    · exact q.elim
  · exact q.elim
def iEnum (As : DA) : DI := fun s w => (As s w).bind fun xs w1 => match xs with
  | [.lst ds] => .ok (enumD ds) w1
  | _ => .no
theorem id_enum {As : DA} {p tpos : Pos} {elts : List Expr} {kk : Nat} (hg : Gl X "enumerate") (hm : X.mg "enumerate" = none) (ha : PA X [a] (lA mg W As)) (hs : starEach [a] X.env = [(false, eval a X.env)] := by rfl) : PI X (.Tuple elts kk tpos) (.Call (.Name "enumerate" p) [a] [] pos) (lI mg W (iEnum As)) := weakI (pi_enum hg hm ha hs) fun σ H Q h => by
  obtain ⟨wa, Hf, sD, w, hb, hs, h⟩ := h
  refine ⟨wa, Hf, sD, w, hb, hs, h.bind.mono (fun x w1 H1 Hf1 g1 b1 q v rv => ?_) (fun _ _ _ _ _ _ q => q)⟩
  split at q
  · obtain ⟨p, vs, rfl, h1, r1⟩ := one_lst rv
    exact ⟨p, vs, rfl, SqL.of (b1.ex _ _ h1), q.here b1 _ (walkD_enum h1 r1)⟩
  · exact q.elim

/-! ### targets -/
def lG (vs : List Nat) (G : DG) : TG := fun v σ H Q => ∃ wa Hf H0 w sD d s', Base wa Hf H w ∧ Rep wa Hf v d ∧ Slots wa Hf H σ sD ∧ OwnNew H0 σ sD ∧ G d sD = some s' ∧
  ∀ σ', Slots wa Hf H σ' s' → OwnNew H0 σ' s' → wipe σ' vs = wipe σ vs → Q σ' H
def lGs (vs : List Nat) (G : List D → Sl → Option Sl) : TGs := fun v σ H Q => ∃ wa Hf H0 w sD d s', Base wa Hf H w ∧ Reps wa Hf v d ∧ Slots wa Hf H σ sD ∧ OwnNew H0 σ sD ∧ G d sD = some s' ∧
  ∀ σ', Slots wa Hf H σ' s' → OwnNew H0 σ' s' → wipe σ' vs = wipe σ vs → Q σ' H
theorem weakG {t t' : TG} (h : PG X tg t) (i : ∀ v σ H Q, t' v σ H Q → t v σ H Q) : PG X tg t' := ⟨fun pins s σ H v u Q I r q => h.run pins s σ H v u Q I r (i v σ H Q q)⟩
theorem weakGs {t t' : TGs} (h : PGs X es t) (i : ∀ v σ H Q, t' v σ H Q → t v σ H Q) : PGs X es t' := ⟨fun pins s σ H v u Q I r q => h.run pins s σ H v u Q I r (i v σ H Q q)⟩
theorem wipe_set {σ : L2.St} {i : Nat} {x : Option V} : ∀ {vs : List Nat}, i ∈ vs → wipe (σ.set i x) vs = wipe σ vs
  | v :: vs, h => by
    unfold wipe
    by_cases hi : i ∈ vs
    · rw [wipe_set hi]
    · have e : i = v := by
        rcases List.mem_cons.mp h with e | e
        · exact e
        · exact absurd e hi
      subst e
      have key : ∀ (ws : List Nat), i ∉ ws → wipe (σ.set i x) ws = (wipe σ ws).set i x := by
        intro ws
        induction ws with
        | nil => intro _; rfl
        | cons u us ih =>
          intro hu
          have h1 : i ∉ us := fun m => hu (List.mem_cons_of_mem _ m)
          have h2 : i ≠ u := fun e => hu (by rw [e]; exact List.mem_cons_self)
          unfold wipe
          rw [ih h1, List.set_comm _ _ h2]
      rw [key vs hi, List.set_set]
def gN (i : Nat) : DG := fun d s => some (s.set i (some d))
theorem gd_name {i : Nat} {x : Str} {vs : List Nat} (hN : X.N.Nodup) (hi : X.N[i]? = some x) (hx : Loc X.env.scope x) (hv : i ∈ vs) (hf : X.fn x = true ∨ X.env.scope.names.lookup x = some .local := by first | exact .inl rfl | exact .inr rfl | assumption) : PG X (.Name x pos) (lG vs (gN i)) := weakG (pg_name hN hi hx hf) fun v σ H Q h => by
  obtain ⟨wa, Hf, H0, w, sD, d, s', hb, rv, hs, ho, e, q⟩ := h
  cases e
  exact q _ (hs.set rv) (ho.set (rep_isO rv)) (wipe_set hv)
def gNil' : List D → Sl → Option Sl := fun ds s => match ds with
  | [] => some s
  | _ => none
def gCons' (G : DG) (Gs : List D → Sl → Option Sl) : List D → Sl → Option Sl := fun ds s => match ds with
  | d :: r => (G d s).bind fun s1 => Gs r s1
  | _ => none
def gT (Gs : List D → Sl → Option Sl) (n : Nat) : DG := fun d s => match d with
  | .tup ds => if ds.length = n then Gs ds s else none
  | _ => none
theorem gd_nil {vs : List Nat} : PGs X [] (lGs vs gNil') := weakGs pgs_nil fun v σ H Q h => by
  obtain ⟨wa, Hf, H0, w, sD, d, s', hb, rv, hs, ho, e, q⟩ := h
  unfold gNil' at e
  split at e
  · cases e
    cases rv
    exact ⟨rfl, q _ hs ho rfl⟩
  · cases e
theorem gd_cons {G : DG} {Gs : List D → Sl → Option Sl} {vs : List Nat} (h1 : PG X a (lG vs G)) (h2 : PGs X es (lGs vs Gs)) (hs : (assignEach (a :: es) X.env).map (·.2) = assign a X.env :: (assignEach es X.env).map (·.2) := by rfl) : PGs X (a :: es) (lGs vs (gCons' G Gs)) := weakGs (pgs_cons h1 h2 hs) fun v σ H Q h => by
  obtain ⟨wa, Hf, H0, w, sD, d, s', hb, rv, hs, ho, e, q⟩ := h
  unfold gCons' at e
  split at e
  · rename_i d r
    cases rv with
    | cons r1 r2 =>
      cases e1 : G d sD with
      | none => rw [e1] at e; cases e
      | some s1 =>
        rw [e1] at e
        exact ⟨_, _, rfl, wa, Hf, H0, w, sD, d, s1, hb, r1, hs, ho, e1, fun σ1 hs1 ho1 hw1 => ⟨wa, Hf, H0, w, s1, r, s', hb, r2, hs1, ho1, e, fun σ2 hs2 ho2 hw2 => q σ2 hs2 ho2 (hw2.trans hw1)⟩⟩
  · cases e
theorem gd_tup {k : Nat} {Gs : List D → Sl → Option Sl} {n : Nat} {vs : List Nat} (hc : X.calm = true) (h : PGs X es (lGs vs Gs)) (hn : (assignEach es X.env).length = n := by rfl) (hst : (assignEach es X.env).findIdx? (·.1) = none := by rfl) : PG X (.Tuple es k pos) (lG vs (gT Gs n)) := weakG (pg_tup hc h hn hst) fun v σ H Q h => by
  obtain ⟨wa, Hf, H0, w, sD, d, s', hb, rv, hs, ho, e, q⟩ := h
  unfold gT at e
  split at e
  · split at e
    · rename_i hl
      cases rv with
      | tup h1 r1 => exact ⟨_, _, rfl, SqT.of (hb.ex _ _ h1), by rw [r1.length]; exact hl, wa, Hf, H0, w, sD, _, s', hb, r1, hs, ho, e, q⟩
    · cases e
  · cases e
end

/-! ### calls of the program's own functions -/
def spD (mg : Str → Option Value) (n : Nat) (F : DF) : Sp := fun vs H Q E => ∃ wa Hf ds w, Base wa Hf H w ∧ Reps wa Hf vs ds ∧ ds.length = n ∧
  Fin wa Hf H (F ds w) (fun d _ H' Hf' => ∀ v, Rep wa Hf' v d → Q v H') (fun x _ H' Hf' => ∀ cls dx, ErrV mg wa Hf' x cls dx → E cls dx H')
abbrev FnD (P : Program) (w : World) (K : PySem.W.Frag) (mg : Str → Option Value) (base : Heap) (k : Nat) (f : Addr) (fd : FuncData) (ps : List Str) (F : DF) : Prop := FnOk P w K mg base (L2.CX P w) k f fd ps (spD mg ps.length F)
/-- less is promised, or the same -/
def Less {α β : Type} (F G : α → β → R D) : Prop := ∀ a b, F a b = .no ∨ F a b = G a b
theorem FnD.less {P : Program} {w : World} {K : PySem.W.Frag} {mg : Str → Option Value} {base : Heap} {k : Nat} {f : Addr} {fd : FuncData} {ps : List Str} {F G : DF} (h : FnD P w K mg base k f fd ps G) (l : ∀ ds w, ds.length = ps.length → F ds w = .no ∨ F ds w = G ds w) : FnD P w K mg base k f fd ps F :=
  FnOk.imp h fun vs H Q E ⟨wa, Hf, ds, w, hb, r, hl, q⟩ => ⟨wa, Hf, ds, w, hb, r, hl, by
    rcases l ds w hl with e | e
    · rw [e] at q; exact q.elim
    · rw [e] at q; exact q⟩
def eCall (n : Nat) (F : DF) (As : DA) : DE := fun s w => (As s w).bind fun ds w1 => if ds.length = n then F ds w1 else .no
/-- what is raised in a callee reaches what is wished here -/
def Wok (X : Cx) (W : WX) : Prop := ∀ σ, PassesAt (L2.CX X.prog X.w) X σ (WE W σ)
theorem wok_takes {X : Cx} {W : WX} (t : Takes X W) : Wok X W := fun σ => passAt t σ
abbrev W0 : WX := fun _ _ _ _ => False
theorem wok0 {X : Cx} : Wok X W0 := fun σ pins H s e s' I c => by
  obtain ⟨_, _, _, _, _, _, _, _, _, _, _, _, z⟩ := c
  exact z.elim
section
variable {X : Cx} {W : WX} {tg it a b e : Expr} {es : List Expr} {pos : Pos} {σ : L2.St} {H : Hp} {wa : Addr} {Hf : Hp}
theorem fin_call {mg : Str → Option Value} {w : Wl} {n : Nat} {F : DF} {ds : List D} {vs : List V} {Q : VK} {W : WX} (hb : Base wa Hf H w) (rv : Reps wa Hf vs ds) (q : Fin wa Hf H (if ds.length = n then F ds w else .no) (fun d _ H' Hf' => ∀ v, Rep wa Hf' v d → Q v H') (Er mg W wa σ)) : spD mg n F vs H Q (WE W σ) := by
  split at q
  · rename_i hl
    exact ⟨wa, Hf, ds, w, hb, rv, hl, q⟩
  · exact q.elim
theorem pd_call {k : Nat} {f : Addr} {fd : FuncData} {ps : List Str} {F : DF} {x : Str} {p : Pos} {As : DA} (G : FnD X.prog X.w X.K X.mg X.base k f fd ps F) (hr : Room k X.A) (hg : Gl X x) (hm : X.mg x = some (.ref f)) (hk : PySem.W.keepIn X.K (.ref f) = true) (hb : Binds X.K fd ps []) (hx : Wok X W)
    (ha : PA X (e :: es) (lA X.mg W As)) (hdb : (x == ("__debug__" : Str)) = false := by decide) (he : starEach (e :: es) X.env = (false, eval e X.env) :: starEach es X.env := by rfl) (hpl : (backTo pos (starEach es X.env)).any (·.1) = false := by rfl) :
    PE X (.Call (.Name x p) (e :: es) [] pos) (lE X.mg W (eCall ps.length F As)) := weakE (pe_callS G hr hg hm hk hb hx ha hdb he hpl) fun σ H Q h => by
  obtain ⟨wa, Hf, sD, w, hb, hs, h⟩ := h
  refine ⟨wa, Hf, sD, w, hb, hs, h.bind.mono (fun x w1 H1 Hf1 g1 b1 q v rv => ?_) (fun _ _ _ _ _ _ q => q)⟩
  exact fin_call b1 rv q
end
end DL

set_option maxHeartbeats 2000000
namespace DL
open PySem PySem.Spec PyProof.Rows L2
variable [TabT] [OldT]
open Evl (Ex)
theorem Go.appF {wa : Addr} {H Hf H' Hf' : Hp} {p : Addr} {o : HO} (g : Go wa H Hf H' Hf') (h : Fr H p) : Go wa H Hf (upd H' p o) Hf' :=
  ⟨fun a u n t e => by rw [upd_ne (ne_of_fr e t h)]; exact g.keepN a u n t e, g.ex, g.newN, fun a u t e => by rw [upd_ne (ne_of_fr e t h)]; exact g.thereN a u t e⟩
theorem Base.appL {wa : Addr} {H Hf : Hp} {w : Wl} {p : Addr} {o : HO} {xs : List V} (b : Base wa Hf H w) (h : Hf p = none) (hw : p ≠ wa) (hp : H p = some (.lst xs)) : Base wa Hf (upd H p o) w :=
  ⟨Evl.Ex.mut b.ex h, by rw [upd_ne (Ne.symm hw)]; exact b.well, b.nw, tabs_upd b.tb (.inr ⟨xs, hp⟩), b.nt, b.od⟩
/-! ### comprehensions -/
def lcD (G : DG) (T : DT) (E : DE) : List D → Sl → Wl → R (List D)
  | [], _, w => .ok [] w
  | d :: r, s, w => match G d s with
    | none => .no
    | some s1 => (T s1 w).noer.bind fun b w1 => if b = true then (E s1 w1).noer.bind fun y w2 => (lcD G T E r s w2).bind fun ys w3 => .ok (y :: ys) w3 else lcD G T E r s w1
def wipeS (s : Sl) : List Nat → Sl
  | [] => s
  | v :: vs => (wipeS s vs).set v none
def aLc (I : DI) (G : DG) (T : DT) (E : DE) (vs : List Nat) : DA := fun s w => (I s w).bind fun ds w1 => if ds.length ≤ lim then (lcD G T E ds (wipeS s vs) w1).noer else .no
def tYesD : DT := fun _ w => .ok true w
section
variable {X : Cx} {mg : Str → Option Value} {W : WX} {tg it a b e elt iter : Expr} {es ifs : List Expr} {pos : Pos} {σ : L2.St} {H : Hp} {wa : Addr} {Hf : Hp}
theorem Slots.setNone {s : Sl} (x : Slots wa Hf H σ s) (i : Nat) : Slots wa Hf H (σ.set i none) (s.set i none) := by
  have key : ∀ (j : Nat) (d : D), (s.set i none)[j]? = some (some d) → j ≠ i ∧ s[j]? = some (some d) := fun j d h => by
    by_cases hj : j = i
    · subst hj
      rw [List.getElem?_set] at h
      split at h
      · split at h <;> cases h
      · rename_i hne
        exact absurd rfl hne
    · rw [List.getElem?_set_ne (Ne.symm hj)] at h
      exact ⟨hj, h⟩
  have keyσ : ∀ (j : Nat), j ≠ i → (σ.set i none)[j]? = σ[j]? := fun j hj => List.getElem?_set_ne (Ne.symm hj)
  refine ⟨by simp [x.len], fun j d h n => ?_, fun j xs h => ?_, fun j ks xs h => ?_, fun j k d e p h1 n1 h2 n2 h3 h4 => ?_⟩
  · obtain ⟨hj, h'⟩ := key j d h
    rw [keyσ j hj]
    exact x.val j d h' n
  · obtain ⟨hj, h'⟩ := key j _ h
    rw [keyσ j hj]
    exact x.own j xs h'
  · obtain ⟨hj, h'⟩ := key j _ h
    rw [keyσ j hj]
    exact x.dic j ks xs h'
  · obtain ⟨hj, h1'⟩ := key j _ h1
    obtain ⟨hk, h2'⟩ := key k _ h2
    rw [keyσ j hj] at h3
    rw [keyσ k hk] at h4
    exact x.inj j k d e p h1' n1 h2' n2 h3 h4
theorem Slots.wipe {s : Sl} (x : Slots wa Hf H σ s) : ∀ vs : List Nat, Slots wa Hf H (L2.wipe σ vs) (wipeS s vs)
  | [] => x
  | v :: vs => (x.wipe vs).setNone v
theorem wipe_none {σ : L2.St} {i : Nat} : ∀ {vs : List Nat}, i ∈ vs → (L2.wipe σ vs).set i none = L2.wipe σ vs
  | v :: vs, h => by
    unfold L2.wipe
    by_cases hv : v = i
    · subst hv
      rw [List.set_set]
    · rw [List.set_comm _ _ hv]
      rcases List.mem_cons.mp h with e | e
      · exact absurd e.symm hv
      · rw [wipe_none e]
theorem wipe_wipe {σ : L2.St} : ∀ vs : List Nat, L2.wipe (L2.wipe σ vs) vs = L2.wipe σ vs := by
  have key : ∀ us vs : List Nat, (∀ i ∈ us, i ∈ vs) → L2.wipe (L2.wipe σ vs) us = L2.wipe σ vs := by
    intro us
    induction us with
    | nil => intro vs _; rfl
    | cons u us ih =>
      intro vs h
      show (L2.wipe (L2.wipe σ vs) us).set u none = L2.wipe σ vs
      rw [ih vs fun i hi => h i (List.mem_cons_of_mem _ hi)]
      exact wipe_none (h u List.mem_cons_self)
  exact fun vs => key vs vs fun _ h => h
theorem weakTs {t t' : TT} (h : PTs X ifs t) (i : ∀ σ H Q, t' σ H Q → t σ H Q) : PTs X ifs t' := ⟨fun pins s σ H Q I q => h.run pins s σ H Q I (i σ H Q q)⟩
theorem td_nil : PTs X [] (lT mg W tYesD) := weakTs pts_nil fun σ H Q h => by
  obtain ⟨wa, Hf, sD, w, hb, hs, h⟩ := h
  exact h.here hb _ rfl
theorem td_one {T : DT} (h : PT X a (lT mg W T)) : PTs X [a] (lT mg W T) := pts_one h
theorem lc_ok {I : DI} {G : DG} {T : DT} {E : DE} {vs : List Nat} {Q : VK} (h : lfL mg W (aLc I G T E vs) σ H Q) : tLc (lI mg W I) (lG vs G) (lT mg W0 T) (lE mg W0 E) vs σ H Q := by
  obtain ⟨wa, Hf, sD, w, hb, hs, h⟩ := h
  refine ⟨wa, Hf, sD, w, hb, hs, h.bind.mono (fun ds w1 H1 Hf1 g1 b1 q J wk D hD => ?_) (fun _ _ _ _ _ _ q => q)⟩
  have hs1 := (hs.go g1).wipe vs
  split at q
  · rename_i hz
    cases el : lcD G T E ds (wipeS sD vs) w1 with
    | er x w2 => rw [el] at q; exact q.elim
    | no => rw [el] at q; exact q.elim
    | ok total wF =>
      rw [el] at q
      have hDw : D ≠ wa := fun z => by rw [z, b1.well] at hD; cases hD
      have hDf : Hf1 D = none := Evl.fresh_back b1.ex hD
      refine ⟨fun i m H2 => m = ds.length - i ∧ i ≤ ds.length ∧ ∃ Hf2 w2 accV acc ys, Go wa H1 Hf1 H2 Hf2 ∧ Base wa Hf2 H2 w2 ∧ H2 D = some (.lst accV) ∧ Hf2 D = none ∧ Reps wa Hf2 accV acc ∧ acc.length ≤ i ∧ lcD G T E (ds.drop i) (wipeS sD vs) w2 = .ok ys wF ∧ acc ++ ys = total,
        ⟨ds.length, by simp, Nat.zero_le _, Hf1, w1, [], [], total, Go.new1 hD, b1.new1 hD, upd_same, hDf, .nil, Nat.le_refl _, el, rfl⟩, ?_⟩
      rintro i m H2 ⟨rfl, hi, Hf2, w2, accV, acc, ys, g2, b2, hD2, hDf2, ra, hal, e2, rfl⟩
      by_cases hlt : i < ds.length
      · have ed : ds.drop i = ds[i] :: ds.drop (i + 1) := List.drop_eq_getElem_cons hlt
        rw [ed] at e2
        have gi : ds[i]? = some ds[i] := by simp [hlt]
        refine .inr ⟨wk.goes i H2 hlt (g2.ex.trans b2.ex), fun H' => ∃ Hf2 w2 accV acc' ys', Go wa H1 Hf1 H' Hf2 ∧ Base wa Hf2 H' w2 ∧ H' D = some (.lst accV) ∧ Hf2 D = none ∧ Reps wa Hf2 accV acc' ∧ acc'.length ≤ i + 1 ∧ lcD G T E (ds.drop (i + 1)) (wipeS sD vs) w2 = .ok ys' wF ∧ acc' ++ ys' = acc ++ ys,
          fun H' hN => ⟨ds.length - (i + 1), by omega, rfl, hlt, hN⟩, fun x H3 hy => ?_⟩
        obtain ⟨Hf3, g3, b3, r3⟩ := wk.yields i H2 Hf2 w2 x H3 _ gi g2.ex b2 hy
        have hD3 : H3 D = some (.lst accV) := g3.keep D _ hDw hD2
        have hDf3 : Hf3 D = none := (g3.new D _ hD2).trans hDf2
        unfold lcD at e2
        cases eg : G ds[i] (wipeS sD vs) with
        | none => rw [eg] at e2; cases e2
        | some s1 =>
          rw [eg] at e2
          dsimp only at e2
          refine ⟨wa, Hf3, fun _ => none, w2, wipeS sD vs, ds[i], s1, b3, r3, (hs1.go g2).go g3, fun _ _ _ _ _ _ => .of rfl, eg, fun σ4 hs4 _ hw4 => ⟨hw4.trans (wipe_wipe vs), ?_⟩⟩
          cases et : T s1 w2 with
          | er y u => rw [et] at e2; cases e2
          | no => rw [et] at e2; cases e2
          | ok bb w5 =>
            rw [et] at e2
            refine ⟨wa, Hf3, s1, w2, b3, hs4, ?_⟩
            rw [et]
            intro H5 Hf5 g5 b5 v5 rv5
            have ev5 : v5 = bb := rv5
            subst ev5
            have hD5 : H5 D = some (.lst accV) := g5.keep D _ hDw hD3
            have hDf5 : Hf5 D = none := (g5.new D _ hD3).trans hDf3
            cases v5 with
            | false =>
              refine iteF ?_
              have e3 : lcD G T E (ds.drop (i + 1)) (wipeS sD vs) w5 = .ok ys wF := by simpa [R.noer, R.bind] using e2
              exact ⟨Hf5, w5, accV, acc, ys, (g2.trans g3).trans g5, b5, hD5, hDf5, (ra.mono g3.ex).mono g5.ex, by omega, e3, rfl⟩
            | true =>
              refine iteT ?_
              have e3 : ((E s1 w5).noer.bind fun y w2 => (lcD G T E (ds.drop (i + 1)) (wipeS sD vs) w2).bind fun ys w3 => .ok (y :: ys) w3) = R.ok ys wF := by simpa [R.noer, R.bind] using e2
              cases ee : E s1 w5 with
              | er y u => rw [ee] at e3; cases e3
              | no => rw [ee] at e3; cases e3
              | ok y w6 =>
                rw [ee] at e3
                refine ⟨wa, Hf5, s1, w5, b5, hs4.go g5, ?_⟩
                rw [ee]
                intro H6 Hf6 g6 b6 v6 r6
                have hD6 : H6 D = some (.lst accV) := g6.keep D _ hDw hD5
                have hDf6 : Hf6 D = none := (g6.new D _ hD5).trans hDf5
                have e4 : ((lcD G T E (ds.drop (i + 1)) (wipeS sD vs) w6).bind fun ys w3 => .ok (y :: ys) w3) = R.ok ys wF := by simpa [R.noer, R.bind] using e3
                cases er : lcD G T E (ds.drop (i + 1)) (wipeS sD vs) w6 with
                | er y u => rw [er] at e4; cases e4
                | no => rw [er] at e4; cases e4
                | ok zs w7 =>
                  rw [er] at e4
                  cases e4
                  have ra6 := ((ra.mono g3.ex).mono g5.ex).mono g6.ex
                  have hlen : accV.length = acc.length := ra.length
                  refine ⟨accV, hD6, Nat.lt_of_lt_of_le (by omega : accV.length < lim) (lim_le (Nat.le_refl _)), Hf6, w6, accV ++ [v6], acc ++ [y], zs, ?_, ?_, upd_same, hDf6, ra6.append (.cons r6 .nil), by simp; omega, er, by simp⟩
                  · have gg := ((g2.trans g3).trans g5).trans g6
                    exact gg.appF (.of hD)
                  · exact b6.appL hDf6 hDw hD6
      · have ei : i = ds.length := by omega
        subst ei
        rw [List.drop_length] at e2
        cases e2
        refine .inl ⟨wk.stops H2 (g2.ex.trans b2.ex), ?_⟩
        rw [List.append_nil] at q
        exact q H2 Hf2 g2 b2 D accV (g1.free hD) hD2 hDf2 hDw ra
  · exact q.elim
/-- [elt for tg in iter if ..]: a new list -/
theorem pl_lc {scope : Scope} {own : List (Str × Nat)} {I : DI} {G : DG} {T : DT} {E : DE} (hc : X.calm = true) (hN : X.N.Nodup) (hi : PI X tg iter (lI mg W I)) (ok : BlkOk X.N X.env.scope scope own)
    (hg : ∀ (s : Shared) (H : Hp) (C : Addr) (cl : List (Str × Addr)) (fp : List Addr), PG (X.blk s H scope (compEnvC scope cl C X.env) fp) tg (lG (own.map (·.2)) G)) (ht : ∀ (s : Shared) (H : Hp) (C : Addr) (cl : List (Str × Addr)) (fp : List Addr), PTs (X.blk s H scope (compEnvC scope cl C X.env) fp) ifs (lT mg W0 T))
    (he : ∀ (s : Shared) (H : Hp) (C : Addr) (cl : List (Str × Addr)) (fp : List Addr), PE (X.blk s H scope (compEnvC scope cl C X.env) fp) elt (lE mg W0 E)) (hs : ∀ x, foldedSetIterable iter X.env x = pure x := by intro _; rfl) :
    PE X (.ListComp elt [⟨tg, iter, ifs, 0⟩] scope pos) (lfL mg W (aLc I G T E (own.map (·.2)))) := weakE (pe_lc hc hN hi ok hg ht he hs) fun _ _ _ q => lc_ok q

/-! ### statements -/
def FinS (mg : Str → Option Value) (W : WX) (wa : Addr) (H0 Hf0 Hf : Hp) (r : RS) (D : Ends) : Prop := match r with
  | .nx s w => ∀ σ H' Hf', Go wa H0 Hf0 H' Hf' → Ex Hf Hf' → Base wa Hf' H' w → Slots wa Hf' H' σ s → OwnNew H0 σ s → D.nx σ H'
  | .bk s w => ∀ σ H' Hf', Go wa H0 Hf0 H' Hf' → Ex Hf Hf' → Base wa Hf' H' w → Slots wa Hf' H' σ s → OwnNew H0 σ s → D.bk σ H'
  | .ct s w => ∀ σ H' Hf', Go wa H0 Hf0 H' Hf' → Ex Hf Hf' → Base wa Hf' H' w → Slots wa Hf' H' σ s → OwnNew H0 σ s → D.ct σ H'
  | .rt d w => ∀ H' Hf' v, Go wa H0 Hf0 H' Hf' → Base wa Hf' H' w → Rep wa Hf' v d → D.rt v H'
  | .er x s w => ∀ σ H' Hf' cls dx, Go wa H0 Hf0 H' Hf' → Ex Hf Hf' → Base wa Hf' H' w → Slots wa Hf' H' σ s → OwnNew H0 σ s → ErrV mg wa Hf' x cls dx → W cls dx σ H'
  | .no => False
def lS (mg : Str → Option Value) (W : WX) (S : DS) : TS := fun D σ H => ∃ wa Hf sD w H0 Hf0, Go wa H0 Hf0 H Hf ∧ Base wa Hf H w ∧ Slots wa Hf H σ sD ∧ OwnNew H0 σ sD ∧ FinS mg W wa H0 Hf0 Hf (S sD w) D
theorem FinS.shift {H0 Hf0 Hf Hf1 : Hp} {r : RS} {D : Ends} (h : FinS mg W wa H0 Hf0 Hf r D) (x : Ex Hf Hf1) : FinS mg W wa H0 Hf0 Hf1 r D := by
  cases r with
  | nx s w => exact fun σ H' Hf' g e => h σ H' Hf' g (x.trans e)
  | bk s w => exact fun σ H' Hf' g e => h σ H' Hf' g (x.trans e)
  | ct s w => exact fun σ H' Hf' g e => h σ H' Hf' g (x.trans e)
  | rt d w => exact h
  | er y s w => exact fun σ H' Hf' cls dx g e => h σ H' Hf' cls dx g (x.trans e)
  | no => exact h
theorem weakS {st : Stmt} {t t' : TS} (h : PS X st t) (i : ∀ D σ H, t' D σ H → t D σ H) : PS X st t' := ⟨fun pins s σ H D I q => h.run pins s σ H D I (i D σ H q)⟩
theorem weakSs {st : List Stmt} {t t' : TS} (h : PSs X st t) (i : ∀ D σ H, t' D σ H → t D σ H) : PSs X st t' := ⟨fun pins s σ H D I q => h.run pins s σ H D I (i D σ H q)⟩
def sNx : DS := fun s w => .nx s w
def sSeq (S T : DS) : DS := fun s w => match S s w with
  | .nx s1 w1 => T s1 w1
  | o => o
variable {st : Stmt} {rest sts : List Stmt} {S T U : DS} {A B E : DE} {As : DA}
theorem sd_nil : PSs X [] (lS mg W sNx) := weakSs pss_nil fun D σ H h => by
  obtain ⟨wa, Hf, sD, w, H0, Hf0, g, b, hs, ho, h⟩ := h
  exact h σ H Hf g (Ex.refl _) b hs ho
theorem sd_cons (h1 : PS X st (lS mg W S)) (h2 : PSs X rest (lS mg W T)) : PSs X (st :: rest) (lS mg W (sSeq S T)) := weakSs (pss_cons h1 h2) fun D σ H h => by
  obtain ⟨wa, Hf, sD, w, H0, Hf0, g, b, hs, ho, h⟩ := h
  refine ⟨wa, Hf, sD, w, H0, Hf0, g, b, hs, ho, ?_⟩
  unfold sSeq at h
  cases e : S sD w with
  | nx s1 w1 =>
    rw [e] at h
    exact fun σ' H' Hf' g' x' b' hs' ho' => ⟨wa, Hf', s1, w1, H0, Hf0, g', b', hs', ho', h.shift x'⟩
  | bk s1 w1 => rw [e] at h; exact h
  | ct s1 w1 => rw [e] at h; exact h
  | rt d w1 => rw [e] at h; exact h
  | er x s1 w1 => rw [e] at h; exact h
  | no => rw [e] at h; exact h
theorem sd_one (h1 : PS X st (lS mg W S)) : PSs X [st] (lS mg W S) := pss_one h1
def sAsg (i : Nat) (E : DE) : DS := fun s w => match E s w with
  | .ok d w1 => .nx (s.set i (some d)) w1
  | .er x w1 => .er x s w1
  | .no => .no
theorem sd_asg {i : Nat} (h : PS X st (tAsg (lE mg W E) (gName i))) : PS X st (lS mg W (sAsg i E)) := weakS h fun D σ H h => by
  obtain ⟨wa, Hf, sD, w, H0, Hf0, g, b, hs, ho, h⟩ := h
  refine ⟨wa, Hf, sD, w, b, hs, ?_⟩
  unfold sAsg at h
  cases e : E sD w with
  | ok d w1 =>
    rw [e] at h
    exact fun H1 Hf1 g1 b1 v rv => h (σ.set i (some v)) H1 Hf1 (g.trans g1) g1.ex b1 ((hs.go g1).set rv) (ho.set (rep_isO rv))
  | er x w1 =>
    rw [e] at h
    exact fun H1 Hf1 g1 b1 cls dx ev => h σ H1 Hf1 cls dx (g.trans g1) g1.ex b1 (hs.go g1) ho ev
  | no => rw [e] at h; exact h
/-- a new list that its slot owns -/
def sNew (i : Nat) (E : DA) : DS := fun s w => match E s w with
  | .ok d w1 => .nx (s.set i (some (.own d))) w1
  | .er x w1 => .er x s w1
  | .no => .no
theorem sd_new {i : Nat} (h : PS X st (tAsg (lfL mg W As) (gName i))) : PS X st (lS mg W (sNew i As)) := weakS h fun D σ H h => by
  obtain ⟨wa, Hf, sD, w, H0, Hf0, g, b, hs, ho, h⟩ := h
  refine ⟨wa, Hf, sD, w, b, hs, ?_⟩
  unfold sNew at h
  cases e : As sD w with
  | ok d w1 =>
    rw [e] at h
    refine fun H1 Hf1 g1 b1 p vs hp e1 e2 e3 rv => h (σ.set i (some (.ref p))) H1 Hf1 (g.trans g1) g1.ex b1 ((hs.go g1).setOwn e1 e2 e3 rv fun j ye hj io hp' => ?_) (ho.setOwn hs.len (g.fr hp))
    obtain ⟨q, o, k1, k2, k3, _⟩ := hs.oAt hj io
    rw [hp'] at k1
    cases k1
    exact hp _ k2 k3
  | er x w1 =>
    rw [e] at h
    exact fun H1 Hf1 g1 b1 cls dx ev => h σ H1 Hf1 cls dx (g.trans g1) g1.ex b1 (hs.go g1) ho ev
  | no => rw [e] at h; exact h
theorem asg_weak {te te' : TE} {i : Nat} (h : PS X st (tAsg te (gName i))) (w : ∀ σ H Q, te' σ H Q → te σ H Q) : PS X st (tAsg te' (gName i)) := weakS h fun D σ H q => w σ H _ q
/-- any target -/
def sTg (G : DG) (E : DE) : DS := fun s w => match E s w with
  | .ok d w1 => match G d s with
    | some s1 => .nx s1 w1
    | none => .no
  | .er x w1 => .er x s w1
  | .no => .no
theorem sd_tg {G : DG} {vs : List Nat} (h : PS X st (tAsg (lE mg W E) (lG vs G))) : PS X st (lS mg W (sTg G E)) := weakS h fun D σ H h => by
  obtain ⟨wa, Hf, sD, w, H0, Hf0, g, b, hs, ho, h⟩ := h
  refine ⟨wa, Hf, sD, w, b, hs, ?_⟩
  unfold sTg at h
  cases e : E sD w with
  | ok d w1 =>
    rw [e] at h
    dsimp only at h
    cases eg : G d sD with
    | none => rw [eg] at h; exact h.elim
    | some s1 =>
      rw [eg] at h
      exact fun H1 Hf1 g1 b1 v rv => ⟨wa, Hf1, H0, w1, sD, d, s1, b1, rv, hs.go g1, ho, eg, fun σ' hs' ho' _ => h σ' H1 Hf1 (g.trans g1) g1.ex b1 hs' ho'⟩
  | er x w1 =>
    rw [e] at h
    exact fun H1 Hf1 g1 b1 cls dx ev => h σ H1 Hf1 cls dx (g.trans g1) g1.ex b1 (hs.go g1) ho ev
  | no => rw [e] at h; exact h
def sDrop (E : DE) : DS := fun s w => match E s w with
  | .ok _ w1 => .nx s w1
  | .er x w1 => .er x s w1
  | .no => .no
theorem sd_expr (he : PE X e (lE mg W E)) (hsw : swapsWith e none pos.line X.env = pure false := by rfl) : PS X (.Expr e pos) (lS mg W (sDrop E)) := weakS (ps_expr he hsw) fun D σ H h => by
  obtain ⟨wa, Hf, sD, w, H0, Hf0, g, b, hs, ho, h⟩ := h
  refine ⟨wa, Hf, sD, w, b, hs, ?_⟩
  unfold sDrop at h
  cases e : E sD w with
  | ok d w1 =>
    rw [e] at h
    exact fun H1 Hf1 g1 b1 v rv => h σ H1 Hf1 (g.trans g1) g1.ex b1 (hs.go g1) ho
  | er x w1 =>
    rw [e] at h
    exact fun H1 Hf1 g1 b1 cls dx ev => h σ H1 Hf1 cls dx (g.trans g1) g1.ex b1 (hs.go g1) ho ev
  | no => rw [e] at h; exact h
/-- x.append(e), x the slot's own list -/
def sApp (i : Nat) (E : DE) : DS := fun s w => match s[i]? with
  | some (some (.own xs)) => match E s w with
    | .ok d w1 => if xs.length < lim then .nx (s.set i (some (.own (xs ++ [d])))) w1 else .no
    | .er x w1 => .er x s w1
    | .no => .no
  | _ => .no
theorem sd_app {i : Nat} (h : PS X st (tDrop (tBM X.K "list" rAppend (tVar i) (tCons (lE mg W E) tNil)))) : PS X st (lS mg W (sApp i E)) := weakS h fun D σ H h => by
  obtain ⟨wa, Hf, sD, w, H0, Hf0, g, b, hs, ho, h⟩ := h
  unfold sApp at h
  split at h
  · rename_i xs hi
    obtain ⟨p, vs, k1, k2, k3, k4, k5⟩ := hs.own i xs hi
    refine ⟨.ref p, k1, .inl ⟨rfl, vs, SqL.of k2⟩, wa, Hf, sD, w, b, hs, ?_⟩
    cases e : E sD w with
    | ok d w1 =>
      rw [e] at h
      dsimp only at h
      split at h
      · rename_i hz
        intro H1 Hf1 g1 b1 v rv
        have hs1 := hs.go g1
        have kp : H1 p = some (.lst vs) := g1.keep p _ k4 k2
        have kf : Hf1 p = none := (g1.new p _ k2).trans k3
        have h0 : Fr H0 p := ho i _ p hi isO_own k1
        have r1 : Reps wa Hf1 (vs ++ [v]) (xs ++ [d]) := (k5.mono g1.ex).append (.cons rv .nil)
        refine ⟨p, vs, v, rfl, rfl, kp, Nat.lt_of_lt_of_le (by rw [k5.length]; exact hz) (lim_le (Nat.le_refl _)), ?_⟩
        refine h σ _ Hf1 ?_ g1.ex ?_ (hs1.write hi k1 r1) (ho.sub fun j ye hj io => ?_)
        · have gg := g.trans g1
          exact gg.appF h0
        · exact b1.appL kf k4 kp
        · by_cases hji : j = i
          · subst hji
            exact ⟨_, hi, isO_own⟩
          · rw [List.getElem?_set_ne (Ne.symm hji)] at hj
            exact ⟨ye, hj, io⟩
      · exact h.elim
    | er x w1 =>
      rw [e] at h
      exact fun H1 Hf1 g1 b1 cls dx ev => h σ H1 Hf1 cls dx (g.trans g1) g1.ex b1 (hs.go g1) ho ev
    | no => rw [e] at h; exact h
  · exact h.elim
/-- the well's k-th number stored -/
def setW (w : Wl) (k : Int) (z : Int) : Option Wl := if k = 0 then some (z, w.2.1, w.2.2) else if k = 1 then some (w.1, z, w.2.2) else if k = 2 then some (w.1, w.2.1, z) else none
def sSetW (A B E : DE) : DS := fun s w => match (E s w).bind fun d w1 => (A s w1).bind fun x w2 => (B s w2).bind fun k w3 => .ok [d, x, k] w3 with
  | .ok [.int z, .well, .int k] w3 => match setW w3 k z with
    | some w4 => .nx s w4
    | none => .no
  | .er x w3 => .er x s w3
  | _ => .no
theorem sd_setW (h : PS X st (tAsg (lE mg W E) (gSub (lE mg W A) (lE mg W B) rSetL))) : PS X st (lS mg W (sSetW A B E)) := weakS h fun D σ H h => by
  obtain ⟨wa, Hf, sD, w, H0, Hf0, g, b, hs, ho, h⟩ := h
  refine ⟨wa, Hf, sD, w, b, hs, ?_⟩
  unfold sSetW at h
  cases e : E sD w with
  | no => rw [e] at h; exact h
  | er x w1 =>
    rw [e] at h
    exact fun H1 Hf1 g1 b1 cls dx ev => h σ H1 Hf1 cls dx (g.trans g1) g1.ex b1 (hs.go g1) ho ev
  | ok d w1 =>
    rw [e, R.bind_ok] at h
    intro H1 Hf1 g1 b1 v rv
    refine ⟨wa, Hf1, sD, w1, b1, hs.go g1, ?_⟩
    cases e2 : A sD w1 with
    | no => rw [e2] at h; exact h
    | er x w2 =>
      rw [e2] at h
      exact fun H2 Hf2 g2 b2 cls dx ev => h σ H2 Hf2 cls dx ((g.trans g1).trans g2) (g1.ex.trans g2.ex) b2 ((hs.go g1).go g2) ho ev
    | ok x w2 =>
      rw [e2, R.bind_ok] at h
      intro H2 Hf2 g2 b2 v2 rv2
      refine ⟨wa, Hf2, sD, w2, b2, (hs.go g1).go g2, ?_⟩
      cases e3 : B sD w2 with
      | no => rw [e3] at h; exact h
      | er x w3 =>
        rw [e3] at h
        exact fun H3 Hf3 g3 b3 cls dx ev => h σ H3 Hf3 cls dx (((g.trans g1).trans g2).trans g3) ((g1.ex.trans g2.ex).trans g3.ex) b3 (((hs.go g1).go g2).go g3) ho ev
      | ok k w3 =>
        rw [e3, R.bind_ok] at h
        intro H3 Hf3 g3 b3 v3 rv3
        split at h
        · rename_i z k' w3' heq
          cases heq
          cases rv3
          cases rv2
          cases rv
          split at h
          · rename_i w4 hw
            have fin : ∀ j, ixN (wl w3).length k' = some j → wl w4 = (wl w3).set j (.int z) → rSetL (.ref wa) (.int k') (.int z) H3 fun H4 => D.nx σ H4 := fun j hj he => by
              refine ⟨wa, wl w3, k', j, rfl, rfl, b3.well, hj, ?_⟩
              rw [← he]
              have gg := (((g.trans g1).trans g2).trans g3)
              have hs3 := ((hs.go g1).go g2).go g3
              have g4 : Go wa H3 Hf3 (upd H3 wa (.lst (wl w4))) Hf3 := ⟨fun a o n _ q => by rw [upd_ne n]; exact q, Ex.refl _, fun _ _ _ _ => rfl, fun a o t q => by
                by_cases ha : a = wa
                · exact ⟨_, nt_lst, fun _ => nu_lst, by rw [ha]; exact upd_same⟩
                · exact ⟨o, t, id, by rw [upd_ne ha]; exact q⟩⟩
              exact h σ _ Hf3 (gg.trans g4) ((g1.ex.trans g2.ex).trans g3.ex) ⟨Evl.Ex.mut b3.ex b3.nw, upd_same, b3.nw, tabs_upd b3.tb (.inr ⟨_, b3.well⟩), b3.nt, b3.od⟩ (hs3.go g4) ho
            unfold setW at hw
            split at hw
            · rename_i h0
              cases hw
              subst h0
              exact fin 0 rfl rfl
            · split at hw
              · rename_i h0
                cases hw
                subst h0
                exact fin 1 rfl rfl
              · split at hw
                · rename_i h0
                  cases hw
                  subst h0
                  exact fin 2 rfl rfl
                · cases hw
          · exact h.elim
        · rename_i heq
          cases heq
        · exact h.elim
def sIf (C : DT) (S T : DS) : DS := fun s w => match C s w with
  | .ok k w1 => if k then S s w1 else T s w1
  | .er x w1 => .er x s w1
  | .no => .no
theorem sd_if {c : Expr} {a b : List Stmt} {C : DT} (hc : PT X c (lT mg W C)) (ha : PSs X a (lS mg W S)) (hb : PSs X b (lS mg W T)) : PS X (.If c a b pos) (lS mg W (sIf C S T)) := weakS (ps_if hc ha hb) fun D σ H h => by
  obtain ⟨wa, Hf, sD, w, H0, Hf0, g, b, hs, ho, h⟩ := h
  refine ⟨wa, Hf, sD, w, b, hs, ?_⟩
  unfold sIf at h
  cases e : C sD w with
  | no => rw [e] at h; exact h
  | er x w1 =>
    rw [e] at h
    exact fun H1 Hf1 g1 b1 cls dx ev => h σ H1 Hf1 cls dx (g.trans g1) g1.ex b1 (hs.go g1) ho ev
  | ok k w1 =>
    rw [e] at h
    intro H1 Hf1 g1 b1 v rv
    have ev : v = k := rv
    subst ev
    cases v with
    | true => exact iteT ⟨wa, Hf1, sD, w1, H0, Hf0, g.trans g1, b1, hs.go g1, ho, FinS.shift h g1.ex⟩
    | false => exact iteF ⟨wa, Hf1, sD, w1, H0, Hf0, g.trans g1, b1, hs.go g1, ho, FinS.shift h g1.ex⟩
def sRet (E : DE) : DS := fun s w => match E s w with
  | .ok d w1 => .rt d w1
  | .er x w1 => .er x s w1
  | .no => .no
theorem sd_ret (he : PE X e (lE mg W E)) : PS X (.Return (some e) pos) (lS mg W (sRet E)) := weakS (ps_ret he) fun D σ H h => by
  obtain ⟨wa, Hf, sD, w, H0, Hf0, g, b, hs, ho, h⟩ := h
  refine ⟨wa, Hf, sD, w, b, hs, ?_⟩
  unfold sRet at h
  cases e : E sD w with
  | ok d w1 =>
    rw [e] at h
    exact fun H1 Hf1 g1 b1 v rv => h H1 Hf1 v (g.trans g1) b1 rv
  | er x w1 =>
    rw [e] at h
    exact fun H1 Hf1 g1 b1 cls dx ev => h σ H1 Hf1 cls dx (g.trans g1) g1.ex b1 (hs.go g1) ho ev
  | no => rw [e] at h; exact h
/-- a, b = e1, e2 -/
def sPar (i j : Nat) (As : DA) : DS := fun s w => match As s w with
  | .ok [x, y] w1 => .nx ((s.set i (some x)).set j (some y)) w1
  | .er x w1 => .er x s w1
  | _ => .no
theorem sd_par {i j : Nat} (h : PS X st (tPar i j (lA mg W As))) : PS X st (lS mg W (sPar i j As)) := weakS h fun D σ H h => by
  obtain ⟨wa, Hf, sD, w, H0, Hf0, g, b, hs, ho, h⟩ := h
  refine ⟨wa, Hf, sD, w, b, hs, ?_⟩
  unfold sPar at h
  cases e : As sD w with
  | ok d w1 =>
    rw [e] at h
    intro H1 Hf1 g1 b1 v rv
    split at h
    · rename_i x y w1' heq
      cases heq
      cases rv with
      | cons r1 r2 =>
        cases r2 with
        | cons r2 r3 =>
          cases r3
          have n1 : ¬ IsO x := rep_isO r1
          have n2 : ¬ IsO y := rep_isO r2
          exact ⟨_, _, rfl, h _ H1 Hf1 (g.trans g1) g1.ex b1 (((hs.go g1).set r1).set r2) ((ho.set n1).set n2)⟩
    · rename_i heq
      cases heq
    · exact h.elim
  | er x w1 =>
    rw [e] at h
    exact fun H1 Hf1 g1 b1 cls dx ev => h σ H1 Hf1 cls dx (g.trans g1) g1.ex b1 (hs.go g1) ho ev
  | no => rw [e] at h; exact h
/-- from here on the slot's own list is only read -/
def frzS (i : Nat) (s : Sl) : Sl := match s[i]? with
  | some (some (.own xs)) => s.set i (some (.lst xs))
  | _ => s
def sFrz (i : Nat) (S : DS) : DS := fun s w => S (frzS i s) w
theorem frz_ok {i : Nat} {D : Ends} (h : lS mg W (sFrz i S) D σ H) : lS mg W S D σ H := by
  obtain ⟨wa, Hf, sD, w, H0, Hf0, g, b, hs, ho, h⟩ := h
  unfold sFrz frzS at h
  split at h
  · rename_i xs hi
    obtain ⟨p, vs, k1, k2, k3, k4, k5⟩ := hs.own i xs hi
    have h0 : Fr H0 p := ho i _ p hi isO_own k1
    have x1 : Ex Hf (upd Hf p (.lst vs)) := Ex.new k3
    refine ⟨wa, upd Hf p (.lst vs), _, w, H0, Hf0, ⟨g.keepN, g.ex.trans x1, fun a o t q => by rw [upd_ne (ne_of_fr q t.1 h0)]; exact g.newN a o t q, g.thereN⟩, ⟨fun a u q => ?_, b.well, by rw [upd_ne (Ne.symm k4)]; exact b.nw, b.tb, nt_upd b.nt nt_lst, b.od.trans x1⟩, hs.frz hi k1 k2, ho.sub fun j ye hj io => ?_, FinS.shift h x1⟩
    · by_cases ha : a = p
      · subst ha; rw [upd_same] at q; rw [← q]; exact k2
      · rw [upd_ne ha] at q; exact b.ex a u q
    · by_cases hji : j = i
      · subst hji
        rw [List.getElem?_set_self (List.getElem?_eq_some_iff.mp hi).1] at hj
        cases hj
        rcases io with ⟨zs, z⟩ | ⟨ks, zs, z⟩ <;> cases z
      · rw [List.getElem?_set_ne (Ne.symm hji)] at hj
        exact ⟨ye, hj, io⟩
  · exact ⟨wa, Hf, sD, w, H0, Hf0, g, b, hs, ho, h⟩
theorem sd_frz (i : Nat) (h : PSs X sts (lS mg W S)) : PSs X sts (lS mg W (sFrz i S)) := weakSs h fun _ _ _ q => frz_ok q
theorem sd_frz1 (i : Nat) (h : PS X st (lS mg W S)) : PS X st (lS mg W (sFrz i S)) := weakS h fun _ _ _ q => frz_ok q
/-! ### loops -/
def loopD (G : DG) (B : DS) : List D → DS
  | [], s, w => .nx s w
  | d :: r, s, w => match G d s with
    | none => .no
    | some s1 => match B s1 w with
      | .nx s2 w2 => loopD G B r s2 w2
      | .ct s2 w2 => loopD G B r s2 w2
      | .bk s2 w2 => .nx s2 w2
      | o => o
def sFor (I : DI) (G : DG) (B : DS) : DS := fun s w => match I s w with
  | .ok ds w1 => loopD G B ds s w1
  | .er x w1 => .er x s w1
  | .no => .no
theorem sd_for {I : DI} {G : DG} {S : DS} {vs : List Nat} {body : List Stmt} (hp : PassesOwn (model X.prog X.w) X.A X.env X.xe) (hc : X.calm = true) (hi : PI X tg iter (lI mg W I)) (hg : PG X tg (lG vs G)) (hb : PSs X body (lS mg W S))
    (hfs : ∀ x, foldedSetIterable iter X.env x = pure x := by intro _; rfl) : PS X (.For tg iter body [] pos) (lS mg W (sFor I G S)) := weakS (ps_for hp hc hi hg hb hfs) fun D σ H h => by
  obtain ⟨wa, Hf, sD, w, H0, Hf0, g, b, hs, ho, h⟩ := h
  refine ⟨wa, Hf, sD, w, b, hs, ?_⟩
  unfold sFor at h
  cases e : I sD w with
  | no => rw [e] at h; exact h
  | er x w1 =>
    rw [e] at h
    exact fun H1 Hf1 g1 b1 cls dx ev => h σ H1 Hf1 cls dx (g.trans g1) g1.ex b1 (hs.go g1) ho ev
  | ok ds w1 =>
    rw [e] at h
    intro H1 Hf1 g1 b1 J wk
    have h1 := FinS.shift h g1.ex
    refine ⟨fun i m σ2 H2 => m = ds.length - i ∧ i ≤ ds.length ∧ ∃ Hf2 s2 w2, Go wa H0 Hf0 H2 Hf2 ∧ Ex Hf1 Hf2 ∧ Base wa Hf2 H2 w2 ∧ Slots wa Hf2 H2 σ2 s2 ∧ OwnNew H0 σ2 s2 ∧ FinS mg W wa H0 Hf0 Hf2 (loopD G S (ds.drop i) s2 w2) D,
      ⟨ds.length, by simp, Nat.zero_le _, Hf1, sD, w1, g.trans g1, Ex.refl _, b1, hs.go g1, ho, h1⟩, ?_⟩
    rintro i m σ2 H2 ⟨rfl, hle, Hf2, s2, w2, g2, x2, b2, hs2, ho2, h2⟩
    by_cases hlt : i < ds.length
    · have ed : ds.drop i = ds[i] :: ds.drop (i + 1) := List.drop_eq_getElem_cons hlt
      rw [ed] at h2
      have gi : ds[i]? = some ds[i] := by simp [hlt]
      refine .inr ⟨wk.goes i H2 hlt (x2.trans b2.ex), fun σ' H' => ∃ Hf2 s2 w2, Go wa H0 Hf0 H' Hf2 ∧ Ex Hf1 Hf2 ∧ Base wa Hf2 H' w2 ∧ Slots wa Hf2 H' σ' s2 ∧ OwnNew H0 σ' s2 ∧ FinS mg W wa H0 Hf0 Hf2 (loopD G S (ds.drop (i + 1)) s2 w2) D,
        fun σ' H' hN => ⟨ds.length - (i + 1), by omega, rfl, hlt, hN⟩, fun x H3 hy => ?_⟩
      obtain ⟨Hf3, g3, b3, r3⟩ := wk.yields i H2 Hf2 w2 x H3 _ gi x2 b2 hy
      unfold loopD at h2
      cases eg : G ds[i] s2 with
      | none => rw [eg] at h2; exact h2.elim
      | some s3 =>
        rw [eg] at h2
        dsimp only at h2
        refine ⟨wa, Hf3, H0, w2, s2, ds[i], s3, b3, r3, hs2.go g3, ho2, eg, fun σ4 hs4 ho4 _ => ⟨wa, Hf3, s3, w2, H0, Hf0, g2.trans g3, b3, hs4, ho4, ?_⟩⟩
        cases eb : S s3 w2 with
        | nx s5 w5 =>
          rw [eb] at h2
          exact fun σ5 H5 Hf5 g5 x5 b5 hs5 ho5 => ⟨Hf5, s5, w5, g5, (x2.trans g3.ex).trans x5, b5, hs5, ho5, FinS.shift h2 (g3.ex.trans x5)⟩
        | ct s5 w5 =>
          rw [eb] at h2
          exact fun σ5 H5 Hf5 g5 x5 b5 hs5 ho5 => ⟨Hf5, s5, w5, g5, (x2.trans g3.ex).trans x5, b5, hs5, ho5, FinS.shift h2 (g3.ex.trans x5)⟩
        | bk s5 w5 =>
          rw [eb] at h2
          exact fun σ5 H5 Hf5 g5 x5 b5 hs5 ho5 => h2 σ5 H5 Hf5 g5 (g3.ex.trans x5) b5 hs5 ho5
        | rt d w5 => rw [eb] at h2; exact h2
        | er y s5 w5 => rw [eb] at h2; exact FinS.shift (r := .er y s5 w5) h2 g3.ex
        | no => rw [eb] at h2; exact h2
    · have ei : i = ds.length := by omega
      subst ei
      rw [List.drop_length] at h2
      exact .inl ⟨wk.stops H2 (x2.trans b2.ex), h2 σ2 H2 Hf2 g2 (Ex.refl _) b2 hs2 ho2⟩
/-- at most n turns -/
def whileD (C : DT) (B : DS) : Nat → DS
  | 0, _, _ => .no
  | n + 1, s, w => match C s w with
    | .ok true w1 => match B s w1 with
      | .nx s2 w2 => whileD C B n s2 w2
      | .ct s2 w2 => whileD C B n s2 w2
      | .bk s2 w2 => .nx s2 w2
      | o => o
    | .ok false w1 => .nx s w1
    | .er x w1 => .er x s w1
    | .no => .no
theorem sd_while {c : Expr} {C : DT} {S : DS} {body : List Stmt} (n : Nat) (hp : PassesOwn (model X.prog X.w) X.A X.env X.xe) (hc : PT X c (lT mg W C)) (hb : PSs X body (lS mg W S)) : PS X (.While c body [] pos) (lS mg W (whileD C S n)) := weakS (ps_while hp hc hb) fun D σ H h => by
  obtain ⟨wa, Hf, sD, w, H0, Hf0, g, b, hs, ho, h⟩ := h
  refine ⟨fun m σ2 H2 => ∃ Hf2 s2 w2, Go wa H0 Hf0 H2 Hf2 ∧ Base wa Hf2 H2 w2 ∧ Slots wa Hf2 H2 σ2 s2 ∧ OwnNew H0 σ2 s2 ∧ Ex Hf Hf2 ∧ FinS mg W wa H0 Hf0 Hf2 (whileD C S m s2 w2) D, ⟨n, Hf, sD, w, g, b, hs, ho, Ex.refl _, h⟩, ?_⟩
  rintro m σ2 H2 ⟨Hf2, s2, w2, g2, b2, hs2, ho2, x2, h2⟩
  cases m with
  | zero => exact h2.elim
  | succ m =>
    unfold whileD at h2
    refine ⟨wa, Hf2, s2, w2, b2, hs2, ?_⟩
    cases ec : C s2 w2 with
    | no => rw [ec] at h2; exact h2
    | er x w3 =>
      rw [ec] at h2
      exact fun H1 Hf1 g1 b1 cls dx ev => h2 σ2 H1 Hf1 cls dx (g2.trans g1) g1.ex b1 (hs2.go g1) ho2 ev
    | ok k w3 =>
      rw [ec] at h2
      intro H3 Hf3 g3 b3 v rv
      have ev : v = k := rv
      subst ev
      cases v with
      | false => exact iteF (h2 σ2 H3 Hf3 (g2.trans g3) g3.ex b3 (hs2.go g3) ho2)
      | true =>
        dsimp only at h2
        refine iteT ⟨fun σ' H' => ∃ Hf2 s2 w2, Go wa H0 Hf0 H' Hf2 ∧ Base wa Hf2 H' w2 ∧ Slots wa Hf2 H' σ' s2 ∧ OwnNew H0 σ' s2 ∧ Ex Hf Hf2 ∧ FinS mg W wa H0 Hf0 Hf2 (whileD C S m s2 w2) D, fun σ' H' hN => ⟨m, Nat.lt_succ_self m, hN⟩,
          wa, Hf3, s2, w3, H0, Hf0, g2.trans g3, b3, hs2.go g3, ho2, ?_⟩
        cases eb : S s2 w3 with
        | nx s5 w5 =>
          rw [eb] at h2
          exact fun σ5 H5 Hf5 g5 x5 b5 hs5 ho5 => ⟨Hf5, s5, w5, g5, b5, hs5, ho5, (x2.trans g3.ex).trans x5, FinS.shift h2 (g3.ex.trans x5)⟩
        | ct s5 w5 =>
          rw [eb] at h2
          exact fun σ5 H5 Hf5 g5 x5 b5 hs5 ho5 => ⟨Hf5, s5, w5, g5, b5, hs5, ho5, (x2.trans g3.ex).trans x5, FinS.shift h2 (g3.ex.trans x5)⟩
        | bk s5 w5 =>
          rw [eb] at h2
          exact fun σ5 H5 Hf5 g5 x5 b5 hs5 ho5 => h2 σ5 H5 Hf5 g5 (g3.ex.trans x5) b5 hs5 ho5
        | rt d w5 => rw [eb] at h2; exact h2
        | er y s5 w5 => rw [eb] at h2; exact FinS.shift (r := .er y s5 w5) h2 g3.ex
        | no => rw [eb] at h2; exact h2
end
/-! ### a def -/
def runB (n k : Nat) (B : DS) : DF := fun ds w => if ds.length = k then match B (ds.map some ++ List.replicate (n - k) none) w with
    | .nx _ w1 => .ok .non w1
    | .rt d w1 => .ok d w1
    | .er x _ w1 => .er x w1
    | _ => .no
  else .no
section
variable {P : Program} {w : World} {K : PySem.W.Frag} {mg : Str → Option Value} {base : Heap}
theorem slots_start {wa : Addr} {Hf H : Hp} {vs : List V} {ds : List D} {N : List Str} (hl : vs.length ≤ N.length) (r : Reps wa Hf vs ds) : Slots wa Hf H (L2.start N vs) (ds.map some ++ List.replicate (N.length - ds.length) none) := by
  have e := r.length
  have key : ∀ (i : Nat) (d : D), (ds.map some ++ List.replicate (N.length - ds.length) none)[i]? = some (some d) → ds[i]? = some d := fun i d h => by
    rw [List.getElem?_append] at h
    split at h
    · rw [List.getElem?_map] at h
      cases q : ds[i]? with
      | none => rw [q] at h; cases h
      | some z => rw [q] at h; cases h; rfl
    · rw [List.getElem?_replicate] at h
      split at h <;> cases h
  have nown : ∀ (i : Nat) (d : D), IsO d → ds[i]? ≠ some d := fun i d io h => by
    obtain ⟨v, _, r'⟩ := r.get h
    exact rep_isO r' io
  refine ⟨by unfold L2.start; simp [e], fun i d h n => ?_, fun i xs h => absurd (key i _ h) (nown i _ isO_own), fun i ks xs h => absurd (key i _ h) (nown i _ isO_dct), fun i j d e p h io _ _ _ _ => absurd (key i _ h) (nown i d io)⟩
  obtain ⟨v, h1, h2⟩ := r.get (key i d h)
  refine ⟨v, ?_, h2⟩
  unfold L2.start
  have hi : i < vs.length := (List.getElem?_eq_some_iff.mp h1).1
  rw [List.getElem?_append_left (by simpa using hi), List.getElem?_map, h1]
  rfl
theorem fnD {x qual : Str} {st : Stmt} {f : Addr} {fd : FuncData} {N ps : List Str} {k : Nat} (F : Fun K x qual st f fd) (S : FnScope N ps (defScope st)) (hN : ps.length ≤ N.length) (B : DS)
    (h : ∀ (cdv : Value) (A : Around) (outer : List Env) (s : Shared) (H : Hp) (E : XK), Room k (A.deeper (envOfC qual (defScope st) s.heap.objs.size f cdv)) →
      PSs (cxOf (L2.CX P w) P w K mg base N qual (defScope st) f cdv A outer s H E) (defBody st) (lS mg (fun cls d _ H => E cls d H) B)) : FnD P w K mg base (k + 1) f fd ps (runB N.length ps.length B) := by
  refine F.okX S (fun vs H Q E ⟨wa, Hf, ds, w, hb, r, hl, _⟩ => by rw [r.length]; exact hl) fun cdv A outer s H vs Q E hr ⟨wa, Hf, ds, w, hb, r, hl, q⟩ => ⟨_, h cdv A outer s H E hr, ?_⟩
  have hvl : vs.length ≤ N.length := by rw [r.length, hl]; exact hN
  have hst := slots_start (H := H) hvl r
  refine ⟨wa, Hf, _, w, H, Hf, Go.refl, hb, hst, fun i d p h1 io _ => ?_, ?_⟩
  · exfalso
    rw [List.getElem?_append] at h1
    split at h1
    · rw [List.getElem?_map] at h1
      cases e : ds[i]? with
      | none => rw [e] at h1; cases h1
      | some z =>
        rw [e] at h1
        cases h1
        obtain ⟨v, _, r'⟩ := r.get e
        exact rep_isO r' io
    · rw [List.getElem?_replicate] at h1
      split at h1 <;> cases h1
  · unfold runB at q
    rw [if_pos hl, ← hl] at q
    cases eB : B (ds.map some ++ List.replicate (N.length - ds.length) none) w with
    | nx s1 w1 => rw [eB] at q; exact fun σ H' Hf' g _ b _ _ => q H' Hf' g b _ .non
    | rt d w1 => rw [eB] at q; exact fun H' Hf' v g b r' => q H' Hf' g b v r'
    | er y s1 w1 => rw [eB] at q; exact fun σ H' Hf' cls dx g _ b _ _ ev => q H' Hf' g b cls dx ev
    | bk s1 w1 => rw [eB] at q; exact q.elim
    | ct s1 w1 => rw [eB] at q; exact q.elim
    | no => rw [eB] at q; exact q.elim
end
end DL

set_option maxHeartbeats 4000000
namespace DL
open PySem PySem.Spec PyProof.Rows L2
variable [TabT] [OldT]
open Evl (Ex)
/-! ### zip of two, of three, each a list or a tuple -/
def hoK (k : Bool) (xs : List V) : HO := match k with | true => .tup xs | false => .lst xs
def SI (k : Bool) (h : Heap) (it l : Addr) (i : Nat) : Prop := match k with | true => h.IsTupleIter it l i | false => h.IsListIter it l i
def SQ (k : Bool) (h : Heap) (l : Addr) (xs : Array Value) : Prop := match k with | true => h.IsTuple l xs | false => h.IsList l xs
def itO (k : Bool) (l : Addr) : Obj := match k with
  | true => { cls := .type "tuple_iterator", data := .fields #[.ref l, .int 0 0] }
  | false => { cls := .type "list_iterator", data := .fields #[.ref l, .int 0 0] }
theorem SI.at {k : Bool} {h h' : Heap} {it l : Addr} {i : Nat} (x : SI k h it l i) (e : ∀ o, h.get? it = some o → h'.get? it = some o) : SI k h' it l i := by
  cases k with
  | true => exact Heap.IsTupleIter.at x e
  | false => exact Heap.IsListIter.at x e
theorem SI.obj {k : Bool} {h : Heap} {it l : Addr} {i : Nat} (x : SI k h it l i) : ∃ o, h.get? it = some o ∧ ∀ v, o.data ≠ .cell v := by
  cases k with
  | true => obtain ⟨o, e, _, d⟩ := x; exact ⟨o, e, fun v z => by rw [d] at z; cases z⟩
  | false => obtain ⟨o, e, _, d⟩ := x; exact ⟨o, e, fun v z => by rw [d] at z; cases z⟩
theorem SI.new {k : Bool} {h : Heap} {it l : Addr} (x : h.get? it = some (itO k l)) : SI k h it l 0 := by
  cases k with
  | true => exact ⟨_, x, rfl, rfl⟩
  | false => exact ⟨_, x, rfl, rfl⟩
theorem draws_SI {prog : Program} {w : World} {A : Around} (k : Bool) (hh : A.handled = none) (it l : Addr) (hne : l ≠ it) (items : Array Value) :
    Draws prog w A it [it, l] items.size (fun i v => items[i]? = some v) (fun i h => SI k h it l i ∧ SQ k h l items) := by
  cases k with
  | true => exact Draws.tuple hh it l hne items
  | false => exact Draws.list hh it l hne items
theorem begins_SI (k : Bool) (l : Addr) (items : Array Value) : Begins (.ref l) (itO k l) fun h => SQ k h l items := by
  cases k with
  | true => exact begins_tuple l items
  | false => exact begins_list l items
section
variable {X : Cx} {pins : List (Addr × Obj)} {σ : L2.St} {H : Hp} {s : Shared}
theorem seqAt (I : Inv X pins σ H s) {k : Bool} {a : Addr} {xs : List V} (h : H a = some (hoK k xs)) : ∃ its : List Value, Vals xs its ∧ SQ k s.heap a its.toArray ∧ a < s.heap.objs.size := by
  cases k with
  | true =>
    obtain ⟨its, r, p, _⟩ := I.tuple (SqT.of h)
    obtain ⟨o, e, _⟩ := id p
    exact ⟨its, r, p, Heap.lt_size e⟩
  | false =>
    obtain ⟨its, r, p, _⟩ := I.list (SqL.of h)
    exact ⟨its, r, p.isList, p.lt⟩
theorem hoK_inj {k : Bool} {xs ys : List V} (h : hoK k xs = hoK k ys) : xs = ys := by
  cases k <;> (cases h; rfl)
def ItZ2 (k1 k2 : Bool) (a b : Addr) : It :=
  ⟨fun i H => ∃ xs ys : List V, H a = some (hoK k1 xs) ∧ H b = some (hoK k2 ys) ∧ i < xs.length ∧ i < ys.length,
    fun i H v H' => ∃ T x y, v = .ref T ∧ H T = none ∧ H' = upd H T (.tup [x, y]) ∧ (∀ xs, H a = some (hoK k1 xs) → xs[i]? = some x) ∧ ∀ ys, H b = some (hoK k2 ys) → ys[i]? = some y,
    fun i H => ∃ xs ys : List V, H a = some (hoK k1 xs) ∧ H b = some (hoK k2 ys) ∧ i = min xs.length ys.length⟩
theorem turn_z2 {P : Program} {w : World} {K : PySem.W.Frag} {elts : List Expr} {kk : Nat} {tpos : Pos} {k1 k2 : Bool} {a b z TI TO i1 i2 : Addr} (D : ZipApart z TI TO i1 i2 a b) :
    Turn P w K (.Tuple elts kk tpos) (ItZ2 k1 k2 a b) [z, TI, TO, i1, i2] z (fun i h => IsZip h z TI TO .none ∧ IsTupOf2 h TI (.ref i1) (.ref i2) ∧ (∃ x y, IsTupOf2 h TO x y) ∧ SI k1 h i1 a i ∧ SI k2 h i2 b i) where
  mem := by simp
  obj := fun i h st c hc => by
    obtain ⟨hz, hTI, ⟨x, y, hTO⟩, h1, h2⟩ := st
    have e' : c = z ∨ c = TI ∨ c = TO ∨ c = i1 ∨ c = i2 := by simpa using hc
    rcases e' with q | q | q | q | q
    · rw [q]; exact ⟨_, hz, fun v q => nomatch q⟩
    · rw [q]; exact ⟨_, hTI, fun v q => nomatch q⟩
    · rw [q]; exact ⟨_, hTO, fun v q => nomatch q⟩
    · rw [q]; exact h1.obj
    · rw [q]; exact h2.obj
  keep := fun i h h' st k => by
    obtain ⟨hz, hTI, ⟨x, y, hTO⟩, h1, h2⟩ := st
    exact ⟨k z (by simp) _ hz, k TI (by simp) _ hTI, ⟨x, y, k TO (by simp) _ hTO⟩, h1.at fun o q => k i1 (by simp) o q, h2.at fun o q => k i2 (by simp) o q⟩
  item := by
    intro X hP hw hK hc i pins s σ H E I hf st hg
    subst hP hw hK
    obtain ⟨hz, hTI, hTO, h1, h2⟩ := st
    obtain ⟨xs, ys, ha, hb, hx, hy⟩ := hg
    obtain ⟨its, rv, p, la⟩ := seqAt I ha
    obtain ⟨its2, rv2, p2, lb⟩ := seqAt I hb
    have hh := I.ok.hd hc
    have W := GoesN.zip2 (elts := elts) (x1 := kk) (pos := tpos) (z := z) (TI := TI) (TO := TO) (ZipSep2.mk (fp1 := [i1, a]) (fp2 := [i2, b]) D.TIz D.TOz D.TITO D.TIi1 (by simp) (by simp [D.i1z.symm, D.l1z.symm]) (by simp [D.TOi1, D.l1TO.symm]) D.TIi2 (by simp) (by simp [D.i2z.symm, D.l2z.symm]) (by simp [D.TOi2, D.l2TO.symm]) (by simp [D.i12, D.l2i1.symm]) (by simp [D.i12.symm, D.l1i2.symm]))
      (draws_SI (prog := X.prog) (w := X.w) (A := X.A.in1) k1 hh i1 a D.l1i1 its.toArray) (draws_SI (prog := X.prog) (w := X.w) (A := X.A.in1) k2 hh i2 b D.l2i2 its2.toArray)
    have l1 := rv.length
    have l2 := rv2.length
    refine thn (W.goes i s (fun v s2 => ∃ x H', Inv X pins σ H' s2 ∧ RelV x v ∧ (ItZ2 k1 k2 a b).yld i H x H' ∧ (IsZip s2.heap z TI TO .none ∧ IsTupOf2 s2.heap TI (.ref i1) (.ref i2) ∧ (∃ x y, IsTupOf2 s2.heap TO x y) ∧ SI k1 s2.heap i1 a (i + 1) ∧ SI k2 s2.heap i2 b (i + 1)) ∧ ∀ c ∈ [z, TI, TO, i1, i2], H' c = none) E (by simp; omega) ⟨hz, hTI, hTO, ⟨h1, p⟩, ⟨h2, p2⟩⟩ fun v h' tk hY st' hk _ => ?_) fun r s1 q => q
    obtain ⟨T, u1, u2, rfl, hT, e1, e2, hTup⟩ := hY
    obtain ⟨hz', hTI', hTO', ⟨h1', _⟩, ⟨h2', _⟩⟩ := st'
    have e1 : its[i]? = some u1 := by simpa using e1
    have e2 : its2[i]? = some u2 := by simpa using e2
    have gx : xs[i]? = some xs[i] := by simp [hx]
    have gy : ys[i]? = some ys[i] := by simp [hy]
    obtain ⟨u1', f1, r1⟩ := rv.get gx
    obtain ⟨u2', f2, r2⟩ := rv2.get gy
    rw [e1] at f1
    cases f1
    rw [e2] at f2
    cases f2
    have new : ObjOk X.prog X.w (upd H T (.tup [xs[i], ys[i]])) h' T (.tup [xs[i], ys[i]]) := ⟨by show 2 ≤ sizeLine; decide, [u1, u2], .cons r1 (.cons r2 .nil), hTup⟩
    have I1 : Inv X pins σ (upd H T (.tup [xs[i], ys[i]])) { s with heap := h', toks := tk } := I.turnedNew (ch := [z, TI, TO, i1, i2]) (fun c o hcm q => hk c o (fun m => hcm (by simp at m ⊢; rcases m with m | m | m | m <;> simp [m])) q) hf hT new
    refine ⟨.ref T, _, I1, rfl, ⟨T, _, _, rfl, I.hok.fresh hT, rfl, fun l hl => ?_, fun l hl => ?_⟩, ⟨hz', hTI', hTO', h1', h2'⟩, fun c hcm => ?_⟩
    · rw [ha] at hl
      rw [← hoK_inj (Option.some.inj hl)]
      exact gx
    · rw [hb] at hl
      rw [← hoK_inj (Option.some.inj hl)]
      exact gy
    · have hlt : c < s.heap.objs.size := by
        have e' : c = z ∨ c = TI ∨ c = TO ∨ c = i1 ∨ c = i2 := by simpa using hcm
        rcases e' with q | q | q | q | q
        · rw [q]; exact Heap.lt_size hz
        · rw [q]; exact Heap.lt_size hTI
        · obtain ⟨_, _, hTO⟩ := hTO; rw [q]; exact Heap.lt_size hTO
        · rw [q]; obtain ⟨_, e, _⟩ := h1.obj; exact Heap.lt_size e
        · rw [q]; obtain ⟨_, e, _⟩ := h2.obj; exact Heap.lt_size e
      rw [upd_ne (Nat.ne_of_lt (Nat.lt_of_lt_of_le hlt hT))]
      exact (hf c hcm).1
  done := by
    intro X hP hw hK hc i pins s σ H E I hf st hg
    subst hP hw hK
    obtain ⟨hz, hTI, hTO, h1, h2⟩ := st
    obtain ⟨xs, ys, ha, hb, hi⟩ := hg
    obtain ⟨its, rv, p, la⟩ := seqAt I ha
    obtain ⟨its2, rv2, p2, lb⟩ := seqAt I hb
    have hh := I.ok.hd hc
    have l1 := rv.length
    have l2 := rv2.length
    have W := GoesN.zip2 (elts := elts) (x1 := kk) (pos := tpos) (z := z) (TI := TI) (TO := TO) (ZipSep2.mk (fp1 := [i1, a]) (fp2 := [i2, b]) D.TIz D.TOz D.TITO D.TIi1 (by simp) (by simp [D.i1z.symm, D.l1z.symm]) (by simp [D.TOi1, D.l1TO.symm]) D.TIi2 (by simp) (by simp [D.i2z.symm, D.l2z.symm]) (by simp [D.TOi2, D.l2TO.symm]) (by simp [D.i12, D.l2i1.symm]) (by simp [D.i12.symm, D.l1i2.symm]))
      (draws_SI (prog := X.prog) (w := X.w) (A := X.A.in1) k1 hh i1 a D.l1i1 its.toArray) (draws_SI (prog := X.prog) (w := X.w) (A := X.A.in1) k2 hh i2 b D.l2i2 its2.toArray)
    have ei : i = min its.toArray.size its2.toArray.size := by simp; omega
    rw [ei] at h1 h2
    refine W.stops s _ E ⟨hz, hTI, hTO, ⟨h1, p⟩, ⟨h2, p2⟩⟩ fun h' tk hk _ => I.turnedL (ch := [z, TI, TO, i1, i2]) (fun c o hcm q => hk c o (fun m => hcm (by simp at m ⊢; rcases m with m | m | m | m <;> simp [m])) q) hf
  self := fun A i s Q E st h => wpAny_pyIter_zip st.1 h
def iZ2 (k1 k2 : Bool) (ta : TA) : TI := fun σ H R => ta σ H fun vs H1 => ∃ a b xs ys, vs = [.ref a, .ref b] ∧ H1 a = some (hoK k1 xs) ∧ H1 b = some (hoK k2 ys) ∧ R (ItZ2 k1 k2 a b) H1
theorem pi_z2 {e e2 : Expr} {ta : TA} {p pos tpos : Pos} {elts : List Expr} {kk : Nat} (k1 k2 : Bool) (hg : Gl X "zip") (hm : X.mg "zip" = none) (ha : PA X [e, e2] ta)
    (hs : starEach [e, e2] X.env = (false, eval e X.env) :: starEach [e2] X.env := by rfl) (hpl : (backTo pos (starEach [e2] X.env)).any (·.1) = false := by rfl) :
    PI X (.Tuple elts kk tpos) (.Call (.Name "zip" p) [e, e2] [] pos) (iZ2 k1 k2 ta) := by
  refine ⟨fun pins s σ H R I h => ?_⟩
  refine Call_ (ld_blt I hg hm PyProof.Rows.boot_zip (PyProof.Rows.callWith_type1 (thn (ha.run pos pins s σ H _ I h) fun us s1 ⟨vs, H1, I1, r1, q1⟩ => ?_) hs hpl))
  obtain ⟨a, b, xs, ys, ex, hx, hy, q⟩ := q1
  subst ex
  cases r1 with
  | cons r rr =>
    cases rr with
    | cons r' rr =>
      cases rr
      cases r
      cases r'
      obtain ⟨its, rv, p1, la⟩ := seqAt I1 hx
      obtain ⟨its2, rv2, p2, lb⟩ := seqAt I1 hy
      refine zip_begins2 (begins_SI k1 a its.toArray) (begins_SI k2 b its2.toArray) p1 p2 fun h' hz hTI hTO h1 h2 hsz hk => wpAny_pyIter_zip hz ?_
      have I2 : Inv X pins σ H1 { s1 with heap := h' } := I1.kept (t' := s1.toks) hk
      refine ⟨s1.heap.objs.size + 4, [s1.heap.objs.size + 4, s1.heap.objs.size + 2, s1.heap.objs.size + 3, s1.heap.objs.size, s1.heap.objs.size + 1], _, _, H1, rfl, I2, turn_z2 (PySem.W.ktu_apart s1.heap.objs.size a b la lb), ⟨hz, hTI, ⟨_, _, hTO⟩, SI.new h1, SI.new h2⟩, fun c hcm => ?_, q⟩
      have e' : c = s1.heap.objs.size + 4 ∨ c = s1.heap.objs.size + 2 ∨ c = s1.heap.objs.size + 3 ∨ c = s1.heap.objs.size ∨ c = s1.heap.objs.size + 1 := by simpa using hcm
      have hle : s1.heap.objs.size ≤ c := by
        rcases e' with z | z | z | z | z <;> (rw [z]; first | exact Nat.le_add_right _ _ | exact Nat.le_refl _)
      exact I1.fpOk hle (I1.hok.fresh hle)

def ItZ3 (k1 k2 k3 : Bool) (a b c : Addr) : It :=
  ⟨fun i H => ∃ xs ys zs : List V, H a = some (hoK k1 xs) ∧ H b = some (hoK k2 ys) ∧ H c = some (hoK k3 zs) ∧ i < xs.length ∧ i < ys.length ∧ i < zs.length,
    fun i H v H' => ∃ T x y z, v = .ref T ∧ H T = none ∧ H' = upd H T (.tup [x, y, z]) ∧ (∀ xs, H a = some (hoK k1 xs) → xs[i]? = some x) ∧ (∀ ys, H b = some (hoK k2 ys) → ys[i]? = some y) ∧ ∀ zs, H c = some (hoK k3 zs) → zs[i]? = some z,
    fun i H => ∃ xs ys zs : List V, H a = some (hoK k1 xs) ∧ H b = some (hoK k2 ys) ∧ H c = some (hoK k3 zs) ∧ i = min (min xs.length ys.length) zs.length⟩
structure Apart3 (n : Nat) (a b c : Addr) : Prop where
  la : a < n
  lb : b < n
  lc : c < n
theorem mem2 {x y z : Nat} (h1 : x ≠ y) (h2 : x ≠ z) : (x : Addr) ∉ ([y, z] : List Addr) := fun m => by
  rcases List.mem_cons.mp m with e | m
  · exact h1 e
  · rcases List.mem_cons.mp m with e | m
    · exact h2 e
    · cases m
theorem Apart3.sep {n a b c : Nat} (D : Apart3 n a b c) : ZipSep3 (n + 5) (n + 3) (n + 4) n (n + 1) (n + 2) [n, a] [n + 1, b] [n + 2, c] := by
  have la : @LT.lt Nat _ a n := D.la
  have lb : @LT.lt Nat _ b n := D.lb
  have lc : @LT.lt Nat _ c n := D.lc
  constructor <;> first
    | exact List.mem_cons_self
    | exact mem2 (by omega) (by omega)
    | (refine PySem.W.neN ?_; omega)
theorem turn_z3 {P : Program} {w : World} {K : PySem.W.Frag} {elts : List Expr} {kk : Nat} {tpos : Pos} {k1 k2 k3 : Bool} {n a b c : Addr} (D : Apart3 n a b c) :
    Turn P w K (.Tuple elts kk tpos) (ItZ3 k1 k2 k3 a b c) [n + 5, n + 3, n + 4, n, n + 1, n + 2] (n + 5) (fun i h => IsZip h (n + 5) (n + 3) (n + 4) .none ∧ IsTupOf3 h (n + 3) (.ref n) (.ref (n + 1)) (.ref (n + 2)) ∧ (∃ x y z, IsTupOf3 h (n + 4) x y z) ∧ SI k1 h n a i ∧ SI k2 h (n + 1) b i ∧ SI k3 h (n + 2) c i) where
  mem := by simp
  obj := fun i h st d hd => by
    obtain ⟨hz, hTI, ⟨x, y, z, hTO⟩, h1, h2, h3⟩ := st
    have e' : d = n + 5 ∨ d = n + 3 ∨ d = n + 4 ∨ d = n ∨ d = n + 1 ∨ d = n + 2 := by simpa using hd
    rcases e' with q | q | q | q | q | q
    · rw [q]; exact ⟨_, hz, fun v q => nomatch q⟩
    · rw [q]; exact ⟨_, hTI, fun v q => nomatch q⟩
    · rw [q]; exact ⟨_, hTO, fun v q => nomatch q⟩
    · rw [q]; exact h1.obj
    · rw [q]; exact h2.obj
    · rw [q]; exact h3.obj
  keep := fun i h h' st k => by
    obtain ⟨hz, hTI, ⟨x, y, z, hTO⟩, h1, h2, h3⟩ := st
    exact ⟨k _ (by simp) _ hz, k _ (by simp) _ hTI, ⟨x, y, z, k _ (by simp) _ hTO⟩, h1.at fun o q => k _ (by simp) o q, h2.at fun o q => k _ (by simp) o q, h3.at fun o q => k _ (by simp) o q⟩
  item := by
    intro X hP hw hK hc i pins s σ H E I hf st hg
    subst hP hw hK
    obtain ⟨hz, hTI, hTO, h1, h2, h3⟩ := st
    obtain ⟨xs, ys, zs, ha, hb, hcc, hx, hy, hzz⟩ := hg
    obtain ⟨its, rv, p, la⟩ := seqAt I ha
    obtain ⟨its2, rv2, p2, lb⟩ := seqAt I hb
    obtain ⟨its3, rv3, p3, lc⟩ := seqAt I hcc
    have hh := I.ok.hd hc
    have W := GoesN.zip3 (elts := elts) (x1 := kk) (pos := tpos) D.sep
      (draws_SI (prog := X.prog) (w := X.w) (A := X.A.in1) k1 hh n a (Nat.ne_of_lt D.la) its.toArray) (draws_SI (prog := X.prog) (w := X.w) (A := X.A.in1) k2 hh (n + 1) b (Nat.ne_of_lt (Nat.lt_succ_of_lt D.lb)) its2.toArray) (draws_SI (prog := X.prog) (w := X.w) (A := X.A.in1) k3 hh (n + 2) c (Nat.ne_of_lt (Nat.lt_succ_of_lt (Nat.lt_succ_of_lt D.lc))) its3.toArray)
    have l1 := rv.length
    have l2 := rv2.length
    have l3 := rv3.length
    refine thn (W.goes i s (fun v s2 => ∃ x H', Inv X pins σ H' s2 ∧ RelV x v ∧ (ItZ3 k1 k2 k3 a b c).yld i H x H' ∧ (IsZip s2.heap (n + 5) (n + 3) (n + 4) .none ∧ IsTupOf3 s2.heap (n + 3) (.ref n) (.ref (n + 1)) (.ref (n + 2)) ∧ (∃ x y z, IsTupOf3 s2.heap (n + 4) x y z) ∧ SI k1 s2.heap n a (i + 1) ∧ SI k2 s2.heap (n + 1) b (i + 1) ∧ SI k3 s2.heap (n + 2) c (i + 1)) ∧ ∀ c ∈ [n + 5, n + 3, n + 4, n, n + 1, n + 2], H' c = none) E (by simp; omega) ⟨hz, hTI, hTO, ⟨h1, p⟩, ⟨h2, p2⟩, ⟨h3, p3⟩⟩ fun v h' tk hY st' hk _ => ?_) fun r s1 q => q
    obtain ⟨T, u1, u2, u3, rfl, hT, e1, e2, e3, hTup⟩ := hY
    obtain ⟨hz', hTI', hTO', ⟨h1', _⟩, ⟨h2', _⟩, ⟨h3', _⟩⟩ := st'
    have e1 : its[i]? = some u1 := by simpa using e1
    have e2 : its2[i]? = some u2 := by simpa using e2
    have e3 : its3[i]? = some u3 := by simpa using e3
    have gx : xs[i]? = some xs[i] := by simp [hx]
    have gy : ys[i]? = some ys[i] := by simp [hy]
    have gz : zs[i]? = some zs[i] := by simp [hzz]
    obtain ⟨u1', f1, r1⟩ := rv.get gx
    obtain ⟨u2', f2, r2⟩ := rv2.get gy
    obtain ⟨u3', f3, r3⟩ := rv3.get gz
    rw [e1] at f1
    cases f1
    rw [e2] at f2
    cases f2
    rw [e3] at f3
    cases f3
    have new : ObjOk X.prog X.w (upd H T (.tup [xs[i], ys[i], zs[i]])) h' T (.tup [xs[i], ys[i], zs[i]]) := ⟨by show 3 ≤ sizeLine; decide, [u1, u2, u3], .cons r1 (.cons r2 (.cons r3 .nil)), hTup⟩
    have I1 : Inv X pins σ (upd H T (.tup [xs[i], ys[i], zs[i]])) { s with heap := h', toks := tk } := I.turnedNew (ch := [n + 5, n + 3, n + 4, n, n + 1, n + 2]) (fun c o hcm q => hk c o (fun m => hcm (by simp at m ⊢; rcases m with m | m | m | m | m <;> simp [m])) q) hf hT new
    refine ⟨.ref T, _, I1, rfl, ⟨T, _, _, _, rfl, I.hok.fresh hT, rfl, fun l hl => ?_, fun l hl => ?_, fun l hl => ?_⟩, ⟨hz', hTI', hTO', h1', h2', h3'⟩, fun c hcm => ?_⟩
    · rw [ha] at hl
      rw [← hoK_inj (Option.some.inj hl)]
      exact gx
    · rw [hb] at hl
      rw [← hoK_inj (Option.some.inj hl)]
      exact gy
    · rw [hcc] at hl
      rw [← hoK_inj (Option.some.inj hl)]
      exact gz
    · have hlt : c < s.heap.objs.size := by
        have e' : c = n + 5 ∨ c = n + 3 ∨ c = n + 4 ∨ c = n ∨ c = n + 1 ∨ c = n + 2 := by simpa using hcm
        rcases e' with q | q | q | q | q | q
        · rw [q]; exact Heap.lt_size hz
        · rw [q]; exact Heap.lt_size hTI
        · obtain ⟨_, _, _, hTO⟩ := hTO; rw [q]; exact Heap.lt_size hTO
        · rw [q]; obtain ⟨_, e, _⟩ := h1.obj; exact Heap.lt_size e
        · rw [q]; obtain ⟨_, e, _⟩ := h2.obj; exact Heap.lt_size e
        · rw [q]; obtain ⟨_, e, _⟩ := h3.obj; exact Heap.lt_size e
      rw [upd_ne (Nat.ne_of_lt (Nat.lt_of_lt_of_le hlt hT))]
      exact (hf c hcm).1
  done := by
    intro X hP hw hK hc i pins s σ H E I hf st hg
    subst hP hw hK
    obtain ⟨hz, hTI, hTO, h1, h2, h3⟩ := st
    obtain ⟨xs, ys, zs, ha, hb, hcc, hi⟩ := hg
    obtain ⟨its, rv, p, la⟩ := seqAt I ha
    obtain ⟨its2, rv2, p2, lb⟩ := seqAt I hb
    obtain ⟨its3, rv3, p3, lc⟩ := seqAt I hcc
    have hh := I.ok.hd hc
    have l1 := rv.length
    have l2 := rv2.length
    have l3 := rv3.length
    have W := GoesN.zip3 (elts := elts) (x1 := kk) (pos := tpos) D.sep
      (draws_SI (prog := X.prog) (w := X.w) (A := X.A.in1) k1 hh n a (Nat.ne_of_lt D.la) its.toArray) (draws_SI (prog := X.prog) (w := X.w) (A := X.A.in1) k2 hh (n + 1) b (Nat.ne_of_lt (Nat.lt_succ_of_lt D.lb)) its2.toArray) (draws_SI (prog := X.prog) (w := X.w) (A := X.A.in1) k3 hh (n + 2) c (Nat.ne_of_lt (Nat.lt_succ_of_lt (Nat.lt_succ_of_lt D.lc))) its3.toArray)
    have ei : i = min (min its.toArray.size its2.toArray.size) its3.toArray.size := by simp; omega
    rw [ei] at h1 h2 h3
    refine W.stops s _ E ⟨hz, hTI, hTO, ⟨h1, p⟩, ⟨h2, p2⟩, ⟨h3, p3⟩⟩ fun h' tk hk _ => I.turnedL (ch := [n + 5, n + 3, n + 4, n, n + 1, n + 2]) (fun c o hcm q => hk c o (fun m => hcm (by simp at m ⊢; rcases m with m | m | m | m | m <;> simp [m])) q) hf
  self := fun A i s Q E st h => wpAny_pyIter_zip st.1 h
def iZ3 (k1 k2 k3 : Bool) (ta : TA) : TI := fun σ H R => ta σ H fun vs H1 => ∃ a b c xs ys zs, vs = [.ref a, .ref b, .ref c] ∧ H1 a = some (hoK k1 xs) ∧ H1 b = some (hoK k2 ys) ∧ H1 c = some (hoK k3 zs) ∧ R (ItZ3 k1 k2 k3 a b c) H1
theorem pi_z3 {e e2 e3 : Expr} {ta : TA} {p pos tpos : Pos} {elts : List Expr} {kk : Nat} (k1 k2 k3 : Bool) (hg : Gl X "zip") (hm : X.mg "zip" = none) (ha : PA X [e, e2, e3] ta)
    (hs : starEach [e, e2, e3] X.env = (false, eval e X.env) :: starEach [e2, e3] X.env := by rfl) (hpl : (backTo pos (starEach [e2, e3] X.env)).any (·.1) = false := by rfl) :
    PI X (.Tuple elts kk tpos) (.Call (.Name "zip" p) [e, e2, e3] [] pos) (iZ3 k1 k2 k3 ta) := by
  refine ⟨fun pins s σ H R I h => ?_⟩
  refine Call_ (ld_blt I hg hm PyProof.Rows.boot_zip (PyProof.Rows.callWith_type1 (thn (ha.run pos pins s σ H _ I h) fun us s1 ⟨vs, H1, I1, r1, q1⟩ => ?_) hs hpl))
  obtain ⟨a, b, c, xs, ys, zs, ex, hx, hy, hz0, q⟩ := q1
  subst ex
  cases r1 with
  | cons r rr =>
    cases rr with
    | cons r' rr =>
      cases rr with
      | cons r'' rr =>
        cases rr
        cases r
        cases r'
        cases r''
        obtain ⟨its, rv, p1, la⟩ := seqAt I1 hx
        obtain ⟨its2, rv2, p2, lb⟩ := seqAt I1 hy
        obtain ⟨its3, rv3, p3, lc⟩ := seqAt I1 hz0
        refine zip_begins3 (begins_SI k1 a its.toArray) (begins_SI k2 b its2.toArray) (begins_SI k3 c its3.toArray) p1 p2 p3 fun h' hz hTI hTO h1 h2 h3 hsz hk => wpAny_pyIter_zip hz ?_
        have I2 : Inv X pins σ H1 { s1 with heap := h' } := I1.kept (t' := s1.toks) hk
        refine ⟨s1.heap.objs.size + 5, [s1.heap.objs.size + 5, s1.heap.objs.size + 3, s1.heap.objs.size + 4, s1.heap.objs.size, s1.heap.objs.size + 1, s1.heap.objs.size + 2], _, _, H1, rfl, I2, turn_z3 ⟨la, lb, lc⟩, ⟨hz, hTI, ⟨_, _, _, hTO⟩, SI.new h1, SI.new h2, SI.new h3⟩, fun d hdm => ?_, q⟩
        have e' : d = s1.heap.objs.size + 5 ∨ d = s1.heap.objs.size + 3 ∨ d = s1.heap.objs.size + 4 ∨ d = s1.heap.objs.size ∨ d = s1.heap.objs.size + 1 ∨ d = s1.heap.objs.size + 2 := by simpa using hdm
        have hle : s1.heap.objs.size ≤ d := by
          rcases e' with z | z | z | z | z | z <;> (rw [z]; first | exact Nat.le_add_right _ _ | exact Nat.le_refl _)
        exact I1.fpOk hle (I1.hok.fresh hle)
end
end DL

set_option maxHeartbeats 4000000
namespace DL
open PySem PySem.Spec PyProof.Rows L2
variable [TabT] [OldT]
open Evl (Ex)
/-! ### t[::-1] of a tuple -/
section
variable {prog : Program} {w : World} {A : Around} {E : Value → Shared → Prop} {s : Shared}
theorem sliceApplied_rev {sl : Addr} {vl vu vs : Value} {n : Nat} {Q : Int × Int × Nat → Shared → Prop} (hs : s.heap.IsSliceOf sl vl vu vs) (pl : IsPart vl none) (pu : IsPart vu none) (ps : IsPart vs (some (-1)))
    (h : Q ((n : Int) - 1, -1, n) s) : wpAny (model prog w) A (Builtin.Slice.sliceApplied (.ref sl) (pure (n : Int))) Q E s := by
  obtain ⟨os, hos, hcs, hds⟩ := id hs
  unfold Builtin.Slice.sliceApplied Builtin.Slice.sliceFields
  refine wpAny_bind (wpAny_bind (wpAny_field hos hds (x := vl) rfl (wpAny_bind (wpAny_field hos hds (x := vu) rfl (wpAny_bind (wpAny_field hos hds (x := vs) rfl (wpAny_pure ?_)))))))
  refine wpAny_bind (HT.slicePart_ ps ?_)
  show wpAny _ _ (if ((-1 : Int) == 0) = true then _ else _) _ _ s
  rw [if_neg (by decide)]
  refine wpAny_bind (HT.slicePart_ pl (wpAny_bind (HT.slicePart_ pu (wpAny_bind (wpAny_pure ?_)))))
  show wpAny _ _ (match Builtin.Slice.sliceAdjust none none (-1) (n : Int) with | (lo, hi) => pure (lo, (-1 : Int), Builtin.Slice.slicePlaces lo hi (-1))) _ _ s
  have e1 : Builtin.Slice.sliceAdjust none none (-1) (n : Int) = ((n : Int) - 1, -1) := by
    unfold Builtin.Slice.sliceAdjust
    simp
  rw [e1]
  have e2 : Builtin.Slice.slicePlaces ((n : Int) - 1) (-1) (-1) = n := by
    unfold Builtin.Slice.slicePlaces
    simp
    split <;> omega
  show wpAny _ _ (pure ((n : Int) - 1, (-1 : Int), Builtin.Slice.slicePlaces ((n : Int) - 1) (-1) (-1))) _ _ s
  rw [e2]
  exact wpAny_pure h
theorem pick_rev (xs : Array Value) : ((List.range xs.size).filterMap fun (m : Nat) => xs[(((xs.size : Int) - 1) + (m : Int) * (-1)).toNat]?).toArray = xs.toList.reverse.toArray := by
  congr 1
  have e : (List.range xs.size).filterMap (fun (m : Nat) => xs[(((xs.size : Int) - 1) + (m : Int) * (-1)).toNat]?) = ((List.range xs.size).map fun k => xs.size - 1 - k).filterMap (xs[·]?) := by
    rw [List.filterMap_map]
    have key : ∀ l : List Nat, (∀ m ∈ l, m < xs.size) → l.filterMap (fun (m : Nat) => xs[(((xs.size : Int) - 1) + (m : Int) * (-1)).toNat]?) = l.filterMap ((xs[·]?) ∘ fun k => xs.size - 1 - k) := by
      intro l
      induction l with
      | nil => intro _; rfl
      | cons m l ih =>
        intro hl
        have hm := hl m List.mem_cons_self
        have e2 : (((xs.size : Int) - 1) + (m : Int) * (-1)).toNat = xs.size - 1 - m := by omega
        rw [List.filterMap_cons, List.filterMap_cons, ih fun k hk => hl k (List.mem_cons_of_mem _ hk), e2]
        rfl
    exact key _ fun m hm => List.mem_range.mp hm
  rw [e, PySem.W.krv_range, List.filterMap_reverse, PySem.W.krv_all]
theorem getItem_tuple_rev {t sl : Addr} {items : Array Value} {vl vu vs : Value} {Q : Value → Shared → Prop} (ht : IsTup s.heap t items) (hs : s.heap.IsSliceOf sl vl vu vs) (pl : IsPart vl none) (pu : IsPart vu none) (ps : IsPart vs (some (-1)))
    (h : Q (.ref s.heap.objs.size) { s with heap := s.heap.push { cls := .type "tuple", data := .seq items.toList.reverse.toArray } })
    (hsz : items.size ≤ sizeLine) : wpAny (model prog w) A (getItem (.ref t) (.ref sl)) Q E s := by
  have htake : sizeOk (.seq items.toList.reverse.toArray) := by
    show items.toList.reverse.toArray.size ≤ sizeLine
    rw [List.size_toArray, List.length_reverse, Array.length_toList]
    exact hsz
  obtain ⟨os, hos, hcs, hds⟩ := id hs
  have hTs : s.TypeIs (.ref sl) "slice" := ⟨os, hos, hcs⟩
  unfold getItem
  try with_reducible refine wpAny_holding ?_
  first | refine wpAny_bind (wpAny_pure ?_) | skip
  refine wpAny_bind (wpAny_sequenceKey ht.typeIs (by decide) ?_)
  refine wpAny_bind (wpAny_callSpecial?_slot (name := Str.ofString "__getitem__") ht.typeIs PyProof.Rows.slot_tuple_getitem
    (wpAny_call_entry PyProof.Rows.slot_tuple_getitem ht.typeIs entry_tuple_getitem ?_ (args_tuple_getitem _ _)))
  show wpAny _ _ (Builtin.Tuple.tupleItemsOf (.ref t) >>= _) _ _ s
  refine wpAny_bind (tupleItemsOf_ ht ?_)
  refine wpAny_bind (wpAny_typeOf hTs ?_)
  rw [if_pos (by decide)]
  refine wpAny_bind (sliceApplied_rev hs pl pu ps ?_)
  have hno : ¬ ((((items.size : Int) - 1) == 0 && (-1 : Int) == 1 && items.size == items.size) = true) := by
    intro q
    rw [Bool.and_eq_true, Bool.and_eq_true] at q
    have q1 := q.1.2
    revert q1
    decide
  show wpAny _ _ (if (((items.size : Int) - 1) == 0 && (-1 : Int) == 1 && items.size == items.size) = true then _ else _) _ _ s
  rw [if_neg hno, pick_rev]
  first
    | exact wpAny_bind (m := Builtin.Tuple.tupleExact _) (wpAny_newObj_type (wpAny_pure ⟨_, rfl, wpAny_pure h⟩) htake)
    | exact wpAny_bind (m := Builtin.Tuple.tupleExact _) (wpAny_newObj_type (wpAny_bind (wpAny_pure (wpAny_pure ⟨_, rfl, wpAny_pure h⟩))) htake)
    | exact wpAny_bind (wpAny_bind (m := Builtin.Tuple.tupleExact _) (wpAny_newObj_type (wpAny_pure (wpAny_pure ⟨_, rfl, wpAny_pure h⟩)) htake))
    | exact wpAny_bind (wpAny_bind (m := Builtin.Tuple.tupleExact _) (wpAny_newObj_type (wpAny_pure ⟨_, rfl, wpAny_pure h⟩) htake))
end
def tRevT (K : PySem.W.Frag) (te : TE) : TE := fun σ H Q => te σ H fun x H1 => ∃ a xs, x = .ref a ∧ SqT K H1 a xs ∧ ∀ p, H1 p = none → Q (.ref p) (upd H1 p (.tup xs.reverse))
theorem pe_revT {X : Cx} {e : Expr} {te : TE} {k : Nat} {p1 p2 p3 pos : Pos} (he : PE X e te) : PE X (.Subscript e (.Slice none none (some (.UnaryOp .USub (.Constant (.int 1) k p1) p2)) p3) pos) (tRevT X.K te) := by
  refine ⟨fun pins s σ H Q I h => ?_⟩
  refine Subscript_ (thn (he.run pins s σ H _ I h) fun v s1 ⟨x, H1, I1, r1, q1⟩ => ?_)
  obtain ⟨a, xs, ex, hx, q⟩ := q1
  subst ex
  cases r1
  have hst : PO X (some (.UnaryOp .USub (.Constant (.int 1) k p1) p2)) (tPart (tUn (rU fun i => .int (-i)) (tC (.int 1)))) := po_some (pe_un un_neg pe_int)
  refine wpAny_Slice (thn (po_none.run pins s1 σ H1 (fun o H2 => o = none ∧ H2 = H1) I1 ⟨rfl, rfl⟩) fun vl s2 ⟨l, H2, I2, pl, el, e2⟩ => ?_)
  subst el e2
  refine thn (po_none.run pins s2 σ H2 (fun o H3 => o = none ∧ H3 = H2) I2 ⟨rfl, rfl⟩) fun vu s3 ⟨u, H3, I3, pu, eu, e3⟩ => ?_
  subst eu e3
  refine thn (hst.run pins s3 σ H3 (fun o H4 => o = some (-1) ∧ H4 = H3) I3 ⟨1, rfl, -1, rfl, rfl, rfl⟩) fun vs s4 ⟨o, H4, I4, ps, eo, e4⟩ => ?_
  subst eo e4
  have I5 : Inv X pins σ H4 { s4 with heap := s4.heap.push { cls := .type "slice", data := .fields #[vl, vu, vs] } } := I4.kept (t' := s4.toks) fun b ob q => Heap.get?_push_of_some _ q
  obtain ⟨its, r, ht, hz⟩ := I5.tuple hx
  have hlen := r.length
  show wpAny (model X.prog X.w) X.A (subscriptTail e (.Slice none none (some (.UnaryOp .USub (.Constant (.int 1) k p1) p2)) p3) (.ref a) (.ref s4.heap.objs.size)) (EP X pins σ Q) X.xe { s4 with heap := s4.heap.push { cls := .type "slice", data := .fields #[vl, vu, vs] } }
  refine tail_any (ops := [.ref a, .ref s4.heap.objs.size]) ht.typeIs (PyProof.Rows.slot_tuple_getitem.lookup) ?_ (by with_unfolding_all rfl)
  refine getItem_tuple_rev ht (Heap.IsSliceOf.new _ vl vu vs) pl pu ps ?_ (by rw [List.size_toArray]; omega)
  refine ⟨.ref _, _, I5.laid (t' := s4.toks) (o := .tup xs.reverse) (fun b ob q => Heap.get?_push_of_some _ q) (Nat.le_refl _) ?_, rfl, q _ (I5.hok.fresh (Nat.le_refl _))⟩
  exact ⟨by rw [List.length_reverse]; exact hz, its.reverse, r.reverse, IsTup.new _ _⟩
section
variable {X : Cx} {mg : Str → Option Value} {W : WX} {tg it a b c e : Expr} {es : List Expr} {pos : Pos} {σ : L2.St} {H : Hp} {wa : Addr} {Hf : Hp} {A : DE}
def eRev (A : DE) : DE := fun s w => (A s w).bind fun x w1 => match x with
  | .lst xs => .ok (.lst xs.reverse) w1
  | .tup xs => .ok (.tup xs.reverse) w1
  | _ => .no
theorem pd_rev {k : Nat} {p1 p2 p3 : Pos} (ha : PE X a (lE mg W A)) : PE X (.Subscript a (.Slice none none (some (.UnaryOp .USub (.Constant (.int 1) k p1) p2)) p3) pos) (lE mg W (eRev A)) := weakE (orE (pe_revL ha) (pe_revT ha)) fun σ H Q h => by
  obtain ⟨wa, Hf, sD, w, hb, hs, h⟩ := h
  unfold eRev at h
  cases ea : A sD w with
  | ok x w1 =>
    rw [ea, R.bind_ok] at h
    cases x with
    | lst xs =>
      refine .inl ⟨wa, Hf, sD, w, hb, hs, ?_⟩
      rw [ea]
      intro H1 Hf1 g b v rv
      cases rv with
      | lst h1 r1 =>
        refine ⟨_, _, rfl, SqL.of (b.ex _ _ h1), fun p hp => ?_⟩
        exact h _ _ (g.trans (Go.newF b.ex hp)) (b.newF hp) _ (.lst upd_same (r1.reverse.mono (Ex.new (Evl.fresh_back b.ex hp))))
    | tup xs =>
      refine .inr ⟨wa, Hf, sD, w, hb, hs, ?_⟩
      rw [ea]
      intro H1 Hf1 g b v rv
      cases rv with
      | tup h1 r1 =>
        refine ⟨_, _, rfl, SqT.of (b.ex _ _ h1), fun p hp => ?_⟩
        exact h _ _ (g.trans (Go.newF b.ex hp)) (b.newF hp) _ (.tup upd_same (r1.reverse.mono (Ex.new (Evl.fresh_back b.ex hp))))
    | _ => exact h.elim
  | er x w1 =>
    rw [ea] at h
    refine .inl ⟨wa, Hf, sD, w, hb, hs, ?_⟩
    rw [ea]
    exact h
  | no => rw [ea] at h; exact h.elim

/-! ### zip -/
def seqD : D → Option (Bool × List D)
  | .lst xs => some (false, xs)
  | .tup xs => some (true, xs)
  | _ => none
theorem seqD_rep {v : V} {d : D} {k : Bool} {xs : List D} (r : Rep wa Hf v d) (h : seqD d = some (k, xs)) : ∃ a vs, v = .ref a ∧ Hf a = some (hoK k vs) ∧ Reps wa Hf vs xs := by
  unfold seqD at h
  split at h
  · cases h
    cases r with
    | lst h1 r1 => exact ⟨_, _, rfl, h1, r1⟩
  · cases h
    cases r with
    | tup h1 r1 => exact ⟨_, _, rfl, h1, r1⟩
  · cases h
def zipD (xs ys : List D) : List D := (xs.zip ys).map fun p => .tup [p.1, p.2]
def zip3D (xs ys zs : List D) : List D := (xs.zip (ys.zip zs)).map fun p => .tup [p.1, p.2.1, p.2.2]
theorem walkD_z2 {k1 k2 : Bool} {p q : Addr} {vs us : List V} {ds es : List D} (h1 : Hf p = some (hoK k1 vs)) (h2 : Hf q = some (hoK k2 us)) (r1 : Reps wa Hf vs ds) (r2 : Reps wa Hf us es) : WalkD wa Hf (ItZ2 k1 k2 p q) (zipD ds es) := by
  have l1 := r1.length
  have l2 := r2.length
  refine ⟨fun i H hi x => ⟨vs, us, x _ _ h1, x _ _ h2, ?_, ?_⟩, fun H x => ⟨vs, us, x _ _ h1, x _ _ h2, by simp [zipD]; omega⟩, fun i H Hf1 w y H' d hd x b z => ?_⟩
  · simp [zipD] at hi; omega
  · simp [zipD] at hi; omega
  · obtain ⟨T, u, v, rfl, hT, rfl, q1, q2⟩ := z
    unfold zipD at hd
    rw [List.getElem?_map] at hd
    cases e : (ds.zip es)[i]? with
    | none => rw [e] at hd; cases hd
    | some pr =>
      rw [e] at hd
      cases hd
      rw [List.getElem?_zip_eq_some] at e
      obtain ⟨u1, f1, s1⟩ := (r1.mono x).get e.1
      obtain ⟨u2, f2, s2⟩ := (r2.mono x).get e.2
      have g1 := q1 vs (b.ex _ _ (x _ _ h1))
      have g2 := q2 us (b.ex _ _ (x _ _ h2))
      rw [f1] at g1
      rw [f2] at g2
      cases g1
      cases g2
      have nx := Ex.new (o := HO.tup [u, v]) (Evl.fresh_back b.ex hT)
      exact ⟨_, Go.newF b.ex hT, b.newF hT, .tup upd_same (.cons (s1.mono nx) (.cons (s2.mono nx) .nil))⟩
theorem walkD_z3 {k1 k2 k3 : Bool} {p q o : Addr} {vs us ts : List V} {ds es fs : List D} (h1 : Hf p = some (hoK k1 vs)) (h2 : Hf q = some (hoK k2 us)) (h3 : Hf o = some (hoK k3 ts)) (r1 : Reps wa Hf vs ds) (r2 : Reps wa Hf us es) (r3 : Reps wa Hf ts fs) : WalkD wa Hf (ItZ3 k1 k2 k3 p q o) (zip3D ds es fs) := by
  have l1 := r1.length
  have l2 := r2.length
  have l3 := r3.length
  refine ⟨fun i H hi x => ⟨vs, us, ts, x _ _ h1, x _ _ h2, x _ _ h3, ?_, ?_, ?_⟩, fun H x => ⟨vs, us, ts, x _ _ h1, x _ _ h2, x _ _ h3, by simp [zip3D]; omega⟩, fun i H Hf1 w y H' d hd x b z => ?_⟩
  · simp [zip3D] at hi; omega
  · simp [zip3D] at hi; omega
  · simp [zip3D] at hi; omega
  · obtain ⟨T, u, v, t, rfl, hT, rfl, q1, q2, q3⟩ := z
    unfold zip3D at hd
    rw [List.getElem?_map] at hd
    cases e : (ds.zip (es.zip fs))[i]? with
    | none => rw [e] at hd; cases hd
    | some pr =>
      rw [e] at hd
      cases hd
      rw [List.getElem?_zip_eq_some, List.getElem?_zip_eq_some] at e
      obtain ⟨u1, f1, s1⟩ := (r1.mono x).get e.1
      obtain ⟨u2, f2, s2⟩ := (r2.mono x).get e.2.1
      obtain ⟨u3, f3, s3⟩ := (r3.mono x).get e.2.2
      have g1 := q1 vs (b.ex _ _ (x _ _ h1))
      have g2 := q2 us (b.ex _ _ (x _ _ h2))
      have g3 := q3 ts (b.ex _ _ (x _ _ h3))
      rw [f1] at g1
      rw [f2] at g2
      rw [f3] at g3
      cases g1
      cases g2
      cases g3
      have nx := Ex.new (o := HO.tup [u, v, t]) (Evl.fresh_back b.ex hT)
      exact ⟨_, Go.newF b.ex hT, b.newF hT, .tup upd_same (.cons (s1.mono nx) (.cons (s2.mono nx) (.cons (s3.mono nx) .nil)))⟩
theorem anyI {κ : Type} {t : κ → TI} (h : ∀ k, PI X tg it (t k)) : PI X tg it (fun σ H R => ∃ k, t k σ H R) := ⟨fun pins s σ H R I ⟨k, q⟩ => (h k).run pins s σ H R I q⟩
def iZip (As : DA) : DI := fun s w => (As s w).bind fun xs w1 => match xs with
  | [x, y] => match seqD x, seqD y with
    | some (_, ds), some (_, es) => .ok (zipD ds es) w1
    | _, _ => .no
  | [x, y, z] => match seqD x, seqD y, seqD z with
    | some (_, ds), some (_, es), some (_, fs) => .ok (zip3D ds es fs) w1
    | _, _, _ => .no
  | _ => .no
theorem id_zip2 {As : DA} {p tpos : Pos} {elts : List Expr} {kk : Nat} (hg : Gl X "zip") (hm : X.mg "zip" = none) (ha : PA X [a, b] (lA mg W (aCons A As))) (hl : ∀ s w x w1, (aCons A As s w) = .ok x w1 → x.length = 2)
    (hs : starEach [a, b] X.env = (false, eval a X.env) :: starEach [b] X.env := by rfl) (hpl : (backTo pos (starEach [b] X.env)).any (·.1) = false := by rfl) : PI X (.Tuple elts kk tpos) (.Call (.Name "zip" p) [a, b] [] pos) (lI mg W (iZip (aCons A As))) :=
  weakI (anyI fun k : Bool × Bool => pi_z2 k.1 k.2 hg hm ha hs hpl) fun σ H Q h => by
  obtain ⟨wa, Hf, sD, w, hb, hs, h⟩ := h
  unfold iZip at h
  cases ea : aCons A As sD w with
  | ok ds w1 =>
    rw [ea, R.bind_ok] at h
    have h2 := hl _ _ _ _ ea
    obtain ⟨x, y, rfl⟩ : ∃ x y, ds = [x, y] := by
      match ds, h2 with
      | [x, y], _ => exact ⟨x, y, rfl⟩
    dsimp only at h
    split at h
    · rename_i k1 ds k2 es e1 e2
      refine ⟨(k1, k2), wa, Hf, sD, w, hb, hs, ?_⟩
      rw [ea]
      intro H1 Hf1 g b v rv
      cases rv with
      | cons r1 r2 =>
        cases r2 with
        | cons r2 r3 =>
          cases r3
          obtain ⟨p1, vs, rfl, h1, s1⟩ := seqD_rep r1 e1
          obtain ⟨p2, us, rfl, h2, s2⟩ := seqD_rep r2 e2
          exact ⟨p1, p2, vs, us, rfl, b.ex _ _ h1, b.ex _ _ h2, h H1 Hf1 g b _ (walkD_z2 h1 h2 s1 s2)⟩
    · exact h.elim
  | er x w1 =>
    rw [ea] at h
    refine ⟨(true, true), wa, Hf, sD, w, hb, hs, ?_⟩
    rw [ea]
    exact h
  | no => rw [ea] at h; exact h.elim
theorem id_zip3 {As : DA} {p tpos : Pos} {elts : List Expr} {kk : Nat} (hg : Gl X "zip") (hm : X.mg "zip" = none) (ha : PA X [a, b, c] (lA mg W (aCons A As))) (hl : ∀ s w x w1, (aCons A As s w) = .ok x w1 → x.length = 3)
    (hs : starEach [a, b, c] X.env = (false, eval a X.env) :: starEach [b, c] X.env := by rfl) (hpl : (backTo pos (starEach [b, c] X.env)).any (·.1) = false := by rfl) : PI X (.Tuple elts kk tpos) (.Call (.Name "zip" p) [a, b, c] [] pos) (lI mg W (iZip (aCons A As))) :=
  weakI (anyI fun k : Bool × Bool × Bool => pi_z3 k.1 k.2.1 k.2.2 hg hm ha hs hpl) fun σ H Q h => by
  obtain ⟨wa, Hf, sD, w, hb, hs, h⟩ := h
  unfold iZip at h
  cases ea : aCons A As sD w with
  | ok ds w1 =>
    rw [ea, R.bind_ok] at h
    have h2 := hl _ _ _ _ ea
    obtain ⟨x, y, z, rfl⟩ : ∃ x y z, ds = [x, y, z] := by
      match ds, h2 with
      | [x, y, z], _ => exact ⟨x, y, z, rfl⟩
    dsimp only at h
    split at h
    · rename_i k1 ds k2 es k3 fs e1 e2 e3
      refine ⟨(k1, k2, k3), wa, Hf, sD, w, hb, hs, ?_⟩
      rw [ea]
      intro H1 Hf1 g b v rv
      cases rv with
      | cons r1 r2 =>
        cases r2 with
        | cons r2 r3 =>
          cases r3 with
          | cons r3 r4 =>
            cases r4
            obtain ⟨p1, vs, rfl, h1, s1⟩ := seqD_rep r1 e1
            obtain ⟨p2, us, rfl, h2, s2⟩ := seqD_rep r2 e2
            obtain ⟨p3, ts, rfl, h3, s3⟩ := seqD_rep r3 e3
            exact ⟨p1, p2, p3, vs, us, ts, rfl, b.ex _ _ h1, b.ex _ _ h2, b.ex _ _ h3, h H1 Hf1 g b _ (walkD_z3 h1 h2 h3 s1 s2 s3)⟩
    · exact h.elim
  | er x w1 =>
    rw [ea] at h
    refine ⟨(true, true, true), wa, Hf, sD, w, hb, hs, ?_⟩
    rw [ea]
    exact h
  | no => rw [ea] at h; exact h.elim
/-- an argument list has so many values -/
theorem aNil_len {s : Sl} {w w1 : Wl} {x : List D} (h : aNil s w = .ok x w1) : x.length = 0 := by cases h; rfl
theorem aCons_len {n : Nat} {As : DA} (hr : ∀ s w x w1, As s w = .ok x w1 → x.length = n) : ∀ s w x w1, (aCons A As s w) = .ok x w1 → x.length = n + 1 := fun s w x w1 h => by
  unfold aCons at h
  cases e : A s w with
  | ok d w2 =>
    rw [e, R.bind_ok] at h
    cases e2 : As s w2 with
    | ok ds w3 =>
      rw [e2, R.bind_ok] at h
      cases h
      simp [hr _ _ _ _ e2]
    | er y w3 => rw [e2] at h; cases h
    | no => rw [e2] at h; cases h
  | er y w2 => rw [e] at h; cases h
  | no => rw [e] at h; cases h

/-! ### calls by names -/
def permute {α : Type} (π : List Nat) (xs : List α) : List α := π.filterMap fun i => xs[i]?
theorem permute_reps {vs : List V} {ds : List D} (r : Reps wa Hf vs ds) : ∀ π : List Nat, Reps wa Hf (permute π vs) (permute π ds)
  | [] => .nil
  | i :: π => by
    have ih := permute_reps r π
    unfold permute at ih ⊢
    rw [List.filterMap_cons, List.filterMap_cons]
    cases e : ds[i]? with
    | none =>
      have e2 : vs[i]? = none := by
        rw [List.getElem?_eq_none_iff] at e ⊢
        rw [r.length]; exact e
      rw [e2]
      exact ih
    | some d =>
      obtain ⟨v, e2, r2⟩ := r.get e
      rw [e2]
      exact .cons r2 ih
theorem permute_vals {vs : List V} {us : List Value} (r : Vals vs us) : ∀ π : List Nat, Vals (permute π vs) (permute π us)
  | [] => .nil
  | i :: π => by
    have ih := permute_vals r π
    unfold permute at ih ⊢
    rw [List.filterMap_cons, List.filterMap_cons]
    cases e : vs[i]? with
    | none =>
      rw [r.none_of e]
      exact ih
    | some d =>
      obtain ⟨v, e2, r2⟩ := r.get e
      rw [e2]
      exact .cons r2 ih
/-- how keywords bind: all the n positional values, then those of the names ks, put in order by π -/
def KwB (fd : FuncData) (ps : List Str) (n : Nat) (ks : List Str) (π : List Nat) : Prop := ∀ us ws : List Value, us.length = n → ws.length = ks.length → bindArgs fd ⟨us, ks.zip ws⟩ = pure (ps.zip (permute π (us ++ ws)))
theorem KwB.kbn {K : PySem.W.Frag} {fd : FuncData} {ps ks : List Str} {n : Nat} {π : List Nat} (h : KwB fd ps n ks π) : KBn K fd ps n ks (fun us ws => permute π (us ++ ws)) (fun us ws => permute π (us ++ ws)) :=
  ⟨fun s us ws _ h1 h2 => .of_eq (h us ws h1 h2), fun r1 r2 => permute_vals (r1.append r2) π⟩
def eCallK (m n k : Nat) (π : List Nat) (F : DF) (As Ks : DA) : DE := fun s w => (As s w).bind fun ds w1 => (Ks s w1).bind fun zs w2 => if ds.length = n ∧ zs.length = k ∧ (permute π (ds ++ zs)).length = m then F (permute π (ds ++ zs)) w2 else .no
theorem kd_nil : PK X [] (lA mg W aNil) := ⟨fun pos pins s σ H Q I h => (pk_nil (X := X)).run pos pins s σ H Q I (by
  obtain ⟨wa, Hf, sD, w, hb, hs, h⟩ := h
  exact h.here hb _ .nil)⟩
theorem kd_cons {kws : List Keyword} {nm kpos} {As : DA} (ha : PE X e (lE mg W A)) (hr : PK X kws (lA mg W As)) : PK X (⟨nm, e, kpos⟩ :: kws) (lA mg W (aCons A As)) := ⟨fun pos pins s σ H Q I h => (pk_cons ha hr).run pos pins s σ H Q I (by
  obtain ⟨wa, Hf, sD, w, hb, hs, h⟩ := h
  refine ⟨wa, Hf, sD, w, hb, hs, h.bind.mono (fun x w1 H1 Hf1 g1 b1 q v rv => ?_) (fun _ _ _ _ _ _ q => q)⟩
  refine ⟨wa, Hf1, sD, w1, b1, hs.go g1, q.bind.mono (fun y w2 H2 Hf2 g2 b2 q2 v2 rv2 => ?_) (fun _ _ _ _ _ _ q => q)⟩
  exact q2.here b2 _ (.cons (rv.mono g2.ex) rv2))⟩
/-- f(k = v, ..), no positional values; what is raised goes to the wish -/
theorem run_fnW {k : Nat} {f : Addr} {fd : FuncData} {ps ks : List Str} {n : Nat} {F : DF} {W : WX} {pins : List (Addr × Obj)} {s : Shared} {Q : VK} {us ws : List Value} {vs zs : List V} {π : List Nat} (G : FnD X.prog X.w X.K X.mg X.base k f fd ps F) (hr : Room k X.A) (hb : KwB fd ps n ks π) (hx : Wok X W)
    (I : Inv X pins σ H s) (r : Vals vs us) (rz : Vals zs ws) (l1 : vs.length = n) (l2 : zs.length = ks.length) (h : spD X.mg ps.length F (permute π (vs ++ zs)) H Q (WE W σ)) : wpAny (model X.prog X.w) X.A (call (.ref f) us (ks.zip ws)) (EP X pins σ Q) X.xe s := by
  have r2 := (hb.kbn (K := X.K)).rel r rz
  refine wpAny_call (codeAny_mono (G.run X.A X.stack s H ⟨us, ks.zip ws⟩ (permute π (us ++ ws)) (permute π (vs ++ zs)) Q (WE W σ) hr I.env0 ((hb.kbn (K := X.K)).to s us ws I.kIn (r.length.symm.trans l1) (rz.length.symm.trans l2)) r2 h) fun r s' hq => ?_)
  cases r with
  | error e => exact hx σ pins H s e s' I hq
  | ok fl =>
    cases fl with
    | ret u => exact I.after hq
    | next => exact False.elim hq
    | brk => exact False.elim hq
    | cont => exact False.elim hq
theorem pd_callK0 {k : Nat} {f : Addr} {fd : FuncData} {ps ks : List Str} {F : DF} {W : WX} {x : Str} {p : Pos} {Ks : DA} {kws : List Keyword} {π : List Nat} (G : FnD X.prog X.w X.K X.mg X.base k f fd ps F) (hr : Room k X.A) (hg : Gl X x) (hm : X.mg x = some (.ref f)) (hk : PySem.W.keepIn X.K (.ref f) = true) (hb : KwB fd ps 0 ks π) (hx : Wok X W)
    (hkw : PK X kws (lA X.mg W Ks)) (hall : (backToKw pos (keywordEach kws X.env)).all (·.1.isSome) = true := by rfl) (hks : (backToKw pos (keywordEach kws X.env)).filterMap (·.1) = ks := by rfl) (hdb : (x == ("__debug__" : Str)) = false := by decide)
    (hpl : ((backTo pos (starEach [] X.env)).any (·.1) || (backToKw pos (keywordEach kws X.env)).any (·.1.isNone)) = false := by rfl) :
    PE X (.Call (.Name x p) [] kws pos) (lE X.mg W (eCallK ps.length 0 ks.length π F aNil Ks)) := by
  refine ⟨fun pins s σ H Q I h => ?_⟩
  obtain ⟨wa, Hf, sD, w, hb0, hs, h⟩ := h
  refine wpAny_Call_Name_kw (ld_glob I hg hm ?_ hdb)
  refine PySem.W.callWith_KW0 (h₀ := X.base) I.ok.mod.kin hk hall ?_ hpl
  refine thn (hkw.run pos pins s σ H (fun zs H1 => zs.length = ks.length ∧ spD X.mg ps.length F (permute π ([] ++ zs)) H1 Q (WE W σ)) I ⟨wa, Hf, sD, w, hb0, hs, ?_⟩) fun ws s2 ⟨zs, H2, I2, rz, l2, q2⟩ => ⟨I2.kIn, ?_⟩
  · refine Fin.mono (Fin.bind (r := Ks sD w) (k := fun zs w2 => if ([] : List D).length = 0 ∧ zs.length = ks.length ∧ (permute π ([] ++ zs)).length = ps.length then F (permute π ([] ++ zs)) w2 else .no) h) (fun zs w1 H1 Hf1 g1 b1 q v rv => ?_) (fun _ _ _ _ _ _ q => q)
    split at q
    · rename_i hl
      refine ⟨by rw [rv.length]; exact hl.2.1, wa, Hf1, _, w1, b1, permute_reps (Reps.append .nil rv) π, hl.2.2, q⟩
    · exact q.elim
  · rw [hks]
    exact run_fnW G hr hb hx I2 .nil rz rfl l2 q2
end
end DL

set_option maxHeartbeats 4000000
namespace DL
open PySem PySem.Spec PyProof.Rows L2
variable [TabT] [OldT]
open Evl (Ex)
/-! ### values side by side, some of them new lists that a slot will own -/
inductive RepsO (wa : Addr) (Hf H : Hp) : List V → List D → List Addr → Prop
  | nil : RepsO wa Hf H [] [] []
  | val {v : V} {d : D} {vs : List V} {ds : List D} {ps : List Addr} : Rep wa Hf v d → RepsO wa Hf H vs ds ps → RepsO wa Hf H (v :: vs) (d :: ds) ps
  | own {p : Addr} {xs : List V} {es : List D} {vs : List V} {ds : List D} {ps : List Addr} : H p = some (.lst xs) → Hf p = none → p ≠ wa → Reps wa Hf xs es → p ∉ ps → RepsO wa Hf H vs ds ps → RepsO wa Hf H (.ref p :: vs) (.own es :: ds) (p :: ps)
  | dct {p : Addr} {o : HO} {ks : DKs} {xs : List D} {vs : List V} {ds : List D} {ps : List Addr} : H p = some o → DicR wa Hf o ks xs → Hf p = none → p ≠ wa → p ∉ ps → RepsO wa Hf H vs ds ps → RepsO wa Hf H (.ref p :: vs) (.dct ks xs :: ds) (p :: ps)
def lM (mg : Str → Option Value) (W : WX) (E : Sl → Wl → R (List D)) : TA := fun σ H Q =>
  ∃ wa Hf sD w, Base wa Hf H w ∧ Slots wa Hf H σ sD ∧ Fin wa Hf H (E sD w) (fun ds _ H' Hf' => ∀ vs ps, RepsO wa Hf' H' vs ds ps → (∀ p ∈ ps, Fr H p) → Q vs H') (Er mg W wa σ)
section
variable {X : Cx} {mg : Str → Option Value} {W : WX} {tg it a b c e : Expr} {es : List Expr} {pos : Pos} {σ : L2.St} {H H' H0 : Hp} {wa : Addr} {Hf Hf' : Hp} {A : DE} {As M : DA}
theorem RepsO.length : ∀ {vs : List V} {ds : List D} {ps : List Addr}, RepsO wa Hf H vs ds ps → vs.length = ds.length
  | _, _, _, .nil => rfl
  | _, _, _, .val _ r => by simp [RepsO.length r]
  | _, _, _, .own _ _ _ _ _ r => by simp [RepsO.length r]
  | _, _, _, .dct _ _ _ _ _ r => by simp [RepsO.length r]
theorem RepsO.go (g : Go wa H Hf H' Hf') : ∀ {vs : List V} {ds : List D} {ps : List Addr}, RepsO wa Hf H vs ds ps → RepsO wa Hf' H' vs ds ps
  | _, _, _, .nil => .nil
  | _, _, _, .val h r => .val (h.mono g.ex) (RepsO.go g r)
  | _, _, _, .own h1 h2 h3 h4 h5 r => .own (g.keep _ _ h3 h1) ((g.new _ _ h1).trans h2) h3 (h4.mono g.ex) h5 (RepsO.go g r)
  | _, _, _, .dct h1 hd h2 h3 h5 r => .dct (g.keepN _ _ h3 hd.nt h1) (hd.mono g.ex) ((g.newN _ _ hd.nu h1).trans h2) h3 h5 (RepsO.go g r)
def mVal (A : DE) (As : DA) : DA := fun s w => (A s w).bind fun x w1 => (As s w1).bind fun xs w2 => .ok (x :: xs) w2
def mOwn (A : DA) (As : DA) : DA := fun s w => (A s w).bind fun x w1 => (As s w1).bind fun xs w2 => .ok (.own x :: xs) w2
theorem md_nil : PA X [] (lM mg W aNil) := weakA pa_nil fun σ H Q h => by
  obtain ⟨wa, Hf, sD, w, hb, hs, h⟩ := h
  exact h.here hb _ [] .nil fun _ m => nomatch m
theorem md_val (ha : PE X a (lE mg W A)) (hr : PA X es (lM mg W As)) (hs : starEach (a :: es) X.env = (false, eval a X.env) :: starEach es X.env := by rfl) : PA X (a :: es) (lM mg W (mVal A As)) := weakA (pa_cons ha hr hs) fun σ H Q h => by
  obtain ⟨wa, Hf, sD, w, hb, hs, h⟩ := h
  refine ⟨wa, Hf, sD, w, hb, hs, h.bind.mono (fun x w1 H1 Hf1 g1 b1 q v rv => ?_) (fun _ _ _ _ _ _ q => q)⟩
  refine ⟨wa, Hf1, sD, w1, b1, hs.go g1, q.bind.mono (fun y w2 H2 Hf2 g2 b2 q2 v2 ps rv2 hn => ?_) (fun _ _ _ _ _ _ q => q)⟩
  exact q2.here b2 _ ps (.val (rv.mono g2.ex) rv2) fun p m => g1.fr (hn p m)
theorem md_own {B : DA} (ha : PE X a (lfL mg W B)) (hr : PA X es (lM mg W As)) (hs : starEach (a :: es) X.env = (false, eval a X.env) :: starEach es X.env := by rfl) : PA X (a :: es) (lM mg W (mOwn B As)) := weakA (pa_cons ha hr hs) fun σ H Q h => by
  obtain ⟨wa, Hf, sD, w, hb, hs, h⟩ := h
  refine ⟨wa, Hf, sD, w, hb, hs, h.bind.mono (fun x w1 H1 Hf1 g1 b1 q p vs hp e1 e2 e3 rv => ?_) (fun _ _ _ _ _ _ q => q)⟩
  refine ⟨wa, Hf1, sD, w1, b1, hs.go g1, q.bind.mono (fun y w2 H2 Hf2 g2 b2 q2 v2 ps rv2 hn => ?_) (fun _ _ _ _ _ _ q => q)⟩
  have hpp : p ∉ ps := fun m => by
    exact hn p m _ e1 nt_lst
  refine q2.here b2 _ (p :: ps) (.own (g2.keep _ _ e3 e1) ((g2.new _ _ e1).trans e2) e3 (rv.mono g2.ex) hpp rv2) fun z m => ?_
  rcases List.mem_cons.mp m with e | m
  · rw [e]; exact hp
  · exact g1.fr (hn z m)
/-- into slots, one after another -/
def putS (s : Sl) : List Nat → List D → Option Sl
  | [], [] => some s
  | i :: is, d :: ds => putS (s.set i (some d)) is ds
  | _, _ => none
def putV (σ : L2.St) : List Nat → List V → Option L2.St
  | [], [] => some σ
  | i :: is, v :: vs => putV (σ.set i (some v)) is vs
  | _, _ => none
/-- who owns p already is none of these -/
def Apart (s : Sl) (σ : L2.St) (ps : List Addr) : Prop := ∀ p ∈ ps, ∀ (j : Nat) (e : D), s[j]? = some (some e) → IsO e → σ[j]? ≠ some (some (.ref p))
theorem put_ok : ∀ {is : List Nat} {vs : List V} {ds : List D} {ps : List Addr} {σ : L2.St} {s s' : Sl}, RepsO wa Hf H vs ds ps → (∀ p ∈ ps, Fr H0 p) → Slots wa Hf H σ s → OwnNew H0 σ s → Apart s σ ps → putS s is ds = some s' →
    ∃ σ', putV σ is vs = some σ' ∧ Slots wa Hf H σ' s' ∧ OwnNew H0 σ' s'
  | [], _, _, _, σ, s, s', .nil, _, hs, ho, _, h => by cases h; exact ⟨σ, rfl, hs, ho⟩
  | i :: is, _, _, _, σ, s, s', .val r rr, hp, hs, ho, ha, h => by
    refine put_ok (is := is) rr hp (hs.set r) (ho.set (rep_isO r)) (fun p m j ye h1 io h2 => ?_) h
    by_cases hj : j = i
    · subst hj
      rw [List.getElem?_set] at h1
      split at h1
      · split at h1
        · cases h1
          exact rep_isO r io
        · cases h1
      · rename_i hne
        exact absurd rfl hne
    · rw [List.getElem?_set_ne (Ne.symm hj)] at h1 h2
      exact ha p m j ye h1 io h2
  | i :: is, _, _, _, σ, s, s', .own (p := p) h1 h2 h3 h4 h5 rr, hp, hs, ho, ha, h => by
    refine put_ok (is := is) rr (fun q m => hp q (List.mem_cons_of_mem _ m)) (hs.setOwn h1 h2 h3 h4 fun j ye k1 io => ha p List.mem_cons_self j ye k1 io) (ho.setOwn hs.len (hp p List.mem_cons_self)) (fun q m j ye k1 io k2 => ?_) h
    by_cases hj : j = i
    · subst hj
      rw [List.getElem?_set] at k2
      split at k2
      · split at k2
        · cases k2
          exact h5 m
        · cases k2
      · rename_i hne
        exact absurd rfl hne
    · rw [List.getElem?_set_ne (Ne.symm hj)] at k1 k2
      exact ha q (List.mem_cons_of_mem _ m) j ye k1 io k2
  | i :: is, _, _, _, σ, s, s', .dct (p := p) h1 hd h2 h3 h5 rr, hp, hs, ho, ha, h => by
    refine put_ok (is := is) rr (fun q m => hp q (List.mem_cons_of_mem _ m)) (hs.setDct h1 h2 h3 hd fun j ye k1 io => ha p List.mem_cons_self j ye k1 io) (ho.setO hs.len (hp p List.mem_cons_self)) (fun q m j ye k1 io k2 => ?_) h
    by_cases hj : j = i
    · subst hj
      rw [List.getElem?_set] at k2
      split at k2
      · split at k2
        · cases k2
          exact h5 m
        · cases k2
      · rename_i hne
        exact absurd rfl hne
    · rw [List.getElem?_set_ne (Ne.symm hj)] at k1 k2
      exact ha q (List.mem_cons_of_mem _ m) j ye k1 io k2
  | [], _, _, _, _, _, _, .val _ _, _, _, _, _, h => by cases h
  | [], _, _, _, _, _, _, .own _ _ _ _ _ _, _, _, _, _, h => by cases h
  | [], _, _, _, _, _, _, .dct _ _ _ _ _ _, _, _, _, _, h => by cases h
  | _ :: _, _, _, _, _, _, _, .nil, _, _, _, _, h => by cases h
def sMul (is : List Nat) (M : DA) : DS := fun s w => match M s w with
  | .ok ds w1 => match putS s is ds with
    | some s1 => .nx s1 w1
    | none => .no
  | .er x w1 => .er x s w1
  | .no => .no
theorem apart_new {s : Sl} {H1 : Hp} {ps : List Addr} (hs : Slots wa Hf H1 σ s) (hn : ∀ p ∈ ps, Fr H1 p) : Apart s σ ps := fun p m j ye h1 io h2 => by
  obtain ⟨q, o, k1, k2, k3, _⟩ := hs.oAt h1 io
  rw [h2] at k1
  cases k1
  exact hn p m _ k2 k3
variable {st : Stmt}
/-- a, b = e1, e2: two local names -/
theorem sd_par2 {i j : Nat} (h : PS X st (tPar i j (lM mg W M))) : PS X st (lS mg W (sMul [i, j] M)) := weakS h fun D σ H h => by
  obtain ⟨wa, Hf, sD, w, H0, Hf0, g, b, hs, ho, h⟩ := h
  refine ⟨wa, Hf, sD, w, b, hs, ?_⟩
  unfold sMul at h
  cases e : M sD w with
  | ok ds w1 =>
    rw [e] at h
    dsimp only at h
    intro H1 Hf1 g1 b1 vs ps rv hn
    split at h
    · rename_i s1 hp
      obtain ⟨σ1, e1, hs1, ho1⟩ := put_ok (H0 := H0) rv (fun p m => g.fr (hn p m)) (hs.go g1) ho (apart_new hs hn) hp
      match ds, vs, hp, e1 with
      | [x, y], [u, v], hp, e1 =>
        cases e1
        exact ⟨u, v, rfl, h _ H1 Hf1 (g.trans g1) g1.ex b1 hs1 ho1⟩
    · exact h.elim
  | er x w1 =>
    rw [e] at h
    exact fun H1 Hf1 g1 b1 cls dx ev => h σ H1 Hf1 cls dx (g.trans g1) g1.ex b1 (hs.go g1) ho ev
  | no => rw [e] at h; exact h
theorem sd_par3 {i j k : Nat} (h : PS X st (tPar3 i j k (lM mg W M))) : PS X st (lS mg W (sMul [i, j, k] M)) := weakS h fun D σ H h => by
  obtain ⟨wa, Hf, sD, w, H0, Hf0, g, b, hs, ho, h⟩ := h
  refine ⟨wa, Hf, sD, w, b, hs, ?_⟩
  unfold sMul at h
  cases e : M sD w with
  | ok ds w1 =>
    rw [e] at h
    dsimp only at h
    intro H1 Hf1 g1 b1 vs ps rv hn
    split at h
    · rename_i s1 hp
      obtain ⟨σ1, e1, hs1, ho1⟩ := put_ok (H0 := H0) rv (fun p m => g.fr (hn p m)) (hs.go g1) ho (apart_new hs hn) hp
      match ds, vs, hp, e1 with
      | [x, y, z], [u, v, t], hp, e1 =>
        cases e1
        exact ⟨u, v, t, rfl, h _ H1 Hf1 (g.trans g1) g1.ex b1 hs1 ho1⟩
    · exact h.elim
  | er x w1 =>
    rw [e] at h
    exact fun H1 Hf1 g1 b1 cls dx ev => h σ H1 Hf1 cls dx (g.trans g1) g1.ex b1 (hs.go g1) ho ev
  | no => rw [e] at h; exact h
/-- names, as targets -/
def gNames : List Nat → TGs
  | [] => gNil
  | i :: is => gCons (gName i) (gNames is)
theorem gNames_of {H : Hp} {Q : L2.St → Hp → Prop} : ∀ {is : List Nat} {vs : List V} {σ σ' : L2.St}, putV σ is vs = some σ' → Q σ' H → gNames is vs σ H Q
  | [], [], _, _, h, q => by cases h; exact ⟨rfl, q⟩
  | i :: is, v :: vs, _, _, h, q => ⟨v, vs, rfl, gNames_of (is := is) h q⟩
  | [], _ :: _, _, _, h, _ => by cases h
  | _ :: _, [], _, _, h, _ => by cases h
/-- a, b, .. = a written tuple -/
theorem sd_multi {is : List Nat} {n : Nat} (h : PS X st (tAsg (tTup (lM mg W M)) (gTup X.K n (gNames is)))) (hn : is.length = n) (hz : n ≤ 1000) : PS X st (lS mg W (sMul is M)) := weakS h fun D σ H h => by
  obtain ⟨wa, Hf, sD, w, H0, Hf0, g, b, hs, ho, h⟩ := h
  refine ⟨wa, Hf, sD, w, b, hs, ?_⟩
  unfold sMul at h
  cases e : M sD w with
  | ok ds w1 =>
    rw [e] at h
    dsimp only at h
    intro H1 Hf1 g1 b1 vs ps rv hnew
    split at h
    · rename_i s1 hp
      obtain ⟨σ1, e1, hs1, ho1⟩ := put_ok (H0 := H0) rv (fun p m => g.fr (hnew p m)) (hs.go g1) ho (apart_new hs hnew) hp
      have len : ∀ (is : List Nat) (vs : List V) (σ σ' : L2.St), putV σ is vs = some σ' → vs.length = is.length := by
        intro is
        induction is with
        | nil => intro vs σ σ' h; cases vs with
          | nil => rfl
          | cons _ _ => cases h
        | cons i is ih => intro vs σ σ' h; cases vs with
          | nil => cases h
          | cons v vs => simp [ih _ _ _ h]
      have hvl := len _ _ _ _ e1
      refine ⟨by rw [hvl, hn, sizeLine_eq]; omega, fun t ht => ⟨t, vs, rfl, SqT.of upd_same, by rw [hvl, hn], gNames_of e1 ?_⟩⟩
      exact h _ _ Hf1 ((g.trans g1).trans (Go.new1 ht)) g1.ex (b1.new1 ht) (hs1.go (Go.new1 ht)) ho1
    · exact h.elim
  | er x w1 =>
    rw [e] at h
    exact fun H1 Hf1 g1 b1 cls dx ev => h σ H1 Hf1 cls dx (g.trans g1) g1.ex b1 (hs.go g1) ho ev
  | no => rw [e] at h; exact h
/-- what the proof never comes to -/
def sNever : DS := fun _ _ => .no
theorem sd_never : PS X st (lS mg W sNever) := weakS ps_never fun D σ H h => by
  obtain ⟨wa, Hf, sD, w, H0, Hf0, g, b, hs, ho, h⟩ := h
  exact h
end
theorem Fun.kwb {K : PySem.W.Frag} {x qual : Str} {st : Stmt} {f : Addr} {fd : FuncData} {ps ks : List Str} {n : Nat} {π : List Nat} (F : Fun K x qual st f fd)
    (h : ∀ (kV doc pm : Value) (an : Option Addr) (cdv ct : Value) (us ws : List Value), us.length = n → ws.length = ks.length → bindArgs (PySem.W.fnOf x qual (defArgs st) (defBody st) (defScope st) .none kV doc pm an cdv ct) ⟨us, ks.zip ws⟩ = pure (ps.zip (permute π (us ++ ws)))) : KwB fd ps n ks π := by
  obtain ⟨oc, od, kV, doc, pm, an, cdv, ct, osl, rfl, lk, hcd⟩ := F.ex
  exact fun us ws h1 h2 => h kV doc pm an cdv ct us ws h1 h2
end DL

set_option maxHeartbeats 2000000
namespace DL
open PySem PySem.Spec PyProof.Rows L2
variable [TabT] [OldT]
open Evl (Ex)
/-! ### in, index, sorted, max and min of a list, break, continue -/
theorem units65 {k : Nat} {A : Around} (r : Room k A) : A.units + 65 < cLine := by have := r.un; omega
/-- is an integer among integers -/
def hasI (i : Int) (ns : List Int) : Bool := ns.any fun j => decide (j = i)
def fInG (neg : Bool) : Wl → D → D → Option D := fun _ x y => match y with
  | .lst ds => if okD x && okD (.lst ds) then some (.bl (if neg then !ds.any fun d => eqD d x else ds.any fun d => eqD d x)) else none
  | .tup ds => match x, ints? ds with
    | .int i, some ns => some (.bl (if neg then !hasI i ns else hasI i ns))
    | _, _ => none
  | _ => none
abbrev fIn := fInG false
abbrev fNin := fInG true
theorem toPDs_map (ds : List D) : toPDs ds = ds.map toPD := by
  induction ds with
  | nil => rfl
  | cons d r ih => rw [List.map_cons, ← ih]; rfl
theorem anyPD (x : D) (ds : List D) : ((toPDs ds).any fun z => PyData.eqv z (toPD x)) = ds.any fun d => eqD d x := by
  rw [toPDs_map, List.any_map]
  rfl
theorem inV_ints (i : Int) (ns : List Int) : inV (.int i) (ns.map V.int) = hasI i ns := by
  unfold inV hasI
  rw [List.any_map]
  congr 1
theorem flat_ints (ns : List Int) : (ns.map V.int).all flatV = true := by
  rw [List.all_map]
  exact List.all_eq_true.mpr fun _ _ => rfl
theorem opd_in {K : PySem.W.Frag} : OpD (fun x y H Q => rInD K x y H Q ∨ rIn K false x y H Q) fIn := by
  intro wa Hf H w x y u v z Q hb ru rv h q
  unfold fIn fInG at h
  split at h
  · split at h
    · rename_i ds hc
      rw [Bool.and_eq_true] at hc
      cases h
      refine .inl ⟨_, _, ru.dp hb (shaped_lay hc.1), rv.dp hb (shaped_lay hc.2), hc.1, hc.2, ?_⟩
      rw [anyPD]
      exact q _ _ Go.refl hb _ (.bl _)
    · cases h
  · rename_i ds
    split at h
    · rename_i i ns e
      cases h
      cases ru
      cases rv with
      | tup h1 r1 =>
        rw [ints?_some e] at r1
        have e2 := r1.ints
        subst e2
        refine .inr ⟨_, _, rfl, .inr (SqT.of (hb.ex _ _ h1)), rfl, flat_ints _, ?_⟩
        rw [inV_ints]
        exact q _ _ Go.refl hb _ (.bl _)
    · cases h
  · cases h
theorem opd_nin {K : PySem.W.Frag} : OpD (fun x y H Q => rNotInD K x y H Q ∨ rIn K true x y H Q) fNin := by
  intro wa Hf H w x y u v z Q hb ru rv h q
  unfold fNin fInG at h
  split at h
  · split at h
    · rename_i ds hc
      rw [Bool.and_eq_true] at hc
      cases h
      refine .inl ⟨_, _, ru.dp hb (shaped_lay hc.1), rv.dp hb (shaped_lay hc.2), hc.1, hc.2, ?_⟩
      rw [anyPD]
      exact q _ _ Go.refl hb _ (.bl _)
    · cases h
  · rename_i ds
    split at h
    · rename_i i ns e
      cases h
      cases ru
      cases rv with
      | tup h1 r1 =>
        rw [ints?_some e] at r1
        have e2 := r1.ints
        subst e2
        refine .inr ⟨_, _, rfl, .inr (SqT.of (hb.ex _ _ h1)), rfl, flat_ints _, ?_⟩
        rw [inV_ints]
        exact q _ _ Go.refl hb _ (.bl _)
    · cases h
  · cases h
section
variable {X : Cx} {mg : Str → Option Value} {W : WX} {a b : Expr} {pos : Pos} {A B : DE}
theorem pd_in (hu : X.A.units + 65 < cLine) (ha : PE X a (lE mg W A)) (hb : PE X b (lE mg W B)) (hm : behindInMarks .In b = false := by first | rfl | exact nomark _) : PE X (.Compare a [.In] [b] pos) (lE mg W (eBin fIn A B)) := pd_cmp ((op_inD hu).or op_in_seq) opd_in ha hb hm
theorem pd_nin (hu : X.A.units + 65 < cLine) (ha : PE X a (lE mg W A)) (hb : PE X b (lE mg W B)) (hm : behindInMarks .NotIn b = false := by first | rfl | exact nomark _) : PE X (.Compare a [.NotIn] [b] pos) (lE mg W (eBin fNin A B)) := pd_cmp ((op_notInD hu).or op_notIn_seq) opd_nin ha hb hm
theorem qd_in (hu : X.A.units + 65 < cLine) (ha : PE X a (lE mg W A)) (hb : PE X b (lE mg W B)) (hm : behindInMarks .In b = false := by first | rfl | exact nomark _) : PT X (.Compare a [.In] [b] pos) (lT mg W (tE (eBin fIn A B))) := qd_cmp ((op_inD hu).or op_in_seq) opd_in ha hb hm
theorem qd_nin (hu : X.A.units + 65 < cLine) (ha : PE X a (lE mg W A)) (hb : PE X b (lE mg W B)) (hm : behindInMarks .NotIn b = false := by first | rfl | exact nomark _) : PT X (.Compare a [.NotIn] [b] pos) (lT mg W (tE (eBin fNin A B))) := qd_cmp ((op_notInD hu).or op_notIn_seq) opd_nin ha hb hm
end
/-! sorted, max, min -/
def sortI (ns : List Int) : List Int := ns.mergeSort fun a b => decide (a ≤ b)
theorem sortI_perm (ns : List Int) : (sortI ns).Perm ns := List.mergeSort_perm _ _
theorem sortI_le (ns : List Int) : (sortI ns).Pairwise (· ≤ ·) := by
  have := List.pairwise_mergeSort (le := fun a b : Int => decide (a ≤ b)) (fun a b c h1 h2 => by simp at *; omega) (fun a b => by simp; omega) ns
  exact this.imp fun h => of_decide_eq_true h
theorem sorted_unique : ∀ {xs ys : List Int}, xs.Perm ys → xs.Pairwise (· ≤ ·) → ys.Pairwise (· ≤ ·) → xs = ys := fun p h1 h2 => p.eq_of_pairwise (fun a b _ _ h3 h4 => Int.le_antisymm h3 h4) h1 h2
def fSorted : Wl → List D → Option (List D) := fun _ ds => match ds with
  | [.lst xs] => (ints? xs).map fun ns => (sortI ns).map .int
  | _ => none
theorem cl_sorted {K : PySem.W.Frag} : CaL (rSortedI K) fSorted := by
  intro wa Hf H w ds us zs Q hb rs h q
  unfold fSorted at h
  split at h
  · rename_i xs
    cases e : ints? xs with
    | none => rw [e] at h; cases h
    | some ns =>
      rw [e] at h
      cases h
      obtain ⟨a, vs, rfl, h1, r1⟩ := one_lst rs
      rw [ints?_some e] at r1
      have e2 := r1.ints
      subst e2
      refine ⟨a, ns, rfl, SqL.of (hb.ex _ _ h1), fun ns' p hp hs hn => ?_⟩
      have e3 : ns' = sortI ns := sorted_unique (hp.trans (sortI_perm ns).symm) hs (sortI_le ns)
      subst e3
      exact newL hb Reps.of_ints q p hn
  · cases h
def maxI : List Int → Option Int
  | [] => none
  | i :: r => some (r.foldl max i)
def minI : List Int → Option Int
  | [] => none
  | i :: r => some (r.foldl min i)
theorem foldl_max_le : ∀ (r : List Int) (i : Int), i ≤ r.foldl max i ∧ (∀ y ∈ r, y ≤ r.foldl max i) ∧ (r.foldl max i = i ∨ r.foldl max i ∈ r)
  | [], i => ⟨Int.le_refl _, by simp, .inl rfl⟩
  | j :: r, i => by
    obtain ⟨h1, h2, h3⟩ := foldl_max_le r (max i j)
    refine ⟨?_, ?_, ?_⟩
    · simp only [List.foldl_cons]; omega
    · intro y hy
      simp only [List.foldl_cons]
      rcases List.mem_cons.mp hy with rfl | hy
      · omega
      · exact h2 y hy
    · simp only [List.foldl_cons, List.mem_cons]
      rcases h3 with h3 | h3
      · omega
      · exact .inr (.inr h3)
theorem foldl_min_le : ∀ (r : List Int) (i : Int), r.foldl min i ≤ i ∧ (∀ y ∈ r, r.foldl min i ≤ y) ∧ (r.foldl min i = i ∨ r.foldl min i ∈ r)
  | [], i => ⟨Int.le_refl _, by simp, .inl rfl⟩
  | j :: r, i => by
    obtain ⟨h1, h2, h3⟩ := foldl_min_le r (min i j)
    refine ⟨?_, ?_, ?_⟩
    · simp only [List.foldl_cons]; omega
    · intro y hy
      simp only [List.foldl_cons]
      rcases List.mem_cons.mp hy with rfl | hy
      · omega
      · exact h2 y hy
    · simp only [List.foldl_cons, List.mem_cons]
      rcases h3 with h3 | h3
      · omega
      · exact .inr (.inr h3)
theorem maxI_of {ns : List Int} {m : Int} (h : maxI ns = some m) : m ∈ ns ∧ ∀ y ∈ ns, y ≤ m := by
  cases ns with
  | nil => cases h
  | cons i r =>
    cases h
    obtain ⟨h1, h2, h3⟩ := foldl_max_le r i
    refine ⟨?_, fun y hy => ?_⟩
    · rcases h3 with h3 | h3
      · rw [h3]; exact List.mem_cons_self
      · exact List.mem_cons_of_mem _ h3
    · rcases List.mem_cons.mp hy with rfl | hy
      · exact h1
      · exact h2 y hy
theorem minI_of {ns : List Int} {m : Int} (h : minI ns = some m) : m ∈ ns ∧ ∀ y ∈ ns, m ≤ y := by
  cases ns with
  | nil => cases h
  | cons i r =>
    cases h
    obtain ⟨h1, h2, h3⟩ := foldl_min_le r i
    refine ⟨?_, fun y hy => ?_⟩
    · rcases h3 with h3 | h3
      · rw [h3]; exact List.mem_cons_self
      · exact List.mem_cons_of_mem _ h3
    · rcases List.mem_cons.mp hy with rfl | hy
      · exact h1
      · exact h2 y hy
def fMaxL : Wl → List D → Option D := fun _ ds => match ds with
  | [.lst xs] => (ints? xs).bind fun ns => (maxI ns).map .int
  | _ => none
def fMinL : Wl → List D → Option D := fun _ ds => match ds with
  | [.lst xs] => (ints? xs).bind fun ns => (minI ns).map .int
  | _ => none
theorem cd_maxL {K : PySem.W.Frag} : CaD (rMax K) fMaxL := by
  intro wa Hf H w ds us z Q hb rs h q
  unfold fMaxL at h
  split at h
  · rename_i xs
    cases e : ints? xs with
    | none => rw [e] at h; cases h
    | some ns =>
      rw [e, Option.bind_some] at h
      cases e1 : maxI ns with
      | none => rw [e1] at h; cases h
      | some m =>
        rw [e1] at h
        cases h
        obtain ⟨a, vs, rfl, h1, r1⟩ := one_lst rs
        rw [ints?_some e] at r1
        have e2 := r1.ints
        subst e2
        obtain ⟨g1, g2⟩ := maxI_of e1
        refine ⟨a, ns, rfl, SqL.of (hb.ex _ _ h1), List.length_pos_of_mem g1, fun m' h3 h4 => ?_⟩
        have : m' = m := Int.le_antisymm (g2 m' h3) (h4 m g1)
        subst this
        exact q _ _ Go.refl hb _ (.int _)
  · cases h
theorem cd_minL {K : PySem.W.Frag} : CaD (rMin K) fMinL := by
  intro wa Hf H w ds us z Q hb rs h q
  unfold fMinL at h
  split at h
  · rename_i xs
    cases e : ints? xs with
    | none => rw [e] at h; cases h
    | some ns =>
      rw [e, Option.bind_some] at h
      cases e1 : minI ns with
      | none => rw [e1] at h; cases h
      | some m =>
        rw [e1] at h
        cases h
        obtain ⟨a, vs, rfl, h1, r1⟩ := one_lst rs
        rw [ints?_some e] at r1
        have e2 := r1.ints
        subst e2
        obtain ⟨g1, g2⟩ := minI_of e1
        refine ⟨a, ns, rfl, SqL.of (hb.ex _ _ h1), List.length_pos_of_mem g1, fun m' h3 h4 => ?_⟩
        have : m' = m := Int.le_antisymm (h4 m g1) (g2 m' h3)
        subst this
        exact q _ _ Go.refl hb _ (.int _)
  · cases h
/-! xs.index(y) -/
def idxD (ds : List D) (y : D) : Option D := if okD y && okD (.lst ds) then (ds.findIdx? fun d => eqD d y).map fun j => .int (j : Nat) else none
def eIdx (A B : DE) : DE := fun s w => (A s w).bind fun x w1 => match x with
  | .lst ds => (B s w1).bind fun y w2 => opt (idxD ds y) w2
  | _ => .no
section
variable {X : Cx} {mg : Str → Option Value} {W : WX} {o e : Expr} {apos cpos : Pos} {A B : DE}
theorem pd_index (hu : X.A.units + 65 < cLine) (ha : PE X o (lE mg W A)) (hb : PE X e (lE mg W B))
    (hbase : attributeBase o "index" X.env (eval o X.env) = eval o X.env := by rfl)
    (hfew : ((backTo cpos (starEach (e :: []) X.env)).all (fun x => !x.1) && (backToKw cpos (keywordEach [] X.env)).all (fun x => x.1.isSome)
      && decide ((e :: []).length + ([] : List Keyword).length + (if ([] : List Keyword).isEmpty then 0 else 1) < 30)) = true := by rfl)
    (hline : (apos.endLine == cpos.line) = true := by rfl) (hs : starEach (e :: []) X.env = (false, eval e X.env) :: starEach [] X.env := by rfl) (hplain : (backTo cpos (starEach [] X.env)).any (·.1) = false := by rfl) :
    PE X (.Call (.Attribute o "index" apos) [e] [] cpos) (lE mg W (eIdx A B)) := weakE (pe_bm PySem.F.plainAttrs_list PySem.F.slot_list_index PySem.F.type_list_index (mt_indexD hu) ha (pa_cons hb pa_nil hs) hbase hfew hline hs hplain) fun σ H Q h => by
  obtain ⟨wa, Hf, sD, w, hb, hs, h⟩ := h
  refine ⟨wa, Hf, sD, w, hb, hs, h.bind.mono (fun x w1 H1 Hf1 g1 b1 q v rv => ?_) (fun _ _ _ _ _ _ q => q)⟩
  have hx : ∃ xs, x = .lst xs := by
    cases x with
    | lst xs => exact ⟨xs, rfl⟩
    | _ => exact q.elim
  obtain ⟨ds, rfl⟩ := hx
  cases rv with
  | lst h1 r1 =>
    refine ⟨.inl ⟨rfl, _, SqL.of (b1.ex _ _ h1)⟩, wa, Hf1, sD, w1, b1, hs.go g1, q.bind.mono (fun y w2 H2 Hf2 g2 b2 q2 v2 rv2 => ?_) (fun _ _ _ _ _ _ q => q)⟩
    unfold idxD at q2
    split at q2
    · rename_i hc
      rw [Bool.and_eq_true] at hc
      cases e1 : ds.findIdx? (fun d => eqD d y) with
      | none => rw [e1] at q2; exact q2.elim
      | some j =>
        rw [e1] at q2
        obtain ⟨hj, h3, h4⟩ := List.findIdx?_eq_some_iff_getElem.mp e1
        have hl := (Rep.lst h1 r1).mono g2.ex
        refine ⟨_, v2, toPD y, toPDs ds, j, toPD ds[j], rfl, rfl, hl.dp b2 (shaped_lay hc.2), rv2.dp b2 (shaped_lay hc.1), hc.2, hc.1, ?_, h3, fun m z' hm hz => ?_, q2 H2 Hf2 Go.refl b2 _ (.int _)⟩
        · rw [toPDs_map, List.getElem?_map, List.getElem?_eq_getElem hj]; rfl
        · rw [toPDs_map, List.getElem?_map, List.getElem?_eq_getElem (by omega)] at hz
          cases hz
          have := h4 m hm
          exact (Bool.not_eq_true _).mp this
    · exact q2.elim
theorem pl_cb {es : List Expr} {a : Expr} {As : DA} {x : Str} {id : String} {r : List V → Hp → VK → Prop} {f : Wl → List D → Option (List D)} {p : Pos} {pos : Pos} (hc : CallR X (.builtin id) r) (hf : CaL r f) (hg : Gl X x) (hm : X.mg x = none) (hv : bootBuiltins x = some (.builtin id)) (ha : PA X (a :: es) (lA mg W As)) (hn : x ≠ "__name__" := by decide) (hdb : (x == ("__debug__" : Str)) = false := by decide)
    (he : starEach (a :: es) X.env = (false, eval a X.env) :: starEach es X.env := by rfl) (hpl : (backTo pos (starEach es X.env)).any (·.1) = false := by rfl) : PE X (.Call (.Name x p) (a :: es) [] pos) (lfL mg W (eCBL f As)) :=
  weakE (pe_callB hc hg hm hv ha hn hdb he hpl) fun _ _ _ q => cbL_ok hf q
end
/-! break, continue -/
section
variable {X : Cx} {mg : Str → Option Value} {W : WX} {pos : Pos}
def sBrk : DS := fun s w => .bk s w
def sCnt : DS := fun s w => .ct s w
theorem sd_brk : PS X (.Break pos) (lS mg W sBrk) := weakS ps_break fun D σ H h => by
  obtain ⟨wa, Hf, sD, w, H0, Hf0, g, b, hs, ho, h⟩ := h
  exact h σ H Hf g (Ex.refl _) b hs ho
theorem sd_cnt : PS X (.Continue pos) (lS mg W sCnt) := weakS ps_continue fun D σ H h => by
  obtain ⟨wa, Hf, sD, w, H0, Hf0, g, b, hs, ho, h⟩ := h
  exact h σ H Hf g (Ex.refl _) b hs ho
end
end DL

set_option maxHeartbeats 2000000
namespace DL
open PySem PySem.Spec PyProof.Rows L2
variable [TabT] [OldT]
open Evl (Ex)
/-! ### list(range(..)) -/
def rgOk (a b : Int) : Prop := -4611686018427387904 ≤ a ∧ a < 4611686018427387904 ∧ -4611686018427387904 ≤ b ∧ b < 4611686018427387904 ∧ (b - a).toNat ≤ lim
instance (a b : Int) : Decidable (rgOk a b) := by unfold rgOk; infer_instance
theorem rgOk_of {a b : Int} (h : rgOk a b) : RgOk a b := by
  obtain ⟨h1, h2, h3, h4, h5⟩ := h
  have : lim = 16000000 := rfl
  exact ⟨by omega, by omega, by omega, by omega, by omega⟩
def aRg1 (A : DE) : DA := fun s w => (A s w).bind fun x w1 => match x with
  | .int j => if rgOk 0 j then .ok (upTo 0 (j - 0).toNat) w1 else .no
  | _ => .no
def aRg2 (A B : DE) : DA := fun s w => (A s w).bind fun x w1 => (B s w1).bind fun y w2 => match x, y with
  | .int i, .int j => if rgOk i j then .ok (upTo i (j - i).toNat) w2 else .no
  | _, _ => .no
section
variable {X : Cx} {mg : Str → Option Value} {W : WX} {a b : Expr} {p p2 pos pos2 : Pos} {A B : DE}
theorem rg_reps {wa : Addr} {Hf : Hp} {i j : Int} : Reps wa Hf (rgV i j) (upTo i (j - i).toNat) := by
  have e : ∀ l : List Nat, Reps wa Hf (l.map fun (k : Nat) => V.int (i + (k : Nat))) (l.map fun (k : Nat) => D.int (i + (k : Nat))) := by
    intro l
    induction l with
    | nil => exact .nil
    | cons k r ih => exact .cons (.int _) ih
  exact e _
theorem pl_rg1 (hc : X.calm = true) (hg : Gl X "list") (hm : X.mg "list" = none) (hg2 : Gl X "range") (hm2 : X.mg "range" = none) (ha : PE X a (lE mg W A))
    (na : starEach [a] X.env = (false, eval a X.env) :: starEach [] X.env := by rfl)
    (ne : starEach [Expr.Call (.Name "range" p2) [a] [] pos2] X.env = (false, eval (Expr.Call (.Name "range" p2) [a] [] pos2) X.env) :: starEach [] X.env := by rfl) :
    PE X (.Call (.Name "list" p) [.Call (.Name "range" p2) [a] [] pos2] [] pos) (lfL mg W (aRg1 A)) := weakE (pe_listRg hc hg hm (prg_1 hg2 hm2 ha na) ne) fun σ H Q h => by
  obtain ⟨wa, Hf, sD, w, hb, hs, h⟩ := h
  refine ⟨wa, Hf, sD, w, hb, hs, h.bind.mono (fun x w1 H1 Hf1 g1 b1 q v rv => ?_) (fun _ _ _ _ _ _ q => q)⟩
  split at q
  · split at q
    · rename_i hr
      cases rv
      refine ⟨_, rfl, rgOk_of hr, fun l hl => ?_⟩
      exact newL b1 rg_reps (fun H' Hf' l2 vs g b n e1 e2 e3 r => q H' Hf' g b l2 vs (g1.fr n) e1 e2 e3 r) l hl
    · exact q.elim
  · exact q.elim
theorem pl_rg2 (hc : X.calm = true) (hg : Gl X "list") (hm : X.mg "list" = none) (hg2 : Gl X "range") (hm2 : X.mg "range" = none) (ha : PE X a (lE mg W A)) (hb : PE X b (lE mg W B))
    (na : starEach [a, b] X.env = (false, eval a X.env) :: starEach [b] X.env := by rfl) (nb : starEach [b] X.env = (false, eval b X.env) :: starEach [] X.env := by rfl) (hp : (backTo pos2 (starEach [b] X.env)).any (·.1) = false := by rfl)
    (ne : starEach [Expr.Call (.Name "range" p2) [a, b] [] pos2] X.env = (false, eval (Expr.Call (.Name "range" p2) [a, b] [] pos2) X.env) :: starEach [] X.env := by rfl) :
    PE X (.Call (.Name "list" p) [.Call (.Name "range" p2) [a, b] [] pos2] [] pos) (lfL mg W (aRg2 A B)) := weakE (pe_listRg hc hg hm (prg_2 hg2 hm2 ha hb na nb hp) ne) fun σ H Q h => by
  obtain ⟨wa, Hf, sD, w, hb, hs, h⟩ := h
  refine ⟨wa, Hf, sD, w, hb, hs, h.bind.mono (fun x w1 H1 Hf1 g1 b1 q v rv => ?_) (fun _ _ _ _ _ _ q => q)⟩
  refine ⟨wa, Hf1, sD, w1, b1, hs.go g1, q.bind.mono (fun y w2 H2 Hf2 g2 b2 q2 v2 rv2 => ?_) (fun _ _ _ _ _ _ q => q)⟩
  split at q2
  · split at q2
    · rename_i hr
      cases rv
      cases rv2
      refine ⟨_, _, rfl, rfl, rgOk_of hr, fun l hl => ?_⟩
      exact newL b2 rg_reps (fun H' Hf' l2 vs g b n e1 e2 e3 r => q2 H' Hf' g b l2 vs ((g1.trans g2).fr n) e1 e2 e3 r) l hl
    · exact q2.elim
  · exact q2.elim
end
/-! ### a test that is `x if c else y` -/
section
variable {X : Cx} {mg : Str → Option Value} {W : WX} {a b c : Expr} {pos : Pos} {C S T : DT} {tC tA tB : TT}
theorem pt_ifx (hc : PT X c tC) (ha : PT X a tA) (hb : PT X b tB) : PT X (.IfExp c a b pos) (fun σ H Q => tC σ H fun k H1 => if k = true then tA σ H1 Q else tB σ H1 Q) := ⟨fun pins s σ H Q I h =>
  PyProof.Rows.isTrue_IfExp (thn (hc.run pins s σ H _ I h) fun d s1 ⟨H1, I1, q1⟩ => by
    cases d with
    | true => exact ha.run pins s1 σ H1 Q I1 q1
    | false => exact hb.run pins s1 σ H1 Q I1 q1)⟩
def tIfD (C S T : DT) : DT := fun s w => (C s w).bind fun k w1 => if k then S s w1 else T s w1
theorem qd_ifx (hc : PT X c (lT mg W C)) (ha : PT X a (lT mg W S)) (hb : PT X b (lT mg W T)) : PT X (.IfExp c a b pos) (lT mg W (tIfD C S T)) := weakT (pt_ifx hc ha hb) fun σ H Q h => by
  obtain ⟨wa, Hf, sD, w, hb, hs, h⟩ := h
  refine ⟨wa, Hf, sD, w, hb, hs, h.bind.mono (fun x w1 H1 Hf1 g1 b1 q v rv => ?_) (fun _ _ _ _ _ _ q => q)⟩
  cases rv
  cases x with
  | true => exact iteT ⟨wa, Hf1, sD, w1, b1, hs.go g1, q⟩
  | false => exact iteF ⟨wa, Hf1, sD, w1, b1, hs.go g1, q⟩
end
end DL

set_option maxHeartbeats 2000000
namespace DL
open PySem PySem.Spec PyProof.Rows L2
variable [TabT] [OldT]
/-! ### what a piece of code comes to, as a plain proposition -/
section
variable {α β : Type} {a : α} {w : Wl} {Q P : α → Wl → Prop} {s : Sl} {A B C : DE} {As Bs : DA} {S T : DT} {f g : Wl → D → D → Option D} {U V : DS} {N N' : Sl → Wl → Prop} {Z Z' : D → Wl → Prop} {i n k : Nat}
def okE (r : R α) (Q : α → Wl → Prop) : Prop := match r with
  | .ok a w => Q a w
  | _ => False
def okO (o : Option α) (P : α → Prop) : Prop := match o with
  | some z => P z
  | none => False
def okB (d : D) (P : Bool → Prop) : Prop := match d with
  | .bl k => P k
  | _ => False
@[simp] theorem okE_ok : okE (.ok a w) Q = Q a w := rfl
@[simp] theorem okE_no : okE (.no) Q = False := rfl
@[simp] theorem okE_er {x : Exn} : okE (.er x w) Q = False := rfl
@[simp] theorem okO_some {P : α → Prop} : okO (some a) P = P a := rfl
@[simp] theorem okO_none {P : α → Prop} : okO none P = False := rfl
@[simp] theorem okB_bl {P : Bool → Prop} {k : Bool} : okB (.bl k) P = P k := rfl
theorem okE_bind {r : R α} {k : α → Wl → R β} {Q : β → Wl → Prop} : okE (r.bind k) Q = okE r (fun a w => okE (k a w) Q) := by cases r <;> rfl
@[simp] theorem okE_noer {r : R α} : okE r.noer Q = okE r Q := by cases r <;> rfl
@[simp] theorem okE_opt {o : Option α} : okE (opt o w) Q = okO o fun z => Q z w := by cases o <;> rfl
@[simp] theorem okE_ite {c : Prop} [Decidable c] {r r' : R α} : okE (if c then r else r') Q = if c then okE r Q else okE r' Q := by split <;> rfl
@[simp] theorem okO_ite {c : Prop} [Decidable c] {o : Option α} {P : α → Prop} : okO (if c then o else none) P = (c ∧ okO o P) := by
  by_cases h : c
  · simp [h]
  · simp [h]
theorem okE_mono {r : R α} (h : okE r P) (i : ∀ a w, P a w → Q a w) : okE r Q := by
  cases r with
  | ok a w => exact i _ _ h
  | er _ _ => exact h
  | no => exact h
theorem okE_eq {r : R α} (h : okE r fun d w' => d = a ∧ w' = w) : r = .ok a w := by
  cases r with
  | ok b v => obtain ⟨rfl, rfl⟩ := h; rfl
  | er _ _ => exact h.elim
  | no => exact h.elim
theorem okE_ex {r : R α} (h : okE r P) : ∃ a w, r = .ok a w ∧ P a w := by
  cases r with
  | ok b v => exact ⟨b, v, rfl, h⟩
  | er _ _ => exact h.elim
  | no => exact h.elim
variable {Q : D → Wl → Prop} {QA : List D → Wl → Prop} {QT : Bool → Wl → Prop}
@[simp] theorem okE_var : okE (eVar i s w) Q = okO (getS s i) fun d => Q d w := by unfold eVar; cases getS s i <;> rfl
@[simp] theorem okE_c {d : D} : okE (eC d s w) Q = Q d w := rfl
@[simp] theorem okE_bin : okE (eBin f A B s w) Q = okE (A s w) fun x w1 => okE (B s w1) fun y w2 => okO (f w2 x y) fun z => Q z w2 := by unfold eBin; simp only [okE_bind, okE_opt]
@[simp] theorem okE_un {f : Wl → D → Option D} : okE (eUn f A s w) Q = okE (A s w) fun x w1 => okO (f w1 x) fun z => Q z w1 := by unfold eUn; simp only [okE_bind, okE_opt]
@[simp] theorem okE_cb {f : Wl → List D → Option D} : okE (eCB f As s w) Q = okE (As s w) fun x w1 => okO (f w1 x) fun z => Q z w1 := by unfold eCB; simp only [okE_bind, okE_opt]
@[simp] theorem okE_cbl {f : Wl → List D → Option (List D)} : okE (eCBL f As s w) QA = okE (As s w) fun x w1 => okO (f w1 x) fun z => QA z w1 := by unfold eCBL; simp only [okE_bind, okE_opt]
@[simp] theorem okE_l : okE (eL As s w) Q = okE (As s w) fun x w1 => Q (.lst x) w1 := by unfold eL; simp only [okE_bind, okE_ok]
@[simp] theorem okE_nil : okE (aNil s w) QA = QA [] w := rfl
@[simp] theorem okE_cons : okE (aCons A As s w) QA = okE (A s w) fun x w1 => okE (As s w1) fun xs w2 => QA (x :: xs) w2 := by unfold aCons; simp only [okE_bind, okE_ok]
@[simp] theorem okE_tup : okE (eTup As s w) Q = okE (As s w) fun xs w1 => xs.length ≤ lim ∧ Q (.tup xs) w1 := by
  unfold eTup; simp only [okE_bind]; congr; funext xs w1; split <;> simp [*]
@[simp] theorem okE_lst : okE (aLst As s w) QA = okE (As s w) fun xs w1 => xs.length ≤ lim ∧ QA xs w1 := by
  unfold aLst; simp only [okE_bind]; congr; funext xs w1; split <;> simp [*]
@[simp] theorem okE_call {F : DF} : okE (eCall n F As s w) Q = okE (As s w) fun ds w1 => ds.length = n ∧ okE (F ds w1) Q := by
  unfold eCall; simp only [okE_bind]; congr; funext xs w1; split <;> simp [*]
@[simp] theorem okE_callK {F : DF} {m : Nat} {π : List Nat} : okE (eCallK m n k π F As Bs s w) Q = okE (As s w) fun ds w1 => okE (Bs s w1) fun zs w2 => (ds.length = n ∧ zs.length = k ∧ (permute π (ds ++ zs)).length = m) ∧ okE (F (permute π (ds ++ zs)) w2) Q := by
  unfold eCallK; simp only [okE_bind]; congr; funext xs w1; congr; funext ys w2; split <;> simp [*]
@[simp] theorem okE_if : okE (eIf T A B s w) Q = okE (T s w) fun k w1 => if k = true then okE (A s w1) Q else okE (B s w1) Q := by
  unfold eIf; simp only [okE_bind]; congr; funext k w1; cases k <;> rfl
@[simp] theorem okE_and : okE (eAnd A B s w) Q = okE (A s w) fun x w1 => okB x fun k => if k = true then okE (B s w1) Q else Q (.bl false) w1 := by
  unfold eAnd; simp only [okE_bind]; congr; funext x w1; cases x <;> try rfl
  rename_i b; cases b <;> rfl
@[simp] theorem okE_or : okE (eOr A B s w) Q = okE (A s w) fun x w1 => okB x fun k => if k = true then Q (.bl true) w1 else okE (B s w1) Q := by
  unfold eOr; simp only [okE_bind]; congr; funext x w1; cases x <;> try rfl
  rename_i b; cases b <;> rfl
@[simp] theorem okE_not : okE (eNot A s w) Q = okE (A s w) fun x w1 => okB x fun k => Q (.bl (!k)) w1 := by
  unfold eNot; simp only [okE_bind]; congr; funext x w1; cases x <;> rfl
@[simp] theorem okE_chain : okE (eChain f g A B C s w) Q = okE (A s w) fun x w1 => okE (B s w1) fun y w2 => okO (f w2 x y) fun z => okB z fun k => if k = true then okE (C s w2) fun u w4 => okO (g w4 y u) fun v => Q v w4 else Q (.bl false) w2 := by
  unfold eChain; simp only [okE_bind, okE_opt]; congr; funext x w1; congr; funext y w2; congr; funext z; cases z <;> try rfl
  rename_i b; cases b
  · rfl
  · simp only [okE_bind, okE_opt]; rfl
@[simp] theorem okT_e : okE (tE A s w) QT = okE (A s w) fun x w1 => okB x fun k => QT k w1 := by
  unfold tE; simp only [okE_bind]; congr; funext x w1; cases x <;> rfl
@[simp] theorem okT_an : okE (tAn S T s w) QT = okE (S s w) fun k w1 => if k = true then okE (T s w1) QT else QT false w1 := by
  unfold tAn; simp only [okE_bind]; congr; funext k w1; cases k <;> rfl
@[simp] theorem okT_on : okE (tOn S T s w) QT = okE (S s w) fun k w1 => if k = true then QT true w1 else okE (T s w1) QT := by
  unfold tOn; simp only [okE_bind]; congr; funext k w1; cases k <;> rfl
@[simp] theorem okT_no : okE (tNo S s w) QT = okE (S s w) fun k w1 => QT (!k) w1 := by unfold tNo; simp only [okE_bind, okE_ok]
@[simp] theorem okT_tr : okE (tTr A s w) QT = okE (A s w) fun x w1 => okO (truD x) fun k => QT k w1 := by unfold tTr; simp only [okE_bind, okE_opt]
@[simp] theorem okT_yes : okE (tYesD s w) QT = QT true w := rfl
@[simp] theorem okE_rev : okE (eRev A s w) Q = okE (A s w) fun x w1 => match x with
    | .lst xs => Q (.lst xs.reverse) w1
    | .tup xs => Q (.tup xs.reverse) w1
    | _ => False := by unfold eRev; simp only [okE_bind]; congr; funext x w1; cases x <;> rfl
@[simp] theorem okI_seq : okE (iSeq A s w) QA = okE (A s w) fun x w1 => okO (seqD x) fun p => QA p.2 w1 := by unfold iSeq; simp only [okE_bind]; congr; funext x w1; cases x <;> rfl
def rng1D : List D → Option (List D)
  | [.int j] => if -4611686018427387904 ≤ j ∧ j < 4611686018427387904 then some (upTo 0 j.toNat) else none
  | _ => none
def rng2D : List D → Option (List D)
  | [.int i, .int j] => if (-4611686018427387904 ≤ i ∧ i < 4611686018427387904) ∧ -4611686018427387904 ≤ j ∧ j < 4611686018427387904 then some (upTo i (j - i).toNat) else none
  | _ => none
def enm1D : List D → Option (List D)
  | [.lst ds] => some (enumD ds)
  | _ => none
def zip2D : List D → Option (List D)
  | [x, y] => (seqD x).bind fun p => (seqD y).bind fun q => some (zipD p.2 q.2)
  | [x, y, z] => (seqD x).bind fun p => (seqD y).bind fun q => (seqD z).bind fun r => some (zip3D p.2 q.2 r.2)
  | _ => none
@[simp] theorem okI_rng1 : okE (iRng1 As s w) QA = okE (As s w) fun xs w1 => okO (rng1D xs) fun ds => QA ds w1 := by
  unfold iRng1; simp only [okE_bind]; congr; funext xs w1
  rcases xs with _ | ⟨x, _ | ⟨y, xs⟩⟩ <;> try rfl
  · cases x <;> try rfl
    simp only [rng1D, okE_ite, okO_ite, okE_ok, okE_no, okO_some]
    split <;> simp [*]
  · cases x <;> rfl
@[simp] theorem okI_rng2 : okE (iRng2 As s w) QA = okE (As s w) fun xs w1 => okO (rng2D xs) fun ds => QA ds w1 := by
  unfold iRng2; simp only [okE_bind]; congr; funext xs w1
  rcases xs with _ | ⟨x, _ | ⟨y, _ | ⟨z, xs⟩⟩⟩ <;> try rfl
  · cases x <;> rfl
  · cases x <;> try rfl
    cases y <;> try rfl
    simp only [rng2D, okE_ite, okO_ite, okE_ok, okE_no, okO_some]
    split <;> simp [*]
  · cases x <;> try rfl
    cases y <;> rfl
@[simp] theorem okI_enum : okE (iEnum As s w) QA = okE (As s w) fun xs w1 => okO (enm1D xs) fun ds => QA ds w1 := by
  unfold iEnum; simp only [okE_bind]; congr; funext xs w1
  rcases xs with _ | ⟨x, _ | ⟨y, xs⟩⟩ <;> try rfl
  · cases x <;> rfl
  · cases x <;> rfl
@[simp] theorem okI_zip : okE (iZip As s w) QA = okE (As s w) fun xs w1 => okO (zip2D xs) fun ds => QA ds w1 := by
  unfold iZip; simp only [okE_bind]; congr; funext xs w1
  rcases xs with _ | ⟨x, _ | ⟨y, _ | ⟨z, _ | ⟨u, xs⟩⟩⟩⟩ <;> try rfl
  · show okE (match seqD x, seqD y with | some (_, ds), some (_, es) => R.ok (zipD ds es) w1 | _, _ => R.no) QA = okO ((seqD x).bind fun p => (seqD y).bind fun q => some (zipD p.2 q.2)) _
    cases seqD x <;> cases seqD y <;> rfl
  · show okE (match seqD x, seqD y, seqD z with | some (_, ds), some (_, es), some (_, fs) => R.ok (zip3D ds es fs) w1 | _, _, _ => R.no) QA = okO ((seqD x).bind fun p => (seqD y).bind fun q => (seqD z).bind fun r => some (zip3D p.2 q.2 r.2)) _
    cases seqD x <;> cases seqD y <;> cases seqD z <;> rfl
@[simp] theorem okE_lc {I : DI} {G : DG} {vs : List Nat} : okE (aLc I G T A vs s w) QA = okE (I s w) fun ds w1 => ds.length ≤ lim ∧ okE (lcD G T A ds (wipeS s vs) w1) QA := by
  unfold aLc; simp only [okE_bind]; congr; funext xs w1; split <;> simp [*]
/-! statements -/
def okS (r : RS) (N : Sl → Wl → Prop) (Z : D → Wl → Prop) : Prop := match r with
  | .nx s w => N s w
  | .rt d w => Z d w
  | _ => False
@[simp] theorem okS_nx : okS (.nx s w) N Z = N s w := rfl
@[simp] theorem okS_rt {d : D} : okS (.rt d w) N Z = Z d w := rfl
@[simp] theorem okS_no : okS .no N Z = False := rfl
@[simp] theorem okS_sNx : okS (sNx s w) N Z = N s w := rfl
@[simp] theorem okS_never : okS (sNever s w) N Z = False := rfl
@[simp] theorem okS_seq : okS (sSeq U V s w) N Z = okS (U s w) (fun s1 w1 => okS (V s1 w1) N Z) Z := by unfold sSeq; cases U s w <;> rfl
@[simp] theorem okS_asg : okS (sAsg i A s w) N Z = okE (A s w) fun d w1 => N (s.set i (some d)) w1 := by unfold sAsg; cases A s w <;> rfl
@[simp] theorem okS_new : okS (sNew i As s w) N Z = okE (As s w) fun d w1 => N (s.set i (some (.own d))) w1 := by unfold sNew; cases As s w <;> rfl
@[simp] theorem okS_tg {G : DG} : okS (sTg G A s w) N Z = okE (A s w) fun d w1 => okO (G d s) fun s1 => N s1 w1 := by
  unfold sTg
  cases A s w with
  | ok d w1 => simp only [okE_ok]; cases G d s <;> rfl
  | er _ _ => rfl
  | no => rfl
@[simp] theorem okS_drop : okS (sDrop A s w) N Z = okE (A s w) fun _ w1 => N s w1 := by unfold sDrop; cases A s w <;> rfl
@[simp] theorem okS_if : okS (sIf T U V s w) N Z = okE (T s w) fun k w1 => if k = true then okS (U s w1) N Z else okS (V s w1) N Z := by
  unfold sIf
  cases T s w with
  | ok k w1 => cases k <;> rfl
  | er _ _ => rfl
  | no => rfl
@[simp] theorem okS_ret : okS (sRet A s w) N Z = okE (A s w) Z := by unfold sRet; cases A s w <;> rfl
def okOwn (o : Option (Option D)) (P : List D → Prop) : Prop := match o with
  | some (some (.own xs)) => P xs
  | _ => False
@[simp] theorem okOwn_own {xs : List D} {P : List D → Prop} : okOwn (some (some (.own xs))) P = P xs := rfl
@[simp] theorem okS_app : okS (sApp i A s w) N Z = okOwn s[i]? fun xs => okE (A s w) fun d w1 => xs.length < lim ∧ N (s.set i (some (.own (xs ++ [d])))) w1 := by
  unfold sApp
  cases h : s[i]? with
  | none => rfl
  | some o =>
    cases o with
    | none => rfl
    | some d =>
      cases d <;> try rfl
      rename_i xs
      simp only [okOwn_own]
      cases A s w with
      | ok d w1 => simp only [okE_ok]; split <;> simp [*]
      | er _ _ => rfl
      | no => rfl
@[simp] theorem okS_frz : okS (sFrz i U s w) N Z = okS (U (frzS i s) w) N Z := rfl
@[simp] theorem okS_setW : okS (sSetW A B C s w) N Z = okE (C s w) fun d w1 => okE (A s w1) fun x w2 => okE (B s w2) fun k w3 => match d, x, k with
    | .int z, .well, .int k => okO (setW w3 k z) fun w4 => N s w4
    | _, _, _ => False := by
  unfold sSetW
  cases C s w with
  | er _ _ => rfl
  | no => rfl
  | ok d w1 =>
    simp only [R.bind_ok, okE_ok]
    cases A s w1 with
    | er _ _ => rfl
    | no => rfl
    | ok x w2 =>
      simp only [R.bind_ok, okE_ok]
      cases B s w2 with
      | er _ _ => rfl
      | no => rfl
      | ok k w3 =>
        simp only [R.bind_ok, okE_ok]
        cases d <;> try rfl
        cases x <;> try rfl
        cases k <;> try rfl
        rename_i z k
        cases h : setW w3 k z <;> simp [h] <;> rfl
@[simp] theorem okE_mval : okE (mVal A As s w) QA = okE (A s w) fun x w1 => okE (As s w1) fun xs w2 => QA (x :: xs) w2 := by unfold mVal; simp only [okE_bind, okE_ok]
@[simp] theorem okE_mown : okE (mOwn Bs As s w) QA = okE (Bs s w) fun x w1 => okE (As s w1) fun xs w2 => QA (.own x :: xs) w2 := by unfold mOwn; simp only [okE_bind, okE_ok]
@[simp] theorem okS_mul {is : List Nat} : okS (sMul is As s w) N Z = okE (As s w) fun ds w1 => okO (putS s is ds) fun s1 => N s1 w1 := by
  unfold sMul
  cases As s w with
  | ok d w1 => simp only [okE_ok]; cases putS s is d <;> rfl
  | er _ _ => rfl
  | no => rfl
@[simp] theorem okS_for {I : DI} {G : DG} : okS (sFor I G U s w) N Z = okE (I s w) fun ds w1 => okS (loopD G U ds s w1) N Z := by unfold sFor; cases I s w <;> rfl
theorem okS_mono {r : RS} (h : okS r N Z) (i : ∀ s w, N s w → N' s w) (j : ∀ d w, Z d w → Z' d w) : okS r N' Z' := by
  cases r with
  | nx s w => exact i _ _ h
  | rt d w => exact j _ _ h
  | _ => exact h
theorem okE_run {B : DS} {ds : List D} : okE (runB n k B ds w) Q = (ds.length = k ∧ okS (B (ds.map some ++ List.replicate (n - k) none) w) (fun _ w1 => Q .non w1) Q) := by
  unfold runB
  by_cases h : ds.length = k
  · rw [if_pos h]
    simp only [h, true_and]
    cases B (ds.map some ++ List.replicate (n - k) none) w <;> rfl
  · rw [if_neg h]
    simp [h]
/-- a comprehension, element by element -/
theorem lc_map {γ : Type} {G : DG} (g f : γ → D) (p : γ → Bool) {s : Sl} {w : Wl} : ∀ {xs : List γ}, (∀ x ∈ xs, okO (G (g x) s) fun s1 => T s1 w = .ok (p x) w ∧ (p x = true → A s1 w = .ok (f x) w)) → lcD G T A (xs.map g) s w = .ok ((xs.filter p).map f) w
  | [], _ => rfl
  | x :: xs, h => by
    have h1 := h x List.mem_cons_self
    have ih := lc_map g f p (xs := xs) fun y hy => h y (List.mem_cons_of_mem _ hy)
    rw [List.map_cons]
    unfold lcD
    cases e : G (g x) s with
    | none => rw [e] at h1; exact h1.elim
    | some s1 =>
      rw [e] at h1
      obtain ⟨h2, h3⟩ := h1
      simp only [h2, R.noer_ok, R.bind_ok]
      by_cases hp : p x = true
      · rw [if_pos hp, h3 hp, List.filter_cons_of_pos hp]
        simp [ih]
      · rw [if_neg hp, List.filter_cons_of_neg hp]
        exact ih
/-- .. no condition -/
theorem lc_all {γ : Type} {G : DG} (g f : γ → D) {s : Sl} {w : Wl} {xs : List γ} (h : ∀ x ∈ xs, okO (G (g x) s) fun s1 => okE (A s1 w) fun d w1 => d = f x ∧ w1 = w) : lcD G tYesD A (xs.map g) s w = .ok (xs.map f) w := by
  have := lc_map (T := tYesD) (A := A) (G := G) g f (fun _ => true) (s := s) (w := w) (xs := xs) fun x hx => by
    have h1 := h x hx
    cases e : G (g x) s with
    | none => rw [e] at h1; exact h1.elim
    | some s1 =>
      rw [e] at h1
      exact ⟨rfl, fun _ => okE_eq h1⟩
  rw [List.filter_eq_self.mpr (by simp)] at this
  exact this
theorem okE_lcall {γ : Type} {G : DG} (g f : γ → D) {s : Sl} {w : Wl} {xs : List γ} {Q : List D → Wl → Prop} (h : ∀ x ∈ xs, okO (G (g x) s) fun s1 => okE (A s1 w) fun d w1 => d = f x ∧ w1 = w) (q : Q (xs.map f) w) : okE (lcD G tYesD A (xs.map g) s w) Q := by
  rw [lc_all g f h]
  exact q
/-- a loop by its invariant -/
theorem okS_loop {G : DG} (I : Nat → Sl → Wl → Prop) : ∀ {ds : List D} {s : Sl} {w : Wl} (m : Nat), I m s w → (∀ i d s w, ds[i]? = some d → I (m + i) s w → okO (G d s) fun s1 => okS (U s1 w) (I (m + i + 1)) Z) → (∀ s w, I (m + ds.length) s w → N s w) → okS (loopD G U ds s w) N Z
  | [], s, w, m, h0, _, he => he s w h0
  | d :: ds, s, w, m, h0, hs, he => by
    have h1 := hs 0 d s w rfl h0
    unfold loopD
    cases e : G d s with
    | none => rw [e] at h1; exact h1.elim
    | some s1 =>
      rw [e] at h1
      simp only [okO_some] at h1
      dsimp only
      cases e2 : U s1 w with
      | nx s2 w2 =>
        rw [e2] at h1
        exact okS_loop I (m + 1) h1 (fun i d' s' w' hd hI => by
          have := hs (i + 1) d' s' w' (by simpa using hd) (by rw [show m + (i + 1) = m + 1 + i by omega]; exact hI)
          rw [show m + (i + 1) + 1 = m + 1 + i + 1 by omega] at this
          exact this) (fun s' w' hI => he s' w' (by rw [List.length_cons, show m + (ds.length + 1) = m + 1 + ds.length by omega]; exact hI))
      | rt d' w2 => rw [e2] at h1; exact h1
      | bk _ _ => rw [e2] at h1; exact h1.elim
      | ct _ _ => rw [e2] at h1; exact h1.elim
      | er _ _ _ => rw [e2] at h1; exact h1.elim
      | no => rw [e2] at h1; exact h1.elim
theorem okS_loop0 {G : DG} (I : Nat → Sl → Wl → Prop) {ds : List D} {s : Sl} {w : Wl} (h0 : I 0 s w) (hs : ∀ i d s w, ds[i]? = some d → I i s w → okO (G d s) fun s1 => okS (U s1 w) (I (i + 1)) Z) (he : ∀ s w, I ds.length s w → N s w) : okS (loopD G U ds s w) N Z :=
  okS_loop I 0 h0 (fun i d s w hd hI => by
    rw [Nat.zero_add] at hI ⊢
    exact hs i d s w hd hI) (fun s w hI => he s w (by rw [Nat.zero_add] at hI; exact hI))
end
end DL

set_option maxHeartbeats 2000000
namespace DL
open PySem PySem.Spec PyProof.Rows L2
variable [TabT] [OldT]
open Evl (Ex)
/-! ### new lists that defs tell -/
section
variable {X : Cx} {mg : Str → Option Value} {W : WX} {e a b : Expr} {pos : Pos} {A B E : DE} {As : DA} {σ : L2.St} {H : Hp} {st : Stmt}
/-- a new list, known as such -/
def eNL (A : DA) : DE := fun s w => (A s w).bind fun ds w1 => .ok (.nl ds) w1
theorem eNL_ok {Q : VK} (h : lE mg W (eNL As) σ H Q) : lfL mg W As σ H Q := by
  obtain ⟨wa, Hf, sD, w, hb, hs, h⟩ := h
  refine ⟨wa, Hf, sD, w, hb, hs, ?_⟩
  unfold eNL at h
  cases ea : As sD w with
  | ok ds w1 =>
    rw [ea] at h
    intro H1 Hf1 g1 b1 p vs n e1 e2 e3 rv
    have ex : Ex Hf1 (upd Hf1 p (.lst vs)) := Ex.new e2
    have g2 : Go wa H Hf H1 (upd Hf1 p (.lst vs)) := ⟨g1.keepN, g1.ex.trans ex, fun a o t h => by rw [upd_ne (ne_of_fr h t.1 n)]; exact g1.newN a o t h, g1.thereN⟩
    have b2 : Base wa (upd Hf1 p (.lst vs)) H1 w1 := ⟨fun a u h => by
      by_cases hp : a = p
      · subst hp; rw [upd_same] at h; rw [← h]; exact e1
      · rw [upd_ne hp] at h; exact b1.ex a u h, b1.well, by rw [upd_ne (Ne.symm e3)]; exact b1.nw, b1.tb, nt_upd b1.nt nt_lst, b1.od.trans ex⟩
    have po : OldT.old p = none := Evl.fresh_back b1.od e2
    exact h H1 _ g2 b2 (.ref p) (.nl upd_same po (rv.mono ex))
  | er x w1 => rw [ea] at h; exact h
  | no => rw [ea] at h; exact h
theorem pd_NL (h : PE X e (lfL mg W As)) : PE X e (lE mg W (eNL As)) := weakE h fun _ _ _ q => eNL_ok q
/-- the same, that it is new is forgotten -/
def eWk (E : DE) : DE := fun s w => match E s w with
  | .ok (.nl xs) w1 => .ok (.lst xs) w1
  | r => r
theorem pd_wk (h : PE X e (lE mg W E)) : PE X e (lE mg W (eWk E)) := weakE h fun σ H Q q => by
  obtain ⟨wa, Hf, sD, w, hb, hs, q⟩ := q
  refine ⟨wa, Hf, sD, w, hb, hs, ?_⟩
  unfold eWk at q
  cases e : E sD w with
  | ok d w1 =>
    rw [e] at q
    cases d with
    | nl xs => exact fun H1 Hf1 g b v rv => q H1 Hf1 g b v (by cases rv with | nl h1 o r => exact .lst h1 r)
    | _ => exact q
  | er x w1 => rw [e] at q; exact q
  | no => rw [e] at q; exact q
/-- a list, or a new one -/
def lst? : D → Option (List D)
  | .lst xs => some xs
  | .nl xs => some xs
  | _ => none
theorem lst?_rep {wa : Addr} {Hf : Hp} {v : V} {d : D} {xs : List D} (r : Rep wa Hf v d) (h : lst? d = some xs) : ∃ p vs, v = .ref p ∧ Hf p = some (.lst vs) ∧ Reps wa Hf vs xs := by
  cases d with
  | lst ys => cases h; cases r with | lst h1 r1 => exact ⟨_, _, rfl, h1, r1⟩
  | nl ys => cases h; cases r with | nl h1 o r1 => exact ⟨_, _, rfl, h1, r1⟩
  | _ => cases h
def aCat (A B : DE) : DA := fun s w => (A s w).bind fun x w1 => (B s w1).bind fun y w2 => match lst? x, lst? y with
  | some xs, some ys => if xs.length + ys.length ≤ lim then .ok (xs ++ ys) w2 else .no
  | _, _ => .no
theorem pl_cat (ha : PE X a (lE mg W A)) (hb : PE X b (lE mg W B)) : PE X (.BinOp a .Add b pos) (lfL mg W (aCat A B)) := weakE (pe_op op_cat ha hb) fun σ H Q h => by
  obtain ⟨wa, Hf, sD, w, hb, hs, h⟩ := h
  refine ⟨wa, Hf, sD, w, hb, hs, h.bind.mono (fun x w1 H1 Hf1 g1 b1 q v rv => ?_) (fun _ _ _ _ _ _ q => q)⟩
  refine ⟨wa, Hf1, sD, w1, b1, hs.go g1, q.bind.mono (fun y w2 H2 Hf2 g2 b2 q2 v2 rv2 => ?_) (fun _ _ _ _ _ _ q => q)⟩
  split at q2
  · rename_i xs ys hx hy
    split at q2
    · rename_i hz
      obtain ⟨p, vs, rfl, h1, r1⟩ := lst?_rep rv hx
      obtain ⟨p2, vs2, rfl, h2, r2⟩ := lst?_rep rv2 hy
      have r1' := r1.mono g2.ex
      refine ⟨p, p2, vs, vs2, rfl, rfl, b2.ex _ _ (g2.ex _ _ h1), b2.ex _ _ h2, by rw [r1.length, r2.length]; exact lim_le hz, fun q hq => ?_⟩
      exact q2 _ _ (Go.new1 hq) (b2.new1 hq) q _ ((g1.trans g2).free hq) upd_same (Evl.fresh_back b2.ex hq) (fun z => by rw [z, b2.well] at hq; cases hq) (r1'.append r2)
    · exact q2.elim
  · exact q2.elim
end
mutual
def nlFree : D → Bool
  | .nl _ => false
  | .own _ => false
  | .dct _ _ => false
  | .dcf _ ds => nlFrees ds
  | .lst ds => nlFrees ds
  | .tup ds => nlFrees ds
  | _ => true
def nlFrees : List D → Bool
  | [] => true
  | d :: r => nlFree d && nlFrees r
end
def nlFreeO : Option D → Bool
  | some (.own ds) => nlFrees ds
  | some (.dct _ ds) => nlFrees ds
  | some d => nlFree d
  | none => true
section
variable {h' : Hp} {wa : Addr} {Hf H : Hp}
mutual
theorem Rep.turn : ∀ {v : V} {d : D}, Rep wa Hf v d → nlFree d = true → @Rep ⟨h'⟩ wa Hf v d
  | _, _, .non, _ => @Rep.non ⟨h'⟩ wa Hf
  | _, _, .bl b, _ => @Rep.bl ⟨h'⟩ wa Hf b
  | _, _, .int b, _ => @Rep.int ⟨h'⟩ wa Hf b
  | _, _, .str b, _ => @Rep.str ⟨h'⟩ wa Hf b
  | _, _, .lst h r, n => @Rep.lst ⟨h'⟩ wa Hf _ _ _ h (Reps.turn r (by simpa [nlFree] using n))
  | _, _, .tup h r, n => @Rep.tup ⟨h'⟩ wa Hf _ _ _ h (Reps.turn r (by simpa [nlFree] using n))
  | _, _, .well, _ => @Rep.well ⟨h'⟩ wa Hf
  | _, _, .ref a, _ => @Rep.ref ⟨h'⟩ wa Hf a
  | _, _, .ty a, _ => @Rep.ty ⟨h'⟩ wa Hf a
  | _, _, .nl _ _ _, n => by simp [nlFree] at n
  | _, _, .dft h k r, n => @Rep.dft ⟨h'⟩ wa Hf _ _ _ _ _ h k (Reps.turn r (by simpa [nlFree] using n))
  | _, _, .dfk h k r, n => @Rep.dfk ⟨h'⟩ wa Hf _ _ _ _ _ h k (Reps.turn r (by simpa [nlFree] using n))
theorem Reps.turn : ∀ {vs : List V} {ds : List D}, Reps wa Hf vs ds → nlFrees ds = true → @Reps ⟨h'⟩ wa Hf vs ds
  | _, _, .nil, _ => @Reps.nil ⟨h'⟩ wa Hf
  | _, _, .cons h r, n => by
    have n' := n
    simp only [nlFrees, Bool.and_eq_true] at n'
    exact @Reps.cons ⟨h'⟩ wa Hf _ _ _ _ (Rep.turn h n'.1) (Reps.turn r n'.2)
end
theorem Slots.turn {σ : L2.St} {s : Sl} (x : Slots wa Hf H σ s) (h : s.all nlFreeO = true) : @Slots ⟨h'⟩ wa Hf H σ s := by
  refine @Slots.mk ⟨h'⟩ wa Hf H σ s x.len (fun i d e n => ?_) (fun i xs e => ?_) (fun i ks xs e => ?_) fun i j xs ys p e1 n1 e2 n2 e3 e4 => x.inj i j xs ys p e1 n1 e2 n2 e3 e4
  · obtain ⟨v, h1, h2⟩ := x.val i d e n
    have h3 := List.all_eq_true.mp h _ (List.mem_of_getElem? e)
    have h4 : nlFree d = true := by
      cases d <;> first | exact h3 | exact absurd isO_own n | exact absurd isO_dct n
    exact ⟨v, h1, h2.turn h4⟩
  · obtain ⟨p, vs, h1, h2, h3, h4, h5⟩ := x.own i xs e
    have h6 := List.all_eq_true.mp h _ (List.mem_of_getElem? e)
    exact ⟨p, vs, h1, h2, h3, h4, h5.turn h6⟩
  · obtain ⟨p, o, h1, h2, h3, h4, h5⟩ := x.dic i ks xs e
    have h6 := List.all_eq_true.mp h _ (List.mem_of_getElem? e)
    refine ⟨p, o, h1, h2, h3, h4, ?_⟩
    cases h5 with
    | t k r => exact @DicR.t ⟨h'⟩ _ _ _ _ _ k (r.turn h6)
    | k k r => exact @DicR.k ⟨h'⟩ _ _ _ _ _ k (r.turn h6)
end
/-- what may stand in a told list: a tuple of ints -/
def plainT : D → Bool
  | .tup ds => (ints? ds).isSome
  | .int _ => true
  | _ => false
theorem ints_stay {o o' : OldT} {wa : Addr} {Hf Hf' : Hp} : ∀ {ns : List Int} {vs : List V}, @Reps o wa Hf vs (ns.map D.int) → @Reps o' wa Hf' vs (ns.map D.int) := by
  intro ns
  induction ns with
  | nil => intro vs h; cases h; exact @Reps.nil o' wa Hf'
  | cons n ns ih =>
    intro vs h
    cases h with
    | cons r rs => exact @Reps.cons o' wa Hf' _ _ _ _ (by cases r; exact @Rep.int o' wa Hf' n) (ih rs)
/-- without one address -/
def delH (Hf : Hp) (p : Addr) : Hp := fun a => if a = p then none else Hf a
theorem delH_same {Hf : Hp} {p : Addr} : delH Hf p p = none := by unfold delH; rw [if_pos rfl]
theorem delH_ne {Hf : Hp} {p a : Addr} (h : a ≠ p) : delH Hf p a = Hf a := by unfold delH; rw [if_neg h]
theorem plain_stay {o o' : OldT} {wa p : Addr} {Hf Hf' : Hp} {us : List V} (hp : Hf p = some (.lst us)) (k : ∀ a u, a ≠ p → Hf a = some u → Hf' a = some u) : ∀ {ds : List D} {vs : List V}, ds.all plainT = true → @Reps o wa Hf vs ds → @Reps o' wa Hf' vs ds := by
  intro ds
  induction ds with
  | nil => intro vs _ h; cases h; exact @Reps.nil o' wa Hf'
  | cons d ds ih =>
    intro vs h hr
    cases hr with
    | cons r rs =>
      rw [List.all_cons, Bool.and_eq_true] at h
      refine @Reps.cons o' wa Hf' _ _ _ _ ?_ (ih h.2 rs)
      cases d with
      | tup ys =>
        have h1 : (ints? ys).isSome = true := h.1
        cases e : ints? ys with
        | none => rw [e] at h1; cases h1
        | some ns =>
          have := ints?_some e
          subst this
          cases r with
          | tup ht rt =>
            refine @Rep.tup o' wa Hf' _ _ _ (k _ _ (fun z => ?_) ht) (ints_stay rt)
            rw [z, hp] at ht
            cases ht
      | int n => cases r; exact @Rep.int o' wa Hf' n
      | _ => exact absurd h.1 (by simp [plainT])
section
variable {X : Cx} {mg : Str → Option Value} {W : WX} {e : Expr} {E : DE} {st : Stmt}
/-- what a def tells as a new list: such a one -/
def aNew (E : DE) : DA := fun s w => if s.all nlFreeO = true then match E s w with
  | .ok (.nl xs) w1 => if xs.all plainT = true then .ok xs w1 else .no
  | _ => .no
  else .no
theorem pl_new (h : ∀ o : OldT, PE X e (@lE _ o mg W E)) : PE X e (lfL mg W (aNew E)) := by
  refine weakE (⟨fun pins s σ H Q I ⟨o, q⟩ => (h o).run pins s σ H Q I q⟩ : PE X e fun σ H Q => ∃ o : OldT, @lE _ o mg W E σ H Q) fun σ H Q q => ?_
  obtain ⟨wa, Hf, sD, w, hb, hs, q⟩ := q
  unfold aNew at q
  split at q
  · rename_i hfree
    refine ⟨⟨Hf⟩, wa, Hf, sD, w, @Base.mk _ ⟨Hf⟩ wa Hf H w hb.ex hb.well hb.nw hb.tb hb.nt (Ex.refl _), hs.turn hfree, ?_⟩
    split at q
    · rename_i xs w1 e1
      split at q
      · rename_i hpl
        rw [e1]
        intro H1 Hf1 g1 b1 v rv
        obtain ⟨bex, bwell, bnw, btb, bnt, _⟩ := b1
        obtain ⟨p, vs, rfl, h1, ho, r1⟩ : ∃ p vs, v = V.ref p ∧ Hf1 p = some (.lst vs) ∧ Hf p = none ∧ @Reps ⟨Hf⟩ wa Hf1 vs xs := by
          cases rv with
          | nl h1 o r1 => exact ⟨_, _, rfl, h1, o, r1⟩
        have hpw : p ≠ wa := fun z => by rw [z, bnw] at h1; cases h1
        have hHp : Fr H p := fun o e2 t => by
          have hk := g1.keepN p o hpw t e2
          rw [bex _ _ h1] at hk
          cases hk
          have := g1.newN p _ nu_lst e2
          rw [h1, ho] at this
          cases this
        have ex' : Ex Hf (delH Hf1 p) := fun a u ha => by
          have : a ≠ p := fun z => by rw [z, ho] at ha; cases ha
          rw [delH_ne this]
          exact g1.ex a u ha
        have go : Go wa H Hf H1 (delH Hf1 p) := ⟨g1.keepN, ex', fun a o t ha => by
          have : a ≠ p := fun z => by rw [z] at ha; exact hHp o ha t.1
          rw [delH_ne this]
          exact g1.newN a o t ha, g1.thereN⟩
        have b' : Base wa (delH Hf1 p) H1 w1 := ⟨fun a u ha => by
          by_cases hp : a = p
          · subst hp; rw [delH_same] at ha; cases ha
          · rw [delH_ne hp] at ha; exact bex a u ha, bwell, by rw [delH_ne (Ne.symm hpw)]; exact bnw, btb, fun a u ha => by
          by_cases hp : a = p
          · subst hp; rw [delH_same] at ha; cases ha
          · rw [delH_ne hp] at ha; exact bnt a u ha, hb.od.trans ex'⟩
        exact q H1 _ go b' p vs hHp (bex _ _ h1) (delH_same) hpw (plain_stay h1 (fun a u n ha => by rw [delH_ne n]; exact ha) hpl r1)
      · exact q.elim
    · exact q.elim
  · exact q.elim
/-- x.clear() -/
def sClr (i : Nat) : DS := fun s w => match s[i]? with
  | some (some (.own _)) => .nx (s.set i (some (.own []))) w
  | _ => .no
theorem sd_clr {i : Nat} (h : PS X st (tDrop (tBM0 X.K "list" rClear (tVar i)))) : PS X st (lS mg W (sClr i)) := weakS h fun D σ H h => by
  obtain ⟨wa, Hf, sD, w, H0, Hf0, g, b, hs, ho, h⟩ := h
  unfold sClr at h
  split at h
  · rename_i xs hi
    obtain ⟨p, vs, k1, k2, k3, k4, k5⟩ := hs.own i xs hi
    refine ⟨.ref p, k1, .inl ⟨rfl, vs, SqL.of k2⟩, p, vs, rfl, rfl, k2, ?_⟩
    have h0 : Fr H0 p := ho i _ p hi isO_own k1
    refine h σ _ Hf (g.appF h0) (Ex.refl _) (b.appL k3 k4 k2) (hs.write hi k1 .nil) (ho.sub fun j ye hj io => ?_)
    by_cases hji : j = i
    · subst hji
      exact ⟨_, hi, isO_own⟩
    · rw [List.getElem?_set_ne (Ne.symm hji)] at hj
      exact ⟨ye, hj, io⟩
  · exact h.elim
end
@[simp] theorem okE_nl {A : DA} {s : Sl} {w : Wl} {Q : D → Wl → Prop} : okE (eNL A s w) Q = okE (A s w) fun x w1 => Q (.nl x) w1 := by unfold eNL; cases A s w <;> rfl
@[simp] theorem okE_aCat {A B : DE} {s : Sl} {w : Wl} {Q : List D → Wl → Prop} : okE (aCat A B s w) Q = okE (A s w) fun x w1 => okE (B s w1) fun y w2 => match lst? x, lst? y with
    | some xs, some ys => xs.length + ys.length ≤ lim ∧ Q (xs ++ ys) w2
    | _, _ => False := by
  unfold aCat
  simp only [okE_bind]
  congr; funext x w1; congr; funext y w2
  cases lst? x <;> cases lst? y <;> try rfl
  rename_i xs ys
  show okE (if xs.length + ys.length ≤ lim then R.ok (xs ++ ys) w2 else .no) Q = _
  by_cases h : xs.length + ys.length ≤ lim
  · rw [if_pos h]; simp [okE, h]
  · rw [if_neg h]; simp [okE, h]
theorem wk_ok {E : DE} {s : Sl} {w w1 : Wl} {xs : List D} (h : E s w = .ok (.nl xs) w1) : eWk E s w = .ok (.lst xs) w1 := by unfold eWk; rw [h]
@[simp] theorem okS_clr {i : Nat} {s : Sl} {w : Wl} {N : Sl → Wl → Prop} {Z : D → Wl → Prop} : okS (sClr i s w) N Z = match s[i]? with
    | some (some (.own _)) => N (s.set i (some (.own []))) w
    | _ => False := by unfold sClr; split <;> rfl
end DL

set_option maxHeartbeats 2000000
namespace DL
open PySem PySem.Spec PyProof.Rows L2
variable [TabT] [OldT]
open Evl (Ex)
/-! ### an own list is lent to an expression, and is own again behind it -/
def kindD : D → Nat
  | .int _ => 1
  | .bl _ => 2
  | .str _ => 3
  | .non => 4
  | .lst _ => 5
  | .tup _ => 6
  | _ => 0
mutual
/-- nowhere in it a list whose first item is of this kind -/
def avoidD (k : Nat) : D → Bool
  | .lst ds => (match ds with
    | [] => true
    | y :: _ => kindD y != 0 && kindD y != k) && avoidDs k ds
  | .tup ds => avoidDs k ds
  | .nl _ => false
  | .dcf _ _ => false
  | _ => true
def avoidDs (k : Nat) : List D → Bool
  | [] => true
  | d :: ds => avoidD k d && avoidDs k ds
end
section
variable {wa : Addr} {Hf Hf' H H' : Hp} {p : Addr}
theorem kind_uniq {v : V} {d d' : D} (r : Rep wa Hf v d) (r' : Rep wa Hf v d') (h : kindD d ≠ 0) (h' : kindD d' ≠ 0) : kindD d = kindD d' := by
  cases r with
  | non => cases r' <;> first | rfl | exact absurd rfl h'
  | bl b => cases r' <;> first | rfl | exact absurd rfl h'
  | int b => cases r' <;> first | rfl | exact absurd rfl h'
  | str b => cases r' <;> first | rfl | exact absurd rfl h'
  | lst h1 r1 =>
    cases r' with
    | lst h2 r2 => rfl
    | tup h2 r2 => rw [h1] at h2; cases h2
    | _ => exact absurd rfl h'
  | tup h1 r1 =>
    cases r' with
    | lst h2 r2 => rw [h1] at h2; cases h2
    | tup h2 r2 => rfl
    | _ => exact absurd rfl h'
  | _ => exact absurd rfl h
mutual
theorem Rep.del {v0 : V} {vs : List V} {y : D} (hp : Hf p = some (.lst (v0 :: vs))) (r0 : Rep wa Hf v0 y) (k0 : kindD y ≠ 0) : ∀ {v : V} {d : D}, Rep wa Hf v d → avoidD (kindD y) d = true → Rep wa (delH Hf p) v d
  | _, _, .non, _ => .non
  | _, _, .bl b, _ => .bl b
  | _, _, .int b, _ => .int b
  | _, _, .str b, _ => .str b
  | _, _, .well, _ => .well
  | _, _, .ref a, _ => .ref a
  | _, _, .ty a, _ => .ty a
  | _, .tup ds, .tup (a := a) h r, c => by
    have hne : a ≠ p := fun e => by rw [e, hp] at h; cases h
    exact .tup ((delH_ne hne).trans h) (Reps.del hp r0 k0 r c)
  | _, .nl ds, .nl (a := a) h o r, c => by cases c
  | _, .dcf _ _, .dft _ _ _, c => by cases c
  | _, .dcf _ _, .dfk _ _ _, c => by cases c
  | _, .lst ds, .lst (a := a) h r, c => by
    unfold avoidD at c
    rw [Bool.and_eq_true] at c
    by_cases hne : a = p
    · exfalso
      rw [hne, hp] at h
      cases h
      cases r with
      | cons r1 r2 =>
        have c1 := c.1
        simp only [Bool.and_eq_true, bne_iff_ne, ne_eq] at c1
        exact c1.2 (kind_uniq r1 r0 c1.1 k0)
    · exact .lst ((delH_ne hne).trans h) (Reps.del hp r0 k0 r c.2)
theorem Reps.del {v0 : V} {vs : List V} {y : D} (hp : Hf p = some (.lst (v0 :: vs))) (r0 : Rep wa Hf v0 y) (k0 : kindD y ≠ 0) : ∀ {us : List V} {ds : List D}, Reps wa Hf us ds → avoidDs (kindD y) ds = true → Reps wa (delH Hf p) us ds
  | _, _, .nil, _ => .nil
  | _, d :: ds, .cons h r, c => by
    unfold avoidDs at c
    rw [Bool.and_eq_true] at c
    exact .cons (Rep.del hp r0 k0 h c.1) (Reps.del hp r0 k0 r c.2)
end
/-- back to before, the lent list being own -/
theorem lent_back {w1 : Wl} {vs : List V} (b : Base wa Hf H w1) (k3 : Hf p = none) (k4 : p ≠ wa) {w2 : Wl} (g : Go wa H (upd Hf p (.lst vs)) H' Hf') (b' : Base wa Hf' H' w2) : Go wa H Hf H' (delH Hf' p) ∧ Base wa (delH Hf' p) H' w2 :=
  ⟨⟨g.keepN, fun a o e => by
      have hne : a ≠ p := fun z => by rw [z, k3] at e; cases e
      rw [delH_ne hne]
      exact g.ex a o (by rw [upd_ne hne]; exact e), fun a o t e => by
      by_cases ha : a = p
      · subst ha; rw [delH_same, k3]
      · rw [delH_ne ha, g.newN a o t e, upd_ne ha], g.thereN⟩,
   ⟨fun a o e => by
      by_cases ha : a = p
      · subst ha; rw [delH_same] at e; cases e
      · rw [delH_ne ha] at e; exact b'.ex a o e, b'.well, by rw [delH_ne (Ne.symm k4)]; exact b'.nw, b'.tb, fun a o e => by
      by_cases ha : a = p
      · subst ha; rw [delH_same] at e; cases e
      · rw [delH_ne ha] at e; exact b'.nt a o e, fun a o e => by
      have hne : a ≠ p := fun z => by rw [z, Evl.fresh_back b.od k3] at e; cases e
      rw [delH_ne hne]; exact b'.od a o e⟩⟩
theorem frz_base {w : Wl} {vs : List V} (b : Base wa Hf H w) (k3 : Hf p = none) (k2 : H p = some (.lst vs)) (k4 : p ≠ wa) : Base wa (upd Hf p (.lst vs)) H w :=
  ⟨fun a u q => by
    by_cases ha : a = p
    · subst ha; rw [upd_same] at q; rw [← q]; exact k2
    · rw [upd_ne ha] at q; exact b.ex a u q, b.well, by rw [upd_ne (Ne.symm k4)]; exact b.nw, b.tb, nt_upd b.nt nt_lst, b.od.trans (Ex.new k3)⟩
end
def lendE (i : Nat) (E : DE) : DE := fun s w => match s[i]? with
  | some (some (.own (y :: ys))) => match E (s.set i (some (.lst (y :: ys)))) w with
    | .ok d w1 => if kindD y ≠ 0 ∧ avoidD (kindD y) d = true then .ok d w1 else .no
    | _ => .no
  | _ => E s w
def lendT (i : Nat) (T : DT) : DT := fun s w => match s[i]? with
  | some (some (.own (y :: ys))) => match T (s.set i (some (.lst (y :: ys)))) w with
    | .ok k w1 => .ok k w1
    | _ => .no
  | _ => T s w
section
variable {X : Cx} {mg : Str → Option Value} {W : WX} {e : Expr} {A : DE} {T : DT} {σ : L2.St} {H : Hp}
theorem lendE_ok {i : Nat} {Q : VK} (h : lE mg W (lendE i A) σ H Q) : lE mg W A σ H Q := by
  obtain ⟨wa, Hf, sD, w, hb, hs, h⟩ := h
  unfold lendE at h
  split at h
  · rename_i y ys hi
    obtain ⟨p, vs, k1, k2, k3, k4, k5⟩ := hs.own i _ hi
    refine ⟨wa, upd Hf p (.lst vs), _, w, frz_base hb k3 k2 k4, hs.frz hi k1 k2, ?_⟩
    cases eA : A (sD.set i (some (.lst (y :: ys)))) w with
    | no => rw [eA] at h; exact h.elim
    | er x w1 => rw [eA] at h; exact h.elim
    | ok d w1 =>
      rw [eA] at h
      simp only at h
      split at h
      · rename_i hc
        intro H' Hf' g b v rv
        obtain ⟨g2, b2⟩ := lent_back hb k3 k4 g b
        cases k5 with
        | cons r0 r1 =>
          have hp := g.ex p _ upd_same
          have r0' := (r0.mono (Ex.new k3)).mono g.ex
          exact h H' _ g2 b2 v (Rep.del hp r0' hc.1 rv hc.2)
      · exact h.elim
  · exact ⟨wa, Hf, sD, w, hb, hs, h⟩
theorem lendT_ok {i : Nat} {Q : Bool → Hp → Prop} (h : lT mg W (lendT i T) σ H Q) : lT mg W T σ H Q := by
  obtain ⟨wa, Hf, sD, w, hb, hs, h⟩ := h
  unfold lendT at h
  split at h
  · rename_i y ys hi
    obtain ⟨p, vs, k1, k2, k3, k4, k5⟩ := hs.own i _ hi
    refine ⟨wa, upd Hf p (.lst vs), _, w, frz_base hb k3 k2 k4, hs.frz hi k1 k2, ?_⟩
    cases eA : T (sD.set i (some (.lst (y :: ys)))) w with
    | no => rw [eA] at h; exact h.elim
    | er x w1 => rw [eA] at h; exact h.elim
    | ok d w1 =>
      rw [eA] at h
      intro H' Hf' g b v rv
      obtain ⟨g2, b2⟩ := lent_back hb k3 k4 g b
      exact h H' _ g2 b2 v rv
  · exact ⟨wa, Hf, sD, w, hb, hs, h⟩
theorem pd_lend (i : Nat) (h : PE X e (lE mg W A)) : PE X e (lE mg W (lendE i A)) := weakE h fun _ _ _ q => lendE_ok q
theorem qd_lend (i : Nat) (h : PT X e (lT mg W T)) : PT X e (lT mg W (lendT i T)) := weakT h fun _ _ _ q => lendT_ok q
end
section
variable {i : Nat} {A : DE} {T : DT} {s : Sl} {w : Wl} {Q : D → Wl → Prop} {QT : Bool → Wl → Prop} {y : D} {ys : List D}
theorem okE_lend (h : s[i]? = some (some (.own (y :: ys)))) : okE (lendE i A s w) Q = okE (A (s.set i (some (.lst (y :: ys)))) w) fun d w1 => (kindD y ≠ 0 ∧ avoidD (kindD y) d = true) ∧ Q d w1 := by
  unfold lendE
  rw [h]
  simp only
  cases A (s.set i (some (.lst (y :: ys)))) w with
  | no => rfl
  | er _ _ => rfl
  | ok d w1 =>
    simp only [okE_ok]
    by_cases hc : kindD y ≠ 0 ∧ avoidD (kindD y) d = true
    · rw [if_pos hc]
      simp [hc]
    · rw [if_neg hc]
      simp only [okE_no, eq_iff_iff, false_iff]
      exact fun h => hc h.1
theorem okT_lend (h : s[i]? = some (some (.own (y :: ys)))) : okE (lendT i T s w) QT = okE (T (s.set i (some (.lst (y :: ys)))) w) QT := by
  unfold lendT
  rw [h]
  simp only
  cases T (s.set i (some (.lst (y :: ys)))) w <;> rfl
end
end DL

set_option maxHeartbeats 2000000
namespace DL
open PySem PySem.Spec PyProof.Rows L2
variable [TabT] [OldT]
/-! ### what the operations make of plain values -/
section
variable {w : Wl} {i j k n m : Nat} {a b : Int} {xs ys : List D} {s : Sl} {d x y : D} {P : D → Prop} {PA : List D → Prop} {PS : Sl → Prop}
@[simp] theorem v_add : fAdd w (.int a) (.int b) = some (.int (a + b)) := rfl
@[simp] theorem v_addT : okO (fAdd w (.tup xs) (.tup ys)) P = (xs.length + ys.length ≤ lim ∧ P (.tup (xs ++ ys))) := by unfold fAdd; simp
@[simp] theorem v_addL : okO (fAdd w (.lst xs) (.lst ys)) P = (xs.length + ys.length ≤ lim ∧ P (.lst (xs ++ ys))) := by unfold fAdd; simp
@[simp] theorem v_sub : fSub w (.int a) (.int b) = some (.int (a - b)) := rfl
@[simp] theorem v_mul : okO (fMul w (.int a) (.int b)) P = (mulOk a b ∧ P (.int (a * b))) := by unfold fMul; simp
@[simp] theorem v_div : okO (fDiv w (.int a) (.int b)) P = (divOk b ∧ P (.int (a.fdiv b))) := by unfold fDiv; simp
@[simp] theorem v_mod : okO (fMod w (.int a) (.int b)) P = (b ≠ 0 ∧ P (.int (a.fmod b))) := by unfold fMod; by_cases h : b = 0 <;> simp [h]
@[simp] theorem v_pow : okO (fPow w (.int a) (.int b)) P = ((0 ≤ b ∧ b ≤ 1000000 ∧ a.natAbs < 18446744073709551616) ∧ P (.int (a ^ b.toNat))) := by unfold fPow; simp
@[simp] theorem v_neg : fNeg w (.int a) = some (.int (-a)) := rfl
@[simp] theorem v_cmp {p : Int → Int → Bool} : fCmp p w (.int a) (.int b) = some (.bl (p a b)) := rfl
@[simp] theorem v_eq : okO (fEq w x y) P = ((okD x && okD y) = true ∧ P (.bl (eqD x y))) := by unfold fEq; simp
@[simp] theorem v_ne : okO (fNe w x y) P = ((okD x && okD y) = true ∧ P (.bl (!eqD x y))) := by unfold fNe; simp
@[simp] theorem v_lenL : fLen w [.lst xs] = some (.int xs.length) := rfl
@[simp] theorem v_lenT : fLen w [.tup xs] = some (.int xs.length) := rfl
@[simp] theorem v_max : fMax2 w [.int a, .int b] = some (.int (if b > a then b else a)) := rfl
@[simp] theorem v_min : fMin2 w [.int a, .int b] = some (.int (if b < a then b else a)) := rfl
@[simp] theorem v_abs : fAbs w [.int a] = some (.int (if a < 0 then -a else a)) := rfl
@[simp] theorem v_int : fInt w [.int a] = some (.int a) := rfl
@[simp] theorem v_intB {c : Bool} : fInt w [.bl c] = some (.int (if c then 1 else 0)) := rfl
@[simp] theorem v_sum {α : Type} {f : α → Int} {l : List α} : fSum w [.lst (l.map fun x => .int (f x))] = some (.int (l.map f).sum) := by
  have : l.map (fun x => D.int (f x)) = (l.map f).map D.int := by simp
  show ((ints? (l.map fun x => D.int (f x))).map fun ns => D.int ns.sum) = _
  rw [this, ints?_map]
  rfl
@[simp] theorem v_all {α : Type} {f : α → Bool} {l : List α} : fAll w [.lst (l.map fun x => .bl (f x))] = some (.bl (l.all f)) := by
  have : l.map (fun x => D.bl (f x)) = (l.map f).map D.bl := by simp
  show ((bls? (l.map fun x => D.bl (f x))).map fun ns => D.bl (ns.all id)) = _
  rw [this, bls?_map]
  simp
@[simp] theorem v_any {α : Type} {f : α → Bool} {l : List α} : fAny w [.lst (l.map fun x => .bl (f x))] = some (.bl (l.any f)) := by
  have : l.map (fun x => D.bl (f x)) = (l.map f).map D.bl := by simp
  show ((bls? (l.map fun x => D.bl (f x))).map fun ns => D.bl (ns.any id)) = _
  rw [this, bls?_map]
  simp
@[simp] theorem v_tupL : fTuple w [.lst xs] = some (.tup xs) := rfl
@[simp] theorem v_tupT : fTuple w [.tup xs] = some (.tup xs) := rfl
@[simp] theorem v_lstL : fList w [.lst xs] = some xs := rfl
@[simp] theorem v_lstT : fList w [.tup xs] = some xs := rfl
@[simp] theorem v_isi1 : fIsi w [.int a, .ty "int"] = some (.bl true) := rfl
@[simp] theorem v_isi2 : fIsi w [.int a, .ty "bool"] = some (.bl false) := rfl
@[simp] theorem v_isi3 : fIsi w [.int a, .ty "tuple"] = some (.bl false) := rfl
@[simp] theorem v_isi4 : fIsi w [.int a, .ty "list"] = some (.bl false) := rfl
@[simp] theorem v_isi5 : fIsi w [.tup xs, .ty "int"] = some (.bl false) := rfl
@[simp] theorem v_isi6 : fIsi w [.tup xs, .ty "tuple"] = some (.bl true) := rfl
@[simp] theorem v_isi7 : fIsi w [.tup xs, .ty "list"] = some (.bl false) := rfl
@[simp] theorem v_isi8 : fIsi w [.lst xs, .ty "int"] = some (.bl false) := rfl
@[simp] theorem v_isi9 : fIsi w [.lst xs, .ty "tuple"] = some (.bl false) := rfl
@[simp] theorem v_isi10 : fIsi w [.lst xs, .ty "list"] = some (.bl true) := rfl
@[simp] theorem v_truB {c : Bool} : truD (.bl c) = some c := rfl
@[simp] theorem v_truI : truD (.int a) = some (a != 0) := rfl
@[simp] theorem v_truL : truD (.lst xs) = some (!xs.isEmpty) := rfl
@[simp] theorem v_truT : truD (.tup xs) = some (!xs.isEmpty) := rfl
@[simp] theorem v_gN : gN i d s = some (s.set i (some d)) := rfl
@[simp] theorem v_gNil : gNil' [] s = some s := rfl
@[simp] theorem v_gCons {G : DG} {Gs : List D → Sl → Option Sl} : okO (gCons' G Gs (d :: xs) s) PS = okO (G d s) fun s1 => okO (Gs xs s1) PS := by
  show okO ((G d s).bind fun s1 => Gs xs s1) PS = _
  cases G d s <;> rfl
@[simp] theorem v_gT {Gs : List D → Sl → Option Sl} : okO (gT Gs n (.tup xs) s) PS = (xs.length = n ∧ okO (Gs xs s) PS) := by
  show okO (if xs.length = n then Gs xs s else none) PS = _
  simp
@[simp] theorem v_ixL : fIx w (.lst xs) (.int a) = atI xs a := rfl
@[simp] theorem v_ixT : fIx w (.tup xs) (.int a) = atI xs a := rfl
@[simp] theorem v_ix0 : fIx w .well (.int 0) = some (.int w.1) := rfl
@[simp] theorem v_ix1 : fIx w .well (.int 1) = some (.int w.2.1) := rfl
@[simp] theorem v_ix2 : fIx w .well (.int 2) = some (.int w.2.2) := rfl
@[simp] theorem v_set0 : setW w 0 a = some (a, w.2.1, w.2.2) := rfl
@[simp] theorem v_set1 : setW w 1 a = some (w.1, a, w.2.2) := rfl
@[simp] theorem v_set2 : setW w 2 a = some (w.1, w.2.1, a) := rfl
theorem getS_eq : getS s i = match s[i]? with
  | some (some (.own _)) => none
  | some (some (.dct _ _)) => none
  | some (some d) => some d
  | _ => none := rfl
@[simp] theorem getS_succ {o : Option D} : getS (o :: s) (i + 1) = getS s i := rfl
@[simp] theorem getS_int : getS (some (.int a) :: s) 0 = some (.int a) := rfl
@[simp] theorem getS_bl {c : Bool} : getS (some (.bl c) :: s) 0 = some (.bl c) := rfl
@[simp] theorem getS_str {c : Str} : getS (some (.str c) :: s) 0 = some (.str c) := rfl
@[simp] theorem getS_non : getS (some .non :: s) 0 = some .non := rfl
@[simp] theorem getS_lst : getS (some (.lst xs) :: s) 0 = some (.lst xs) := rfl
@[simp] theorem getS_tup : getS (some (.tup xs) :: s) 0 = some (.tup xs) := rfl
@[simp] theorem getS_well : getS (some .well :: s) 0 = some .well := rfl
@[simp] theorem wipeS_nil : wipeS s [] = s := rfl
@[simp] theorem wipeS_cons {vs : List Nat} : wipeS s (i :: vs) = (wipeS s vs).set i none := rfl
@[simp] theorem frzS_zero : frzS 0 (some (.own xs) :: s) = some (.lst xs) :: s := rfl
@[simp] theorem frzS_lst : frzS 0 (some (.lst xs) :: s) = some (.lst xs) :: s := rfl
@[simp] theorem frzS_tup : frzS 0 (some (.tup xs) :: s) = some (.tup xs) :: s := rfl
@[simp] theorem frzS_succ {o : Option D} : frzS (i + 1) (o :: s) = o :: frzS i s := by
  unfold frzS
  rw [List.getElem?_cons_succ]
  cases s[i]? with
  | none => rfl
  | some q =>
    cases q with
    | none => rfl
    | some d => cases d <;> rfl
@[simp] theorem seqD_lst : seqD (.lst xs) = some (false, xs) := rfl
@[simp] theorem seqD_tup : seqD (.tup xs) = some (true, xs) := rfl
@[simp] theorem putS_nil : putS s [] [] = some s := rfl
@[simp] theorem putS_cons {is : List Nat} : putS s (i :: is) (d :: xs) = putS (s.set i (some d)) is xs := rfl
@[simp] theorem rng1_int : okO (rng1D [.int a]) PA = ((-4611686018427387904 ≤ a ∧ a < 4611686018427387904) ∧ PA (upTo 0 a.toNat)) := by unfold rng1D; simp
@[simp] theorem rng2_int : okO (rng2D [.int a, .int b]) PA = (((-4611686018427387904 ≤ a ∧ a < 4611686018427387904) ∧ -4611686018427387904 ≤ b ∧ b < 4611686018427387904) ∧ PA (upTo a (b - a).toNat)) := by unfold rng2D; simp
@[simp] theorem enm1_lst : enm1D [.lst xs] = some (enumD xs) := rfl
theorem zip2_two {p q : Bool} (h1 : seqD x = some (p, xs)) (h2 : seqD y = some (q, ys)) : zip2D [x, y] = some (zipD xs ys) := by simp [zip2D, h1, h2]
@[simp] theorem zip2_tt : zip2D [.tup xs, .tup ys] = some (zipD xs ys) := rfl
@[simp] theorem zip2_tl : zip2D [.tup xs, .lst ys] = some (zipD xs ys) := rfl
@[simp] theorem zip2_lt : zip2D [.lst xs, .tup ys] = some (zipD xs ys) := rfl
@[simp] theorem zip2_ll : zip2D [.lst xs, .lst ys] = some (zipD xs ys) := rfl
@[simp] theorem zip3_ttl {zs : List D} : zip2D [.tup xs, .tup ys, .lst zs] = some (zip3D xs ys zs) := rfl
theorem mulOk_of {a b : Int} {i j : Nat} (ha : a.natAbs < 2 ^ i) (hb : b.natAbs < 2 ^ j) (hi : 0 < i) (hj : 0 < j) (h : i + j ≤ 1000000) : mulOk a b := by
  have x := PySem.Flt.log2_lt_of hi ha
  have y := PySem.Flt.log2_lt_of hj hb
  unfold mulOk
  omega
theorem divOk_of {b : Int} (h0 : b ≠ 0) (hb : b.natAbs < 2 ^ 9000) : divOk b := ⟨h0, PySem.Flt.log2_lt_of (by decide) hb⟩
/-- two lists by one of pairs -/
theorem zipD_map {α : Type} {f g : α → D} {l : List α} : zipD (l.map f) (l.map g) = l.map fun x => .tup [f x, g x] := by
  unfold zipD
  rw [List.zip_map', List.map_map]
  rfl
theorem zipD_maps {α β : Type} {f : α → D} {g : β → D} {l : List α} {m : List β} : zipD (l.map f) (m.map g) = (l.zip m).map fun x => .tup [f x.1, g x.2] := by
  unfold zipD
  rw [List.zip_map, List.map_map]
  rfl
theorem zip3D_maps {α β γ : Type} {f : α → D} {g : β → D} {h : γ → D} {l : List α} {m : List β} {n : List γ} : zip3D (l.map f) (m.map g) (n.map h) = (l.zip (m.zip n)).map fun x => .tup [f x.1, g x.2.1, h x.2.2] := by
  unfold zip3D
  rw [List.zip_map, List.zip_map, List.map_map]
  rfl
theorem zip3D_map {α : Type} {f g h : α → D} {l : List α} : zip3D (l.map f) (l.map g) (l.map h) = l.map fun x => .tup [f x, g x, h x] := by
  unfold zip3D
  rw [List.zip_map', List.zip_map', List.map_map]
  rfl
end
end DL

set_option maxHeartbeats 4000000
namespace DL
open PySem PySem.Spec PyProof.Rows L2
variable [TabT] [OldT]
open Evl (Ex)
/-! ### enumerate, of a list or a tuple -/
theorem enum_new {v : Value} {o : Obj} {G : Heap → Prop} (B : Begins v o G) :
    Meets (Builtin.«enumerate.__new__» ⟨[.type "enumerate", v], []⟩) (fun _ R s => G s.heap ∧
      R (.ok (.ret (.ref (s.heap.push o).objs.size))) { s with heap := (s.heap.push o).push { cls := .type "enumerate", data := .fields #[.none, .bool false, .ref s.heap.objs.size, rawInt 0, .none, .none] } }) :=
  .of_wp fun prog w A R s hh => by
    obtain ⟨hp, ge, dr, tk, os⟩ := s
    obtain ⟨g1, hh⟩ := hh
    have sub := sub_enumerate
    have begun : ∀ {A' : Around} {E : Value → Shared → Prop} {Q : Value → Shared → Prop}, Q (.ref hp.objs.size) ⟨hp.push o, ge, dr, tk, os⟩ → wpAny (model prog w) A' (pyIter v) Q E ⟨hp, ge, dr, tk, os⟩ :=
      fun z => B.iter prog w _ _ ⟨hp, ge, dr, tk, os⟩ _ g1 z
    wp_walk using begun
    refine wpAny_stack_any fun st => wpAny_pure ?_
    split
    · rename_i c _ _ _ _ _
      cases (c == Value.type "enumerate") <;> (wp_walk using begun; exact ⟨_, rfl, hh⟩)
    · wp_walk using begun
      exact ⟨_, rfl, hh⟩
theorem enum_call {prog : Program} {w : World} {A : Around} {E : Value → Shared → Prop} {s : Shared} {v : Value} {o : Obj} {G : Heap → Prop} {Q : Value → Shared → Prop} (B : Begins v o G) (g1 : G s.heap)
    (q : ∀ h', IsEnum h' (s.heap.objs.size + 1) s.heap.objs.size 0 .none → h'.get? s.heap.objs.size = some o → (∀ b u, s.heap.get? b = some u → h'.get? b = some u) → Q (.ref (s.heap.objs.size + 1)) { s with heap := h' }) :
    wpAny (model prog w) A (call (.type "enumerate") [v]) Q E s := by
  refine callType_new F.called_enumerate (by decide) (F.typeCall_enumerate_1 _) (F.newCall_enumerate_1 _) (fun obj => F.args_object_init_2 obj _) F.entry_enumerate_new (enum_new B) ⟨g1, ?_⟩
  have sz : (s.heap.push o).objs.size = s.heap.objs.size + 1 := Heap.size_push ..
  show _ ∧ _
  rw [sz]
  have en : IsEnum ((s.heap.push o).push { cls := .type "enumerate", data := .fields #[.none, .bool false, .ref s.heap.objs.size, rawInt 0, .none, .none] }) (s.heap.objs.size + 1) s.heap.objs.size 0 .none := by
    have z := Heap.get?_push_size (s.heap.push o) (o := { cls := .type "enumerate", data := .fields #[.none, .bool false, .ref s.heap.objs.size, rawInt 0, .none, .none] }) rfl
    rw [sz] at z
    exact z
  exact ⟨⟨_, en, rfl⟩, q _ en (Heap.get?_push_of_some _ (Heap.get?_push_size _ B.free)) fun b u y => Heap.get?_push_of_some _ (Heap.get?_push_of_some _ y)⟩
section
variable {X : Cx} {pins : List (Addr × Obj)} {σ : L2.St} {H : Hp} {s : Shared}
def ItE (k : Bool) (a : Addr) : It :=
  ⟨fun i H => ∃ xs : List V, H a = some (hoK k xs) ∧ i < xs.length,
    fun i H v H' => ∃ T x, v = .ref T ∧ H T = none ∧ H' = upd H T (.tup [.int (i : Nat), x]) ∧ ∀ xs, H a = some (hoK k xs) → xs[i]? = some x,
    fun i H => ∃ xs : List V, H a = some (hoK k xs) ∧ i = xs.length⟩
theorem turn_e {P : Program} {w : World} {K : PySem.W.Frag} {elts : List Expr} {kk : Nat} {tpos : Pos} {k : Bool} {n a : Addr} (la : a < n) :
    Turn P w K (.Tuple elts kk tpos) (ItE k a) [n + 1, n] (n + 1) (fun i h => (∃ old, IsEnum h (n + 1) n (0 + (i : Int)) old) ∧ SI k h n a i) where
  mem := by simp
  obj := fun i h st c hc => by
    obtain ⟨⟨old, he⟩, h1⟩ := st
    rcases List.mem_cons.mp hc with q | q
    · rw [q]; exact ⟨_, he, fun v z => nomatch z⟩
    · rw [List.mem_singleton.mp q]; exact h1.obj
  keep := fun i h h' st k => by
    obtain ⟨⟨old, he⟩, h1⟩ := st
    exact ⟨⟨old, k _ (by simp) _ he⟩, h1.at fun o q => k _ (by simp) o q⟩
  item := by
    intro X hP hw hK hc i pins s σ H E I hf st hg
    subst hP hw hK
    obtain ⟨he, h1⟩ := st
    obtain ⟨xs, ha, hx⟩ := hg
    obtain ⟨its, rv, p, _⟩ := seqAt I ha
    have hh := I.ok.hd hc
    have na : (n + 1 : Addr) ∉ ([n, a] : List Addr) := mem2 (Nat.succ_ne_self _) (Nat.ne_of_gt (Nat.lt_succ_of_lt la))
    have W := GoesN.enumFrom (elts := elts) (x1 := kk) (pos := tpos) 0 (draws_SI (prog := X.prog) (w := X.w) (A := X.A.in1) k hh n a (Nat.ne_of_lt la) its.toArray) (n + 1) (Nat.succ_ne_self _) na List.mem_cons_self
    have l1 := rv.length
    refine thn (W.goes i s (fun v s2 => ∃ x H', Inv X pins σ H' s2 ∧ RelV x v ∧ (ItE k a).yld i H x H' ∧ ((∃ old, IsEnum s2.heap (n + 1) n (0 + ((i + 1 : Nat) : Int)) old) ∧ SI k s2.heap n a (i + 1)) ∧ ∀ c ∈ [n + 1, n], H' c = none) E (by simp; omega) ⟨he, h1, p⟩ fun v h' tk hY st' hk _ => ?_) fun r s1 q => q
    obtain ⟨T, t, u, rfl, hT, e1, hTup⟩ := hY
    obtain ⟨he', h1', _⟩ := st'
    have e1 : its[i]? = some u := by simpa using e1
    have gx : xs[i]? = some xs[i] := by simp [hx]
    obtain ⟨u', f1, r1⟩ := rv.get gx
    rw [e1] at f1
    cases f1
    have new : ObjOk X.prog X.w (upd H T (.tup [.int (i : Nat), xs[i]])) h' T (.tup [.int (i : Nat), xs[i]]) := ⟨by show 2 ≤ sizeLine; decide, [_, u], .cons ⟨t, by rw [Int.zero_add]⟩ (.cons r1 .nil), hTup⟩
    have I1 : Inv X pins σ (upd H T (.tup [.int (i : Nat), xs[i]])) { s with heap := h', toks := tk } := I.turnedNew (ch := [n + 1, n]) (fun c o hcm q => hk c o (fun m => hcm (by simpa using m)) q) hf hT new
    refine ⟨.ref T, _, I1, rfl, ⟨T, _, rfl, I.hok.fresh hT, rfl, fun l hl => ?_⟩, ⟨he', h1'⟩, fun c hcm => ?_⟩
    · rw [ha] at hl
      rw [← hoK_inj (Option.some.inj hl)]
      exact gx
    · have hlt : c < s.heap.objs.size := by
        rcases List.mem_cons.mp hcm with q | q
        · obtain ⟨old, he⟩ := he
          rw [q]; exact Heap.lt_size he
        · rw [List.mem_singleton.mp q]; obtain ⟨_, e, _⟩ := h1.obj; exact Heap.lt_size e
      rw [upd_ne (Nat.ne_of_lt (Nat.lt_of_lt_of_le hlt hT))]
      exact (hf c hcm).1
  done := by
    intro X hP hw hK hc i pins s σ H E I hf st hg
    subst hP hw hK
    obtain ⟨he, h1⟩ := st
    obtain ⟨xs, ha, hi⟩ := hg
    obtain ⟨its, rv, p, _⟩ := seqAt I ha
    have hh := I.ok.hd hc
    have na : (n + 1 : Addr) ∉ ([n, a] : List Addr) := mem2 (Nat.succ_ne_self _) (Nat.ne_of_gt (Nat.lt_succ_of_lt la))
    have W := GoesN.enumFrom (elts := elts) (x1 := kk) (pos := tpos) 0 (draws_SI (prog := X.prog) (w := X.w) (A := X.A.in1) k hh n a (Nat.ne_of_lt la) its.toArray) (n + 1) (Nat.succ_ne_self _) na List.mem_cons_self
    have l1 := rv.length
    have ei : i = its.toArray.size := by simp; omega
    rw [ei] at he h1
    exact W.stops s _ E ⟨he, h1, p⟩ fun h' tk hk _ => I.turnedL (ch := [n + 1, n]) (fun c o hcm q => hk c o (fun m => hcm (by simpa using m)) q) hf
  self := fun A i s Q E st h => by
    obtain ⟨⟨old, he⟩, _⟩ := st
    exact wpAny_pyIter_enum he h
def iE (k : Bool) (ta : TA) : TI := fun σ H R => ta σ H fun vs H1 => ∃ a xs, vs = [.ref a] ∧ H1 a = some (hoK k xs) ∧ R (ItE k a) H1
theorem pi_e {e : Expr} {ta : TA} {p pos tpos : Pos} {elts : List Expr} {kk : Nat} (k : Bool) (hg : Gl X "enumerate") (hm : X.mg "enumerate" = none) (ha : PA X [e] ta) (hs : starEach [e] X.env = [(false, eval e X.env)] := by rfl) :
    PI X (.Tuple elts kk tpos) (.Call (.Name "enumerate" p) [e] [] pos) (iE k ta) := by
  refine ⟨fun pins s σ H R I h => ?_⟩
  refine Call_ (ld_blt I hg hm boot_enumerate (PyProof.Rows.callWith_type1 (thn (ha.run pos pins s σ H _ I h) fun us s1 z => ?_) hs rfl))
  obtain ⟨vs, H1, I1, r1, a, xs, ex, hx, q⟩ := z
  subst ex
  cases r1 with
  | cons r rr =>
    cases rr
    cases r
    obtain ⟨its, rv, p', la⟩ := seqAt I1 hx
    refine enum_call (begins_SI k a its.toArray) p' fun h' he hit hk => wpAny_pyIter_enum he ?_
    have I2 : Inv X pins σ H1 { s1 with heap := h' } := I1.kept (t' := s1.toks) hk
    refine ⟨s1.heap.objs.size + 1, [s1.heap.objs.size + 1, s1.heap.objs.size], _, _, H1, rfl, I2, turn_e la, ⟨⟨.none, he⟩, SI.new hit⟩, fun b hb => ?_, q⟩
    have hle : s1.heap.objs.size ≤ b := by
      rcases List.mem_cons.mp hb with z | z
      · rw [z]; exact Nat.le_succ _
      · rw [List.mem_singleton.mp z]; exact Nat.le_refl _
    exact I1.fpOk hle (I1.hok.fresh hle)
end
section
variable {X : Cx} {W : WX} {tg a : Expr} {pos : Pos} {wa : Addr} {Hf : Hp} {mg : Str → Option Value}
theorem walkD_e {k : Bool} {p : Addr} {vs : List V} {ds : List D} (h : Hf p = some (hoK k vs)) (r : Reps wa Hf vs ds) : WalkD wa Hf (ItE k p) (enumD ds) :=
  ⟨fun i H hi x => by
    have hi' : i < vs.length := by rw [r.length]; simpa [enumD] using hi
    exact ⟨vs, x _ _ h, hi'⟩, fun H x => ⟨vs, x _ _ h, by simp [enumD, r.length]⟩, fun i H Hf1 w y H' d hd x b q => by
    obtain ⟨T, z, rfl, hT, rfl, q⟩ := q
    unfold enumD at hd
    rw [List.getElem?_map, List.getElem?_zipIdx] at hd
    cases e : ds[i]? with
    | none => rw [e] at hd; cases hd
    | some d1 =>
      rw [e] at hd
      cases hd
      obtain ⟨v, e1, r1⟩ := (r.mono x).get e
      have e2 := q vs (b.ex _ _ (x _ _ h))
      rw [e1] at e2
      cases e2
      rw [Nat.zero_add]
      exact ⟨_, Go.newF b.ex hT, b.newF hT, .tup upd_same (.cons (.int _) (.cons (r1.mono (Ex.new (Evl.fresh_back b.ex hT))) .nil))⟩⟩
def iEnumS (As : DA) : DI := fun s w => (As s w).bind fun xs w1 => match xs with
  | [x] => match seqD x with
    | some (_, ds) => .ok (enumD ds) w1
    | none => .no
  | _ => .no
theorem id_enumS {As : DA} {p tpos : Pos} {elts : List Expr} {kk : Nat} (hg : Gl X "enumerate") (hm : X.mg "enumerate" = none) (ha : PA X [a] (lA mg W As)) (hs : starEach [a] X.env = [(false, eval a X.env)] := by rfl) : PI X (.Tuple elts kk tpos) (.Call (.Name "enumerate" p) [a] [] pos) (lI mg W (iEnumS As)) := weakI (anyI fun k : Bool => pi_e k hg hm ha hs) fun σ H Q h => by
  obtain ⟨wa, Hf, sD, w, hb, hs, h⟩ := h
  unfold iEnumS at h
  cases ea : As sD w with
  | ok xs w1 =>
    rw [ea, R.bind_ok] at h
    split at h
    · rename_i x
      split at h
      · rename_i k ds e1
        refine ⟨k, wa, Hf, sD, w, hb, hs, ?_⟩
        rw [ea]
        intro H1 Hf1 g b v rv
        cases rv with
        | cons r1 r2 =>
          cases r2
          obtain ⟨p1, vs, rfl, h1, s1⟩ := seqD_rep r1 e1
          exact ⟨p1, vs, rfl, b.ex _ _ h1, h H1 Hf1 g b _ (walkD_e h1 s1)⟩
      · exact h.elim
    · exact h.elim
  | er x w1 =>
    rw [ea] at h
    refine ⟨true, wa, Hf, sD, w, hb, hs, ?_⟩
    rw [ea]
    exact h
  | no => rw [ea] at h; exact h.elim
def enmSD : List D → Option (List D)
  | [x] => (seqD x).map fun p => enumD p.2
  | _ => none
@[simp] theorem okI_enumS {As : DA} {s : Sl} {w : Wl} {QA : List D → Wl → Prop} : okE (iEnumS As s w) QA = okE (As s w) fun xs w1 => okO (enmSD xs) fun ds => QA ds w1 := by
  unfold iEnumS; simp only [okE_bind]; congr; funext xs w1
  rcases xs with _ | ⟨x, _ | ⟨y, xs⟩⟩ <;> try rfl
  show okE (match seqD x with | some (_, ds) => R.ok (enumD ds) w1 | none => R.no) QA = okO ((seqD x).map fun p => enumD p.2) _
  cases seqD x <;> rfl
end
end DL

set_option maxHeartbeats 2000000
namespace DL
open PySem PySem.Spec PyProof.Rows L2
variable [TabT] [OldT]
/-! ### in, index, sorted, divmod, while by value -/
section
variable {w : Wl} {i j k n m : Nat} {a b : Int} {xs ys : List D} {s : Sl} {d x y : D} {P : D → Prop} {A B C : DE} {Q : D → Wl → Prop} {U V : DS} {N : Sl → Wl → Prop} {Z : D → Wl → Prop} {T : DT}
@[simp] theorem v_divmod : okO (fDivmod w [.int a, .int b]) P = (divOk b ∧ P (.tup [.int (a.fdiv b), .int (a.fmod b)])) := by
  show okO (if divOk b then some _ else none) P = _
  simp
@[simp] theorem v_inL : okO (fInG false w x (.lst xs)) P = ((okD x && okD (.lst xs)) = true ∧ P (.bl (xs.any fun d => eqD d x))) := by
  show okO (if _ then some _ else none) P = _
  simp
@[simp] theorem v_ninL : okO (fInG true w x (.lst xs)) P = ((okD x && okD (.lst xs)) = true ∧ P (.bl (!xs.any fun d => eqD d x))) := by
  show okO (if _ then some _ else none) P = _
  simp
theorem v_inT {ns : List Int} : fInG false w (.int a) (.tup (ns.map .int)) = some (.bl (hasI a ns)) := by
  unfold fInG
  simp
theorem v_ninT {ns : List Int} : fInG true w (.int a) (.tup (ns.map .int)) = some (.bl (!hasI a ns)) := by
  unfold fInG
  simp
@[simp] theorem okE_idx : okE (eIdx A B s w) Q = okE (A s w) fun x w1 => match x with
    | .lst ds => okE (B s w1) fun y w2 => okO (idxD ds y) fun z => Q z w2
    | _ => False := by
  unfold eIdx
  simp only [okE_bind]
  congr
  funext x w1
  cases x <;> try rfl
  simp only [okE_bind, okE_opt]
@[simp] theorem v_sorted {ns : List Int} : fSorted w [.lst (ns.map .int)] = some ((sortI ns).map .int) := by
  unfold fSorted
  simp
@[simp] theorem v_maxL {ns : List Int} : fMaxL w [.lst (ns.map .int)] = (maxI ns).map .int := by
  unfold fMaxL
  simp
@[simp] theorem v_minL {ns : List Int} : fMinL w [.lst (ns.map .int)] = (minI ns).map .int := by
  unfold fMinL
  simp
/-- a while loop: I k: at most k turns are left -/
theorem okS_while (I : Nat → Sl → Wl → Prop) : ∀ (n k : Nat) {s : Sl} {w : Wl}, k < n → I k s w → (∀ k s w, I k s w → okE (T s w) fun c w1 => if c = true then ∃ j, k = j + 1 ∧ okS (U s w1) (I j) Z else N s w1) → okS (whileD T U n s w) N Z
  | 0, k, s, w, hk, _, _ => by omega
  | n + 1, k, s, w, hk, h, hs => by
    have h1 := hs k s w h
    unfold whileD
    cases e : T s w with
    | no => rw [e] at h1; exact h1
    | er x w1 => rw [e] at h1; exact h1
    | ok c w1 =>
      rw [e] at h1
      simp only [okE_ok] at h1
      cases c with
      | false => exact h1
      | true =>
        rw [if_pos rfl] at h1
        obtain ⟨j, rfl, h2⟩ := h1
        dsimp only
        cases e2 : U s w1 with
        | nx s2 w2 => rw [e2] at h2; exact okS_while I n j (by omega) h2 hs
        | rt d w2 => rw [e2] at h2; exact h2
        | bk _ _ => rw [e2] at h2; exact h2.elim
        | ct _ _ => rw [e2] at h2; exact h2.elim
        | er _ _ _ => rw [e2] at h2; exact h2.elim
        | no => rw [e2] at h2; exact h2.elim
end
@[simp] theorem atI_0 {α : Type} {x : α} {r : List α} : atI (x :: r) 0 = some x := atI_nat (j := 0) rfl
@[simp] theorem atI_1 {α : Type} {x y : α} {r : List α} : atI (x :: y :: r) 1 = some y := atI_nat (j := 1) rfl
@[simp] theorem atI_2 {α : Type} {x y z : α} {r : List α} : atI (x :: y :: z :: r) 2 = some z := atI_nat (j := 2) rfl
/-! ### equality of plain values -/
@[simp] theorem okD_int {a : Int} : okD (.int a) = true := rfl
@[simp] theorem okD_non : okD .non = true := rfl
@[simp] theorem eqD_int {a b : Int} : eqD (.int a) (.int b) = decide (a = b) := by
  show (PyData.eqv (.int a) (.int b)) = _
  unfold PyData.eqv
  rfl
@[simp] theorem eqD_non : eqD .non .non = true := by
  show (PyData.eqv .none .none) = _
  unfold PyData.eqv
  rfl
@[simp] theorem eqD_ni {a : Int} : eqD .non (.int a) = false := by
  show (PyData.eqv .none (.int a)) = _
  unfold PyData.eqv
  rfl
@[simp] theorem eqD_in {a : Int} : eqD (.int a) .non = false := by
  show (PyData.eqv (.int a) .none) = _
  unfold PyData.eqv
  rfl
/-- tuples of ints -/
def eD (xs : List Int) : D := .tup (xs.map .int)
theorem toPDs_ints : ∀ xs : List Int, toPDs (xs.map D.int) = xs.map PyData.int
  | [] => by simp [toPDs]
  | x :: xs => by simp [toPDs, toPD, toPDs_ints xs]
theorem lay_ints : ∀ xs : List Int, PyData.canLayAll0 (xs.map PyData.int) = true ∧ PyData.depthAll (xs.map PyData.int) = 0
  | [] => by simp [PyData.canLayAll0, PyData.depthAll]
  | x :: xs => by
    have := lay_ints xs
    simp [PyData.canLayAll0, PyData.depthAll, PyData.canLay0, PyData.depth, this]
@[simp] theorem okD_ints {xs : List Int} : okD (eD xs) = true := by
  have := lay_ints xs
  simp [okD, eD, toPD, toPDs_ints, SeqAt.shaped, PyData.canLay0, PyData.depth, this]
@[simp] theorem okD_lints {xs : List Int} : okD (.lst (xs.map .int)) = true := by
  have := lay_ints xs
  simp [okD, toPD, toPDs_ints, SeqAt.shaped, PyData.canLay0, PyData.depth, this]
theorem eqvAll_ints : ∀ xs ys : List Int, PyData.eqvAll (xs.map PyData.int) (ys.map PyData.int) = decide (xs = ys)
  | [], [] => by simp [PyData.eqvAll]
  | [], y :: ys => by simp [PyData.eqvAll]
  | x :: xs, [] => by simp [PyData.eqvAll]
  | x :: xs, y :: ys => by
    have := eqvAll_ints xs ys
    have e : PyData.eqv (.int x) (.int y) = decide (x = y) := by unfold PyData.eqv; rfl
    simp [PyData.eqvAll, e, this]
@[simp] theorem eqD_ints {xs ys : List Int} : eqD (eD xs) (eD ys) = decide (xs = ys) := by
  show PyData.eqv (toPD (eD xs)) (toPD (eD ys)) = _
  simp only [eD, toPD, toPDs_ints]
  rw [show PyData.eqv (.tuple (xs.map PyData.int)) (.tuple (ys.map PyData.int)) = PyData.eqvAll (xs.map PyData.int) (ys.map PyData.int) by unfold PyData.eqv; rfl]
  exact eqvAll_ints xs ys
@[simp] theorem eqD_lints {xs ys : List Int} : eqD (.lst (xs.map .int)) (.lst (ys.map .int)) = decide (xs = ys) := by
  show PyData.eqv (toPD (.lst (xs.map .int))) (toPD (.lst (ys.map .int))) = _
  simp only [toPD, toPDs_ints]
  rw [show PyData.eqv (.list (xs.map PyData.int)) (.list (ys.map PyData.int)) = PyData.eqvAll (xs.map PyData.int) (ys.map PyData.int) by unfold PyData.eqv; rfl]
  exact eqvAll_ints xs ys
theorem any_ints {a : Int} {xs : List Int} : ((xs.map D.int).any fun d => eqD d (.int a)) = hasI a xs := by
  rw [List.any_map]
  unfold hasI
  congr 1
theorem hasI_iff {a : Int} {xs : List Int} : hasI a xs = true ↔ a ∈ xs := by
  unfold hasI
  simp
theorem idx_ints {a : Int} {xs : List Int} : idxD (xs.map .int) (.int a) = (xs.findIdx? fun b => decide (b = a)).map fun j => .int (j : Nat) := by
  unfold idxD
  simp only [okD_int, okD_lints, Bool.and_self, if_true, List.findIdx?_map]
  congr 2
/-! ### sizes of numbers -/
theorem nat_lt_pow {a : Int} {k : Nat} (h0 : 0 ≤ a) (h : a ≤ 2 ^ k) : a.natAbs < 2 ^ (k + 1) := by
  have e : (a.natAbs : Int) = a := Int.natAbs_of_nonneg h0
  have : (a.natAbs : Int) ≤ ((2 ^ k : Nat) : Int) := by rw [e]; simpa using h
  have h2 : a.natAbs ≤ 2 ^ k := by exact_mod_cast this
  have h3 : 2 ^ k < 2 ^ (k + 1) := Nat.pow_lt_pow_right (by decide) (by omega)
  omega
/-- below two to the k, either way -/
def Bt (k : Nat) (a : Int) : Prop := a.natAbs < 2 ^ k
theorem Bt.mono {i j : Nat} {a : Int} (h : Bt i a) (hij : i ≤ j) : Bt j a := Nat.lt_of_lt_of_le h (Nat.pow_le_pow_right (by decide) hij)
theorem bt_mul {i j : Nat} {a b : Int} (ha : Bt i a) (hb : Bt j b) : Bt (i + j) (a * b) := by
  unfold Bt at *
  rw [Int.natAbs_mul, Nat.pow_add]
  exact Nat.mul_lt_mul'' ha hb
theorem bt_add {i : Nat} {a b : Int} (ha : Bt i a) (hb : Bt i b) : Bt (i + 1) (a + b) := by
  unfold Bt at *
  rw [Nat.pow_succ]
  omega
theorem bt_neg {i : Nat} {a : Int} (ha : Bt i a) : Bt i (-a) := by
  unfold Bt at *
  omega
theorem bt_sub {i : Nat} {a b : Int} (ha : Bt i a) (hb : Bt i b) : Bt (i + 1) (a - b) := by
  unfold Bt at *
  rw [Nat.pow_succ]
  omega
theorem bt_of {i : Nat} {a : Int} (h1 : -(2 ^ i : Int) < a) (h2 : a < 2 ^ i) : Bt i a := by
  unfold Bt
  have : ((2 ^ i : Nat) : Int) = (2 : Int) ^ i := by simp
  omega
theorem bt_iff {i : Nat} {a : Int} : Bt i a ↔ -(2 ^ i : Int) < a ∧ a < 2 ^ i := by
  unfold Bt
  have : ((2 ^ i : Nat) : Int) = (2 : Int) ^ i := by simp
  omega
theorem mul_bt {i j : Nat} {a b : Int} (ha : Bt i a) (hb : Bt j b) (h : i + j ≤ 900000) : mulOk a b :=
  mulOk_of (i := i + 1) (j := j + 1) (Bt.mono ha (by omega)) (Bt.mono hb (by omega)) (by omega) (by omega) (by omega)
theorem div_bt {i : Nat} {b : Int} (h0 : b ≠ 0) (hb : Bt i b) (h : i ≤ 9000) : divOk b := divOk_of h0 (Bt.mono hb h)
theorem fmod_range {a n : Int} (h : 0 < n) : 0 ≤ a.fmod n ∧ a.fmod n < n := by
  rw [Int.fmod_eq_emod_of_nonneg _ (by omega)]
  exact ⟨Int.emod_nonneg _ (by omega), Int.emod_lt_of_pos _ h⟩
theorem fdiv_range {a n : Int} (h : 0 < n) (h0 : 0 ≤ a) : 0 ≤ a.fdiv n ∧ a.fdiv n ≤ a := by
  rw [Int.fdiv_eq_ediv_of_nonneg _ (by omega)]
  exact ⟨Int.ediv_nonneg h0 (by omega), Int.ediv_le_self _ h0⟩
theorem atI_of {α : Type} {l : List α} {k : Int} (h0 : 0 ≤ k) (h1 : k < l.length) : ∃ x, atI l k = some x ∧ x ∈ l := by
  obtain ⟨j, rfl⟩ := Int.eq_ofNat_of_zero_le h0
  have hj : j < l.length := by omega
  exact ⟨l[j], atI_nat (by simp [hj]), by simp⟩
theorem lim7 {n : Nat} (h : n ≤ 1000000) : n ≤ lim := Nat.le_trans h (by decide)
end DL

set_option maxHeartbeats 2000000
namespace DL
open PySem PySem.Spec PyProof.Rows L2
variable [TabT] [OldT]
/-! ### x[i] = v of an own list -/
def setAt (xs : List D) (k : Int) (d : D) : Option (List D) := (ixN xs.length k).map fun j => xs.set j d
def sSetO (i : Nat) (B E : DE) : DS := fun s w => match s[i]? with
  | some (some (.own xs)) => match (E s w).bind fun d w1 => (B s w1).bind fun k w2 => .ok (d, k) w2 with
    | .ok (d, .int k) w2 => match setAt xs k d with
      | some ys => .nx (s.set i (some (.own ys))) w2
      | none => .no
    | .er x w2 => .er x s w2
    | _ => .no
  | _ => .no
section
variable {X : Cx} {mg : Str → Option Value} {W : WX} {st : Stmt} {B E : DE} {wa : Addr} {Hf : Hp}
theorem Reps.setAt : ∀ {vs : List V} {ds : List D} {j : Nat} {v : V} {d : D}, Reps wa Hf vs ds → Rep wa Hf v d → Reps wa Hf (vs.set j v) (ds.set j d)
  | _, _, _, _, _, .nil, _ => .nil
  | _, _, 0, _, _, .cons _ t, r => .cons r t
  | _, _, _ + 1, _, _, .cons h t, r => .cons h (Reps.setAt t r)
theorem sd_setO {i : Nat} (h : PS X st (tAsg (lE mg W E) (gSub (tVar i) (lE mg W B) rSetL))) : PS X st (lS mg W (sSetO i B E)) := weakS h fun D σ H h => by
  obtain ⟨wa, Hf, sD, w, H0, Hf0, g, b, hs, ho, h⟩ := h
  unfold sSetO at h
  split at h
  · rename_i xs hi
    obtain ⟨p, vs, k1, k2, k3, k4, k5⟩ := hs.own i xs hi
    refine ⟨wa, Hf, sD, w, b, hs, ?_⟩
    cases e : E sD w with
    | no => rw [e] at h; exact h
    | er x w1 =>
      rw [e] at h
      exact fun H1 Hf1 g1 b1 cls dx ev => h σ H1 Hf1 cls dx (g.trans g1) g1.ex b1 (hs.go g1) ho ev
    | ok d w1 =>
      rw [e, R.bind_ok] at h
      intro H1 Hf1 g1 b1 v rv
      refine ⟨.ref p, k1, wa, Hf1, sD, w1, b1, hs.go g1, ?_⟩
      cases e2 : B sD w1 with
      | no => rw [e2] at h; exact h
      | er x w2 =>
        rw [e2] at h
        exact fun H2 Hf2 g2 b2 cls dx ev => h σ H2 Hf2 cls dx ((g.trans g1).trans g2) (g1.ex.trans g2.ex) b2 ((hs.go g1).go g2) ho ev
      | ok k w2 =>
        rw [e2, R.bind_ok] at h
        intro H2 Hf2 g2 b2 v2 rv2
        split at h
        · rename_i d' k' w' heq
          cases heq
          cases rv2
          split at h
          · rename_i ys hy
            unfold setAt at hy
            obtain ⟨j, hj, rfl⟩ := Option.map_eq_some_iff.mp hy
            have gg := (g.trans g1).trans g2
            have hs2 := (hs.go g1).go g2
            have h0 : Fr H0 p := ho i _ p hi isO_own k1
            have kp : H2 p = some (.lst vs) := g2.keep p _ k4 (g1.keep p _ k4 k2)
            have kf : Hf2 p = none := (g2.new p _ (g1.keep p _ k4 k2)).trans ((g1.new p _ k2).trans k3)
            have r1 : Reps wa Hf2 (vs.set j v) (xs.set j d) := ((k5.mono g1.ex).mono g2.ex).setAt (rv.mono g2.ex)
            refine ⟨p, vs, k', j, rfl, rfl, kp, by rw [k5.length]; exact hj, ?_⟩
            refine h σ _ Hf2 ?_ (g1.ex.trans g2.ex) ?_ (hs2.write hi k1 r1) (ho.sub fun j ye hj io => ?_)
            · exact gg.appF h0
            · exact b2.appL kf k4 kp
            · by_cases hji : j = i
              · subst hji
                exact ⟨_, hi, isO_own⟩
              · rw [List.getElem?_set_ne (Ne.symm hji)] at hj
                exact ⟨ye, hj, io⟩
          · exact h.elim
        · rename_i heq
          cases heq
        · exact h.elim
  · exact h.elim
end
section
variable {s : Sl} {w : Wl} {B E : DE} {N : Sl → Wl → Prop} {Z : D → Wl → Prop}
@[simp] theorem okS_setO {i : Nat} : okS (sSetO i B E s w) N Z = okOwn s[i]? fun xs => okE (E s w) fun d w1 => okE (B s w1) fun k w2 => match k with
    | .int k => okO (setAt xs k d) fun ys => N (s.set i (some (.own ys))) w2
    | _ => False := by
  unfold sSetO
  cases h : s[i]? with
  | none => rfl
  | some o =>
    cases o with
    | none => rfl
    | some d =>
      cases d <;> try rfl
      rename_i xs
      simp only [okOwn_own]
      cases E s w with
      | er _ _ => rfl
      | no => rfl
      | ok d w1 =>
        simp only [R.bind_ok, okE_ok]
        cases B s w1 with
        | er _ _ => rfl
        | no => rfl
        | ok k w2 =>
          simp only [R.bind_ok, okE_ok]
          cases k <;> try rfl
          rename_i k
          dsimp only
          cases setAt xs k d <;> rfl
end
end DL

set_option maxHeartbeats 2000000
namespace DL
open PySem PySem.Spec PyProof.Rows L2
variable [TabT] [OldT]
open Evl (Ex)
/-! ### comprehensions of two clauses -/
def lc2D (G : DG) (T : DT) (I1 : DI) (G1 : DG) (T1 : DT) (E : DE) (vs1 : List Nat) : List D → Sl → Wl → R (List D)
  | [], _, w => .ok [] w
  | d :: r, s, w => match G d s with
    | none => .no
    | some s1 => (T s1 w).noer.bind fun b w1 => if b = true then (I1 s1 w1).noer.bind fun ds1 w2 => (lcD G1 T1 E ds1 (wipeS s1 vs1) w2).noer.bind fun ys w3 => (lc2D G T I1 G1 T1 E vs1 r s w3).bind fun zs w4 => .ok (ys ++ zs) w4 else lc2D G T I1 G1 T1 E vs1 r s w1
def aLc2 (I : DI) (G : DG) (T : DT) (I1 : DI) (G1 : DG) (T1 : DT) (E : DE) (vs vs1 : List Nat) : DA := fun s w => (I s w).bind fun ds w1 => (lc2D G T I1 G1 T1 E vs1 ds (wipeS s vs) w1).noer.bind fun ys w2 => if ys.length ≤ lim then .ok ys w2 else .no
section
variable {X : Cx} {mg : Str → Option Value} {W : WX} {tg it a b e elt iter tg1 iter1 : Expr} {es ifs ifs1 : List Expr} {pos : Pos} {σ : L2.St} {H : Hp} {wa : Addr} {Hf : Hp}
theorem OwnNew.setNone {H0 : Hp} {s : Sl} (x : OwnNew H0 σ s) (i : Nat) : OwnNew H0 (σ.set i none) (s.set i none) := fun j d p h1 n1 h2 => by
  by_cases hj : j = i
  · subst hj
    rw [List.getElem?_set] at h1
    split at h1
    · split at h1 <;> cases h1
    · rename_i hne
      exact absurd rfl hne
  · rw [List.getElem?_set_ne (Ne.symm hj)] at h1 h2
    exact x j d p h1 n1 h2
theorem OwnNew.wipe {H0 : Hp} {s : Sl} (x : OwnNew H0 σ s) : ∀ vs : List Nat, OwnNew H0 (L2.wipe σ vs) (wipeS s vs)
  | [] => x
  | v :: vs => (x.wipe vs).setNone v
theorem Slots.app {s : Sl} {D : Addr} {o o' : HO} {H0 : Hp} (x : Slots wa Hf H σ s) (n : OwnNew (upd H0 D o') σ s) (t : NT o') : Slots wa Hf (upd H D o) σ s :=
  have ne : ∀ (i : Nat) (d : DL.D) (p : Addr), s[i]? = some (some d) → IsO d → σ[i]? = some (some (.ref p)) → p ≠ D := fun i d p h1 n1 h2 z => n i d p h1 n1 h2 o' (by rw [z, upd_same]) t
  ⟨x.len, x.val, fun i xs e => by
    obtain ⟨p, vs, h1, h2, h3, h4, h5⟩ := x.own i xs e
    exact ⟨p, vs, h1, by rw [upd_ne (ne i _ p e isO_own h1)]; exact h2, h3, h4, h5⟩, fun i ks xs e => by
    obtain ⟨p, vs, h1, h2, h3, h4, h5⟩ := x.dic i ks xs e
    exact ⟨p, vs, h1, by rw [upd_ne (ne i _ p e isO_dct h1)]; exact h2, h3, h4, h5⟩, x.inj⟩
theorem Slots.apart {s : Sl} {D : Addr} {o : HO} (x : Slots wa Hf H σ s) (h : H D = none) : OwnNew (upd (fun _ => none) D o) σ s := fun i d p h1 n1 h2 o3 e3 _ => by
  obtain ⟨q, o2, e1, e2, _⟩ := x.oAt h1 n1
  rw [h2] at e1
  cases e1
  by_cases hp : p = D
  · rw [hp, h] at e2; cases e2
  · rw [upd_ne hp] at e3; cases e3
theorem less {n i : Nat} (h : i < n) : n - (i + 1) < n - i := by omega
theorem lc2_ok {I : DI} {G : DG} {T : DT} {I1 : DI} {G1 : DG} {T1 : DT} {E : DE} {vs vs1 : List Nat} {Q : VK} (h : lfL mg W (aLc2 I G T I1 G1 T1 E vs vs1) σ H Q) :
    tLc2 (lI mg W I) (lG vs G) (lT mg W0 T) (lI mg W0 I1) (lG vs1 G1) (lT mg W0 T1) (lE mg W0 E) vs vs1 σ H Q := by
  obtain ⟨wa, Hf, sD, w, hb, hs, h⟩ := h
  refine ⟨wa, Hf, sD, w, hb, hs, h.bind.mono (fun ds w1 H1 Hf1 g1 b1 q J wk D hD => ?_) (fun _ _ _ _ _ _ q => q)⟩
  have hs1 := (hs.go g1).wipe vs
  cases el : lc2D G T I1 G1 T1 E vs1 ds (wipeS sD vs) w1 with
  | er x w2 => rw [el] at q; exact q.elim
  | no => rw [el] at q; exact q.elim
  | ok total wF =>
    rw [el] at q
    simp only [R.noer, R.bind_ok] at q
    split at q
    · rename_i hz
      have hDw : D ≠ wa := fun z => by rw [z, b1.well] at hD; cases hD
      have hDf : Hf1 D = none := Evl.fresh_back b1.ex hD
      refine ⟨fun i m H2 => m = ds.length - i ∧ i ≤ ds.length ∧ ∃ Hf2 w2 accV acc ys, Go wa H1 Hf1 H2 Hf2 ∧ Base wa Hf2 H2 w2 ∧ H2 D = some (.lst accV) ∧ Hf2 D = none ∧ Reps wa Hf2 accV acc ∧ lc2D G T I1 G1 T1 E vs1 (ds.drop i) (wipeS sD vs) w2 = .ok ys wF ∧ acc ++ ys = total,
        ⟨ds.length, by simp, Nat.zero_le _, Hf1, w1, [], [], total, Go.new1 hD, b1.new1 hD, upd_same, hDf, .nil, el, rfl⟩, ?_⟩
      rintro i m H2 ⟨rfl, hi, Hf2, w2, accV, acc, ys, g2, b2, hD2, hDf2, ra, e2, rfl⟩
      by_cases hlt : i < ds.length
      · have ed : ds.drop i = ds[i] :: ds.drop (i + 1) := List.drop_eq_getElem_cons hlt
        rw [ed] at e2
        have gi : ds[i]? = some ds[i] := by simp [hlt]
        refine .inr ⟨wk.goes i H2 hlt (g2.ex.trans b2.ex), fun H' => ∃ Hf2 w2 accV acc' ys', Go wa H1 Hf1 H' Hf2 ∧ Base wa Hf2 H' w2 ∧ H' D = some (.lst accV) ∧ Hf2 D = none ∧ Reps wa Hf2 accV acc' ∧ lc2D G T I1 G1 T1 E vs1 (ds.drop (i + 1)) (wipeS sD vs) w2 = .ok ys' wF ∧ acc' ++ ys' = acc ++ ys,
          fun H' hN => ⟨ds.length - (i + 1), less hlt, rfl, hlt, hN⟩, fun x H3 hy => ?_⟩
        obtain ⟨Hf3, g3, b3, r3⟩ := wk.yields i H2 Hf2 w2 x H3 _ gi g2.ex b2 hy
        have hD3 : H3 D = some (.lst accV) := g3.keep D _ hDw hD2
        have hDf3 : Hf3 D = none := (g3.new D _ hD2).trans hDf2
        unfold lc2D at e2
        cases eg : G ds[i] (wipeS sD vs) with
        | none => rw [eg] at e2; cases e2
        | some s1 =>
          rw [eg] at e2
          dsimp only at e2
          refine ⟨wa, Hf3, upd (fun _ => none) D (.lst []), w2, wipeS sD vs, ds[i], s1, b3, r3, (hs1.go g2).go g3, hs1.apart hD, eg, fun σ4 hs4 on4 hw4 => ⟨hw4.trans (wipe_wipe vs), ?_⟩⟩
          cases et : T s1 w2 with
          | er y u => rw [et] at e2; cases e2
          | no => rw [et] at e2; cases e2
          | ok bb w5 =>
            rw [et] at e2
            refine ⟨wa, Hf3, s1, w2, b3, hs4, ?_⟩
            rw [et]
            intro H5 Hf5 g5 b5 v5 rv5
            have ev5 : v5 = bb := rv5
            subst ev5
            have hD5 : H5 D = some (.lst accV) := g5.keep D _ hDw hD3
            have hDf5 : Hf5 D = none := (g5.new D _ hD3).trans hDf3
            cases v5 with
            | false =>
              refine iteF ?_
              have e3 : lc2D G T I1 G1 T1 E vs1 (ds.drop (i + 1)) (wipeS sD vs) w5 = .ok ys wF := by simpa [R.noer, R.bind] using e2
              exact ⟨Hf5, w5, accV, acc, ys, (g2.trans g3).trans g5, b5, hD5, hDf5, (ra.mono g3.ex).mono g5.ex, e3, rfl⟩
            | true =>
              refine iteT ?_
              have e3 : ((I1 s1 w5).noer.bind fun ds1 w2 => (lcD G1 T1 E ds1 (wipeS s1 vs1) w2).noer.bind fun ys w3 => (lc2D G T I1 G1 T1 E vs1 (ds.drop (i + 1)) (wipeS sD vs) w3).bind fun zs w4 => .ok (ys ++ zs) w4) = R.ok ys wF := by simpa [R.noer, R.bind] using e2
              cases ei : I1 s1 w5 with
              | er y u => rw [ei] at e3; cases e3
              | no => rw [ei] at e3; cases e3
              | ok ds1 w6 =>
                rw [ei] at e3
                refine ⟨wa, Hf5, s1, w5, b5, hs4.go g5, ?_⟩
                rw [ei]
                intro H6 Hf6 g6 b6 J1 wk1
                have hD6 : H6 D = some (.lst accV) := g6.keep D _ hDw hD5
                have hDf6 : Hf6 D = none := (g6.new D _ hD5).trans hDf5
                have e4 : ((lcD G1 T1 E ds1 (wipeS s1 vs1) w6).noer.bind fun ys w3 => (lc2D G T I1 G1 T1 E vs1 (ds.drop (i + 1)) (wipeS sD vs) w3).bind fun zs w4 => .ok (ys ++ zs) w4) = R.ok ys wF := by simpa [R.noer, R.bind] using e3
                cases ey : lcD G1 T1 E ds1 (wipeS s1 vs1) w6 with
                | er y u => rw [ey] at e4; cases e4
                | no => rw [ey] at e4; cases e4
                | ok ys1 w7 =>
                  rw [ey] at e4
                  have e5 : ((lc2D G T I1 G1 T1 E vs1 (ds.drop (i + 1)) (wipeS sD vs) w7).bind fun zs w4 => .ok (ys1 ++ zs) w4) = R.ok ys wF := by simpa [R.noer, R.bind] using e4
                  cases ez : lc2D G T I1 G1 T1 E vs1 (ds.drop (i + 1)) (wipeS sD vs) w7 with
                  | er y u => rw [ez] at e5; cases e5
                  | no => rw [ez] at e5; cases e5
                  | ok zs w8 =>
                    rw [ez] at e5
                    cases e5
                    have g06 : Go wa H1 Hf1 H6 Hf6 := ((g2.trans g3).trans g5).trans g6
                    have hsI := ((hs4.go g5).go g6).wipe vs1
                    refine ⟨fun j k H7 => k = ds1.length - j ∧ j ≤ ds1.length ∧ ∃ Hf7 w9 accV' acc' us, Go wa H1 Hf1 H7 Hf7 ∧ Ex Hf6 Hf7 ∧ Slots wa Hf7 H7 (L2.wipe σ4 vs1) (wipeS s1 vs1) ∧ Base wa Hf7 H7 w9 ∧ H7 D = some (.lst accV') ∧ Hf7 D = none ∧ Reps wa Hf7 accV' acc' ∧ lcD G1 T1 E (ds1.drop j) (wipeS s1 vs1) w9 = .ok us w7 ∧ acc' ++ us = acc ++ ys1,
                      ⟨ds1.length, by simp, Nat.zero_le _, Hf6, w6, accV, acc, ys1, g06, Ex.refl _, hsI, b6, hD6, hDf6, ((ra.mono g3.ex).mono g5.ex).mono g6.ex, ey, rfl⟩, ?_⟩
                    rintro j k H7 ⟨rfl, hj, Hf7, w9, accV', acc', us, g7, x7, s7, b7, hD7, hDf7, ra7, e7, eacc⟩
                    by_cases hlj : j < ds1.length
                    · have ed1 : ds1.drop j = ds1[j] :: ds1.drop (j + 1) := List.drop_eq_getElem_cons hlj
                      rw [ed1] at e7
                      have gj : ds1[j]? = some ds1[j] := by simp [hlj]
                      refine .inr ⟨wk1.goes j H7 hlj (x7.trans b7.ex), fun H' => ∃ Hf7 w9 accV' acc' us', Go wa H1 Hf1 H' Hf7 ∧ Ex Hf6 Hf7 ∧ Slots wa Hf7 H' (L2.wipe σ4 vs1) (wipeS s1 vs1) ∧ Base wa Hf7 H' w9 ∧ H' D = some (.lst accV') ∧ Hf7 D = none ∧ Reps wa Hf7 accV' acc' ∧ lcD G1 T1 E (ds1.drop (j + 1)) (wipeS s1 vs1) w9 = .ok us' w7 ∧ acc' ++ us' = acc ++ ys1,
                        fun H' hN => ⟨ds1.length - (j + 1), less hlj, rfl, hlj, hN⟩, fun y H8 hy8 => ?_⟩
                      obtain ⟨Hf8, g8, b8, r8⟩ := wk1.yields j H7 Hf7 w9 y H8 _ gj x7 b7 hy8
                      have hD8 : H8 D = some (.lst accV') := g8.keep D _ hDw hD7
                      have hDf8 : Hf8 D = none := (g8.new D _ hD7).trans hDf7
                      unfold lcD at e7
                      cases eg1 : G1 ds1[j] (wipeS s1 vs1) with
                      | none => rw [eg1] at e7; cases e7
                      | some s2 =>
                        rw [eg1] at e7
                        dsimp only at e7
                        refine ⟨wa, Hf8, fun _ => none, w9, wipeS s1 vs1, ds1[j], s2, b8, r8, s7.go g8, fun _ _ _ _ _ _ => .of rfl, eg1, fun σ9 hs9 _ hw9 => ⟨hw9.trans (wipe_wipe vs1), ?_⟩⟩
                        cases et1 : T1 s2 w9 with
                        | er y u => rw [et1] at e7; cases e7
                        | no => rw [et1] at e7; cases e7
                        | ok bb1 w10 =>
                          rw [et1] at e7
                          refine ⟨wa, Hf8, s2, w9, b8, hs9, ?_⟩
                          rw [et1]
                          intro H9 Hf9 g9 b9 v9 rv9
                          have ev9 : v9 = bb1 := rv9
                          subst ev9
                          have hD9 : H9 D = some (.lst accV') := g9.keep D _ hDw hD8
                          have hDf9 : Hf9 D = none := (g9.new D _ hD8).trans hDf8
                          cases v9 with
                          | false =>
                            refine iteF ?_
                            have e8 : lcD G1 T1 E (ds1.drop (j + 1)) (wipeS s1 vs1) w10 = .ok us w7 := by simpa [R.noer, R.bind] using e7
                            exact ⟨Hf9, w10, accV', acc', us, (g7.trans g8).trans g9, (x7.trans g8.ex).trans g9.ex, (s7.go g8).go g9, b9, hD9, hDf9, (ra7.mono g8.ex).mono g9.ex, e8, eacc⟩
                          | true =>
                            refine iteT ?_
                            have e8 : ((E s2 w10).noer.bind fun y w2 => (lcD G1 T1 E (ds1.drop (j + 1)) (wipeS s1 vs1) w2).bind fun ys w3 => .ok (y :: ys) w3) = R.ok us w7 := by simpa [R.noer, R.bind] using e7
                            cases ee : E s2 w10 with
                            | er y u => rw [ee] at e8; cases e8
                            | no => rw [ee] at e8; cases e8
                            | ok z w11 =>
                              rw [ee] at e8
                              refine ⟨wa, Hf9, s2, w10, b9, hs9.go g9, ?_⟩
                              rw [ee]
                              intro H10 Hf10 g10 b10 v10 r10
                              have hD10 : H10 D = some (.lst accV') := g10.keep D _ hDw hD9
                              have hDf10 : Hf10 D = none := (g10.new D _ hD9).trans hDf9
                              have e9 : ((lcD G1 T1 E (ds1.drop (j + 1)) (wipeS s1 vs1) w11).bind fun ys w3 => .ok (z :: ys) w3) = R.ok us w7 := by simpa [R.noer, R.bind] using e8
                              cases er : lcD G1 T1 E (ds1.drop (j + 1)) (wipeS s1 vs1) w11 with
                              | er y u => rw [er] at e9; cases e9
                              | no => rw [er] at e9; cases e9
                              | ok us1 w12 =>
                                rw [er] at e9
                                cases e9
                                have ra10 := ((ra7.mono g8.ex).mono g9.ex).mono g10.ex
                                have hlen : accV'.length = acc'.length := ra7.length
                                have hlt2 : accV'.length < lim := by
                                  have q1 : (acc' ++ z :: us1).length = (acc ++ ys1).length := by rw [eacc]
                                  simp only [List.length_append, List.length_cons] at q1 hz
                                  omega
                                have gg := ((g7.trans g8).trans g9).trans g10
                                refine ⟨accV', hD10, Nat.lt_of_lt_of_le hlt2 (lim_le (Nat.le_refl _)), Hf10, w11, accV' ++ [v10], acc' ++ [z], us1, gg.appF (.of hD), ((x7.trans g8.ex).trans g9.ex).trans g10.ex, ?_, b10.appL hDf10 hDw hD10, upd_same, hDf10, ra10.append (.cons r10 .nil), er, by simp [← eacc]⟩
                                exact (((s7.go g8).go g9).go g10).app (on4.wipe vs1) nt_lst
                    · have ej : j = ds1.length := by omega
                      subst ej
                      rw [List.drop_length] at e7
                      cases e7
                      refine .inl ⟨wk1.stops H7 (x7.trans b7.ex), Hf7, w7, accV', acc', zs, g7, b7, hD7, hDf7, ra7, ez, ?_⟩
                      rw [List.append_nil] at eacc
                      rw [eacc, List.append_assoc]
      · have ei : i = ds.length := by omega
        subst ei
        rw [List.drop_length] at e2
        cases e2
        refine .inl ⟨wk.stops H2 (g2.ex.trans b2.ex), ?_⟩
        rw [List.append_nil] at q
        exact q H2 Hf2 g2 b2 D accV (g1.free hD) hD2 hDf2 hDw ra
    · exact q.elim
/-- [elt for tg in iter if .. for tg1 in iter1 if ..]: a new list -/
theorem pl_lc2 {scope : Scope} {own : List (Str × Nat)} {vs1 : List Nat} {I I1 : DI} {G G1 : DG} {T T1 : DT} {E : DE} (hc : X.calm = true) (hN : X.N.Nodup) (hi : PI X tg iter (lI mg W I)) (ok : BlkOk X.N X.env.scope scope own) (hv : ∀ i ∈ vs1, i ∈ own.map (·.2))
    (hg : ∀ (s : Shared) (H : Hp) (C : Addr) (cl : List (Str × Addr)) (fp : List Addr), PG (X.blk s H scope (compEnvC scope cl C X.env) fp) tg (lG (own.map (·.2)) G)) (ht : ∀ (s : Shared) (H : Hp) (C : Addr) (cl : List (Str × Addr)) (fp : List Addr), PTs (X.blk s H scope (compEnvC scope cl C X.env) fp) ifs (lT mg W0 T))
    (hi1 : ∀ (s : Shared) (H : Hp) (C : Addr) (cl : List (Str × Addr)) (fp : List Addr), PI (X.blk s H scope (compEnvC scope cl C X.env) fp) tg1 iter1 (lI mg W0 I1))
    (hg1 : ∀ (s : Shared) (H : Hp) (C : Addr) (cl : List (Str × Addr)) (fp : List Addr), PG (X.blk s H scope (compEnvC scope cl C X.env) fp) tg1 (lG vs1 G1)) (ht1 : ∀ (s : Shared) (H : Hp) (C : Addr) (cl : List (Str × Addr)) (fp : List Addr), PTs (X.blk s H scope (compEnvC scope cl C X.env) fp) ifs1 (lT mg W0 T1))
    (he : ∀ (s : Shared) (H : Hp) (C : Addr) (cl : List (Str × Addr)) (fp : List Addr), PE (X.blk s H scope (compEnvC scope cl C X.env) fp) elt (lE mg W0 E)) (hs : ∀ x, foldedSetIterable iter X.env x = pure x := by intro _; rfl) (hs1 : ∀ env x, foldedSetIterable iter1 env x = pure x := by intro _ _; rfl) :
    PE X (.ListComp elt [⟨tg, iter, ifs, 0⟩, ⟨tg1, iter1, ifs1, 0⟩] scope pos) (lfL mg W (aLc2 I G T I1 G1 T1 E (own.map (·.2)) vs1)) := weakE (pe_lc2 hc hN hi ok hv hg ht hi1 hg1 ht1 he hs hs1) fun _ _ _ q => lc2_ok q
/-! ### len(set(xs)) -/
def dist (ns : List Int) : Nat := (PyProof.Rows.firstMet (fun i => ns.getD i 0) ns.length).length
def tLenSetG (K : PySem.W.Frag) (ta : TE) : TE := fun σ H Q => ta σ H fun x H1 => ∃ (l : Addr) (ns : List Int), x = .ref l ∧ SqL K H1 l (ns.map V.int) ∧ ns.length ≤ 4000 ∧ Q (.int (dist ns : Nat)) H1
theorem pe_lenSetG {a : Expr} {ta : TE} {p p2 q pos : Pos} (hg : Gl X "len") (hm : X.mg "len" = none) (hg2 : Gl X "set") (hm2 : X.mg "set" = none) (ha : PE X a ta) (hc : X.calm = true := by rfl)
    (na : starEach [a] X.env = (false, eval a X.env) :: starEach [] X.env := by rfl) : PE X (.Call (.Name "len" p) [.Call (.Name "set" p2) [a] [] q] [] pos) (tLenSetG X.K ta) := by
  refine ⟨fun pins s σ H Q I h => ?_⟩
  refine Call_ (ld_blt I hg hm boot_len ?_)
  refine PyProof.Rows.callWith_builtin1 (PyProof.Rows.args_cons ?_ rfl) rfl rfl
  refine Call_ (ld_blt I hg2 hm2 boot_set ?_)
  refine PyProof.Rows.callWith_type1 (PyProof.Rows.args_cons (thn (ha.run pins s σ H _ I h) fun v s1 ⟨x, H1, I1, r1, q1⟩ => PyProof.Rows.args_nil ?_) na) na rfl
  obtain ⟨l, ns, rfl, hq, hl, q1⟩ := q1
  cases r1
  obtain ⟨its, r, pl, hz⟩ := I1.list hq
  have hlen : its.toArray.size = ns.length := by rw [List.size_toArray, ← r.length, List.length_map]
  refine call_set_list (I1.ok.hd hc) pl.isList (by simpa using RZ.intsAre_vals r) (by rw [hlen]; unfold scanBound; omega) fun h' tk hS hk => ?_
  refine PyProof.Rows.args_nil ?_
  rw [hlen] at hS
  have hle := PyProof.Rows.firstMet_length_le (fun i => ns.getD i 0) ns.length
  obtain ⟨o, es, ep, t, ho, hex, hd, _, _, _, hf, hn⟩ := hS
  have I2 : Inv X pins σ H1 { s1 with heap := h', toks := tk } := I1.kept fun b o e => hk b o (Heap.lt_size e) e
  exact call_len_set ho hex hd hf (by rw [hn] <;> omega) ⟨.int (dist ns : Nat), H1, I2.tok _, ⟨_, by rw [hn] <;> rfl⟩, q1⟩
def fLenSet : Wl → D → Option D := fun _ x => match x with
  | .lst ds => match ints? ds with
    | some ns => if ns.length ≤ 4000 then some (.int (dist ns)) else none
    | none => none
  | _ => none
theorem pd_lenSet {A : DE} {p p2 q : Pos} (hg : Gl X "len") (hm : X.mg "len" = none) (hg2 : Gl X "set") (hm2 : X.mg "set" = none) (ha : PE X a (lE mg W A)) (hc : X.calm = true := by rfl)
    (na : starEach [a] X.env = (false, eval a X.env) :: starEach [] X.env := by rfl) : PE X (.Call (.Name "len" p) [.Call (.Name "set" p2) [a] [] q] [] pos) (lE mg W (eUn fLenSet A)) := weakE (pe_lenSetG hg hm hg2 hm2 ha hc na) fun σ H Q h => by
  obtain ⟨wa, Hf, sD, w, hb, hs, h⟩ := h
  refine ⟨wa, Hf, sD, w, hb, hs, h.bind.mono (fun x w1 H1 Hf1 g1 b1 q v rv => ?_) (fun _ _ _ _ _ _ q => q)⟩
  obtain ⟨z, e, q3⟩ := q.opt
  unfold fLenSet at e
  split at e
  · split at e
    · rename_i ds ns hn
      split at e
      · rename_i hl
        cases e
        obtain ⟨a, vs, ev, h1, r1⟩ := one_lst (Reps.cons rv .nil)
        cases ev
        rw [ints?_some hn] at r1
        have e2 := r1.ints
        subst e2
        exact ⟨a, ns, rfl, SqL.of (b1.ex _ _ h1), hl, q3 _ _ Go.refl b1 _ (.int _)⟩
      · cases e
    · cases e
  · cases e
@[simp] theorem v_lenSet {w : Wl} {ns : List Int} : fLenSet w (.lst (ns.map .int)) = if ns.length ≤ 4000 then some (.int (dist ns)) else none := by
  unfold fLenSet
  simp only [ints?_map]
/-! ### is, is not of bools -/
def fIsB : Wl → D → D → Option D := fun _ x y => match x, y with
  | .bl a, .bl b => some (.bl (decide (a = b)))
  | _, _ => none
def fNotB : Wl → D → D → Option D := fun _ x y => match x, y with
  | .bl a, .bl b => some (.bl (!decide (a = b)))
  | _, _ => none
theorem opd_isB : OpD rIsB fIsB := by
  intro wa Hf H w x y u v z Q hb ru rv h q
  unfold fIsB at h
  split at h
  · cases h
    cases ru
    cases rv
    exact ⟨_, _, rfl, rfl, q _ _ Go.refl hb _ (.bl _)⟩
  · cases h
theorem opd_notB : OpD rNotB fNotB := by
  intro wa Hf H w x y u v z Q hb ru rv h q
  unfold fNotB at h
  split at h
  · cases h
    cases ru
    cases rv
    exact ⟨_, _, rfl, rfl, q _ _ Go.refl hb _ (.bl _)⟩
  · cases h
theorem pd_isB {A B : DE} (ha : PE X a (lE mg W A)) (hb : PE X b (lE mg W B)) : PE X (.Compare a [.Is] [b] pos) (lE mg W (eBin fIsB A B)) := pd_cmp op_isBl opd_isB ha hb (nomark _)
theorem pd_notB {A B : DE} (ha : PE X a (lE mg W A)) (hb : PE X b (lE mg W B)) : PE X (.Compare a [.IsNot] [b] pos) (lE mg W (eBin fNotB A B)) := pd_cmp op_notBl opd_notB ha hb (nomark _)
theorem qd_isB {A B : DE} (ha : PE X a (lE mg W A)) (hb : PE X b (lE mg W B)) : PT X (.Compare a [.Is] [b] pos) (lT mg W (tE (eBin fIsB A B))) := qd_cmp op_isBl opd_isB ha hb (nomark _)
theorem qd_notB {A B : DE} (ha : PE X a (lE mg W A)) (hb : PE X b (lE mg W B)) : PT X (.Compare a [.IsNot] [b] pos) (lT mg W (tE (eBin fNotB A B))) := qd_cmp op_notBl opd_notB ha hb (nomark _)
@[simp] theorem v_isB {w : Wl} {x y : Bool} : fIsB w (.bl x) (.bl y) = some (.bl (decide (x = y))) := rfl
@[simp] theorem v_notB {w : Wl} {x y : Bool} : fNotB w (.bl x) (.bl y) = some (.bl (!decide (x = y))) := rfl
end
section
variable {w : Wl} {s : Sl} {A E : DE} {T T1 : DT} {I I1 : DI} {G G1 : DG}
@[simp] theorem okE_lc2 {vs vs1 : List Nat} {QA : List D → Wl → Prop} : okE (aLc2 I G T I1 G1 T1 E vs vs1 s w) QA = okE (I s w) fun ds w1 => okE (lc2D G T I1 G1 T1 E vs1 ds (wipeS s vs) w1) fun ys w2 => ys.length ≤ lim ∧ QA ys w2 := by
  unfold aLc2; simp only [okE_bind, okE_noer]; congr; funext ds w1; congr; funext ys w2; split <;> simp [*]
/-- a comprehension of two clauses without tests, element by element -/
theorem lc2_all {γ δ : Type} {vs1 : List Nat} (g : γ → D) (h : γ → List δ) (g1 : δ → D) (f : γ → δ → D) {s : Sl} {w : Wl} : ∀ {xs : List γ}, (∀ x ∈ xs, okO (G (g x) s) fun s1 => I1 s1 w = .ok ((h x).map g1) w ∧ ∀ y ∈ h x, okO (G1 (g1 y) (wipeS s1 vs1)) fun s2 => okE (E s2 w) fun d w1 => d = f x y ∧ w1 = w) →
    lc2D G tYesD I1 G1 tYesD E vs1 (xs.map g) s w = .ok (xs.flatMap fun x => (h x).map (f x)) w
  | [], _ => rfl
  | x :: xs, k => by
    have h1 := k x List.mem_cons_self
    have ih := lc2_all g h g1 f (xs := xs) fun y hy => k y (List.mem_cons_of_mem _ hy)
    rw [List.map_cons]
    unfold lc2D
    cases e : G (g x) s with
    | none => rw [e] at h1; exact h1.elim
    | some s1 =>
      rw [e] at h1
      obtain ⟨h2, h3⟩ := h1
      have q : lcD G1 tYesD E ((h x).map g1) (wipeS s1 vs1) w = .ok ((h x).map (f x)) w := lc_all g1 (f x) h3
      simp only [tYesD, R.noer_ok, R.bind_ok, if_true, h2, q, List.flatMap_cons]
      rw [show lc2D G tYesD I1 G1 tYesD E vs1 (xs.map g) s w = _ from ih]
      rfl
end
end DL

set_option maxHeartbeats 2000000
/-! sorted of a set of ints, as many as a set may have -/
namespace L2
open PySem.Spec PyProof.Rows PySem
theorem sorted_setN {P : Program} {w : World} {A : Around} {E : Value → Shared → Prop} {s : Shared} {a : Addr} {S : Int → Bool} {n : Nat} {Q : Value → Shared → Prop} (R : SetR w s.heap a S n) (hh : A.handled = none)
    (hQ : ∀ s' p (out : List Value) (c : Nat) (ns : List Int), (∀ b o, s.heap.get? b = some o → s'.heap.get? b = some o) → s'.gens = s.gens → s'.os = s.os → s.heap.objs.size ≤ p →
      s'.heap.get? p = some (seqObj "list" out.toArray c) → IntsAre out ns → ns.Pairwise (· < ·) → (∀ k, k ∈ ns ↔ S k = true) → ns.length = n → Q (.ref p) s') : wpAny (model P w) A (call (.builtin "sorted") [.ref a]) Q E s := by
  obtain ⟨o, es, ep, t, h1, h2, h3, good, nodup, mem, few, fits, size, ris, led⟩ := R
  apply Calls.call_function_entry kind_sorted plain_sorted entry_sorted (args_sorted1 _)
  delta Builtin.«sorted»
  refine wpAny_bind (m := checkCount "sorted" 1 1 _) (wpAny_pure ?_)
  apply wpAny_bind
  refine collect_set (A := A.in1) hh ⟨o, h1, h2.1, h3⟩ fits few ris led fun s1 vs kp hz hg ho pm => ?_
  have lv : vs.length = n := by
    rw [pm.length_eq, List.length_map, Array.length_toList]
    exact size
  have hI : IntsAre vs (vs.map Builtin.Re.reRawOf) := ints_of vs fun v m => by
    obtain ⟨e, he, q⟩ := List.mem_map.mp (pm.mem_iff.mp m)
    obtain ⟨k, tk, z, _⟩ := good e he
    exact ⟨k, tk, q ▸ z⟩
  have pk : (vs.map Builtin.Re.reRawOf).Perm (es.toList.map keyOf) := by
    have := pm.map Builtin.Re.reRawOf
    rw [List.map_map] at this
    exact this
  have hn : n < 4096 := size ▸ few
  have hsz : vs.length ≤ sizeLine := by rw [lv, sizeLine_eq]; omega
  apply wpAny_bind
  refine wpAny_newList ?_ hsz
  have hL : (s1.heap.push (seqObj "list" vs.toArray 0)).get? s1.heap.objs.size = some (seqObj "list" vs.toArray 0) := Heap.get?_push_size _ rfl
  apply wpAny_bind
  apply wpAny_holding
  refine wpAny_call_entry slot_list_sort ⟨_, hL, rfl⟩ entry_list_sort (SrtO.list_sort_ord SrtO.swo_int hL hsz (fun h2 => SrtO.ints_sortable hI h2) fun out o1 o2 => ⟨_, rfl, ?_⟩) (args_list_sort _)
  obtain ⟨k1, k2, k3⟩ := SrtO.ints_out hI o1 o2
  obtain ⟨c, hc⟩ := sortedHeap_at (vs := vs) (out := out.toArray) hL
  have pn := k2.trans pk
  refine wpAny_pure ⟨_, rfl, hQ _ _ out c _ (fun b u e => ?_) hg ho hz hc k1 (lt_of_le_nodup _ k3 (pn.nodup_iff.mpr nodup)) (fun k => ?_) ?_⟩
  · have e1 := kp b u e
    have lt1 := Heap.lt_size e1
    refine (sortedHeap_old (Nat.ne_of_lt lt1) ?_).trans (Heap.get?_push_of_some _ e1)
    rw [size_push']
    exact Nat.lt_succ_of_lt lt1
  · rw [pn.mem_iff, ← mem k]
  · rw [pn.length_eq, List.length_map, Array.length_toList]
    exact size
def rSortedSetN (w : World) : List V → Hp → VK → Prop := fun vs H Q => ∃ (a : Addr) (S : Int → Bool) (n : Nat), vs = [V.ref a] ∧ H a = some (SetO w a S n) ∧
  ∀ (ns : List Int) (p : Addr), ns.Pairwise (· < ·) → (∀ k : Int, k ∈ ns ↔ S k = true) → ns.length = n → H p = none → Q (.ref p) (upd H p (.lst (ns.map V.int)))
theorem cr_sortedSetN {X : Cx} (hc : X.calm = true) : CallR X (.builtin "sorted") (rSortedSetN X.w) := by
  intro pins s σ H vs us Q I r h
  obtain ⟨a, S, n, rfl, ha, q⟩ := h
  have R := setO_get I ha
  have hfew : n < 4096 := by
    obtain ⟨_, es, _, _, _, _, _, _, _, _, few, _, size, _⟩ := R
    exact size ▸ few
  rw [Vals.ref1 r]
  refine sorted_setN R (I.ok.hd hc) fun s' p out c ns kp g o hp hg hi hs hm hl => ?_
  have hn : H p = none := I.hok.fresh hp
  have es : s' = { s with heap := s'.heap, gens := s'.gens, drawn := s'.drawn, toks := s'.toks } := by
    cases s
    cases s'
    cases o
    rfl
  have J : Inv X pins σ (upd H p (.lst (ns.map V.int))) { s with heap := s'.heap, gens := s'.gens, drawn := s'.drawn, toks := s'.toks } :=
    I.call (ch := []) (Un.laid kp hp hn) (I.hok.laid kp hp ⟨by rw [List.length_map, hl, sizeLine_eq]; omega, out, c, vals_of_ints hi, hg⟩) (by rw [g]; exact I.bare) (fun _ z => nomatch z)
  rw [es]
  exact ⟨.ref p, _, J, rfl, q ns p hs hm hl hn⟩
end L2

set_option maxHeartbeats 2000000
namespace DL
open PySem PySem.Spec PyProof.Rows L2
variable [TabT] [OldT]
open Evl (Ex)
/-! ### sorted({..}), sorted(set(..)) of ints -/
def insS (k : Int) : List Int → List Int
  | [] => [k]
  | j :: r => if k < j then k :: j :: r else if k = j then j :: r else j :: insS k r
/-- the ints of a row, each once, ascending -/
def sset : List Int → List Int
  | [] => []
  | k :: r => insS k (sset r)
theorem mem_insS {k x : Int} : ∀ {r : List Int}, x ∈ insS k r ↔ x = k ∨ x ∈ r
  | [] => by simp [insS]
  | j :: r => by
    unfold insS
    split
    · simp
    · split
      · rename_i h1 h2
        subst h2
        simp only [List.mem_cons]
        constructor
        · intro h; exact .inr h
        · rintro (h | h)
          · exact .inl h
          · exact h
      · simp only [List.mem_cons, mem_insS (r := r)]
        constructor
        · rintro (h | h | h)
          · exact .inr (.inl h)
          · exact .inl h
          · exact .inr (.inr h)
        · rintro (h | h | h)
          · exact .inr (.inl h)
          · exact .inl h
          · exact .inr (.inr h)
theorem mem_sset {x : Int} : ∀ {r : List Int}, x ∈ sset r ↔ x ∈ r
  | [] => by simp [sset]
  | j :: r => by rw [sset, mem_insS, mem_sset (r := r), List.mem_cons]
theorem lt_insS {k : Int} : ∀ {r : List Int}, r.Pairwise (· < ·) → (insS k r).Pairwise (· < ·)
  | [], _ => by simp [insS]
  | j :: r, h => by
    obtain ⟨h1, h2⟩ := List.pairwise_cons.mp h
    unfold insS
    split
    · rename_i hk
      refine List.pairwise_cons.mpr ⟨fun y hy => ?_, h⟩
      rcases List.mem_cons.mp hy with e | e
      · rw [e]; exact hk
      · exact Int.lt_trans hk (h1 y e)
    · split
      · exact h
      · rename_i hk he
        refine List.pairwise_cons.mpr ⟨fun y hy => ?_, lt_insS h2⟩
        rcases mem_insS.mp hy with e | e
        · rw [e]; omega
        · exact h1 y e
theorem lt_sset : ∀ r : List Int, (sset r).Pairwise (· < ·)
  | [] => .nil
  | _ :: r => lt_insS (lt_sset r)
theorem insS_len {k : Int} : ∀ {r : List Int}, (insS k r).length ≤ r.length + 1
  | [] => Nat.le_refl _
  | j :: r => by
    unfold insS
    split
    · simp
    · split
      · simp
      · have := insS_len (k := k) (r := r)
        simp only [List.length_cons]
        omega
theorem sset_len : ∀ r : List Int, (sset r).length ≤ r.length
  | [] => Nat.le_refl _
  | k :: r => by
    have h1 := insS_len (k := k) (r := sset r)
    have h2 := sset_len r
    rw [sset, List.length_cons]
    omega
theorem asc_ext : ∀ {xs ys : List Int}, xs.Pairwise (· < ·) → ys.Pairwise (· < ·) → (∀ k, k ∈ xs ↔ k ∈ ys) → xs = ys
  | [], [], _, _, _ => rfl
  | [], y :: ys, _, _, h => absurd ((h y).mpr List.mem_cons_self) (by simp)
  | x :: xs, [], _, _, h => absurd ((h x).mp List.mem_cons_self) (by simp)
  | x :: xs, y :: ys, hx, hy, h => by
    obtain ⟨x1, x2⟩ := List.pairwise_cons.mp hx
    obtain ⟨y1, y2⟩ := List.pairwise_cons.mp hy
    have e : x = y := by
      rcases List.mem_cons.mp ((h x).mp List.mem_cons_self) with e | e
      · exact e
      · rcases List.mem_cons.mp ((h y).mpr List.mem_cons_self) with f | f
        · exact f.symm
        · have := y1 x e
          have := x1 y f
          omega
    subst e
    congr 1
    refine asc_ext x2 y2 fun k => ?_
    constructor
    · intro hk
      rcases List.mem_cons.mp ((h k).mp (List.mem_cons_of_mem _ hk)) with e | e
      · subst e; exact absurd (x1 k hk) (by omega)
      · exact e
    · intro hk
      rcases List.mem_cons.mp ((h k).mpr (List.mem_cons_of_mem _ hk)) with e | e
      · subst e; exact absurd (y1 k hk) (by omega)
      · exact e
theorem mem_len {x : Int} : ∀ {r : List Int}, x ∈ r → (insS x r).length = r.length ∨ ¬ r.Pairwise (· < ·)
  | j :: r, h => by
    by_cases hp : (j :: r).Pairwise (· < ·)
    · obtain ⟨h1, h2⟩ := List.pairwise_cons.mp hp
      left
      unfold insS
      split
      · rename_i hk
        rcases List.mem_cons.mp h with e | e
        · omega
        · exact absurd (h1 x e) (by omega)
      · split
        · rfl
        · rename_i _ hne
          rcases List.mem_cons.mp h with e | e
          · exact absurd e hne
          · rcases mem_len e with e | e
            · simp [e]
            · exact absurd h2 e
    · exact .inr hp
theorem nmem_len {x : Int} : ∀ {r : List Int}, x ∉ r → (insS x r).length = r.length + 1
  | [], _ => rfl
  | j :: r, h => by
    unfold insS
    split
    · rfl
    · split
      · rename_i e
        exact absurd (by rw [e]; exact List.mem_cons_self) h
      · rw [List.length_cons, nmem_len fun z => h (List.mem_cons_of_mem _ z), List.length_cons]
section
variable {X : Cx}
/-- {elt for tg in iter if ..}, its members ints: D the set -/
def tSci (w : World) (ti : TI) (tg : TG) (tt : TT) (te : TE) (vs : List Nat) : TE := fun σ H Q => ti σ H fun J Ha => ∀ D, Ha D = none → ∃ W : Nat → Nat → Hp → Prop, (∃ m, W 0 m (upd Ha D (SetO w D (fun _ => false) 0))) ∧ ∀ i m Hb, W i m Hb →
  (J.stop i Hb ∧ Q (.ref D) Hb) ∨ (J.go i Hb ∧ ∃ Nx : Hp → Prop, (∀ Hc, Nx Hc → ∃ m', m' < m ∧ W (i + 1) m' Hc) ∧ ∀ x Hc, J.yld i Hb x Hc → tg x (wipe σ vs) Hc fun σ2 H2 => wipe σ2 vs = wipe σ vs ∧ tt σ2 H2 fun b H3 =>
    if b = true then te σ2 H3 fun y H4 => ∃ (c : Int) (S : Int → Bool) (n : Nat), y = .int c ∧ H4 D = some (SetO w D S n) ∧ n + 1 < scanBound ∧ Nx (upd H4 D (SetO w D (fun j => S j || decide (j = c)) (if S c = true then n else n + 1))) else Nx H3)
theorem sci_core {pins : List (Addr × Obj)} {s : Shared} {σ : L2.St} {H : Hp} {Q : VK} {elt tgt itr : Expr} {tests : List Expr} {scope : Scope} {own : List (PySem.Str × Nat)} {pos pos' : Pos} {ti : TI} {tg : TG} {tt : TT} {te : TE} {use : Option (Value → Sem Unit)} {Qf : Value → Shared → Prop}
    (hc : X.calm = true) (hN : X.N.Nodup) (Iv : Inv X pins σ H s) (hi : PI X tgt itr ti) (ok : BlkOk X.N X.env.scope scope own)
    (hg : ∀ (s' : Shared) (H' : Hp) (C : Addr) (cl : List (PySem.Str × Addr)) (fp : List Addr), PG (X.blk s' H' scope (compEnvC scope cl C X.env) fp) tgt tg)
    (ht : ∀ (s' : Shared) (H' : Hp) (C : Addr) (cl : List (PySem.Str × Addr)) (fp : List Addr), PTs (X.blk s' H' scope (compEnvC scope cl C X.env) fp) tests tt)
    (he : ∀ (s' : Shared) (H' : Hp) (C : Addr) (cl : List (PySem.Str × Addr)) (fp : List Addr), PE (X.blk s' H' scope (compEnvC scope cl C X.env) fp) elt te) (hs : ∀ x, foldedSetIterable itr X.env x = pure x)
    (hyp : tSci X.w ti tg tt te (own.map (·.2)) σ H Q)
    (fin0 : ∀ D C s' m H', Inv X pins σ H' s' → Q (.ref D) H' → s'.heap.Ns C m → FpOk X pins H' C → compPost (model X.prog X.w) X.A X.xe use Qf (.ref D) C (.ok .next) s') :
    wpAny (model X.prog X.w) X.A (comprehension (.SetComp elt [⟨tgt, itr, tests, 0⟩] scope pos) scope X.env pos' (newSet (.type "set")) false (eval itr X.env) use) Qf X.xe s := by
  have hfr : ∀ y ∈ scope.names, y.2 = .free → ∃ c, X.env.cells.lookup y.1 = some c := fun y hy e => (ok.free y hy e).elim (fun k => Iv.ok.has _ (.inl k)) fun k => Iv.ok.has _ (.inr k)
  refine wpAny_comprehension_free (use := use) rfl hs (closure_ok hfr) ok.kind (fun y hy e => by rw [ok.uniq y hy, e]) (thn (hi.run pins s σ H _ Iv hyp) fun xv s1 hx => thn hx fun itv s2 h2 => ?_)
  obtain ⟨it, fp, tn, J, H2, e, I2, T, st2, f2, q⟩ := h2
  subst e
  refine PpSet.newSet_ok (newEnv_comp ?_)
  generalize hD : s2.heap.objs.size = D
  have nD : H2 D = none := I2.hok.fresh (Nat.le_of_eq hD)
  obtain ⟨W, ⟨m0, w0⟩, turn⟩ := q D nD
  generalize hsa : ({ s2 with heap := s2.heap.push { cls := .type "set", dict := none, data := .set #[] 0 (.fresh 0 0 (!X.w.params.followText "set-order")) } } : Shared) = sa
  have Ia : Inv X pins σ (upd H2 D (SetO X.w D (fun _ => false) 0)) sa := by
    rw [← hsa]
    refine I2.laid (t' := s2.toks) (fun b o e => Heap.get?_push_of_some _ e) (Nat.le_of_eq hD) ?_
    rw [← hD]
    exact setO_new (setR_fresh X.w)
  have ha : sa.heap = s2.heap.push { cls := .type "set", dict := none, data := .set #[] 0 (.fresh 0 0 (!X.w.params.followText "set-order")) } := by rw [← hsa]
  have szp : ∀ b ∈ fp, b < s2.heap.objs.size := fun b hb => let ⟨o, e, _⟩ := T.obj _ _ st2 b hb; Heap.lt_size e
  have fa : ∀ b ∈ fp, FpOk X pins (upd H2 D (SetO X.w D (fun _ => false) 0)) b ∧ b < sa.heap.objs.size := fun b hb => by
    have hlt := szp b hb
    refine ⟨⟨?_, (f2 b hb).2⟩, by rw [ha, Heap.size_push]; exact Nat.lt_succ_of_lt hlt⟩
    rw [upd_ne (by rw [← hD]; exact Nat.ne_of_lt hlt)]
    exact (f2 b hb).1
  have sta : tn 0 sa.heap := T.keep _ _ _ st2 fun b _ o e => by rw [ha]; exact Heap.get?_push_of_some _ e
  have Ib := block_start Ia ok hN fa
  have pg := hg sa (upd H2 D (SetO X.w D (fun _ => false) 0)) sa.heap.objs.size (cellsFrom (sa.heap.objs.size + 1) scope.names (cloFrom X.env.cells scope.names [])) fp
  have pt := ht sa (upd H2 D (SetO X.w D (fun _ => false) 0)) sa.heap.objs.size (cellsFrom (sa.heap.objs.size + 1) scope.names (cloFrom X.env.cells scope.names [])) fp
  have pe := he sa (upd H2 D (SetO X.w D (fun _ => false) 0)) sa.heap.objs.size (cellsFrom (sa.heap.objs.size + 1) scope.names (cloFrom X.env.cells scope.names [])) fp
  show codeAny _ _ (.compStart (.SetComp elt [⟨tgt, itr, tests, 0⟩] scope pos) 0 (.ref it) (.ref D) (compEnvC scope (cellsFrom (sa.heap.objs.size + 1) scope.names (cloFrom X.env.cells scope.names [])) sa.heap.objs.size X.env)) (compPost (model X.prog X.w) X.A X.xe use Qf (.ref D) sa.heap.objs.size) { sa with heap := pushCells (sa.heap.push { cls := .type "dict", data := .dict #[] }) scope.names }
  have na : ∀ b ∈ fp, (upd H2 D (SetO X.w D (fun _ => false) 0)) b = none := fun b hb => (fa b hb).1.1
  generalize hce : compEnvC scope (cellsFrom (sa.heap.objs.size + 1) scope.names (cloFrom X.env.cells scope.names [])) sa.heap.objs.size X.env = ce at Ib pg pt pe ⊢
  have cL : ce.locals = sa.heap.objs.size := by subst hce; rfl
  generalize hHa : upd H2 D (SetO X.w D (fun _ => false) 0) = Ha at Ia Ib pg pt pe w0 na fa
  generalize hsb : ({ sa with heap := pushCells (sa.heap.push { cls := .type "dict", data := .dict #[] }) scope.names } : Shared) = sb at Ib ⊢
  have stb : tn 0 sb.heap := T.keep _ _ _ sta fun b _ o e => by rw [← hsb]; exact pushCells_keeps _ _ _ _ (Heap.get?_push_of_some _ e)
  have still : ∀ {σ' : L2.St} {H' : Hp} {s' : Shared}, Inv (X.blk sa Ha scope ce fp) [] σ' H' s' → (∀ b ∈ fp, H' b = none) → ∀ b ∈ fp, FpOk (X.blk sa Ha scope ce fp) [] H' b := fun {σ' H' s'} I' hn b hb =>
    ⟨hn b hb, (I'.ok.exf b hb).1, I'.ok.exfs b hb, .inl hb, fun x c e => (I'.ok.exf b hb).2 x c e, fun p hp => absurd (show p ∈ ([] : List (Addr × Obj)) ++ [] from hp) (by simp)⟩
  have loop : codeAny (model X.prog X.w) X.A (.compLoop (.SetComp elt [⟨tgt, itr, tests, 0⟩] scope pos) 0 (.ref it) (.ref D) ce) (compPost (model X.prog X.w) X.A X.xe use Qf (.ref D) sa.heap.objs.size) sb := by
    refine PpSet.compLoopS_any (fun n s' => ∃ i H', Inv (X.blk sa Ha scope ce fp) [] (wipe σ (own.map (·.2))) H' s' ∧ tn i s'.heap ∧ (∀ b ∈ fp, H' b = none) ∧ W i n H') ?_ m0 ⟨0, Ha, Ib, stb, na, w0⟩
    rintro n s5 ⟨i, H5, I5, st5, n5, w5⟩
    rcases turn i n H5 w5 with ⟨halt, qq⟩ | ⟨on, Nx, hNx, step⟩
    · refine thnF (T.done (X.blk sa Ha scope ce fp) rfl rfl rfl hc i [] s5 _ H5 (fun _ _ => False) I5 (still I5 n5) st5 halt) fun r s6 ⟨hr, I6⟩ => ?_
      subst hr
      have I7 : Inv X pins σ H5 s6 := Ia.call' (ch := fp) I6.os I6.base I6.hok I6.bare fun b hb => ⟨(fa b hb).1.2.2.2.1, (fa b hb).1.2.1, (fa b hb).1.2.2.2.2.1, (fa b hb).1.2.2.2.2.2⟩
      have nC : H5 sa.heap.objs.size = none := by
        have z : H5 ce.locals = none := I6.free
        rwa [cL] at z
      obtain ⟨m, hn, _⟩ := I6.loc
      have hn : s6.heap.Ns ce.locals m := hn
      rw [cL] at hn
      exact fin0 D sa.heap.objs.size s6 m H5 I7 qq hn (Ia.fpOk (Nat.le_refl _) nC)
    · refine thnF (T.item (X.blk sa Ha scope ce fp) rfl rfl rfl hc i [] s5 _ H5 (fun _ _ => False) I5 (still I5 n5) st5 on) fun r s6 ⟨u, hr, h6⟩ => ?_
      subst hr
      refine thnF h6 fun _ s7 ⟨x, H7, I7, r7, y7, st7, n7⟩ => ?_
      refine thnF (pg.run _ s7 _ H7 x u _ (I7.pinned (still I7 n7) (T.obj _ _ st7)) r7 (step x H7 y7)) fun _ s8 ⟨σ8, H8, I8, hw8, q8⟩ => ?_
      refine thnF (pt.run _ s8 σ8 H8 _ I8 q8) fun b s9 ⟨H9, I9, q9⟩ => ?_
      have back : ∀ {s' : Shared} {H' : Hp}, Inv (X.blk sa Ha scope ce fp) ([] ++ pinsAt fp s7.heap) σ8 H' s' → Nx H' → ∃ m, m < n ∧ ∃ i H', Inv (X.blk sa Ha scope ce fp) [] (wipe σ (own.map (·.2))) H' s' ∧ tn i s'.heap ∧ (∀ b ∈ fp, H' b = none) ∧ W i m H' := fun {s' H'} I' nx => by
        obtain ⟨m', hm, w'⟩ := hNx H' nx
        have held : ∀ b ∈ fp, ∀ o, s7.heap.get? b = some o → s'.heap.get? b = some o ∧ H' b = none := fun b hb o e =>
          let z := I'.pin (b, o) (List.mem_append_right _ (List.mem_append_right _ (mem_pinsAt hb e)))
          ⟨z.1, z.2.1⟩
        have hl : (wipe σ (own.map (·.2))).length = σ8.length := by rw [← hw8, wipe_length]
        refine ⟨m', hm, i + 1, H', (I'.unpinned (pins := [])).weak hl (fun j v e => ?_), T.keep _ _ _ st7 fun b hb o e => (held b hb o e).1, fun b hb => let ⟨o, e, _⟩ := T.obj _ _ st7 b hb; (held b hb o e).2, w'⟩
        rw [← hw8] at e
        exact (wipe_some e).1
      cases b with
      | false =>
        simp only [Bool.false_eq_true, if_false] at q9 ⊢
        exact back I9 q9
      | true =>
        simp only [if_true] at q9 ⊢
        refine thnF (pe.run _ s9 σ8 H9 _ I9 q9) fun z s10 ⟨yv, H10, I10, r10, cb, S0, n0, ey, hD10, hz10, nx⟩ => ?_
        subst ey
        have add := mt_sadd (X := X.blk sa Ha scope ce fp) _ s10 σ8 H10 (.ref D) [.int cb] (.ref D) [z] (fun _ H' => Nx H') I10 rfl (.cons r10 .nil) ⟨D, cb, S0, n0, rfl, rfl, hD10, hz10, nx⟩
        exact thnF add fun _ s11 ⟨_, H11, I11, _, nx'⟩ => back I11 nx'
  exact PpSet.codeAny_compStart_set loop (T.self X.A 0 _ _ _ stb loop)
/-- the set as a value -/
theorem pe_sci {elt tgt itr : Expr} {tests : List Expr} {scope : Scope} {own : List (PySem.Str × Nat)} {pos : Pos} {ti : TI} {tg : TG} {tt : TT} {te : TE} (hc : X.calm = true) (hN : X.N.Nodup) (hi : PI X tgt itr ti) (ok : BlkOk X.N X.env.scope scope own)
    (hg : ∀ (s' : Shared) (H' : Hp) (C : Addr) (cl : List (PySem.Str × Addr)) (fp : List Addr), PG (X.blk s' H' scope (compEnvC scope cl C X.env) fp) tgt tg)
    (ht : ∀ (s' : Shared) (H' : Hp) (C : Addr) (cl : List (PySem.Str × Addr)) (fp : List Addr), PTs (X.blk s' H' scope (compEnvC scope cl C X.env) fp) tests tt)
    (he : ∀ (s' : Shared) (H' : Hp) (C : Addr) (cl : List (PySem.Str × Addr)) (fp : List Addr), PE (X.blk s' H' scope (compEnvC scope cl C X.env) fp) elt te) (hs : ∀ x, foldedSetIterable itr X.env x = pure x := by intro _; rfl) :
    PE X (.SetComp elt [⟨tgt, itr, tests, 0⟩] scope pos) (tSci X.w ti tg tt te (own.map (·.2))) := ⟨fun pins s σ H Q Iv h => by
  rw [PpSet.eval_SetComp]
  refine sci_core hc hN Iv hi ok hg ht he hs h fun D C s' m H' I' q hn f => ⟨m, hn, fun h'' sb => ?_⟩
  obtain ⟨f0, f1, f2, f3, f4, f5⟩ := f
  exact ⟨.ref D, H', I'.turned (t' := s'.toks) (fun b o hb e => (sb.2 b hb).trans e) f0 f1 f3 f4 f5, rfl, q⟩⟩
end

def aSS (I : DI) (G : DG) (T : DT) (E : DE) (vs : List Nat) : DA := fun s w => (I s w).bind fun ds w1 => if ds.length ≤ lim then (lcD G T E ds (wipeS s vs) w1).noer.bind fun ys w2 => match ints? ys with
  | some ns => if ns.length < 1000 then .ok ((sset ns).map .int) w2 else .no
  | none => .no
  else .no
section
variable {X : Cx} {mg : Str → Option Value} {W : WX} {elt itr tgt a : Expr} {es tests : List Expr} {pos : Pos} {σ : L2.St} {H : Hp} {wa : Addr} {Hf : Hp}
theorem int_of {y : D} {ys : List D} {us : List Int} (h : y :: ys = us.map D.int) : ∃ c vs, us = c :: vs ∧ y = .int c ∧ ys = vs.map D.int := by
  cases us with
  | nil => cases h
  | cons c vs => cases h; exact ⟨c, vs, rfl, rfl, rfl⟩
theorem nt_setO {w0 : World} {D : Addr} {S : Int → Bool} {n : Nat} : NT (SetO w0 D S n) := fun _ z => by unfold SetO at z; cases z
theorem nu_setO {w0 : World} {D : Addr} {S : Int → Bool} {n : Nat} : NU (SetO w0 D S n) := ⟨nt_setO, fun _ z => by unfold SetO at z; cases z⟩
theorem ss_ok {w0 : World} {I : DI} {G : DG} {T : DT} {E : DE} {vs : List Nat} {Q : VK} (h : lfL mg W (aSS I G T E vs) σ H Q) : tCB (rSortedSetN w0) (tCons (tSci w0 (lI mg W I) (lG vs G) (lT mg W0 T) (lE mg W0 E) vs) tNil) σ H Q := by
  obtain ⟨wa, Hf, sD, w, hb, hs, h⟩ := h
  refine ⟨wa, Hf, sD, w, hb, hs, h.bind.mono (fun ds w1 H1 Hf1 g1 b1 q J wk D hD => ?_) (fun _ _ _ _ _ _ q => q)⟩
  have hs1 := (hs.go g1).wipe vs
  split at q
  · rename_i hz
    cases el : lcD G T E ds (wipeS sD vs) w1 with
    | er x w2 => rw [el] at q; exact q.elim
    | no => rw [el] at q; exact q.elim
    | ok total wF =>
      rw [el] at q
      simp only [R.noer, R.bind_ok] at q
      cases en : ints? total with
      | none => rw [en] at q; exact q.elim
      | some ns =>
      rw [en] at q
      dsimp only at q
      split at q
      · rename_i h64
        have etot := ints?_some en
        have hDw : D ≠ wa := fun z => by rw [z, b1.well] at hD; cases hD
        have hDf : Hf1 D = none := Evl.fresh_back b1.ex hD
        refine ⟨fun i m H2 => m = ds.length - i ∧ i ≤ ds.length ∧ ∃ Hf2 w2 S n, ∃ acc us : List Int, Go wa H1 Hf1 H2 Hf2 ∧ Base wa Hf2 H2 w2 ∧ H2 D = some (SetO w0 D S n) ∧ Hf2 D = none ∧ (∀ k, S k = true ↔ k ∈ acc) ∧ n = (sset acc).length ∧ acc.length + us.length = ns.length ∧ lcD G T E (ds.drop i) (wipeS sD vs) w2 = .ok (us.map .int) wF ∧ ∀ k, (k ∈ acc ∨ k ∈ us) ↔ k ∈ ns,
          ⟨ds.length, by simp, Nat.zero_le _, Hf1, w1, _, _, [], ns, Go.new1 hD, b1.new1 hD, upd_same, hDf, by simp, rfl, by simp, by rw [List.drop_zero, el, etot], by simp⟩, ?_⟩
        rintro i m H2 ⟨rfl, hi, Hf2, w2, S, n, acc, us, g2, b2, hD2, hDf2, hS, hn, hlen, e2, hk⟩
        by_cases hlt : i < ds.length
        · have ed : ds.drop i = ds[i] :: ds.drop (i + 1) := List.drop_eq_getElem_cons hlt
          rw [ed] at e2
          have gi : ds[i]? = some ds[i] := by simp [hlt]
          refine .inr ⟨wk.goes i H2 hlt (g2.ex.trans b2.ex), fun H' => ∃ Hf2 w2 S n, ∃ acc us : List Int, Go wa H1 Hf1 H' Hf2 ∧ Base wa Hf2 H' w2 ∧ H' D = some (SetO w0 D S n) ∧ Hf2 D = none ∧ (∀ k, S k = true ↔ k ∈ acc) ∧ n = (sset acc).length ∧ acc.length + us.length = ns.length ∧ lcD G T E (ds.drop (i + 1)) (wipeS sD vs) w2 = .ok (us.map .int) wF ∧ ∀ k, (k ∈ acc ∨ k ∈ us) ↔ k ∈ ns,
            fun H' hN => ⟨ds.length - (i + 1), by omega, rfl, hlt, hN⟩, fun x H3 hy => ?_⟩
          obtain ⟨Hf3, g3, b3, r3⟩ := wk.yields i H2 Hf2 w2 x H3 _ gi g2.ex b2 hy
          have hD3 := g3.keepN D _ hDw nt_setO hD2
          have hDf3 : Hf3 D = none := (g3.newN D _ nu_setO hD2).trans hDf2
          unfold lcD at e2
          cases eg : G ds[i] (wipeS sD vs) with
          | none => rw [eg] at e2; cases e2
          | some s1 =>
            rw [eg] at e2
            dsimp only at e2
            refine ⟨wa, Hf3, fun _ => none, w2, wipeS sD vs, ds[i], s1, b3, r3, (hs1.go g2).go g3, fun _ _ _ _ _ _ => .of rfl, eg, fun σ4 hs4 _ hw4 => ⟨hw4.trans (wipe_wipe vs), ?_⟩⟩
            cases et : T s1 w2 with
            | er y u => rw [et] at e2; cases e2
            | no => rw [et] at e2; cases e2
            | ok bb w5 =>
              rw [et] at e2
              refine ⟨wa, Hf3, s1, w2, b3, hs4, ?_⟩
              rw [et]
              intro H5 Hf5 g5 b5 v5 rv5
              have ev5 : v5 = bb := rv5
              subst ev5
              have hD5 := g5.keepN D _ hDw nt_setO hD3
              have hDf5 : Hf5 D = none := (g5.newN D _ nu_setO hD3).trans hDf3
              cases v5 with
              | false =>
                refine iteF ?_
                have e3 : lcD G T E (ds.drop (i + 1)) (wipeS sD vs) w5 = .ok (us.map .int) wF := by simpa [R.noer, R.bind] using e2
                exact ⟨Hf5, w5, S, n, acc, us, (g2.trans g3).trans g5, b5, hD5, hDf5, hS, hn, hlen, e3, hk⟩
              | true =>
                refine iteT ?_
                have e3 : ((E s1 w5).noer.bind fun y w2 => (lcD G T E (ds.drop (i + 1)) (wipeS sD vs) w2).bind fun ys w3 => .ok (y :: ys) w3) = R.ok (us.map .int) wF := by simpa [R.noer, R.bind] using e2
                cases ee : E s1 w5 with
                | er y u => rw [ee] at e3; cases e3
                | no => rw [ee] at e3; cases e3
                | ok y w6 =>
                  rw [ee] at e3
                  refine ⟨wa, Hf5, s1, w5, b5, hs4.go g5, ?_⟩
                  rw [ee]
                  intro H6 Hf6 g6 b6 v6 r6
                  have hD6 := g6.keepN D _ hDw nt_setO hD5
                  have hDf6 : Hf6 D = none := (g6.newN D _ nu_setO hD5).trans hDf5
                  have e4 : ((lcD G T E (ds.drop (i + 1)) (wipeS sD vs) w6).bind fun ys w3 => .ok (y :: ys) w3) = R.ok (us.map .int) wF := by simpa [R.noer, R.bind] using e3
                  cases er : lcD G T E (ds.drop (i + 1)) (wipeS sD vs) w6 with
                  | er y u => rw [er] at e4; cases e4
                  | no => rw [er] at e4; cases e4
                  | ok zs w7 =>
                    rw [er] at e4
                    simp only [R.bind_ok, R.ok.injEq] at e4
                    obtain ⟨e4, rfl⟩ := e4
                    obtain ⟨c, us', rfl, rfl, rfl⟩ := int_of e4
                    cases r6
                    have l1 := sset_len acc
                    simp only [List.length_cons] at hlen
                    refine ⟨c, S, n, rfl, hD6, by unfold scanBound; omega, Hf6, w6, _, _, c :: acc, us', ?_, ?_, upd_same, hDf6, fun k => ?_, ?_, by simp; omega, er, fun k => ?_⟩
                    · have gg := ((g2.trans g3).trans g5).trans g6
                      exact gg.appF (.of hD)
                    · exact ⟨Evl.Ex.mut b6.ex hDf6, by rw [upd_ne (Ne.symm hDw)]; exact b6.well, b6.nw, tabs_nil, b6.nt, b6.od⟩
                    · rw [Bool.or_eq_true, decide_eq_true_eq, hS, List.mem_cons, or_comm]
                    · show (if S c = true then n else n + 1) = (insS c (sset acc)).length
                      split
                      · rename_i hc
                        rcases mem_len (mem_sset.mpr ((hS c).mp hc)) with e | e
                        · rw [e, hn]
                        · exact absurd (lt_sset acc) e
                      · rename_i hc
                        rw [nmem_len fun z => hc ((hS c).mpr (mem_sset.mp z)), hn]
                    · rw [← hk k, List.mem_cons, List.mem_cons]
                      constructor
                      · rintro ((h | h) | h)
                        · exact .inr (.inl h)
                        · exact .inl h
                        · exact .inr (.inr h)
                      · rintro (h | h | h)
                        · exact .inl (.inr h)
                        · exact .inl (.inl h)
                        · exact .inr h
        · have ei : i = ds.length := by omega
          subst ei
          rw [List.drop_length] at e2
          have e5 : us = [] ∧ w2 = wF := by
            simp only [lcD, R.ok.injEq] at e2
            exact ⟨(by cases us with | nil => rfl | cons _ _ => cases e2.1), e2.2⟩
          obtain ⟨rfl, rfl⟩ := e5
          have l1 := sset_len acc
          simp only [List.length_nil, Nat.add_zero] at hlen
          refine .inl ⟨wk.stops H2 (g2.ex.trans b2.ex), D, S, n, rfl, hD2, fun ns' p hp hm hl hn' => ?_⟩
          have e6 : ns' = sset ns := asc_ext hp (lt_sset ns) fun k => by
            rw [hm, hS, mem_sset, ← hk k]
            simp
          subst e6
          have hpw : p ≠ wa := fun z => by rw [z, b2.well] at hn'; cases hn'
          exact q _ Hf2 (g2.appF (g2.free hn')) (b2.new1 hn') p _ (g1.fr (g2.free hn')) upd_same (Evl.fresh_back b2.ex hn') hpw Reps.of_ints
      · exact q.elim
  · exact q.elim
/-- sorted({elt for tg in iter if ..}) -/
theorem pl_ss {scope : Scope} {own : List (Str × Nat)} {I : DI} {G : DG} {T : DT} {E : DE} {p pos2 : Pos} (hgs : Gl X "sorted") (hms : X.mg "sorted" = none) (hc : X.calm = true) (hN : X.N.Nodup) (hi : PI X tgt itr (lI mg W I)) (ok : BlkOk X.N X.env.scope scope own)
    (hg : ∀ (s : Shared) (H : Hp) (C : Addr) (cl : List (Str × Addr)) (fp : List Addr), PG (X.blk s H scope (compEnvC scope cl C X.env) fp) tgt (lG (own.map (·.2)) G)) (ht : ∀ (s : Shared) (H : Hp) (C : Addr) (cl : List (Str × Addr)) (fp : List Addr), PTs (X.blk s H scope (compEnvC scope cl C X.env) fp) tests (lT mg W0 T))
    (he : ∀ (s : Shared) (H : Hp) (C : Addr) (cl : List (Str × Addr)) (fp : List Addr), PE (X.blk s H scope (compEnvC scope cl C X.env) fp) elt (lE mg W0 E)) (hs : ∀ x, foldedSetIterable itr X.env x = pure x := by intro _; rfl) :
    PE X (.Call (.Name "sorted" p) [.SetComp elt [⟨tgt, itr, tests, 0⟩] scope pos] [] pos2) (lfL mg W (aSS I G T E (own.map (·.2)))) := weakE (pe_callB (cr_sortedSetN hc) hgs hms (by decide +kernel) (pa_cons (pe_sci hc hN hi ok hg ht he hs) pa_nil)) fun _ _ _ q => ss_ok q
end
end DL

set_option maxHeartbeats 2000000
namespace DL
open PySem PySem.Spec PyProof.Rows L2
variable [TabT] [OldT]
/-! ### an element of an own list, by its number -/
def eIxO (i : Nat) (B : DE) : DE := fun s w => match s[i]? with
  | some (some (.own xs)) => (B s w).bind fun k w1 => match k with
    | .int k => opt (atI xs k) w1
    | _ => .no
  | _ => .no
section
variable {X : Cx} {mg : Str → Option Value} {W : WX} {a b : Expr} {pos : Pos} {B : DE}
theorem pd_ixO {i : Nat} (ha : PE X a (tVar i)) (hb : PE X b (lE mg W B)) (hs : PlainIx b := by exact fun _ _ => rfl) : PE X (.Subscript a b pos) (lE mg W (eIxO i B)) := weakE (pe_ix ix_list ha hb hs) fun σ H Q h => by
  obtain ⟨wa, Hf, sD, w, hB, hs, h⟩ := h
  unfold eIxO at h
  split at h
  · rename_i xs hi
    obtain ⟨p, vs, k1, k2, k3, k4, k5⟩ := hs.own i xs hi
    refine ⟨.ref p, k1, wa, Hf, sD, w, hB, hs, h.bind.mono (fun k w1 H1 Hf1 g1 b1 q v rv => ?_) (fun _ _ _ _ _ _ q => q)⟩
    split at q
    · cases rv
      obtain ⟨z, e, q3⟩ := q.opt
      obtain ⟨v, e2, r2⟩ := atI_rep (k5.mono g1.ex) e
      exact ⟨p, vs, _, v, rfl, rfl, SqL.of (g1.keep p _ k4 k2), e2, q3 _ _ Go.refl b1 v r2⟩
    · exact q.elim
  · exact h.elim
end
theorem okE_ixO {i : Nat} {B : DE} {s : Sl} {w : Wl} {Q : D → Wl → Prop} {xs : List D} (h : s[i]? = some (some (.own xs))) : okE (eIxO i B s w) Q = okE (B s w) fun k w1 => match k with | .int k => okO (atI xs k) fun z => Q z w1 | _ => False := by
  unfold eIxO
  rw [h]
  simp only [okE_bind]
  congr
  funext k w1
  cases k <;> simp
end DL

set_option maxHeartbeats 2000000
namespace DL
open PySem PySem.Spec PyProof.Rows L2
variable [TabT] [OldT]
open Evl (Ex)
/-! ### max of a list or a tuple of ints -/
theorem readsInts (h : Heap) : ∀ {vs : List Value} {xs : List Int}, IntsAre vs xs → ReadsAll h vs (xs.map PyData.int) []
  | _, _, .nil => .nil
  | _, _, .cons n t r => ReadsAll.cons (Reads.int n t) (readsInts h r)
theorem depth_ints : ∀ xs : List Int, PyData.depthAll (xs.map PyData.int) = 0
  | [] => by simp [PyData.depthAll]
  | x :: xs => by simp [PyData.depthAll, PyData.depth, depth_ints xs]
theorem alike_ints (xs : List Int) : PySem.W.AlikeAll (xs.map PyData.int) := by
  constructor
  · intro x hx y hy
    obtain ⟨a, _, rfl⟩ := List.mem_map.mp hx
    obtain ⟨b, _, rfl⟩ := List.mem_map.mp hy
    rfl
  · intro x hx
    obtain ⟨a, _, rfl⟩ := List.mem_map.mp hx
    intro z
    cases z
def rMaxT (K : PySem.W.Frag) : List V → Hp → VK → Prop := fun vs H Q => ∃ (a : Addr) (n : Int) (ns : List Int), vs = [V.ref a] ∧ SqT K H a ((n :: ns).map V.int) ∧ Q (.int (ns.foldl max n)) H
section
variable {X : Cx}
theorem cr_maxT (hu : X.A.units + 1 < cLine) (hc : X.calm = true) : CallR X (.builtin "max") (rMaxT X.K) := by
  intro pins s σ H vs us Q I r h
  obtain ⟨a, n, ns, rfl, hs, q⟩ := h
  obtain ⟨its, rv, hl, _⟩ := I.tuple hs
  rw [Vals.ref1 r]
  have hi := rv.ints
  have hr : ReadsAll s.heap its.toArray.toList (PyData.int n :: ns.map PyData.int) [] := readsInts s.heap hi
  refine PySem.W.max_tuple_data (I.ok.hd hc) (show s.heap.IsTuple a its.toArray from hl) hr (alike_ints (n :: ns)) ?_ fun i v h' tk bs hv hrd hk => ?_
  · have := depth_ints (n :: ns)
    rw [List.map_cons] at this
    rw [this]
    exact hu
  · rw [PySem.W.maxD_ints] at hrd
    cases hrd with
    | int _ t => exact ⟨.int _, H, I.kept hk, ⟨_, rfl⟩, q⟩
def rMaxA (K : PySem.W.Frag) : List V → Hp → VK → Prop := fun vs H Q => rMax K vs H Q ∨ rMaxT K vs H Q
theorem cr_maxA (hu : X.A.units + 1 < cLine) (hc : X.calm = true) : CallR X (.builtin "max") (rMaxA X.K) := by
  intro pins s σ H vs us Q I r h
  rcases h with h | h
  · exact cr_max hc pins s σ H vs us Q I r h
  · exact cr_maxT hu hc pins s σ H vs us Q I r h
def fMaxA : Wl → List D → Option D := fun w ds => match ds with
  | [.lst xs] => fMaxL w [.lst xs]
  | [.tup xs] => match ints? xs with
    | some (n :: ns) => some (.int (ns.foldl max n))
    | _ => none
  | _ => none
theorem cd_maxA {K : PySem.W.Frag} : CaD (rMaxA K) fMaxA := by
  intro wa Hf H w ds us z Q hb rs h q
  unfold fMaxA at h
  split at h
  · exact .inl (cd_maxL wa Hf H w _ us z Q hb rs h q)
  · split at h
    · rename_i xs n ns e
      cases h
      right
      cases rs with
      | cons r1 r2 =>
        cases r2
        cases r1 with
        | tup h1 r1 =>
          rw [ints?_some e] at r1
          have e2 := r1.ints
          subst e2
          exact ⟨_, n, ns, rfl, SqT.of (hb.ex _ _ h1), q _ _ Go.refl hb _ (.int _)⟩
    · cases h
  · cases h
@[simp] theorem v_maxA {w : Wl} {ns : List Int} : fMaxA w [.lst (ns.map .int)] = (maxI ns).map .int := v_maxL (w := w)
@[simp] theorem v_maxAT {w : Wl} {n : Int} {ns : List Int} : fMaxA w [.tup (.int n :: ns.map .int)] = some (.int (ns.foldl max n)) := by
  have e := ints?_map (n :: ns)
  rw [List.map_cons] at e
  unfold fMaxA
  dsimp only
  rw [e]
end
end DL

set_option maxHeartbeats 2000000
namespace DL
open PySem PySem.Spec PyProof.Rows L2
variable [TabT] [OldT]
open Evl (Ex)
/-! ### a slice of a whole list, by steps of either sign -/
/-- the numbers that are taken of so many -/
def stepIW (n : Nat) (k : Int) : List Nat := sliceRange (sliceBounds none none (some k) n).1 (sliceBounds none none (some k) n).2.1 (sliceBounds none none (some k) n).2.2
def stepW {α : Type} (xs : List α) (k : Int) : List α := (stepIW xs.length k).filterMap fun i => xs[i]?
theorem vals_pickW {xs : List V} {us : List Value} (r : Vals xs us) : ∀ ix : List Nat, Vals (ix.filterMap fun i => xs[i]?) (ix.filterMap fun i => us[i]?)
  | [] => .nil
  | i :: ix => by
    cases e : xs[i]? with
    | none =>
      rw [List.filterMap_cons_none e, List.filterMap_cons_none (r.none_of e)]
      exact vals_pickW r ix
    | some x =>
      obtain ⟨u, h1, h2⟩ := r.get e
      rw [List.filterMap_cons_some e, List.filterMap_cons_some h1]
      exact .cons h2 (vals_pickW r ix)
theorem reps_pickW {wa : Addr} {Hf : Hp} {vs : List V} {ds : List D} (r : Reps wa Hf vs ds) : ∀ ix : List Nat, Reps wa Hf (ix.filterMap fun i => vs[i]?) (ix.filterMap fun i => ds[i]?)
  | [] => .nil
  | i :: ix => by
    have hl := r.length
    cases e : ds[i]? with
    | none =>
      have e2 : vs[i]? = none := by
        rw [List.getElem?_eq_none_iff] at e ⊢
        omega
      rw [List.filterMap_cons_none e, List.filterMap_cons_none e2]
      exact reps_pickW r ix
    | some x =>
      obtain ⟨u, h1, h2⟩ := r.get e
      rw [List.filterMap_cons_some e, List.filterMap_cons_some h1]
      exact .cons h2 (reps_pickW r ix)
theorem stepIW_le {n : Nat} {k : Int} (hk : k ≠ 0) : (stepIW n k).length ≤ n := by
  unfold stepIW
  refine sliceRange_length_le _ _ _ n (fun h => ?_) (fun h => ?_)
  · unfold sliceBounds at h ⊢
    simp only [Option.getD_some] at h ⊢
    simp only [if_pos h]
    exact ⟨by simp, by simp⟩
  · unfold sliceBounds at h ⊢
    simp only [Option.getD_some] at h ⊢
    simp only [if_neg h]
    exact ⟨by simp, by simp⟩
theorem stepW_le {α : Type} {xs : List α} {k : Int} (hk : k ≠ 0) : (stepW xs k).length ≤ xs.length := Nat.le_trans (List.length_filterMap_le _ _) (stepIW_le hk)
def tStepW (K : PySem.W.Frag) (te : TE) (tm : TO) : TE := fun σ H Q => te σ H fun x H1 => tm σ H1 fun m H3 => ∃ a xs k, x = .ref a ∧ SqL K H3 a xs ∧ m = some k ∧ k ≠ 0 ∧ ∀ p, H3 p = none → Q (.ref p) (upd H3 p (.lst (stepW xs k)))
section
variable {X : Cx} {mg : Str → Option Value} {W : WX} {a e : Expr} {pos : Pos} {σ : L2.St} {H : Hp} {wa : Addr} {Hf : Hp} {A : DE}
theorem pe_stepW {te : TE} {tm : TO} {st : Expr} {p3 : Pos} (he : PE X e te) (hm : PO X (some st) tm) : PE X (.Subscript e (.Slice none none (some st) p3) pos) (tStepW X.K te tm) := by
  refine ⟨fun pins s σ H Q I h => ?_⟩
  refine Subscript_ (thn (he.run pins s σ H _ I h) fun v s1 ⟨x, H1, I1, r1, q1⟩ => ?_)
  refine wpAny_Slice (thn (po_none.run pins s1 σ H1 (fun o H3 => o = none ∧ H3 = H1) I1 ⟨rfl, rfl⟩) fun vl s2 ⟨l, H2, I2, pl, el, e2⟩ => ?_)
  subst el e2
  refine thn (po_none.run pins s2 σ _ (fun o H3 => o = none ∧ H3 = _) I2 ⟨rfl, rfl⟩) fun vu s3 ⟨u, H3, I3, pu, eu, e3⟩ => ?_
  subst eu e3
  refine thn (hm.run pins s3 σ _ _ I3 q1) fun vs s4 ⟨o, H4, I4, ps, q4⟩ => ?_
  obtain ⟨a, xs, k, ex, hx, em, hk, q⟩ := q4
  subst ex em
  cases r1
  have I5 : Inv X pins σ H4 { s4 with heap := s4.heap.push { cls := .type "slice", data := .fields #[vl, vu, vs] } } := I4.kept (t' := s4.toks) fun b ob q => Heap.get?_push_of_some _ q
  obtain ⟨its, r, ht, hz⟩ := I5.list hx
  have hlen := r.length
  show wpAny (model X.prog X.w) X.A (subscriptTail e (.Slice none none (some st) p3) (.ref a) (.ref s4.heap.objs.size)) (EP X pins σ Q) X.xe { s4 with heap := s4.heap.push { cls := .type "slice", data := .fields #[vl, vu, vs] } }
  refine tail_any (ops := [.ref a, .ref s4.heap.objs.size]) ht.isList.typeIs (PySem.slot_list_getitem.lookup) ?_ (by with_unfolding_all rfl)
  refine wpAny_getItem_list_slice ht.isList (Heap.IsSliceOf.new _ vl vu vs) pl pu ps (fun z => by cases z; omega) ?_ (by rw [List.size_toArray]; omega)
  have hp : slicePick its.toArray none none (some k) = (stepW its k).toArray := by
    unfold slicePick stepW stepIW
    simp
  rw [hp]
  refine ⟨.ref _, _, I5.laid (t' := s4.toks) (o := .lst (stepW xs k)) (fun b ob q => Heap.get?_push_of_some _ q) (Nat.le_refl _) ?_, rfl, q _ (I5.hok.fresh (Nat.le_refl _))⟩
  refine ⟨Nat.le_trans (stepW_le hk) hz, stepW its k, 0, ?_, Heap.get?_push_size _ rfl⟩
  unfold stepW
  rw [hlen]
  exact vals_pickW r _
def eStW (A : DE) (M : Sl → Wl → R (Option Int)) : DE := fun s w => (A s w).bind fun x w1 => (M s w1).bind fun m w3 => match x, m with
  | .lst xs, some k => if k ≠ 0 then .ok (.lst (stepW xs k)) w3 else .no
  | _, _ => .no
theorem pd_stW {st : Expr} {p2 : Pos} {M : Sl → Wl → R (Option Int)} (ha : PE X a (lE mg W A)) (hm : PO X (some st) (lO mg W M)) : PE X (.Subscript a (.Slice none none (some st) p2) pos) (lE mg W (eStW A M)) :=
  weakE (pe_stepW ha hm) fun σ H Q h => by
  obtain ⟨wa, Hf, sD, w, hb, hs, h⟩ := h
  refine ⟨wa, Hf, sD, w, hb, hs, h.bind.mono (fun x w1 H1 Hf1 g1 b1 q v rv => ?_) (fun _ _ _ _ _ _ q => q)⟩
  refine ⟨wa, Hf1, sD, w1, b1, hs.go g1, q.bind.mono (fun z w3 H3 Hf3 g3 b3 q3 v3 rv3 => ?_) (fun _ _ _ _ _ _ q => q)⟩
  cases rv3
  split at q3
  · split at q3
    · rename_i hk
      cases rv with
      | lst h1 r1 =>
        refine ⟨_, _, _, rfl, SqL.of (b3.ex _ _ (g3.ex _ _ h1)), rfl, hk, fun p hp => ?_⟩
        have r3 := r1.mono g3.ex
        have e1 := Evl.fresh_back b3.ex hp
        refine q3 _ _ (Go.newF b3.ex hp) (b3.newF hp) _ (.lst upd_same ?_)
        unfold stepW
        rw [r3.length]
        exact (reps_pickW r3 _).mono (Ex.new e1)
    · exact q3.elim
  · exact q3.elim
end
@[simp] theorem okE_stW {A : DE} {M : Sl → Wl → R (Option Int)} {s : Sl} {w : Wl} {Q : D → Wl → Prop} : okE (eStW A M s w) Q = okE (A s w) fun x w1 => okE (M s w1) fun m w3 => match x, m with
    | .lst xs, some k => k ≠ 0 ∧ Q (.lst (stepW xs k)) w3
    | _, _ => False := by
  unfold eStW
  simp only [okE_bind]
  congr; funext x w1; congr; funext m w3
  cases x <;> cases m <;> try rfl
  rename_i xs k
  show okE (if k ≠ 0 then R.ok (D.lst (stepW xs k)) w3 else .no) Q = _
  by_cases h : k ≠ 0
  · rw [if_pos h]; simp [okE, h]
  · rw [if_neg h]; simp [okE, h]
end DL

set_option maxHeartbeats 2000000
namespace DL
open PySem PySem.Spec PyProof.Rows L2
variable [TabT] [OldT]
open Evl (Ex)
/-! ### items of two own lists, written at once; an own list that is told as new -/
/-- x[k] = d of an own list, the value there -/
def subW (i : Nat) (B : DE) (d : D) (s : Sl) (w : Wl) : R Sl := match s[i]? with
  | some (some (.own xs)) => match B s w with
    | .ok (.int k) w2 => match setAt xs k d with
      | some ys => .ok (s.set i (some (.own ys))) w2
      | none => .no
    | _ => .no
  | _ => .no
section
variable {X : Cx} {mg : Str → Option Value} {W : WX} {st : Stmt} {sts : List Stmt} {B B1 B2 E : DE} {M : DA} {wa : Addr} {Hf H0 Hf0 H1 Hf1 : Hp} {σ : L2.St} {s : Sl} {S : DS}
theorem subW_ok {i : Nat} {d : D} {v : V} {w : Wl} {Q : L2.St → Hp → Prop} (g : Go wa H0 Hf0 H1 Hf1) (b : Base wa Hf1 H1 w) (hs : Slots wa Hf1 H1 σ s) (ho : OwnNew H0 σ s) (rv : Rep wa Hf1 v d) {s2 : Sl} {w2 : Wl} (h : subW i B d s w = .ok s2 w2)
    (q : ∀ H2 Hf2, Go wa H0 Hf0 H2 Hf2 → Ex Hf1 Hf2 → Base wa Hf2 H2 w2 → Slots wa Hf2 H2 σ s2 → OwnNew H0 σ s2 → Q σ H2) : gSub (tVar i) (lE mg W B) rSetL v σ H1 Q := by
  unfold subW at h
  split at h
  · rename_i xs hi
    obtain ⟨p, vs, k1, k2, k3, k4, k5⟩ := hs.own i xs hi
    refine ⟨.ref p, k1, wa, Hf1, s, w, b, hs, ?_⟩
    cases e2 : B s w with
    | no => rw [e2] at h; cases h
    | er x w2 => rw [e2] at h; cases h
    | ok k w2 =>
      rw [e2] at h
      intro H2 Hf2 g2 b2 v2 rv2
      cases k <;> try (cases h)
      rename_i k
      dsimp only at h
      cases rv2
      split at h
      · rename_i ys hy
        cases h
        unfold setAt at hy
        obtain ⟨j, hj, rfl⟩ := Option.map_eq_some_iff.mp hy
        have gg := g.trans g2
        have hs2 := hs.go g2
        have h0 : Fr H0 p := ho i _ p hi isO_own k1
        have kp : H2 p = some (.lst vs) := g2.keep p _ k4 k2
        have kf : Hf2 p = none := (g2.new p _ k2).trans k3
        have r1 : Reps wa Hf2 (vs.set j v) (xs.set j d) := (k5.mono g2.ex).setAt (rv.mono g2.ex)
        refine ⟨p, vs, k, j, rfl, rfl, kp, by rw [k5.length]; exact hj, ?_⟩
        refine q _ Hf2 (gg.appF h0) g2.ex (b2.appL kf k4 kp) (hs2.write hi k1 r1) (ho.sub fun j ye hj io => ?_)
        by_cases hji : j = i
        · subst hji
          exact ⟨_, hi, isO_own⟩
        · rw [List.getElem?_set_ne (Ne.symm hji)] at hj
          exact ⟨ye, hj, io⟩
      · cases h
  · cases h
/-- x[a], y[b] = e1, e2 -/
def sSet2 (i j : Nat) (B1 B2 : DE) (M : DA) : DS := fun s w => match M s w with
  | .ok [d1, d2] w1 => match subW i B1 d1 s w1 with
    | .ok s2 w2 => match subW j B2 d2 s2 w2 with
      | .ok s3 w3 => .nx s3 w3
      | _ => .no
    | _ => .no
  | _ => .no
theorem sd_set2 {i j : Nat} (h : PS X st (tAsg (tTup (lA mg W M)) (gTup X.K 2 (gCons (gSub (tVar i) (lE mg W B1) rSetL) (gCons (gSub (tVar j) (lE mg W B2) rSetL) gNil))))) : PS X st (lS mg W (sSet2 i j B1 B2 M)) := weakS h fun D σ H h => by
  obtain ⟨wa, Hf, sD, w, H0, Hf0, g, b, hs, ho, h⟩ := h
  refine ⟨wa, Hf, sD, w, b, hs, ?_⟩
  unfold sSet2 at h
  cases e : M sD w with
  | no => rw [e] at h; exact h
  | er x w1 => rw [e] at h; exact h.elim
  | ok ds w1 =>
    rw [e] at h
    intro H1 Hf1 g1 b1 vs rv
    match ds, vs, rv, h with
    | [d1, d2], [v1, v2], .cons r1 (.cons r2 .nil), h =>
      dsimp only at h
      cases e1 : subW i B1 d1 sD w1 with
      | no => rw [e1] at h; exact h.elim
      | er x w2 => rw [e1] at h; exact h.elim
      | ok s2 w2 =>
        rw [e1] at h
        dsimp only at h
        cases e2 : subW j B2 d2 s2 w2 with
        | no => rw [e2] at h; exact h.elim
        | er x w3 => rw [e2] at h; exact h.elim
        | ok s3 w3 =>
          rw [e2] at h
          dsimp only at h
          refine ⟨by show (2 : Nat) ≤ sizeLine; rw [sizeLine_eq]; decide, fun t ht => ⟨t, [v1, v2], rfl, SqT.of upd_same, rfl, v1, [v2], rfl, ?_⟩⟩
          have gt : Go wa H1 Hf1 (upd H1 t (.tup [v1, v2])) Hf1 := Go.new1 ht
          refine subW_ok ((g.trans g1).trans gt) (b1.new1 ht) ((hs.go g1).go gt) ho r1 e1 fun H2 Hf2 g2 x2 b2 hs2 ho2 => ⟨v2, [], rfl, ?_⟩
          refine subW_ok g2 b2 hs2 ho2 (r2.mono x2) e2 fun H3 Hf3 g3 x3 b3 hs3 ho3 => ⟨rfl, ?_⟩
          exact h _ _ Hf3 g3 (g1.ex.trans (x2.trans x3)) b3 hs3 ho3
/-- from here on the slot's own list is told as a new one -/
def frzN (i : Nat) (s : Sl) : Sl := match s[i]? with
  | some (some (.own xs)) => s.set i (some (.nl xs))
  | _ => s
def sFrzN (i : Nat) (S : DS) : DS := fun s w => S (frzN i s) w
theorem Slots.frzN {H Hf : Hp} (x : Slots wa Hf H σ s) {i : Nat} {xs : List D} {p : Addr} {vs : List V} (hi : s[i]? = some (some (.own xs))) (hp : σ[i]? = some (some (.ref p))) (hv : H p = some (.lst vs)) (po : OldT.old p = none) :
    Slots wa (upd Hf p (.lst vs)) H σ (s.set i (some (.nl xs))) := by
  have y := x.frz hi hp hv
  have hlt : i < s.length := (List.getElem?_eq_some_iff.mp hi).1
  obtain ⟨p', vs', h1, h2, h3, h4, h5⟩ := x.own i xs hi
  rw [hp] at h1
  cases h1
  rw [hv] at h2
  cases h2
  have e0 : Ex Hf (upd Hf p (.lst vs)) := Ex.new h3
  have nl1 : ¬ IsO (.lst xs) := fun h => by rcases h with ⟨ys, e⟩ | ⟨ks, ys, e⟩ <;> cases e
  have nl2 : ¬ IsO (.nl xs) := fun h => by rcases h with ⟨ys, e⟩ | ⟨ks, ys, e⟩ <;> cases e
  have key : ∀ (j : Nat) (e : D), (s.set i (some (.nl xs)))[j]? = some (some e) → (j = i ∧ e = .nl xs) ∨ (j ≠ i ∧ (s.set i (some (.lst xs)))[j]? = some (some e)) := fun j e h => by
    by_cases hj : j = i
    · subst hj
      rw [List.getElem?_set_self hlt] at h
      exact .inl ⟨rfl, (Option.some.inj (Option.some.inj h)).symm⟩
    · rw [List.getElem?_set_ne (Ne.symm hj)] at h
      exact .inr ⟨hj, by rw [List.getElem?_set_ne (Ne.symm hj)]; exact h⟩
  refine ⟨by have := y.len; simpa using this, fun j e h n => ?_, fun j zs h => ?_, fun j ks zs h => ?_, fun j k e u q e1 n1 e2 n2 e3 e4 => ?_⟩
  · rcases key j _ h with ⟨rfl, rfl⟩ | ⟨_, e1⟩
    · exact ⟨_, hp, .nl upd_same po (h5.mono e0)⟩
    · exact y.val j e e1 n
  · rcases key j _ h with ⟨_, e1⟩ | ⟨_, e1⟩
    · cases e1
    · exact y.own j zs e1
  · rcases key j _ h with ⟨_, e1⟩ | ⟨_, e1⟩
    · cases e1
    · exact y.dic j ks zs e1
  · rcases key j _ e1 with ⟨_, rfl⟩ | ⟨_, f⟩
    · exact absurd n1 nl2
    · rcases key k _ e2 with ⟨_, rfl⟩ | ⟨_, f2⟩
      · exact absurd n2 nl2
      · exact y.inj j k e u q f n1 f2 n2 e3 e4
theorem frzN_ok {i : Nat} {D : Ends} {H : Hp} (h : lS mg W (sFrzN i S) D σ H) : lS mg W S D σ H := by
  obtain ⟨wa, Hf, sD, w, H0, Hf0, g, b, hs, ho, h⟩ := h
  unfold sFrzN DL.frzN at h
  split at h
  · rename_i xs hi
    obtain ⟨p, vs, k1, k2, k3, k4, k5⟩ := hs.own i xs hi
    have h0 : Fr H0 p := ho i _ p hi isO_own k1
    have po : OldT.old p = none := Evl.fresh_back b.od k3
    have x1 : Ex Hf (upd Hf p (.lst vs)) := Ex.new k3
    refine ⟨wa, upd Hf p (.lst vs), _, w, H0, Hf0, ⟨g.keepN, g.ex.trans x1, fun a o t q => by rw [upd_ne (ne_of_fr q t.1 h0)]; exact g.newN a o t q, g.thereN⟩, ⟨fun a u q => ?_, b.well, by rw [upd_ne (Ne.symm k4)]; exact b.nw, b.tb, nt_upd b.nt nt_lst, b.od.trans x1⟩, hs.frzN hi k1 k2 po, ho.sub fun j ys hj io => ?_, FinS.shift h x1⟩
    · by_cases ha : a = p
      · subst ha; rw [upd_same] at q; rw [← q]; exact k2
      · rw [upd_ne ha] at q; exact b.ex a u q
    · by_cases hji : j = i
      · subst hji
        rw [List.getElem?_set_self (List.getElem?_eq_some_iff.mp hi).1] at hj
        cases hj
        rcases io with ⟨zs, e⟩ | ⟨ks, zs, e⟩ <;> cases e
      · rw [List.getElem?_set_ne (Ne.symm hji)] at hj
        exact ⟨ys, hj, io⟩
  · exact ⟨wa, Hf, sD, w, H0, Hf0, g, b, hs, ho, h⟩
theorem sd_frzN (i : Nat) (h : PSs X sts (lS mg W S)) : PSs X sts (lS mg W (sFrzN i S)) := weakSs h fun _ _ _ q => frzN_ok q
end
section
variable {s : Sl} {w : Wl} {B B1 B2 : DE} {M : DA} {U : DS} {N : Sl → Wl → Prop} {Z : D → Wl → Prop} {i j : Nat}
@[simp] theorem okS_frzN : okS (sFrzN i U s w) N Z = okS (U (frzN i s) w) N Z := rfl
theorem okE_subW {d : D} {xs : List D} {Q : Sl → Wl → Prop} (h : s[i]? = some (some (.own xs))) : okE (subW i B d s w) Q = okE (B s w) fun k w2 => match k with
    | .int k => okO (setAt xs k d) fun ys => Q (s.set i (some (.own ys))) w2
    | _ => False := by
  unfold subW
  rw [h]
  dsimp only
  cases B s w with
  | er _ _ => rfl
  | no => rfl
  | ok k w2 =>
    cases k <;> try rfl
    rename_i k
    dsimp only [okE_ok]
    cases setAt xs k d <;> rfl
theorem okS_set2 : okS (sSet2 i j B1 B2 M s w) N Z = okE (M s w) fun ds w1 => match ds with
    | [d1, d2] => okE (subW i B1 d1 s w1) fun s2 w2 => okE (subW j B2 d2 s2 w2) fun s3 w3 => N s3 w3
    | _ => False := by
  unfold sSet2
  cases M s w with
  | er _ _ => rfl
  | no => rfl
  | ok ds w1 =>
    dsimp only [okE_ok]
    match ds with
    | [] => rfl
    | [_] => rfl
    | [d1, d2] =>
      dsimp only
      cases subW i B1 d1 s w1 with
      | er _ _ => rfl
      | no => rfl
      | ok s2 w2 =>
        dsimp only [okE_ok]
        cases subW j B2 d2 s2 w2 <;> rfl
    | _ :: _ :: _ :: _ => rfl
end
end DL

set_option maxHeartbeats 2000000
namespace DL
open PySem PySem.Spec PyProof.Rows L2
variable [TabT] [OldT]
/-! ### defs that show values: where no guard is up -/
/-- a def's promise, of calls with no guard up -/
structure FnG (P : Program) (w : World) (K : PySem.W.Frag) (mg : Str → Option Value) (base : Heap) (k : Nat) (f : Addr) (fd : FuncData) (ps : List Str) (sp : Sp) : Prop where
  ln : ∀ vs H Q E, sp vs H Q E → vs.length = ps.length
  go : ∀ (A : Around) (outer : List Env) (s : Shared) (H : Hp) (ar : Args) (us : List Value) (vs : List V) (Q : VK) (E : XK), Room k A → A.guards = some [] → Env0 P w K mg base A outer s H → BindsTo s fd ar (ps.zip us) → Vals vs us → sp vs H Q E →
    codeAny (model P w) A (.call (.ref f) ar) (CR (L2.CX P w) outer P w H s Q E) s
abbrev FnGD (P : Program) (w : World) (K : PySem.W.Frag) (mg : Str → Option Value) (base : Heap) (k : Nat) (f : Addr) (fd : FuncData) (ps : List Str) (F : DF) : Prop := FnG P w K mg base k f fd ps (spD mg ps.length F)
section
variable {P : Program} {w : World} {K : PySem.W.Frag} {mg : Str → Option Value} {base : Heap}
theorem FnG.of {k : Nat} {f : Addr} {fd : FuncData} {ps : List Str} {sp : Sp} (F : FnOk P w K mg base (L2.CX P w) k f fd ps sp) : FnG P w K mg base k f fd ps sp :=
  ⟨F.len, fun A outer s H ar us vs Q E hr _ => F.run A outer s H ar us vs Q E hr⟩
theorem FnG.more {j k : Nat} {f : Addr} {fd : FuncData} {ps : List Str} {sp : Sp} (F : FnG P w K mg base j f fd ps sp) (h : j ≤ k) : FnG P w K mg base k f fd ps sp :=
  ⟨F.ln, fun A outer s H ar us vs Q E hr => F.go A outer s H ar us vs Q E (hr.mono h)⟩
/-- the promise of a body, as it stands at the call -/
theorem spD_start {N ps : List Str} {B : DS} {vs : List V} {H : Hp} {Q : VK} {E : XK} (hN : ps.length ≤ N.length) (h : spD mg ps.length (runB N.length ps.length B) vs H Q E) :
    lS mg (fun cls d _ H => E cls d H) B { nx := fun _ H' => Q .non H', rt := Q } (L2.start N vs) H := by
  obtain ⟨wa, Hf, ds, w, hb, r, hl, q⟩ := h
  have hvl : vs.length ≤ N.length := by rw [r.length, hl]; exact hN
  have hst := slots_start (H := H) hvl r
  refine ⟨wa, Hf, _, w, H, Hf, Go.refl, hb, hst, fun i d p h1 io _ => ?_, ?_⟩
  · exfalso
    rw [List.getElem?_append] at h1
    split at h1
    · rw [List.getElem?_map] at h1
      cases e : ds[i]? with
      | none => rw [e] at h1; cases h1
      | some z =>
        rw [e] at h1
        cases h1
        obtain ⟨v, _, r'⟩ := r.get e
        exact rep_isO r' io
    · rw [List.getElem?_replicate] at h1
      split at h1 <;> cases h1
  · unfold runB at q
    rw [if_pos hl, ← hl] at q
    cases eB : B (ds.map some ++ List.replicate (N.length - ds.length) none) w with
    | nx s1 w1 => rw [eB] at q; exact fun σ H' Hf' g _ b _ _ => q H' Hf' g b _ .non
    | rt d w1 => rw [eB] at q; exact fun H' Hf' v g b r' => q H' Hf' g b v r'
    | er y s1 w1 => rw [eB] at q; exact fun σ H' Hf' cls dx g _ b _ _ ev => q H' Hf' g b cls dx ev
    | bk s1 w1 => rw [eB] at q; exact q.elim
    | ct s1 w1 => rw [eB] at q; exact q.elim
    | no => rw [eB] at q; exact q.elim
/-- a def by its body, whatever is promised -/
theorem fnGs {x qual : Str} {st : Stmt} {f : Addr} {fd : FuncData} {N ps : List Str} {k : Nat} {sp : Sp} (F : Fun K x qual st f fd) (S : FnScope N ps (defScope st)) (ln : ∀ vs H Q E, sp vs H Q E → vs.length = ps.length)
    (h : ∀ (cdv : Value) (A : Around) (outer : List Env) (s : Shared) (H : Hp) (vs : List V) (Q : VK) (E : XK), Room k (A.deeper (envOfC qual (defScope st) s.heap.objs.size f cdv)) → A.guards = some [] → sp vs H Q E →
      ∃ t, PSs (cxOf (L2.CX P w) P w K mg base N qual (defScope st) f cdv A outer s H E) (defBody st) t ∧ t { nx := fun _ H' => Q .non H', rt := Q } (L2.start N vs) H) : FnG P w K mg base (k + 1) f fd ps sp := by
  obtain ⟨oc, od, kV, doc, pm, an, cdv, ct, osl, rfl, lk, hcd⟩ := F.ex
  exact ⟨ln, fun A outer s H ar us vs Q E hr hg e0 hb r hs => LamX.run_ofS lk hcd S hr e0 hb r (ln _ _ _ _ hs) fun hr' => h cdv A outer s H vs Q E hr' hg hs⟩
theorem fnG {x qual : Str} {st : Stmt} {f : Addr} {fd : FuncData} {N ps : List Str} {k : Nat} (F : Fun K x qual st f fd) (S : FnScope N ps (defScope st)) (hN : ps.length ≤ N.length) (B : DS)
    (h : ∀ (cdv : Value) (A : Around) (outer : List Env) (s : Shared) (H : Hp) (E : XK), Room k (A.deeper (envOfC qual (defScope st) s.heap.objs.size f cdv)) → A.guards = some [] →
      PSs (cxOf (L2.CX P w) P w K mg base N qual (defScope st) f cdv A outer s H E) (defBody st) (lS mg (fun cls d _ H => E cls d H) B)) : FnGD P w K mg base (k + 1) f fd ps (runB N.length ps.length B) :=
  fnGs F S (fun vs H Q E ⟨wa, Hf, ds, w, hb, r, hl, _⟩ => by rw [r.length]; exact hl) fun cdv A outer s H vs Q E hr hg hs => ⟨_, h cdv A outer s H E hr hg, spD_start hN hs⟩
end
section
variable {X : Cx} {W : WX} {e : Expr} {es : List Expr} {pos : Pos} {σ : L2.St} {H : Hp} {pins : List (Addr × Obj)} {s : Shared}
theorem run_fnG {k : Nat} {f : Addr} {fd : FuncData} {ps : List Str} {sp : Sp} {Q : VK} {vs : List V} {us : List Value} {zs : List Value} {kw : List (Str × Value)} (G : FnG X.prog X.w X.K X.mg X.base k f fd ps sp) (hr : Room k X.A) (hgd : X.A.guards = some []) (hx : Wok X W)
    (I : Inv X pins σ H s) (hb : BindsTo s fd ⟨zs, kw⟩ (ps.zip us)) (r : Vals vs us) (h : sp vs H Q (WE W σ)) : wpAny (model X.prog X.w) X.A (call (.ref f) zs kw) (EP X pins σ Q) X.xe s := by
  refine wpAny_call (codeAny_mono (G.go X.A X.stack s H ⟨zs, kw⟩ us vs Q (WE W σ) hr hgd I.env0 hb r h) fun re s' hq => ?_)
  match re, hq with
  | .error e, hq => exact hx σ pins H s e s' I hq
  | .ok (.ret u), hq => exact I.after hq
  | .ok .next, hq => exact False.elim hq
  | .ok .brk, hq => exact False.elim hq
  | .ok .cont, hq => exact False.elim hq
theorem pe_callGS {k : Nat} {f : Addr} {fd : FuncData} {ps : List Str} {sp : Sp} {t : TA} {x : Str} {p : Pos} (G : FnG X.prog X.w X.K X.mg X.base k f fd ps sp) (hr : Room k X.A) (hgd : X.A.guards = some []) (hg : Gl X x) (hm : X.mg x = some (.ref f)) (hk : PySem.W.keepIn X.K (.ref f) = true) (hb : Binds X.K fd ps []) (hx : Wok X W)
    (ha : PA X (e :: es) t) (hdb : (x == ("__debug__" : Str)) = false := by decide) (he : starEach (e :: es) X.env = (false, eval e X.env) :: starEach es X.env := by rfl) (hpl : (backTo pos (starEach es X.env)).any (·.1) = false := by rfl) :
    PE X (.Call (.Name x p) (e :: es) [] pos) (fun σ H Q => t σ H fun vs H1 => sp vs H1 Q (WE W σ)) := by
  refine ⟨fun pins s σ H Q I h => ?_⟩
  refine wpAny_Call_Name_kw (ld_glob I hg hm ?_ hdb)
  refine PySem.W.callWith_K (h₀ := X.base) I.ok.mod.kin hk (thn (ha.run pos pins s σ H _ I h) fun us s1 hh => ?_) he hpl
  obtain ⟨vs, H1, I1, r, q⟩ := hh
  refine ⟨I1.kIn, ?_⟩
  have b := hb s1 us I1.kIn (by rw [List.append_nil, ← r.length]; exact G.ln _ _ _ _ q)
  rw [List.append_nil] at b
  exact run_fnG G hr hgd hx I1 b r q
theorem pd_callG {k : Nat} {f : Addr} {fd : FuncData} {ps : List Str} {F : DF} {x : Str} {p : Pos} {As : DA} (G : FnGD X.prog X.w X.K X.mg X.base k f fd ps F) (hr : Room k X.A) (hgd : X.A.guards = some []) (hg : Gl X x) (hm : X.mg x = some (.ref f)) (hk : PySem.W.keepIn X.K (.ref f) = true) (hb : Binds X.K fd ps []) (hx : Wok X W)
    (ha : PA X (e :: es) (lA X.mg W As)) (hdb : (x == ("__debug__" : Str)) = false := by decide) (he : starEach (e :: es) X.env = (false, eval e X.env) :: starEach es X.env := by rfl) (hpl : (backTo pos (starEach es X.env)).any (·.1) = false := by rfl) :
    PE X (.Call (.Name x p) (e :: es) [] pos) (lE X.mg W (eCall ps.length F As)) := weakE (pe_callGS G hr hgd hg hm hk hb hx ha hdb he hpl) fun σ H Q h => by
  obtain ⟨wa, Hf, sD, w, hb, hs, h⟩ := h
  exact ⟨wa, Hf, sD, w, hb, hs, h.bind.mono (fun x w1 H1 Hf1 g1 b1 q v rv => fin_call b1 rv q) (fun _ _ _ _ _ _ q => q)⟩
/-- repr of what is made of ints, bools, texts, lists and tuples -/
def rRepr (K : PySem.W.Frag) : List V → Hp → VK → Prop := fun xs H Q => ∃ a vs ds, xs = [V.ref a] ∧ SqL K H a vs ∧ DpAll K H vs ds ∧ (PyData.list ds).showable = true ∧ (PyData.list ds).hasDict = false ∧ (PyData.list ds).depth ≤ 32 ∧ (PyData.list ds).shown.length ≤ sizeLine ∧ Q (.str (PyData.list ds).shown) H
theorem call_repr (hgd : X.A.guards = some []) (hu : X.A.units + 65 < cLine) : CallR X (.builtin "repr") (rRepr X.K) := by
  intro pins s σ H xs us Q I r h
  obtain ⟨a, vs, ds, rfl, hS, hD, h1, h2, h3, h4, q⟩ := h
  cases r with
  | cons r1 r2 =>
    cases r2
    obtain ⟨as, rd⟩ := Dp.reads I (.list ds) (.ref a) _ (.lst hS hD) r1
    obtain rfl : _ = Value.ref a := r1
    exact PySem.repr_of_reads' rd h1 (fun z => by rw [h2] at z; cases z) hgd (by omega) (fun b o e => e) (fun h' u tk hk => ⟨.str _, H, I.kept hk, ⟨_, rfl⟩, q⟩) h4
def okR (x : D) : Bool := match x with
  | .lst ds => PyData.showable (toPD (.lst ds)) && !PyData.hasDict (toPD (.lst ds)) && decide (PyData.depth (toPD (.lst ds)) ≤ 32) && decide ((PyData.shown (toPD (.lst ds))).length ≤ sizeLine) && (toPD (.lst ds)).canLay0
  | _ => false
def fRepr : Wl → List D → Option D := fun _ ds => match ds with
  | [x] => if okR x then some (.str (PyData.shown (toPD x))) else none
  | _ => none
theorem cd_repr {K : PySem.W.Frag} : CaD (rRepr K) fRepr := by
  intro wa Hf H w ds us z Q hb rs h q
  unfold fRepr at h
  split at h
  · rename_i x
    split at h
    · rename_i hk
      cases h
      unfold okR at hk
      split at hk
      · rename_i xs
        simp only [Bool.and_eq_true, decide_eq_true_eq, Bool.not_eq_true'] at hk
        obtain ⟨⟨⟨⟨k1, k2⟩, k3⟩, k4⟩, k5⟩ := hk
        cases rs with
        | cons r1 r2 =>
          cases r2
          cases r1 with
          | lst h1 rr => exact ⟨_, _, _, rfl, SqL.of (hb.ex _ _ h1), rr.dp hb (by simpa [toPD, PyData.canLay0] using k5), k1, k2, k3, k4, q _ _ Go.refl hb _ (.str _)⟩
      · cases hk
    · cases h
  · cases h
end
end DL

set_option maxHeartbeats 2000000
namespace DL
open PySem PySem.Spec PyProof.Rows L2
variable [TabT] [OldT]
/-! ### the law's call where no guard is up -/
section
variable {P : Program} {w : World} {K : PySem.W.Frag} {mg mb : Str → Option Value} {h : Heap} {H : Hp} {a : Addr} {ws : Array Value}
theorem hid_none {b : Addr} {o : Obj} (only : ∀ b, b ≠ a → H b = none) (ha : h.get? a = some { cls := .type "list", data := .seq ws }) (hb : h.get? b = some o) (nd : ∀ zs n, o.data ≠ .seq zs n) : H b = none :=
  only b fun z => by
    subst z
    rw [ha] at hb
    cases hb
    exact nd _ _ rfl
theorem hid_ns {b : Addr} {m : Str → Option Value} (only : ∀ b, b ≠ a → H b = none) (ha : h.get? a = some { cls := .type "list", data := .seq ws }) (x : h.Ns b m) : (hidT h H).Ns b m := by
  obtain ⟨o, es, ep, e1, e2, e3⟩ := x
  exact ⟨o, es, ep, hidT_get e1 (hid_none only ha e1 fun zs n z => by rw [e2] at z; cases z), e2, e3⟩
theorem hid_in (only : ∀ b, b ≠ a → H b = none) (kn : H a = none ∨ K.lookup a = none) (x : K.In h) : K.In (hidT h H) := fun b o e => hidT_get (x b o e) (by
  by_cases z : b = a
  · subst z
    exact kn.elim id fun kn => by rw [kn] at e; cases e
  · exact only b z)
theorem call_top {k : Nat} {fa : Addr} {fd : FuncData} {x : Str} {sp : Sp} {s : Shared} (KX : K.In s.heap) (gn : s.heap.Ns mainGlobals mg) (bn : s.heap.Ns builtinsNs mb) (bb : ∀ x : Str, x ≠ "__name__" → mb x = bootBuiltins x) (nl : s.heap.NoLimit) (ng : s.gens = #[])
    (ha : s.heap.get? a = some { cls := .type "list", data := .seq ws }) (hr : Room k callerA) (G : ∀ B : Heap, K.In B → B.Ns mainGlobals mg → FnG P w K mg B k fa fd [x] sp) (hbd : ∀ (s : Shared) (u : Value), BindsTo s fd ⟨[u], []⟩ [(x, u)])
    (only : ∀ b, b ≠ a → H b = none) (kn : H a = none ∨ K.lookup a = none) (fz : H a = none ∨ ∃ o xs, H a = some (.frz o (.lst xs))) (ok : HOk P w H s.heap) (hs : sp [.ref a] H (fun v _ => v = .bl true) fun _ _ _ => False) :
    codeAny (model P w) callerA (.call (.ref fa) ⟨[.ref a], []⟩) (fun r s' => r = .ok (.ret (.bool true)) ∧ OldK s.heap s'.heap ∧ s'.os = s.os ∧ AllBare s'.gens) s := by
  have kB := hid_in (H := H) only kn KX
  have gB := hid_ns only ha gn
  obtain ⟨mc, l1, l2⟩ := nl
  have env : Env0 P w K mg (hidT s.heap H) callerA [] s H :=
    { frames := rfl
      mod := ⟨kB, gB, ⟨mb, hid_ns only ha bn, bb⟩, ⟨mc, hid_ns only ha l1, l2⟩⟩
      bs := fun b o => of_hidT
      bsz := by rw [hidT_size]; exact Nat.le_refl _
      funs := trivial
      frf := fun b z => nomatch z
      hok := ok
      bare := .of_eq ng }
  refine codeAny_mono ((G _ kB gB).go callerA [] s H ⟨[.ref a], []⟩ [.ref a] [.ref a] _ _ hr rfl env (hbd s _) (.cons rfl .nil) hs) fun re s' hq => ?_
  match re, hq with
  | .error e, hq =>
    obtain ⟨_, _, _, _, _, _, _, _, _, _, _, _, z⟩ := hq
    exact z.elim
  | .ok .next, hq => exact hq.elim
  | .ok .brk, hq => exact hq.elim
  | .ok .cont, hq => exact hq.elim
  | .ok (.ret u), ⟨v, H', h1, h2, h3, h4, h5, h6⟩ =>
    have h6 : v = .bl true := h6
    subst h6
    have h5 : u = Value.bool true := h5
    subst h5
    refine ⟨rfl, OldK.of_keep fun b o e => ?_, h1, h2⟩
    by_cases z : b = a
    · subst z
      rcases fz with n | ⟨ob, xs, f⟩
      · exact h3.keep b o e n (fun z => nomatch (show b ∈ ([] : List Addr) from z)) (by simp)
      · have e1 := (ok b _ f).1
        have e2 := (h4 b _ (h3.frzs b ob _ f)).1
        rw [e1] at e
        cases e
        exact e2
    · exact h3.keep b o e (only b z) (fun z => nomatch (show b ∈ ([] : List Addr) from z)) (by simp)
theorem call_law {k : Nat} {fa : Addr} {fd : FuncData} {x : Str} {sp : Sp} {s : Shared} {us : List Value} {ns : List Int} (KX : K.In s.heap) (gn : s.heap.Ns mainGlobals mg) (bn : s.heap.Ns builtinsNs mb) (bb : ∀ x : Str, x ≠ "__name__" → mb x = bootBuiltins x) (nl : s.heap.NoLimit) (ng : s.gens = #[])
    (ha : s.heap.get? a = some { cls := .type "list", data := .seq us.toArray }) (hi : IntsAre us ns) (hl : ns.length ≤ sizeLine) (hr : Room k callerA) (G : ∀ B : Heap, K.In B → B.Ns mainGlobals mg → FnG P w K mg B k fa fd [x] sp) (hbd : ∀ (s : Shared) (u : Value), BindsTo s fd ⟨[u], []⟩ [(x, u)])
    (hs : ∀ H : Hp, SqL K H a (ns.map V.int) → sp [.ref a] H (fun v _ => v = .bl true) fun _ _ _ => False) :
    codeAny (model P w) callerA (.call (.ref fa) ⟨[.ref a], []⟩) (fun r s' => r = .ok (.ret (.bool true)) ∧ OldK s.heap s'.heap ∧ s'.os = s.os ∧ AllBare s'.gens) s := by
  have vi := vals_ints hi
  have li := hi.length
  cases q : K.lookup a with
  | none =>
    refine call_top (H := fun b => if b = a then some (.frz { cls := .type "list", data := .seq us.toArray } (.lst (ns.map V.int))) else none) KX gn bn bb nl ng ha hr G hbd (fun b z => if_neg z) (.inr q) (.inr ⟨_, _, if_pos rfl⟩) (fun b u z => ?_) (hs _ (.inl (.inr ⟨{ cls := .type "list", data := .seq us.toArray }, if_pos rfl⟩)))
    by_cases e : b = a
    · subst e
      cases (if_pos rfl).symm.trans z
      exact ⟨ha, by rw [List.length_map]; exact hl, us, _, vi, ha⟩
    · cases (if_neg e).symm.trans z
  | some o =>
    have e := KX a o q
    rw [ha] at e
    cases e
    exact call_top (H := fun _ => none) KX gn bn bb nl ng ha hr G hbd (fun _ _ => rfl) (.inl rfl) (.inl rfl) (fun b u (z : none = some u) => nomatch z)
      (hs _ (.inr ⟨_, us.toArray, _, q, rfl, rfl, rfl, by rw [List.size_toArray, li]; exact hl, by simpa using vi⟩))
end
theorem walk_guard {l : PySem.W.OpenLaw} {n k : Nat} {q : Program} {loose : List Str} {XP : (Str → Option Value) → Heap → Prop} {YP : World → Heap → Prop} {d : DefRec} {K : Params → PySem.W.Frag} {sp : World → Sp} {x : Str} (hn : l.most = some n) (h2 : n ≤ sizeLine) (hd : d.params.defaults = []) (hr : Room k callerA)
    (hY : ∀ (w : World) (h : Heap), YP w h → (K w.params).In h)
    (F : ∀ (w : World) (mg : Str → Option Value) (fa : Addr) (h : Heap), (K w.params).In h → h.Ns mainGlobals mg → mg d.name = some (.ref fa) → ∃ fd : FuncData, (∀ (s : Shared) (u : Value), BindsTo s fd ⟨[u], []⟩ [(x, u)]) ∧ ∀ B : Heap, (K w.params).In B → B.Ns mainGlobals mg → FnG l.prog w (K w.params) mg B k fa fd [x] (sp w))
    (hs : ∀ (w : World) (H : Hp) (a : Addr) (ns : List Int), ns.length ≤ n → SqL (K w.params) H a (ns.map V.int) → sp w [.ref a] H (fun v _ => v = .bl true) fun _ _ _ => False) :
    PySem.W.WalkO q loose XP YP l.row.toRowW d [] (fun f vs => PySem.call f vs) := by
  refine Att.attach_call hn hd fun w s₀ s mg mb fa o pm cd doc a us ns G Y _ _ _ hm ha hi hl hg => ?_
  obtain ⟨fd, b, g⟩ := F w mg fa _ (hY w _ Y) G.T.g hm
  exact call_law (hY w _ Y) G.T.g G.T.b G.T.builtins G.T.nolimit hg ha hi (Nat.le_trans hl h2) hr g b fun H => hs w H a ns hl
end DL

set_option maxHeartbeats 2000000
namespace DL
open PySem PySem.Spec PyProof.Rows L2
variable [TabT] [OldT]
open Evl (Ex)
/-! ### x.append(y.pop(k)), x and y own lists -/
section
variable {X : Cx} {mg : Str → Option Value} {W : WX} {A : DE} {st : Stmt}
def sAppPop (i j : Nat) (A : DE) : DS := fun s w => match s[i]?, s[j]? with
  | some (some (.own xs)), some (some (.own ys)) => match A s w with
    | .ok (.int k) w1 => match ys[k.toNat]? with
      | some y => if i ≠ j ∧ xs.length < lim ∧ 0 ≤ k ∧ k < 4611686018427387904 then .nx ((s.set j (some (.own (ys.eraseIdx k.toNat)))).set i (some (.own (xs ++ [y])))) w1 else .no
      | none => .no
    | _ => .no
  | _, _ => .no
theorem idx_small {k : Int} {n : Nat} (h0 : 0 ≤ k) (h : k.toNat < n) : seqIndex? k n = some k.toNat := by
  unfold seqIndex?
  simp
  omega
theorem Reps.eraseI {wa : Addr} {Hf : Hp} : ∀ {vs : List V} {ds : List D}, Reps wa Hf vs ds → ∀ k : Nat, Reps wa Hf (vs.eraseIdx k) (ds.eraseIdx k)
  | _, _, .nil, k => by simpa using Reps.nil
  | _, _, .cons r rs, 0 => rs
  | _, _, .cons r rs, k + 1 => .cons r (Reps.eraseI rs k)
theorem sd_appPop {i j : Nat} (h : PS X st (tDrop (tBM X.K "list" rAppend (tVar i) (tCons (tBM X.K "list" rPopAt (tVar j) (tCons (lE mg W A) tNil)) tNil)))) : PS X st (lS mg W (sAppPop i j A)) := weakS h fun D σ H h => by
  obtain ⟨wa, Hf, sD, w, H0, Hf0, g, b, hs, ho, h⟩ := h
  unfold sAppPop at h
  split at h
  · rename_i xs ys hi hj
    obtain ⟨p, vs, k1, k2, k3, k4, k5⟩ := hs.own i xs hi
    obtain ⟨p', vs', l1, l2, l3, l4, l5⟩ := hs.own j ys hj
    refine ⟨.ref p, k1, .inl ⟨rfl, vs, SqL.of k2⟩, .ref p', l1, .inl ⟨rfl, vs', SqL.of l2⟩, wa, Hf, sD, w, b, hs, ?_⟩
    cases e : A sD w with
    | er x w1 => rw [e] at h; exact h.elim
    | no => rw [e] at h; exact h.elim
    | ok d w1 =>
      rw [e] at h
      cases d with
      | int k =>
        dsimp only at h
        split at h
        · rename_i y hy
          split at h
          · rename_i hz
            obtain ⟨hij, hzx, h0, h1⟩ := hz
            intro H1 Hf1 g1 b1 v rv
            cases rv
            have hpp : p ≠ p' := fun z => hij (hs.inj i j _ _ p hi isO_own hj isO_own k1 (z ▸ l1))
            have hs1 := hs.go g1
            have kp : H1 p = some (.lst vs) := g1.keep p _ k4 k2
            have kf : Hf1 p = none := (g1.new p _ k2).trans k3
            have lp : H1 p' = some (.lst vs') := g1.keep p' _ l4 l2
            have lf : Hf1 p' = none := (g1.new p' _ l2).trans l3
            have h0p : Fr H0 p := ho i _ p hi isO_own k1
            have h0p' : Fr H0 p' := ho j _ p' hj isO_own l1
            have rx := k5.mono g1.ex
            have ry := l5.mono g1.ex
            have hkl : k.toNat < ys.length := (List.getElem?_eq_some_iff.mp hy).1
            obtain ⟨yv, hyv, ryv⟩ : ∃ yv, vs'[k.toNat]? = some yv ∧ Rep wa Hf1 yv y := ry.get hy
            refine ⟨p', vs', k, k.toNat, yv, rfl, rfl, lp, by omega, by omega, idx_small h0 (by rw [ry.length]; exact hkl), hyv, ?_⟩
            have g2 := (g.trans g1).appF (p := p') (o := .lst (vs'.eraseIdx k.toNat)) h0p'
            have b2 := b1.appL (o := .lst (vs'.eraseIdx k.toNat)) lf l4 lp
            have s2 := hs1.write hj l1 (ry.eraseI k.toNat)
            have kp2 : upd H1 p' (.lst (vs'.eraseIdx k.toNat)) p = some (.lst vs) := by rw [upd_ne hpp]; exact kp
            have hi2 : (sD.set j (some (.own (ys.eraseIdx k.toNat))))[i]? = some (some (.own xs)) := by rw [List.getElem?_set_ne (Ne.symm hij)]; exact hi
            refine ⟨p, vs, yv, rfl, rfl, kp2, Nat.lt_of_lt_of_le (by rw [k5.length]; exact hzx) (lim_le (Nat.le_refl _)), ?_⟩
            refine h σ _ Hf1 (g2.appF h0p) g1.ex (b2.appL kf k4 kp2) (s2.write hi2 k1 (rx.append (.cons ryv .nil))) (ho.sub fun m ye hm io => ?_)
            by_cases hmi : m = i
            · subst hmi
              exact ⟨_, hi, isO_own⟩
            · rw [List.getElem?_set_ne (Ne.symm hmi)] at hm
              by_cases hmj : m = j
              · subst hmj
                exact ⟨_, hj, isO_own⟩
              · rw [List.getElem?_set_ne (Ne.symm hmj)] at hm
                exact ⟨ye, hm, io⟩
          · exact h.elim
        · exact h.elim
      | _ => exact h.elim
  · exact h.elim
/-- len(x), x the slot's own list -/
def eLenO (j : Nat) : DE := fun s w => match s[j]? with
  | some (some (.own xs)) => .ok (.int xs.length) w
  | _ => .no
variable {n : Expr} {pos : Pos}
theorem pd_lenO {j : Nat} {p : Pos} (hg : Gl X "len") (hm : X.mg "len" = none) (hv : bootBuiltins "len" = some (.builtin "len")) (ha : PE X n (tVar j))
    (he : starEach [n] X.env = [(false, eval n X.env)] := by rfl) (hpl : (backTo pos (starEach [] X.env)).any (·.1) = false := by rfl) : PE X (.Call (.Name "len" p) [n] [] pos) (lE mg W (eLenO j)) := weakE (pe_callB call_len hg hm hv (pa_cons ha pa_nil he) (by decide) (by decide) he hpl) fun σ H Q h => by
  obtain ⟨wa, Hf, sD, w, hb, hs, h⟩ := h
  unfold eLenO at h
  split at h
  · rename_i xs hj
    obtain ⟨p, vs, k1, k2, k3, k4, k5⟩ := hs.own j xs hj
    refine ⟨.ref p, k1, .ref p, _, rfl, .inl ⟨_, SqL.of k2, rfl⟩, ?_⟩
    rw [k5.length]
    exact h H Hf Go.refl hb _ (.int _)
  · exact h.elim
@[simp] theorem okE_lenO {j : Nat} {s : Sl} {w : Wl} {Q : D → Wl → Prop} : okE (eLenO j s w) Q = okOwn s[j]? fun xs => Q (.int xs.length) w := by
  unfold eLenO okOwn
  cases e : s[j]? with
  | none => rfl
  | some o => cases o with
    | none => rfl
    | some d => cases d <;> rfl
/-- G = f(a, x.pop(k), c), x an own list -/
def sTgPop (G : DG) (F : DF) (j : Nat) (A C B : DE) : DS := fun s w => match A s w with
  | .ok a w1 => match C s w1, s[j]? with
    | .ok (.int k) w2, some (some (.own ys)) => match ys[k.toNat]? with
      | some y => if 0 ≤ k ∧ k < 4611686018427387904 then match B (s.set j (some (.own (ys.eraseIdx k.toNat)))) w2 with
        | .ok c w3 => match F [a, y, c] w3 with
          | .ok d w4 => match G d (s.set j (some (.own (ys.eraseIdx k.toNat)))) with
            | some s1 => .nx s1 w4
            | none => .no
          | _ => .no
        | _ => .no
        else .no
      | none => .no
    | _, _ => .no
  | _ => .no
theorem sd_tgPop {G : DG} {F : DF} {j : Nat} {A C B : DE} {vs : List Nat} (h : PS X st (tAsg (tCallS (spD mg 3 F) (WE W) (tCons (lE mg W A) (tCons (tBM X.K "list" rPopAt (tVar j) (tCons (lE mg W C) tNil)) (tCons (lE mg W B) tNil)))) (lG vs G))) : PS X st (lS mg W (sTgPop G F j A C B)) := weakS h fun D σ H h => by
  obtain ⟨wa, Hf, sD, w, H0, Hf0, g, b, hs, ho, h⟩ := h
  unfold sTgPop at h
  refine ⟨wa, Hf, sD, w, b, hs, ?_⟩
  cases ea : A sD w with
  | er x w1 => rw [ea] at h; exact h.elim
  | no => rw [ea] at h; exact h.elim
  | ok a w1 =>
    rw [ea] at h
    dsimp only at h
    intro H1 Hf1 g1 b1 va ra
    have hs1 := hs.go g1
    split at h
    · rename_i k w2 ys ec hj
      split at h
      · rename_i y hy
        split at h
        · rename_i hz
          obtain ⟨p', vs', l1, l2, l3, l4, l5⟩ := hs1.own j ys hj
          refine ⟨.ref p', l1, .inl ⟨rfl, vs', SqL.of l2⟩, wa, Hf1, sD, w1, b1, hs1, ?_⟩
          rw [ec]
          intro H2 Hf2 g2 b2 v rv
          cases rv
          have hs2 := hs1.go g2
          have lp : H2 p' = some (.lst vs') := g2.keep p' _ l4 l2
          have lf : Hf2 p' = none := (g2.new p' _ l2).trans l3
          have h0p' : Fr H0 p' := ho j _ p' hj isO_own l1
          have ry := l5.mono g2.ex
          have hkl : k.toNat < ys.length := (List.getElem?_eq_some_iff.mp hy).1
          obtain ⟨yv, hyv, ryv⟩ : ∃ yv, vs'[k.toNat]? = some yv ∧ Rep wa Hf2 yv y := ry.get hy
          refine ⟨p', vs', k, k.toNat, yv, rfl, rfl, lp, by omega, by omega, idx_small hz.1 (by rw [ry.length]; exact hkl), hyv, ?_⟩
          have g3 := ((g.trans g1).trans g2).appF (p := p') (o := .lst (vs'.eraseIdx k.toNat)) h0p'
          have b3 := b2.appL (o := .lst (vs'.eraseIdx k.toNat)) lf l4 lp
          have s3 := hs2.write hj l1 (ry.eraseI k.toNat)
          have ho3 : OwnNew H0 σ (sD.set j (some (.own (ys.eraseIdx k.toNat)))) := ho.sub fun m ye hm io => by
            by_cases hmj : m = j
            · subst hmj
              exact ⟨_, hj, isO_own⟩
            · rw [List.getElem?_set_ne (Ne.symm hmj)] at hm
              exact ⟨ye, hm, io⟩
          refine ⟨wa, Hf2, _, w2, b3, s3, ?_⟩
          cases eb : B (sD.set j (some (.own (ys.eraseIdx k.toNat)))) w2 with
          | er x w3 => rw [eb] at h; exact h.elim
          | no => rw [eb] at h; exact h.elim
          | ok c w3 =>
            rw [eb] at h
            dsimp only at h
            intro H4 Hf4 g4 b4 vc rc
            refine ⟨wa, Hf4, [a, y, c], w3, b4, .cons ((ra.mono g2.ex).mono g4.ex) (.cons (ryv.mono g4.ex) (.cons rc .nil)), rfl, ?_⟩
            cases eF : F [a, y, c] w3 with
            | er x w4 => rw [eF] at h; exact h.elim
            | no => rw [eF] at h; exact h.elim
            | ok d w4 =>
              rw [eF] at h
              dsimp only at h
              split at h
              · rename_i s1 eg
                intro H5 Hf5 g5 b5 v5 r5
                exact ⟨wa, Hf5, H0, w4, _, d, s1, b5, r5, (s3.go g4).go g5, ho3, eg, fun σ' hs' ho' _ => h σ' H5 Hf5 ((g3.trans g4).trans g5) (((g1.ex.trans g2.ex).trans g4.ex).trans g5.ex) b5 hs' ho'⟩
              · exact h.elim
        · exact h.elim
      · exact h.elim
    · exact h.elim
theorem pd_callPop {k : Nat} {f : Addr} {fd : FuncData} {ps : List Str} {F : DF} {x : Str} {p : Pos} {e : Expr} {es : List Expr} {t : TA} {pos : Pos} (G : FnD X.prog X.w X.K X.mg X.base k f fd ps F) (hl : ps.length = 3) (hr : Room k X.A) (hg : Gl X x) (hm : X.mg x = some (.ref f)) (hk : PySem.W.keepIn X.K (.ref f) = true) (hb : Binds X.K fd ps []) (hx : Wok X W)
    (ha : PA X (e :: es) t) (hdb : (x == ("__debug__" : Str)) = false := by decide) (he : starEach (e :: es) X.env = (false, eval e X.env) :: starEach es X.env := by rfl) (hpl : (backTo pos (starEach es X.env)).any (·.1) = false := by rfl) :
    PE X (.Call (.Name x p) (e :: es) [] pos) (tCallS (spD X.mg 3 F) (WE W) t) := by
  have := pe_callS (E := WE W) (pos := pos) (p := p) G hr hg hm hk hb hx ha hdb he hpl
  rw [hl] at this
  exact this
/-- str(n) -/
def fStrI : Wl → List D → Option D := fun _ ds => match ds with
  | [.int i] => if i.natAbs.log2 < 1920 then some (.str (toString i)) else none
  | _ => none
theorem cd_strI : CaD (fun xs H Q => ∃ i, xs = [.int i] ∧ i.natAbs.log2 < 1920 ∧ Q (.str (toString i)) H) fStrI := by
  intro wa Hf H w ds us z Q hb rs h q
  unfold fStrI at h
  split at h
  · split at h
    · rename_i hz
      cases h
      cases rs with
      | cons r1 r2 =>
        cases r2
        cases r1
        exact ⟨_, rfl, hz, q _ _ Go.refl hb _ (.str _)⟩
    · cases h
  · cases h
end
end DL

set_option maxHeartbeats 2000000
namespace DL
open PySem PySem.Spec PyProof.Rows L2
variable [TabT] [OldT]
open Evl (Ex)
/-! ### new lists of any plain items -/
mutual
def plA : D → Bool
  | .non => true
  | .bl _ => true
  | .int _ => true
  | .str _ => true
  | .lst ds => plAs ds
  | .tup ds => plAs ds
  | _ => false
def plAs : List D → Bool
  | [] => true
  | d :: r => plA d && plAs r
end
section
variable {o : OldT} {wa : Addr} {Hf : Hp}
mutual
theorem rep_fun : ∀ {v : V} {d d' : D}, @Rep o wa Hf v d → plA d = true → @Rep o wa Hf v d' → plA d' = true → d = d'
  | _, _, _, .non, _, r, h => by cases r <;> first | rfl | simp [plA] at h
  | _, _, _, .bl b, _, r, h => by cases r <;> first | rfl | simp [plA] at h
  | _, _, _, .int b, _, r, h => by cases r <;> first | rfl | simp [plA] at h
  | _, _, _, .str b, _, r, h => by cases r <;> first | rfl | simp [plA] at h
  | _, _, _, .lst h1 r1, p, r, h => by
    cases r with
    | lst h2 r2 =>
      rw [h1] at h2
      cases h2
      rw [reps_fun r1 (by simpa [plA] using p) r2 (by simpa [plA] using h)]
    | tup h2 r2 => rw [h1] at h2; cases h2
    | _ => simp [plA] at h
  | _, _, _, .tup h1 r1, p, r, h => by
    cases r with
    | tup h2 r2 =>
      rw [h1] at h2
      cases h2
      rw [reps_fun r1 (by simpa [plA] using p) r2 (by simpa [plA] using h)]
    | lst h2 r2 => rw [h1] at h2; cases h2
    | _ => simp [plA] at h
  | _, _, _, .well, p, _, _ => by simp [plA] at p
  | _, _, _, .ref a, p, _, _ => by simp [plA] at p
  | _, _, _, .ty a, p, _, _ => by simp [plA] at p
  | _, _, _, .nl _ _ _, p, _, _ => by simp [plA] at p
  | _, _, _, .dft _ _ _, p, _, _ => by simp [plA] at p
  | _, _, _, .dfk _ _ _, p, _, _ => by simp [plA] at p
theorem reps_fun : ∀ {vs : List V} {ds ds' : List D}, @Reps o wa Hf vs ds → plAs ds = true → @Reps o wa Hf vs ds' → plAs ds' = true → ds = ds'
  | _, _, _, .nil, _, r, _ => by cases r; rfl
  | _, _, _, .cons r1 rs1, p, r, h => by
    cases r with
    | cons r2 rs2 =>
      simp only [plAs, Bool.and_eq_true] at p h
      rw [rep_fun r1 p.1 r2 h.1, reps_fun rs1 p.2 rs2 h.2]
end
end
section
variable {o' o : OldT} {wa p : Addr} {Hf Hf' : Hp} {us : List V} {xs0 : List D}
mutual
theorem rep_stay (hp : Hf p = some (.lst us)) (r0 : @Reps o wa Hf us xs0) (p0 : plAs xs0 = true) (k : ∀ a u, a ≠ p → Hf a = some u → Hf' a = some u) : ∀ {v : V} {d : D}, @Rep o wa Hf v d → plA d = true → sizeOf d < sizeOf (D.lst xs0) → @Rep o' wa Hf' v d
  | _, _, .non, _, _ => @Rep.non o' wa Hf'
  | _, _, .bl b, _, _ => @Rep.bl o' wa Hf' b
  | _, _, .int b, _, _ => @Rep.int o' wa Hf' b
  | _, _, .str b, _, _ => @Rep.str o' wa Hf' b
  | _, _, .lst h1 r1, q, z => by
    have q1 := q
    simp only [plA] at q1
    refine @Rep.lst o' wa Hf' _ _ _ (k _ _ (fun e => ?_) h1) (reps_stay hp r0 p0 k r1 q1 (by simp only [D.lst.sizeOf_spec] at z ⊢; omega))
    rw [e, hp] at h1
    cases h1
    rw [reps_fun r1 q1 r0 p0] at z
    exact Nat.lt_irrefl _ z
  | _, _, .tup h1 r1, q, z => by
    have q1 := q
    simp only [plA] at q1
    refine @Rep.tup o' wa Hf' _ _ _ (k _ _ (fun e => ?_) h1) (reps_stay hp r0 p0 k r1 q1 (by simp only [D.lst.sizeOf_spec, D.tup.sizeOf_spec] at z ⊢; omega))
    rw [e, hp] at h1
    cases h1
  | _, _, .well, q, _ => by simp [plA] at q
  | _, _, .ref a, q, _ => by simp [plA] at q
  | _, _, .ty a, q, _ => by simp [plA] at q
  | _, _, .nl _ _ _, q, _ => by simp [plA] at q
  | _, _, .dft _ _ _, q, _ => by simp [plA] at q
  | _, _, .dfk _ _ _, q, _ => by simp [plA] at q
theorem reps_stay (hp : Hf p = some (.lst us)) (r0 : @Reps o wa Hf us xs0) (p0 : plAs xs0 = true) (k : ∀ a u, a ≠ p → Hf a = some u → Hf' a = some u) : ∀ {vs : List V} {ds : List D}, @Reps o wa Hf vs ds → plAs ds = true → sizeOf ds ≤ sizeOf xs0 → @Reps o' wa Hf' vs ds
  | _, _, .nil, _, _ => @Reps.nil o' wa Hf'
  | _, _, .cons r1 rs1, q, z => by
    simp only [plAs, Bool.and_eq_true] at q
    simp only [List.cons.sizeOf_spec] at z
    exact @Reps.cons o' wa Hf' _ _ _ _ (rep_stay hp r0 p0 k r1 q.1 (by simp only [D.lst.sizeOf_spec]; omega)) (reps_stay hp r0 p0 k rs1 q.2 (by omega))
end
end
section
variable {X : Cx} {mg : Str → Option Value} {W : WX} {e : Expr} {E : DE} {st : Stmt}
/-- what a def tells as a new list: of any plain items -/
def aNewA (E : DE) : DA := fun s w => if s.all nlFreeO = true then match E s w with
  | .ok (.nl xs) w1 => if plAs xs = true then .ok xs w1 else .no
  | _ => .no
  else .no
theorem pl_newA (h : ∀ o : OldT, PE X e (@lE _ o mg W E)) : PE X e (lfL mg W (aNewA E)) := by
  refine weakE (⟨fun pins s σ H Q I ⟨o, q⟩ => (h o).run pins s σ H Q I q⟩ : PE X e fun σ H Q => ∃ o : OldT, @lE _ o mg W E σ H Q) fun σ H Q q => ?_
  obtain ⟨wa, Hf, sD, w, hb, hs, q⟩ := q
  unfold aNewA at q
  split at q
  · rename_i hfree
    refine ⟨⟨Hf⟩, wa, Hf, sD, w, @Base.mk _ ⟨Hf⟩ wa Hf H w hb.ex hb.well hb.nw hb.tb hb.nt (Ex.refl _), hs.turn hfree, ?_⟩
    split at q
    · rename_i xs w1 e1
      split at q
      · rename_i hpl
        rw [e1]
        intro H1 Hf1 g1 b1 v rv
        obtain ⟨bex, bwell, bnw, btb, bnt, _⟩ := b1
        obtain ⟨p, vs, rfl, h1, ho, r1⟩ : ∃ p vs, v = V.ref p ∧ Hf1 p = some (.lst vs) ∧ Hf p = none ∧ @Reps ⟨Hf⟩ wa Hf1 vs xs := by
          cases rv with
          | nl h1 o r1 => exact ⟨_, _, rfl, h1, o, r1⟩
        have hpw : p ≠ wa := fun z => by rw [z, bnw] at h1; cases h1
        have hHp : Fr H p := fun o e2 t => by
          have hk := g1.keepN p o hpw t e2
          rw [bex _ _ h1] at hk
          cases hk
          have := g1.newN p _ nu_lst e2
          rw [h1, ho] at this
          cases this
        have ex' : Ex Hf (delH Hf1 p) := fun a u ha => by
          have : a ≠ p := fun z => by rw [z, ho] at ha; cases ha
          rw [delH_ne this]
          exact g1.ex a u ha
        have go : Go wa H Hf H1 (delH Hf1 p) := ⟨g1.keepN, ex', fun a o t ha => by
          have : a ≠ p := fun z => by rw [z] at ha; exact hHp o ha t.1
          rw [delH_ne this]
          exact g1.newN a o t ha, g1.thereN⟩
        have b' : Base wa (delH Hf1 p) H1 w1 := ⟨fun a u ha => by
          by_cases hp : a = p
          · subst hp; rw [delH_same] at ha; cases ha
          · rw [delH_ne hp] at ha; exact bex a u ha, bwell, by rw [delH_ne (Ne.symm hpw)]; exact bnw, btb, fun a u ha => by
          by_cases hp : a = p
          · subst hp; rw [delH_same] at ha; cases ha
          · rw [delH_ne hp] at ha; exact bnt a u ha, hb.od.trans ex'⟩
        exact q H1 _ go b' p vs hHp (bex _ _ h1) (delH_same) hpw (reps_stay h1 r1 hpl (fun a u n ha => by rw [delH_ne n]; exact ha) r1 hpl (Nat.le_refl _))
      · exact q.elim
    · exact q.elim
  · exact q.elim
theorem okE_newA {s : Sl} {w : Wl} {Q : List D → Wl → Prop} (h1 : s.all nlFreeO = true) (h2 : okE (E s w) fun d w1 => ∃ xs, d = .nl xs ∧ plAs xs = true ∧ Q xs w1) : okE (aNewA E s w) Q := by
  unfold aNewA
  rw [if_pos h1]
  cases e : E s w with
  | ok d w1 =>
    rw [e] at h2
    obtain ⟨xs, rfl, h3, q⟩ := h2
    dsimp only
    rw [if_pos h3]
    exact q
  | er _ _ => rw [e] at h2; exact h2.elim
  | no => rw [e] at h2; exact h2.elim
end
end DL

set_option maxHeartbeats 2000000
/-! ### own errors over ArithmeticError, with one field of their own: part -/
namespace PySem
namespace ErrX
open PySem.W PySem.Calls PyProof.Rows PySem.HandSPX
abbrev aeM : List Value := [.type "ArithmeticError", .type "Exception", .type "BaseException", .type "object"]
def jA (p1 p2 : Pos) : Arguments := { posonlyargs := [], args := [{ arg := "self", annotation := none, pos := p1 }, { arg := "part", annotation := none, pos := p2 }], vararg := none, kwonlyargs := [], kw_defaults := [], kwarg := none, defaults := [] }
def jB (q1 q2 q3 q4 : Pos) : List Stmt := [.Assign [.Attribute (.Name "self" q1) "part" q2] (.Name "part" q3) q4]
def jS : Scope := { kind := .function, names := [(PySem.Str.ofString "self", .local), (PySem.Str.ofString "part", .local)], isGenerator := false, isCoroutine := false, more := [] }
structure ErrTxt (K : Frag) (mg : Str → Option Value) (cn qn : Str) (C fI : Addr) : Prop where
  gC : mg cn = some (.ref C)
  mkr : excInitIn K C aeM "ArithmeticError.__new__" = true
  ov : excOver K C aeM = true
  sa : findIn K (.ref C) "__setattr__" = some (some (.builtin "object.__setattr__"))
  ga : findIn K (.ref C) "__getattribute__" = some (some (.builtin "BaseException.__getattribute__"))
  gg : findIn K (.ref C) "__getattr__" = some none
  noN : findIn K (.ref C) "part" = some none
  iC : findIn K (.ref C) "__init__" = some (some (.ref fI))
  tC : typeIn K (.ref fI) = some (.type "function")
  kC : keepIn K (.ref C) = true
  exC : subIn K (.ref C) (.type "BaseException") = some true
  tyC : typeIn K (.ref C) = some (.type "type")
  hdC : hasDictIn K C = true
  te : exmOne K (.ref C) (.ref C) = some true
  fn : ∃ (oc : Value) (od : Option Addr) (doc pm : Value) (an : Option Addr) (cdv ct : Value) (osl : Array (Option Value)) (p1 p2 q1 q2 q3 q4 : Pos),
    K.lookup fI = some ⟨oc, od, .func (fnOf "__init__" qn (jA p1 p2) (jB q1 q2 q3 q4) jS .none .none doc pm an cdv ct), osl⟩ ∧ codeIn K cdv qn = true
theorem ns1_one {h : Heap} {d : Addr} {name : Str} {hs : Int} {tk : Tok} {v : Value} {n : Nat} (e : h.get? d = some (dictOf [⟨hs, .str name tk, v⟩] n)) : h.Ns1 d (fun y => if y = name then some v else none) := by
  refine ⟨_, _, n, e, rfl, fun x hx => ?_, ?_, fun y => ?_⟩
  · simp at hx
    subst hx
    exact ⟨name, tk, rfl⟩
  · first | (intro i j; simp; omega) | simp [UniqKeys] | trace_state
  · by_cases h : y = name
    · subst h
      simp [nsFind, findBy, Value.isStr]
    · simp [nsFind, findBy, Value.isStr, h]
      try exact fun q => absurd q.symm h
/-- what __init__ leaves of a fresh exception at x -/
structure Left (h h' : Heap) (x C dx t1 : Addr) (v : Value) : Prop where
  keep : ∀ b o, b ≠ x → h.get? b = some o → h'.get? b = some o
  obj : h'.get? x = some { cls := .ref C, dict := some dx, data := .fields #[.ref t1, .none, .none, .none, .bool false, .none] }
  big : x < dx
  ns : h'.Ns1 dx (fun y => if y = "part" then some v else none)
section
variable {prog : Program} {w : World} {A : Around} {E : Value → Shared → Prop} {R : Result → Shared → Prop} {s : Shared} {K : Frag} {mg : Str → Option Value} {cn qn : Str} {C fI : Addr}
theorem part_init (T : ErrTxt K mg cn qn C fI) {h0 : Heap} {x t0 : Addr} {v : Value} (hs0 : s.heap = h0.push (excO C t0)) (hx0 : x = h0.objs.size) (X0 : K.In h0) (hlim : s.heap.NoLimit) (hroom : A.depth < recursionLimit)
    (hq : ∀ h' tk dx, Left s.heap h' x C dx t0 v → R (.ok (.ret .none)) { s with heap := h', toks := tk }) :
    codeAny (model prog w) A (.call (.ref fI) ⟨[.ref x, v], []⟩) R s := by
  obtain ⟨oc, od, doc, pm, an, cdv, ct, osl, p1, p2, q1, q2, q3, q4, ho, hcd⟩ := T.fn
  have hx : s.heap.get? x = some (excO C t0) := by rw [hs0, hx0]; exact Heap.get?_push_size _ rfl
  have k0 : ∀ b o, h0.get? b = some o → s.heap.get? b = some o := fun b o e => by rw [hs0]; exact Heap.get?_push_of_some _ e
  have X : K.In s.heap := X0.keeps k0
  refine Att.call_fn (binds := [("self", .ref x), ("part", v)]) X hlim ho hcd hroom (BindsTo.of_eq (by first | rfl | with_unfolding_all rfl)) (by first | rfl | decide | with_unfolding_all rfl) (fun s1 IC => ?_) rfl rfl rfl
  obtain ⟨h1, tk1, rfl⟩ := IC.toInCall.same
  have k : ∀ b o, s.heap.get? b = some o → h1.get? b = some o := IC.toInCall.keep
  have hn := IC.toInCall.ns
  have sz : s.heap.objs.size = h0.objs.size + 1 := by rw [hs0]; exact Heap.size_push ..
  have hxL : x ≠ s.heap.objs.size := by rw [hx0, sz]; exact Nat.ne_of_lt (Nat.lt_succ_self _)
  have F : Fr h0 s.heap.objs.size h1 _ := ⟨hn, fun b o e => k b o (k0 b o e), by rw [sz]; exact Nat.le_succ _⟩
  have hnone : h0.get? x = none := by
    cases e : h0.get? x with
    | none => rfl
    | some o =>
      have := Heap.lt_size e
      rw [hx0] at this
      exact absurd this (Nat.lt_irrefl _)
  have N : News h0 s.heap.objs.size h1 [(x, excObj C t0 none .none)] := fun p hp => by
    rw [List.mem_singleton] at hp
    subst hp
    exact ⟨k _ _ hx, hxL, hnone⟩
  show wpAny _ _ (execs _ _) _ _ _
  refine wpAny_execs_cons (plainObj_wpAny_Assign_Attribute ?_)
  refine wpAny_Name (wpAny_loadName_local (by first | rfl | with_unfolding_all rfl) (by first | rfl | with_unfolding_all rfl) hn (v := v) (by first | rfl | with_unfolding_all rfl | kernel_rfl) ?_) (by decide)
  refine wpAny_Name (wpAny_loadName_local (by first | rfl | with_unfolding_all rfl) (by first | rfl | with_unfolding_all rfl) hn (v := .ref x) (by first | rfl | with_unfolding_all rfl | kernel_rfl) ?_) (by decide)
  refine set_exc0 (C := C) (t := t0) (c2 := .none) PySem.F.store_ArithmeticError F X0 N (List.mem_singleton.mpr rfl) T.sa T.ov (by unfold takerIn; rw [T.noN]; rfl) T.hdC rfl (.head (by simp)) (show 1 ≤ 1000 by decide) (fun dx h3 F3 N3 lt => ?_)
  refine wpAny_execs_nil (hq h3 _ dx ⟨fun b o hb e => ?_, ?_, lt _ (List.mem_singleton.mpr rfl), ?_⟩)
  · rw [hs0] at e
    rw [Heap.get?_push_ne _ _ _ (by rw [hx0] at hb; exact hb)] at e
    exact F3.keep b o e
  · exact (N3 (x, _) (by simp)).1
  · exact ns1_one (N3 _ List.mem_cons_self).1
/-- a made error -/
structure Made (h h' : Heap) (e C d : Addr) (v : Value) : Prop where
  keep : ∀ b o, h.get? b = some o → h'.get? b = some o
  new : h.objs.size ≤ e
  obj : ∃ oe vs, h'.get? e = some oe ∧ oe.cls = .ref C ∧ oe.dict = some d ∧ oe.data = .fields vs ∧ vs[1]? = some .none
  dbig : h.objs.size ≤ d
  dne : d ≠ e
  ns : h'.Ns1 d (fun y => if y = "part" then some v else none)
theorem made (T : ErrTxt K mg cn qn C fI) {v : Value} (X : K.In s.heap) (hlim : s.heap.NoLimit) (hroom : A.depth + 1 < recursionLimit)
    (hq : ∀ h' tk e d, Made s.heap h' e C d v → R (.ok (.ret (.ref e))) { s with heap := h', toks := tk }) :
    codeAny (model prog w) A (.call (.ref C) ⟨[v], []⟩) R s := by
  obtain ⟨nm, N, qn', bs, bm, hdct, sn, sub, ab, col, dd, k0, k1, k2, k3, k5, hC, hT⟩ := excInit_of X T.mkr
  obtain ⟨hp, g, dr, tk, os⟩ := s
  have kt : ∀ b o, hp.get? b = some o → (hp.push (kdv_tup [v])).get? b = some o := fun b o e => Heap.get?_push_of_some _ e
  have ke : ∀ b o, (hp.push (kdv_tup [v])).get? b = some o → ((hp.push (kdv_tup [v])).push (excO C hp.objs.size)).get? b = some o := fun b o e => Heap.get?_push_of_some _ e
  have hsz : (hp.push (kdv_tup [v])).objs.size = hp.objs.size + 1 := Heap.size_push ..
  refine HandSPX.call_own PySem.F.excBase_ArithmeticError hT hC (looks_findIn X T.iC) (fun self => bind_fn X self T.tC) (by rw [sizeLine_eq]; exact (by decide : 1 ≤ 16777216)) ?_
  refine part_init (s := ⟨(hp.push (kdv_tup [v])).push (excO C hp.objs.size), g, dr, tk, os⟩) (h0 := hp.push (kdv_tup [v])) T rfl hsz.symm (X.keeps kt) (hlim.keeps fun b o e => ke b o (kt b o e)) ?_ fun h' tk' dx L => ?_
  · show A.depth + 1 < recursionLimit
    exact hroom
  · obtain ⟨k', hx, hbig, hns⟩ := L
    have old : ∀ b o, hp.get? b = some o → h'.get? b = some o := fun b o e => k' b o (Nat.ne_of_lt (Nat.lt_succ_of_lt (Heap.lt_size e))) (ke b o (kt b o e))
    exact ⟨rfl, hq h' tk' (hp.objs.size + 1) dx ⟨old, Nat.le_succ _, ⟨_, _, hx, rfl, rfl, rfl, rfl⟩, Nat.le_of_lt (Nat.lt_of_le_of_lt (Nat.le_succ _) hbig), Nat.ne_of_gt hbig, hns⟩⟩
end
end ErrX
end PySem
namespace L2
open PySem PySem.Spec PyProof.Rows
theorem relO_part {v : V} {v' : Value} (r : RelV v v') (f : Str) : RelO (List.lookup f [(("part" : Str), v)]) (if f = "part" then some v' else none) := by
  by_cases hw : f = "part"
  · subst hw
    have q : List.lookup ("part" : Str) [(("part" : Str), v)] = some v := by simp [List.lookup]
    rw [if_pos rfl, q]
    exact r
  · have q2 : List.lookup f [(("part" : Str), v)] = none := by
      have qw : (f == ("part" : Str)) = false := by simpa using hw
      simp [List.lookup, qw]
    rw [if_neg hw, q2]
    trivial
section
variable {X : Cx} {C fI : Addr} {cn qn : Str}
/-- C(e) -/
def tMkE (C : Addr) (ta : TA) : L2.St → Hp → XK → Prop := fun σ H Q => ta σ H fun vs H1 => ∃ v, vs = [v] ∧ ∀ d, H1 d = none → Q (.ref C) (some d) (upd H1 d (.xd [(("part" : Str), v)]))
theorem pmk_err {a : Expr} {ta : TA} {p pos : Pos} {k : Nat} (T : PySem.ErrX.ErrTxt X.K X.mg cn qn C fI) (hr : Room k X.A) (ha : PA X [a] ta) (hg : Gl X cn) (hdb : (cn == ("__debug__" : Str)) = false)
    (he : starEach (a :: []) X.env = (false, eval a X.env) :: starEach [] X.env := by rfl) (hpl : (backTo pos (starEach [] X.env)).any (·.1) = false := by rfl) :
    PMk X (.Call (.Name cn p) [a] [] pos) (tMkE C ta) := by
  intro pins s σ H Q I h
  refine wpAny_Call_Name_kw (ld_glob I hg T.gC ?_ hdb)
  refine PySem.W.callWith_K (h₀ := X.base) I.ok.mod.kin T.kC (thn (ha.run pos pins s σ H _ I h) fun us s1 ⟨vs, H1, I1, r1, v, ev, q1⟩ => ?_) he hpl
  subst ev
  refine ⟨I1.kIn, ?_⟩
  cases r1 with
  | cons rv rn =>
    cases rn
    have hlim := I1.nolimit
    obtain ⟨hp, g, dr, tk, os⟩ := s1
    show wpAny _ _ (call (.ref C) [_]) _ _ _
    refine wpAny_call (PySem.ErrX.made T I1.kIn hlim (by have := hr.dp; omega) fun h2 tk2 e d M => ?_)
    show MkP X pins σ Q (.ref e) ⟨h2, g, dr, tk2, os⟩
    obtain ⟨oe, fv, hoe, hc, hd, hdat, hone⟩ := M.obj
    have hns := M.ns
    obtain ⟨G, g1, g2⟩ := restrict h2 fun b => decide (b ≠ e)
    have gk : ∀ b, b ≠ e → G.get? b = h2.get? b := fun b hb => g1 b (decide_eq_true hb)
    have gn : G.get? e = none := g2 e (by simp)
    have gold : ∀ b o, hp.get? b = some o → G.get? b = some o := fun b o q => (gk b fun z => by
      have y := Heap.lt_size q
      rw [z] at y
      exact absurd (Nat.lt_of_lt_of_le y M.new) (Nat.lt_irrefl _)).trans (M.keep b o q)
    have J : Inv X pins σ (upd H1 d (.xd [(("part" : Str), v)])) ⟨G, g, dr, tk2, os⟩ := I1.laid (t' := tk2) gold M.dbig ⟨_, hns.at (fun o q => (gk d M.dne).trans q), fun f => relO_part rv f⟩
    refine ⟨e, oe, fv, ⟨G, g, dr, tk2, os⟩, _, .ref C, some d, rfl, J, fun b o q => ?_, gn, hoe, ⟨hc, hd⟩, hdat, hone, ?_, rfl, I1.bare, raises_own T.exC T.tyC, q1 d (I1.hok.fresh M.dbig)⟩
    · have q : G.get? b = some o := q
      have hb : b ≠ e := fun z => by rw [z, gn] at q; cases q
      exact (gk b hb).symm.trans q
    · rw [upd_ne (Ne.symm M.dne)]
      exact I1.hok.fresh M.new
/-- raise C(e) -/
def tRaiseE (C : Addr) (W : WX) (ta : TA) : TS := fun _ σ H => tMkE C ta σ H fun cls d H' => W cls d σ H'
theorem ps_raiseE {a : Expr} {ta : TA} {W : WX} {p pos pos2 : Pos} {k : Nat} (hc : X.calm = true) (T : PySem.ErrX.ErrTxt X.K X.mg cn qn C fI) (hr : Room k X.A) (tk : Takes X W) (ha : PA X [a] ta) (hg : Gl X cn) (hdb : (cn == ("__debug__" : Str)) = false)
    (he : starEach (a :: []) X.env = (false, eval a X.env) :: starEach [] X.env := by rfl) (hpl : (backTo pos (starEach [] X.env)).any (·.1) = false := by rfl) :
    PS X (.Raise (some (.Call (.Name cn p) [a] [] pos)) none pos2) (tRaiseE C W ta) := ps_raise hc tk (pmk_err T hr ha hg hdb he hpl)
/-- e.part, e the exception that the suite holds (at a; its class cls, its dict d) -/
def tErrPart (C : Addr) (a : Addr) (cls : Value) (d : Option Addr) (te : TE) : TE := fun σ H Q => te σ H fun x H1 => x = .ref a ∧ cls = .ref C ∧ ∃ (dd : Addr) (v : V), d = some dd ∧ H1 dd = some (.xd [(("part" : Str), v)]) ∧ Q v H1
theorem pe_part {a : Addr} {oe : Obj} {cls : Value} {d : Option Addr} {pn : List (Addr × Obj)} {e : Expr} {te : TE} {pos : Pos} (T : PySem.ErrX.ErrTxt X.K X.mg cn qn C fI) (hz : Zc cls d oe) (hf : ∃ vs, oe.data = .fields vs) (he : PE (X.suite a ((a, oe) :: pn)) e te)
    (hb : attributeBase e "part" X.env (eval e X.env) = eval e X.env := by rfl) :
    PE (X.suite a ((a, oe) :: pn)) (.Attribute e "part" pos) (tErrPart C a cls d te) := by
  refine ⟨fun pins s σ H Q I h => attr_of hb (thn (he.run pins s σ H _ I h) fun u s1 ⟨x, H1, I1, rx, ex, ec, dd, v, ed, ea, q⟩ => ?_)⟩
  subst ex
  subst ec
  subst ed
  obtain rfl : u = Value.ref a := rx
  have ha := (I1.pin (a, oe) (List.mem_append_left _ List.mem_cons_self)).1
  obtain ⟨vs, hd⟩ := hf
  obtain ⟨mA, hns, hr⟩ : ObjOk X.prog X.w H1 s1.heap dd (.xd [(("part" : Str), v)]) := I1.hok dd _ ea
  obtain ⟨od, ho, hl⟩ := lookIn_ns hns
  have l : List.lookup ("part" : Str) [(("part" : Str), v)] = some v := by simp [List.lookup]
  obtain ⟨u, hu, ru⟩ := RelO.some_of (v := v) (o := mA "part") (by rw [← l]; exact hr "part")
  exact HandSPX.exc_get I1.kIn (od := some od) (ox := oe) (C := C) ⟨ha, hz.1, by unfold PySem.W.notCls; rw [hd] <;> rfl, by rw [hz.2]; exact ho⟩ T.ga T.gg T.exC (PySem.W.findObj_own T.hdC T.noN rfl (by rw [hl, hu])) (handed_of ru) ⟨v, H1, I1.tok _, ru, q⟩
end
end L2
namespace DL
open PySem
/-- an error of the class at S is what «except S» names -/
theorem exm_own {K : PySem.W.Frag} {S : PySem.Addr} (h1 : PySem.W.subIn K (PySem.Value.ref S) (PySem.Value.type "BaseException") = some true) (h2 : PySem.W.isClsIn K S = true) (h3 : PySem.W.typeIn K (.ref S) = some (.type "type")) (h4 : PySem.W.subIn K (.ref S) (.ref S) = some true) :
    PySem.W.exmOne K (.ref S) (.ref S) = some true := by
  have e2 : (PySem.W.clsIn K S).isSome = true := h2
  simp [PySem.W.exmOne, PySem.W.kitCls, h1, e2, h3, h4]
end DL
namespace DL
open PySem PySem.Spec PyProof.Rows L2
variable [TabT] [OldT]
open Evl (Ex)
section
variable {X : Cx} {mg : Str → Option Value} {W : WX} {C fI : Addr} {cn qn : Str} {e : Expr} {A : DE} {p pos pos2 : Pos} {k : Nat} {σ : L2.St} {H : Hp}
/-- raise C(e) -/
def sRaise (cn : Str) (A : DE) : DS := fun s w => match A s w with
  | .ok d w1 => .er ⟨cn, [("part", d)]⟩ s w1
  | .er x w1 => .er x s w1
  | .no => .no
theorem sd_raise (hc : X.calm = true) (T : PySem.ErrX.ErrTxt X.K X.mg cn qn C fI) (hr : Room k X.A) (tk : Takes X W) (ha : PE X e (lE X.mg W A)) (hg : Gl X cn) (hdb : (cn == ("__debug__" : Str)) = false)
    (he : starEach (e :: []) X.env = (false, eval e X.env) :: starEach [] X.env := by rfl) (hpl : (backTo pos (starEach [] X.env)).any (·.1) = false := by rfl) :
    PS X (.Raise (some (.Call (.Name cn p) [e] [] pos)) none pos2) (lS X.mg W (sRaise cn A)) := weakS (ps_raiseE hc T hr tk (pa_cons ha pa_nil he) hg hdb he hpl) fun D σ H h => by
  obtain ⟨wa, Hf, sD, w, H0, Hf0, g, b, hs, ho, h⟩ := h
  refine ⟨wa, Hf, sD, w, b, hs, ?_⟩
  unfold sRaise at h
  cases ea : A sD w with
  | no => rw [ea] at h; exact h
  | er x w1 =>
    rw [ea] at h
    exact fun H1 Hf1 g1 b1 cls dx ev => h σ H1 Hf1 cls dx (g.trans g1) g1.ex b1 (hs.go g1) ho ev
  | ok d w1 =>
    rw [ea] at h
    intro H1 Hf1 g1 b1 v rv
    refine ⟨v, rfl, fun q hq => ?_⟩
    have x2 : Ex Hf1 (upd Hf1 q (.xd [(("part" : Str), v)])) := Ex.new (Evl.fresh_back b1.ex hq)
    have g2 := g1.trans (Go.newF (o := .xd [(("part" : Str), v)]) b1.ex hq)
    exact h σ _ _ (.ref C) (some q) (g.trans g2) (g1.ex.trans x2) (b1.newF hq) (hs.go g2) ho ⟨C, q, [(("part" : Str), v)], T.gC, rfl, rfl, upd_same, rfl, .cons (rv.mono x2) .nil⟩
/-- try: .. except C as n: return n.part == "..": the rest goes on -/
def sTryEq (i : Nat) (S : DS) (cn : Str) (val : Str) : DS := fun s w => match S s w with
  | .er ⟨nm, [(f, .str y)]⟩ s1 w1 => if nm = cn ∧ f = "part" ∧ i < s1.length then .rt (.bl (decide (y = val))) w1 else .no
  | .er _ _ _ => .no
  | o => o
theorem sd_tryEq {S : DS} {n val : Str} {i k1 : Nat} {body : List Stmt} {np p1 p2 p3 p4 p5 pos' : Pos} (T : PySem.ErrX.ErrTxt X.K X.mg cn qn C fI) (hs : X.stack = X.env :: X.outer) (hf : X.env.frame = some X.env.locals) (hN : X.N.Nodup) (hi : X.N[i]? = some n) (hln : X.env.kindOf n = some .local) (hc : Names X cn (.ref C)) (tk : Takes X W)
    (hv : Vis X.env.scope n) (hd : (n == ("__debug__" : Str)) = false) (hd2 : (n == ("__classdict__" : Str)) = false)
    (hb : ∀ (W : WX) (pn : List (Addr × Obj)) (xe : Value → Shared → Prop), Takes (X.tr pn xe) W → PSs (X.tr pn xe) body (lS X.mg W S)) :
    PS X (.Try body [.ExceptHandler (some (.Name cn np)) (some n) [.Return (some (.Compare (.Attribute (.Name n p1) "part" p2) [.Eq] [.Constant (.str val) k1 p3] p4)) p5] pos'] [] [] pos) (lS X.mg W (sTryEq i S cn val)) :=
  weakS (ps_try_as (i := i) (tb := fun W => lS X.mg W S) (ts := fun a cls d => tRet (tOp rEq (tErrPart C a cls d (tVar i)) (tC (.str val)))) (Wout := W) hs hf hN hi hln hc tk (fun W pn xe tk _ => hb W pn xe tk)
    (fun a oe cls d pn hz hf => pss_one (ps_ret (pe_cmpR op_eq (pe_part T hz hf (pe_var hi hv hd hd2)) pe_str (nomark _))))) fun D σ H h => by
  obtain ⟨wa, Hf, sD, w, H0, Hf0, g, b, hs, ho, h⟩ := h
  refine ⟨wa, Hf, sD, w, H0, Hf0, g, b, hs, ho, ?_⟩
  unfold sTryEq at h
  cases eS : S sD w with
  | nx s1 w1 => rw [eS] at h; exact h
  | rt d w1 => rw [eS] at h; exact h
  | bk s1 w1 => rw [eS] at h; exact h
  | ct s1 w1 => rw [eS] at h; exact h
  | no => rw [eS] at h; exact h
  | er x s1 w1 =>
    rw [eS] at h
    obtain ⟨nm, fs⟩ := x
    rcases fs with _ | ⟨⟨f, d0⟩, _ | ⟨q, r⟩⟩
    · exact h.elim
    · cases d0 with
      | str y =>
        dsimp only at h
        split at h
        · rename_i hh
          obtain ⟨rfl, rfl, hl⟩ := hh
          intro σ1 H1 Hf1 cls dx g1 x1 b1 hs1 ho1 ev
          obtain ⟨C1, d, vs, e1, rfl, rfl, e4, e5, e6⟩ := ev
          have eC : C1 = C := by
            have := e1.symm.trans T.gC
            cases this
            rfl
          subst eC
          obtain ⟨v, rfl, rv⟩ : ∃ v, vs = [(("part" : Str), v)] ∧ Rep wa Hf1 v (.str y) := by
            cases vs with
            | nil => cases e5
            | cons q r =>
              obtain ⟨qn, qv⟩ := q
              cases r with
              | nil =>
                cases e5
                cases e6 with
                | cons r1 r2 => exact ⟨qv, rfl, r1⟩
              | cons _ _ => cases e5
          cases rv
          have hil : i < σ1.length := by rw [hs1.len]; exact hl
          refine ⟨true, T.te, fun _ a ha => ⟨.ref a, List.getElem?_set_self hil, rfl, rfl, d, _, rfl, b1.ex _ _ e4, rfl, ?_⟩, fun z => by cases z⟩
          refine h H1 Hf1 _ g1 b1 ?_
          have e : decide (V.str y = V.str val) = decide (y = val) := by simp
          rw [e]
          exact .bl _
        · exact h.elim
      | _ => exact h.elim
    · cases d0 <;> exact h.elim
end
end DL

set_option maxHeartbeats 2000000
namespace DL
open PySem PySem.Spec PyProof.Rows L2
variable [TabT] [OldT]
/-! ### the same with errors: X (of expressions), Y (of statements) say what is wished of them -/
section
variable {α β : Type} {a : α} {w : Wl} {Q P : α → Wl → Prop} {s : Sl} {A B C : DE} {As Bs : DA} {S T : DT} {f g : Wl → D → D → Option D} {U V : DS} {N N' : Sl → Wl → Prop} {Z Z' : D → Wl → Prop} {i n k : Nat} {X : Exn → Wl → Prop} {Y : Exn → Sl → Wl → Prop}
def okX (X : Exn → Wl → Prop) (r : R α) (Q : α → Wl → Prop) : Prop := match r with
  | .ok a w => Q a w
  | .er x w => X x w
  | .no => False
@[simp] theorem xE_ok : okX X (.ok a w) Q = Q a w := rfl
@[simp] theorem xE_no : okX X (.no) Q = False := rfl
@[simp] theorem xE_er {x : Exn} : okX X (.er x w) Q = X x w := rfl
theorem xE_bind {r : R α} {k : α → Wl → R β} {Q : β → Wl → Prop} : okX X (r.bind k) Q = okX X r (fun a w => okX X (k a w) Q) := by cases r <;> rfl
@[simp] theorem xE_noer {r : R α} : okX X r.noer Q = okE r Q := by cases r <;> rfl
@[simp] theorem xE_opt {o : Option α} : okX X (opt o w) Q = okO o fun z => Q z w := by cases o <;> rfl
@[simp] theorem xE_ite {c : Prop} [Decidable c] {r r' : R α} : okX X (if c then r else r') Q = if c then okX X r Q else okX X r' Q := by split <;> rfl
theorem xE_of {r : R α} (h : okE r Q) : okX X r Q := by
  cases r with
  | ok a w => exact h
  | er _ _ => exact h.elim
  | no => exact h
theorem xE_err {r : R α} {x : Exn} (h : okX (fun y w' => y = x ∧ w' = w) r fun _ _ => False) : r = .er x w := by
  cases r with
  | ok a w => exact h.elim
  | er _ _ => obtain ⟨rfl, rfl⟩ := h; rfl
  | no => exact h.elim
variable {Q : D → Wl → Prop} {QA : List D → Wl → Prop} {QT : Bool → Wl → Prop}
@[simp] theorem xE_var : okX X (eVar i s w) Q = okO (getS s i) fun d => Q d w := by unfold eVar; cases getS s i <;> rfl
@[simp] theorem xE_c {d : D} : okX X (eC d s w) Q = Q d w := rfl
@[simp] theorem xE_bin : okX X (eBin f A B s w) Q = okX X (A s w) fun x w1 => okX X (B s w1) fun y w2 => okO (f w2 x y) fun z => Q z w2 := by unfold eBin; simp only [xE_bind, xE_opt]
@[simp] theorem xE_un {f : Wl → D → Option D} : okX X (eUn f A s w) Q = okX X (A s w) fun x w1 => okO (f w1 x) fun z => Q z w1 := by unfold eUn; simp only [xE_bind, xE_opt]
@[simp] theorem xE_cb {f : Wl → List D → Option D} : okX X (eCB f As s w) Q = okX X (As s w) fun x w1 => okO (f w1 x) fun z => Q z w1 := by unfold eCB; simp only [xE_bind, xE_opt]
@[simp] theorem xE_cbl {f : Wl → List D → Option (List D)} : okX X (eCBL f As s w) QA = okX X (As s w) fun x w1 => okO (f w1 x) fun z => QA z w1 := by unfold eCBL; simp only [xE_bind, xE_opt]
@[simp] theorem xE_l : okX X (eL As s w) Q = okX X (As s w) fun x w1 => Q (.lst x) w1 := by unfold eL; simp only [xE_bind, xE_ok]
@[simp] theorem xE_nil : okX X (aNil s w) QA = QA [] w := rfl
@[simp] theorem xE_cons : okX X (aCons A As s w) QA = okX X (A s w) fun x w1 => okX X (As s w1) fun xs w2 => QA (x :: xs) w2 := by unfold aCons; simp only [xE_bind, xE_ok]
@[simp] theorem xE_tup : okX X (eTup As s w) Q = okX X (As s w) fun xs w1 => xs.length ≤ lim ∧ Q (.tup xs) w1 := by
  unfold eTup; simp only [xE_bind]; congr; funext xs w1; split <;> simp [*]
@[simp] theorem xE_lst : okX X (aLst As s w) QA = okX X (As s w) fun xs w1 => xs.length ≤ lim ∧ QA xs w1 := by
  unfold aLst; simp only [xE_bind]; congr; funext xs w1; split <;> simp [*]
@[simp] theorem xE_call {F : DF} : okX X (eCall n F As s w) Q = okX X (As s w) fun ds w1 => ds.length = n ∧ okX X (F ds w1) Q := by
  unfold eCall; simp only [xE_bind]; congr; funext xs w1; split <;> simp [*]
@[simp] theorem xE_callK {F : DF} {m : Nat} {π : List Nat} : okX X (eCallK m n k π F As Bs s w) Q = okX X (As s w) fun ds w1 => okX X (Bs s w1) fun zs w2 => (ds.length = n ∧ zs.length = k ∧ (permute π (ds ++ zs)).length = m) ∧ okX X (F (permute π (ds ++ zs)) w2) Q := by
  unfold eCallK; simp only [xE_bind]; congr; funext xs w1; congr; funext ys w2; split <;> simp [*]
@[simp] theorem xE_if : okX X (eIf T A B s w) Q = okX X (T s w) fun k w1 => if k = true then okX X (A s w1) Q else okX X (B s w1) Q := by
  unfold eIf; simp only [xE_bind]; congr; funext k w1; cases k <;> rfl
@[simp] theorem xE_and : okX X (eAnd A B s w) Q = okX X (A s w) fun x w1 => okB x fun k => if k = true then okX X (B s w1) Q else Q (.bl false) w1 := by
  unfold eAnd; simp only [xE_bind]; congr; funext x w1; cases x <;> try rfl
  rename_i b; cases b <;> rfl
@[simp] theorem xE_or : okX X (eOr A B s w) Q = okX X (A s w) fun x w1 => okB x fun k => if k = true then Q (.bl true) w1 else okX X (B s w1) Q := by
  unfold eOr; simp only [xE_bind]; congr; funext x w1; cases x <;> try rfl
  rename_i b; cases b <;> rfl
@[simp] theorem xE_not : okX X (eNot A s w) Q = okX X (A s w) fun x w1 => okB x fun k => Q (.bl (!k)) w1 := by
  unfold eNot; simp only [xE_bind]; congr; funext x w1; cases x <;> rfl
@[simp] theorem xE_chain : okX X (eChain f g A B C s w) Q = okX X (A s w) fun x w1 => okX X (B s w1) fun y w2 => okO (f w2 x y) fun z => okB z fun k => if k = true then okX X (C s w2) fun u w4 => okO (g w4 y u) fun v => Q v w4 else Q (.bl false) w2 := by
  unfold eChain; simp only [xE_bind, xE_opt]; congr; funext x w1; congr; funext y w2; congr; funext z; cases z <;> try rfl
  rename_i b; cases b
  · rfl
  · simp only [xE_bind, xE_opt]; rfl
@[simp] theorem xT_e : okX X (tE A s w) QT = okX X (A s w) fun x w1 => okB x fun k => QT k w1 := by
  unfold tE; simp only [xE_bind]; congr; funext x w1; cases x <;> rfl
@[simp] theorem xT_an : okX X (tAn S T s w) QT = okX X (S s w) fun k w1 => if k = true then okX X (T s w1) QT else QT false w1 := by
  unfold tAn; simp only [xE_bind]; congr; funext k w1; cases k <;> rfl
@[simp] theorem xT_on : okX X (tOn S T s w) QT = okX X (S s w) fun k w1 => if k = true then QT true w1 else okX X (T s w1) QT := by
  unfold tOn; simp only [xE_bind]; congr; funext k w1; cases k <;> rfl
@[simp] theorem xT_no : okX X (tNo S s w) QT = okX X (S s w) fun k w1 => QT (!k) w1 := by unfold tNo; simp only [xE_bind, xE_ok]
@[simp] theorem xT_tr : okX X (tTr A s w) QT = okX X (A s w) fun x w1 => okO (truD x) fun k => QT k w1 := by unfold tTr; simp only [xE_bind, xE_opt]
@[simp] theorem xT_yes : okX X (tYesD s w) QT = QT true w := rfl
@[simp] theorem xE_rev : okX X (eRev A s w) Q = okX X (A s w) fun x w1 => match x with
    | .lst xs => Q (.lst xs.reverse) w1
    | .tup xs => Q (.tup xs.reverse) w1
    | _ => False := by unfold eRev; simp only [xE_bind]; congr; funext x w1; cases x <;> rfl
@[simp] theorem xI_seq : okX X (iSeq A s w) QA = okX X (A s w) fun x w1 => okO (seqD x) fun p => QA p.2 w1 := by unfold iSeq; simp only [xE_bind]; congr; funext x w1; cases x <;> rfl
@[simp] theorem xI_rng1 : okX X (iRng1 As s w) QA = okX X (As s w) fun xs w1 => okO (rng1D xs) fun ds => QA ds w1 := by
  unfold iRng1; simp only [xE_bind]; congr; funext xs w1
  rcases xs with _ | ⟨x, _ | ⟨y, xs⟩⟩ <;> try rfl
  · cases x <;> try rfl
    simp only [rng1D, xE_ite, okO_ite, xE_ok, xE_no, okO_some]
    split <;> simp [*]
  · cases x <;> rfl
@[simp] theorem xI_rng2 : okX X (iRng2 As s w) QA = okX X (As s w) fun xs w1 => okO (rng2D xs) fun ds => QA ds w1 := by
  unfold iRng2; simp only [xE_bind]; congr; funext xs w1
  rcases xs with _ | ⟨x, _ | ⟨y, _ | ⟨z, xs⟩⟩⟩ <;> try rfl
  · cases x <;> rfl
  · cases x <;> try rfl
    cases y <;> try rfl
    simp only [rng2D, xE_ite, okO_ite, xE_ok, xE_no, okO_some]
    split <;> simp [*]
  · cases x <;> try rfl
    cases y <;> rfl
@[simp] theorem xI_enum : okX X (iEnum As s w) QA = okX X (As s w) fun xs w1 => okO (enm1D xs) fun ds => QA ds w1 := by
  unfold iEnum; simp only [xE_bind]; congr; funext xs w1
  rcases xs with _ | ⟨x, _ | ⟨y, xs⟩⟩ <;> try rfl
  · cases x <;> rfl
  · cases x <;> rfl
@[simp] theorem xI_zip : okX X (iZip As s w) QA = okX X (As s w) fun xs w1 => okO (zip2D xs) fun ds => QA ds w1 := by
  unfold iZip; simp only [xE_bind]; congr; funext xs w1
  rcases xs with _ | ⟨x, _ | ⟨y, _ | ⟨z, _ | ⟨u, xs⟩⟩⟩⟩ <;> try rfl
  · show okX X (match seqD x, seqD y with | some (_, ds), some (_, es) => R.ok (zipD ds es) w1 | _, _ => R.no) QA = okO ((seqD x).bind fun p => (seqD y).bind fun q => some (zipD p.2 q.2)) _
    cases seqD x <;> cases seqD y <;> rfl
  · show okX X (match seqD x, seqD y, seqD z with | some (_, ds), some (_, es), some (_, fs) => R.ok (zip3D ds es fs) w1 | _, _, _ => R.no) QA = okO ((seqD x).bind fun p => (seqD y).bind fun q => (seqD z).bind fun r => some (zip3D p.2 q.2 r.2)) _
    cases seqD x <;> cases seqD y <;> cases seqD z <;> rfl
@[simp] theorem xE_lc {I : DI} {G : DG} {vs : List Nat} : okX X (aLc I G T A vs s w) QA = okX X (I s w) fun ds w1 => ds.length ≤ lim ∧ okE (lcD G T A ds (wipeS s vs) w1) QA := by
  unfold aLc; simp only [xE_bind]; congr; funext xs w1; split <;> simp [*]
def okY (Y : Exn → Sl → Wl → Prop) (r : RS) (N : Sl → Wl → Prop) (Z : D → Wl → Prop) : Prop := match r with
  | .nx s w => N s w
  | .rt d w => Z d w
  | .er x s w => Y x s w
  | _ => False
@[simp] theorem xS_nx : okY Y (.nx s w) N Z = N s w := rfl
@[simp] theorem xS_rt {d : D} : okY Y (.rt d w) N Z = Z d w := rfl
@[simp] theorem xS_no : okY Y .no N Z = False := rfl
@[simp] theorem xS_sNx : okY Y (sNx s w) N Z = N s w := rfl
@[simp] theorem xS_never : okY Y (sNever s w) N Z = False := rfl
@[simp] theorem xS_seq : okY Y (sSeq U V s w) N Z = okY Y (U s w) (fun s1 w1 => okY Y (V s1 w1) N Z) Z := by unfold sSeq; cases U s w <;> rfl
@[simp] theorem xS_asg : okY Y (sAsg i A s w) N Z = okX (fun x w1 => Y x s w1) (A s w) fun d w1 => N (s.set i (some d)) w1 := by unfold sAsg; cases A s w <;> rfl
@[simp] theorem xS_new : okY Y (sNew i As s w) N Z = okX (fun x w1 => Y x s w1) (As s w) fun d w1 => N (s.set i (some (.own d))) w1 := by unfold sNew; cases As s w <;> rfl
@[simp] theorem xS_tg {G : DG} : okY Y (sTg G A s w) N Z = okX (fun x w1 => Y x s w1) (A s w) fun d w1 => okO (G d s) fun s1 => N s1 w1 := by
  unfold sTg
  cases A s w with
  | ok d w1 => simp only [xE_ok]; cases G d s <;> rfl
  | er _ _ => rfl
  | no => rfl
@[simp] theorem xS_drop : okY Y (sDrop A s w) N Z = okX (fun x w1 => Y x s w1) (A s w) fun _ w1 => N s w1 := by unfold sDrop; cases A s w <;> rfl
@[simp] theorem xS_if : okY Y (sIf T U V s w) N Z = okX (fun x w1 => Y x s w1) (T s w) fun k w1 => if k = true then okY Y (U s w1) N Z else okY Y (V s w1) N Z := by
  unfold sIf
  cases T s w with
  | ok k w1 => cases k <;> rfl
  | er _ _ => rfl
  | no => rfl
@[simp] theorem xS_ret : okY Y (sRet A s w) N Z = okX (fun x w1 => Y x s w1) (A s w) Z := by unfold sRet; cases A s w <;> rfl
@[simp] theorem xS_app : okY Y (sApp i A s w) N Z = okOwn s[i]? fun xs => okX (fun x w1 => Y x s w1) (A s w) fun d w1 => xs.length < lim ∧ N (s.set i (some (.own (xs ++ [d])))) w1 := by
  unfold sApp
  cases h : s[i]? with
  | none => rfl
  | some o =>
    cases o with
    | none => rfl
    | some d =>
      cases d <;> try rfl
      rename_i xs
      simp only [okOwn_own]
      cases A s w with
      | ok d w1 => simp only [xE_ok]; split <;> simp [*]
      | er _ _ => rfl
      | no => rfl
@[simp] theorem xS_frz : okY Y (sFrz i U s w) N Z = okY Y (U (frzS i s) w) N Z := rfl
@[simp] theorem xS_setW : okY Y (sSetW A B C s w) N Z = okX (fun x w1 => Y x s w1) (C s w) fun d w1 => okX (fun x w1 => Y x s w1) (A s w1) fun x w2 => okX (fun x w1 => Y x s w1) (B s w2) fun k w3 => match d, x, k with
    | .int z, .well, .int k => okO (setW w3 k z) fun w4 => N s w4
    | _, _, _ => False := by
  unfold sSetW
  cases C s w with
  | er _ _ => rfl
  | no => rfl
  | ok d w1 =>
    simp only [R.bind_ok, xE_ok]
    cases A s w1 with
    | er _ _ => rfl
    | no => rfl
    | ok x w2 =>
      simp only [R.bind_ok, xE_ok]
      cases B s w2 with
      | er _ _ => rfl
      | no => rfl
      | ok k w3 =>
        simp only [R.bind_ok, xE_ok]
        cases d <;> try rfl
        cases x <;> try rfl
        cases k <;> try rfl
        rename_i z k
        cases h : setW w3 k z <;> simp [h] <;> rfl
@[simp] theorem xE_mval : okX X (mVal A As s w) QA = okX X (A s w) fun x w1 => okX X (As s w1) fun xs w2 => QA (x :: xs) w2 := by unfold mVal; simp only [xE_bind, xE_ok]
@[simp] theorem xE_mown : okX X (mOwn Bs As s w) QA = okX X (Bs s w) fun x w1 => okX X (As s w1) fun xs w2 => QA (.own x :: xs) w2 := by unfold mOwn; simp only [xE_bind, xE_ok]
@[simp] theorem xS_mul {is : List Nat} : okY Y (sMul is As s w) N Z = okX (fun x w1 => Y x s w1) (As s w) fun ds w1 => okO (putS s is ds) fun s1 => N s1 w1 := by
  unfold sMul
  cases As s w with
  | ok d w1 => simp only [xE_ok]; cases putS s is d <;> rfl
  | er _ _ => rfl
  | no => rfl
@[simp] theorem xS_for {I : DI} {G : DG} : okY Y (sFor I G U s w) N Z = okX (fun x w1 => Y x s w1) (I s w) fun ds w1 => okY Y (loopD G U ds s w1) N Z := by unfold sFor; cases I s w <;> rfl
theorem xS_mono {r : RS} (h : okS r N Z) (i : ∀ s w, N s w → N' s w) (j : ∀ d w, Z d w → Z' d w) : okS r N' Z' := by
  cases r with
  | nx s w => exact i _ _ h
  | rt d w => exact j _ _ h
  | _ => exact h
theorem xE_run {B : DS} {ds : List D} {X : Exn → Wl → Prop} : okX X (runB n k B ds w) Q = (ds.length = k ∧ okY (fun x _ w1 => X x w1) (B (ds.map some ++ List.replicate (n - k) none) w) (fun _ w1 => Q .non w1) Q) := by
  unfold runB
  by_cases h : ds.length = k
  · rw [if_pos h]
    simp only [h, true_and]
    cases B (ds.map some ++ List.replicate (n - k) none) w <;> rfl
  · rw [if_neg h]
    simp [h]
@[simp] theorem okS_raise {cn : Str} : okS (sRaise cn A s w) N Z = False := by unfold sRaise; cases A s w <;> rfl
@[simp] theorem xS_raise {cn : Str} : okY Y (sRaise cn A s w) N Z = okX (fun x w1 => Y x s w1) (A s w) fun d w1 => Y ⟨cn, [("part", d)]⟩ s w1 := by unfold sRaise; cases A s w <;> rfl
def caught (i : Nat) (cn val : Str) (Z : D → Wl → Prop) : Exn → Sl → Wl → Prop := fun x s1 w1 => match x with
  | ⟨nm, [(f, .str y)]⟩ => (nm = cn ∧ f = "part" ∧ i < s1.length) ∧ Z (.bl (decide (y = val))) w1
  | _ => False
theorem try_one {cn val : Str} {r : RS} : okY Y (match r with
    | .er ⟨nm, [(f, .str y)]⟩ s1 w1 => if nm = cn ∧ f = "part" ∧ i < s1.length then .rt (.bl (decide (y = val))) w1 else .no
    | .er _ _ _ => .no
    | o => o) N Z = okY (caught i cn val Z) r N Z := by
  cases r with
  | er x s1 w1 =>
    obtain ⟨nm, fs⟩ := x
    rcases fs with _ | ⟨⟨f, d0⟩, _ | ⟨q, r⟩⟩
    · rfl
    · cases d0 with
      | str y =>
        show okY Y (if nm = cn ∧ f = "part" ∧ i < s1.length then RS.rt (.bl (decide (y = val))) w1 else .no) N Z = ((nm = cn ∧ f = "part" ∧ i < s1.length) ∧ Z (.bl (decide (y = val))) w1)
        split <;> simp [*] <;> rfl
      | _ => rfl
    · cases d0 <;> rfl
  | _ => rfl
@[simp] theorem xS_try {cn val : Str} : okY Y (sTryEq i U cn val s w) N Z = okY (caught i cn val Z) (U s w) N Z := try_one
theorem okS_eq {r : RS} : okS r N Z = okY (fun _ _ _ => False) r N Z := by cases r <;> rfl
@[simp] theorem okS_try {cn val : Str} : okS (sTryEq i U cn val s w) N Z = okY (caught i cn val Z) (U s w) N Z := by rw [okS_eq]; exact try_one
@[simp] theorem caught_part {cn val nm : Str} {y : Str} {s1 : Sl} : caught i cn val Z ⟨nm, [("part", .str y)]⟩ s1 w = ((nm = cn ∧ i < s1.length) ∧ Z (.bl (decide (y = val))) w) := by
  unfold caught
  simp
end
end DL

set_option maxHeartbeats 2000000
namespace DL
open PySem PySem.Spec PyProof.Rows L2
variable [TabT] [OldT]
open Evl (Ex)
/-! ### sum(lists, a list) -/
theorem args_sum2 (a b : Value) : argsOk "sum" ⟨[a, b], []⟩ := by unfold argsOk; kernel_rfl
theorem sub_lbs : isSubtype (.type "list") (.type "bytes") = pure false := by rw [isSubtype_type]; kernel_rfl
theorem sub_lba : isSubtype (.type "list") (.type "bytearray") = pure false := by rw [isSubtype_type]; kernel_rfl
theorem sub_lst : isSubtype (.type "list") (.type "str") = pure false := by rw [isSubtype_type]; kernel_rfl
/-- what is summed of so many -/
def accL (start : List Value) (its : Nat → List Value) (i : Nat) : List Value := start ++ (List.range i).flatMap its
theorem accL_succ {start : List Value} {its : Nat → List Value} {i : Nat} : accL start its (i + 1) = accL start its i ++ its i := by
  unfold accL
  rw [List.range_succ, List.flatMap_append, List.append_assoc]
  simp
section
variable {prog : Program} {w : World} {A : Around} {R : Result → Shared → Prop}
theorem sum_loopL (hh : A.in1.handled = none) {I l S : Addr} (hne : l ≠ I) (hSI : S ≠ I) (hSl : S ≠ l) (items : Array Value) {start : List Value} {its : Nat → List Value} {h0 : Heap}
    (hval : ∀ i v, items[i]? = some v → ∃ b c, v = .ref b ∧ b ≠ I ∧ b ≠ S ∧ IsL h0 b (its i).toArray c) (hz : ∀ i, i ≤ items.size → (accL start its i).length ≤ sizeLine) :
    ∀ (k i : Nat) (s : Shared) (T : Addr) (c cT : Nat), items.size - i = k → i ≤ items.size → s.heap.IsListIter I l i → s.heap.IsList l items → (∀ b o, b ≠ I → b ≠ S → h0.get? b = some o → s.heap.get? b = some o) →
    s.heap.get? S = some { cls := .type "list", dict := none, data := .seq #[.ref T] c, slots := #[] } → T ≠ I → T ≠ S → IsL s.heap T (accL start its i).toArray cT →
    (∀ h' tk T' c', (∀ b o, b ≠ I → b ≠ S → s.heap.get? b = some o → h'.get? b = some o) → IsL h' T' (accL start its items.size).toArray c' → (T' = T ∧ i = items.size ∨ s.heap.get? T' = none) → R (.ok (.ret (.ref T'))) { s with heap := h', toks := tk }) →
    codeAny (model prog w) A (.builtin "sum.loop" ⟨[.ref I, .ref S, rawInt 2, rawInt 0], []⟩) R s := by
  have W := Walks.list (prog := prog) (w := w) (A := A.in1) hh I l hne items
  intro k
  induction k with
  | zero =>
    intro i s T c cT hk hi hit hl hkp hS hTI hTS hT hR
    have hin : i = items.size := by omega
    subst hin
    refine codeAny_builtin F.entry_sum_loop ?_
    rw [Around.under_plainId F.plain_sum_loop _]
    show wpAny _ A.in1 (seqItems? (.ref S) >>= _) _ _ s
    refine wpAny_bind (wpAny_seqItems hS rfl ?_)
    show wpAny _ A.in1 (tryCatch (pyNext (.ref I)) _ >>= _) _ _ s
    refine wpAny_bind (wpAny_tryCatch (W.done s _ _ ⟨hit, hl⟩ fun h' tk hk' => ?_))
    have hk2 : ∀ b o, b ≠ I → s.heap.get? b = some o → h'.get? b = some o := fun b o hb e => hk' b o (fun z => hb (List.mem_singleton.mp z)) e
    exact wpAny_pure (hR h' tk T cT (fun b o hb _ e => hk2 b o hb e) (hk2 T _ hTI hT) (.inl ⟨rfl, rfl⟩))
  | succ k ih =>
    intro i s T c cT hk hi hit hl hkp hS hTI hTS hT hR
    have hlt : i < items.size := by omega
    refine codeAny_builtin F.entry_sum_loop ?_
    rw [Around.under_plainId F.plain_sum_loop _]
    show wpAny _ A.in1 (seqItems? (.ref S) >>= _) _ _ s
    refine wpAny_bind (wpAny_seqItems hS rfl ?_)
    show wpAny _ A.in1 (tryCatch (pyNext (.ref I)) _ >>= _) _ _ s
    refine wpAny_bind (wpAny_tryCatch (W.item i s _ _ hlt ⟨hit, hl⟩ fun v h' tk hP hst' hk' => ?_))
    have hk2 : ∀ b o, b ≠ I → s.heap.get? b = some o → h'.get? b = some o := fun b o hb e => hk' b o (fun z => hb (List.mem_singleton.mp z)) e
    obtain ⟨b, cb, rfl, hbI, hbS, hb⟩ := hval i v hP
    have hS' := hk2 S _ hSI hS
    have hT' := hk2 T _ hTI hT
    have hb' := hk2 b _ hbI (hkp b _ hbI hbS hb)
    have hacc : (accL start its i).toArray ++ (its i).toArray = (accL start its (i + 1)).toArray := by rw [accL_succ]; simp
    have hzz : (accL start its i).toArray.size + (its i).toArray.size ≤ sizeLine := by
      have := hz (i + 1) hlt
      rw [accL_succ, List.length_append] at this
      simpa using this
    show wpAny _ A.in1 ((holding [Value.ref b] (binaryOp .Add (.ref T) (.ref b))).attempt >>= _) _ _ _
    refine wpAny_bind (wpAny_attempt (wpAny_holding (PySem.P.add_list (s := { s with heap := h', toks := tk }) hT' hb' ?_ hzz)))
    rw [hacc]
    obtain ⟨h1, hh1⟩ : ∃ h1, h1 = h'.push { cls := .type "list", data := .seq (accL start its (i + 1)).toArray } := ⟨_, rfl⟩
    have k1 : ∀ b o, h'.get? b = some o → h1.get? b = some o := fun b o e => by rw [hh1]; exact Heap.get?_push_of_some _ e
    have hN : h1.get? h'.objs.size = some { cls := .type "list", data := .seq (accL start its (i + 1)).toArray } := by rw [hh1]; exact Heap.get?_push_size _ rfl
    have hNI : h'.objs.size ≠ I := by
      obtain ⟨o, ho, _⟩ := hst'.1
      exact Ne.symm (Nat.ne_of_lt (Heap.lt_size ho))
    have hNS : h'.objs.size ≠ S := Ne.symm (Nat.ne_of_lt (Heap.lt_size hS'))
    have hS1 := k1 S _ hS'
    show wpAny _ A.in1 (updateSeq S (fun _ => #[.ref h'.objs.size]) >>= _) _ _ { s with heap := h'.push { cls := .type "list", data := .seq (accL start its (i + 1)).toArray }, toks := tk }
    rw [← hh1]
    refine wpAny_bind ?_
    refine wpAny_updateSeq hS1 rfl ?_
    have hS2 := Heap.get?_update_self (Obj.mapSeq fun _ => #[Value.ref h'.objs.size]) hS1 rfl
    refine wpAny_bind (wpAny_letGo ?_)
    refine wpAny_bind ?_
    have k2 : ∀ b o, b ≠ S → h1.get? b = some o → ((h1.update S (Obj.mapSeq fun _ => #[Value.ref h'.objs.size])).update S (Obj.mapSeq fun _ => #[Value.ref h'.objs.size])).get? b = some o := fun b o hb e =>
      (Heap.get?_update_other _ _ (Ne.symm hb)).trans ((Heap.get?_update_other _ _ (Ne.symm hb)).trans e)
    have key : ∀ (b o), b ≠ I → b ≠ S → s.heap.get? b = some o → ((h1.update S (Obj.mapSeq fun _ => #[Value.ref h'.objs.size])).update S (Obj.mapSeq fun _ => #[Value.ref h'.objs.size])).get? b = some o := fun b o b1 b2 e => k2 b o b2 (k1 b o (hk2 b o b1 e))
    refine wpAny_updateSeq hS2 rfl (wpAny_pure ⟨plainId_quiet F.plain_sum_loop _, ih (i + 1) _ h'.objs.size _ 0 (by omega) hlt (hst'.1.at fun o e => k2 I o (Ne.symm hSI) (k1 I o e)) (hst'.2.at fun o e => k2 l o (Ne.symm hSl) (k1 l o e)) (fun b o b1 b2 e => key b o b1 b2 (hkp b o b1 b2 e)) (Heap.get?_update_self _ hS2 rfl) hNI hNS (k2 _ _ hNS hN) fun h'' tk'' T'' c'' hk'' hT'' hn'' => ?_⟩)
    refine hR h'' tk'' T'' c'' (fun b o b1 b2 e => hk'' b o b1 b2 (key b o b1 b2 e)) hT'' (.inr ?_)
    have hnone : ∀ z : Addr, h'.get? z = none → z ≠ I → s.heap.get? z = none := fun z hz2 hzI => by
      cases e : s.heap.get? z with
      | none => rfl
      | some o =>
        have := hk2 z o hzI e
        rw [hz2] at this
        cases this
    rcases hn'' with ⟨e1, _⟩ | e1
    · rw [e1]
      refine hnone _ ?_ hNI
      cases e : h'.get? h'.objs.size with
      | none => rfl
      | some o => exact absurd (Heap.lt_size e) (Nat.lt_irrefl _)
    · cases e : s.heap.get? T'' with
      | none => rfl
      | some o =>
        exfalso
        have e1' : ((h1.update S (Obj.mapSeq fun _ => #[Value.ref h'.objs.size])).update S (Obj.mapSeq fun _ => #[Value.ref h'.objs.size])).get? T'' = none := e1
        by_cases hTI' : T'' = I
        · obtain ⟨o', ho', _⟩ := hst'.1
          have := k2 I o' (Ne.symm hSI) (k1 I o' ho')
          rw [← hTI', e1'] at this
          cases this
        · by_cases hTS' : T'' = S
          · have := Heap.get?_update_self (Obj.mapSeq fun _ => #[Value.ref h'.objs.size]) hS2 rfl
            rw [hTS', this] at e1'
            cases e1'
          · have := key T'' o hTI' hTS' e
            rw [e1'] at this
            cases this
end
theorem ltn {h : Heap} {a : Addr} {o : Obj} (e : h.get? a = some o) : @LT.lt Nat instLTNat a h.objs.size := Heap.lt_size e
section
variable {prog : Program} {w : World} {A : Around} {E : Value → Shared → Prop} {s : Shared}
theorem call_sum_lists (hh : A.in1.handled = none) {l b : Addr} {items : Array Value} {start : List Value} {cb : Nat} {its : Nat → List Value} {Q : Value → Shared → Prop} (hl : s.heap.IsList l items) (hb : IsL s.heap b start.toArray cb)
    (hval : ∀ i v, items[i]? = some v → ∃ b c, v = .ref b ∧ IsL s.heap b (its i).toArray c) (hz : ∀ i, i ≤ items.size → (accL start its i).length ≤ sizeLine)
    (h : ∀ h' tk T c, (∀ a o, s.heap.get? a = some o → h'.get? a = some o) → IsL h' T (accL start its items.size).toArray c → (T = b ∧ items.size = 0 ∨ s.heap.get? T = none) → Q (.ref T) { s with heap := h', toks := tk }) :
    wpAny (model prog w) A (call (.builtin "sum") [.ref l, .ref b]) Q E s := by
  refine call_function_tree F.kind_sum F.plain_sum F.entry_sum (args_sum2 _ _) ?_
  unfold Builtin.«sum»
  simp only [List.length_cons, List.length_nil]
  rw [if_neg (by decide)]
  refine wpAny_bind (wpAny_of_eq (show Builtin.Builtins.bindParams "sum" ["start"] 0 ⟨[.ref b], []⟩ = pure [some (.ref b)] from rfl) ?_)
  refine wpAny_bind (wpAny_pyIter_list hl ?_)
  refine wpAny_bind (wpAny_pure ?_)
  have hlt : @LT.lt Nat instLTNat l s.heap.objs.size := by obtain ⟨o, e, _⟩ := hl; exact Heap.lt_size e
  have hbt := ltn hb
  obtain ⟨h1, hh1⟩ : ∃ h1, h1 = s.heap.push { cls := .type "list_iterator", data := .fields #[.ref l, .int 0 0] } := ⟨_, rfl⟩
  have k1 : ∀ a o, s.heap.get? a = some o → h1.get? a = some o := fun a o e => by rw [hh1]; exact Heap.get?_push_of_some _ e
  have z1 : h1.objs.size = s.heap.objs.size + 1 := by rw [hh1]; exact Heap.size_push ..
  have hit : h1.IsListIter s.heap.objs.size l 0 := by rw [hh1]; exact ⟨_, Heap.get?_push_size _ rfl, rfl, rfl⟩
  have hb1 := k1 b _ hb
  have hTy : ({ s with heap := h1 } : Shared).TypeIs (.ref b) "list" := ⟨_, hb1, rfl⟩
  rw [← hh1]
  simp only [List.forIn_cons, List.forIn_nil]
  refine wpAny_bind (wpAny_bind (wpAny_bind (wpAny_isInstance (T := "list") (b := false) hTy sub_lst ?_)))
  simp only [Bool.false_eq_true, if_false]
  refine wpAny_pure (wpAny_bind (wpAny_bind (wpAny_isInstance (T := "list") (b := false) hTy sub_lbs ?_)))
  simp only [Bool.false_eq_true, if_false]
  refine wpAny_pure (wpAny_bind (wpAny_bind (wpAny_isInstance (T := "list") (b := false) hTy sub_lba ?_)))
  simp only [Bool.false_eq_true, if_false]
  refine wpAny_pure (wpAny_pure ?_)
  refine wpAny_bind (wpAny_newObj_type ?_)
  have hS9 : ∀ a : Addr, @LT.lt Nat instLTNat a s.heap.objs.size → a ≠ h1.objs.size := fun a q => by rw [z1]; exact Nat.ne_of_lt (Nat.lt_succ_of_lt q)
  have hSI : h1.objs.size ≠ s.heap.objs.size := by rw [z1]; exact Nat.succ_ne_self _
  have hSl : h1.objs.size ≠ l := Ne.symm (hS9 l hlt)
  refine wpAny_pure ⟨plainId_quiet F.plain_sum_loop _, sum_loopL hh (I := s.heap.objs.size) (l := l) (S := h1.objs.size) (Nat.ne_of_lt hlt) hSI hSl items (start := start) (its := its) (h0 := s.heap) (fun i v hv => ?_) hz items.size 0 _ b 0 cb rfl (Nat.zero_le _)
    (hit.at fun o e => Heap.get?_push_of_some _ e) (hl.at fun o e => Heap.get?_push_of_some _ (k1 _ o e)) (fun a o _ _ e => Heap.get?_push_of_some _ (k1 a o e)) (Heap.get?_push_size _ rfl) (Nat.ne_of_lt hbt) (hS9 b hbt) ?_ fun h' tk T' c' hk hT' hn => ?_⟩
  · obtain ⟨b', c, e1, e2⟩ := hval i v hv
    have := ltn e2
    exact ⟨b', c, e1, Nat.ne_of_lt this, hS9 b' this, e2⟩
  · show IsL _ b (accL start its 0).toArray cb
    have : accL start its 0 = start := by simp [accL]
    rw [this]
    exact Heap.get?_push_of_some _ hb1
  · refine h h' tk T' c' (fun a o e => hk a o (Nat.ne_of_lt (Heap.lt_size e)) (hS9 a (ltn e)) (Heap.get?_push_of_some _ (k1 a o e))) hT' ?_
    rcases hn with ⟨e1, e2⟩ | e
    · exact .inl ⟨e1, e2.symm⟩
    · refine .inr ?_
      cases e3 : s.heap.get? T' with
      | none => rfl
      | some o =>
        have := Heap.get?_push_of_some { cls := .type "list", data := .seq #[.ref b] } (k1 T' o e3)
        rw [this] at e
        cases e
end
/-! ### the rule -/
theorem objok_some {P : Program} {w : World} {H : Hp} {h : Heap} {a : Addr} {o : HO} (x : ObjOk P w H h a o) : ∃ u, h.get? a = some u := by
  cases o with
  | lst xs => obtain ⟨_, _, _, _, e⟩ := x; exact ⟨_, e⟩
  | tup xs => obtain ⟨_, _, _, p⟩ := x; exact ⟨_, p.choose_spec.1⟩
  | dK kvs => obtain ⟨_, _, _, _, o, _, _, e, _⟩ := x; exact ⟨_, e⟩
  | dT kvs => obtain ⟨_, _, _, _, o, _, _, e, _⟩ := x; exact ⟨_, e⟩
  | set S n => obtain ⟨o, _, _, _, e, _⟩ := x; exact ⟨_, e⟩
  | ins C dx fs => obtain ⟨_, _, _, e, _⟩ := x; exact ⟨_, e⟩
  | own y => obtain ⟨_, e⟩ := x; exact ⟨_, e⟩
  | xd fs => obtain ⟨_, ⟨_, _, _, e, _⟩, _⟩ := x; exact ⟨_, e⟩
  | rng lo hi => obtain ⟨_, _, _, e⟩ := x; exact ⟨_, e⟩
  | frz ob u => obtain ⟨e, _⟩ := x; exact ⟨_, e⟩
  | tbl ps => exact ⟨_, show h.get? a = some _ from x⟩
  | met f y => exact ⟨_, show h.get? a = some _ from x⟩
  | ext φ => obtain ⟨_, ⟨_, e⟩, _⟩ := x; exact ⟨_, e⟩
def rSumL : List V → Hp → VK → Prop := fun vs H Q => ∃ (a b : Addr) (ps : List V) (zss : List (List V)), vs = [.ref a, .ref b] ∧ H a = some (.lst ps) ∧ H b = some (.lst []) ∧ ps.length = zss.length ∧ (∀ (i : Nat) (v : V), ps[i]? = some v → ∃ p, v = .ref p ∧ H p = some (.lst (zss.getD i []))) ∧ zss.flatten.length ≤ sizeLine ∧
  (ps = [] → Q (.ref b) H) ∧ ∀ p, H p = none → Q (.ref p) (upd H p (.lst zss.flatten))
theorem vals_acc {f : Nat → List Value} {zss : List (List V)} (h : ∀ i, i < zss.length → Vals (zss.getD i []) (f i)) : ∀ n, n ≤ zss.length → Vals ((zss.take n).flatten) (accL [] f n)
  | 0, _ => .nil
  | n + 1, hn => by
    have hlt : n < zss.length := hn
    rw [accL_succ, List.take_succ, List.getElem?_eq_getElem hlt, List.flatten_append]
    refine (vals_acc h n (Nat.le_of_succ_le hn)).append ?_
    have := h n hlt
    rw [List.getD_eq_getElem?_getD, List.getElem?_eq_getElem hlt] at this
    simpa using this
theorem take_len {zss : List (List V)} (n : Nat) : (zss.take n).flatten.length ≤ zss.flatten.length := by
  conv => rhs; rw [← List.take_append_drop n zss, List.flatten_append, List.length_append]
  omega
theorem cr_sumL {X : Cx} (hc : X.calm = true) : CallR X (.builtin "sum") rSumL := by
  intro pins s σ H vs us Q I r h
  obtain ⟨a, b, ps, zss, rfl, ha, hb, hlen, hps, hz, q0, q⟩ := h
  obtain ⟨za, its, na, ra, hla, ea⟩ := I.lstM ha
  obtain ⟨zb, itb, nb, rb, hlb, eb⟩ := I.lstM hb
  have hb0 : itb = [] := by cases rb; rfl
  subst hb0
  have hus : us = [.ref a, .ref b] := by
    cases r with
    | cons r1 t =>
      cases t with
      | cons r2 t2 =>
        cases t2
        cases r1
        cases r2
        rfl
  subst hus
  have hch : ∀ i : Nat, ∃ w : List Value, ∀ v, its[i]? = some v → Vals (zss.getD i []) w ∧ ∃ p c, v = .ref p ∧ IsL s.heap p w.toArray c := fun i => by
    cases e : ps[i]? with
    | none =>
      have := ra.none_of e
      exact ⟨[], fun v hv => by rw [this] at hv; cases hv⟩
    | some v =>
      obtain ⟨p, rfl, hp⟩ := hps i v e
      obtain ⟨zp, w, np, rp, hlp, ep⟩ := I.lstM hp
      obtain ⟨u, hu, ru⟩ := ra.get e
      refine ⟨w, fun v' hv' => ?_⟩
      rw [hu] at hv'
      cases hv'
      cases ru
      exact ⟨rp, p, np, rfl, ep⟩
  obtain ⟨f, hf⟩ := Classical.axiomOfChoice hch
  have hn : its.length = zss.length := hla.symm.trans hlen
  have hv : ∀ i, i < zss.length → Vals (zss.getD i []) (f i) := fun i hi => (hf i its[i] (List.getElem?_eq_getElem (by omega))).1
  have hacc := fun n hn => vals_acc hv n hn
  refine call_sum_lists (s := s) (I.ok.hd hc) (items := its.toArray) (start := []) (cb := nb) (its := f) ⟨_, ea, rfl, na, rfl⟩ eb (fun i v hvi => ?_) (fun i hi => ?_) fun h' tk T c hk hT hd => ?_
  · have hvi' : its[i]? = some v := by simpa using hvi
    obtain ⟨_, p, c, e1, e2⟩ := hf i v hvi'
    exact ⟨p, c, e1, e2⟩
  · have hi' : i ≤ zss.length := by rw [← hn]; simpa using hi
    rw [← (hacc i hi').length]
    exact Nat.le_trans (take_len i) hz
  · have hT' : IsL h' T (accL [] f zss.length).toArray c := by
      have : its.toArray.size = zss.length := by simpa using hn
      rw [this] at hT
      exact hT
    have hfl := hacc zss.length (Nat.le_refl _)
    rw [List.take_length] at hfl
    rcases hd with ⟨rfl, e⟩ | e
    · have he : ps = [] := by
        have : its.length = 0 := by simpa using e
        exact List.length_eq_zero_iff.mp (by omega)
      exact ⟨.ref T, H, I.kept hk, rfl, q0 he⟩
    · have hHn : H T = none := by
        cases e2 : H T with
        | none => rfl
        | some o =>
          obtain ⟨u, hu⟩ := objok_some (I.hok T o e2)
          rw [e] at hu
          cases hu
      exact ⟨.ref T, _, I.laidN (t' := tk) hk e hHn (show ObjOk X.prog X.w _ h' T (.lst zss.flatten) from ⟨hz, _, c, hfl, hT'⟩), rfl, q T hHn⟩
/-! ### by value -/
def lsts? : List D → Option (List (List D))
  | [] => some []
  | .lst xs :: r => (lsts? r).map fun z => xs :: z
  | _ :: _ => none
def fSumL : Wl → List D → Option D := fun _ ds => match ds with
  | [.lst xs, .lst []] => match lsts? xs with
    | some yss => if yss.flatten.length ≤ lim then some (.lst yss.flatten) else none
    | none => none
  | _ => none
theorem lsts_rep {wa : Addr} {Hf : Hp} : ∀ {vs : List V} {ds : List D} {yss : List (List D)}, Reps wa Hf vs ds → lsts? ds = some yss → ∃ zss : List (List V), zss.length = yss.length ∧ vs.length = zss.length ∧ (∀ (i : Nat) (v : V), vs[i]? = some v → ∃ p, v = .ref p ∧ Hf p = some (.lst (zss.getD i []))) ∧ Reps wa Hf zss.flatten yss.flatten
  | [], [], _, _, h => by cases h; exact ⟨[], rfl, rfl, fun i v e => by simp at e, .nil⟩
  | v :: vs, d :: ds, yss, .cons r rs, h => by
    cases d with
    | lst xs =>
      simp only [lsts?] at h
      cases e : lsts? ds with
      | none => rw [e] at h; cases h
      | some z =>
        rw [e] at h
        cases h
        obtain ⟨zss, h1, h2, h3, h4⟩ := lsts_rep rs e
        cases r with
        | lst hp rp =>
          rename_i p us
          refine ⟨us :: zss, by simp [h1], by simp [h2], fun i v e => ?_, ?_⟩
          · cases i with
            | zero => cases e; exact ⟨p, rfl, hp⟩
            | succ i => obtain ⟨p', e1, e2⟩ := h3 i v (by simpa using e); exact ⟨p', e1, by simpa using e2⟩
          · rw [List.flatten_cons, List.flatten_cons]
            exact rp.append h4
    | _ => cases h
theorem cd_sumL : CaD rSumL fSumL := by
  intro wa Hf H w ds us z Q hb rs h q
  unfold fSumL at h
  split at h
  · rename_i xs
    split at h
    · rename_i yss e
      split at h
      · rename_i hz
        cases h
        cases rs with
        | cons r1 r2 =>
          cases r2 with
          | cons r2 r3 =>
            cases r3
            cases r1 with
            | lst h1 p1 =>
              cases r2 with
              | lst h2 p2 =>
                cases p2
                obtain ⟨zss, e1, e2, e3, e4⟩ := lsts_rep p1 e
                refine ⟨_, _, _, zss, rfl, hb.ex _ _ h1, hb.ex _ _ h2, e2, fun i v ev => ?_, by rw [e4.length]; exact lim_le hz, fun e0 => ?_, fun p hp => ?_⟩
                · obtain ⟨p, e5, e6⟩ := e3 i v ev
                  exact ⟨p, e5, hb.ex _ _ e6⟩
                · have hy : yss = [] := by
                    subst e0
                    exact List.length_eq_zero_iff.mp (by simp at e2; omega)
                  subst hy
                  exact q _ _ Go.refl hb _ (.lst h2 .nil)
                · exact q _ _ (Go.newF hb.ex hp) (hb.newF hp) _ (.lst upd_same (e4.mono (Ex.new (Evl.fresh_back hb.ex hp))))
      · cases h
    · cases h
  · cases h
end DL

set_option maxHeartbeats 2000000
namespace DL
open PySem PySem.Spec PyProof.Rows L2
open Evl (Ex)

/-! ### the text -/
variable [TabT] [OldT]
def topS (i : Nat) : Stmt := PySem.Challenge.pw_sectionwise_k33_assignments_with_lists.main.body.getD i (.Pass ⟨0, 0, 0, 0⟩)
abbrev s_is_number : Stmt := topS 8
abbrev s_is_far : Stmt := topS 9
abbrev s_is_triplet : Stmt := topS 10
abbrev s_is_part : Stmt := topS 11
abbrev s_is_kept : Stmt := topS 12
abbrev s_many_of : Stmt := topS 13
abbrev s_subscript_of : Stmt := topS 14
abbrev s_last_of : Stmt := topS 15
abbrev s_subscripts : Stmt := topS 16
abbrev s_lies_between : Stmt := topS 17
abbrev s_is_part_once : Stmt := topS 18
abbrev s_is_range : Stmt := topS 23
abbrev s_is_bounds : Stmt := topS 22
abbrev s_all_extents : Stmt := topS 24
abbrev s_multiplied : Stmt := topS 25
abbrev s_size_of : Stmt := topS 26
abbrev s_weights : Stmt := topS 27
abbrev s_many_in : Stmt := topS 29
abbrev s_is_section : Stmt := topS 28
abbrev s_shape_of : Stmt := topS 30
abbrev s_has_each_once : Stmt := topS 31
abbrev s_places_of : Stmt := topS 32
abbrev s_check_bounds : Stmt := topS 33
abbrev s_check_section : Stmt := topS 34
abbrev s_check_both : Stmt := topS 35
abbrev s_check_contents : Stmt := topS 38
abbrev s_done : Stmt := topS 39
abbrev s_w_draw : Stmt := topS 42
abbrev s_w_pick : Stmt := topS 43
abbrev s_w_run : Stmt := topS 44
abbrev s_w_elements : Stmt := topS 45
abbrev s_w_place : Stmt := topS 46
abbrev s_w_side : Stmt := topS 47
abbrev s_w_right : Stmt := topS 48
abbrev s_w_long_right : Stmt := topS 49
abbrev s_w_well : Stmt := topS 41
abbrev s_law : Stmt := topS 50
abbrev N_is_number : List Str := ["value"]
abbrev P_is_number : List Str := ["value"]
theorem sc_is_number : FnScope N_is_number P_is_number (defScope s_is_number) := ⟨rfl, rfl, rfl, by decide +kernel, rfl, by decide +kernel, by decide +kernel⟩
abbrev N_is_far : List Str := ["value"]
abbrev P_is_far : List Str := ["value"]
theorem sc_is_far : FnScope N_is_far P_is_far (defScope s_is_far) := ⟨rfl, rfl, rfl, by decide +kernel, rfl, by decide +kernel, by decide +kernel⟩
abbrev N_is_triplet : List Str := ["value", "number"]
abbrev P_is_triplet : List Str := ["value"]
theorem sc_is_triplet : FnScope N_is_triplet P_is_triplet (defScope s_is_triplet) := ⟨rfl, rfl, rfl, by decide +kernel, rfl, by decide +kernel, by decide +kernel⟩
abbrev N_is_part : List Str := ["value", "number"]
abbrev P_is_part : List Str := ["value"]
theorem sc_is_part : FnScope N_is_part P_is_part (defScope s_is_part) := ⟨rfl, rfl, rfl, by decide +kernel, rfl, by decide +kernel, by decide +kernel⟩
abbrev N_is_kept : List Str := ["part"]
abbrev P_is_kept : List Str := ["part"]
theorem sc_is_kept : FnScope N_is_kept P_is_kept (defScope s_is_kept) := ⟨rfl, rfl, rfl, by decide +kernel, rfl, by decide +kernel, by decide +kernel⟩
abbrev N_many_of : List Str := ["part", "first", "last", "step"]
abbrev P_many_of : List Str := ["part"]
theorem sc_many_of : FnScope N_many_of P_many_of (defScope s_many_of) := ⟨rfl, rfl, rfl, by decide +kernel, rfl, by decide +kernel, by decide +kernel⟩
abbrev N_subscript_of : List Str := ["part", "index"]
abbrev P_subscript_of : List Str := ["part", "index"]
theorem sc_subscript_of : FnScope N_subscript_of P_subscript_of (defScope s_subscript_of) := ⟨rfl, rfl, rfl, by decide +kernel, rfl, by decide +kernel, by decide +kernel⟩
abbrev N_last_of : List Str := ["part"]
abbrev P_last_of : List Str := ["part"]
theorem sc_last_of : FnScope N_last_of P_last_of (defScope s_last_of) := ⟨rfl, rfl, rfl, by decide +kernel, rfl, by decide +kernel, by decide +kernel⟩
abbrev N_subscripts : List Str := ["part", "index"]
abbrev P_subscripts : List Str := ["part"]
theorem sc_subscripts : FnScope N_subscripts P_subscripts (defScope s_subscripts) := ⟨rfl, rfl, rfl, by decide +kernel, rfl, by decide +kernel, by decide +kernel⟩
abbrev N_lies_between : List Str := ["part", "low", "high", "ends", "number"]
abbrev P_lies_between : List Str := ["part", "low", "high"]
theorem sc_lies_between : FnScope N_lies_between P_lies_between (defScope s_lies_between) := ⟨rfl, rfl, rfl, by decide +kernel, rfl, by decide +kernel, by decide +kernel⟩
abbrev N_is_part_once : List Str := ["part"]
abbrev P_is_part_once : List Str := ["part"]
theorem sc_is_part_once : FnScope N_is_part_once P_is_part_once (defScope s_is_part_once) := ⟨rfl, rfl, rfl, by decide +kernel, rfl, by decide +kernel, by decide +kernel⟩
abbrev N_is_range : List Str := ["value", "number"]
abbrev P_is_range : List Str := ["value"]
theorem sc_is_range : FnScope N_is_range P_is_range (defScope s_is_range) := ⟨rfl, rfl, rfl, by decide +kernel, rfl, by decide +kernel, by decide +kernel⟩
abbrev N_is_bounds : List Str := ["value", "pair"]
abbrev P_is_bounds : List Str := ["value"]
theorem sc_is_bounds : FnScope N_is_bounds P_is_bounds (defScope s_is_bounds) := ⟨rfl, rfl, rfl, by decide +kernel, rfl, by decide +kernel, by decide +kernel⟩
abbrev N_all_extents : List Str := ["bounds", "low", "high"]
abbrev P_all_extents : List Str := ["bounds"]
theorem sc_all_extents : FnScope N_all_extents P_all_extents (defScope s_all_extents) := ⟨rfl, rfl, rfl, by decide +kernel, rfl, by decide +kernel, by decide +kernel⟩
abbrev N_multiplied : List Str := ["numbers", "made", "number"]
abbrev P_multiplied : List Str := ["numbers"]
theorem sc_multiplied : FnScope N_multiplied P_multiplied (defScope s_multiplied) := ⟨rfl, rfl, rfl, by decide +kernel, rfl, by decide +kernel, by decide +kernel⟩
abbrev N_size_of : List Str := ["bounds"]
abbrev P_size_of : List Str := ["bounds"]
theorem sc_size_of : FnScope N_size_of P_size_of (defScope s_size_of) := ⟨rfl, rfl, rfl, by decide +kernel, rfl, by decide +kernel, by decide +kernel⟩
abbrev N_weights : List Str := ["bounds", "told", "weight", "extent"]
abbrev P_weights : List Str := ["bounds"]
theorem sc_weights : FnScope N_weights P_weights (defScope s_weights) := ⟨rfl, rfl, rfl, by decide +kernel, rfl, by decide +kernel, by decide +kernel⟩
abbrev N_many_in : List Str := ["section", "part"]
abbrev P_many_in : List Str := ["section"]
theorem sc_many_in : FnScope N_many_in P_many_in (defScope s_many_in) := ⟨rfl, rfl, rfl, by decide +kernel, rfl, by decide +kernel, by decide +kernel⟩
abbrev N_is_section : List Str := ["bounds", "value", "part", "low", "high"]
abbrev P_is_section : List Str := ["bounds", "value"]
theorem sc_is_section : FnScope N_is_section P_is_section (defScope s_is_section) := ⟨rfl, rfl, rfl, by decide +kernel, rfl, by decide +kernel, by decide +kernel⟩
abbrev N_shape_of : List Str := ["section", "part"]
abbrev P_shape_of : List Str := ["section"]
theorem sc_shape_of : FnScope N_shape_of P_shape_of (defScope s_shape_of) := ⟨rfl, rfl, rfl, by decide +kernel, rfl, by decide +kernel, by decide +kernel⟩
abbrev N_has_each_once : List Str := ["section", "part"]
abbrev P_has_each_once : List Str := ["section"]
theorem sc_has_each_once : FnScope N_has_each_once P_has_each_once (defScope s_has_each_once) := ⟨rfl, rfl, rfl, by decide +kernel, rfl, by decide +kernel, by decide +kernel⟩
abbrev N_places_of : List Str := ["bounds", "section", "found", "part", "low", "_", "weight", "jumps", "number", "jump", "place"]
abbrev P_places_of : List Str := ["bounds", "section"]
theorem sc_places_of : FnScope N_places_of P_places_of (defScope s_places_of) := ⟨rfl, rfl, rfl, by decide +kernel, rfl, by decide +kernel, by decide +kernel⟩
abbrev N_check_bounds : List Str := ["bounds"]
abbrev P_check_bounds : List Str := ["bounds"]
theorem sc_check_bounds : FnScope N_check_bounds P_check_bounds (defScope s_check_bounds) := ⟨rfl, rfl, rfl, by decide +kernel, rfl, by decide +kernel, by decide +kernel⟩
abbrev N_check_section : List Str := ["bounds", "section", "name"]
abbrev P_check_section : List Str := ["bounds", "section", "name"]
theorem sc_check_section : FnScope N_check_section P_check_section (defScope s_check_section) := ⟨rfl, rfl, rfl, by decide +kernel, rfl, by decide +kernel, by decide +kernel⟩
abbrev N_check_both : List Str := ["bounds", "one", "other"]
abbrev P_check_both : List Str := ["bounds", "one", "other"]
theorem sc_check_both : FnScope N_check_both P_check_both (defScope s_check_both) := ⟨rfl, rfl, rfl, by decide +kernel, rfl, by decide +kernel, by decide +kernel⟩
abbrev N_check_contents : List Str := ["bounds", "contents"]
abbrev P_check_contents : List Str := ["bounds", "contents"]
theorem sc_check_contents : FnScope N_check_contents P_check_contents (defScope s_check_contents) := ⟨rfl, rfl, rfl, by decide +kernel, rfl, by decide +kernel, by decide +kernel⟩
abbrev N_done : List Str := ["bounds", "one", "other", "contents", "told", "to", "source"]
abbrev P_done : List Str := ["bounds", "one", "other", "contents"]
theorem sc_done : FnScope N_done P_done (defScope s_done) := ⟨rfl, rfl, rfl, by decide +kernel, rfl, by decide +kernel, by decide +kernel⟩
abbrev N_w_draw : List Str := ["_law_well_here", "_law_many", "_law_digit", "_law_drawn"]
abbrev P_w_draw : List Str := ["_law_well_here", "_law_many"]
theorem sc_w_draw : FnScope N_w_draw P_w_draw (defScope s_w_draw) := ⟨rfl, rfl, rfl, by decide +kernel, rfl, by decide +kernel, by decide +kernel⟩
abbrev N_w_pick : List Str := ["_law_well_here", "_law_some"]
abbrev P_w_pick : List Str := ["_law_well_here", "_law_some"]
theorem sc_w_pick : FnScope N_w_pick P_w_pick (defScope s_w_pick) := ⟨rfl, rfl, rfl, by decide +kernel, rfl, by decide +kernel, by decide +kernel⟩
abbrev N_w_run : List Str := ["_law_well_here", "_law_many", "_law_top", "_law_step", "_law_left", "_law_some", "_law_turn", "_law_low", "_law_k"]
abbrev P_w_run : List Str := ["_law_well_here", "_law_many", "_law_top"]
theorem sc_w_run : FnScope N_w_run P_w_run (defScope s_w_run) := ⟨rfl, rfl, rfl, by decide +kernel, rfl, by decide +kernel, by decide +kernel⟩
abbrev N_w_elements : List Str := ["_law_rows", "_law_found", "_law_row", "_law_rest", "_law_subscript"]
abbrev P_w_elements : List Str := ["_law_rows"]
theorem sc_w_elements : FnScope N_w_elements P_w_elements (defScope s_w_elements) := ⟨rfl, rfl, rfl, by decide +kernel, rfl, by decide +kernel, by decide +kernel⟩
abbrev N_w_place : List Str := ["_law_bounds", "_law_spot", "_law_found", "_law_by", "_law_number", "_law_low", "_law_high"]
abbrev P_w_place : List Str := ["_law_bounds", "_law_spot"]
theorem sc_w_place : FnScope N_w_place P_w_place (defScope s_w_place) := ⟨rfl, rfl, rfl, by decide +kernel, rfl, by decide +kernel, by decide +kernel⟩
abbrev N_w_side : List Str := ["_law_well_here", "_law_sizes", "_law_tops", "_law_is_read", "_law_parts", "_law_rows", "_law_at", "_law_shape_so", "_law_k", "_law_top", "_law_spot", "_law_part", "_law_row"]
abbrev P_w_side : List Str := ["_law_well_here", "_law_sizes", "_law_tops", "_law_is_read"]
theorem sc_w_side : FnScope N_w_side P_w_side (defScope s_w_side) := ⟨rfl, rfl, rfl, by decide +kernel, rfl, by decide +kernel, by decide +kernel⟩
abbrev N_w_right : List Str := ["_law_well_here", "_law_k", "_law_tops", "_law_sizes", "_law_left", "_law_goals", "_law_right_here", "_law_spots", "_law_top", "_law_bounds", "_law_many", "_law_cells", "_law_due", "_law_saved", "_law_goal", "_law_spot", "_law_told", "_law_part", "_law_twice", "e"]
abbrev P_w_right : List Str := ["_law_well_here"]
theorem sc_w_right : FnScope N_w_right P_w_right (defScope s_w_right) := ⟨rfl, rfl, rfl, by decide +kernel, rfl, by decide +kernel, by decide +kernel⟩
abbrev N_w_long_right : List Str := ["_law_well_here", "_law_many", "_law_top", "_law_left", "_law_goals", "_law_turn", "_law_spots", "_law_cells", "_law_due", "_law_goal", "_law_spot", "e"]
abbrev P_w_long_right : List Str := ["_law_well_here"]
theorem sc_w_long_right : FnScope N_w_long_right P_w_long_right (defScope s_w_long_right) := ⟨rfl, rfl, rfl, by decide +kernel, rfl, by decide +kernel, by decide +kernel⟩
/-- what the top has written -/
structure Txt (K : PySem.W.Frag) (mg : Str → Option Value) where
  a_is_number : Addr
  d_is_number : FuncData
  F_is_number : Fun K "is_number" "is_number" s_is_number a_is_number d_is_number
  g_is_number : mg "is_number" = some (.ref a_is_number)
  a_is_far : Addr
  d_is_far : FuncData
  F_is_far : Fun K "is_far" "is_far" s_is_far a_is_far d_is_far
  g_is_far : mg "is_far" = some (.ref a_is_far)
  a_is_triplet : Addr
  d_is_triplet : FuncData
  F_is_triplet : Fun K "is_triplet" "is_triplet" s_is_triplet a_is_triplet d_is_triplet
  g_is_triplet : mg "is_triplet" = some (.ref a_is_triplet)
  a_is_part : Addr
  d_is_part : FuncData
  F_is_part : Fun K "is_part" "is_part" s_is_part a_is_part d_is_part
  g_is_part : mg "is_part" = some (.ref a_is_part)
  a_is_kept : Addr
  d_is_kept : FuncData
  F_is_kept : Fun K "is_kept" "is_kept" s_is_kept a_is_kept d_is_kept
  g_is_kept : mg "is_kept" = some (.ref a_is_kept)
  a_many_of : Addr
  d_many_of : FuncData
  F_many_of : Fun K "many_of" "many_of" s_many_of a_many_of d_many_of
  g_many_of : mg "many_of" = some (.ref a_many_of)
  a_subscript_of : Addr
  d_subscript_of : FuncData
  F_subscript_of : Fun K "subscript_of" "subscript_of" s_subscript_of a_subscript_of d_subscript_of
  g_subscript_of : mg "subscript_of" = some (.ref a_subscript_of)
  a_last_of : Addr
  d_last_of : FuncData
  F_last_of : Fun K "last_of" "last_of" s_last_of a_last_of d_last_of
  g_last_of : mg "last_of" = some (.ref a_last_of)
  a_subscripts : Addr
  d_subscripts : FuncData
  F_subscripts : Fun K "subscripts" "subscripts" s_subscripts a_subscripts d_subscripts
  g_subscripts : mg "subscripts" = some (.ref a_subscripts)
  a_lies_between : Addr
  d_lies_between : FuncData
  F_lies_between : Fun K "lies_between" "lies_between" s_lies_between a_lies_between d_lies_between
  g_lies_between : mg "lies_between" = some (.ref a_lies_between)
  a_is_part_once : Addr
  d_is_part_once : FuncData
  F_is_part_once : Fun K "is_part_once" "is_part_once" s_is_part_once a_is_part_once d_is_part_once
  g_is_part_once : mg "is_part_once" = some (.ref a_is_part_once)
  a_is_range : Addr
  d_is_range : FuncData
  F_is_range : Fun K "is_range" "is_range" s_is_range a_is_range d_is_range
  g_is_range : mg "is_range" = some (.ref a_is_range)
  a_is_bounds : Addr
  d_is_bounds : FuncData
  F_is_bounds : Fun K "is_bounds" "is_bounds" s_is_bounds a_is_bounds d_is_bounds
  g_is_bounds : mg "is_bounds" = some (.ref a_is_bounds)
  a_all_extents : Addr
  d_all_extents : FuncData
  F_all_extents : Fun K "all_extents" "all_extents" s_all_extents a_all_extents d_all_extents
  g_all_extents : mg "all_extents" = some (.ref a_all_extents)
  a_multiplied : Addr
  d_multiplied : FuncData
  F_multiplied : Fun K "multiplied" "multiplied" s_multiplied a_multiplied d_multiplied
  g_multiplied : mg "multiplied" = some (.ref a_multiplied)
  a_size_of : Addr
  d_size_of : FuncData
  F_size_of : Fun K "size_of" "size_of" s_size_of a_size_of d_size_of
  g_size_of : mg "size_of" = some (.ref a_size_of)
  a_weights : Addr
  d_weights : FuncData
  F_weights : Fun K "weights" "weights" s_weights a_weights d_weights
  g_weights : mg "weights" = some (.ref a_weights)
  a_many_in : Addr
  d_many_in : FuncData
  F_many_in : Fun K "many_in" "many_in" s_many_in a_many_in d_many_in
  g_many_in : mg "many_in" = some (.ref a_many_in)
  a_is_section : Addr
  d_is_section : FuncData
  F_is_section : Fun K "is_section" "is_section" s_is_section a_is_section d_is_section
  g_is_section : mg "is_section" = some (.ref a_is_section)
  a_shape_of : Addr
  d_shape_of : FuncData
  F_shape_of : Fun K "shape_of" "shape_of" s_shape_of a_shape_of d_shape_of
  g_shape_of : mg "shape_of" = some (.ref a_shape_of)
  a_has_each_once : Addr
  d_has_each_once : FuncData
  F_has_each_once : Fun K "has_each_once" "has_each_once" s_has_each_once a_has_each_once d_has_each_once
  g_has_each_once : mg "has_each_once" = some (.ref a_has_each_once)
  a_places_of : Addr
  d_places_of : FuncData
  F_places_of : Fun K "places_of" "places_of" s_places_of a_places_of d_places_of
  g_places_of : mg "places_of" = some (.ref a_places_of)
  a_check_bounds : Addr
  d_check_bounds : FuncData
  F_check_bounds : Fun K "check_bounds" "check_bounds" s_check_bounds a_check_bounds d_check_bounds
  g_check_bounds : mg "check_bounds" = some (.ref a_check_bounds)
  a_check_section : Addr
  d_check_section : FuncData
  F_check_section : Fun K "check_section" "check_section" s_check_section a_check_section d_check_section
  g_check_section : mg "check_section" = some (.ref a_check_section)
  a_check_both : Addr
  d_check_both : FuncData
  F_check_both : Fun K "check_both" "check_both" s_check_both a_check_both d_check_both
  g_check_both : mg "check_both" = some (.ref a_check_both)
  a_check_contents : Addr
  d_check_contents : FuncData
  F_check_contents : Fun K "check_contents" "check_contents" s_check_contents a_check_contents d_check_contents
  g_check_contents : mg "check_contents" = some (.ref a_check_contents)
  a_done : Addr
  d_done : FuncData
  F_done : Fun K "done" "done" s_done a_done d_done
  g_done : mg "done" = some (.ref a_done)
  a_w_draw : Addr
  d_w_draw : FuncData
  F_w_draw : Fun K "_law_draw" "_law_draw" s_w_draw a_w_draw d_w_draw
  g_w_draw : mg "_law_draw" = some (.ref a_w_draw)
  a_w_pick : Addr
  d_w_pick : FuncData
  F_w_pick : Fun K "_law_pick" "_law_pick" s_w_pick a_w_pick d_w_pick
  g_w_pick : mg "_law_pick" = some (.ref a_w_pick)
  a_w_run : Addr
  d_w_run : FuncData
  F_w_run : Fun K "_law_run" "_law_run" s_w_run a_w_run d_w_run
  g_w_run : mg "_law_run" = some (.ref a_w_run)
  a_w_elements : Addr
  d_w_elements : FuncData
  F_w_elements : Fun K "_law_elements" "_law_elements" s_w_elements a_w_elements d_w_elements
  g_w_elements : mg "_law_elements" = some (.ref a_w_elements)
  a_w_place : Addr
  d_w_place : FuncData
  F_w_place : Fun K "_law_place" "_law_place" s_w_place a_w_place d_w_place
  g_w_place : mg "_law_place" = some (.ref a_w_place)
  a_w_side : Addr
  d_w_side : FuncData
  F_w_side : Fun K "_law_side" "_law_side" s_w_side a_w_side d_w_side
  g_w_side : mg "_law_side" = some (.ref a_w_side)
  a_w_right : Addr
  d_w_right : FuncData
  F_w_right : Fun K "_law_right" "_law_right" s_w_right a_w_right d_w_right
  g_w_right : mg "_law_right" = some (.ref a_w_right)
  a_w_long_right : Addr
  d_w_long_right : FuncData
  F_w_long_right : Fun K "_law_long_right" "_law_long_right" s_w_long_right a_w_long_right d_w_long_right
  g_w_long_right : mg "_law_long_right" = some (.ref a_w_long_right)
  a_w_well : Addr
  d_w_well : FuncData
  F_w_well : Fun K "_law_well" "_law_well" s_w_well a_w_well d_w_well
  g_w_well : mg "_law_well" = some (.ref a_w_well)
  a_law : Addr
  d_law : FuncData
  F_law : Fun K "law" "law" s_law a_law d_law
  g_law : mg "law" = some (.ref a_law)
  z_int : mg "int" = none
  z_isinstance : mg "isinstance" = none
  z_bool : mg "bool" = none
  z_tuple : mg "tuple" = none
  z_len : mg "len" = none
  z_all : mg "all" = none
  z_list : mg "list" = none
  z_max : mg "max" = none
  z_range : mg "range" = none
  z_set : mg "set" = none
  z_zip : mg "zip" = none
  z_abs : mg "abs" = none
  z_sum : mg "sum" = none
  z_enumerate : mg "enumerate" = none
  z_str : mg "str" = none
  z_repr : mg "repr" = none
  z_min : mg "min" = none
  C_InvalidSection : Addr
  I_InvalidSection : Addr
  e_InvalidSection : PySem.ErrX.ErrTxt K mg "InvalidSection" "InvalidSection.__init__" C_InvalidSection I_InvalidSection
  t_FAR : Tok
  c_FAR : mg "FAR" = some (.int 1000000000000000000000000000000 t_FAR)
  t_LIST_LIMIT : Tok
  c_LIST_LIMIT : mg "LIST_LIMIT" = some (.int 64 t_LIST_LIMIT)
  t_FARTHEST : Tok
  c_FARTHEST : mg "FARTHEST" = some (.int 500000000000000000000000000000 t_FARTHEST)
  t_DIMENSIONS : Tok
  c_DIMENSIONS : mg "DIMENSIONS" = some (.int 7 t_DIMENSIONS)
  t_PLACES : Tok
  c_PLACES : mg "PLACES" = some (.int 5000 t_PLACES)
section
variable {P : Program} {w : World} {K : PySem.W.Frag} {mg : Str → Option Value} {base : Heap}
theorem b_is_number (T : Txt K mg) : Binds K T.d_is_number ["value"] [] := T.F_is_number.binds fun _ _ _ _ _ _ us hl => match us, hl with | [_], _ => rfl
theorem b_is_far (T : Txt K mg) : Binds K T.d_is_far ["value"] [] := T.F_is_far.binds fun _ _ _ _ _ _ us hl => match us, hl with | [_], _ => rfl
theorem b_is_triplet (T : Txt K mg) : Binds K T.d_is_triplet ["value"] [] := T.F_is_triplet.binds fun _ _ _ _ _ _ us hl => match us, hl with | [_], _ => rfl
theorem b_is_part (T : Txt K mg) : Binds K T.d_is_part ["value"] [] := T.F_is_part.binds fun _ _ _ _ _ _ us hl => match us, hl with | [_], _ => rfl
theorem b_is_kept (T : Txt K mg) : Binds K T.d_is_kept ["part"] [] := T.F_is_kept.binds fun _ _ _ _ _ _ us hl => match us, hl with | [_], _ => rfl
theorem b_many_of (T : Txt K mg) : Binds K T.d_many_of ["part"] [] := T.F_many_of.binds fun _ _ _ _ _ _ us hl => match us, hl with | [_], _ => rfl
theorem b_subscript_of (T : Txt K mg) : Binds K T.d_subscript_of ["part", "index"] [] := T.F_subscript_of.binds fun _ _ _ _ _ _ us hl => match us, hl with | [_, _], _ => rfl
theorem b_last_of (T : Txt K mg) : Binds K T.d_last_of ["part"] [] := T.F_last_of.binds fun _ _ _ _ _ _ us hl => match us, hl with | [_], _ => rfl
theorem b_subscripts (T : Txt K mg) : Binds K T.d_subscripts ["part"] [] := T.F_subscripts.binds fun _ _ _ _ _ _ us hl => match us, hl with | [_], _ => rfl
theorem b_lies_between (T : Txt K mg) : Binds K T.d_lies_between ["part", "low", "high"] [] := T.F_lies_between.binds fun _ _ _ _ _ _ us hl => match us, hl with | [_, _, _], _ => rfl
theorem b_is_part_once (T : Txt K mg) : Binds K T.d_is_part_once ["part"] [] := T.F_is_part_once.binds fun _ _ _ _ _ _ us hl => match us, hl with | [_], _ => rfl
theorem b_is_range (T : Txt K mg) : Binds K T.d_is_range ["value"] [] := T.F_is_range.binds fun _ _ _ _ _ _ us hl => match us, hl with | [_], _ => rfl
theorem b_is_bounds (T : Txt K mg) : Binds K T.d_is_bounds ["value"] [] := T.F_is_bounds.binds fun _ _ _ _ _ _ us hl => match us, hl with | [_], _ => rfl
theorem b_all_extents (T : Txt K mg) : Binds K T.d_all_extents ["bounds"] [] := T.F_all_extents.binds fun _ _ _ _ _ _ us hl => match us, hl with | [_], _ => rfl
theorem b_multiplied (T : Txt K mg) : Binds K T.d_multiplied ["numbers"] [] := T.F_multiplied.binds fun _ _ _ _ _ _ us hl => match us, hl with | [_], _ => rfl
theorem b_size_of (T : Txt K mg) : Binds K T.d_size_of ["bounds"] [] := T.F_size_of.binds fun _ _ _ _ _ _ us hl => match us, hl with | [_], _ => rfl
theorem b_weights (T : Txt K mg) : Binds K T.d_weights ["bounds"] [] := T.F_weights.binds fun _ _ _ _ _ _ us hl => match us, hl with | [_], _ => rfl
theorem b_many_in (T : Txt K mg) : Binds K T.d_many_in ["section"] [] := T.F_many_in.binds fun _ _ _ _ _ _ us hl => match us, hl with | [_], _ => rfl
theorem b_is_section (T : Txt K mg) : Binds K T.d_is_section ["bounds", "value"] [] := T.F_is_section.binds fun _ _ _ _ _ _ us hl => match us, hl with | [_, _], _ => rfl
theorem b_shape_of (T : Txt K mg) : Binds K T.d_shape_of ["section"] [] := T.F_shape_of.binds fun _ _ _ _ _ _ us hl => match us, hl with | [_], _ => rfl
theorem b_has_each_once (T : Txt K mg) : Binds K T.d_has_each_once ["section"] [] := T.F_has_each_once.binds fun _ _ _ _ _ _ us hl => match us, hl with | [_], _ => rfl
theorem b_places_of (T : Txt K mg) : Binds K T.d_places_of ["bounds", "section"] [] := T.F_places_of.binds fun _ _ _ _ _ _ us hl => match us, hl with | [_, _], _ => rfl
theorem b_check_bounds (T : Txt K mg) : Binds K T.d_check_bounds ["bounds"] [] := T.F_check_bounds.binds fun _ _ _ _ _ _ us hl => match us, hl with | [_], _ => rfl
theorem b_check_section (T : Txt K mg) : Binds K T.d_check_section ["bounds", "section", "name"] [] := T.F_check_section.binds fun _ _ _ _ _ _ us hl => match us, hl with | [_, _, _], _ => rfl
theorem b_check_both (T : Txt K mg) : Binds K T.d_check_both ["bounds", "one", "other"] [] := T.F_check_both.binds fun _ _ _ _ _ _ us hl => match us, hl with | [_, _, _], _ => rfl
theorem b_check_contents (T : Txt K mg) : Binds K T.d_check_contents ["bounds", "contents"] [] := T.F_check_contents.binds fun _ _ _ _ _ _ us hl => match us, hl with | [_, _], _ => rfl
theorem b_done (T : Txt K mg) : Binds K T.d_done ["bounds", "one", "other", "contents"] [] := T.F_done.binds fun _ _ _ _ _ _ us hl => match us, hl with | [_, _, _, _], _ => rfl
theorem b_w_draw (T : Txt K mg) : Binds K T.d_w_draw ["_law_well_here", "_law_many"] [] := T.F_w_draw.binds fun _ _ _ _ _ _ us hl => match us, hl with | [_, _], _ => rfl
theorem b_w_pick (T : Txt K mg) : Binds K T.d_w_pick ["_law_well_here", "_law_some"] [] := T.F_w_pick.binds fun _ _ _ _ _ _ us hl => match us, hl with | [_, _], _ => rfl
theorem b_w_run (T : Txt K mg) : Binds K T.d_w_run ["_law_well_here", "_law_many", "_law_top"] [] := T.F_w_run.binds fun _ _ _ _ _ _ us hl => match us, hl with | [_, _, _], _ => rfl
theorem b_w_elements (T : Txt K mg) : Binds K T.d_w_elements ["_law_rows"] [] := T.F_w_elements.binds fun _ _ _ _ _ _ us hl => match us, hl with | [_], _ => rfl
theorem b_w_place (T : Txt K mg) : Binds K T.d_w_place ["_law_bounds", "_law_spot"] [] := T.F_w_place.binds fun _ _ _ _ _ _ us hl => match us, hl with | [_, _], _ => rfl
theorem b_w_side (T : Txt K mg) : Binds K T.d_w_side ["_law_well_here", "_law_sizes", "_law_tops", "_law_is_read"] [] := T.F_w_side.binds fun _ _ _ _ _ _ us hl => match us, hl with | [_, _, _, _], _ => rfl
theorem b_w_right (T : Txt K mg) : Binds K T.d_w_right ["_law_well_here"] [] := T.F_w_right.binds fun _ _ _ _ _ _ us hl => match us, hl with | [_], _ => rfl
theorem b_w_long_right (T : Txt K mg) : Binds K T.d_w_long_right ["_law_well_here"] [] := T.F_w_long_right.binds fun _ _ _ _ _ _ us hl => match us, hl with | [_], _ => rfl
theorem b_w_well (T : Txt K mg) : Binds K T.d_w_well ["_law_cell"] [] := T.F_w_well.binds fun _ _ _ _ _ _ us hl => match us, hl with | [_], _ => rfl
theorem b_law (T : Txt K mg) : Binds K T.d_law ["_law_script"] [] := T.F_law.binds fun _ _ _ _ _ _ us hl => match us, hl with | [_], _ => rfl
def B_is_number : DS := (sRet (eAnd (eCB fIsi (aCons (eVar 0) (aCons (eC (.ty "int")) aNil))) (eNot (eCB fIsi (aCons (eVar 0) (aCons (eC (.ty "bool")) aNil))))))
def F_is_number : DF := runB 1 1 B_is_number
theorem d_is_number (T : Txt K mg) : FnD P w K mg base 1 T.a_is_number T.d_is_number P_is_number F_is_number := fnD T.F_is_number sc_is_number (by decide) B_is_number (fun cdv A outer s H E hr => (sd_one (sd_ret (pd_and (pd_cb call_isiA cd_isi (by rfl) T.z_isinstance (by decide +kernel) (ad_cons (pd_var 0) (ad_cons (pd_ty (by rfl) T.z_int (by decide +kernel)) ad_nil))) (pd_one (pd_not (pd_cb call_isiA cd_isi (by rfl) T.z_isinstance (by decide +kernel) (ad_cons (pd_var 0) (ad_cons (pd_ty (by rfl) T.z_bool (by decide +kernel)) ad_nil)))))))))
def B_is_far : DS := (sRet (eAnd (eCall 1 F_is_number (aCons (eVar 0) aNil)) (eChain fLe fLe (eUn fNeg (eC (.int 1000000000000000000000000000000))) (eVar 0) (eC (.int 1000000000000000000000000000000)))))
def F_is_far : DF := runB 1 1 B_is_far
theorem d_is_far (T : Txt K mg) : FnD P w K mg base 2 T.a_is_far T.d_is_far P_is_far F_is_far := fnD T.F_is_far sc_is_far (by decide) B_is_far (fun cdv A outer s H E hr => (sd_one (sd_ret (pd_and (by refine pd_call (k := 1) (f := T.a_is_number) (fd := T.d_is_number) (ps := P_is_number) (F := F_is_number) ?_ ?_ ?_ ?_ ?_ ?_ ?_ ?_; exact d_is_number T; exact hr.mono (by decide); exact rfl; exact T.g_is_number; exact T.F_is_number.kp; exact b_is_number T; exact (wok_takes (takes_of rfl rfl rfl rfl)); exact (ad_cons (pd_var 0) ad_nil)) (pd_one (pd_chain op_le op_le opd_cmp opd_cmp (pd_neg (pd_globI (by rfl) T.c_FAR)) (pd_var 0) (pd_globI (by rfl) T.c_FAR)))))))
def B_is_triplet : DS := (sSeq (sIf (tOn (tNo (tTr (eCB fIsi (aCons (eVar 0) (aCons (eC (.ty "tuple")) aNil))))) (tE (eBin fNe (eCB fLen (aCons (eVar 0) aNil)) (eC (.int 3))))) (sRet (eC (.bl false))) sNx) (sRet (eAnd (eCB fAll (aCons (eL (aLc (iSeq (eVar 0)) (gN 1) tYesD (eCall 1 F_is_far (aCons (eVar 1) aNil)) [1])) aNil)) (eBin fNe (eBin fIx (eVar 0) (eC (.int 2))) (eC (.int 0))))))
def F_is_triplet : DF := runB 2 1 B_is_triplet
theorem d_is_triplet (T : Txt K mg) : FnD P w K mg base 3 T.a_is_triplet T.d_is_triplet P_is_triplet F_is_triplet := fnD T.F_is_triplet sc_is_triplet (by decide) B_is_triplet (fun cdv A outer s H E hr => (sd_cons (sd_if (qd_or (qd_not (qd_tr (pd_cb call_isiA cd_isi (by rfl) T.z_isinstance (by decide +kernel) (ad_cons (pd_var 0) (ad_cons (pd_ty (by rfl) T.z_tuple (by decide +kernel)) ad_nil))))) (qd_or1 (qd_ne hr.units (pd_cb call_len cd_len (by rfl) T.z_len (by decide +kernel) (ad_cons (pd_var 0) ad_nil)) pd_int))).pt (sd_one (sd_ret pd_bl)) sd_nil) (sd_one (sd_ret (pd_and (pd_cb (cr_all rfl) cd_all (by rfl) T.z_all (by decide +kernel) (ad_cons (pd_L (pl_lc (own := [("number", 1)]) rfl sc_is_triplet.nd (id_seq (pd_var 0)) (blkOk_by (own := [("number", 1)]) (N := N_is_triplet) (sc := defScope s_is_triplet) (by decide +kernel)) (fun _ _ _ _ _ => (gd_name (i := 1) sc_is_triplet.nd rfl (by first | exact Or.inl rfl | exact Or.inr rfl) (by decide))) (fun _ _ _ _ _ => td_nil) (fun _ _ _ _ _ => (by refine pd_call (k := 2) (f := T.a_is_far) (fd := T.d_is_far) (ps := P_is_far) (F := F_is_far) ?_ ?_ ?_ ?_ ?_ ?_ ?_ ?_; exact d_is_far T; exact hr.mono (by decide); exact rfl; exact T.g_is_far; exact T.F_is_far.kp; exact b_is_far T; exact wok0; exact (ad_cons (pd_var 1) ad_nil))))) ad_nil)) (pd_one (pd_ne hr.units (pd_ix (pd_var 0) pd_int) pd_int)))))))
def B_is_part : DS := (sSeq (sIf (tTr (eCB fIsi (aCons (eVar 0) (aCons (eC (.ty "list")) aNil)))) (sRet (eAnd (eBin fLe (eCB fLen (aCons (eVar 0) aNil)) (eC (.int 64))) (eCB fAll (aCons (eL (aLc (iSeq (eVar 0)) (gN 1) tYesD (eCall 1 F_is_far (aCons (eVar 1) aNil)) [1])) aNil)))) sNx) (sRet (eOr (eCall 1 F_is_far (aCons (eVar 0) aNil)) (eCall 1 F_is_triplet (aCons (eVar 0) aNil)))))
def F_is_part : DF := runB 2 1 B_is_part
theorem d_is_part (T : Txt K mg) : FnD P w K mg base 4 T.a_is_part T.d_is_part P_is_part F_is_part := fnD T.F_is_part sc_is_part (by decide) B_is_part (fun cdv A outer s H E hr => (sd_cons (sd_if (qd_tr (pd_cb call_isiA cd_isi (by rfl) T.z_isinstance (by decide +kernel) (ad_cons (pd_var 0) (ad_cons (pd_ty (by rfl) T.z_list (by decide +kernel)) ad_nil)))) (sd_one (sd_ret (pd_and (pd_le (pd_cb call_len cd_len (by rfl) T.z_len (by decide +kernel) (ad_cons (pd_var 0) ad_nil)) (pd_globI (by rfl) T.c_LIST_LIMIT)) (pd_one (pd_cb (cr_all rfl) cd_all (by rfl) T.z_all (by decide +kernel) (ad_cons (pd_L (pl_lc (own := [("number", 1)]) rfl sc_is_part.nd (id_seq (pd_var 0)) (blkOk_by (own := [("number", 1)]) (N := N_is_part) (sc := defScope s_is_part) (by decide +kernel)) (fun _ _ _ _ _ => (gd_name (i := 1) sc_is_part.nd rfl (by first | exact Or.inl rfl | exact Or.inr rfl) (by decide))) (fun _ _ _ _ _ => td_nil) (fun _ _ _ _ _ => (by refine pd_call (k := 2) (f := T.a_is_far) (fd := T.d_is_far) (ps := P_is_far) (F := F_is_far) ?_ ?_ ?_ ?_ ?_ ?_ ?_ ?_; exact d_is_far T; exact hr.mono (by decide); exact rfl; exact T.g_is_far; exact T.F_is_far.kp; exact b_is_far T; exact wok0; exact (ad_cons (pd_var 1) ad_nil))))) ad_nil)))))) sd_nil) (sd_one (sd_ret (pd_or (by refine pd_call (k := 2) (f := T.a_is_far) (fd := T.d_is_far) (ps := P_is_far) (F := F_is_far) ?_ ?_ ?_ ?_ ?_ ?_ ?_ ?_; exact d_is_far T; exact hr.mono (by decide); exact rfl; exact T.g_is_far; exact T.F_is_far.kp; exact b_is_far T; exact (wok_takes (takes_of rfl rfl rfl rfl)); exact (ad_cons (pd_var 0) ad_nil)) (pd_one (by refine pd_call (k := 3) (f := T.a_is_triplet) (fd := T.d_is_triplet) (ps := P_is_triplet) (F := F_is_triplet) ?_ ?_ ?_ ?_ ?_ ?_ ?_ ?_; exact d_is_triplet T; exact hr.mono (by decide); exact rfl; exact T.g_is_triplet; exact T.F_is_triplet.kp; exact b_is_triplet T; exact (wok_takes (takes_of rfl rfl rfl rfl)); exact (ad_cons (pd_var 0) ad_nil))))))))
def B_is_kept : DS := (sRet (eNot (eCall 1 F_is_number (aCons (eVar 0) aNil))))
def F_is_kept : DF := runB 1 1 B_is_kept
theorem d_is_kept (T : Txt K mg) : FnD P w K mg base 2 T.a_is_kept T.d_is_kept P_is_kept F_is_kept := fnD T.F_is_kept sc_is_kept (by decide) B_is_kept (fun cdv A outer s H E hr => (sd_one (sd_ret (pd_not (by refine pd_call (k := 1) (f := T.a_is_number) (fd := T.d_is_number) (ps := P_is_number) (F := F_is_number) ?_ ?_ ?_ ?_ ?_ ?_ ?_ ?_; exact d_is_number T; exact hr.mono (by decide); exact rfl; exact T.g_is_number; exact T.F_is_number.kp; exact b_is_number T; exact (wok_takes (takes_of rfl rfl rfl rfl)); exact (ad_cons (pd_var 0) ad_nil))))))
def B_many_of : DS := (sSeq (sIf (tTr (eCB fIsi (aCons (eVar 0) (aCons (eC (.ty "list")) aNil)))) (sRet (eCB fLen (aCons (eVar 0) aNil))) sNx) (sSeq (sIf (tTr (eCB fIsi (aCons (eVar 0) (aCons (eC (.ty "tuple")) aNil)))) (sSeq (sTg (gT (gCons' (gN 1) (gCons' (gN 2) (gCons' (gN 3) gNil'))) 3) (eVar 0)) (sRet (eCB fMax2 (aCons (eC (.int 0)) (aCons (eBin fDiv (eBin fAdd (eBin fSub (eVar 2) (eVar 1)) (eVar 3)) (eVar 3)) aNil))))) sNx) (sRet (eC (.int 1)))))
def F_many_of : DF := runB 4 1 B_many_of
theorem d_many_of (T : Txt K mg) : FnD P w K mg base 1 T.a_many_of T.d_many_of P_many_of F_many_of := fnD T.F_many_of sc_many_of (by decide) B_many_of (fun cdv A outer s H E hr => (sd_cons (sd_if (qd_tr (pd_cb call_isiA cd_isi (by rfl) T.z_isinstance (by decide +kernel) (ad_cons (pd_var 0) (ad_cons (pd_ty (by rfl) T.z_list (by decide +kernel)) ad_nil)))) (sd_one (sd_ret (pd_cb call_len cd_len (by rfl) T.z_len (by decide +kernel) (ad_cons (pd_var 0) ad_nil)))) sd_nil) (sd_cons (sd_if (qd_tr (pd_cb call_isiA cd_isi (by rfl) T.z_isinstance (by decide +kernel) (ad_cons (pd_var 0) (ad_cons (pd_ty (by rfl) T.z_tuple (by decide +kernel)) ad_nil)))) (sd_cons (sd_tg (vs := [1, 2, 3]) (ps_asg (pd_var 0) (gd_tup rfl (gd_cons (gd_name (i := 1) sc_many_of.nd rfl (Or.inl rfl) (by decide)) (gd_cons (gd_name (i := 2) sc_many_of.nd rfl (Or.inl rfl) (by decide)) (gd_cons (gd_name (i := 3) sc_many_of.nd rfl (Or.inl rfl) (by decide)) gd_nil)))))) (sd_one (sd_ret (pd_cb (call_max2 rfl) cd_max2 (by rfl) T.z_max (by decide +kernel) (ad_cons pd_int (ad_cons (pd_div (pd_add (pd_sub (pd_var 2) (pd_var 1)) (pd_var 3)) (pd_var 3)) ad_nil)))))) sd_nil) (sd_one (sd_ret pd_int)))))
def B_subscript_of : DS := (sSeq (sIf (tTr (eCB fIsi (aCons (eVar 0) (aCons (eC (.ty "list")) aNil)))) (sRet (eBin fIx (eVar 0) (eVar 1))) sNx) (sSeq (sIf (tTr (eCB fIsi (aCons (eVar 0) (aCons (eC (.ty "tuple")) aNil)))) (sRet (eBin fAdd (eBin fIx (eVar 0) (eC (.int 0))) (eBin fMul (eVar 1) (eBin fIx (eVar 0) (eC (.int 2)))))) sNx) (sRet (eVar 0))))
def F_subscript_of : DF := runB 2 2 B_subscript_of
theorem d_subscript_of (T : Txt K mg) : FnD P w K mg base 1 T.a_subscript_of T.d_subscript_of P_subscript_of F_subscript_of := fnD T.F_subscript_of sc_subscript_of (by decide) B_subscript_of (fun cdv A outer s H E hr => (sd_cons (sd_if (qd_tr (pd_cb call_isiA cd_isi (by rfl) T.z_isinstance (by decide +kernel) (ad_cons (pd_var 0) (ad_cons (pd_ty (by rfl) T.z_list (by decide +kernel)) ad_nil)))) (sd_one (sd_ret (pd_ix (pd_var 0) (pd_var 1)))) sd_nil) (sd_cons (sd_if (qd_tr (pd_cb call_isiA cd_isi (by rfl) T.z_isinstance (by decide +kernel) (ad_cons (pd_var 0) (ad_cons (pd_ty (by rfl) T.z_tuple (by decide +kernel)) ad_nil)))) (sd_one (sd_ret (pd_add (pd_ix (pd_var 0) pd_int) (pd_mul (pd_var 1) (pd_ix (pd_var 0) pd_int))))) sd_nil) (sd_one (sd_ret (pd_var 0))))))
def B_last_of : DS := (sRet (eCall 2 F_subscript_of (aCons (eVar 0) (aCons (eBin fSub (eCall 1 F_many_of (aCons (eVar 0) aNil)) (eC (.int 1))) aNil))))
def F_last_of : DF := runB 1 1 B_last_of
theorem d_last_of (T : Txt K mg) : FnD P w K mg base 2 T.a_last_of T.d_last_of P_last_of F_last_of := fnD T.F_last_of sc_last_of (by decide) B_last_of (fun cdv A outer s H E hr => (sd_one (sd_ret (by refine pd_call (k := 1) (f := T.a_subscript_of) (fd := T.d_subscript_of) (ps := P_subscript_of) (F := F_subscript_of) ?_ ?_ ?_ ?_ ?_ ?_ ?_ ?_; exact d_subscript_of T; exact hr.mono (by decide); exact rfl; exact T.g_subscript_of; exact T.F_subscript_of.kp; exact b_subscript_of T; exact (wok_takes (takes_of rfl rfl rfl rfl)); exact (ad_cons (pd_var 0) (ad_cons (pd_sub (by refine pd_call (k := 1) (f := T.a_many_of) (fd := T.d_many_of) (ps := P_many_of) (F := F_many_of) ?_ ?_ ?_ ?_ ?_ ?_ ?_ ?_; exact d_many_of T; exact hr.mono (by decide); exact rfl; exact T.g_many_of; exact T.F_many_of.kp; exact b_many_of T; exact (wok_takes (takes_of rfl rfl rfl rfl)); exact (ad_cons (pd_var 0) ad_nil)) pd_int) ad_nil))))))
def B_subscripts : DS := (sRet (eL (aLc (iRng1 (aCons (eCall 1 F_many_of (aCons (eVar 0) aNil)) aNil)) (gN 1) tYesD (eCall 2 F_subscript_of (aCons (eVar 0) (aCons (eVar 1) aNil))) [1])))
def F_subscripts : DF := runB 2 1 B_subscripts
theorem d_subscripts (T : Txt K mg) : FnD P w K mg base 2 T.a_subscripts T.d_subscripts P_subscripts F_subscripts := fnD T.F_subscripts sc_subscripts (by decide) B_subscripts (fun cdv A outer s H E hr => (sd_one (sd_ret (pd_L (pl_lc (own := [("index", 1)]) rfl sc_subscripts.nd (id_rng1 (by rfl) T.z_range (ad_cons (by refine pd_call (k := 1) (f := T.a_many_of) (fd := T.d_many_of) (ps := P_many_of) (F := F_many_of) ?_ ?_ ?_ ?_ ?_ ?_ ?_ ?_; exact d_many_of T; exact hr.mono (by decide); exact rfl; exact T.g_many_of; exact T.F_many_of.kp; exact b_many_of T; exact (wok_takes (takes_of rfl rfl rfl rfl)); exact (ad_cons (pd_var 0) ad_nil)) ad_nil)) (blkOk_by (own := [("index", 1)]) (N := N_subscripts) (sc := defScope s_subscripts) (by decide +kernel)) (fun _ _ _ _ _ => (gd_name (i := 1) sc_subscripts.nd rfl (by first | exact Or.inl rfl | exact Or.inr rfl) (by decide))) (fun _ _ _ _ _ => td_nil) (fun _ _ _ _ _ => (by refine pd_call (k := 1) (f := T.a_subscript_of) (fd := T.d_subscript_of) (ps := P_subscript_of) (F := F_subscript_of) ?_ ?_ ?_ ?_ ?_ ?_ ?_ ?_; exact d_subscript_of T; exact hr.mono (by decide); exact rfl; exact T.g_subscript_of; exact T.F_subscript_of.kp; exact b_subscript_of T; exact wok0; exact (ad_cons (pd_var 0) (ad_cons (pd_var 1) ad_nil)))))))))
def B_lies_between : DS := (sSeq (sIf (tTr (eCB fIsi (aCons (eVar 0) (aCons (eC (.ty "tuple")) aNil)))) (sAsg 3 (eL (aLst (aCons (eBin fIx (eVar 0) (eC (.int 0))) (aCons (eCall 1 F_last_of (aCons (eVar 0) aNil)) aNil))))) (sAsg 3 (eCall 1 F_subscripts (aCons (eVar 0) aNil)))) (sRet (eCB fAll (aCons (eL (aLc (iSeq (eVar 3)) (gN 4) tYesD (eChain fLe fLe (eVar 1) (eVar 4) (eVar 2)) [4])) aNil))))
def F_lies_between : DF := runB 5 3 B_lies_between
theorem d_lies_between (T : Txt K mg) : FnD P w K mg base 3 T.a_lies_between T.d_lies_between P_lies_between F_lies_between := fnD T.F_lies_between sc_lies_between (by decide) B_lies_between (fun cdv A outer s H E hr => (sd_cons (sd_if (qd_tr (pd_cb call_isiA cd_isi (by rfl) T.z_isinstance (by decide +kernel) (ad_cons (pd_var 0) (ad_cons (pd_ty (by rfl) T.z_tuple (by decide +kernel)) ad_nil)))) (sd_one (sd_asg (ps_set (i := 3) sc_lies_between.nd rfl (Or.inl rfl) (pd_L (pl_lst (ad_cons (pd_ix (pd_var 0) pd_int) (ad_cons (by refine pd_call (k := 2) (f := T.a_last_of) (fd := T.d_last_of) (ps := P_last_of) (F := F_last_of) ?_ ?_ ?_ ?_ ?_ ?_ ?_ ?_; exact d_last_of T; exact hr.mono (by decide); exact rfl; exact T.g_last_of; exact T.F_last_of.kp; exact b_last_of T; exact (wok_takes (takes_of rfl rfl rfl rfl)); exact (ad_cons (pd_var 0) ad_nil)) ad_nil))))))) (sd_one (sd_asg (ps_set (i := 3) sc_lies_between.nd rfl (Or.inl rfl) (by refine pd_call (k := 2) (f := T.a_subscripts) (fd := T.d_subscripts) (ps := P_subscripts) (F := F_subscripts) ?_ ?_ ?_ ?_ ?_ ?_ ?_ ?_; exact d_subscripts T; exact hr.mono (by decide); exact rfl; exact T.g_subscripts; exact T.F_subscripts.kp; exact b_subscripts T; exact (wok_takes (takes_of rfl rfl rfl rfl)); exact (ad_cons (pd_var 0) ad_nil)))))) (sd_one (sd_ret (pd_cb (cr_all rfl) cd_all (by rfl) T.z_all (by decide +kernel) (ad_cons (pd_L (pl_lc (own := [("number", 4)]) rfl sc_lies_between.nd (id_seq (pd_var 3)) (blkOk_by (own := [("number", 4)]) (N := N_lies_between) (sc := defScope s_lies_between) (by decide +kernel)) (fun _ _ _ _ _ => (gd_name (i := 4) sc_lies_between.nd rfl (by first | exact Or.inl rfl | exact Or.inr rfl) (by decide))) (fun _ _ _ _ _ => td_nil) (fun _ _ _ _ _ => (pd_chain op_le op_le opd_cmp opd_cmp (pd_var 1) (pd_var 4) (pd_var 2))))) ad_nil))))))
def B_is_part_once : DS := (sRet (eOr (eNot (eCB fIsi (aCons (eVar 0) (aCons (eC (.ty "list")) aNil)))) (eBin fEq (eUn fLenSet (eVar 0)) (eCB fLen (aCons (eVar 0) aNil)))))
def F_is_part_once : DF := runB 1 1 B_is_part_once
theorem d_is_part_once (T : Txt K mg) : FnD P w K mg base 1 T.a_is_part_once T.d_is_part_once P_is_part_once F_is_part_once := fnD T.F_is_part_once sc_is_part_once (by decide) B_is_part_once (fun cdv A outer s H E hr => (sd_one (sd_ret (pd_or (pd_not (pd_cb call_isiA cd_isi (by rfl) T.z_isinstance (by decide +kernel) (ad_cons (pd_var 0) (ad_cons (pd_ty (by rfl) T.z_list (by decide +kernel)) ad_nil)))) (pd_one (pd_eq hr.units (pd_lenSet (by rfl) T.z_len (by rfl) T.z_set (pd_var 0)) (pd_cb call_len cd_len (by rfl) T.z_len (by decide +kernel) (ad_cons (pd_var 0) ad_nil))))))))
def B_is_range : DS := (sSeq (sIf (tOn (tNo (tTr (eCB fIsi (aCons (eVar 0) (aCons (eC (.ty "tuple")) aNil))))) (tE (eBin fNe (eCB fLen (aCons (eVar 0) aNil)) (eC (.int 2))))) (sRet (eC (.bl false))) sNx) (sRet (eCB fAll (aCons (eL (aLc (iSeq (eVar 0)) (gN 1) tYesD (eAnd (eCall 1 F_is_number (aCons (eVar 1) aNil)) (eChain fLe fLe (eUn fNeg (eC (.int 500000000000000000000000000000))) (eVar 1) (eC (.int 500000000000000000000000000000)))) [1])) aNil))))
def F_is_range : DF := runB 2 1 B_is_range
theorem d_is_range (T : Txt K mg) : FnD P w K mg base 2 T.a_is_range T.d_is_range P_is_range F_is_range := fnD T.F_is_range sc_is_range (by decide) B_is_range (fun cdv A outer s H E hr => (sd_cons (sd_if (qd_or (qd_not (qd_tr (pd_cb call_isiA cd_isi (by rfl) T.z_isinstance (by decide +kernel) (ad_cons (pd_var 0) (ad_cons (pd_ty (by rfl) T.z_tuple (by decide +kernel)) ad_nil))))) (qd_or1 (qd_ne hr.units (pd_cb call_len cd_len (by rfl) T.z_len (by decide +kernel) (ad_cons (pd_var 0) ad_nil)) pd_int))).pt (sd_one (sd_ret pd_bl)) sd_nil) (sd_one (sd_ret (pd_cb (cr_all rfl) cd_all (by rfl) T.z_all (by decide +kernel) (ad_cons (pd_L (pl_lc (own := [("number", 1)]) rfl sc_is_range.nd (id_seq (pd_var 0)) (blkOk_by (own := [("number", 1)]) (N := N_is_range) (sc := defScope s_is_range) (by decide +kernel)) (fun _ _ _ _ _ => (gd_name (i := 1) sc_is_range.nd rfl (by first | exact Or.inl rfl | exact Or.inr rfl) (by decide))) (fun _ _ _ _ _ => td_nil) (fun _ _ _ _ _ => (pd_and (by refine pd_call (k := 1) (f := T.a_is_number) (fd := T.d_is_number) (ps := P_is_number) (F := F_is_number) ?_ ?_ ?_ ?_ ?_ ?_ ?_ ?_; exact d_is_number T; exact hr.mono (by decide); exact rfl; exact T.g_is_number; exact T.F_is_number.kp; exact b_is_number T; exact wok0; exact (ad_cons (pd_var 1) ad_nil)) (pd_one (pd_chain op_le op_le opd_cmp opd_cmp (pd_neg (pd_globI (by rfl) T.c_FARTHEST)) (pd_var 1) (pd_globI (by rfl) T.c_FARTHEST))))))) ad_nil))))))
def B_is_bounds : DS := (sSeq (sIf (tOn (tNo (tTr (eCB fIsi (aCons (eVar 0) (aCons (eC (.ty "tuple")) aNil))))) (tNo (tE (eChain fLe fLe (eC (.int 1)) (eCB fLen (aCons (eVar 0) aNil)) (eC (.int 7)))))) (sRet (eC (.bl false))) sNx) (sRet (eCB fAll (aCons (eL (aLc (iSeq (eVar 0)) (gN 1) tYesD (eCall 1 F_is_range (aCons (eVar 1) aNil)) [1])) aNil))))
def F_is_bounds : DF := runB 2 1 B_is_bounds
theorem d_is_bounds (T : Txt K mg) : FnD P w K mg base 3 T.a_is_bounds T.d_is_bounds P_is_bounds F_is_bounds := fnD T.F_is_bounds sc_is_bounds (by decide) B_is_bounds (fun cdv A outer s H E hr => (sd_cons (sd_if (qd_or (qd_not (qd_tr (pd_cb call_isiA cd_isi (by rfl) T.z_isinstance (by decide +kernel) (ad_cons (pd_var 0) (ad_cons (pd_ty (by rfl) T.z_tuple (by decide +kernel)) ad_nil))))) (qd_or1 (qd_not (qd_chain op_le op_le opd_cmp opd_cmp pd_int (pd_cb call_len cd_len (by rfl) T.z_len (by decide +kernel) (ad_cons (pd_var 0) ad_nil)) (pd_globI (by rfl) T.c_DIMENSIONS))))).pt (sd_one (sd_ret pd_bl)) sd_nil) (sd_one (sd_ret (pd_cb (cr_all rfl) cd_all (by rfl) T.z_all (by decide +kernel) (ad_cons (pd_L (pl_lc (own := [("pair", 1)]) rfl sc_is_bounds.nd (id_seq (pd_var 0)) (blkOk_by (own := [("pair", 1)]) (N := N_is_bounds) (sc := defScope s_is_bounds) (by decide +kernel)) (fun _ _ _ _ _ => (gd_name (i := 1) sc_is_bounds.nd rfl (by first | exact Or.inl rfl | exact Or.inr rfl) (by decide))) (fun _ _ _ _ _ => td_nil) (fun _ _ _ _ _ => (by refine pd_call (k := 2) (f := T.a_is_range) (fd := T.d_is_range) (ps := P_is_range) (F := F_is_range) ?_ ?_ ?_ ?_ ?_ ?_ ?_ ?_; exact d_is_range T; exact hr.mono (by decide); exact rfl; exact T.g_is_range; exact T.F_is_range.kp; exact b_is_range T; exact wok0; exact (ad_cons (pd_var 1) ad_nil))))) ad_nil))))))
def B_all_extents : DS := (sRet (eL (aLc (iSeq (eVar 0)) (gT (gCons' (gN 1) (gCons' (gN 2) gNil')) 2) tYesD (eCB fMax2 (aCons (eC (.int 0)) (aCons (eBin fAdd (eBin fSub (eVar 2) (eVar 1)) (eC (.int 1))) aNil))) [1, 2])))
def F_all_extents : DF := runB 3 1 B_all_extents
theorem d_all_extents (T : Txt K mg) : FnD P w K mg base 1 T.a_all_extents T.d_all_extents P_all_extents F_all_extents := fnD T.F_all_extents sc_all_extents (by decide) B_all_extents (fun cdv A outer s H E hr => (sd_one (sd_ret (pd_L (pl_lc (own := [("low", 1), ("high", 2)]) rfl sc_all_extents.nd (id_seq (pd_var 0)) (blkOk_by (own := [("low", 1), ("high", 2)]) (N := N_all_extents) (sc := defScope s_all_extents) (by decide +kernel)) (fun _ _ _ _ _ => (gd_tup rfl (gd_cons (gd_name (i := 1) sc_all_extents.nd rfl (by first | exact Or.inl rfl | exact Or.inr rfl) (by decide)) (gd_cons (gd_name (i := 2) sc_all_extents.nd rfl (by first | exact Or.inl rfl | exact Or.inr rfl) (by decide)) gd_nil)))) (fun _ _ _ _ _ => td_nil) (fun _ _ _ _ _ => (pd_cb (call_max2 rfl) cd_max2 (by rfl) T.z_max (by decide +kernel) (ad_cons pd_int (ad_cons (pd_add (pd_sub (pd_var 2) (pd_var 1)) pd_int) ad_nil)))))))))
def B_multiplied : DS := (sSeq (sAsg 1 (eC (.int 1))) (sSeq (sFor (iSeq (eVar 0)) (gN 2) (sAsg 1 (eBin fMul (eVar 1) (eVar 2)))) (sRet (eVar 1))))
def F_multiplied : DF := runB 3 1 B_multiplied
theorem d_multiplied (T : Txt K mg) : FnD P w K mg base 1 T.a_multiplied T.d_multiplied P_multiplied F_multiplied := fnD T.F_multiplied sc_multiplied (by decide) B_multiplied (fun cdv A outer s H E hr => (sd_cons (sd_asg (ps_set (i := 1) sc_multiplied.nd rfl (Or.inl rfl) pd_int)) (sd_cons (sd_for (vs := [2]) (passes_of rfl) rfl (id_seq (pd_var 0)) (gd_name (i := 2) sc_multiplied.nd rfl (Or.inl rfl) (by decide)) (sd_one (sd_asg (ps_set (i := 1) sc_multiplied.nd rfl (Or.inl rfl) (pd_mul (pd_var 1) (pd_var 2)))))) (sd_one (sd_ret (pd_var 1))))))
def B_size_of : DS := (sRet (eCall 1 F_multiplied (aCons (eCall 1 F_all_extents (aCons (eVar 0) aNil)) aNil)))
def F_size_of : DF := runB 1 1 B_size_of
theorem d_size_of (T : Txt K mg) : FnD P w K mg base 2 T.a_size_of T.d_size_of P_size_of F_size_of := fnD T.F_size_of sc_size_of (by decide) B_size_of (fun cdv A outer s H E hr => (sd_one (sd_ret (by refine pd_call (k := 1) (f := T.a_multiplied) (fd := T.d_multiplied) (ps := P_multiplied) (F := F_multiplied) ?_ ?_ ?_ ?_ ?_ ?_ ?_ ?_; exact d_multiplied T; exact hr.mono (by decide); exact rfl; exact T.g_multiplied; exact T.F_multiplied.kp; exact b_multiplied T; exact (wok_takes (takes_of rfl rfl rfl rfl)); exact (ad_cons (by refine pd_call (k := 1) (f := T.a_all_extents) (fd := T.d_all_extents) (ps := P_all_extents) (F := F_all_extents) ?_ ?_ ?_ ?_ ?_ ?_ ?_ ?_; exact d_all_extents T; exact hr.mono (by decide); exact rfl; exact T.g_all_extents; exact T.F_all_extents.kp; exact b_all_extents T; exact (wok_takes (takes_of rfl rfl rfl rfl)); exact (ad_cons (pd_var 0) ad_nil)) ad_nil)))))
def B_weights : DS := (sSeq (sNew 1 (aLst aNil)) (sSeq (sAsg 2 (eC (.int 1))) (sSeq (sFor (iSeq (eCall 1 F_all_extents (aCons (eVar 0) aNil))) (gN 3) (sSeq (sApp 1 (eVar 2)) (sAsg 2 (eBin fMul (eVar 2) (eVar 3))))) (sFrz 1 (sRet (eVar 1))))))
def F_weights : DF := runB 4 1 B_weights
theorem d_weights (T : Txt K mg) : FnD P w K mg base 2 T.a_weights T.d_weights P_weights F_weights := fnD T.F_weights sc_weights (by decide) B_weights (fun cdv A outer s H E hr => (sd_cons (sd_new (ps_set (i := 1) sc_weights.nd rfl (Or.inl rfl) (pl_lst ad_nil))) (sd_cons (sd_asg (ps_set (i := 2) sc_weights.nd rfl (Or.inl rfl) pd_int)) (sd_cons (sd_for (vs := [3]) (passes_of rfl) rfl (id_seq (by refine pd_call (k := 1) (f := T.a_all_extents) (fd := T.d_all_extents) (ps := P_all_extents) (F := F_all_extents) ?_ ?_ ?_ ?_ ?_ ?_ ?_ ?_; exact d_all_extents T; exact hr.mono (by decide); exact rfl; exact T.g_all_extents; exact T.F_all_extents.kp; exact b_all_extents T; exact (wok_takes (takes_of rfl rfl rfl rfl)); exact (ad_cons (pd_var 0) ad_nil))) (gd_name (i := 3) sc_weights.nd rfl (Or.inl rfl) (by decide)) (sd_cons (sd_app (ps_expr (pe_bm PySem.F.plainAttrs_list PySem.F.slot_list_append PySem.F.type_list_append mt_append (pv 1) (pa_cons (pd_var 2) pa_nil)))) (sd_one (sd_asg (ps_set (i := 2) sc_weights.nd rfl (Or.inl rfl) (pd_mul (pd_var 2) (pd_var 3))))))) (sd_frz 1 (sd_one (sd_ret (pd_var 1))))))))
def B_many_in : DS := (sRet (eCall 1 F_multiplied (aCons (eL (aLc (iSeq (eVar 0)) (gN 1) tYesD (eCall 1 F_many_of (aCons (eVar 1) aNil)) [1])) aNil)))
def F_many_in : DF := runB 2 1 B_many_in
theorem d_many_in (T : Txt K mg) : FnD P w K mg base 2 T.a_many_in T.d_many_in P_many_in F_many_in := fnD T.F_many_in sc_many_in (by decide) B_many_in (fun cdv A outer s H E hr => (sd_one (sd_ret (by refine pd_call (k := 1) (f := T.a_multiplied) (fd := T.d_multiplied) (ps := P_multiplied) (F := F_multiplied) ?_ ?_ ?_ ?_ ?_ ?_ ?_ ?_; exact d_multiplied T; exact hr.mono (by decide); exact rfl; exact T.g_multiplied; exact T.F_multiplied.kp; exact b_multiplied T; exact (wok_takes (takes_of rfl rfl rfl rfl)); exact (ad_cons (pd_L (pl_lc (own := [("part", 1)]) rfl sc_many_in.nd (id_seq (pd_var 0)) (blkOk_by (own := [("part", 1)]) (N := N_many_in) (sc := defScope s_many_in) (by decide +kernel)) (fun _ _ _ _ _ => (gd_name (i := 1) sc_many_in.nd rfl (by first | exact Or.inl rfl | exact Or.inr rfl) (by decide))) (fun _ _ _ _ _ => td_nil) (fun _ _ _ _ _ => (by refine pd_call (k := 1) (f := T.a_many_of) (fd := T.d_many_of) (ps := P_many_of) (F := F_many_of) ?_ ?_ ?_ ?_ ?_ ?_ ?_ ?_; exact d_many_of T; exact hr.mono (by decide); exact rfl; exact T.g_many_of; exact T.F_many_of.kp; exact b_many_of T; exact wok0; exact (ad_cons (pd_var 1) ad_nil))))) ad_nil)))))
def B_is_section : DS := (sSeq (sIf (tOn (tNo (tTr (eCB fIsi (aCons (eVar 1) (aCons (eC (.ty "tuple")) aNil))))) (tE (eBin fNe (eCB fLen (aCons (eVar 1) aNil)) (eCB fLen (aCons (eVar 0) aNil))))) (sRet (eC (.bl false))) sNx) (sSeq (sIf (tNo (tTr (eCB fAll (aCons (eL (aLc (iSeq (eVar 1)) (gN 2) tYesD (eCall 1 F_is_part (aCons (eVar 2) aNil)) [2])) aNil)))) (sRet (eC (.bl false))) sNx) (sSeq (sIf (tE (eBin fEq (eCall 1 F_many_in (aCons (eVar 1) aNil)) (eC (.int 0)))) (sRet (eC (.bl true))) sNx) (sRet (eCB fAll (aCons (eL (aLc (iZip (aCons (eVar 1) (aCons (eVar 0) aNil))) (gT (gCons' (gN 2) (gCons' (gT (gCons' (gN 3) (gCons' (gN 4) gNil')) 2) gNil')) 2) tYesD (eCall 3 F_lies_between (aCons (eVar 2) (aCons (eVar 3) (aCons (eVar 4) aNil)))) [2, 3, 4])) aNil))))))
def F_is_section : DF := runB 5 2 B_is_section
theorem d_is_section (T : Txt K mg) : FnD P w K mg base 5 T.a_is_section T.d_is_section P_is_section F_is_section := fnD T.F_is_section sc_is_section (by decide) B_is_section (fun cdv A outer s H E hr => (sd_cons (sd_if (qd_or (qd_not (qd_tr (pd_cb call_isiA cd_isi (by rfl) T.z_isinstance (by decide +kernel) (ad_cons (pd_var 1) (ad_cons (pd_ty (by rfl) T.z_tuple (by decide +kernel)) ad_nil))))) (qd_or1 (qd_ne hr.units (pd_cb call_len cd_len (by rfl) T.z_len (by decide +kernel) (ad_cons (pd_var 1) ad_nil)) (pd_cb call_len cd_len (by rfl) T.z_len (by decide +kernel) (ad_cons (pd_var 0) ad_nil))))).pt (sd_one (sd_ret pd_bl)) sd_nil) (sd_cons (sd_if (qd_not (qd_tr (pd_cb (cr_all rfl) cd_all (by rfl) T.z_all (by decide +kernel) (ad_cons (pd_L (pl_lc (own := [("part", 2)]) rfl sc_is_section.nd (id_seq (pd_var 1)) (blkOk_by (own := [("part", 2)]) (N := N_is_section) (sc := defScope s_is_section) (by decide +kernel)) (fun _ _ _ _ _ => (gd_name (i := 2) sc_is_section.nd rfl (by first | exact Or.inl rfl | exact Or.inr rfl) (by decide))) (fun _ _ _ _ _ => td_nil) (fun _ _ _ _ _ => (by refine pd_call (k := 4) (f := T.a_is_part) (fd := T.d_is_part) (ps := P_is_part) (F := F_is_part) ?_ ?_ ?_ ?_ ?_ ?_ ?_ ?_; exact d_is_part T; exact hr.mono (by decide); exact rfl; exact T.g_is_part; exact T.F_is_part.kp; exact b_is_part T; exact wok0; exact (ad_cons (pd_var 2) ad_nil))))) ad_nil)))) (sd_one (sd_ret pd_bl)) sd_nil) (sd_cons (sd_if (qd_eq hr.units (by refine pd_call (k := 2) (f := T.a_many_in) (fd := T.d_many_in) (ps := P_many_in) (F := F_many_in) ?_ ?_ ?_ ?_ ?_ ?_ ?_ ?_; exact d_many_in T; exact hr.mono (by decide); exact rfl; exact T.g_many_in; exact T.F_many_in.kp; exact b_many_in T; exact (wok_takes (takes_of rfl rfl rfl rfl)); exact (ad_cons (pd_var 1) ad_nil)) pd_int) (sd_one (sd_ret pd_bl)) sd_nil) (sd_one (sd_ret (pd_cb (cr_all rfl) cd_all (by rfl) T.z_all (by decide +kernel) (ad_cons (pd_L (pl_lc (own := [("part", 2), ("low", 3), ("high", 4)]) rfl sc_is_section.nd (id_zip2 (by rfl) T.z_zip (ad_cons (pd_var 1) (ad_cons (pd_var 0) ad_nil)) (aCons_len (aCons_len (fun _ _ _ _ h => aNil_len h)))) (blkOk_by (own := [("part", 2), ("low", 3), ("high", 4)]) (N := N_is_section) (sc := defScope s_is_section) (by decide +kernel)) (fun _ _ _ _ _ => (gd_tup rfl (gd_cons (gd_name (i := 2) sc_is_section.nd rfl (by first | exact Or.inl rfl | exact Or.inr rfl) (by decide)) (gd_cons (gd_tup rfl (gd_cons (gd_name (i := 3) sc_is_section.nd rfl (by first | exact Or.inl rfl | exact Or.inr rfl) (by decide)) (gd_cons (gd_name (i := 4) sc_is_section.nd rfl (by first | exact Or.inl rfl | exact Or.inr rfl) (by decide)) gd_nil))) gd_nil)))) (fun _ _ _ _ _ => td_nil) (fun _ _ _ _ _ => (by refine pd_call (k := 3) (f := T.a_lies_between) (fd := T.d_lies_between) (ps := P_lies_between) (F := F_lies_between) ?_ ?_ ?_ ?_ ?_ ?_ ?_ ?_; exact d_lies_between T; exact hr.mono (by decide); exact rfl; exact T.g_lies_between; exact T.F_lies_between.kp; exact b_lies_between T; exact wok0; exact (ad_cons (pd_var 2) (ad_cons (pd_var 3) (ad_cons (pd_var 4) ad_nil))))))) ad_nil))))))))
def B_shape_of : DS := (sRet (eCB fTuple (aCons (eL (aLc (iSeq (eVar 0)) (gN 1) (tTr (eCall 1 F_is_kept (aCons (eVar 1) aNil))) (eCall 1 F_many_of (aCons (eVar 1) aNil)) [1])) aNil)))
def F_shape_of : DF := runB 2 1 B_shape_of
theorem d_shape_of (T : Txt K mg) : FnD P w K mg base 3 T.a_shape_of T.d_shape_of P_shape_of F_shape_of := fnD T.F_shape_of sc_shape_of (by decide) B_shape_of (fun cdv A outer s H E hr => (sd_one (sd_ret (pd_ct call_tuple_of cd_tuple (by rfl) T.z_tuple (by decide +kernel) (ad_cons (pd_L (pl_lc (own := [("part", 1)]) rfl sc_shape_of.nd (id_seq (pd_var 0)) (blkOk_by (own := [("part", 1)]) (N := N_shape_of) (sc := defScope s_shape_of) (by decide +kernel)) (fun _ _ _ _ _ => (gd_name (i := 1) sc_shape_of.nd rfl (by first | exact Or.inl rfl | exact Or.inr rfl) (by decide))) (fun _ _ _ _ _ => (td_one (qd_tr (by refine pd_call (k := 2) (f := T.a_is_kept) (fd := T.d_is_kept) (ps := P_is_kept) (F := F_is_kept) ?_ ?_ ?_ ?_ ?_ ?_ ?_ ?_; exact d_is_kept T; exact hr.mono (by decide); exact rfl; exact T.g_is_kept; exact T.F_is_kept.kp; exact b_is_kept T; exact wok0; exact (ad_cons (pd_var 1) ad_nil))))) (fun _ _ _ _ _ => (by refine pd_call (k := 1) (f := T.a_many_of) (fd := T.d_many_of) (ps := P_many_of) (F := F_many_of) ?_ ?_ ?_ ?_ ?_ ?_ ?_ ?_; exact d_many_of T; exact hr.mono (by decide); exact rfl; exact T.g_many_of; exact T.F_many_of.kp; exact b_many_of T; exact wok0; exact (ad_cons (pd_var 1) ad_nil))))) ad_nil)))))
def B_has_each_once : DS := (sRet (eOr (eBin fEq (eCall 1 F_many_in (aCons (eVar 0) aNil)) (eC (.int 0))) (eCB fAll (aCons (eL (aLc (iSeq (eVar 0)) (gN 1) tYesD (eCall 1 F_is_part_once (aCons (eVar 1) aNil)) [1])) aNil))))
def F_has_each_once : DF := runB 2 1 B_has_each_once
theorem d_has_each_once (T : Txt K mg) : FnD P w K mg base 3 T.a_has_each_once T.d_has_each_once P_has_each_once F_has_each_once := fnD T.F_has_each_once sc_has_each_once (by decide) B_has_each_once (fun cdv A outer s H E hr => (sd_one (sd_ret (pd_or (pd_eq hr.units (by refine pd_call (k := 2) (f := T.a_many_in) (fd := T.d_many_in) (ps := P_many_in) (F := F_many_in) ?_ ?_ ?_ ?_ ?_ ?_ ?_ ?_; exact d_many_in T; exact hr.mono (by decide); exact rfl; exact T.g_many_in; exact T.F_many_in.kp; exact b_many_in T; exact (wok_takes (takes_of rfl rfl rfl rfl)); exact (ad_cons (pd_var 0) ad_nil)) pd_int) (pd_one (pd_cb (cr_all rfl) cd_all (by rfl) T.z_all (by decide +kernel) (ad_cons (pd_L (pl_lc (own := [("part", 1)]) rfl sc_has_each_once.nd (id_seq (pd_var 0)) (blkOk_by (own := [("part", 1)]) (N := N_has_each_once) (sc := defScope s_has_each_once) (by decide +kernel)) (fun _ _ _ _ _ => (gd_name (i := 1) sc_has_each_once.nd rfl (by first | exact Or.inl rfl | exact Or.inr rfl) (by decide))) (fun _ _ _ _ _ => td_nil) (fun _ _ _ _ _ => (by refine pd_call (k := 1) (f := T.a_is_part_once) (fd := T.d_is_part_once) (ps := P_is_part_once) (F := F_is_part_once) ?_ ?_ ?_ ?_ ?_ ?_ ?_ ?_; exact d_is_part_once T; exact hr.mono (by decide); exact rfl; exact T.g_is_part_once; exact T.F_is_part_once.kp; exact b_is_part_once T; exact wok0; exact (ad_cons (pd_var 1) ad_nil))))) ad_nil)))))))
def B_places_of : DS := (sSeq (sIf (tE (eBin fEq (eCall 1 F_many_in (aCons (eVar 1) aNil)) (eC (.int 0)))) (sRet (eL (aLst aNil))) sNx) (sSeq (sAsg 2 (eL (aLst (aCons (eC (.int 0)) aNil)))) (sSeq (sFor (iZip (aCons (eVar 1) (aCons (eVar 0) (aCons (eCall 1 F_weights (aCons (eVar 0) aNil)) aNil)))) (gT (gCons' (gN 3) (gCons' (gT (gCons' (gN 4) (gCons' (gN 5) gNil')) 2) (gCons' (gN 6) gNil'))) 3) (sSeq (sAsg 7 (eL (aLc (iSeq (eCall 1 F_subscripts (aCons (eVar 3) aNil))) (gN 8) tYesD (eBin fMul (eBin fSub (eVar 8) (eVar 4)) (eVar 6)) [8]))) (sAsg 2 (eL (aLc2 (iSeq (eVar 7)) (gN 9) tYesD (iSeq (eVar 2)) (gN 10) tYesD (eBin fAdd (eVar 10) (eVar 9)) [9, 10] [10]))))) (sRet (eVar 2)))))
def F_places_of : DF := runB 11 2 B_places_of
theorem d_places_of (T : Txt K mg) : FnD P w K mg base 3 T.a_places_of T.d_places_of P_places_of F_places_of := fnD T.F_places_of sc_places_of (by decide) B_places_of (fun cdv A outer s H E hr => (sd_cons (sd_if (qd_eq hr.units (by refine pd_call (k := 2) (f := T.a_many_in) (fd := T.d_many_in) (ps := P_many_in) (F := F_many_in) ?_ ?_ ?_ ?_ ?_ ?_ ?_ ?_; exact d_many_in T; exact hr.mono (by decide); exact rfl; exact T.g_many_in; exact T.F_many_in.kp; exact b_many_in T; exact (wok_takes (takes_of rfl rfl rfl rfl)); exact (ad_cons (pd_var 1) ad_nil)) pd_int) (sd_one (sd_ret (pd_L (pl_lst ad_nil)))) sd_nil) (sd_cons (sd_asg (ps_set (i := 2) sc_places_of.nd rfl (Or.inr rfl) (pd_L (pl_lst (ad_cons pd_int ad_nil))))) (sd_cons (sd_for (vs := [3, 6, 4, 5]) (passes_of rfl) rfl (id_zip3 (by rfl) T.z_zip (ad_cons (pd_var 1) (ad_cons (pd_var 0) (ad_cons (by refine pd_call (k := 2) (f := T.a_weights) (fd := T.d_weights) (ps := P_weights) (F := F_weights) ?_ ?_ ?_ ?_ ?_ ?_ ?_ ?_; exact d_weights T; exact hr.mono (by decide); exact rfl; exact T.g_weights; exact T.F_weights.kp; exact b_weights T; exact (wok_takes (takes_of rfl rfl rfl rfl)); exact (ad_cons (pd_var 0) ad_nil)) ad_nil))) (aCons_len (aCons_len (aCons_len (fun _ _ _ _ h => aNil_len h))))) (gd_tup rfl (gd_cons (gd_name (i := 3) sc_places_of.nd rfl (Or.inl rfl) (by decide)) (gd_cons (gd_tup rfl (gd_cons (gd_name (i := 4) sc_places_of.nd rfl (Or.inr rfl) (by decide)) (gd_cons (gd_name (i := 5) sc_places_of.nd rfl (Or.inl rfl) (by decide)) gd_nil))) (gd_cons (gd_name (i := 6) sc_places_of.nd rfl (Or.inr rfl) (by decide)) gd_nil)))) (sd_cons (by first | exact sd_asg (asg_weak (ps_setLc (own := [("number", 8)]) (i := 7) rfl sc_places_of.nd rfl rfl rfl (id_seq (by refine pd_call (k := 2) (f := T.a_subscripts) (fd := T.d_subscripts) (ps := P_subscripts) (F := F_subscripts) ?_ ?_ ?_ ?_ ?_ ?_ ?_ ?_; exact d_subscripts T; exact hr.mono (by decide); exact rfl; exact T.g_subscripts; exact T.F_subscripts.kp; exact b_subscripts T; exact (wok_takes (takes_of rfl rfl rfl rfl)); exact (ad_cons (pd_var 3) ad_nil))) (blkOk_by (own := [("number", 8)]) (N := N_places_of) (sc := defScope s_places_of) (by decide +kernel)) (fun _ _ _ _ _ => (gd_name (i := 8) sc_places_of.nd rfl (by first | exact Or.inl rfl | exact Or.inr rfl) (by decide))) (fun _ _ _ _ _ => td_nil) (fun _ _ _ _ _ => (pd_mul (pd_sub (pd_var 8) (pd_var 4)) (pd_var 6)))) (fun _ _ _ h => lc_ok (eL_ok h))) | exact sd_asg (ps_set (i := 7) sc_places_of.nd rfl (Or.inl rfl) (pd_L (pl_lc (own := [("number", 8)]) rfl sc_places_of.nd (id_seq (by refine pd_call (k := 2) (f := T.a_subscripts) (fd := T.d_subscripts) (ps := P_subscripts) (F := F_subscripts) ?_ ?_ ?_ ?_ ?_ ?_ ?_ ?_; exact d_subscripts T; exact hr.mono (by decide); exact rfl; exact T.g_subscripts; exact T.F_subscripts.kp; exact b_subscripts T; exact (wok_takes (takes_of rfl rfl rfl rfl)); exact (ad_cons (pd_var 3) ad_nil))) (blkOk_by (own := [("number", 8)]) (N := N_places_of) (sc := defScope s_places_of) (by decide +kernel)) (fun _ _ _ _ _ => (gd_name (i := 8) sc_places_of.nd rfl (by first | exact Or.inl rfl | exact Or.inr rfl) (by decide))) (fun _ _ _ _ _ => td_nil) (fun _ _ _ _ _ => (pd_mul (pd_sub (pd_var 8) (pd_var 4)) (pd_var 6))))))) (sd_one (by first | exact sd_asg (asg_weak (ps_setLc2 (own := [("jump", 9), ("place", 10)]) (vs1 := [10]) (i := 2) rfl sc_places_of.nd rfl rfl rfl (id_seq (pd_var 7)) (blkOk_by (own := [("jump", 9), ("place", 10)]) (N := N_places_of) (sc := defScope s_places_of) (by decide +kernel)) (by decide) (fun _ _ _ _ _ => (gd_name (i := 9) sc_places_of.nd rfl (by first | exact Or.inl rfl | exact Or.inr rfl) (by decide))) (fun _ _ _ _ _ => td_nil) (fun _ _ _ _ _ => (id_seq (pd_var 2))) (fun _ _ _ _ _ => (gd_name (i := 10) sc_places_of.nd rfl (by first | exact Or.inl rfl | exact Or.inr rfl) (by decide))) (fun _ _ _ _ _ => td_nil) (fun _ _ _ _ _ => (pd_add (pd_var 10) (pd_var 9)))) (fun _ _ _ h => lc2_ok (eL_ok h))) | exact sd_asg (ps_set (i := 2) sc_places_of.nd rfl (Or.inr rfl) (pd_L (pl_lc2 (own := [("jump", 9), ("place", 10)]) (vs1 := [10]) rfl sc_places_of.nd (id_seq (pd_var 7)) (blkOk_by (own := [("jump", 9), ("place", 10)]) (N := N_places_of) (sc := defScope s_places_of) (by decide +kernel)) (by decide) (fun _ _ _ _ _ => (gd_name (i := 9) sc_places_of.nd rfl (by first | exact Or.inl rfl | exact Or.inr rfl) (by decide))) (fun _ _ _ _ _ => td_nil) (fun _ _ _ _ _ => (id_seq (pd_var 2))) (fun _ _ _ _ _ => (gd_name (i := 10) sc_places_of.nd rfl (by first | exact Or.inl rfl | exact Or.inr rfl) (by decide))) (fun _ _ _ _ _ => td_nil) (fun _ _ _ _ _ => (pd_add (pd_var 10) (pd_var 9)))))))))) (sd_one (sd_ret (pd_var 2)))))))
def B_check_bounds : DS := (sIf (tNo (tTr (eCall 1 F_is_bounds (aCons (eVar 0) aNil)))) sNever sNx)
def F_check_bounds : DF := runB 1 1 B_check_bounds
theorem d_check_bounds (T : Txt K mg) : FnD P w K mg base 4 T.a_check_bounds T.d_check_bounds P_check_bounds F_check_bounds := fnD T.F_check_bounds sc_check_bounds (by decide) B_check_bounds (fun cdv A outer s H E hr => (sd_one (sd_if (qd_not (qd_tr (by refine pd_call (k := 3) (f := T.a_is_bounds) (fd := T.d_is_bounds) (ps := P_is_bounds) (F := F_is_bounds) ?_ ?_ ?_ ?_ ?_ ?_ ?_ ?_; exact d_is_bounds T; exact hr.mono (by decide); exact rfl; exact T.g_is_bounds; exact T.F_is_bounds.kp; exact b_is_bounds T; exact (wok_takes (takes_of rfl rfl rfl rfl)); exact (ad_cons (pd_var 0) ad_nil)))) (sd_one sd_never) sd_nil)))
def B_check_section : DS := (sSeq (sDrop (eCall 1 F_check_bounds (aCons (eVar 0) aNil))) (sIf (tNo (tTr (eCall 2 F_is_section (aCons (eVar 0) (aCons (eVar 1) aNil))))) sNever sNx))
def F_check_section : DF := runB 3 3 B_check_section
theorem d_check_section (T : Txt K mg) : FnD P w K mg base 6 T.a_check_section T.d_check_section P_check_section F_check_section := fnD T.F_check_section sc_check_section (by decide) B_check_section (fun cdv A outer s H E hr => (sd_cons (sd_expr (by refine pd_call (k := 4) (f := T.a_check_bounds) (fd := T.d_check_bounds) (ps := P_check_bounds) (F := F_check_bounds) ?_ ?_ ?_ ?_ ?_ ?_ ?_ ?_; exact d_check_bounds T; exact hr.mono (by decide); exact rfl; exact T.g_check_bounds; exact T.F_check_bounds.kp; exact b_check_bounds T; exact (wok_takes (takes_of rfl rfl rfl rfl)); exact (ad_cons (pd_var 0) ad_nil))) (sd_one (sd_if (qd_not (qd_tr (by refine pd_call (k := 5) (f := T.a_is_section) (fd := T.d_is_section) (ps := P_is_section) (F := F_is_section) ?_ ?_ ?_ ?_ ?_ ?_ ?_ ?_; exact d_is_section T; exact hr.mono (by decide); exact rfl; exact T.g_is_section; exact T.F_is_section.kp; exact b_is_section T; exact (wok_takes (takes_of rfl rfl rfl rfl)); exact (ad_cons (pd_var 0) (ad_cons (pd_var 1) ad_nil))))) (sd_one sd_never) sd_nil))))
def B_check_both : DS := (sSeq (sDrop (eCall 3 F_check_section (aCons (eVar 0) (aCons (eVar 1) (aCons (eC (.str "one")) aNil))))) (sDrop (eCall 3 F_check_section (aCons (eVar 0) (aCons (eVar 2) (aCons (eC (.str "other")) aNil))))))
def F_check_both : DF := runB 3 3 B_check_both
theorem d_check_both (T : Txt K mg) : FnD P w K mg base 7 T.a_check_both T.d_check_both P_check_both F_check_both := fnD T.F_check_both sc_check_both (by decide) B_check_both (fun cdv A outer s H E hr => (sd_cons (sd_expr (by refine pd_call (k := 6) (f := T.a_check_section) (fd := T.d_check_section) (ps := P_check_section) (F := F_check_section) ?_ ?_ ?_ ?_ ?_ ?_ ?_ ?_; exact d_check_section T; exact hr.mono (by decide); exact rfl; exact T.g_check_section; exact T.F_check_section.kp; exact b_check_section T; exact (wok_takes (takes_of rfl rfl rfl rfl)); exact (ad_cons (pd_var 0) (ad_cons (pd_var 1) (ad_cons pd_str ad_nil))))) (sd_one (sd_expr (by refine pd_call (k := 6) (f := T.a_check_section) (fd := T.d_check_section) (ps := P_check_section) (F := F_check_section) ?_ ?_ ?_ ?_ ?_ ?_ ?_ ?_; exact d_check_section T; exact hr.mono (by decide); exact rfl; exact T.g_check_section; exact T.F_check_section.kp; exact b_check_section T; exact (wok_takes (takes_of rfl rfl rfl rfl)); exact (ad_cons (pd_var 0) (ad_cons (pd_var 2) (ad_cons pd_str ad_nil))))))))
def B_check_contents : DS := (sSeq (sIf (tE (eBin fGt (eCall 1 F_size_of (aCons (eVar 0) aNil)) (eC (.int 5000)))) sNever sNx) (sIf (tOn (tNo (tTr (eCB fIsi (aCons (eVar 1) (aCons (eTup (aCons (eC (.ty "list")) (aCons (eC (.ty "tuple")) aNil))) aNil))))) (tE (eBin fNe (eCB fLen (aCons (eVar 1) aNil)) (eCall 1 F_size_of (aCons (eVar 0) aNil))))) sNever sNx))
def F_check_contents : DF := runB 2 2 B_check_contents
theorem d_check_contents (T : Txt K mg) : FnD P w K mg base 3 T.a_check_contents T.d_check_contents P_check_contents F_check_contents := fnD T.F_check_contents sc_check_contents (by decide) B_check_contents (fun cdv A outer s H E hr => (sd_cons (sd_if (qd_gt (by refine pd_call (k := 2) (f := T.a_size_of) (fd := T.d_size_of) (ps := P_size_of) (F := F_size_of) ?_ ?_ ?_ ?_ ?_ ?_ ?_ ?_; exact d_size_of T; exact hr.mono (by decide); exact rfl; exact T.g_size_of; exact T.F_size_of.kp; exact b_size_of T; exact (wok_takes (takes_of rfl rfl rfl rfl)); exact (ad_cons (pd_var 0) ad_nil)) (pd_globI (by rfl) T.c_PLACES)) (sd_one sd_never) sd_nil) (sd_one (sd_if (qd_or (qd_not (qd_tr (pd_cb call_isiA cd_isi (by rfl) T.z_isinstance (by decide +kernel) (ad_cons (pd_var 1) (ad_cons (pd_tup (ad_cons (pd_ty (by rfl) T.z_list (by decide +kernel)) (ad_cons (pd_ty (by rfl) T.z_tuple (by decide +kernel)) ad_nil))) ad_nil))))) (qd_or1 (qd_ne hr.units (pd_cb call_len cd_len (by rfl) T.z_len (by decide +kernel) (ad_cons (pd_var 1) ad_nil)) (by refine pd_call (k := 2) (f := T.a_size_of) (fd := T.d_size_of) (ps := P_size_of) (F := F_size_of) ?_ ?_ ?_ ?_ ?_ ?_ ?_ ?_; exact d_size_of T; exact hr.mono (by decide); exact rfl; exact T.g_size_of; exact T.F_size_of.kp; exact b_size_of T; exact (wok_takes (takes_of rfl rfl rfl rfl)); exact (ad_cons (pd_var 0) ad_nil))))).pt (sd_one sd_never) sd_nil))))
def B_done : DS := (sSeq (sDrop (eCall 3 F_check_both (aCons (eVar 0) (aCons (eVar 1) (aCons (eVar 2) aNil))))) (sSeq (sIf (tNo (tTr (eCall 1 F_has_each_once (aCons (eVar 1) aNil)))) (sRaise "InvalidSection" (eC (.str "twice"))) sNx) (sSeq (sIf (tE (eBin fNe (eCall 1 F_shape_of (aCons (eVar 1) aNil)) (eCall 1 F_shape_of (aCons (eVar 2) aNil)))) (sRaise "InvalidSection" (eC (.str "shape"))) sNx) (sSeq (sDrop (eCall 2 F_check_contents (aCons (eVar 0) (aCons (eVar 3) aNil)))) (sSeq (sNew 4 (eCBL fList (aCons (eVar 3) aNil))) (sSeq (sFor (iZip (aCons (eCall 2 F_places_of (aCons (eVar 0) (aCons (eVar 1) aNil))) (aCons (eCall 2 F_places_of (aCons (eVar 0) (aCons (eVar 2) aNil))) aNil))) (gT (gCons' (gN 5) (gCons' (gN 6) gNil')) 2) (sSetO 4 (eVar 5) (eBin fIx (eVar 3) (eVar 6)))) (sFrzN 4 (sRet (eVar 4)))))))))
def F_done : DF := runB 7 4 B_done
theorem d_done (T : Txt K mg) : FnD P w K mg base 8 T.a_done T.d_done P_done F_done := fnD T.F_done sc_done (by decide) B_done (fun cdv A outer s H E hr => (sd_cons (sd_expr (by refine pd_call (k := 7) (f := T.a_check_both) (fd := T.d_check_both) (ps := P_check_both) (F := F_check_both) ?_ ?_ ?_ ?_ ?_ ?_ ?_ ?_; exact d_check_both T; exact hr.mono (by decide); exact rfl; exact T.g_check_both; exact T.F_check_both.kp; exact b_check_both T; exact (wok_takes (takes_of rfl rfl rfl rfl)); exact (ad_cons (pd_var 0) (ad_cons (pd_var 1) (ad_cons (pd_var 2) ad_nil))))) (sd_cons (sd_if (qd_not (qd_tr (by refine pd_call (k := 3) (f := T.a_has_each_once) (fd := T.d_has_each_once) (ps := P_has_each_once) (F := F_has_each_once) ?_ ?_ ?_ ?_ ?_ ?_ ?_ ?_; exact d_has_each_once T; exact hr.mono (by decide); exact rfl; exact T.g_has_each_once; exact T.F_has_each_once.kp; exact b_has_each_once T; exact (wok_takes (takes_of rfl rfl rfl rfl)); exact (ad_cons (pd_var 1) ad_nil)))) (sd_one (sd_raise rfl T.e_InvalidSection hr (takes_of rfl rfl rfl rfl) pd_str (by rfl) (by decide))) sd_nil) (sd_cons (sd_if (qd_ne hr.units (by refine pd_call (k := 3) (f := T.a_shape_of) (fd := T.d_shape_of) (ps := P_shape_of) (F := F_shape_of) ?_ ?_ ?_ ?_ ?_ ?_ ?_ ?_; exact d_shape_of T; exact hr.mono (by decide); exact rfl; exact T.g_shape_of; exact T.F_shape_of.kp; exact b_shape_of T; exact (wok_takes (takes_of rfl rfl rfl rfl)); exact (ad_cons (pd_var 1) ad_nil)) (by refine pd_call (k := 3) (f := T.a_shape_of) (fd := T.d_shape_of) (ps := P_shape_of) (F := F_shape_of) ?_ ?_ ?_ ?_ ?_ ?_ ?_ ?_; exact d_shape_of T; exact hr.mono (by decide); exact rfl; exact T.g_shape_of; exact T.F_shape_of.kp; exact b_shape_of T; exact (wok_takes (takes_of rfl rfl rfl rfl)); exact (ad_cons (pd_var 2) ad_nil))) (sd_one (sd_raise rfl T.e_InvalidSection hr (takes_of rfl rfl rfl rfl) pd_str (by rfl) (by decide))) sd_nil) (sd_cons (sd_expr (by refine pd_call (k := 3) (f := T.a_check_contents) (fd := T.d_check_contents) (ps := P_check_contents) (F := F_check_contents) ?_ ?_ ?_ ?_ ?_ ?_ ?_ ?_; exact d_check_contents T; exact hr.mono (by decide); exact rfl; exact T.g_check_contents; exact T.F_check_contents.kp; exact b_check_contents T; exact (wok_takes (takes_of rfl rfl rfl rfl)); exact (ad_cons (pd_var 0) (ad_cons (pd_var 3) ad_nil)))) (sd_cons (sd_new (ps_set (i := 4) sc_done.nd rfl (Or.inl rfl) (pl_ct call_list_of cl_list (by rfl) T.z_list (by decide +kernel) (ad_cons (pd_var 3) ad_nil)))) (sd_cons (sd_for (vs := [5, 6]) (passes_of rfl) rfl (id_zip2 (by rfl) T.z_zip (ad_cons (by refine pd_call (k := 3) (f := T.a_places_of) (fd := T.d_places_of) (ps := P_places_of) (F := F_places_of) ?_ ?_ ?_ ?_ ?_ ?_ ?_ ?_; exact d_places_of T; exact hr.mono (by decide); exact rfl; exact T.g_places_of; exact T.F_places_of.kp; exact b_places_of T; exact (wok_takes (takes_of rfl rfl rfl rfl)); exact (ad_cons (pd_var 0) (ad_cons (pd_var 1) ad_nil))) (ad_cons (by refine pd_call (k := 3) (f := T.a_places_of) (fd := T.d_places_of) (ps := P_places_of) (F := F_places_of) ?_ ?_ ?_ ?_ ?_ ?_ ?_ ?_; exact d_places_of T; exact hr.mono (by decide); exact rfl; exact T.g_places_of; exact T.F_places_of.kp; exact b_places_of T; exact (wok_takes (takes_of rfl rfl rfl rfl)); exact (ad_cons (pd_var 0) (ad_cons (pd_var 2) ad_nil))) ad_nil)) (aCons_len (aCons_len (fun _ _ _ _ h => aNil_len h)))) (gd_tup rfl (gd_cons (gd_name (i := 5) sc_done.nd rfl (Or.inl rfl) (by decide)) (gd_cons (gd_name (i := 6) sc_done.nd rfl (Or.inl rfl) (by decide)) gd_nil))) (sd_one (sd_setO (i := 4) (ps_asg (pd_ix (pd_var 3) (pd_var 6)) (pg_sub (pv 4) (pd_var 5) set_list))))) (sd_frzN 4 (sd_one (sd_ret (pd_var 4)))))))))))
def B_w_draw : DS := (sSeq (sIf (tE (eBin fGt (eBin fIx (eVar 0) (eC (.int 0))) (eC (.int 0)))) (sSeq (sAsg 2 (eBin fMod (eCB fInt (aCons (eBin fIx (eVar 0) (eC (.int 0))) aNil)) (eVar 1))) (sSeq (sSetW (eVar 0) (eC (.int 0)) (eBin fDiv (eBin fIx (eVar 0) (eC (.int 0))) (eVar 1))) (sRet (eVar 2)))) sNx) (sSeq (sSetW (eVar 0) (eC (.int 2)) (eBin fAdd (eBin fIx (eVar 0) (eC (.int 2))) (eC (.int 1)))) (sSeq (sAsg 3 (eBin fMod (eCB fInt (aCons (eBin fMul (eBin fAdd (eBin fAdd (eBin fIx (eVar 0) (eC (.int 1))) (eBin fMul (eC (.int 50021)) (eBin fIx (eVar 0) (eC (.int 2))))) (eC (.int 73))) (eC (.int 40692))) aNil)) (eC (.int 2147483629)))) (sSeq (sAsg 3 (eBin fMod (eCB fInt (aCons (eBin fMul (eVar 3) (eBin fAdd (eBin fDiv (eVar 3) (eC (.int 1031))) (eC (.int 69621)))) aNil)) (eC (.int 2147483579)))) (sRet (eBin fMod (eCB fInt (aCons (eBin fDiv (eBin fMod (eCB fInt (aCons (eBin fMul (eVar 3) (eBin fAdd (eBin fDiv (eVar 3) (eC (.int 2017))) (eC (.int 48271)))) aNil)) (eC (.int 2147483549))) (eC (.int 13))) aNil)) (eVar 1)))))))
def F_w_draw : DF := runB 4 2 B_w_draw
theorem d_w_draw (T : Txt K mg) : FnD P w K mg base 1 T.a_w_draw T.d_w_draw P_w_draw F_w_draw := fnD T.F_w_draw sc_w_draw (by decide) B_w_draw (fun cdv A outer s H E hr => (sd_cons (sd_if (qd_gt (pd_ix (pd_var 0) pd_int) pd_int) (sd_cons (sd_asg (ps_set (i := 2) sc_w_draw.nd rfl (Or.inl rfl) (pd_mod (pd_ct call_int1 cd_int (by rfl) T.z_int (by decide +kernel) (ad_cons (pd_ix (pd_var 0) pd_int) ad_nil)) (pd_var 1)))) (sd_cons (sd_setW (ps_asg (pd_div (pd_ix (pd_var 0) pd_int) (pd_var 1)) (pg_sub (pd_var 0) pd_int set_list))) (sd_one (sd_ret (pd_var 2))))) sd_nil) (sd_cons (sd_setW (ps_asg (pd_add (pd_ix (pd_var 0) pd_int) pd_int) (pg_sub (pd_var 0) pd_int set_list))) (sd_cons (sd_asg (ps_set (i := 3) sc_w_draw.nd rfl (Or.inl rfl) (pd_mod (pd_ct call_int1 cd_int (by rfl) T.z_int (by decide +kernel) (ad_cons (pd_mul (pd_add (pd_add (pd_ix (pd_var 0) pd_int) (pd_mul pd_int (pd_ix (pd_var 0) pd_int))) pd_int) pd_int) ad_nil)) pd_int))) (sd_cons (sd_asg (ps_set (i := 3) sc_w_draw.nd rfl (Or.inl rfl) (pd_mod (pd_ct call_int1 cd_int (by rfl) T.z_int (by decide +kernel) (ad_cons (pd_mul (pd_var 3) (pd_add (pd_div (pd_var 3) pd_int) pd_int)) ad_nil)) pd_int))) (sd_one (sd_ret (pd_mod (pd_ct call_int1 cd_int (by rfl) T.z_int (by decide +kernel) (ad_cons (pd_div (pd_mod (pd_ct call_int1 cd_int (by rfl) T.z_int (by decide +kernel) (ad_cons (pd_mul (pd_var 3) (pd_add (pd_div (pd_var 3) pd_int) pd_int)) ad_nil)) pd_int) pd_int) ad_nil)) (pd_var 1)))))))))
def B_w_pick : DS := (sRet (eBin fIx (eVar 1) (eCall 2 F_w_draw (aCons (eVar 0) (aCons (eCB fLen (aCons (eVar 1) aNil)) aNil)))))
def F_w_pick : DF := runB 2 2 B_w_pick
theorem d_w_pick (T : Txt K mg) : FnD P w K mg base 2 T.a_w_pick T.d_w_pick P_w_pick F_w_pick := fnD T.F_w_pick sc_w_pick (by decide) B_w_pick (fun cdv A outer s H E hr => (sd_one (sd_ret (pd_ix (pd_var 1) (by refine pd_call (k := 1) (f := T.a_w_draw) (fd := T.d_w_draw) (ps := P_w_draw) (F := F_w_draw) ?_ ?_ ?_ ?_ ?_ ?_ ?_ ?_; exact d_w_draw T; exact hr.mono (by decide); exact rfl; exact T.g_w_draw; exact T.F_w_draw.kp; exact b_w_draw T; exact (wok_takes (takes_of rfl rfl rfl rfl)); exact (ad_cons (pd_var 0) (ad_cons (pd_cb call_len cd_len (by rfl) T.z_len (by decide +kernel) (ad_cons (pd_var 1) ad_nil)) ad_nil)))))))
def B_w_run : DS := (sSeq (sAsg 3 (eCall 2 F_w_pick (aCons (eVar 0) (aCons (eL (aLst (aCons (eC (.int 1)) (aCons (eC (.int 1)) (aCons (eC (.int 2)) (aCons (eUn fNeg (eC (.int 1))) aNil)))))) aNil)))) (sSeq (sIf (tOn (tE (eBin fGe (eBin fMul (eCB fAbs (aCons (eVar 3) aNil)) (eBin fSub (eVar 1) (eC (.int 1)))) (eVar 2))) (tE (eBin fEq (eCall 2 F_w_draw (aCons (eVar 0) (aCons (eC (.int 2)) aNil))) (eC (.int 0))))) (sSeq (sMul [4, 5] (mOwn (aRg2 (eC (.int 1)) (eBin fAdd (eVar 2) (eC (.int 1)))) (mOwn (aLst aNil) aNil))) (sSeq (sFor (iRng1 (aCons (eVar 1) aNil)) (gN 6) (sAppPop 5 4 (eCall 2 F_w_draw (aCons (eVar 0) (aCons (eLenO 4) aNil))))) (sFrz 5 (sRet (eTup (aCons (eVar 5) (aCons (eL (eCBL fList (aCons (eVar 5) aNil))) aNil))))))) sNx) (sSeq (sAsg 7 (eBin fAdd (eC (.int 1)) (eCall 2 F_w_draw (aCons (eVar 0) (aCons (eBin fSub (eVar 2) (eBin fMul (eCB fAbs (aCons (eVar 3) aNil)) (eBin fSub (eVar 1) (eC (.int 1))))) aNil))))) (sSeq (sNew 5 (aLc (iRng1 (aCons (eVar 1) aNil)) (gN 8) tYesD (eBin fAdd (eVar 7) (eBin fMul (eCB fAbs (aCons (eVar 3) aNil)) (eVar 8))) [8])) (sFrz 5 (sRet (eIf (tE (eBin fGt (eVar 3) (eC (.int 0)))) (eTup (aCons (eTup (aCons (eBin fIx (eVar 5) (eC (.int 0))) (aCons (eBin fIx (eVar 5) (eUn fNeg (eC (.int 1)))) (aCons (eVar 3) aNil)))) (aCons (eVar 5) aNil))) (eTup (aCons (eTup (aCons (eBin fIx (eVar 5) (eUn fNeg (eC (.int 1)))) (aCons (eBin fIx (eVar 5) (eC (.int 0))) (aCons (eVar 3) aNil)))) (aCons (eRev (eVar 5)) aNil))))))))))
def F_w_run : DF := runB 9 3 B_w_run
theorem d_w_run (T : Txt K mg) : FnD P w K mg base 3 T.a_w_run T.d_w_run P_w_run F_w_run := fnD T.F_w_run sc_w_run (by decide) B_w_run (fun cdv A outer s H E hr => (sd_cons (sd_asg (ps_set (i := 3) sc_w_run.nd rfl (Or.inr rfl) (by refine pd_call (k := 2) (f := T.a_w_pick) (fd := T.d_w_pick) (ps := P_w_pick) (F := F_w_pick) ?_ ?_ ?_ ?_ ?_ ?_ ?_ ?_; exact d_w_pick T; exact hr.mono (by decide); exact rfl; exact T.g_w_pick; exact T.F_w_pick.kp; exact b_w_pick T; exact (wok_takes (takes_of rfl rfl rfl rfl)); exact (ad_cons (pd_var 0) (ad_cons (pd_L (pl_lst (ad_cons pd_int (ad_cons pd_int (ad_cons pd_int (ad_cons (pd_neg pd_int) ad_nil)))))) ad_nil))))) (sd_cons (sd_if (qd_or (qd_ge (pd_mul (pd_cb call_abs cd_abs (by rfl) T.z_abs (by decide +kernel) (ad_cons (pd_var 3) ad_nil)) (pd_sub (pd_var 1) pd_int)) (pd_var 2)) (qd_or1 (qd_eq hr.units (by refine pd_call (k := 1) (f := T.a_w_draw) (fd := T.d_w_draw) (ps := P_w_draw) (F := F_w_draw) ?_ ?_ ?_ ?_ ?_ ?_ ?_ ?_; exact d_w_draw T; exact hr.mono (by decide); exact rfl; exact T.g_w_draw; exact T.F_w_draw.kp; exact b_w_draw T; exact (wok_takes (takes_of rfl rfl rfl rfl)); exact (ad_cons (pd_var 0) (ad_cons pd_int ad_nil))) pd_int))).pt (sd_cons (sd_par2 (ps_par rfl sc_w_run.nd rfl rfl (by decide) rfl rfl (md_own (pl_rg2 rfl (by rfl) T.z_list (by rfl) T.z_range pd_int (pd_add (pd_var 2) pd_int)) (md_own (pl_lst ad_nil) md_nil)) rfl)) (sd_cons (sd_for (vs := [6]) (passes_of rfl) rfl (id_rng1 (by rfl) T.z_range (ad_cons (pd_var 1) ad_nil)) (gd_name (i := 6) sc_w_run.nd rfl (Or.inl rfl) (by decide)) (sd_one (sd_appPop (ps_expr (pe_bm PySem.F.plainAttrs_list PySem.F.slot_list_append PySem.F.type_list_append mt_append (pv 5) (pa_cons (pe_bm PySem.F.plainAttrs_list PySem.F.slot_list_pop PySem.F.type_list_pop mt_popAt (pv 4) (pa_cons (by refine pd_call (k := 1) (f := T.a_w_draw) (fd := T.d_w_draw) (ps := P_w_draw) (F := F_w_draw) ?_ ?_ ?_ ?_ ?_ ?_ ?_ ?_; exact d_w_draw T; exact hr.mono (by decide); exact rfl; exact T.g_w_draw; exact T.F_w_draw.kp; exact b_w_draw T; exact (wok_takes (takes_of rfl rfl rfl rfl)); exact (ad_cons (pd_var 0) (ad_cons (pd_lenO (by rfl) T.z_len (by decide +kernel) (pv 4)) ad_nil))) pa_nil)) pa_nil)))))) (sd_frz 5 (sd_one (sd_ret (pd_tup (ad_cons (pd_var 5) (ad_cons (pd_L (pl_ct call_list_of cl_list (by rfl) T.z_list (by decide +kernel) (ad_cons (pd_var 5) ad_nil))) ad_nil)))))))) sd_nil) (sd_cons (sd_asg (ps_set (i := 7) sc_w_run.nd rfl (Or.inr rfl) (pd_add pd_int (by refine pd_call (k := 1) (f := T.a_w_draw) (fd := T.d_w_draw) (ps := P_w_draw) (F := F_w_draw) ?_ ?_ ?_ ?_ ?_ ?_ ?_ ?_; exact d_w_draw T; exact hr.mono (by decide); exact rfl; exact T.g_w_draw; exact T.F_w_draw.kp; exact b_w_draw T; exact (wok_takes (takes_of rfl rfl rfl rfl)); exact (ad_cons (pd_var 0) (ad_cons (pd_sub (pd_var 2) (pd_mul (pd_cb call_abs cd_abs (by rfl) T.z_abs (by decide +kernel) (ad_cons (pd_var 3) ad_nil)) (pd_sub (pd_var 1) pd_int))) ad_nil)))))) (sd_cons (by first | exact sd_new (asg_weak (ps_setLc (own := [("_law_k", 8)]) (i := 5) rfl sc_w_run.nd rfl rfl rfl (id_rng1 (by rfl) T.z_range (ad_cons (pd_var 1) ad_nil)) (blkOk_by (own := [("_law_k", 8)]) (N := N_w_run) (sc := defScope s_w_run) (by decide +kernel)) (fun _ _ _ _ _ => (gd_name (i := 8) sc_w_run.nd rfl (by first | exact Or.inl rfl | exact Or.inr rfl) (by decide))) (fun _ _ _ _ _ => td_nil) (fun _ _ _ _ _ => (pd_add (pd_var 7) (pd_mul (pd_cb call_abs cd_abs (by rfl) T.z_abs (by decide +kernel) (ad_cons (pd_var 3) ad_nil)) (pd_var 8))))) (fun _ _ _ h => lc_ok h)) | exact sd_new (ps_set (i := 5) sc_w_run.nd rfl (Or.inl rfl) (pl_lc (own := [("_law_k", 8)]) rfl sc_w_run.nd (id_rng1 (by rfl) T.z_range (ad_cons (pd_var 1) ad_nil)) (blkOk_by (own := [("_law_k", 8)]) (N := N_w_run) (sc := defScope s_w_run) (by decide +kernel)) (fun _ _ _ _ _ => (gd_name (i := 8) sc_w_run.nd rfl (by first | exact Or.inl rfl | exact Or.inr rfl) (by decide))) (fun _ _ _ _ _ => td_nil) (fun _ _ _ _ _ => (pd_add (pd_var 7) (pd_mul (pd_cb call_abs cd_abs (by rfl) T.z_abs (by decide +kernel) (ad_cons (pd_var 3) ad_nil)) (pd_var 8))))))) (sd_frz 5 (sd_one (sd_ret (pd_if (qd_gt (pd_var 3) pd_int) (pd_tup (ad_cons (pd_tup (ad_cons (pd_ix (pd_var 5) pd_int) (ad_cons (pd_ix (pd_var 5) (pd_neg pd_int)) (ad_cons (pd_var 3) ad_nil)))) (ad_cons (pd_var 5) ad_nil))) (pd_tup (ad_cons (pd_tup (ad_cons (pd_ix (pd_var 5) (pd_neg pd_int)) (ad_cons (pd_ix (pd_var 5) pd_int) (ad_cons (pd_var 3) ad_nil)))) (ad_cons (pd_rev (pd_var 5)) ad_nil))))))))))))
def B_w_elements : DS := (sSeq (sAsg 1 (eL (aLst (aCons (eTup aNil) aNil)))) (sSeq (sFor (iSeq (eRev (eVar 0))) (gN 2) (sAsg 1 (eCB fSumL (aCons (eL (aLc (iSeq (eVar 1)) (gN 3) tYesD (eL (aLc (iSeq (eVar 2)) (gN 4) tYesD (eBin fAdd (eTup (aCons (eVar 4) aNil)) (eVar 3)) [4])) [3])) (aCons (eL (aLst aNil)) aNil))))) (sRet (eVar 1))))
def F_w_elements : DF := runB 5 1 B_w_elements
theorem d_w_elements (T : Txt K mg) : FnD P w K mg base 1 T.a_w_elements T.d_w_elements P_w_elements F_w_elements := fnD T.F_w_elements sc_w_elements (by decide) B_w_elements (fun cdv A outer s H E hr => (sd_cons (sd_asg (ps_set (i := 1) sc_w_elements.nd rfl (Or.inl rfl) (pd_L (pl_lst (ad_cons (pd_tup ad_nil) ad_nil))))) (sd_cons (sd_for (vs := [2]) (passes_of rfl) rfl (id_seq (pd_rev (pd_var 0))) (gd_name (i := 2) sc_w_elements.nd rfl (Or.inr rfl) (by decide)) (sd_one (sd_asg (ps_set (i := 1) sc_w_elements.nd rfl (Or.inl rfl) (pd_cb (cr_sumL rfl) cd_sumL (by rfl) T.z_sum (by decide +kernel) (ad_cons (pd_L (pl_lc (own := [("_law_rest", 3)]) rfl sc_w_elements.nd (id_seq (pd_var 1)) (blkOk_by (own := [("_law_rest", 3)]) (N := N_w_elements) (sc := defScope s_w_elements) (by decide +kernel)) (fun _ _ _ _ _ => (gd_name (i := 3) sc_w_elements.nd rfl (by first | exact Or.inl rfl | exact Or.inr rfl) (by decide))) (fun _ _ _ _ _ => td_nil) (fun _ _ _ _ _ => (pd_L (pl_lc (own := [("_law_subscript", 4)]) rfl sc_w_elements.nd (id_seq (pd_var 2)) (blkOk_by (own := [("_law_subscript", 4)]) (N := N_w_elements) (sc := (compEnvC _ _ _ _).scope) (by first | exact (rfl : blkC _ _ _ _ = true) | (simp only [compEnvC, relabel, List.map]; rfl) | (simp [compEnvC, relabel]; decide +kernel))) (fun _ _ _ _ _ => (gd_name (i := 4) sc_w_elements.nd rfl (by first | exact Or.inl rfl | exact Or.inr rfl) (by decide))) (fun _ _ _ _ _ => td_nil) (fun _ _ _ _ _ => (pd_add (pd_tup (ad_cons (pd_var 4) ad_nil)) (pd_var 3)))))))) (ad_cons (pd_L (pl_lst ad_nil)) ad_nil))))))) (sd_one (sd_ret (pd_var 1))))))
def B_w_place : DS := (sSeq (sMul [2, 3] (mVal (eC (.int 0)) (mVal (eC (.int 1)) aNil))) (sSeq (sFor (iZip (aCons (eVar 1) (aCons (eVar 0) aNil))) (gT (gCons' (gN 4) (gCons' (gT (gCons' (gN 5) (gCons' (gN 6) gNil')) 2) gNil')) 2) (sMul [2, 3] (mVal (eBin fAdd (eVar 2) (eBin fMul (eBin fSub (eVar 4) (eVar 5)) (eVar 3))) (mVal (eBin fMul (eVar 3) (eBin fAdd (eBin fSub (eVar 6) (eVar 5)) (eC (.int 1)))) aNil)))) (sRet (eVar 2))))
def F_w_place : DF := runB 7 2 B_w_place
theorem d_w_place (T : Txt K mg) : FnD P w K mg base 1 T.a_w_place T.d_w_place P_w_place F_w_place := fnD T.F_w_place sc_w_place (by decide) B_w_place (fun cdv A outer s H E hr => (sd_cons (sd_multi (ps_asg (pe_tup (md_val pd_int (md_val pd_int md_nil))) (pg_tup rfl (pgs_cons (pg_name (i := 2) sc_w_place.nd rfl (Or.inl rfl)) (pgs_cons (pg_name (i := 3) sc_w_place.nd rfl (Or.inl rfl)) pgs_nil)))) rfl (by decide)) (sd_cons (sd_for (vs := [4, 5, 6]) (passes_of rfl) rfl (id_zip2 (by rfl) T.z_zip (ad_cons (pd_var 1) (ad_cons (pd_var 0) ad_nil)) (aCons_len (aCons_len (fun _ _ _ _ h => aNil_len h)))) (gd_tup rfl (gd_cons (gd_name (i := 4) sc_w_place.nd rfl (Or.inl rfl) (by decide)) (gd_cons (gd_tup rfl (gd_cons (gd_name (i := 5) sc_w_place.nd rfl (Or.inl rfl) (by decide)) (gd_cons (gd_name (i := 6) sc_w_place.nd rfl (Or.inl rfl) (by decide)) gd_nil))) gd_nil))) (sd_one (sd_par2 (ps_par rfl sc_w_place.nd rfl rfl (by decide) rfl rfl (md_val (pd_add (pd_var 2) (pd_mul (pd_sub (pd_var 4) (pd_var 5)) (pd_var 3))) (md_val (pd_mul (pd_var 3) (pd_add (pd_sub (pd_var 6) (pd_var 5)) pd_int)) md_nil)) rfl)))) (sd_one (sd_ret (pd_var 2))))))
def B_w_side : DS := (sSeq (sMul [4, 5, 6] (mOwn (aLst aNil) (mOwn (aLst aNil) (mVal (eCall 2 F_w_draw (aCons (eVar 0) (aCons (eCB fLen (aCons (eVar 2) aNil)) aNil))) aNil)))) (sSeq (sNew 7 (eCBL fList (aCons (eVar 1) aNil))) (sSeq (sFor (iEnumS (aCons (eVar 2) aNil)) (gT (gCons' (gN 8) (gCons' (gN 9) gNil')) 2) (sIf (tE (eBin fEq (eVar 8) (eVar 6))) (sSeq (sAsg 10 (eBin fAdd (eC (.int 1)) (eCall 2 F_w_draw (aCons (eVar 0) (aCons (eVar 9) aNil))))) (sSeq (sApp 4 (eVar 10)) (sApp 5 (eL (aLst (aCons (eVar 10) aNil)))))) (sSeq (sTgPop (gT (gCons' (gN 11) (gCons' (gN 12) gNil')) 2) F_w_run 7 (eVar 0) (eC (.int 0)) (eVar 9)) (sSeq (sIf (tAn (tTr (eVar 3)) (tAn (tTr (eCB fIsi (aCons (eVar 11) (aCons (eC (.ty "list")) aNil)))) (tAn (tE (eBin fNe (eVar 11) (eL (aLst aNil)))) (tE (eBin fEq (eCall 2 F_w_draw (aCons (eVar 0) (aCons (eC (.int 2)) aNil))) (eC (.int 0))))))) (sMul [11, 12] (mVal (eBin fAdd (eSl (eVar 11) oNone (oSome (eUn fNeg (eC (.int 1))))) (eSl (eVar 11) oNone (oSome (eC (.int 1))))) (mVal (eBin fAdd (eSl (eVar 12) oNone (oSome (eUn fNeg (eC (.int 1))))) (eSl (eVar 12) oNone (oSome (eC (.int 1))))) aNil))) sNx) (sSeq (sApp 4 (eVar 11)) (sApp 5 (eVar 12))))))) (sFrz 5 (sFrz 4 (sRet (eTup (aCons (eCB fTuple (aCons (eVar 4) aNil)) (aCons (eCall 1 F_w_elements (aCons (eVar 5) aNil)) aNil)))))))))
def F_w_side : DF := runB 13 4 B_w_side
theorem d_w_side (T : Txt K mg) : FnD P w K mg base 4 T.a_w_side T.d_w_side P_w_side F_w_side := fnD T.F_w_side sc_w_side (by decide) B_w_side (fun cdv A outer s H E hr => (sd_cons (by first | exact (sd_par3 (ps_par3 rfl sc_w_side.nd rfl rfl rfl (by decide) (by decide) (by decide) rfl rfl rfl (md_own (pl_lst ad_nil) (md_own (pl_lst ad_nil) (md_val (by refine pd_call (k := 1) (f := T.a_w_draw) (fd := T.d_w_draw) (ps := P_w_draw) (F := F_w_draw) ?_ ?_ ?_ ?_ ?_ ?_ ?_ ?_; exact d_w_draw T; exact hr.mono (by decide); exact rfl; exact T.g_w_draw; exact T.F_w_draw.kp; exact b_w_draw T; exact (wok_takes (takes_of rfl rfl rfl rfl)); exact (ad_cons (pd_var 0) (ad_cons (pd_cb call_len cd_len (by rfl) T.z_len (by decide +kernel) (ad_cons (pd_var 2) ad_nil)) ad_nil))) md_nil))) rfl)) | exact (sd_multi (ps_asg (pe_tup (md_own (pl_lst ad_nil) (md_own (pl_lst ad_nil) (md_val (by refine pd_call (k := 1) (f := T.a_w_draw) (fd := T.d_w_draw) (ps := P_w_draw) (F := F_w_draw) ?_ ?_ ?_ ?_ ?_ ?_ ?_ ?_; exact d_w_draw T; exact hr.mono (by decide); exact rfl; exact T.g_w_draw; exact T.F_w_draw.kp; exact b_w_draw T; exact (wok_takes (takes_of rfl rfl rfl rfl)); exact (ad_cons (pd_var 0) (ad_cons (pd_cb call_len cd_len (by rfl) T.z_len (by decide +kernel) (ad_cons (pd_var 2) ad_nil)) ad_nil))) md_nil)))) (pg_tup rfl (pgs_cons (pg_name (i := 4) sc_w_side.nd rfl (Or.inl rfl)) (pgs_cons (pg_name (i := 5) sc_w_side.nd rfl (Or.inl rfl)) (pgs_cons (pg_name (i := 6) sc_w_side.nd rfl (Or.inl rfl)) pgs_nil))))) rfl (by decide))) (sd_cons (sd_new (ps_set (i := 7) sc_w_side.nd rfl (Or.inl rfl) (pl_ct call_list_of cl_list (by rfl) T.z_list (by decide +kernel) (ad_cons (pd_var 1) ad_nil)))) (sd_cons (sd_for (vs := [8, 9]) (passes_of rfl) rfl (id_enumS (by rfl) T.z_enumerate (ad_cons (pd_var 2) ad_nil)) (gd_tup rfl (gd_cons (gd_name (i := 8) sc_w_side.nd rfl (Or.inl rfl) (by decide)) (gd_cons (gd_name (i := 9) sc_w_side.nd rfl (Or.inl rfl) (by decide)) gd_nil))) (sd_one (sd_if (qd_eq hr.units (pd_var 8) (pd_var 6)) (sd_cons (sd_asg (ps_set (i := 10) sc_w_side.nd rfl (Or.inl rfl) (pd_add pd_int (by refine pd_call (k := 1) (f := T.a_w_draw) (fd := T.d_w_draw) (ps := P_w_draw) (F := F_w_draw) ?_ ?_ ?_ ?_ ?_ ?_ ?_ ?_; exact d_w_draw T; exact hr.mono (by decide); exact rfl; exact T.g_w_draw; exact T.F_w_draw.kp; exact b_w_draw T; exact (wok_takes (takes_of rfl rfl rfl rfl)); exact (ad_cons (pd_var 0) (ad_cons (pd_var 9) ad_nil)))))) (sd_cons (sd_app (ps_expr (pe_bm PySem.F.plainAttrs_list PySem.F.slot_list_append PySem.F.type_list_append mt_append (pv 4) (pa_cons (pd_var 10) pa_nil)))) (sd_one (sd_app (ps_expr (pe_bm PySem.F.plainAttrs_list PySem.F.slot_list_append PySem.F.type_list_append mt_append (pv 5) (pa_cons (pd_L (pl_lst (ad_cons (pd_var 10) ad_nil))) pa_nil))))))) (sd_cons (by refine sd_tgPop (vs := [11, 12]) (ps_asg (pd_callPop (k := 3) (f := T.a_w_run) (fd := T.d_w_run) (ps := P_w_run) (F := F_w_run) ?_ rfl ?_ ?_ ?_ ?_ ?_ ?_ ?_) (gd_tup rfl (gd_cons (gd_name (i := 11) sc_w_side.nd rfl (Or.inl rfl) (by decide)) (gd_cons (gd_name (i := 12) sc_w_side.nd rfl (Or.inl rfl) (by decide)) gd_nil)))); exact d_w_run T; exact hr.mono (by decide); exact rfl; exact T.g_w_run; exact T.F_w_run.kp; exact b_w_run T; exact (wok_takes (takes_of rfl rfl rfl rfl)); exact (pa_cons (pd_var 0) (pa_cons (pe_bm PySem.F.plainAttrs_list PySem.F.slot_list_pop PySem.F.type_list_pop mt_popAt (pv 7) (pa_cons pd_int pa_nil)) (pa_cons (pd_var 9) pa_nil)))) (sd_cons (sd_if (qd_and (qd_tr (pd_var 3)) (qd_and (qd_tr (pd_cb call_isiA cd_isi (by rfl) T.z_isinstance (by decide +kernel) (ad_cons (pd_var 11) (ad_cons (pd_ty (by rfl) T.z_list (by decide +kernel)) ad_nil)))) (qd_and (qd_ne hr.units (pd_var 11) (pd_L (pl_lst ad_nil))) (qd_and1 (qd_eq hr.units (by refine pd_call (k := 1) (f := T.a_w_draw) (fd := T.d_w_draw) (ps := P_w_draw) (F := F_w_draw) ?_ ?_ ?_ ?_ ?_ ?_ ?_ ?_; exact d_w_draw T; exact hr.mono (by decide); exact rfl; exact T.g_w_draw; exact T.F_w_draw.kp; exact b_w_draw T; exact (wok_takes (takes_of rfl rfl rfl rfl)); exact (ad_cons (pd_var 0) (ad_cons pd_int ad_nil))) pd_int))))).pt (sd_one (sd_par2 (ps_par rfl sc_w_side.nd rfl rfl (by decide) rfl rfl (md_val (pd_add (pd_sl (pd_var 11) od_none (od_some (pd_neg pd_int))) (pd_sl (pd_var 11) od_none (od_some pd_int))) (md_val (pd_add (pd_sl (pd_var 12) od_none (od_some (pd_neg pd_int))) (pd_sl (pd_var 12) od_none (od_some pd_int))) md_nil)) rfl))) sd_nil) (sd_cons (sd_app (ps_expr (pe_bm PySem.F.plainAttrs_list PySem.F.slot_list_append PySem.F.type_list_append mt_append (pv 4) (pa_cons (pd_var 11) pa_nil)))) (sd_one (sd_app (ps_expr (pe_bm PySem.F.plainAttrs_list PySem.F.slot_list_append PySem.F.type_list_append mt_append (pv 5) (pa_cons (pd_var 12) pa_nil))))))))))) (sd_frz 5 (sd_frz 4 (sd_one (sd_ret (pd_tup (ad_cons (pd_ct call_tuple_of cd_tuple (by rfl) T.z_tuple (by decide +kernel) (ad_cons (pd_var 4) ad_nil)) (ad_cons (by refine pd_call (k := 1) (f := T.a_w_elements) (fd := T.d_w_elements) (ps := P_w_elements) (F := F_w_elements) ?_ ?_ ?_ ?_ ?_ ?_ ?_ ?_; exact d_w_elements T; exact hr.mono (by decide); exact rfl; exact T.g_w_elements; exact T.F_w_elements.kp; exact b_w_elements T; exact (wok_takes (takes_of rfl rfl rfl rfl)); exact (ad_cons (pd_var 5) ad_nil)) ad_nil)))))))))))
def B_w_right : DS := (sSeq (sAsg 2 (eL (aLc (iRng1 (aCons (eBin fAdd (eC (.int 1)) (eCall 2 F_w_draw (aCons (eVar 0) (aCons (eC (.int 4)) aNil)))) aNil)) (gN 1) tYesD (eBin fAdd (eC (.int 4)) (eCall 2 F_w_draw (aCons (eVar 0) (aCons (eC (.int 3)) aNil)))) [1]))) (sSeq (sAsg 3 (eL (aLc (iRng1 (aCons (eBin fSub (eCB fLen (aCons (eVar 2) aNil)) (eC (.int 1))) aNil)) (gN 1) tYesD (eBin fAdd (eC (.int 1)) (eCall 2 F_w_draw (aCons (eVar 0) (aCons (eC (.int 4)) aNil)))) [1]))) (sSeq (sTg (gT (gCons' (gN 4) (gCons' (gN 5) gNil')) 2) (eCall 4 F_w_side (aCons (eVar 0) (aCons (eVar 3) (aCons (eVar 2) (aCons (eC (.bl false)) aNil)))))) (sSeq (sTg (gT (gCons' (gN 6) (gCons' (gN 7) gNil')) 2) (eCall 4 F_w_side (aCons (eVar 0) (aCons (eVar 3) (aCons (eVar 2) (aCons (eC (.bl true)) aNil)))))) (sSeq (sAsg 9 (eCB fTuple (aCons (eL (aLc (iSeq (eVar 2)) (gN 8) tYesD (eTup (aCons (eC (.int 1)) (aCons (eVar 8) aNil))) [8])) aNil))) (sSeq (sAsg 10 (eC (.int 1))) (sSeq (sFor (iSeq (eVar 2)) (gN 8) (sAsg 10 (eBin fMul (eVar 10) (eVar 8)))) (sSeq (sAsg 11 (eL (aLc (iRng1 (aCons (eVar 10) aNil)) (gN 1) tYesD (eCall 2 F_w_pick (aCons (eVar 0) (aCons (eL (aLst (aCons (eVar 1) (aCons (eCB fStrI (aCons (eVar 1) aNil)) (aCons (eTup (aCons (eVar 1) aNil)) (aCons (eL (aLst (aCons (eVar 1) aNil))) (aCons (eC .non) aNil))))))) aNil))) [1]))) (sSeq (sMul [12, 13] (mOwn (eCBL fList (aCons (eVar 11) aNil)) (mVal (eCB fRepr (aCons (eVar 11) aNil)) aNil))) (sSeq (sFor (iZip (aCons (eVar 5) (aCons (eVar 7) aNil))) (gT (gCons' (gN 14) (gCons' (gN 15) gNil')) 2) (sSetO 12 (eCall 2 F_w_place (aCons (eVar 9) (aCons (eVar 14) aNil))) (eBin fIx (eVar 11) (eCall 2 F_w_place (aCons (eVar 9) (aCons (eVar 15) aNil)))))) (sSeq (sNew 16 (aNewA (eCall 4 F_done (aCons (eVar 9) (aCons (eVar 4) (aCons (eVar 6) (aCons (eVar 11) aNil))))))) (sFrz 12 (sSeq (sIf (lendT 16 (tOn (tE (eBin fNe (eVar 16) (eVar 12))) (tE (eBin fNe (eCB fRepr (aCons (eVar 11) aNil)) (eVar 13))))) (sRet (eC (.bl false))) sNx) (sSeq (sClr 16) (sSeq (sIf (tOn (tE (eBin fNe (eWk (eCall 4 F_done (aCons (eVar 9) (aCons (eVar 4) (aCons (eVar 6) (aCons (eVar 11) aNil)))))) (eVar 12))) (tE (eBin fNe (eCB fRepr (aCons (eVar 11) aNil)) (eVar 13)))) (sRet (eC (.bl false))) sNx) (sSeq (sFor (iEnumS (aCons (eVar 4) aNil)) (gT (gCons' (gN 1) (gCons' (gN 17) gNil')) 2) (sIf (tAn (tTr (eCB fIsi (aCons (eVar 17) (aCons (eC (.ty "list")) aNil)))) (tE (eBin fGt (eCB fLen (aCons (eVar 17) aNil)) (eC (.int 1))))) (sSeq (sAsg 18 (eBin fAdd (eBin fAdd (eSl (eVar 4) oNone (oSome (eVar 1))) (eTup (aCons (eBin fAdd (eSl (eVar 17) oNone (oSome (eUn fNeg (eC (.int 1))))) (eSl (eVar 17) oNone (oSome (eC (.int 1))))) aNil))) (eSl (eVar 4) (oSome (eBin fAdd (eVar 1) (eC (.int 1)))) oNone))) (sSeq (sTryEq 19 (sDrop (eWk (eCall 4 F_done (aCons (eVar 9) (aCons (eVar 18) (aCons (eVar 6) (aCons (eC .non) aNil))))))) "InvalidSection" "twice") (sRet (eC (.bl false))))) sNx)) (sRet (eC (.bl true)))))))))))))))))))
def F_w_right : DF := runB 20 1 B_w_right
theorem d_w_right (T : Txt K mg) : FnGD P w K mg base 9 T.a_w_right T.d_w_right P_w_right F_w_right := fnG T.F_w_right sc_w_right (by decide) B_w_right (fun cdv A outer s H E hr hgd => (sd_cons (by first | exact sd_asg (asg_weak (ps_setLc (own := [("_law_k", 1)]) (i := 2) rfl sc_w_right.nd rfl rfl rfl (id_rng1 (by rfl) T.z_range (ad_cons (pd_add pd_int (by refine pd_call (k := 1) (f := T.a_w_draw) (fd := T.d_w_draw) (ps := P_w_draw) (F := F_w_draw) ?_ ?_ ?_ ?_ ?_ ?_ ?_ ?_; exact d_w_draw T; exact hr.mono (by decide); exact rfl; exact T.g_w_draw; exact T.F_w_draw.kp; exact b_w_draw T; exact (wok_takes (takes_of rfl rfl rfl rfl)); exact (ad_cons (pd_var 0) (ad_cons pd_int ad_nil)))) ad_nil)) (blkOk_by (own := [("_law_k", 1)]) (N := N_w_right) (sc := defScope s_w_right) (by decide +kernel)) (fun _ _ _ _ _ => (gd_name (i := 1) sc_w_right.nd rfl (by first | exact Or.inl rfl | exact Or.inr rfl) (by decide))) (fun _ _ _ _ _ => td_nil) (fun _ _ _ _ _ => (pd_add pd_int (by refine pd_call (k := 1) (f := T.a_w_draw) (fd := T.d_w_draw) (ps := P_w_draw) (F := F_w_draw) ?_ ?_ ?_ ?_ ?_ ?_ ?_ ?_; exact d_w_draw T; exact hr.mono (by decide); exact rfl; exact T.g_w_draw; exact T.F_w_draw.kp; exact b_w_draw T; exact wok0; exact (ad_cons (pd_var 0) (ad_cons pd_int ad_nil)))))) (fun _ _ _ h => lc_ok (eL_ok h))) | exact sd_asg (ps_set (i := 2) sc_w_right.nd rfl (Or.inl rfl) (pd_L (pl_lc (own := [("_law_k", 1)]) rfl sc_w_right.nd (id_rng1 (by rfl) T.z_range (ad_cons (pd_add pd_int (by refine pd_call (k := 1) (f := T.a_w_draw) (fd := T.d_w_draw) (ps := P_w_draw) (F := F_w_draw) ?_ ?_ ?_ ?_ ?_ ?_ ?_ ?_; exact d_w_draw T; exact hr.mono (by decide); exact rfl; exact T.g_w_draw; exact T.F_w_draw.kp; exact b_w_draw T; exact (wok_takes (takes_of rfl rfl rfl rfl)); exact (ad_cons (pd_var 0) (ad_cons pd_int ad_nil)))) ad_nil)) (blkOk_by (own := [("_law_k", 1)]) (N := N_w_right) (sc := defScope s_w_right) (by decide +kernel)) (fun _ _ _ _ _ => (gd_name (i := 1) sc_w_right.nd rfl (by first | exact Or.inl rfl | exact Or.inr rfl) (by decide))) (fun _ _ _ _ _ => td_nil) (fun _ _ _ _ _ => (pd_add pd_int (by refine pd_call (k := 1) (f := T.a_w_draw) (fd := T.d_w_draw) (ps := P_w_draw) (F := F_w_draw) ?_ ?_ ?_ ?_ ?_ ?_ ?_ ?_; exact d_w_draw T; exact hr.mono (by decide); exact rfl; exact T.g_w_draw; exact T.F_w_draw.kp; exact b_w_draw T; exact wok0; exact (ad_cons (pd_var 0) (ad_cons pd_int ad_nil))))))))) (sd_cons (by first | exact sd_asg (asg_weak (ps_setLc (own := [("_law_k", 1)]) (i := 3) rfl sc_w_right.nd rfl rfl rfl (id_rng1 (by rfl) T.z_range (ad_cons (pd_sub (pd_cb call_len cd_len (by rfl) T.z_len (by decide +kernel) (ad_cons (pd_var 2) ad_nil)) pd_int) ad_nil)) (blkOk_by (own := [("_law_k", 1)]) (N := N_w_right) (sc := defScope s_w_right) (by decide +kernel)) (fun _ _ _ _ _ => (gd_name (i := 1) sc_w_right.nd rfl (by first | exact Or.inl rfl | exact Or.inr rfl) (by decide))) (fun _ _ _ _ _ => td_nil) (fun _ _ _ _ _ => (pd_add pd_int (by refine pd_call (k := 1) (f := T.a_w_draw) (fd := T.d_w_draw) (ps := P_w_draw) (F := F_w_draw) ?_ ?_ ?_ ?_ ?_ ?_ ?_ ?_; exact d_w_draw T; exact hr.mono (by decide); exact rfl; exact T.g_w_draw; exact T.F_w_draw.kp; exact b_w_draw T; exact wok0; exact (ad_cons (pd_var 0) (ad_cons pd_int ad_nil)))))) (fun _ _ _ h => lc_ok (eL_ok h))) | exact sd_asg (ps_set (i := 3) sc_w_right.nd rfl (Or.inl rfl) (pd_L (pl_lc (own := [("_law_k", 1)]) rfl sc_w_right.nd (id_rng1 (by rfl) T.z_range (ad_cons (pd_sub (pd_cb call_len cd_len (by rfl) T.z_len (by decide +kernel) (ad_cons (pd_var 2) ad_nil)) pd_int) ad_nil)) (blkOk_by (own := [("_law_k", 1)]) (N := N_w_right) (sc := defScope s_w_right) (by decide +kernel)) (fun _ _ _ _ _ => (gd_name (i := 1) sc_w_right.nd rfl (by first | exact Or.inl rfl | exact Or.inr rfl) (by decide))) (fun _ _ _ _ _ => td_nil) (fun _ _ _ _ _ => (pd_add pd_int (by refine pd_call (k := 1) (f := T.a_w_draw) (fd := T.d_w_draw) (ps := P_w_draw) (F := F_w_draw) ?_ ?_ ?_ ?_ ?_ ?_ ?_ ?_; exact d_w_draw T; exact hr.mono (by decide); exact rfl; exact T.g_w_draw; exact T.F_w_draw.kp; exact b_w_draw T; exact wok0; exact (ad_cons (pd_var 0) (ad_cons pd_int ad_nil))))))))) (sd_cons (sd_tg (vs := [4, 5]) (ps_asg (by refine pd_call (k := 4) (f := T.a_w_side) (fd := T.d_w_side) (ps := P_w_side) (F := F_w_side) ?_ ?_ ?_ ?_ ?_ ?_ ?_ ?_; exact d_w_side T; exact hr.mono (by decide); exact rfl; exact T.g_w_side; exact T.F_w_side.kp; exact b_w_side T; exact (wok_takes (takes_of rfl rfl rfl rfl)); exact (ad_cons (pd_var 0) (ad_cons (pd_var 3) (ad_cons (pd_var 2) (ad_cons pd_bl ad_nil))))) (gd_tup rfl (gd_cons (gd_name (i := 4) sc_w_right.nd rfl (Or.inl rfl) (by decide)) (gd_cons (gd_name (i := 5) sc_w_right.nd rfl (Or.inl rfl) (by decide)) gd_nil))))) (sd_cons (sd_tg (vs := [6, 7]) (ps_asg (by refine pd_call (k := 4) (f := T.a_w_side) (fd := T.d_w_side) (ps := P_w_side) (F := F_w_side) ?_ ?_ ?_ ?_ ?_ ?_ ?_ ?_; exact d_w_side T; exact hr.mono (by decide); exact rfl; exact T.g_w_side; exact T.F_w_side.kp; exact b_w_side T; exact (wok_takes (takes_of rfl rfl rfl rfl)); exact (ad_cons (pd_var 0) (ad_cons (pd_var 3) (ad_cons (pd_var 2) (ad_cons pd_bl ad_nil))))) (gd_tup rfl (gd_cons (gd_name (i := 6) sc_w_right.nd rfl (Or.inl rfl) (by decide)) (gd_cons (gd_name (i := 7) sc_w_right.nd rfl (Or.inl rfl) (by decide)) gd_nil))))) (sd_cons (sd_asg (ps_set (i := 9) sc_w_right.nd rfl (Or.inl rfl) (pd_ct call_tuple_of cd_tuple (by rfl) T.z_tuple (by decide +kernel) (ad_cons (pd_L (pl_lc (own := [("_law_top", 8)]) rfl sc_w_right.nd (id_seq (pd_var 2)) (blkOk_by (own := [("_law_top", 8)]) (N := N_w_right) (sc := defScope s_w_right) (by decide +kernel)) (fun _ _ _ _ _ => (gd_name (i := 8) sc_w_right.nd rfl (by first | exact Or.inl rfl | exact Or.inr rfl) (by decide))) (fun _ _ _ _ _ => td_nil) (fun _ _ _ _ _ => (pd_tup (ad_cons pd_int (ad_cons (pd_var 8) ad_nil)))))) ad_nil)))) (sd_cons (sd_asg (ps_set (i := 10) sc_w_right.nd rfl (Or.inl rfl) pd_int)) (sd_cons (sd_for (vs := [8]) (passes_of rfl) rfl (id_seq (pd_var 2)) (gd_name (i := 8) sc_w_right.nd rfl (Or.inl rfl) (by decide)) (sd_one (sd_asg (ps_set (i := 10) sc_w_right.nd rfl (Or.inl rfl) (pd_mul (pd_var 10) (pd_var 8)))))) (sd_cons (by first | exact sd_asg (asg_weak (ps_setLc (own := [("_law_k", 1)]) (i := 11) rfl sc_w_right.nd rfl rfl rfl (id_rng1 (by rfl) T.z_range (ad_cons (pd_var 10) ad_nil)) (blkOk_by (own := [("_law_k", 1)]) (N := N_w_right) (sc := defScope s_w_right) (by decide +kernel)) (fun _ _ _ _ _ => (gd_name (i := 1) sc_w_right.nd rfl (by first | exact Or.inl rfl | exact Or.inr rfl) (by decide))) (fun _ _ _ _ _ => td_nil) (fun _ _ _ _ _ => (by refine pd_call (k := 2) (f := T.a_w_pick) (fd := T.d_w_pick) (ps := P_w_pick) (F := F_w_pick) ?_ ?_ ?_ ?_ ?_ ?_ ?_ ?_; exact d_w_pick T; exact hr.mono (by decide); exact rfl; exact T.g_w_pick; exact T.F_w_pick.kp; exact b_w_pick T; exact wok0; exact (ad_cons (pd_var 0) (ad_cons (pd_L (pl_lst (ad_cons (pd_var 1) (ad_cons (pd_ct call_str_int cd_strI (by rfl) T.z_str (by decide +kernel) (ad_cons (pd_var 1) ad_nil)) (ad_cons (pd_tup (ad_cons (pd_var 1) ad_nil)) (ad_cons (pd_L (pl_lst (ad_cons (pd_var 1) ad_nil))) (ad_cons pd_non ad_nil))))))) ad_nil))))) (fun _ _ _ h => lc_ok (eL_ok h))) | exact sd_asg (ps_set (i := 11) sc_w_right.nd rfl (Or.inl rfl) (pd_L (pl_lc (own := [("_law_k", 1)]) rfl sc_w_right.nd (id_rng1 (by rfl) T.z_range (ad_cons (pd_var 10) ad_nil)) (blkOk_by (own := [("_law_k", 1)]) (N := N_w_right) (sc := defScope s_w_right) (by decide +kernel)) (fun _ _ _ _ _ => (gd_name (i := 1) sc_w_right.nd rfl (by first | exact Or.inl rfl | exact Or.inr rfl) (by decide))) (fun _ _ _ _ _ => td_nil) (fun _ _ _ _ _ => (by refine pd_call (k := 2) (f := T.a_w_pick) (fd := T.d_w_pick) (ps := P_w_pick) (F := F_w_pick) ?_ ?_ ?_ ?_ ?_ ?_ ?_ ?_; exact d_w_pick T; exact hr.mono (by decide); exact rfl; exact T.g_w_pick; exact T.F_w_pick.kp; exact b_w_pick T; exact wok0; exact (ad_cons (pd_var 0) (ad_cons (pd_L (pl_lst (ad_cons (pd_var 1) (ad_cons (pd_ct call_str_int cd_strI (by rfl) T.z_str (by decide +kernel) (ad_cons (pd_var 1) ad_nil)) (ad_cons (pd_tup (ad_cons (pd_var 1) ad_nil)) (ad_cons (pd_L (pl_lst (ad_cons (pd_var 1) ad_nil))) (ad_cons pd_non ad_nil))))))) ad_nil)))))))) (sd_cons (sd_par2 (ps_par rfl sc_w_right.nd rfl rfl (by decide) rfl rfl (md_own (pl_ct call_list_of cl_list (by rfl) T.z_list (by decide +kernel) (ad_cons (pd_var 11) ad_nil)) (md_val (pd_cb (call_repr hgd (units65 hr)) cd_repr (by rfl) T.z_repr (by decide +kernel) (ad_cons (pd_var 11) ad_nil)) md_nil)) rfl)) (sd_cons (sd_for (vs := [14, 15]) (passes_of rfl) rfl (id_zip2 (by rfl) T.z_zip (ad_cons (pd_var 5) (ad_cons (pd_var 7) ad_nil)) (aCons_len (aCons_len (fun _ _ _ _ h => aNil_len h)))) (gd_tup rfl (gd_cons (gd_name (i := 14) sc_w_right.nd rfl (Or.inl rfl) (by decide)) (gd_cons (gd_name (i := 15) sc_w_right.nd rfl (Or.inl rfl) (by decide)) gd_nil))) (sd_one (sd_setO (i := 12) (ps_asg (pd_ix (pd_var 11) (by refine pd_call (k := 1) (f := T.a_w_place) (fd := T.d_w_place) (ps := P_w_place) (F := F_w_place) ?_ ?_ ?_ ?_ ?_ ?_ ?_ ?_; exact d_w_place T; exact hr.mono (by decide); exact rfl; exact T.g_w_place; exact T.F_w_place.kp; exact b_w_place T; exact (wok_takes (takes_of rfl rfl rfl rfl)); exact (ad_cons (pd_var 9) (ad_cons (pd_var 15) ad_nil)))) (pg_sub (pv 12) (by refine pd_call (k := 1) (f := T.a_w_place) (fd := T.d_w_place) (ps := P_w_place) (F := F_w_place) ?_ ?_ ?_ ?_ ?_ ?_ ?_ ?_; exact d_w_place T; exact hr.mono (by decide); exact rfl; exact T.g_w_place; exact T.F_w_place.kp; exact b_w_place T; exact (wok_takes (takes_of rfl rfl rfl rfl)); exact (ad_cons (pd_var 9) (ad_cons (pd_var 14) ad_nil))) set_list))))) (sd_cons (sd_new (ps_set (i := 16) sc_w_right.nd rfl (Or.inl rfl) (pl_newA (fun _ => (by refine pd_call (k := 8) (f := T.a_done) (fd := T.d_done) (ps := P_done) (F := F_done) ?_ ?_ ?_ ?_ ?_ ?_ ?_ ?_; exact d_done T; exact hr.mono (by decide); exact rfl; exact T.g_done; exact T.F_done.kp; exact b_done T; exact (wok_takes (takes_of rfl rfl rfl rfl)); exact (ad_cons (pd_var 9) (ad_cons (pd_var 4) (ad_cons (pd_var 6) (ad_cons (pd_var 11) ad_nil))))))))) (sd_frz 12 (sd_cons (sd_if (qd_lend 16 (qd_or (qd_ne hr.units (pd_var 16) (pd_var 12)) (qd_or1 (qd_ne hr.units (pd_cb (call_repr hgd (units65 hr)) cd_repr (by rfl) T.z_repr (by decide +kernel) (ad_cons (pd_var 11) ad_nil)) (pd_var 13)))).pt) (sd_one (sd_ret pd_bl)) sd_nil) (sd_cons (sd_clr (ps_expr (pe_bm0 PySem.F.plainAttrs_list PySem.F.slot_list_clear PySem.F.type_list_clear mt_clear (pv 16)))) (sd_cons (sd_if (qd_or (qd_ne hr.units (pd_wk (by refine pd_call (k := 8) (f := T.a_done) (fd := T.d_done) (ps := P_done) (F := F_done) ?_ ?_ ?_ ?_ ?_ ?_ ?_ ?_; exact d_done T; exact hr.mono (by decide); exact rfl; exact T.g_done; exact T.F_done.kp; exact b_done T; exact (wok_takes (takes_of rfl rfl rfl rfl)); exact (ad_cons (pd_var 9) (ad_cons (pd_var 4) (ad_cons (pd_var 6) (ad_cons (pd_var 11) ad_nil)))))) (pd_var 12)) (qd_or1 (qd_ne hr.units (pd_cb (call_repr hgd (units65 hr)) cd_repr (by rfl) T.z_repr (by decide +kernel) (ad_cons (pd_var 11) ad_nil)) (pd_var 13)))).pt (sd_one (sd_ret pd_bl)) sd_nil) (sd_cons (sd_for (vs := [1, 17]) (passes_of rfl) rfl (id_enumS (by rfl) T.z_enumerate (ad_cons (pd_var 4) ad_nil)) (gd_tup rfl (gd_cons (gd_name (i := 1) sc_w_right.nd rfl (Or.inl rfl) (by decide)) (gd_cons (gd_name (i := 17) sc_w_right.nd rfl (Or.inl rfl) (by decide)) gd_nil))) (sd_one (sd_if (qd_and (qd_tr (pd_cb call_isiA cd_isi (by rfl) T.z_isinstance (by decide +kernel) (ad_cons (pd_var 17) (ad_cons (pd_ty (by rfl) T.z_list (by decide +kernel)) ad_nil)))) (qd_and1 (qd_gt (pd_cb call_len cd_len (by rfl) T.z_len (by decide +kernel) (ad_cons (pd_var 17) ad_nil)) pd_int))).pt (sd_cons (sd_asg (ps_set (i := 18) sc_w_right.nd rfl (Or.inl rfl) (pd_add (pd_add (pd_sl (pd_var 4) od_none (od_some (pd_var 1))) (pd_tup (ad_cons (pd_add (pd_sl (pd_var 17) od_none (od_some (pd_neg pd_int))) (pd_sl (pd_var 17) od_none (od_some pd_int))) ad_nil))) (pd_sl (pd_var 4) (od_some (pd_add (pd_var 1) pd_int)) od_none)))) (sd_cons (sd_tryEq (i := 19) T.e_InvalidSection rfl rfl sc_w_right.nd rfl rfl ⟨rfl, by decide, Or.inl T.e_InvalidSection.gC⟩ (takes_of rfl rfl rfl rfl) (Or.inl rfl) (by decide) (by decide) (fun W pn xe tk => (sd_one (sd_expr (pd_wk (by refine pd_call (k := 8) (f := T.a_done) (fd := T.d_done) (ps := P_done) (F := F_done) ?_ ?_ ?_ ?_ ?_ ?_ ?_ ?_; exact d_done T; exact hr.mono (by decide); exact rfl; exact T.g_done; exact T.F_done.kp; exact b_done T; exact (wok_takes tk); exact (ad_cons (pd_var 9) (ad_cons (pd_var 18) (ad_cons (pd_var 6) (ad_cons pd_non ad_nil)))))))))) (sd_one (sd_ret pd_bl)))) sd_nil))) (sd_one (sd_ret pd_bl)))))))))))))))))))
def B_w_long_right : DS := (sSeq (sMul [1, 2] (mVal (eBin fAdd (eC (.int 2)) (eCall 2 F_w_draw (aCons (eVar 0) (aCons (eC (.int 63)) aNil)))) (mVal (eBin fAdd (eC (.int 64)) (eCall 2 F_w_draw (aCons (eVar 0) (aCons (eC (.int 40)) aNil)))) aNil))) (sSeq (sMul [3, 4] (mOwn (aRg2 (eC (.int 1)) (eBin fAdd (eVar 2) (eC (.int 1)))) (mOwn (aLst aNil) aNil))) (sSeq (sFor (iRng1 (aCons (eVar 1) aNil)) (gN 5) (sAppPop 4 3 (eCall 2 F_w_draw (aCons (eVar 0) (aCons (eLenO 3) aNil))))) (sSeq (sAsg 6 (eL (aLc (iRng1 (aCons (eVar 1) aNil)) (gN 5) tYesD (eBin fAdd (eC (.int 1)) (eCall 2 F_w_draw (aCons (eVar 0) (aCons (eVar 2) aNil)))) [5]))) (sSeq (sAsg 7 (eL (aLc (iRng1 (aCons (eVar 2) aNil)) (gN 5) tYesD (eCall 2 F_w_draw (aCons (eVar 0) (aCons (eC (.int 1000)) aNil))) [5]))) (sSeq (sNew 8 (eCBL fList (aCons (eVar 7) aNil))) (sFrz 4 (sSeq (sFor (iZip (aCons (eVar 4) (aCons (eVar 6) aNil))) (gT (gCons' (gN 9) (gCons' (gN 10) gNil')) 2) (sSetO 8 (eBin fSub (eVar 9) (eC (.int 1))) (eBin fIx (eVar 7) (eBin fSub (eVar 10) (eC (.int 1)))))) (sFrz 8 (sSeq (sIf (tE (eBin fNe (eWk (eCall 4 F_done (aCons (eTup (aCons (eTup (aCons (eC (.int 1)) (aCons (eVar 2) aNil))) aNil)) (aCons (eTup (aCons (eVar 4) aNil)) (aCons (eTup (aCons (eVar 6) aNil)) (aCons (eVar 7) aNil)))))) (eVar 8))) (sRet (eC (.bl false))) sNx) (sSeq (sTryEq 11 (sDrop (eWk (eCall 4 F_done (aCons (eTup (aCons (eTup (aCons (eC (.int 1)) (aCons (eVar 2) aNil))) aNil)) (aCons (eTup (aCons (eBin fAdd (eSl (eVar 4) oNone (oSome (eUn fNeg (eC (.int 1))))) (eSl (eSl (eVar 4) (oSome (eCall 2 F_w_draw (aCons (eVar 0) (aCons (eBin fSub (eVar 1) (eC (.int 1))) aNil)))) oNone) oNone (oSome (eC (.int 1))))) aNil)) (aCons (eTup (aCons (eVar 6) aNil)) (aCons (eVar 7) aNil))))))) "InvalidSection" "twice") (sRet (eC (.bl false))))))))))))))
def F_w_long_right : DF := runB 12 1 B_w_long_right
theorem d_w_long_right (T : Txt K mg) : FnD P w K mg base 9 T.a_w_long_right T.d_w_long_right P_w_long_right F_w_long_right := fnD T.F_w_long_right sc_w_long_right (by decide) B_w_long_right (fun cdv A outer s H E hr => (sd_cons (sd_multi (ps_asg (pe_tup (md_val (pd_add pd_int (by refine pd_call (k := 1) (f := T.a_w_draw) (fd := T.d_w_draw) (ps := P_w_draw) (F := F_w_draw) ?_ ?_ ?_ ?_ ?_ ?_ ?_ ?_; exact d_w_draw T; exact hr.mono (by decide); exact rfl; exact T.g_w_draw; exact T.F_w_draw.kp; exact b_w_draw T; exact (wok_takes (takes_of rfl rfl rfl rfl)); exact (ad_cons (pd_var 0) (ad_cons pd_int ad_nil)))) (md_val (pd_add pd_int (by refine pd_call (k := 1) (f := T.a_w_draw) (fd := T.d_w_draw) (ps := P_w_draw) (F := F_w_draw) ?_ ?_ ?_ ?_ ?_ ?_ ?_ ?_; exact d_w_draw T; exact hr.mono (by decide); exact rfl; exact T.g_w_draw; exact T.F_w_draw.kp; exact b_w_draw T; exact (wok_takes (takes_of rfl rfl rfl rfl)); exact (ad_cons (pd_var 0) (ad_cons pd_int ad_nil)))) md_nil))) (pg_tup rfl (pgs_cons (pg_name (i := 1) sc_w_long_right.nd rfl (Or.inl rfl)) (pgs_cons (pg_name (i := 2) sc_w_long_right.nd rfl (Or.inr rfl)) pgs_nil)))) rfl (by decide)) (sd_cons (sd_par2 (ps_par rfl sc_w_long_right.nd rfl rfl (by decide) rfl rfl (md_own (pl_rg2 rfl (by rfl) T.z_list (by rfl) T.z_range pd_int (pd_add (pd_var 2) pd_int)) (md_own (pl_lst ad_nil) md_nil)) rfl)) (sd_cons (sd_for (vs := [5]) (passes_of rfl) rfl (id_rng1 (by rfl) T.z_range (ad_cons (pd_var 1) ad_nil)) (gd_name (i := 5) sc_w_long_right.nd rfl (Or.inl rfl) (by decide)) (sd_one (sd_appPop (ps_expr (pe_bm PySem.F.plainAttrs_list PySem.F.slot_list_append PySem.F.type_list_append mt_append (pv 4) (pa_cons (pe_bm PySem.F.plainAttrs_list PySem.F.slot_list_pop PySem.F.type_list_pop mt_popAt (pv 3) (pa_cons (by refine pd_call (k := 1) (f := T.a_w_draw) (fd := T.d_w_draw) (ps := P_w_draw) (F := F_w_draw) ?_ ?_ ?_ ?_ ?_ ?_ ?_ ?_; exact d_w_draw T; exact hr.mono (by decide); exact rfl; exact T.g_w_draw; exact T.F_w_draw.kp; exact b_w_draw T; exact (wok_takes (takes_of rfl rfl rfl rfl)); exact (ad_cons (pd_var 0) (ad_cons (pd_lenO (by rfl) T.z_len (by decide +kernel) (pv 3)) ad_nil))) pa_nil)) pa_nil)))))) (sd_cons (by first | exact sd_asg (asg_weak (ps_setLc (own := [("_law_turn", 5)]) (i := 6) rfl sc_w_long_right.nd rfl rfl rfl (id_rng1 (by rfl) T.z_range (ad_cons (pd_var 1) ad_nil)) (blkOk_by (own := [("_law_turn", 5)]) (N := N_w_long_right) (sc := defScope s_w_long_right) (by decide +kernel)) (fun _ _ _ _ _ => (gd_name (i := 5) sc_w_long_right.nd rfl (by first | exact Or.inl rfl | exact Or.inr rfl) (by decide))) (fun _ _ _ _ _ => td_nil) (fun _ _ _ _ _ => (pd_add pd_int (by refine pd_call (k := 1) (f := T.a_w_draw) (fd := T.d_w_draw) (ps := P_w_draw) (F := F_w_draw) ?_ ?_ ?_ ?_ ?_ ?_ ?_ ?_; exact d_w_draw T; exact hr.mono (by decide); exact rfl; exact T.g_w_draw; exact T.F_w_draw.kp; exact b_w_draw T; exact wok0; exact (ad_cons (pd_var 0) (ad_cons (pd_var 2) ad_nil)))))) (fun _ _ _ h => lc_ok (eL_ok h))) | exact sd_asg (ps_set (i := 6) sc_w_long_right.nd rfl (Or.inl rfl) (pd_L (pl_lc (own := [("_law_turn", 5)]) rfl sc_w_long_right.nd (id_rng1 (by rfl) T.z_range (ad_cons (pd_var 1) ad_nil)) (blkOk_by (own := [("_law_turn", 5)]) (N := N_w_long_right) (sc := defScope s_w_long_right) (by decide +kernel)) (fun _ _ _ _ _ => (gd_name (i := 5) sc_w_long_right.nd rfl (by first | exact Or.inl rfl | exact Or.inr rfl) (by decide))) (fun _ _ _ _ _ => td_nil) (fun _ _ _ _ _ => (pd_add pd_int (by refine pd_call (k := 1) (f := T.a_w_draw) (fd := T.d_w_draw) (ps := P_w_draw) (F := F_w_draw) ?_ ?_ ?_ ?_ ?_ ?_ ?_ ?_; exact d_w_draw T; exact hr.mono (by decide); exact rfl; exact T.g_w_draw; exact T.F_w_draw.kp; exact b_w_draw T; exact wok0; exact (ad_cons (pd_var 0) (ad_cons (pd_var 2) ad_nil))))))))) (sd_cons (by first | exact sd_asg (asg_weak (ps_setLc (own := [("_law_turn", 5)]) (i := 7) rfl sc_w_long_right.nd rfl rfl rfl (id_rng1 (by rfl) T.z_range (ad_cons (pd_var 2) ad_nil)) (blkOk_by (own := [("_law_turn", 5)]) (N := N_w_long_right) (sc := defScope s_w_long_right) (by decide +kernel)) (fun _ _ _ _ _ => (gd_name (i := 5) sc_w_long_right.nd rfl (by first | exact Or.inl rfl | exact Or.inr rfl) (by decide))) (fun _ _ _ _ _ => td_nil) (fun _ _ _ _ _ => (by refine pd_call (k := 1) (f := T.a_w_draw) (fd := T.d_w_draw) (ps := P_w_draw) (F := F_w_draw) ?_ ?_ ?_ ?_ ?_ ?_ ?_ ?_; exact d_w_draw T; exact hr.mono (by decide); exact rfl; exact T.g_w_draw; exact T.F_w_draw.kp; exact b_w_draw T; exact wok0; exact (ad_cons (pd_var 0) (ad_cons pd_int ad_nil))))) (fun _ _ _ h => lc_ok (eL_ok h))) | exact sd_asg (ps_set (i := 7) sc_w_long_right.nd rfl (Or.inl rfl) (pd_L (pl_lc (own := [("_law_turn", 5)]) rfl sc_w_long_right.nd (id_rng1 (by rfl) T.z_range (ad_cons (pd_var 2) ad_nil)) (blkOk_by (own := [("_law_turn", 5)]) (N := N_w_long_right) (sc := defScope s_w_long_right) (by decide +kernel)) (fun _ _ _ _ _ => (gd_name (i := 5) sc_w_long_right.nd rfl (by first | exact Or.inl rfl | exact Or.inr rfl) (by decide))) (fun _ _ _ _ _ => td_nil) (fun _ _ _ _ _ => (by refine pd_call (k := 1) (f := T.a_w_draw) (fd := T.d_w_draw) (ps := P_w_draw) (F := F_w_draw) ?_ ?_ ?_ ?_ ?_ ?_ ?_ ?_; exact d_w_draw T; exact hr.mono (by decide); exact rfl; exact T.g_w_draw; exact T.F_w_draw.kp; exact b_w_draw T; exact wok0; exact (ad_cons (pd_var 0) (ad_cons pd_int ad_nil)))))))) (sd_cons (sd_new (ps_set (i := 8) sc_w_long_right.nd rfl (Or.inl rfl) (pl_ct call_list_of cl_list (by rfl) T.z_list (by decide +kernel) (ad_cons (pd_var 7) ad_nil)))) (sd_frz 4 (sd_cons (sd_for (vs := [9, 10]) (passes_of rfl) rfl (id_zip2 (by rfl) T.z_zip (ad_cons (pd_var 4) (ad_cons (pd_var 6) ad_nil)) (aCons_len (aCons_len (fun _ _ _ _ h => aNil_len h)))) (gd_tup rfl (gd_cons (gd_name (i := 9) sc_w_long_right.nd rfl (Or.inl rfl) (by decide)) (gd_cons (gd_name (i := 10) sc_w_long_right.nd rfl (Or.inl rfl) (by decide)) gd_nil))) (sd_one (sd_setO (i := 8) (ps_asg (pd_ix (pd_var 7) (pd_sub (pd_var 10) pd_int)) (pg_sub (pv 8) (pd_sub (pd_var 9) pd_int) set_list))))) (sd_frz 8 (sd_cons (sd_if (qd_ne hr.units (pd_wk (by refine pd_call (k := 8) (f := T.a_done) (fd := T.d_done) (ps := P_done) (F := F_done) ?_ ?_ ?_ ?_ ?_ ?_ ?_ ?_; exact d_done T; exact hr.mono (by decide); exact rfl; exact T.g_done; exact T.F_done.kp; exact b_done T; exact (wok_takes (takes_of rfl rfl rfl rfl)); exact (ad_cons (pd_tup (ad_cons (pd_tup (ad_cons pd_int (ad_cons (pd_var 2) ad_nil))) ad_nil)) (ad_cons (pd_tup (ad_cons (pd_var 4) ad_nil)) (ad_cons (pd_tup (ad_cons (pd_var 6) ad_nil)) (ad_cons (pd_var 7) ad_nil)))))) (pd_var 8)) (sd_one (sd_ret pd_bl)) sd_nil) (sd_cons (sd_tryEq (i := 11) T.e_InvalidSection rfl rfl sc_w_long_right.nd rfl rfl ⟨rfl, by decide, Or.inl T.e_InvalidSection.gC⟩ (takes_of rfl rfl rfl rfl) (Or.inl rfl) (by decide) (by decide) (fun W pn xe tk => (sd_one (sd_expr (pd_wk (by refine pd_call (k := 8) (f := T.a_done) (fd := T.d_done) (ps := P_done) (F := F_done) ?_ ?_ ?_ ?_ ?_ ?_ ?_ ?_; exact d_done T; exact hr.mono (by decide); exact rfl; exact T.g_done; exact T.F_done.kp; exact b_done T; exact (wok_takes tk); exact (ad_cons (pd_tup (ad_cons (pd_tup (ad_cons pd_int (ad_cons (pd_var 2) ad_nil))) ad_nil)) (ad_cons (pd_tup (ad_cons (pd_add (pd_sl (pd_var 4) od_none (od_some (pd_neg pd_int))) (pd_sl (pd_sl (pd_var 4) (od_some (by refine pd_call (k := 1) (f := T.a_w_draw) (fd := T.d_w_draw) (ps := P_w_draw) (F := F_w_draw) ?_ ?_ ?_ ?_ ?_ ?_ ?_ ?_; exact d_w_draw T; exact hr.mono (by decide); exact rfl; exact T.g_w_draw; exact T.F_w_draw.kp; exact b_w_draw T; exact (wok_takes tk); exact (ad_cons (pd_var 0) (ad_cons (pd_sub (pd_var 1) pd_int) ad_nil)))) od_none) od_none (od_some pd_int))) ad_nil)) (ad_cons (pd_tup (ad_cons (pd_var 6) ad_nil)) (ad_cons (pd_var 7) ad_nil)))))))))) (sd_one (sd_ret pd_bl))))))))))))))
end

end DL

set_option maxHeartbeats 2000000
namespace DL
open PySem PySem.Spec PyProof.Rows L2
open Evl (Ex)
instance noTab : TabT := ⟨[], rfl⟩
instance noOld : OldT := ⟨fun _ => none⟩

/-! ### the law's own shell: the wells, the turns -/
theorem SqL.keepN {K : PySem.W.Frag} {H H' : Hp} {a : Addr} {xs : List V} (h : SqL K H a xs) (k : ∀ o, NT o → H a = some o → H' a = some o) : SqL K H' a xs := h.elim (fun e => .inl (e.elim (fun e => .inl (k _ nt_lst e)) fun ⟨o, e⟩ => .inr ⟨o, k _ (fun _ z => nomatch z) e⟩)) .inr
theorem same_upd {H : Hp} {p : Addr} {o : HO} (h : H p = none) : Same H (upd H p o) := fun b x e => by
  rw [upd_ne (ne_of_none e h)]
  exact e
section
variable {P : Program} {w : World} {K : PySem.W.Frag} {mg : Str → Option Value} {base : Heap}
abbrev N_w_well : List Str := ["_law_cell"]
abbrev P_w_well : List Str := ["_law_cell"]
theorem sc_w_well : FnScope N_w_well P_w_well (defScope s_w_well) := ⟨rfl, rfl, rfl, by decide +kernel, rfl, by decide +kernel, by decide +kernel⟩
def spWell : Sp := fun vs H Q _ => ∃ (c : Int), vs = [.int c] ∧
  ∀ H' p (c d : Int), 0 ≤ d ∧ d < 2147483563 → Same H H' → H p = none → H' p = some (.lst (wl (c, d, 0))) → Q (.ref p) H'
theorem mod_rng {a n : Int} (h : 0 < n) : 0 ≤ a.fmod n ∧ a.fmod n < n := by
  rw [Int.fmod_eq_emod_of_nonneg _ (by omega)]
  exact ⟨Int.emod_nonneg _ (by omega), Int.emod_lt_of_pos _ h⟩
theorem ok_well (T : Txt K mg) : FnOk P w K mg base (L2.CX P w) 1 T.a_w_well T.d_w_well P_w_well spWell := by
  refine T.F_w_well.okX sc_w_well (fun vs H Q E h => ?_) (fun cdv A outer s H vs Q E hr h => ?_)
  · obtain ⟨c, rfl, _⟩ := h
    rfl
  · obtain ⟨c, rfl, q⟩ := h
    refine ⟨_, pss_one (ps_ret (pe_lst (pa_cons (pe_op op_mul (pe_callB call_abs (by rfl) T.z_abs (by decide +kernel) (pa_cons (pv 0) pa_nil)) (pe_callTy call_int1 (by rfl) T.z_int (by decide +kernel) (pa_cons (pe_cmpR op_ge (pe_callB call_abs (by rfl) T.z_abs (by decide +kernel) (pa_cons (pv 0) pa_nil)) (pe_op op_pow pe_int pe_int) (nomark _)) pa_nil)))
      (pa_cons (pe_op op_modN (pe_callTy call_int1 (by rfl) T.z_int (by decide +kernel) (pa_cons (pe_callB call_abs (by rfl) T.z_abs (by decide +kernel) (pa_cons (pv 0) pa_nil)) pa_nil)) pe_int)
      (pa_cons pe_int pa_nil))))), ?_⟩
    refine ⟨.int c, rfl, c, rfl, .int c, rfl, c, rfl, 10, 18, rfl, rfl, ⟨by decide, by decide, by decide⟩, _, _, rfl, rfl, .inr ⟨_, rfl, _, _, rfl, rfl, .inr ?_, ?_⟩⟩
    · exact (fun b : Bool => by cases b <;> exact ⟨by decide, by decide⟩ : ∀ b : Bool, (-2 ^ 64 : Int) < (if b = true then 1 else 0) ∧ ((if b = true then 1 else 0) : Int) < 2 ^ 64) _
    refine ⟨.int c, rfl, c, rfl, .inl ⟨_, rfl, _, _, rfl, rfl, (show (2147483563 : Int) ≠ 0 by decide), (show 3 ≤ sizeLine by decide), fun p hp => ?_⟩⟩
    exact q _ p _ ((if c < 0 then -c else c).fmod 2147483563) (mod_rng (by omega)) (same_upd hp) hp upd_same
abbrev N_law : List Str := ["_law_script", "_law_k", "_law_well_here", "_law_turn"]
abbrev P_law : List Str := ["_law_script"]
theorem sc_law : FnScope N_law P_law (defScope s_law) := ⟨rfl, rfl, rfl, by decide +kernel, rfl, by decide +kernel, by decide +kernel⟩
def spLaw (K : PySem.W.Frag) : Sp := fun vs H Q _ => ∃ (a : Addr) (ns : List Int), vs = [.ref a] ∧ SqL K H a (ns.map V.int) ∧ ns.length ≤ 63 ∧ ∀ H', Q (.bl true) H'
/-- how far the well's own count has come -/
def Lap (b : Nat) (w : Wl) : Prop := 0 ≤ w.2.2 ∧ w.2.2 ≤ b ∧ 0 ≤ w.2.1 ∧ w.2.1 < 2147483563
def T_law : DT := (tOn (tNo (tTr (eCall 1 F_w_right (aCons (eVar 2) aNil)))) (tNo (tTr (eCall 1 F_w_long_right (aCons (eVar 2) aNil)))))
theorem well_slots {wa p : Addr} {H : Hp} {x y z : Option V} : Slots p (fun _ => none) H [x, y, some (.ref p), z] [none, none, some .well, none] := by
  refine ⟨rfl, fun i d e n => ?_, fun i xs e => ?_, fun i ks xs e => ?_, fun i j d d2 q e1 n1 e2 n2 e3 e4 => ?_⟩
  · match i, e with
    | 2, e => cases e; exact ⟨_, rfl, .well⟩
    | n + 4, e => cases e
  · match i, e with
    | n + 4, e => cases e
  · match i, e with
    | n + 4, e => cases e
  · match i, e1 with
    | 2, e =>
      cases e
      rcases n1 with ⟨xs, z⟩ | ⟨ks, xs, z⟩ <;> cases z
    | n + 4, e => cases e
theorem turns_ok {D : Ends} {a p : Addr} {i : Nat} {H H3 : Hp} {c d : Int} {y3 : Option V} (hR : ∀ (b : Nat) (w : Wl), b < 100000 → Lap b w → ∃ w', T_law [none, none, some .well, none] w = .ok false w' ∧ Lap (b + 4000) w')
    (k3 : ∀ o, NT o → H a = some o → H3 a = some o) (hap : ∀ o, NT o → H a = some o → a ≠ p) (hd : 0 ≤ d ∧ d < 2147483563) (hp : H3 p = some (.lst (wl (c, d, 0))))
    (nx : ∀ H', (∀ o, NT o → H a = some o → H' a = some o) → D.nx [some (.ref a), some (.int (0 + i)), some (.ref p), y3] H' ∧ ∀ y, D.nx [some (.ref a), some (.int (0 + i)), some (.ref p), some y] H') :
    tFor (L2.iRng1 (tCons (tC (V.int 10)) tNil)) (gName 3) (tIfS (lT mg W0 T_law) (tRet (tC (V.bl false))) tNext) D [some (.ref a), some (.int (0 + i)), some (.ref p), y3] H3 := by
  refine ⟨10, rfl, by decide, by decide, fun t m σ H4 => m = 10 - t ∧ t ≤ 10 ∧ (∀ o, NT o → H a = some o → H4 a = some o) ∧ ∃ z3 w4, σ = [some (.ref a), some (.int (0 + i)), some (.ref p), z3] ∧ (z3 = y3 ∨ ∃ y, z3 = some y) ∧ Lap (4000 * t) w4 ∧ H4 p = some (.lst (wl w4)), ⟨10, rfl, by decide, k3, _, (c, d, 0), rfl, .inl rfl, ⟨Int.le_refl 0, Int.le_refl 0, hd.1, hd.2⟩, hp⟩, ?_⟩
  rintro t m σ H4 ⟨rfl, ht, k4, y3, w4, rfl, hy3, l4, hp4⟩
  by_cases ht3 : t < 10
  · refine .inr ⟨ht3, fun σ' H' => (∀ o, NT o → H a = some o → H' a = some o) ∧ ∃ z3 w4, σ' = [some (.ref a), some (.int (0 + i)), some (.ref p), z3] ∧ (z3 = y3 ∨ ∃ y, z3 = some y) ∧ Lap (4000 * (t + 1)) w4 ∧ H' p = some (.lst (wl w4)), fun σ' H' hN => ?_, fun x H5 hy => ?_⟩
    · obtain ⟨k5, z3, w5, rfl, hz, l5, hp5⟩ := hN
      refine ⟨10 - (t + 1), by omega, rfl, ht3, k5, z3, w5, rfl, ?_, l5, hp5⟩
      rcases hz with rfl | hz
      · exact hy3
      · exact .inr hz
    obtain ⟨rfl, rfl⟩ := hy
    obtain ⟨w6, e6, l6⟩ := hR (4000 * t) w4 (by omega) l4
    refine ⟨p, fun _ => none, _, w4, ⟨fun _ _ z => (by cases z), hp4, rfl, tabs_nil, fun _ _ z => (by cases z), fun _ _ z => (by cases z)⟩, well_slots (wa := p), ?_⟩
    rw [e6]
    intro H6 Hf6 g6 b6 v rv
    cases rv
    exact iteF ⟨fun o t e => g6.keepN a o (hap o t e) t (k4 o t e), _, w6, rfl, .inr ⟨_, rfl⟩, l6, b6.well⟩
  · refine .inl ⟨show 10 ≤ t from by omega, ?_⟩
    rcases hy3 with rfl | ⟨y, rfl⟩
    · exact (nx _ k4).1
    · exact (nx _ k4).2 y
theorem ok_law (T : Txt K mg) (hR : ∀ (b : Nat) (w : Wl), b < 100000 → Lap b w → ∃ w', T_law [none, none, some .well, none] w = .ok false w' ∧ Lap (b + 4000) w') : FnG P w K mg base (9 + 1) T.a_law T.d_law P_law (spLaw K) := by
  refine fnGs T.F_law sc_law (fun vs H Q E h => ?_) (fun cdv A outer s H vs Q E hr hgd h => ?_)
  · obtain ⟨a, ns, rfl, _⟩ := h
    rfl
  · obtain ⟨a, ns, rfl, hS, hlen, q⟩ := h
    refine ⟨_, pss_cons (ps_for (passes_of rfl) rfl (pi_range1 (by rfl) T.z_range (pa_cons (pe_op op_add (pe_callB (call_max2 rfl) (by rfl) T.z_max (by decide +kernel) (pa_cons pe_int (pa_cons (pe_callB (call_min2 rfl) (by rfl) T.z_min (by decide +kernel) (pa_cons pe_int (pa_cons (pe_callB call_len_seq (by rfl) T.z_len PySem.boot_len (pa_cons (pv 0) pa_nil)) pa_nil))) pa_nil))) pe_int) pa_nil))
        (pg_name (i := 1) sc_law.nd rfl (.inl rfl))
        (pss_cons (ps_set (i := 2) sc_law.nd rfl (.inl rfl) (pe_callS (CX := L2.CX P w) (k := 1) (f := T.a_w_well) (fd := T.d_w_well) (ps := P_w_well) (sp := spWell) (E := WE W0) (ok_well T) (hr.mono (by decide)) rfl T.g_w_well T.F_w_well.kp (b_w_well T) wok0 (pa_cons (pe_ifExp (pt_cmpR op_lt (pv 1) (pe_callB call_len_seq (by rfl) T.z_len PySem.boot_len (pa_cons (pv 0) pa_nil)) (nomark _)) (pe_ix ix_list (pv 0) (pv 1) (fun _ _ => rfl)) pe_int) pa_nil)))
          (pss_one (ps_for (passes_of rfl) rfl (pi_range1 (by rfl) T.z_range (pa_cons pe_int pa_nil)) (pg_name (i := 3) sc_law.nd rfl (.inl rfl))
            (pss_one (ps_if (show PT _ _ (lT mg W0 T_law) from (qd_or (qd_not (qd_tr (by refine pd_callG (k := 9) (f := T.a_w_right) (fd := T.d_w_right) (ps := P_w_right) (F := F_w_right) ?_ ?_ ?_ ?_ ?_ ?_ ?_ ?_ ?_; exact d_w_right T; exact hr.mono (by decide); exact hgd; exact rfl; exact T.g_w_right; exact T.F_w_right.kp; exact b_w_right T; exact wok0; exact (ad_cons (pd_var 2) ad_nil)))) (qd_or1 (qd_not (qd_tr (by refine pd_call (k := 9) (f := T.a_w_long_right) (fd := T.d_w_long_right) (ps := P_w_long_right) (F := F_w_long_right) ?_ ?_ ?_ ?_ ?_ ?_ ?_ ?_; exact d_w_long_right T; exact hr.mono (by decide); exact rfl; exact T.g_w_long_right; exact T.F_w_long_right.kp; exact b_w_long_right T; exact wok0; exact (ad_cons (pd_var 2) ad_nil)))))).pt)
              (pss_one (ps_ret pe_bl)) pss_nil))))))
      (pss_one (ps_ret pe_bl)), ?_⟩
    refine ⟨.ref a, rfl, a, _, rfl, .inl hS, _, _, rfl, _, _, rfl, _, _, rfl, rfl, _, rfl, ?_, ?_, ?_⟩
    · split <;> split at * <;> omega
    · split <;> split at * <;> omega
    have hn4 : ∀ z : Int, ((if (if z < 5 then z else 5) > 1 then (if z < 5 then z else 5) else 1) + 1 : Int).toNat ≤ 6 := fun z => by
      split <;> split at * <;> omega
    obtain ⟨n, hn⟩ : ∃ n : Nat, n = ((if (if (((ns.map V.int).length : Nat) : Int) < 5 then (((ns.map V.int).length : Nat) : Int) else 5) > 1 then (if (((ns.map V.int).length : Nat) : Int) < 5 then (((ns.map V.int).length : Nat) : Int) else 5) else 1) + 1 : Int).toNat := ⟨_, rfl⟩
    have hn5 : n ≤ 6 := by
      rw [hn]
      exact hn4 _
    have kS : ∀ H' : Hp, (∀ o, NT o → H a = some o → H' a = some o) → SqL K H' a (ns.map V.int) := fun H' k => SqL.keepN hS k
    refine ⟨fun i m σ H1 => m = n - i ∧ i ≤ n ∧ (∀ o, NT o → H a = some o → H1 a = some o) ∧ ∃ y1 y2 y3, σ = [some (.ref a), y1, y2, y3], ⟨n, rfl, Nat.zero_le _, fun _ _ e => e, none, none, none, rfl⟩, ?_⟩
    rintro i m σ H1 ⟨rfl, hi, k1, y1, y2, y3, rfl⟩
    by_cases hlt : i < n
    · refine .inr ⟨show i < Int.toNat _ from hn ▸ hlt, fun σ' H' => (∀ o, NT o → H a = some o → H' a = some o) ∧ ∃ y1 y2 y3, σ' = [some (.ref a), y1, y2, y3], fun σ' H' hN => ⟨n - (i + 1), by omega, rfl, hlt, hN⟩, fun x H2 hy => ?_⟩
      obtain ⟨rfl, rfl⟩ := hy
      have hap : ∀ (p : Addr), H2 p = none → ∀ o, NT o → H a = some o → a ≠ p := fun p np o t e z => by
        have e2 := k1 o t e
        rw [z, np] at e2
        cases e2
      refine ⟨.int (0 + i), rfl, .ref a, rfl, a, ns.map V.int, rfl, .inl (kS _ k1), 0 + i, (ns.map V.int).length, rfl, rfl, _, rfl, ite2 (fun e => ?_) (fun e => ?_)⟩
      · have e0 : 0 + (i : Int) < ((ns.map V.int).length : Int) := of_decide_eq_true e
        rw [List.length_map] at e0
        have hk2 : i < ns.length := by omega
        refine ⟨.ref a, rfl, .int (0 + i), rfl, a, _, 0 + i, .int ns[i], rfl, rfl, kS _ k1, by rw [Int.zero_add]; exact atI_nat (by rw [List.getElem?_map, List.getElem?_eq_getElem hk2]; rfl), ns[i], rfl, fun H3 p c d hd sm np hp => ?_⟩
        exact turns_ok hR (fun o t e => sm _ _ (k1 o t e)) (hap p np) hd hp fun H' k => ⟨⟨k, _, _, _, rfl⟩, fun y => ⟨k, _, _, _, rfl⟩⟩
      · refine ⟨0, rfl, fun H3 p c d hd sm np hp => ?_⟩
        exact turns_ok hR (fun o t e => sm _ _ (k1 o t e)) (hap p np) hd hp fun H' k => ⟨⟨k, _, _, _, rfl⟩, fun y => ⟨k, _, _, _, rfl⟩⟩
    · exact .inl ⟨show Int.toNat _ ≤ i from hn ▸ by omega, q H1⟩
end
end DL

set_option maxHeartbeats 2000000
namespace DL
open PySem PySem.Spec PyProof.Rows L2
/-! ### draws -/
section
variable {w : Wl} {b : Nat}
theorem seq_nx {U V : DS} {s s1 : Sl} {w w1 : Wl} (h : U s w = .nx s1 w1) : sSeq U V s w = V s1 w1 := by unfold sSeq; rw [h]
abbrev mX1 (k1 k2 k3 k4 : Int) : DE := eBin fMod (eCB fInt (aCons (eBin fMul (eBin fAdd (eBin fAdd (eBin fIx (eVar 0) (eC (.int 1))) (eBin fMul (eC (.int k1)) (eBin fIx (eVar 0) (eC (.int 2))))) (eC (.int k2))) (eC (.int k3))) aNil)) (eC (.int k4))
abbrev mX2 (k1 k2 k3 : Int) : DE := eBin fMod (eCB fInt (aCons (eBin fMul (eVar 3) (eBin fAdd (eBin fDiv (eVar 3) (eC (.int k1))) (eC (.int k2)))) aNil)) (eC (.int k3))
abbrev mX3 (k1 k2 k3 k4 : Int) : DE := eBin fMod (eCB fInt (aCons (eBin fDiv (eBin fMod (eCB fInt (aCons (eBin fMul (eVar 3) (eBin fAdd (eBin fDiv (eVar 3) (eC (.int k1))) (eC (.int k2)))) aNil)) (eC (.int k3))) (eC (.int k4))) aNil)) (eVar 1)
theorem mX1_ok {k1 k2 k3 k4 n : Int} {t2 t3 : Option D} (m1 : mulOk k1 w.2.2) (m2 : mulOk (w.2.1 + k1 * w.2.2 + k2) k3) (n4 : k4 ≠ 0) : mX1 k1 k2 k3 k4 [some .well, some (.int n), t2, t3] w = .ok (.int (((w.2.1 + k1 * w.2.2 + k2) * k3).fmod k4)) w := by
  apply okE_eq
  simp [mX1, m1, m2, n4]
theorem mX2_ok {k1 k2 k3 n z : Int} {t2 : Option D} (d1 : divOk k1) (m : mulOk z (z.fdiv k1 + k2)) (n3 : k3 ≠ 0) : mX2 k1 k2 k3 [some .well, some (.int n), t2, some (.int z)] w = .ok (.int ((z * (z.fdiv k1 + k2)).fmod k3)) w := by
  apply okE_eq
  simp [mX2, d1, m, n3]
theorem mX3_ok {k1 k2 k3 k4 n z : Int} {t2 : Option D} (d1 : divOk k1) (m : mulOk z (z.fdiv k1 + k2)) (n3 : k3 ≠ 0) (d4 : divOk k4) (nn : n ≠ 0) : mX3 k1 k2 k3 k4 [some .well, some (.int n), t2, some (.int z)] w = .ok (.int ((((z * (z.fdiv k1 + k2)).fmod k3).fdiv k4).fmod n)) w := by
  apply okE_eq
  simp [mX3, d1, m, n3, d4, nn]
theorem mix_run {k1 k2 k3 k4 k5 k6 k7 k8 k9 k10 k11 n z1 z2 : Int} {t2 : Option D} (hz1 : z1 = ((w.2.1 + k1 * w.2.2 + k2) * k3).fmod k4) (hz2 : z2 = (z1 * (z1.fdiv k5 + k6)).fmod k7)
    (m1 : mulOk k1 w.2.2) (m2 : mulOk (w.2.1 + k1 * w.2.2 + k2) k3) (n4 : k4 ≠ 0) (d5 : divOk k5) (m3 : mulOk z1 (z1.fdiv k5 + k6)) (n7 : k7 ≠ 0) (d8 : divOk k8) (m4 : mulOk z2 (z2.fdiv k8 + k9)) (n10 : k10 ≠ 0) (d11 : divOk k11) (nn : n ≠ 0) :
    sSeq (sAsg 3 (mX1 k1 k2 k3 k4)) (sSeq (sAsg 3 (mX2 k5 k6 k7)) (sRet (mX3 k8 k9 k10 k11))) [some .well, some (.int n), t2, none] w = .rt (.int ((((z2 * (z2.fdiv k8 + k9)).fmod k10).fdiv k11).fmod n)) w := by
  have e1 : sAsg 3 (mX1 k1 k2 k3 k4) [some .well, some (.int n), t2, none] w = .nx [some .well, some (.int n), t2, some (.int z1)] w := by
    unfold sAsg
    rw [mX1_ok m1 m2 n4, ← hz1]
    rfl
  have e2 : sAsg 3 (mX2 k5 k6 k7) [some .well, some (.int n), t2, some (.int z1)] w = .nx [some .well, some (.int n), t2, some (.int z2)] w := by
    unfold sAsg
    rw [mX2_ok d5 m3 n7, ← hz2]
    rfl
  have e3 : sRet (mX3 k8 k9 k10 k11) [some .well, some (.int n), t2, some (.int z2)] w = .rt (.int ((((z2 * (z2.fdiv k8 + k9)).fmod k10).fdiv k11).fmod n)) w := by
    unfold sRet
    rw [mX3_ok d8 m4 n10 d11 nn]
  exact (seq_nx e1).trans ((seq_nx e2).trans e3)
theorem btn {a : Int} {k : Nat} (h0 : 0 ≤ a) (h : a < 2 ^ k) : Bt k a := bt_of (by
  have : (0 : Int) < 2 ^ k := Int.pow_pos (by decide)
  omega) h
theorem bt50 {a : Int} (h0 : 0 ≤ a) (h : a < 1125899906842624) : Bt 50 a := btn h0 (by
  have : (2 : Int) ^ 50 = 1125899906842624 := by decide
  omega)
theorem mix_ok {n : Int} {t2 : Option D} (hw : 0 ≤ w.2.2 ∧ w.2.2 ≤ 2000000 ∧ 0 ≤ w.2.1 ∧ w.2.1 < 2147483563) (hn : 0 < n) {k1 k2 k3 k4 k5 k6 k7 k8 k9 k10 k11 : Int}
    (b1 : 0 ≤ k1 ∧ k1 ≤ 100000) (b2 : 0 ≤ k2 ∧ k2 ≤ 100000) (b3 : 0 ≤ k3 ∧ k3 ≤ 100000) (b4 : 0 < k4 ∧ k4 ≤ 4294967296) (b5 : 0 < k5 ∧ k5 ≤ 100000) (b6 : 0 ≤ k6 ∧ k6 ≤ 100000) (b7 : 0 < k7 ∧ k7 ≤ 4294967296) (b8 : 0 < k8 ∧ k8 ≤ 100000) (b9 : 0 ≤ k9 ∧ k9 ≤ 100000) (b10 : 0 < k10 ∧ k10 ≤ 4294967296) (b11 : 0 < k11 ∧ k11 ≤ 100000) :
    ∃ m : Int, (0 ≤ m ∧ m < n) ∧ sSeq (sAsg 3 (mX1 k1 k2 k3 k4)) (sSeq (sAsg 3 (mX2 k5 k6 k7)) (sRet (mX3 k8 k9 k10 k11))) [some .well, some (.int n), t2, none] w = .rt (.int m) w := by
  obtain ⟨z1, hz1⟩ : ∃ z, z = ((w.2.1 + k1 * w.2.2 + k2) * k3).fmod k4 := ⟨_, rfl⟩
  obtain ⟨z2, hz2⟩ : ∃ z, z = (z1 * (z1.fdiv k5 + k6)).fmod k7 := ⟨_, rfl⟩
  have a1 := fmod_range (a := (w.2.1 + k1 * w.2.2 + k2) * k3) b4.1
  rw [← hz1] at a1
  have a2 := fmod_range (a := z1 * (z1.fdiv k5 + k6)) b7.1
  rw [← hz2] at a2
  have a3 := fdiv_range (a := z1) b5.1 a1.1
  have a4 := fdiv_range (a := z2) b8.1 a2.1
  have p1 : 0 ≤ k1 * w.2.2 ∧ k1 * w.2.2 ≤ 200000000000 := ⟨Int.mul_nonneg b1.1 hw.1, Int.le_trans (Int.mul_le_mul b1.2 hw.2.1 hw.1 (by omega)) (by omega)⟩
  obtain ⟨y, hy⟩ : ∃ y, y = k1 * w.2.2 := ⟨_, rfl⟩
  rw [← hy] at p1
  refine ⟨_, fmod_range hn, mix_run hz1 hz2 ?_ ?_ (by omega) ?_ ?_ (by omega) ?_ ?_ (by omega) ?_ (by omega)⟩
  · exact mul_bt (bt50 b1.1 (by omega)) (bt50 hw.1 (by omega)) (by omega)
  · rw [← hy]
    exact mul_bt (bt50 (by omega) (by omega)) (bt50 b3.1 (by omega)) (by omega)
  · exact div_bt (by omega) (bt50 (by omega) (by omega)) (by omega)
  · exact mul_bt (bt50 a1.1 (by omega)) (bt50 (by omega) (by omega)) (by omega)
  · exact div_bt (by omega) (bt50 (by omega) (by omega)) (by omega)
  · exact mul_bt (bt50 a2.1 (by omega)) (bt50 (by omega) (by omega)) (by omega)
  · exact div_bt (by omega) (bt50 (by omega) (by omega)) (by omega)
theorem pp110 : (2 : Int) ^ 110 = 1298074214633706907132624082305024 := by decide
theorem divOk_small {n : Int} (h0 : 0 < n) (h1 : n ≤ 2 ^ 110) : divOk n :=
  div_bt (i := 111) (by omega) (nat_lt_pow (by omega) h1) (by omega)
def drawB (R : DS) : DS := (sSeq (sIf (tE (eBin fGt (eBin fIx (eVar 0) (eC (.int 0))) (eC (.int 0)))) (sSeq (sAsg 2 (eBin fMod (eCB fInt (aCons (eBin fIx (eVar 0) (eC (.int 0))) aNil)) (eVar 1))) (sSeq (sSetW (eVar 0) (eC (.int 0)) (eBin fDiv (eBin fIx (eVar 0) (eC (.int 0))) (eVar 1))) (sRet (eVar 2)))) sNx) (sSeq (sSetW (eVar 0) (eC (.int 2)) (eBin fAdd (eBin fIx (eVar 0) (eC (.int 2))) (eC (.int 1)))) R))
theorem draw_shape : F_w_draw = runB 4 2 (drawB (sSeq (sAsg 3 (mX1 50021 73 40692 2147483629)) (sSeq (sAsg 3 (mX2 1031 69621 2147483579)) (sRet (mX3 2017 48271 2147483549 13))))) := rfl
theorem drawB_run {n : Int} {R : DS} {Q : D → Wl → Prop} (hn : n ≠ 0) (dn : divOk n) (h1 : 0 < w.1 → Q (.int (w.1.fmod n)) (w.1.fdiv n, w.2.1, w.2.2)) (h2 : ¬ 0 < w.1 → ∃ d, R [some .well, some (.int n), none, none] (w.1, w.2.1, w.2.2 + 1) = .rt d (w.1, w.2.1, w.2.2 + 1) ∧ Q d (w.1, w.2.1, w.2.2 + 1)) :
    okE (runB 4 2 (drawB R) [.well, .int n] w) Q := by
  by_cases hp : 0 < w.1
  · simp [drawB, okE_run, List.replicate, hp, hn, dn]
    exact h1 hp
  · obtain ⟨d, e, q⟩ := h2 hp
    simp [drawB, okE_run, List.replicate, hp, e]
    exact q
theorem e_draw {n : Int} (h0 : 0 < n) (h1 : n ≤ 2 ^ 110) (hb : b < 1010000) (hw : Lap b w) : okE (F_w_draw [.well, .int n] w) fun d w' => ∃ k : Int, d = .int k ∧ (0 ≤ k ∧ k < n) ∧ Lap (b + 1) w' := by
  obtain ⟨l0, l1, l2, l3⟩ := hw
  rw [draw_shape]
  refine drawB_run (by omega) (divOk_small h0 h1) (fun hp => ⟨_, rfl, fmod_range h0, l0, by show w.2.2 ≤ _; omega, l2, l3⟩) fun hp => ?_
  obtain ⟨m, hm, e⟩ := mix_ok (w := (w.1, w.2.1, w.2.2 + 1)) (t2 := none) (n := n) (k1 := 50021) (k2 := 73) (k3 := 40692) (k4 := 2147483629) (k5 := 1031) (k6 := 69621) (k7 := 2147483579) (k8 := 2017) (k9 := 48271) (k10 := 2147483549) (k11 := 13) ⟨by show 0 ≤ w.2.2 + 1; omega, by show w.2.2 + 1 ≤ _; omega, l2, l3⟩ h0 ⟨by omega, by omega⟩ ⟨by omega, by omega⟩ ⟨by omega, by omega⟩ ⟨by omega, by omega⟩ ⟨by omega, by omega⟩ ⟨by omega, by omega⟩ ⟨by omega, by omega⟩ ⟨by omega, by omega⟩ ⟨by omega, by omega⟩ ⟨by omega, by omega⟩ ⟨by omega, by omega⟩
  exact ⟨_, e, _, rfl, hm, by show 0 ≤ w.2.2 + 1; omega, by show w.2.2 + 1 ≤ _; omega, l2, l3⟩
/-- a draw, and then on -/
theorem draw {n : Int} {Q : D → Wl → Prop} (hw : Lap b w) (h0 : 0 < n) (h1 : n ≤ 2 ^ 110) (hb : b < 1010000) (q : ∀ (k : Int) (w' : Wl), 0 ≤ k → k < n → Lap (b + 1) w' → Q (.int k) w') : okE (F_w_draw [.well, .int n] w) Q :=
  okE_mono (e_draw h0 h1 hb hw) fun d w' ⟨k, e, h, l⟩ => by subst e; exact q k w' h.1 h.2 l
/-- one of some -/
theorem pick {l : List D} {Q : D → Wl → Prop} (hw : Lap b w) (h0 : l ≠ []) (h1 : l.length ≤ 1000) (hb : b < 1010000) (q : ∀ x ∈ l, ∀ (w' : Wl), Lap (b + 1) w' → Q x w') : okE (F_w_pick [.well, .lst l] w) Q := by
  have hl : 0 < l.length := List.length_pos_iff.mpr h0
  have e100 := pp110
  simp [F_w_pick, B_w_pick, okE_run, List.replicate]
  refine draw hw (by omega) (by omega) hb fun k w' k0 k1 l1 => ?_
  obtain ⟨x, hx, hm⟩ := atI_of k0 k1
  simp [hx]
  exact q x hm w' l1
theorem lap_le {c : Nat} (h : Lap b w) (h1 : b ≤ c) : Lap c w := ⟨h.1, by have := h.2.1; omega, h.2.2⟩
end
end DL

set_option maxHeartbeats 2000000
namespace DL
open PySem PySem.Spec PyProof.Rows L2
abbrev FAR : Int := 500000000000000000000000000000
def pD (p : Int × Int) : D := .tup [.int p.1, .int p.2]
def bD (bs : List (Int × Int)) : D := .tup (bs.map pD)
def ext (p : Int × Int) : Int := if p.2 - p.1 + 1 > 0 then p.2 - p.1 + 1 else 0
def inR (n : Int) : Bool := decide (-FAR ≤ n) && decide (n ≤ FAR)
structure Bds (bs : List (Int × Int)) : Prop where
  one : 1 ≤ bs.length
  few : bs.length ≤ 7
  near : ∀ p ∈ bs, inR p.1 = true ∧ inR p.2 = true
section
variable {w : Wl} {bs : List (Int × Int)} {xs : List Int}
theorem lim77 {n : Nat} (h : n ≤ 7) : n ≤ lim := Nat.le_trans h (by decide)
theorem e_is_number {n : Int} : F_is_number [.int n] w = .ok (.bl true) w := rfl
theorem e_is_range {p : Int × Int} : F_is_range [pD p] w = .ok (.bl ([p.1, p.2].all inR)) w := by
  apply okE_eq
  have h := lc_all (A := (eAnd (eCall 1 F_is_number (aCons (eVar 1) aNil)) (eChain fLe fLe (eUn fNeg (eC (D.int 500000000000000000000000000000))) (eVar 1) (eC (D.int 500000000000000000000000000000))))) (G := gN 1) D.int (fun n => .bl (inR n)) (s := [some (D.tup [D.int p.fst, D.int p.snd]), none]) (w := w) (xs := [p.1, p.2]) (fun x _ => by
    simp [e_is_number, inR]
    by_cases h : -500000000000000000000000000000 ≤ x <;> simp [h])
  simp only [List.map_cons, List.map_nil] at h
  simp [F_is_range, B_is_range, okE_run, pD, List.replicate, h]
  have h2 : fAll w [.lst [D.bl (inR p.1), D.bl (inR p.2)]] = some (.bl ([p.1, p.2].all inR)) := v_all (f := inR) (l := [p.1, p.2])
  simp [h2]
  decide
theorem e_is_bounds (h : Bds bs) : F_is_bounds [bD bs] w = .ok (.bl true) w := by
  apply okE_eq
  have h1 := h.one
  have h7 := h.few
  simp [F_is_bounds, B_is_bounds, okE_run, bD, List.replicate]
  refine ⟨by omega, by omega, lim77 h7, okE_lcall pD (fun p => .bl ([p.1, p.2].all inR)) (fun x _ => ?_) ?_⟩
  · simp [pD]
    rw [show (D.tup [D.int x.1, D.int x.2]) = pD x from rfl, e_is_range]
    simp
  · simp
    intro a b hab
    simpa using h.near _ hab
theorem e_check (h : Bds bs) : F_check_bounds [bD bs] w = .ok .non w := by
  apply okE_eq
  simp [F_check_bounds, B_check_bounds, okE_run, bD, List.replicate]
  rw [show D.tup (bs.map pD) = bD bs from rfl, e_is_bounds h]
  simp
theorem e_all_extents (h7 : bs.length ≤ 7) : F_all_extents [bD bs] w = .ok (.lst (bs.map fun p => .int (ext p))) w := by
  apply okE_eq
  simp [F_all_extents, B_all_extents, okE_run, bD, List.replicate]
  refine ⟨lim77 h7, okE_lcall pD (fun p => .int (ext p)) (fun x _ => ?_) (by simp)⟩
  simp [pD, ext]
/-- what the numbers come to, multiplied -/
def prod : List Int → Int
  | [] => 1
  | n :: r => n * prod r
def small (n : Int) : Prop := 0 ≤ n ∧ n ≤ 2 ^ 110
theorem prod_append {ms ns : List Int} : prod (ms ++ ns) = prod ms * prod ns := by
  induction ms with
  | nil => simp [prod]
  | cons m r ih => simp [prod, ih, Int.mul_assoc]
theorem prod_small : ∀ {ns : List Int}, (∀ n ∈ ns, small n) → 0 ≤ prod ns ∧ prod ns ≤ 2 ^ (110 * ns.length)
  | [], _ => ⟨by decide, by decide⟩
  | n :: r, h => by
    have ih := prod_small fun m hm => h m (List.mem_cons_of_mem _ hm)
    have hn := h n List.mem_cons_self
    refine ⟨Int.mul_nonneg hn.1 ih.1, ?_⟩
    have : n * prod r ≤ 2 ^ 110 * 2 ^ (110 * r.length) := Int.mul_le_mul hn.2 ih.2 ih.1 (by decide)
    rw [← Int.pow_add] at this
    rw [List.length_cons, show 110 * (r.length + 1) = 110 + 110 * r.length by omega]
    exact this
theorem mul_small {a b : Int} {i j : Nat} (ha : 0 ≤ a) (ha2 : a ≤ 2 ^ i) (hb : 0 ≤ b) (hb2 : b ≤ 2 ^ j) (h : i + j ≤ 900000) : mulOk a b :=
  mulOk_of (nat_lt_pow ha ha2) (nat_lt_pow hb hb2) (by omega) (by omega) (by omega)
theorem e_multiplied {ns : List Int} (h7 : ns.length ≤ 7) (hs : ∀ n ∈ ns, small n) : F_multiplied [.lst (ns.map .int)] w = .ok (.int (prod ns)) w := by
  apply okE_eq
  simp [F_multiplied, B_multiplied, okE_run, List.replicate]
  refine okS_loop (fun i s w' => w' = w ∧ ∃ t, s = [some (.lst (ns.map .int)), some (.int (prod (ns.take i))), t]) 0 ⟨rfl, none, by simp [prod]⟩ ?_ ?_
  · rintro i d s w' hd ⟨rfl, t, rfl⟩
    rw [List.getElem?_map] at hd
    obtain ⟨n, hn, rfl⟩ := Option.map_eq_some_iff.mp hd
    have hi : i < ns.length := (List.getElem?_eq_some_iff.mp hn).1
    have ps := prod_small (ns := ns.take i) fun m hm => hs m (List.mem_of_mem_take hm)
    have hns := hs n (List.mem_of_getElem? hn)
    simp
    refine ⟨mul_small ps.1 ps.2 hns.1 hns.2 (by rw [List.length_take]; omega), ?_⟩
    rw [List.take_add_one, hn]
    simp [prod_append, prod]
  · rintro s w' ⟨rfl, t, rfl⟩
    simp
/-- wide bounds: none of them beyond some 33 figures -/
structure Bw (bs : List (Int × Int)) : Prop where
  few : bs.length ≤ 7
  near : ∀ p ∈ bs, (-40564819207303340847894502572032 ≤ p.1 ∧ p.1 ≤ 40564819207303340847894502572032) ∧ -40564819207303340847894502572032 ≤ p.2 ∧ p.2 ≤ 40564819207303340847894502572032
theorem inR_iff {n : Int} : inR n = true ↔ -FAR ≤ n ∧ n ≤ FAR := by simp [inR]
theorem Bds.wide {bs : List (Int × Int)} (h : Bds bs) : Bw bs := ⟨h.few, fun p hp => by
  obtain ⟨h1, h2⟩ := h.near p hp
  rw [inR_iff] at h1 h2
  simp only [FAR] at h1 h2
  omega⟩
theorem ext_small {p : Int × Int} (h : (-40564819207303340847894502572032 ≤ p.1 ∧ p.1 ≤ 40564819207303340847894502572032) ∧ -40564819207303340847894502572032 ≤ p.2 ∧ p.2 ≤ 40564819207303340847894502572032) : small (ext p) := by
  obtain ⟨h1, h2⟩ := h
  unfold ext small
  have : (2 : Int) ^ 110 = 1298074214633706907132624082305024 := by decide
  rw [this]
  split <;> omega
theorem exts_small (h : Bw bs) : ∀ n ∈ bs.map ext, small n := fun n hn => by
  obtain ⟨p, hp, rfl⟩ := List.mem_map.mp hn
  exact ext_small (h.near p hp)
def wts : Int → List Int → List Int
  | _, [] => []
  | a, n :: r => a :: wts (a * n) r
theorem wts_get : ∀ {ns : List Int} {a : Int} {i : Nat}, i < ns.length → (wts a ns)[i]? = some (a * prod (ns.take i))
  | n :: r, a, 0, _ => by simp [wts, prod]
  | n :: r, a, i + 1, h => by
    have := wts_get (ns := r) (a := a * n) (i := i) (by simpa using h)
    simp [wts, this, prod, Int.mul_assoc]
theorem wts_len : ∀ {ns : List Int} {a : Int}, (wts a ns).length = ns.length
  | [], _ => rfl
  | n :: r, a => by simp [wts, wts_len (ns := r)]
theorem e_weights (h : Bw bs) : F_weights [bD bs] w = .ok (.lst ((wts 1 (bs.map ext)).map .int)) w := by
  apply okE_eq
  have h7 := h.few
  simp [F_weights, B_weights, okE_run, bD, List.replicate]
  rw [show D.tup (bs.map pD) = bD bs from rfl, e_all_extents h.few]
  simp
  refine okS_loop (fun i s w' => w' = w ∧ ∃ t, s = [some (bD bs), some (.own (((wts 1 (bs.map ext)).take i).map .int)), some (.int (prod ((bs.map ext).take i))), t]) 0 ⟨rfl, none, by simp [prod, bD]⟩ ?_ ?_
  · rintro i d s w' hd ⟨rfl, t, rfl⟩
    rw [List.getElem?_map] at hd
    obtain ⟨p, hp, rfl⟩ := Option.map_eq_some_iff.mp hd
    have hi : i < bs.length := (List.getElem?_eq_some_iff.mp hp).1
    have ps := prod_small (ns := (bs.map ext).take i) fun m hm => exts_small h m (List.mem_of_mem_take hm)
    have hns := exts_small h (ext p) (List.mem_map_of_mem (List.mem_of_getElem? hp))
    have hg := wts_get (ns := bs.map ext) (a := 1) (i := i) (by simpa using hi)
    have hl : lim = 16000000 := rfl
    simp
    refine ⟨by omega, mul_small ps.1 ps.2 hns.1 hns.2 (by rw [List.length_take]; omega), ?_, ?_⟩
    · rw [List.take_add_one, List.getElem?_map, hg]
      simp
    · rw [List.take_add_one, List.getElem?_map, hp]
      simp [prod_append, prod]
  · rintro s w' ⟨rfl, t, rfl⟩
    simp
    rw [List.take_of_length_le (by rw [List.length_map, wts_len]; simp)]
end
end DL

set_option maxHeartbeats 2000000
namespace DL
open PySem PySem.Spec PyProof.Rows L2
section
variable {w : Wl} {b : Nat}
theorem run_rt {n k : Nat} {B : DS} {ds : List D} {d : D} {w w1 : Wl} (hl : ds.length = k) (h : B (ds.map some ++ List.replicate (n - k) none) w = .rt d w1) : runB n k B ds w = .ok d w1 := by unfold runB; rw [if_pos hl, h]
theorem pickI {ns : List Int} (P : Int → Prop) (hP : ∀ n ∈ ns, P n) {Q : D → Wl → Prop} (hw : Lap b w) (h0 : ns ≠ []) (h1 : ns.length ≤ 1000) (hb : b < 1010000) (q : ∀ (n : Int) (w' : Wl), P n → Lap (b + 1) w' → Q (.int n) w') : okE (F_w_pick [.well, .lst (ns.map .int)] w) Q :=
  pick hw (by simpa using h0) (by simpa using h1) hb fun x hx w' l => by
    obtain ⟨n, hn, rfl⟩ := List.mem_map.mp hx
    exact q n w' (hP n hn) l
theorem okS_then {U V : DS} {s : Sl} {w : Wl} {N : Sl → Wl → Prop} {Z : D → Wl → Prop} (M : Sl → Wl → Prop) (h : okS (U s w) M Z) (q : ∀ s1 w1, M s1 w1 → okS (V s1 w1) N Z) : okS (sSeq U V s w) N Z := by
  rw [okS_seq]
  exact okS_mono h q fun _ _ z => z
theorem okS_to {U V : DS} {s : Sl} {N : Sl → Wl → Prop} {Z : D → Wl → Prop} (M : Sl → Wl → Prop) (h : ∀ M' : Sl → Wl → Prop, (∀ s1 w1, M s1 w1 → M' s1 w1) → okS (U s w) M' Z) (q : ∀ s1 w1, M s1 w1 → okS (V s1 w1) N Z) : okS (sSeq U V s w) N Z := okS_then M (h M fun _ _ z => z) q
@[simp] theorem seqD_l {xs : List D} : seqD (.lst xs) = some (false, xs) := rfl
end
section
variable {w : Wl} {bs : List (Int × Int)} {xs : List Int}
theorem okE_lcall2 {γ : Type} {A : DE} {G : DG} (g f : γ → D) {s : Sl} {w : Wl} {xs : List γ} {ds : List D} {Q : List D → Wl → Prop} (e : ds = xs.map g) (h : ∀ x ∈ xs, okO (G (g x) s) fun s1 => okE (A s1 w) fun d w1 => d = f x ∧ w1 = w) (q : Q (xs.map f) w) : okE (lcD G tYesD A ds s w) Q := by
  subst e
  exact okE_lcall g f h q
def far (n : Int) : Prop := -1000000000000000000000000000000 ≤ n ∧ n ≤ 1000000000000000000000000000000
theorem e_far1 (h : far n) : F_is_far [.int n] w = .ok (.bl true) w := by
  apply okE_eq
  simp [F_is_far, B_is_far, okE_run, e_is_number, h.1, h.2]
theorem e_far_no {xs : List D} : F_is_far [.tup xs] w = .ok (.bl false) w := by
  apply okE_eq
  have e : F_is_number [.tup xs] w = .ok (.bl false) w := rfl
  simp [F_is_far, B_is_far, okE_run, e]
theorem okS_cons {G : DG} {U : DS} {r : List D} {x : D} {s : Sl} {N : Sl → Wl → Prop} {Z : D → Wl → Prop} (h : okO (G x s) fun s1 => okS (U s1 w) (fun s2 w2 => okS (loopD G U r s2 w2) N Z) Z) : okS (loopD G U (x :: r) s w) N Z := by
  unfold loopD
  cases e : G x s with
  | none => rw [e] at h; exact h.elim
  | some s1 =>
    rw [e] at h
    simp only [okO_some] at h
    dsimp only
    cases e2 : U s1 w <;> (rw [e2] at h; first | exact h | exact h.elim)
@[simp] theorem okS_nil {G : DG} {U : DS} {s : Sl} {N : Sl → Wl → Prop} {Z : D → Wl → Prop} : okS (loopD G U [] s w) N Z = N s w := rfl
/-- an element of the array -/
def El : List (Int × Int) → List Int → Prop
  | [], [] => True
  | p :: bs, x :: xs => (p.1 ≤ x ∧ x ≤ p.2) ∧ El bs xs
  | _, _ => False
theorem El.len : ∀ {bs : List (Int × Int)} {xs : List Int}, El bs xs → xs.length = bs.length
  | [], [], _ => rfl
  | p :: bs, x :: xs, h => by simp [El.len h.2]
  | [], _ :: _, h => h.elim
  | _ :: _, [], h => h.elim
theorem El.zip : ∀ {bs : List (Int × Int)} {xs : List Int}, El bs xs → ∀ t ∈ xs.zip bs, t.2.1 ≤ t.1 ∧ t.1 ≤ t.2.2
  | [], [], _, t, ht => by simp at ht
  | p :: bs, x :: xs, h, t, ht => by
    rcases List.mem_cons.mp ht with e | e
    · subst e; exact h.1
    · exact El.zip h.2 t e
  | [], _ :: _, h, _, _ => h.elim
  | _ :: _, [], h, _, _ => h.elim
/-- the place, the first subscript running fastest -/
def place : List (Int × Int) → List Int → Int
  | p :: bs, x :: xs => (x - p.1) + ext p * place bs xs
  | _, _ => 0
theorem near_diff {p : Int × Int} {x : Int} (h : (-40564819207303340847894502572032 ≤ p.1 ∧ p.1 ≤ 40564819207303340847894502572032) ∧ -40564819207303340847894502572032 ≤ p.2 ∧ p.2 ≤ 40564819207303340847894502572032) (hx : p.1 ≤ x ∧ x ≤ p.2) : 0 ≤ x - p.1 ∧ x - p.1 ≤ 2 ^ 110 := by
  obtain ⟨h1, h2⟩ := h
  have : (2 : Int) ^ 110 = 1298074214633706907132624082305024 := by decide
  rw [this]
  omega
@[simp] theorem getS_bD {bs : List (Int × Int)} {s : Sl} : getS (some (bD bs) :: s) 0 = some (bD bs) := rfl
@[simp] theorem getS_eD {xs : List Int} {s : Sl} : getS (some (eD xs) :: s) 0 = some (eD xs) := rfl
@[simp] theorem seqD_bD : seqD (bD bs) = some (true, bs.map pD) := rfl
@[simp] theorem seqD_eD : seqD (eD xs) = some (true, xs.map .int) := rfl
def PL (A B : D) (v : Int) (s : Sl) : Prop := ∃ (b' : Int) (t4 t5 t6 : Option D), s = [some A, some B, some (.int v), some (.int b'), t4, t5, t6]
theorem ext_max {p : Int × Int} : (if p.2 - p.1 + 1 > 0 then p.2 - p.1 + 1 else 0) = ext p := rfl
theorem ext_max2 {a b : Int} : (if 0 < b - a + 1 then b - a + 1 else 0) = ext (a, b) := rfl
/-- a comprehension, one turn -/
theorem okE_lcC {G : DG} {T : DT} {A : DE} {d : D} {r : List D} {s : Sl} {w : Wl} {Q : List D → Wl → Prop} : okE (lcD G T A (d :: r) s w) Q = okO (G d s) fun s1 => okE (T s1 w).noer fun k w1 => if k = true then okE (A s1 w1).noer fun y w2 => okE (lcD G T A r s w2) fun ys w3 => Q (y :: ys) w3 else okE (lcD G T A r s w1) Q := by
  rw [lcD]
  cases G d s with
  | none => rfl
  | some s1 =>
    show okE ((T s1 w).noer.bind _) Q = okE (T s1 w).noer _
    rw [okE_bind]
    congr
    funext k w1
    cases k
    · rfl
    · show okE ((A s1 w1).noer.bind _) Q = okE (A s1 w1).noer _
      rw [okE_bind]
      congr
      funext y w2
      rw [okE_bind]
      rfl
theorem okE_lcN {G : DG} {T : DT} {A : DE} {s : Sl} {w : Wl} {Q : List D → Wl → Prop} : okE (lcD G T A [] s w) Q = Q [] w := rfl
end
end DL

set_option maxHeartbeats 2000000
namespace DL
open PySem PySem.Spec PyProof.Rows L2
/-! ### parts of sections, as the program has them -/
inductive Pg where
  | num (a : Int) | lst (xs : List Int) | tri (a b c : Int)
namespace Pg
def toD : Pg → D
  | num a => .int a
  | lst xs => .lst (xs.map .int)
  | tri a b c => .tup [.int a, .int b, .int c]
/-- how many subscripts -/
def cn : Pg → Int
  | num _ => 1
  | lst xs => xs.length
  | tri a b c => if (b - a + c).fdiv c > 0 then (b - a + c).fdiv c else 0
/-- the subscript with a number -/
def at' : Pg → Int → Int
  | num a, _ => a
  | lst xs, k => xs.getD k.toNat 0
  | tri a _ c, k => a + k * c
def sb (p : Pg) : List Int := (List.range p.cn.toNat).map fun k => p.at' (k : Nat)
end Pg
/-- numbers that are far at most -/
inductive Gq : Pg → Prop
  | num {a : Int} : far a → Gq (.num a)
  | lst {xs : List Int} : xs.length ≤ 64 → (∀ x ∈ xs, far x) → Gq (.lst xs)
  | tri {a b c : Int} : far a → far b → far c → c ≠ 0 → Gq (.tri a b c)
section
variable {w : Wl} {p : Pg} {bs : List (Int × Int)} {ps : List Pg} {a b c : Int} {xs : List Int}
@[simp] theorem getS_pg {s : Sl} : getS (some p.toD :: s) 0 = some p.toD := by cases p <;> rfl
theorem far_bt (h : far a) : Bt 100 a := by
  have e : (2 : Int) ^ 100 = 1267650600228229401496703205376 := by decide
  unfold far at h
  rw [bt_iff]
  omega
theorem Pg.cn_nonneg : ∀ p : Pg, 0 ≤ p.cn
  | .num _ => by simp [Pg.cn]
  | .lst xs => by simp [Pg.cn]
  | .tri a b c => by unfold Pg.cn; split <;> omega
theorem far_div (ha : far a) (hb : far b) (hc : far c) (h0 : c ≠ 0) : -(2 ^ 103 : Int) < (b - a + c).fdiv c ∧ (b - a + c).fdiv c < 2 ^ 103 := by
  have e : (2 : Int) ^ 103 = 10141204801825835211973625643008 := by decide
  unfold far at *
  rw [e]
  generalize hm : b - a + c = m
  have hb2 : -4000000000000000000000000000000 ≤ m ∧ m ≤ 4000000000000000000000000000000 := by omega
  have h1 := Int.mul_fdiv_add_fmod m c
  rcases Int.lt_or_gt_of_ne h0 with hneg | hpos
  · have h2 : c < m.fmod c ∧ m.fmod c ≤ 0 := by
      rw [Int.fmod_eq_emod]
      have h3 := Int.emod_nonneg m h0
      have h4 := Int.emod_lt m h0
      split
      · rename_i hh
        rcases hh with hh | hh
        · omega
        · have := Int.emod_eq_zero_of_dvd hh
          omega
      · rename_i hh
        have : m % c ≠ 0 := fun z => hh (.inr (Int.dvd_of_emod_eq_zero z))
        omega
    generalize m.fdiv c = q at *
    generalize m.fmod c = r at *
    have h5 : c * q ≤ 4000000000000000000000000000000 := by omega
    have h6 : -5000000000000000000000000000000 ≤ c * q := by omega
    constructor
    · refine Int.lt_of_not_ge fun hq => ?_
      have : c * q ≥ -1 * -(10141204801825835211973625643008) := by
        have h7 : 1 * 10141204801825835211973625643008 ≤ (-c) * (-q) := Int.mul_le_mul (by omega) (by omega) (by decide) (by omega)
        have : (-c) * (-q) = c * q := by rw [Int.neg_mul_neg]
        omega
      omega
    · refine Int.lt_of_not_ge fun hq => ?_
      have h7 : 1 * 10141204801825835211973625643008 ≤ (-c) * q := Int.mul_le_mul (by omega) (by omega) (by decide) (by omega)
      have : (-c) * q = -(c * q) := Int.neg_mul c q
      omega
  · have h2 := fmod_range (a := m) hpos
    generalize m.fdiv c = q at *
    generalize m.fmod c = r at *
    have h5 : c * q ≤ 4000000000000000000000000000000 := by omega
    have h6 : -5000000000000000000000000000000 ≤ c * q := by omega
    constructor
    · refine Int.lt_of_not_ge fun hq => ?_
      have h7 : 1 * 10141204801825835211973625643008 ≤ c * (-q) := Int.mul_le_mul (by omega) (by omega) (by decide) (by omega)
      have : c * (-q) = -(c * q) := Int.mul_neg c q
      omega
    · refine Int.lt_of_not_ge fun hq => ?_
      have h7 : 1 * 10141204801825835211973625643008 ≤ c * q := Int.mul_le_mul (by omega) (by omega) (by decide) (by omega)
      omega
theorem Gq.cn_small (h : Gq p) : small p.cn := by
  have e : (2 : Int) ^ 110 = 1298074214633706907132624082305024 := by decide
  have e3 : (2 : Int) ^ 103 = 10141204801825835211973625643008 := by decide
  unfold small
  cases h with
  | num _ => exact ⟨by show (0 : Int) ≤ 1; decide, by show (1 : Int) ≤ 2 ^ 110; decide⟩
  | lst h _ => simp only [Pg.cn]; omega
  | tri ha hb hc h0 =>
    have := far_div ha hb hc h0
    simp only [Pg.cn]
    split <;> omega
theorem e_tri (ha : far a) (hb : far b) (hc : far c) (h0 : c ≠ 0) : F_is_triplet [.tup [.int a, .int b, .int c]] w = .ok (.bl true) w := by
  apply okE_eq
  have hl : (3 : Nat) ≤ lim := by decide
  simp -implicitDefEqProofs [F_is_triplet, B_is_triplet, okE_run, List.replicate, hl]
  refine okE_lcall (xs := [a, b, c]) D.int (fun n => .bl true) (fun x hx => ?_) ?_
  · have hf : F_is_far [.int x] w = .ok (.bl true) w := e_far1 (by
      simp only [List.mem_cons, List.not_mem_nil, or_false] at hx
      rcases hx with rfl | rfl | rfl <;> assumption)
    simp -implicitDefEqProofs [hf]
  · rw [v_all]
    simp -implicitDefEqProofs [h0]
theorem e_part_pg (h : Gq p) : F_is_part [p.toD] w = .ok (.bl true) w := by
  cases h with
  | num h =>
    apply okE_eq
    simp -implicitDefEqProofs [Pg.toD, F_is_part, B_is_part, okE_run, List.replicate, e_far1 h]
  | lst h1 h2 =>
    apply okE_eq
    rename_i xs
    have hl : xs.length ≤ lim := lim7 (by omega)
    simp -implicitDefEqProofs [Pg.toD, F_is_part, B_is_part, okE_run, List.replicate]
    refine ⟨by omega, hl, okE_lcall (xs := xs) D.int (fun n => .bl true) (fun x hx => ?_) ?_⟩
    · simp -implicitDefEqProofs [e_far1 (h2 x hx)]
    · rw [v_all]
      simp -implicitDefEqProofs
  | tri ha hb hc h0 =>
    apply okE_eq
    simp -implicitDefEqProofs [Pg.toD, F_is_part, B_is_part, okE_run, List.replicate, e_far_no, e_tri ha hb hc h0]
theorem e_many_pg (h : Gq p) : F_many_of [p.toD] w = .ok (.int p.cn) w := by
  cases h with
  | num _ =>
    apply okE_eq
    simp -implicitDefEqProofs [Pg.toD, F_many_of, B_many_of, okE_run, List.replicate, Pg.cn]
  | lst _ _ =>
    apply okE_eq
    simp -implicitDefEqProofs [Pg.toD, F_many_of, B_many_of, okE_run, List.replicate, Pg.cn]
  | tri ha hb hc h0 =>
    apply okE_eq
    have hd := div_bt h0 (far_bt hc) (by decide)
    simp -implicitDefEqProofs [Pg.toD, F_many_of, B_many_of, okE_run, List.replicate, hd, Pg.cn]
/-- the subscript with a number, there or beside -/
theorem e_sub_pg {k : Int} (h : Gq p) (hk : Bt 200 k) (hl : ∀ xs, p = .lst xs → 0 ≤ k ∧ k < xs.length) : F_subscript_of [p.toD, .int k] w = .ok (.int (p.at' k)) w := by
  cases h with
  | num _ =>
    apply okE_eq
    simp -implicitDefEqProofs [Pg.toD, F_subscript_of, B_subscript_of, okE_run, List.replicate, Pg.at']
  | lst _ _ =>
    rename_i xs _ _
    obtain ⟨h1, h2⟩ := hl xs rfl
    obtain ⟨j, rfl⟩ := Int.eq_ofNat_of_zero_le h1
    have hj : j < xs.length := by omega
    have hat : atI (xs.map D.int) (j : Nat) = some (.int (xs.getD j 0)) := atI_nat (by rw [List.getElem?_map, List.getElem?_eq_getElem hj]; simp [List.getD, List.getElem?_eq_getElem hj])
    apply okE_eq
    simp -implicitDefEqProofs [Pg.toD, F_subscript_of, B_subscript_of, okE_run, List.replicate, Pg.at', hat]
  | tri ha hb hc h0 =>
    apply okE_eq
    have hm := mul_bt hk (far_bt hc) (by decide)
    simp -implicitDefEqProofs [Pg.toD, F_subscript_of, B_subscript_of, okE_run, List.replicate, Pg.at', hm]
theorem e_last_pg (h : Gq p) (hl : 0 < p.cn ∨ ∀ xs, p ≠ .lst xs) : F_last_of [p.toD] w = .ok (.int (p.at' (p.cn - 1))) w := by
  have hs := h.cn_small
  unfold small at hs
  have e : (2 : Int) ^ 110 = 1298074214633706907132624082305024 := by decide
  have e2 : (2 : Int) ^ 200 = 1606938044258990275541962092341162602522202993782792835301376 := by decide
  apply okE_eq
  simp -implicitDefEqProofs [F_last_of, B_last_of, okE_run, List.replicate, e_many_pg h]
  rw [e_sub_pg h (by rw [bt_iff]; omega) fun xs z => ?_]
  · exact ⟨rfl, rfl⟩
  · subst z
    rcases hl with hl | hl
    · simp only [Pg.cn] at hl ⊢
      omega
    · exact absurd rfl (hl xs)
theorem e_subs_pg (h : Gq p) (hc : p.cn ≤ 1000) : F_subscripts [p.toD] w = .ok (.lst (p.sb.map .int)) w := by
  have h0 := p.cn_nonneg
  have e2 : (2 : Int) ^ 200 = 1606938044258990275541962092341162602522202993782792835301376 := by decide
  obtain ⟨n, hn⟩ := Int.eq_ofNat_of_zero_le h0
  apply okE_eq
  simp -implicitDefEqProofs [F_subscripts, B_subscripts, okE_run, List.replicate, e_many_pg h]
  rw [hn]
  have hu : upTo 0 ((n : Nat) : Int).toNat = (List.range n).map fun (k : Nat) => D.int (k : Nat) := by
    unfold upTo
    simp
  simp -implicitDefEqProofs only [Int.toNat_natCast] at hu ⊢
  rw [hu]
  refine ⟨⟨by omega, by omega⟩, by rw [List.length_map, List.length_range]; exact lim7 (by omega), okE_lcall (fun (k : Nat) => D.int (k : Nat)) (fun (k : Nat) => .int (p.at' (k : Nat))) (fun k hk => ?_) ?_⟩
  · have hk := List.mem_range.mp hk
    simp -implicitDefEqProofs
    rw [e_sub_pg h (by rw [bt_iff]; omega) fun xs z => ?_]
    · exact ⟨rfl, rfl⟩
    · subst z
      simp only [Pg.cn] at hn
      omega
  · simp -implicitDefEqProofs
    unfold Pg.sb
    rw [hn, Int.toNat_natCast, List.map_map]
    rfl
theorem Pg.sb_lst : (Pg.lst xs).sb = xs := by
  unfold Pg.sb Pg.cn Pg.at'
  rw [Int.toNat_natCast]
  apply List.ext_getElem
  · simp
  · intro i h1 h2
    simp [List.getD, List.getElem?_eq_getElem h2]
theorem Pg.sb_num : (Pg.num a).sb = [a] := rfl
theorem Pg.sb_len : (p.sb.length : Int) = p.cn := by
  unfold Pg.sb
  have := p.cn_nonneg
  rw [List.length_map, List.length_range]
  omega
/-- within a dimension -/
def Inn (d : Int × Int) (p : Pg) : Prop := ∀ x ∈ p.sb, d.1 ≤ x ∧ x ≤ d.2
theorem Inn.at (h : Inn d p) {k : Nat} (hk : (k : Int) < p.cn) : d.1 ≤ p.at' k ∧ p.at' k ≤ d.2 := h _ (by
  unfold Pg.sb
  exact List.mem_map.mpr ⟨k, List.mem_range.mpr (by omega), rfl⟩)
theorem e_lies_pg {d : Int × Int} (h : Gq p) (hp : 0 < p.cn) (hi : Inn d p) : F_lies_between [p.toD, .int d.1, .int d.2] w = .ok (.bl true) w := by
  have key : ∀ (zs : List Int), (∀ z ∈ zs, d.1 ≤ z ∧ z ≤ d.2) → (zs.map fun _ => D.bl true) = zs.map fun z => .bl true := fun _ _ => rfl
  cases h with
  | tri ha hb hc h0 =>
    rename_i a b c
    have hla := e_last_pg (w := w) (Gq.tri ha hb hc h0) (.inl hp)
    have h1 := hi.at (k := 0) (by omega)
    obtain ⟨n, hn⟩ := Int.eq_ofNat_of_zero_le (Int.sub_nonneg_of_le hp)
    have h2 := hi.at (k := n) (by omega)
    have en : (Pg.tri a b c).cn - 1 = (n : Int) := by omega
    rw [en] at hla
    have e0 : (Pg.tri a b c).at' ((0 : Nat) : Int) = a := by simp [Pg.at']
    rw [e0] at h1
    have hl2 : (2 : Nat) ≤ lim := by decide
    apply okE_eq
    simp -implicitDefEqProofs only [Pg.toD] at hla
    simp -implicitDefEqProofs [Pg.toD, F_lies_between, B_lies_between, okE_run, List.replicate, hla, hl2]
    refine okE_lcall (xs := [a, (Pg.tri a b c).at' n]) D.int (fun n => .bl true) (fun x hx => ?_) ?_
    · have hx : d.1 ≤ x ∧ x ≤ d.2 := by
        simp only [List.mem_cons, List.not_mem_nil, or_false] at hx
        rcases hx with rfl | rfl <;> assumption
      simp -implicitDefEqProofs [hx.1, hx.2]
    · rw [v_all]
      simp -implicitDefEqProofs
  | num hf =>
    rename_i a
    have hs := e_subs_pg (w := w) (Gq.num hf) (by show (1 : Int) ≤ 1000; decide)
    have h1 := hi a (by simp [Pg.sb_num])
    have hl1 : (1 : Nat) ≤ lim := by decide
    apply okE_eq
    simp -implicitDefEqProofs only [Pg.toD, Pg.sb_num] at hs
    simp -implicitDefEqProofs [Pg.toD, F_lies_between, B_lies_between, okE_run, List.replicate, hs]
    refine ⟨hl1, okE_lcall (xs := [a]) D.int (fun n => .bl true) (fun x hx => ?_) ?_⟩
    · have e := List.mem_singleton.mp hx
      subst e
      simp -implicitDefEqProofs [h1.1, h1.2]
    · rw [v_all]
      simp -implicitDefEqProofs
  | lst hl hf =>
    rename_i xs
    have hs := e_subs_pg (w := w) (Gq.lst hl hf) (by simp only [Pg.cn]; omega)
    have hi2 : ∀ x ∈ xs, d.1 ≤ x ∧ x ≤ d.2 := fun x hx => hi x (by rw [Pg.sb_lst]; exact hx)
    apply okE_eq
    simp -implicitDefEqProofs only [Pg.toD, Pg.sb_lst] at hs
    simp -implicitDefEqProofs [Pg.toD, F_lies_between, B_lies_between, okE_run, List.replicate, hs]
    refine ⟨lim7 (by omega), okE_lcall (xs := xs) D.int (fun n => .bl true) (fun x hx => ?_) ?_⟩
    · have := hi2 x hx
      simp -implicitDefEqProofs [this.1, this.2]
    · rw [v_all]
      simp -implicitDefEqProofs
end
end DL

set_option maxHeartbeats 2000000
namespace DL
namespace TT
open PySem PySem.Spec PyProof.Rows L2
/-! ### triplets by value -/
abbrev Tr := Int × Int × Int
def tD (t : Tr) : D := .tup [.int t.1, .int t.2.1, .int t.2.2]
theorem tD_e {a b c : Int} : D.tup [.int a, .int b, .int c] = tD (a, b, c) := rfl
def cnt (t : Tr) : Int := if (t.2.1 - t.1 + t.2.2).fdiv t.2.2 > 0 then (t.2.1 - t.1 + t.2.2).fdiv t.2.2 else 0
def at1 (t : Tr) (i : Int) : Int := t.1 + i * t.2.2
abbrev FARn : Int := 1000000000000000000000000000000
def inF (n : Int) : Bool := decide (-FARn ≤ n) && decide (n ≤ FARn)
theorem inF_iff {n : Int} : inF n = true ↔ -FARn ≤ n ∧ n ≤ FARn := by simp [inF]
/-- a triplet -/
structure Tri (t : Tr) : Prop where
  a : inF t.1 = true
  b : inF t.2.1 = true
  c : inF t.2.2 = true
  s : t.2.2 ≠ 0
theorem bt100 {n : Int} (h : inF n = true) : Bt 100 n := by
  rw [inF_iff] at h
  exact bt_of (Int.lt_of_lt_of_le (by decide) h.1) (Int.lt_of_le_of_lt h.2 (by decide))
section
variable {w : Wl} {t : Tr} {i n : Int}
@[simp] theorem getS_tD {s : Sl} : getS (some (tD t) :: s) 0 = some (tD t) := rfl
@[simp] theorem v_ixtD0 : fIx w (tD t) (.int 0) = some (.int t.1) := (v_ixT (xs := [.int t.1, .int t.2.1, .int t.2.2]) (a := 0)).trans atI_0
@[simp] theorem v_ixtD1 : fIx w (tD t) (.int 1) = some (.int t.2.1) := (v_ixT (xs := [.int t.1, .int t.2.1, .int t.2.2]) (a := 1)).trans atI_1
@[simp] theorem v_ixtD2 : fIx w (tD t) (.int 2) = some (.int t.2.2) := (v_ixT (xs := [.int t.1, .int t.2.1, .int t.2.2]) (a := 2)).trans atI_2
theorem e_is_number : F_is_number [.int n] w = .ok (.bl true) w := rfl
theorem e_is_far : F_is_far [.int n] w = .ok (.bl (inF n)) w := by
  apply okE_eq
  simp [F_is_far, B_is_far, okE_run, e_is_number, inF]
  by_cases h : -1000000000000000000000000000000 ≤ n <;> simp [h]
theorem e_is_triplet (h : Tri t) : F_is_triplet [tD t] w = .ok (.bl true) w := by
  apply okE_eq
  simp [F_is_triplet, B_is_triplet, okE_run, tD, List.replicate]
  refine ⟨lim7 (by decide), ?_⟩
  refine okE_lcall (xs := [t.1, t.2.1, t.2.2]) D.int (fun n => .bl (inF n)) (fun x _ => by simp [e_is_far]) ?_
  have h2 : fAll w [.lst ([t.1, t.2.1, t.2.2].map fun n => D.bl (inF n))] = some (.bl ([t.1, t.2.1, t.2.2].all inF)) := v_all (f := inF) (l := [t.1, t.2.1, t.2.2])
  rw [h2]
  simp [h.a, h.b, h.c, h.s]
theorem e_many (h0 : t.2.2 ≠ 0) (h1 : Bt 8000 t.2.2) : F_many_of [tD t] w = .ok (.int (cnt t)) w := by
  apply okE_eq
  have hd := div_bt h0 h1 (by omega)
  simp [F_many_of, B_many_of, okE_run, tD, List.replicate, hd, cnt]
theorem e_sub (h1 : Bt 8000 i) (h2 : Bt 8000 t.2.2) : F_subscript_of [tD t, .int i] w = .ok (.int (at1 t i)) w := by
  apply okE_eq
  have hd := mul_bt h1 h2 (by omega)
  simp [F_subscript_of, B_subscript_of, okE_run, tD, List.replicate, hd, at1]
/-- the number of an element -/
def idx (t : Tr) (n : Int) : Option Int := if (n - t.1).fmod t.2.2 = 0 ∧ 0 ≤ (n - t.1).fdiv t.2.2 ∧ (n - t.1).fdiv t.2.2 < cnt t then some ((n - t.1).fdiv t.2.2) else none
def oD : Option Int → D
  | none => .non
  | some i => .int i
@[simp] theorem v_isNi {x : Int} : fIsN w (.int x) .non = some (.bl false) := rfl
@[simp] theorem v_isNn : fIsN w .non .non = some (.bl true) := rfl
@[simp] theorem v_notNi {x : Int} : fNotN w (.int x) .non = some (.bl true) := rfl
@[simp] theorem v_notNn : fNotN w .non .non = some (.bl false) := rfl
end

/-! ### how many elements a triplet has -/
theorem fdiv_neg2 (a b : Int) : (-a).fdiv (-b) = a.fdiv b := by
  exact Int.neg_fdiv_neg a b
theorem cnt_iff {t : Tr} (h : t.2.2 ≠ 0) {i : Int} (hi : 0 ≤ i) : i < cnt t ↔ (0 < t.2.2 ∧ at1 t i ≤ t.2.1) ∨ (t.2.2 < 0 ∧ t.2.1 ≤ at1 t i) := by
  obtain ⟨a, b, s⟩ := t
  unfold cnt at1
  simp only at h ⊢
  have hq : (i < if (b - a + s).fdiv s > 0 then (b - a + s).fdiv s else 0) ↔ i + 1 ≤ (b - a + s).fdiv s := by
    split <;> omega
  rw [hq]
  rcases Int.lt_or_gt_of_ne h with hs | hs
  · rw [← fdiv_neg2, Int.fdiv_eq_ediv_of_nonneg _ (by omega), Int.le_ediv_iff_mul_le (by omega)]
    have : (i + 1) * -s = -(i * s) - s := by rw [Int.add_mul, Int.mul_neg]; omega
    rw [this]
    omega
  · rw [Int.fdiv_eq_ediv_of_nonneg _ (by omega), Int.le_ediv_iff_mul_le (by omega)]
    have : (i + 1) * s = i * s + s := by rw [Int.add_mul]; omega
    rw [this]
    omega
theorem cnt_nonneg {t : Tr} : 0 ≤ cnt t := by
  unfold cnt
  split <;> omega
theorem mul_ge {i s : Int} (hi : 0 ≤ i) (hs : 0 < s) : i ≤ i * s := by
  have := Int.mul_le_mul_of_nonneg_left (show 1 ≤ s by omega) hi
  omega
/-- no more elements than numbers between the bounds -/
theorem cnt_le {t : Tr} (h : t.2.2 ≠ 0) {n : Int} (hn : 0 ≤ n) (h1 : 0 < t.2.2 → t.2.1 - t.1 < n) (h2 : t.2.2 < 0 → t.1 - t.2.1 < n) : cnt t ≤ n := by
  by_cases hc : cnt t ≤ n
  · exact hc
  · have := (cnt_iff h hn).mp (by omega)
    unfold at1 at this
    rcases this with ⟨hs, h3⟩ | ⟨hs, h3⟩
    · have := mul_ge hn hs
      have := h1 hs
      omega
    · have := mul_ge hn (show 0 < -t.2.2 by omega)
      rw [Int.mul_neg] at this
      have := h2 hs
      omega
/-- an element lies between the bounds -/
theorem at1_in {t : Tr} (h : t.2.2 ≠ 0) {i : Int} (hi : 0 ≤ i) (hc : i < cnt t) : (t.1 ≤ at1 t i ∧ at1 t i ≤ t.2.1) ∨ (t.2.1 ≤ at1 t i ∧ at1 t i ≤ t.1) := by
  rcases (cnt_iff h hi).mp hc with ⟨hs, h3⟩ | ⟨hs, h3⟩
  · left
    have : 0 ≤ i * t.2.2 := Int.mul_nonneg hi (by omega)
    unfold at1 at *
    omega
  · right
    have : 0 ≤ i * -t.2.2 := Int.mul_nonneg hi (by omega)
    rw [Int.mul_neg] at this
    unfold at1 at *
    omega
theorem at1_far {t : Tr} (h : Tri t) {i : Int} (hi : 0 ≤ i) (hc : i < cnt t) : inF (at1 t i) = true := by
  have ha := h.a
  have hb := h.b
  rw [inF_iff] at *
  rcases at1_in h.s hi hc with h1 | h1 <;> omega
theorem at1_inj {t : Tr} (h : t.2.2 ≠ 0) {i j : Int} (e : at1 t i = at1 t j) : i = j := by
  unfold at1 at e
  exact Int.eq_of_mul_eq_mul_right h (by omega)
theorem idx_at {t : Tr} (h : t.2.2 ≠ 0) {i : Int} (hi : 0 ≤ i) (hc : i < cnt t) : idx t (at1 t i) = some i := by
  unfold idx
  have e : at1 t i - t.1 = i * t.2.2 := by unfold at1; omega
  rw [e, Int.mul_fdiv_cancel _ h, Int.mul_fmod_left, if_pos ⟨rfl, hi, hc⟩]
theorem idx_some {t : Tr} (h : t.2.2 ≠ 0) {n j : Int} (e : idx t n = some j) : 0 ≤ j ∧ j < cnt t ∧ at1 t j = n := by
  unfold idx at e
  split at e
  · rename_i hc
    cases e
    refine ⟨hc.2.1, hc.2.2, ?_⟩
    have := Int.fmod_def (n - t.1) t.2.2
    unfold at1
    rw [hc.1] at this
    rw [Int.mul_comm] at this
    omega
  · cases e
theorem cnt_bt {t : Tr} (h : Tri t) : cnt t ≤ 2000000000000000000000000000001 := by
  have ha := h.a
  have hb := h.b
  rw [inF_iff] at ha hb
  exact cnt_le h.s (by omega) (fun _ => by simp only [FARn] at ha hb; omega) (fun _ => by simp only [FARn] at ha hb; omega)
theorem p110 : (2 : Int) ^ 110 = 1298074214633706907132624082305024 := by decide
section
variable {w : Wl} {t : Tr} {i n : Int}
end

/-! ### what the law draws -/
def mem (t : Tr) : List Int := (List.range (cnt t).toNat).map fun k => at1 t (k : Nat)
section
variable {w : Wl} {b : Nat} {t : Tr}
theorem mem_len : (mem t).length = (cnt t).toNat := by simp [mem]
/-! far ones -/
theorem i30 : (10 : Int) ^ 30 = 1000000000000000000000000000000 := by decide
end

/-! ### the law's own -/
section
variable {w : Wl} {b : Nat} {t : Tr}
theorem upTo_get {lo : Int} {n i : Nat} {d : D} (h : (upTo lo n)[i]? = some d) : i < n ∧ d = .int (lo + (i : Nat)) := by
  unfold upTo at h
  rw [List.getElem?_map] at h
  obtain ⟨j, hj, rfl⟩ := Option.map_eq_some_iff.mp h
  have hi : i < n := by
    have := (List.getElem?_eq_some_iff.mp hj).1
    simpa using this
  rw [List.getElem?_range hi] at hj
  cases hj
  exact ⟨hi, rfl⟩
theorem mem_get {j : Nat} : (mem t)[j]? = if j < (cnt t).toNat then some (at1 t (j : Nat)) else none := by
  unfold mem
  rw [List.getElem?_map]
  split
  · rename_i h
    rw [List.getElem?_range h]
    rfl
  · rename_i h
    rw [List.getElem?_eq_none (by simpa using h)]
    rfl
theorem mem_iff {n : Int} (h : t.2.2 ≠ 0) : n ∈ mem t ↔ ∃ j, idx t n = some j := by
  constructor
  · intro hm
    unfold mem at hm
    obtain ⟨k, hk, rfl⟩ := List.mem_map.mp hm
    have hk := List.mem_range.mp hk
    exact ⟨_, idx_at h (by omega) (by omega)⟩
  · rintro ⟨j, hj⟩
    obtain ⟨h0, h1, h2⟩ := idx_some h hj
    unfold mem
    exact List.mem_map.mpr ⟨j.toNat, List.mem_range.mpr (by omega), by rw [← h2, Int.toNat_of_nonneg h0]⟩
theorem find_mem {n j : Int} (h : t.2.2 ≠ 0) (hj : idx t n = some j) : ((mem t).findIdx? fun b => decide (b = n)) = some j.toNat := by
  obtain ⟨h0, h1, h2⟩ := idx_some h hj
  rw [List.findIdx?_eq_some_iff_getElem]
  have hl := mem_len (t := t)
  have hlt : j.toNat < (mem t).length := by omega
  have ge : ∀ (k : Nat) (hk : k < (mem t).length), (mem t)[k] = at1 t (k : Nat) := fun k hk => by
    have := mem_get (t := t) (j := k)
    rw [if_pos (by omega), List.getElem?_eq_getElem hk] at this
    exact Option.some.inj this
  refine ⟨hlt, ?_, fun k hk => ?_⟩
  · rw [ge _ hlt, Int.toNat_of_nonneg h0, h2]
    simp
  · rw [ge _ (by omega), ← h2]
    simp only [decide_eq_true_eq, Bool.not_eq_true', decide_eq_false_iff_not]
    intro e
    have := at1_inj h e
    omega
end

/-! ### normal and turned triplets -/
section
variable {w : Wl} {b : Nat} {t u : Tr}
def up (t : Tr) : Tr := if 0 < t.2.2 then (t.1, at1 t (cnt t - 1), t.2.2) else (at1 t (cnt t - 1), t.1, -t.2.2)
def nrm (t : Tr) : Tr := if cnt t = 0 then (0, -1, 1) else if cnt t = 1 then (t.1, t.1, 1) else up t
/-- wide: what is reckoned with -/
structure Wd (t : Tr) : Prop where
  s : t.2.2 ≠ 0
  bs : Bt 4000 t.2.2
  bc : Bt 4000 (cnt t)
theorem Tri.wd (h : Tri t) : Wd t := ⟨h.s, (bt100 h.c).mono (by omega), by
  have := cnt_bt h
  have := cnt_nonneg (t := t)
  exact (bt_of (i := 110) (by omega) (by have := p110; omega)).mono (by omega)⟩
theorem bt1 {n : Nat} (h : 1 ≤ n) : Bt n 1 := by
  unfold Bt
  exact Nat.lt_of_lt_of_le (by decide) (Nat.pow_le_pow_right (by decide) h)
theorem e_last (h : Wd t) : F_last_of [tD t] w = .ok (.int (at1 t (cnt t - 1))) w := by
  apply okE_eq
  have hm := e_many (w := w) h.s (h.bs.mono (by omega))
  have hs := e_sub (w := w) (t := t) (i := cnt t - 1) ((bt_sub h.bc (bt1 (by omega))).mono (by omega)) (h.bs.mono (by omega))
  simp -implicitDefEqProofs [F_last_of, B_last_of, okE_run, hm, hs]
theorem e_subscripts (h : Wd t) (hc : cnt t ≤ 1000000) : F_subscripts [tD t] w = .ok (.lst ((mem t).map .int)) w := by
  apply okE_eq
  have hlim : lim = 16000000 := rfl
  have hn := cnt_nonneg (t := t)
  have hm := e_many (w := w) h.s (h.bs.mono (by omega))
  simp -implicitDefEqProofs [F_subscripts, B_subscripts, okE_run, List.replicate, hm]
  refine ⟨⟨by omega, by omega⟩, by simp -implicitDefEqProofs [upTo, hlim]; omega, ?_⟩
  have hu : upTo 0 (cnt t).toNat = (List.range (cnt t).toNat).map fun (i : Nat) => D.int (0 + (i : Nat)) := rfl
  rw [hu]
  refine okE_lcall (fun (i : Nat) => D.int (0 + (i : Nat))) (fun i => D.int (at1 t (i : Nat))) (fun i hi => ?_) ?_
  · have hi := List.mem_range.mp hi
    have he := e_sub (w := w) (t := t) (i := (i : Nat)) (by
      have hb := bt_iff.mp h.bc
      exact Bt.mono (i := 4000) (bt_iff.mpr ⟨by omega, by omega⟩) (by omega)) (h.bs.mono (by omega))
    simp -implicitDefEqProofs [he]
  · have hu2 : (List.range (cnt t).toNat).map (fun i => D.int (at1 t (i : Nat))) = (mem t).map .int := by simp [mem]
    rw [hu2]
    simp
/-- the same elements in the same order, as the program tells it -/
def runB2 (t u : Tr) : Bool := if cnt t ≠ cnt u then false else if 1 < cnt t then decide (t.1 = u.1) && decide (t.2.2 = u.2.2) else decide (mem t = mem u)
end

/-! ### what normal triplets are -/
section
variable {t u : Tr}
theorem cnt_uniq {t : Tr} {c : Int} (h : t.2.2 ≠ 0) (h0 : 0 ≤ c) (hc : ∀ i : Int, 0 ≤ i → (i < c ↔ (0 < t.2.2 ∧ at1 t i ≤ t.2.1) ∨ (t.2.2 < 0 ∧ t.2.1 ≤ at1 t i))) : cnt t = c := by
  have h1 := hc c h0
  have h2 := hc (cnt t) cnt_nonneg
  rw [← cnt_iff h h0] at h1
  rw [← cnt_iff h cnt_nonneg] at h2
  omega
/-- a triplet by its first element, its step and how many -/
def mk3 (a s c : Int) : Tr := (a, a + (c - 1) * s, s)
theorem cnt_mk3 {a s c : Int} (hs : s ≠ 0) (hc : 0 ≤ c) : cnt (mk3 a s c) = c := by
  refine cnt_uniq hs hc fun i hi => ?_
  show i < c ↔ (0 < s ∧ a + i * s ≤ a + (c - 1) * s) ∨ (s < 0 ∧ a + (c - 1) * s ≤ a + i * s)
  have e : a + (c - 1) * s - (a + i * s) = (c - 1 - i) * s := by rw [Int.sub_mul (c - 1) i s]; omega
  rcases Int.lt_or_gt_of_ne hs with hs | hs
  · by_cases hlt : i < c
    · have : 0 ≤ (c - 1 - i) * -s := Int.mul_nonneg (by omega) (by omega)
      rw [Int.mul_neg] at this
      omega
    · have : 0 < (i - (c - 1)) * -s := Int.mul_pos (by omega) (by omega)
      have e2 : (i - (c - 1)) * -s = (c - 1 - i) * s := by rw [← Int.neg_mul_neg]; congr 1 <;> omega
      omega
  · by_cases hlt : i < c
    · have : 0 ≤ (c - 1 - i) * s := Int.mul_nonneg (by omega) (by omega)
      omega
    · have : 0 < (i - (c - 1)) * s := Int.mul_pos (by omega) (by omega)
      have e2 : (i - (c - 1)) * s = -((c - 1 - i) * s) := by rw [← Int.neg_mul]; congr 1; omega
      omega
theorem mem_mk3 {a s c : Int} (hs : s ≠ 0) (hc : 0 ≤ c) : mem (mk3 a s c) = (List.range c.toNat).map fun k => a + (k : Nat) * s := by
  unfold mem
  rw [cnt_mk3 hs hc]
  rfl
/-- the same elements, told by how many -/
theorem mem_same (h : t.2.2 ≠ 0) : mem t = mem (mk3 t.1 t.2.2 (cnt t)) := by
  rw [mem_mk3 h cnt_nonneg]
  rfl
theorem mem_rev {a s c : Int} (hs : s ≠ 0) (hc : 0 ≤ c) : (mem (mk3 a s c)).reverse = mem (mk3 (a + (c - 1) * s) (-s) c) := by
  rw [mem_mk3 hs hc, mem_mk3 (by omega) hc]
  apply List.ext_getElem?
  intro i
  by_cases hi : i < c.toNat
  · rw [List.getElem?_reverse (by simpa using hi)]
    simp only [List.length_map, List.length_range]
    rw [List.getElem?_map, List.getElem?_map, List.getElem?_range hi, List.getElem?_range (by omega)]
    simp only [Option.map_some, Option.some.injEq]
    have e : ((c.toNat - 1 - i : Nat) : Int) = c - 1 - i := by omega
    rw [e, Int.sub_mul (c - 1) i s, Int.mul_neg]
    omega
  · rw [List.getElem?_eq_none (by simpa using hi), List.getElem?_eq_none (by simpa using hi)]
/-- ascending: the least one, the step, how many -/
def lo (t : Tr) : Int := if 0 < t.2.2 then t.1 else at1 t (cnt t - 1)
def stp (t : Tr) : Int := if 0 < t.2.2 then t.2.2 else -t.2.2
theorem up_mk3 : up t = mk3 (lo t) (stp t) (cnt t) := by
  unfold up lo stp mk3
  split
  · rfl
  · congr 1
    congr 1
    unfold at1
    rw [Int.mul_neg]
    omega
theorem stp_pos (h : t.2.2 ≠ 0) : 0 < stp t := by
  unfold stp
  split <;> omega
theorem cnt_up (h : t.2.2 ≠ 0) : cnt (up t) = cnt t := by
  rw [up_mk3, cnt_mk3 (by have := stp_pos h; omega) cnt_nonneg]
theorem mem_up (h : t.2.2 ≠ 0) : mem (up t) = if 0 < t.2.2 then mem t else (mem t).reverse := by
  rw [up_mk3, mem_same h]
  split
  · rename_i hp
    unfold lo stp
    rw [if_pos hp, if_pos hp]
  · rename_i hp
    unfold lo stp
    rw [if_neg hp, if_neg hp, mem_rev h cnt_nonneg]
    rfl
theorem nrm_s (h : t.2.2 ≠ 0) : 0 < (nrm t).2.2 := by
  unfold nrm
  split
  · decide
  · split
    · show (0 : Int) < 1
      decide
    · rw [up_mk3]
      exact stp_pos h
theorem at1_zero : at1 t 0 = t.1 := by unfold at1; omega
theorem cnt_nrm (h : t.2.2 ≠ 0) : cnt (nrm t) = cnt t := by
  unfold nrm
  split
  · rename_i h0
    rw [h0]
    decide
  · split
    · rename_i h1
      rw [h1]
      have := cnt_mk3 (a := t.1) (s := 1) (c := 1) (by omega) (by omega)
      simpa [mk3] using this
    · exact cnt_up h
theorem mem_zero (h : cnt t = 0) : mem t = [] := by unfold mem; rw [h]; rfl
theorem mem_one (h : cnt t = 1) : mem t = [t.1] := by
  unfold mem
  rw [h]
  show [at1 t 0] = _
  rw [at1_zero]
theorem mem_nrm (h : t.2.2 ≠ 0) : mem (nrm t) = if 0 < t.2.2 then mem t else (mem t).reverse := by
  have hc := cnt_nrm h
  by_cases h0 : cnt t = 0
  · rw [mem_zero (hc.trans h0), mem_zero h0]
    simp
  · by_cases h1 : cnt t = 1
    · rw [mem_one (hc.trans h1), mem_one h1]
      have : (nrm t).1 = t.1 := by unfold nrm; rw [if_neg h0, if_pos h1]
      rw [this]
      simp
    · have : nrm t = up t := by unfold nrm; rw [if_neg h0, if_neg h1]
      rw [this, mem_up h]
theorem mem_up_le {a s c : Int} (hs : 0 < s) (hc : 0 ≤ c) : (mem (mk3 a s c)).Pairwise (· ≤ ·) := by
  rw [mem_mk3 (by omega) hc, List.pairwise_map]
  refine List.Pairwise.imp ?_ (List.pairwise_lt_range (n := c.toNat))
  intro i j hij
  have : 0 ≤ ((j : Int) - i) * s := Int.mul_nonneg (by omega) (by omega)
  rw [Int.sub_mul] at this
  omega
theorem nrm_le (h : t.2.2 ≠ 0) : (mem (nrm t)).Pairwise (· ≤ ·) := by
  have hs := nrm_s h
  rw [mem_same (by omega)]
  exact mem_up_le hs cnt_nonneg
theorem sort_mem (h : t.2.2 ≠ 0) : sortI (mem t) = mem (nrm t) := by
  refine sorted_unique ((sortI_perm _).trans ?_) (sortI_le _) (nrm_le h)
  rw [mem_nrm h]
  split
  · exact List.Perm.refl _
  · exact (List.reverse_perm _).symm
theorem sort_rev (l : List Int) : sortI l.reverse = sortI l := sorted_unique ((sortI_perm _).trans ((List.reverse_perm l).trans (sortI_perm l).symm)) (sortI_le _) (sortI_le _)
/-- the triplet that ascending numbers by equal steps make -/
def shown : List Int → Tr
  | [] => (0, -1, 1)
  | [a] => (a, a, 1)
  | a :: b :: r => (a, (a :: b :: r).getLast?.getD 0, b - a)
theorem shown_nrm (h : t.2.2 ≠ 0) : shown (mem (nrm t)) = nrm t := by
  by_cases h0 : cnt t = 0
  · rw [mem_zero ((cnt_nrm h).trans h0)]
    unfold nrm
    rw [if_pos h0]
    rfl
  · by_cases h1 : cnt t = 1
    · rw [mem_one ((cnt_nrm h).trans h1)]
      unfold nrm
      rw [if_neg h0, if_pos h1]
      rfl
    · have hn := cnt_nonneg (t := t)
      have e : nrm t = mk3 (lo t) (stp t) (cnt t) := by rw [← up_mk3]; unfold nrm; rw [if_neg h0, if_neg h1]
      have hs := stp_pos h
      rw [e]
      generalize lo t = a
      generalize stp t = s at *
      obtain ⟨n, hc⟩ : ∃ n : Nat, cnt t = (n : Int) + 2 := ⟨(cnt t - 2).toNat, by omega⟩
      rw [hc, mem_mk3 (by omega) (by omega)]
      have hr : ((n : Int) + 2).toNat = n + 2 := by omega
      rw [hr]
      have hl : ((List.range (n + 2)).map fun k => a + (k : Nat) * s).getLast? = some (a + ((n : Int) + 1) * s) := by
        rw [List.getLast?_eq_getElem?]
        simp
      have h2 : ((List.range (n + 2)).map fun k => a + (k : Nat) * s) = a :: (a + s) :: ((List.range n).map fun k => a + ((k + 2 : Nat) : Int) * s) := by
        rw [List.range_succ_eq_map, List.range_succ_eq_map]
        simp
        intro k _
        congr 1
      rw [h2] at hl ⊢
      show (a, Option.getD (List.getLast? (a :: (a + s) :: _)) 0, a + s - a) = mk3 a s _
      rw [hl]
      unfold mk3
      simp
      constructor
      · congr 1
        omega
      · omega
/-- triplets with the same normal one have the same elements, and the other way about -/
theorem nrm_iff (h : t.2.2 ≠ 0) (h2 : u.2.2 ≠ 0) : nrm t = nrm u ↔ sortI (mem t) = sortI (mem u) := by
  rw [sort_mem h, sort_mem h2]
  constructor
  · intro e
    rw [e]
  · intro e
    rw [← shown_nrm h, ← shown_nrm h2, e]
end

/-! ### membership -/
section
variable {w : Wl} {b : Nat} {t u : Tr}
/-- an element -/
def In (t : Tr) (x : Int) : Prop := ∃ i : Int, 0 ≤ i ∧ i < cnt t ∧ at1 t i = x
theorem in_mem {x : Int} : x ∈ mem t ↔ In t x := by
  unfold mem In
  rw [List.mem_map]
  constructor
  · rintro ⟨k, hk, rfl⟩
    have hk := List.mem_range.mp hk
    exact ⟨k, by omega, by omega, rfl⟩
  · rintro ⟨i, h0, h1, rfl⟩
    exact ⟨i.toNat, List.mem_range.mpr (by omega), by rw [Int.toNat_of_nonneg h0]⟩
theorem in_idx {x : Int} (h : t.2.2 ≠ 0) : In t x ↔ ∃ j, idx t x = some j := by rw [← in_mem, mem_iff h]
theorem in_mk3 {a s c x : Int} (hs : 0 < s) (hc : 0 ≤ c) : In (mk3 a s c) x ↔ a ≤ x ∧ x ≤ a + (c - 1) * s ∧ s ∣ x - a := by
  unfold In
  rw [cnt_mk3 (by omega) hc]
  constructor
  · rintro ⟨i, h0, h1, rfl⟩
    have e : at1 (mk3 a s c) i = a + i * s := rfl
    have p1 : 0 ≤ i * s := Int.mul_nonneg h0 (by omega)
    have p2 : 0 ≤ (c - 1 - i) * s := Int.mul_nonneg (by omega) (by omega)
    rw [Int.sub_mul (c - 1) i s] at p2
    rw [e]
    exact ⟨by omega, by omega, ⟨i, by rw [Int.mul_comm]; omega⟩⟩
  · rintro ⟨h1, h2, i, hi⟩
    have e : at1 (mk3 a s c) i = x := by
      show a + i * s = x
      rw [Int.mul_comm]
      omega
    refine ⟨i, ?_, ?_, e⟩
    · apply Int.not_lt.mp
      intro hn
      have := Int.mul_pos_of_neg_of_neg hn (show -s < 0 by omega)
      rw [Int.mul_neg, Int.mul_comm] at this
      omega
    · apply Int.not_le.mp
      intro hn
      have : 0 < (i - (c - 1)) * s := Int.mul_pos (by omega) hs
      rw [Int.sub_mul, Int.mul_comm i] at this
      omega
theorem in_up {x : Int} (h : t.2.2 ≠ 0) : In t x ↔ (up t).1 ≤ x ∧ x ≤ (up t).2.1 ∧ (up t).2.2 ∣ x - (up t).1 := by
  have e : In t x ↔ In (up t) x := by
    rw [← in_mem, ← in_mem, mem_up h]
    split
    · exact Iff.rfl
    · rw [List.mem_reverse]
  rw [e, up_mk3, in_mk3 (stp_pos h) cnt_nonneg]
  rfl
theorem in_nrm {x : Int} (h : t.2.2 ≠ 0) : In (nrm t) x ↔ In t x := by
  rw [← in_mem, ← in_mem, mem_nrm h]
  split
  · exact Iff.rfl
  · rw [List.mem_reverse]
theorem nodup_mem (h : t.2.2 ≠ 0) : (mem t).Nodup := by
  unfold mem
  rw [List.Nodup, List.pairwise_map]
  refine List.Pairwise.imp ?_ (List.pairwise_lt_range (n := (cnt t).toNat))
  intro i j hij e
  have := at1_inj h e
  omega
/-- normal triplets of the same elements are the same -/
theorem nrm_ext (h : t.2.2 ≠ 0) (h2 : u.2.2 ≠ 0) (e : ∀ x, In t x ↔ In u x) : nrm t = nrm u := by
  rw [nrm_iff h h2]
  refine sorted_unique ((sortI_perm _).trans ?_) (sortI_le _) (sortI_le _)
  refine List.Perm.trans ?_ (sortI_perm _).symm
  rw [List.perm_ext_iff_of_nodup (nodup_mem h) (nodup_mem h2)]
  intro x
  rw [in_mem, in_mem]
  exact e x
/-- ascending by a period, from a number to a number -/
theorem in_asc {a z s x : Int} (hs : 0 < s) : In (a, z, s) x ↔ a ≤ x ∧ x ≤ z ∧ s ∣ x - a := by
  have hs0 : s ≠ 0 := by omega
  unfold In
  constructor
  · rintro ⟨i, h0, h1, rfl⟩
    have := (cnt_iff (t := (a, z, s)) hs0 h0).mp h1
    have p1 : 0 ≤ i * s := Int.mul_nonneg h0 (by omega)
    have e : at1 (a, z, s) i = a + i * s := rfl
    rw [e] at this ⊢
    simp only at this
    exact ⟨by omega, by omega, ⟨i, by rw [Int.mul_comm]; omega⟩⟩
  · rintro ⟨h1, h2, i, hi⟩
    have e : at1 (a, z, s) i = x := by
      show a + i * s = x
      rw [Int.mul_comm]
      omega
    have h0 : 0 ≤ i := by
      apply Int.not_lt.mp
      intro hn
      have := Int.mul_pos_of_neg_of_neg hn (show -s < 0 by omega)
      rw [Int.mul_neg, Int.mul_comm] at this
      omega
    refine ⟨i, h0, ?_, e⟩
    rw [cnt_iff (t := (a, z, s)) hs0 h0, e]
    exact .inl ⟨hs, h2⟩
end
/-! ### the greatest common divisor, and a factor -/
section
variable {w : Wl}
/-- what the loop keeps -/
structure Gc (N M a r f g : Int) : Prop where
  a0 : 0 < a
  r0 : 0 ≤ r
  ca : M ∣ N * f - a
  cr : M ∣ N * g - r
  dv : ∀ d : Int, d ∣ a → d ∣ r → d ∣ N ∧ d ∣ M
  sg : (0 ≤ f ∧ g ≤ 0 ∧ f * r - g * a = M) ∨ (f ≤ 0 ∧ 0 ≤ g ∧ g * a - f * r = M)
  fb : -M ≤ f ∧ f ≤ M
  ab : a ≤ N + M
theorem Gc.first {N M : Int} (hN : 0 < N) (hM : 0 < M) : Gc N M N M 1 0 :=
  ⟨hN, by omega, ⟨0, by omega⟩, ⟨-1, by omega⟩, fun d h1 h2 => ⟨h1, h2⟩, .inl ⟨by omega, by omega, by omega⟩, ⟨by omega, by omega⟩, by omega⟩
theorem Gc.gb {N M a r f g : Int} (h : Gc N M a r f g) : -M ≤ g ∧ g ≤ M := by
  have ha := h.a0
  have hr := h.r0
  rcases h.sg with ⟨h1, h2, h3⟩ | ⟨h1, h2, h3⟩
  · have p1 : 0 ≤ f * r := Int.mul_nonneg h1 hr
    have p2 : -g ≤ -g * a := mul_ge (by omega) ha
    rw [Int.neg_mul] at p2
    omega
  · have p1 : 0 ≤ -f * r := Int.mul_nonneg (by omega) hr
    have p2 : g ≤ g * a := mul_ge (by omega) ha
    rw [Int.neg_mul] at p1
    omega
theorem Gc.next {N M a r f g : Int} (h : Gc N M a r f g) (hr : r ≠ 0) (hN : 0 < N) (hM : 0 < M) (hrb : r ≤ N + M) : Gc N M r (a - a.fdiv r * r) g (f - a.fdiv r * g) := by
  have ha := h.a0
  have hr0 := h.r0
  have hq := fdiv_range (a := a) (n := r) (by omega) (by omega)
  have hm := fmod_range (a := a) (n := r) (by omega)
  have hmd := Int.fmod_def a r
  rw [Int.mul_comm] at hmd
  generalize a.fdiv r = q at *
  rw [hmd] at hm
  refine ⟨by omega, hm.1, h.cr, ?_, ?_, ?_, h.gb, hrb⟩
  · have := Int.dvd_sub h.ca (Int.dvd_mul_of_dvd_right (b := q) h.cr)
    have e : N * f - a - q * (N * g - r) = N * (f - q * g) - (a - q * r) := by
      rw [Int.mul_sub, Int.mul_sub, Int.mul_left_comm q N g]
      omega
    rw [e] at this
    exact this
  · intro d h1 h2
    refine h.dv d ?_ h1
    have := Int.dvd_add h2 (Int.dvd_mul_of_dvd_right (b := q) h1)
    have e : a - q * r + q * r = a := by omega
    rwa [e] at this
  · have e1 : g * (a - q * r) = g * a - q * (g * r) := by rw [Int.mul_sub, Int.mul_left_comm g q r]
    have e2 : (f - q * g) * r = f * r - q * (g * r) := by rw [Int.sub_mul, Int.mul_assoc]
    rcases h.sg with ⟨h1, h2, h3⟩ | ⟨h1, h2, h3⟩
    · right
      have : 0 ≤ q * -g := Int.mul_nonneg hq.1 (by omega)
      rw [Int.mul_neg] at this
      refine ⟨h2, by omega, ?_⟩
      rw [e1, e2]
      omega
    · left
      have : 0 ≤ q * g := Int.mul_nonneg hq.1 h2
      refine ⟨h2, by omega, ?_⟩
      rw [e1, e2]
      omega
end

/-! ### the loop -/
section
variable {w : Wl}
def GS (N M : Int) (m : Nat) (s : Sl) : Prop := ∃ a r f g : Int, ∃ t, s = [some (.int N), some (.int M), some (.int a), some (.int r), some (.int f), some (.int g), t] ∧ Gc N M a r f g ∧ r ≤ N + M ∧ ((r ≤ a ∧ a * r < 2 ^ m) ∨ (a < r ∧ 1 ≤ m ∧ a * r < 2 ^ (m - 1)))
def GE (N M : Int) (s : Sl) : Prop := ∃ g f h : Int, ∃ t, s = [some (.int N), some (.int M), some (.int g), some (.int 0), some (.int f), some (.int h), t] ∧ Gc N M g 0 f h
def GD (N M : Int) (d : D) : Prop := ∃ g f h : Int, d = .tup [.int g, .int f] ∧ Gc N M g 0 f h
theorem pow_up {i j : Nat} (h : i ≤ j) : (2 : Int) ^ i ≤ 2 ^ j := by
  have := Nat.pow_le_pow_right (n := 2) (by decide) h
  exact_mod_cast this
end

/-! ### what two triplets share -/
theorem crt_no {lo s l2 s2 g x : Int} (gs : g ∣ s) (gs2 : g ∣ s2) (h : ¬ g ∣ l2 - lo) : ¬ (s ∣ x - lo ∧ s2 ∣ x - l2) := by
  rintro ⟨h1, h2⟩
  apply h
  have := Int.dvd_sub (Int.dvd_trans gs h1) (Int.dvd_trans gs2 h2)
  have e : x - lo - (x - l2) = l2 - lo := by omega
  rwa [e] at this
theorem crt_yes {lo s l2 s2 g f x : Int} (g0 : 0 < g) (gs : g ∣ s) (gs2 : g ∣ s2) (hf : s2 ∣ s * f - g) (h : g ∣ l2 - lo) :
    (s ∣ x - lo ∧ s2 ∣ x - l2) ↔ s * (s2 / g) ∣ x - (lo + s * ((l2 - lo) / g * f)) := by
  obtain ⟨a, rfl⟩ := gs
  obtain ⟨b, rfl⟩ := gs2
  obtain ⟨d, hd⟩ := h
  have g1 : g ≠ 0 := by omega
  rw [hd, Int.mul_ediv_cancel_left _ g1, Int.mul_ediv_cancel_left _ g1]
  have hb : b ∣ a * f - 1 := by
    have e : g * a * f - g = g * (a * f - 1) := by rw [Int.mul_sub, Int.mul_one, Int.mul_assoc]
    rw [e] at hf
    exact Int.dvd_of_mul_dvd_mul_left g1 hf
  have x0 : g * b ∣ lo + g * a * (d * f) - l2 := by
    have e : lo + g * a * (d * f) - l2 = (g * a * f - g) * d := by
      rw [Int.sub_mul, ← hd, Int.mul_assoc (g * a) f d, Int.mul_comm f d]
      omega
    rw [e]
    exact Int.dvd_mul_of_dvd_left hf
  constructor
  · rintro ⟨h1, h2⟩
    have y1 : g * a ∣ x - (lo + g * a * (d * f)) := by
      have := Int.dvd_sub h1 (Int.dvd_mul_right (g * a) (d * f))
      have e : x - lo - g * a * (d * f) = x - (lo + g * a * (d * f)) := by omega
      rwa [e] at this
    have y2 : g * b ∣ x - (lo + g * a * (d * f)) := by
      have := Int.dvd_sub h2 x0
      have e : x - l2 - (lo + g * a * (d * f) - l2) = x - (lo + g * a * (d * f)) := by omega
      rwa [e] at this
    obtain ⟨m, hm⟩ := y1
    rw [hm] at y2 ⊢
    have h3 : b ∣ a * m := by
      rw [Int.mul_assoc] at y2
      exact Int.dvd_of_mul_dvd_mul_left g1 y2
    have h4 : b ∣ m := by
      have := Int.dvd_sub (Int.dvd_mul_of_dvd_right (b := f) h3) (Int.dvd_mul_of_dvd_left (c := m) hb)
      have e : f * (a * m) - (a * f - 1) * m = m := by
        rw [Int.sub_mul, Int.one_mul, Int.mul_comm f, Int.mul_assoc a m f, Int.mul_assoc a f m, Int.mul_comm m f]
        omega
      rwa [e] at this
    exact Int.mul_dvd_mul (Int.dvd_refl _) h4
  · intro h1
    have y1 := Int.dvd_trans (Int.dvd_mul_right (g * a) b) h1
    have y2 : g * b ∣ x - (lo + g * a * (d * f)) := by
      refine Int.dvd_trans ⟨a, ?_⟩ h1
      rw [Int.mul_assoc, Int.mul_assoc, Int.mul_comm a b]
    refine ⟨?_, ?_⟩
    · have := Int.dvd_add y1 (Int.dvd_mul_right (g * a) (d * f))
      have e : x - (lo + g * a * (d * f)) + g * a * (d * f) = x - lo := by omega
      rwa [e] at this
    · have := Int.dvd_add y2 x0
      have e : x - (lo + g * a * (d * f)) + (lo + g * a * (d * f) - l2) = x - l2 := by omega
      rwa [e] at this
section
variable {w : Wl} {t u : Tr}
structure WD (t : Tr) : Prop where
  s : t.2.2 ≠ 0
  ba : Bt 1000 t.1
  bs : Bt 1000 t.2.2
  bc : Bt 1000 (cnt t)
theorem WD.wd (h : WD t) : Wd t := ⟨h.s, h.bs.mono (by omega), h.bc.mono (by omega)⟩
theorem Tri.WD (h : Tri t) : WD t := ⟨h.s, (bt100 h.a).mono (by omega), (bt100 h.c).mono (by omega), by
  have := cnt_bt h
  have := cnt_nonneg (t := t)
  exact (bt_of (i := 110) (by omega) (by have := p110; omega)).mono (by omega)⟩
theorem WD.ends (h : WD t) : Bt 2002 (up t).1 ∧ Bt 2002 (up t).2.1 ∧ 0 < (up t).2.2 ∧ Bt 1000 (up t).2.2 := by
  have hl : Bt 2002 (at1 t (cnt t - 1)) := by
    unfold at1
    exact bt_add (i := 2001) (h.ba.mono (by omega)) ((bt_mul (bt_sub h.bc (bt1 (by omega))) h.bs).mono (by omega))
  have hs := h.s
  unfold up
  split
  · rename_i hp
    exact ⟨h.ba.mono (by omega), hl, hp, h.bs⟩
  · exact ⟨hl, h.ba.mono (by omega), by show 0 < -t.2.2; omega, bt_neg h.bs⟩
theorem in_empty {x : Int} : ¬ In (0, -1, 1) x := by
  rw [in_asc (by decide)]
  omega
theorem nrm_empty : nrm (0, -1, 1) = (0, -1, 1) := rfl
theorem fmod_dvd {a g : Int} (hg : 0 < g) : a.fmod g = 0 ↔ g ∣ a := by
  rw [Int.fmod_eq_emod_of_nonneg _ (by omega)]
  exact ⟨Int.dvd_of_emod_eq_zero, Int.emod_eq_zero_of_dvd⟩
end

/-! ### whether one has all of the other one -/
section
variable {w : Wl} {t u : Tr} {x : Int}
def hasB (u : Tr) (x : Int) : Bool := (idx u x).isSome
theorem hasB_iff (h : u.2.2 ≠ 0) : hasB u x = true ↔ In u x := by
  rw [in_idx h]
  unfold hasB
  cases idx u x <;> simp
theorem at1_btw (h : t.2.2 ≠ 0) {i : Int} (hi : 0 ≤ i) (hc : i < cnt t) : (t.1 ≤ at1 t i ∧ at1 t i ≤ at1 t (cnt t - 1)) ∨ (at1 t (cnt t - 1) ≤ at1 t i ∧ at1 t i ≤ t.1) := by
  unfold at1
  rcases Int.lt_or_gt_of_ne h with hs | hs
  · have p1 : 0 ≤ i * -t.2.2 := Int.mul_nonneg hi (by omega)
    have p2 : 0 ≤ (cnt t - 1 - i) * -t.2.2 := Int.mul_nonneg (by omega) (by omega)
    rw [Int.sub_mul (cnt t - 1) i, Int.mul_neg, Int.mul_neg] at p2
    rw [Int.mul_neg] at p1
    right
    omega
  · have p1 : 0 ≤ i * t.2.2 := Int.mul_nonneg hi (by omega)
    have p2 : 0 ≤ (cnt t - 1 - i) * t.2.2 := Int.mul_nonneg (by omega) (by omega)
    rw [Int.sub_mul (cnt t - 1) i] at p2
    left
    omega
end

end TT
end DL

set_option maxHeartbeats 2000000
namespace DL
open PySem PySem.Spec PyProof.Rows L2
/-! ### triplets, element by element; the law's own subscripts, numbers, elements -/
theorem fdiv_neg2 {m c : Int} (h : c < 0) : m.fdiv c = (-m) / (-c) := by
  have h1 := Int.mul_fdiv_add_fmod m c
  have h2 : c < m.fmod c ∧ m.fmod c ≤ 0 := by
    rw [Int.fmod_eq_emod]
    have h3 := Int.emod_nonneg m (show c ≠ 0 by omega)
    have h4 := Int.emod_lt m (show c ≠ 0 by omega)
    split
    · rename_i hh
      rcases hh with hh | hh
      · omega
      · have := Int.emod_eq_zero_of_dvd hh
        omega
    · rename_i hh
      have : m % c ≠ 0 := fun z => hh (.inr (Int.dvd_of_emod_eq_zero z))
      omega
  symm
  have e : -m = (-c) * m.fdiv c + (- m.fmod c) := by
    rw [Int.neg_mul]
    omega
  rw [e, Int.mul_add_ediv_left _ _ (show -c ≠ 0 by omega), Int.ediv_eq_zero_of_lt (by omega) (by omega)]
  omega
/-- the k-th number is one of the triplet's -/
theorem tri_lt {a b c k : Int} (h0 : c ≠ 0) (hk : 0 ≤ k) : k < (Pg.tri a b c).cn ↔ (0 < c ∧ a + k * c ≤ b) ∨ (c < 0 ∧ b ≤ a + k * c) := by
  have key : k < (Pg.tri a b c).cn ↔ k < (b - a + c).fdiv c := by
    show k < (if (b - a + c).fdiv c > 0 then (b - a + c).fdiv c else 0) ↔ _
    split <;> omega
  rw [key]
  rcases Int.lt_or_gt_of_ne h0 with hneg | hpos
  · rw [fdiv_neg2 hneg]
    have : k < -(b - a + c) / -c ↔ k + 1 ≤ -(b - a + c) / -c := by omega
    rw [this, Int.le_ediv_iff_mul_le (by omega), Int.add_mul, Int.mul_neg]
    constructor
    · intro h
      right
      omega
    · rintro (h | h) <;> omega
  · rw [Int.fdiv_eq_ediv_of_nonneg _ (by omega)]
    have : k < (b - a + c) / c ↔ k + 1 ≤ (b - a + c) / c := by omega
    rw [this, Int.le_ediv_iff_mul_le hpos, Int.add_mul]
    constructor
    · intro h
      left
      omega
    · rintro (h | h) <;> omega
theorem tri_range {a b c k : Int} (h0 : c ≠ 0) (hk : 0 ≤ k) (h : k < (Pg.tri a b c).cn) : (0 < c → a ≤ a + k * c ∧ a + k * c ≤ b) ∧ (c < 0 → b ≤ a + k * c ∧ a + k * c ≤ a) := by
  have h1 := (tri_lt h0 hk).mp h
  constructor
  · intro hc
    have : 0 ≤ k * c := Int.mul_nonneg hk (by omega)
    omega
  · intro hc
    have : 0 ≤ k * (-c) := Int.mul_nonneg hk (by omega)
    rw [Int.mul_neg] at this
    omega
theorem mem_tri {a b c x : Int} (h0 : c ≠ 0) (h : x ∈ (Pg.tri a b c).sb) : (0 < c → a ≤ x ∧ x ≤ b) ∧ (c < 0 → b ≤ x ∧ x ≤ a) := by
  unfold Pg.sb at h
  obtain ⟨k, hk, rfl⟩ := List.mem_map.mp h
  have hk := List.mem_range.mp hk
  exact tri_range h0 (by omega) (by omega)
/-- no more than there are numbers between the ends -/
theorem tri_few {a b c : Int} (h0 : c ≠ 0) (h : 0 < (Pg.tri a b c).cn) : (Pg.tri a b c).cn ≤ (if a ≤ b then b - a else a - b) + 1 := by
  have h1 := (tri_lt (a := a) (b := b) (k := (Pg.tri a b c).cn - 1) h0 (by omega)).mp (by omega)
  generalize (Pg.tri a b c).cn = n at *
  rcases h1 with ⟨hc, h1⟩ | ⟨hc, h1⟩
  · have : (n - 1) * 1 ≤ (n - 1) * c := Int.mul_le_mul_of_nonneg_left (by omega) (by omega)
    split <;> omega
  · have : (n - 1) * 1 ≤ (n - 1) * (-c) := Int.mul_le_mul_of_nonneg_left (by omega) (by omega)
    rw [Int.mul_neg] at this
    split <;> omega
section
variable {w : Wl} {p : Pg} {bs : List (Int × Int)} {ps : List Pg} {a b c : Int} {xs : List Int}
theorem tri_loop {a b c : Int} {A B : D} {fD : List Int → D} (h0 : c ≠ 0) : True := True.intro
end
end DL

set_option maxHeartbeats 2000000
namespace DL
open PySem PySem.Spec PyProof.Rows L2
/-! ### sections: all elements, as the law goes through them; what the program says of them -/
def secG (ps : List Pg) : D := .tup (ps.map Pg.toD)
def rowsD (rs : List (List Int)) : D := .lst (rs.map eD)
def els : List Pg → List (List Int)
  | [] => [[]]
  | p :: ps => (els ps).flatMap fun row => p.sb.map fun x => x :: row
def tot (ps : List Pg) : Int := prod (ps.map Pg.cn)
section
variable {w : Wl} {p : Pg} {bs : List (Int × Int)} {ps : List Pg}
@[simp] theorem getS_sec {s : Sl} : getS (some (secG ps) :: s) 0 = some (secG ps) := rfl
@[simp] theorem seqD_sec : seqD (secG ps) = some (true, ps.map Pg.toD) := rfl
@[simp] theorem getS_rows {rs : List (List Int)} {s : Sl} : getS (some (rowsD rs) :: s) 0 = some (rowsD rs) := rfl
@[simp] theorem seqD_rows {rs : List (List Int)} : seqD (rowsD rs) = some (false, rs.map eD) := rfl
theorem okE_lcall3 {γ : Type} {A : DE} {G : DG} (g f : γ → D) {s : Sl} {w : Wl} {xs : List γ} {ds : List D} {Q : List D → Wl → Prop} (e : ds = xs.map g) (h : ∀ x ∈ xs, okO (G (g x) s) fun s1 => okE (A s1 w) fun d w1 => d = f x ∧ w1 = w) (q : Q (xs.map f) w) : okE (lcD G tYesD A ds s w) Q := okE_lcall2 g f e h q
theorem prod_nonneg : ∀ {ns : List Int}, (∀ n ∈ ns, 0 ≤ n) → 0 ≤ prod ns
  | [], _ => by decide
  | n :: r, h => Int.mul_nonneg (h n List.mem_cons_self) (prod_nonneg fun m hm => h m (List.mem_cons_of_mem _ hm))
theorem tot_nonneg : 0 ≤ tot ps := prod_nonneg fun n hn => by
  obtain ⟨p, _, rfl⟩ := List.mem_map.mp hn
  exact p.cn_nonneg
theorem tot_ne : ∀ {ps : List Pg}, tot ps ≠ 0 → ∀ p ∈ ps, 0 < p.cn
  | [], _, p, hp => by cases hp
  | q :: ps, h, p, hp => by
    have h : q.cn * tot ps ≠ 0 := h
    have hq := q.cn_nonneg
    rcases List.mem_cons.mp hp with rfl | hp
    · rcases Int.lt_or_eq_of_le hq with z | z
      · exact z
      · rw [← z, Int.zero_mul] at h
        exact absurd rfl h
    · exact tot_ne (fun z => h (by rw [z, Int.mul_zero])) p hp
theorem tot_zero : ∀ {ps : List Pg}, tot ps = 0 ↔ ∃ p ∈ ps, p.cn = 0
  | [] => by simp [tot, prod]
  | q :: ps => by
    show q.cn * tot ps = 0 ↔ _
    rw [Int.mul_eq_zero, tot_zero (ps := ps)]
    simp
theorem els_len : ∀ ps : List Pg, ((els ps).length : Int) = tot ps
  | [] => rfl
  | p :: ps => by
    show (((els ps).flatMap fun row => p.sb.map fun x => x :: row).length : Int) = p.cn * tot ps
    rw [List.length_flatMap, ← els_len ps, ← Pg.sb_len]
    have : ((els ps).map fun row => (p.sb.map fun x => x :: row).length) = (els ps).map fun _ => p.sb.length := by simp
    rw [this]
    simp [List.map_const', Int.mul_comm]
theorem els_row : ∀ {ps : List Pg} {row : List Int}, row ∈ els ps → row.length = ps.length
  | [], row, h => by
    have := List.mem_singleton.mp h
    rw [this]
    rfl
  | p :: ps, row, h => by
    obtain ⟨r, hr, h⟩ := List.mem_flatMap.mp h
    obtain ⟨x, _, rfl⟩ := List.mem_map.mp h
    simp [els_row hr]
/-- each part lies within its dimension -/
def InnA : List (Int × Int) → List Pg → Prop
  | [], [] => True
  | d :: ds, p :: ps => Inn d p ∧ InnA ds ps
  | _, _ => False
theorem InnA.len : ∀ {bs : List (Int × Int)} {ps : List Pg}, InnA bs ps → ps.length = bs.length
  | [], [], _ => rfl
  | _ :: _, _ :: _, h => by simp [InnA.len h.2]
theorem InnA.zip : ∀ {bs : List (Int × Int)} {ps : List Pg}, InnA bs ps → ∀ t ∈ ps.zip bs, Inn t.2 t.1
  | [], [], _, t, h => by simp at h
  | d :: ds, p :: ps, h, t, ht => by
    rw [List.zip_cons_cons] at ht
    rcases List.mem_cons.mp ht with rfl | ht
    · exact h.1
    · exact h.2.zip t ht
theorem els_el : ∀ {bs : List (Int × Int)} {ps : List Pg} {row : List Int}, InnA bs ps → row ∈ els ps → El bs row
  | [], [], row, _, hr => by
    have := List.mem_singleton.mp hr
    rw [this]
    exact True.intro
  | d :: ds, p :: ps, row, h, hr => by
    obtain ⟨r, hr2, hm⟩ := List.mem_flatMap.mp hr
    obtain ⟨x, hx2, rfl⟩ := List.mem_map.mp hm
    exact ⟨h.1 x hx2, els_el h.2 hr2⟩
theorem e_many_in (h7 : ps.length ≤ 7) (h : ∀ p ∈ ps, Gq p) : F_many_in [secG ps] w = .ok (.int (tot ps)) w := by
  apply okE_eq
  have hlim : lim = 16000000 := rfl
  simp -implicitDefEqProofs [F_many_in, B_many_in, okE_run, List.replicate]
  refine ⟨by omega, okE_lcall3 Pg.toD (fun p => .int p.cn) rfl (fun x hx => ?_) ?_⟩
  · simp -implicitDefEqProofs [e_many_pg (h x hx)]
  · have := e_multiplied (w := w) (ns := ps.map Pg.cn) (by simpa using h7) (fun n hn => by
      obtain ⟨p, hp, rfl⟩ := List.mem_map.mp hn
      exact (h p hp).cn_small)
    rw [List.map_map] at this
    rw [show (ps.map fun p => D.int p.cn) = ps.map (D.int ∘ Pg.cn) from rfl, this]
    exact ⟨rfl, rfl⟩
/-- a section of an array: with elements, all within the bounds, or without -/
structure Sec (bs : List (Int × Int)) (ps : List Pg) : Prop where
  len : ps.length = bs.length
  few : bs.length ≤ 7
  ok : ∀ p ∈ ps, Gq p
  inn : tot ps ≠ 0 → InnA bs ps
theorem e_is_section (h : Sec bs ps) : F_is_section [bD bs, secG ps] w = .ok (.bl true) w := by
  apply okE_eq
  have hlim : lim = 16000000 := rfl
  have h1 := h.len
  have h7 := h.few
  have em := e_many_in (w := w) (ps := ps) (by omega) h.ok
  have hT : ∀ w, fIsi w [secG ps, .ty "tuple"] = some (.bl true) := fun w => rfl
  have hL : ∀ w, fLen w [secG ps] = some (.int (ps.map Pg.toD).length) := fun w => rfl
  have hB : ∀ w, fLen w [bD bs] = some (.int (bs.map pD).length) := fun w => rfl
  simp -implicitDefEqProofs [F_is_section, B_is_section, okE_run, List.replicate, hT, hL, hB, h1]
  refine ⟨by omega, okE_lcall3 Pg.toD (fun p => .bl true) rfl (fun x hx => ?_) ?_⟩
  · simp -implicitDefEqProofs [e_part_pg (h.ok x hx)]
  · rw [v_all]
    simp -implicitDefEqProofs [em]
    by_cases ht : tot ps = 0
    · simp -implicitDefEqProofs [ht]
    · have hz : zip2D [secG ps, bD bs] = some (zipD (ps.map Pg.toD) (bs.map pD)) := rfl
      simp -implicitDefEqProofs [ht, hz, zipD_maps]
      refine ⟨by omega, okE_lcall3 (γ := Pg × (Int × Int)) (fun x => .tup [x.1.toD, pD x.2]) (fun p => .bl true) rfl (fun x hx => ?_) ?_⟩
      · have hx1 : x.1 ∈ ps := (List.of_mem_zip hx).1
        have := e_lies_pg (w := w) (h.ok _ hx1) (tot_ne ht _ hx1) ((h.inn ht).zip x hx)
        simp -implicitDefEqProofs [pD, this]
      · rw [v_all]
        simp -implicitDefEqProofs
theorem e_check_section (hb : Bds bs) (h : Sec bs ps) (c : Str) : F_check_section [bD bs, secG ps, .str c] w = .ok .non w := by
  apply okE_eq
  simp -implicitDefEqProofs [F_check_section, B_check_section, okE_run, List.replicate, e_check hb, e_is_section h]
end
end DL

set_option maxHeartbeats 2000000
namespace DL
open PySem PySem.Spec PyProof.Rows L2
/-! ### how often the next number leads just one on -/
def cnt (t : Int) : List Int → Int
  | [] => 0
  | [_] => 0
  | x :: y :: r => (if t + (y - x) = 1 then 1 else 0) + cnt t (y :: r)
def hd0 (l : List Int) : Int := l.headD 0
def la0 (l : List Int) : Int := l.getLastD 0
theorem la0_cons {x y : Int} {r : List Int} : la0 (x :: y :: r) = la0 (y :: r) := by simp [la0]
theorem cnt_append {t : Int} : ∀ {A C : List Int}, A ≠ [] → C ≠ [] → cnt t (A ++ C) = cnt t A + (if t + (hd0 C - la0 A) = 1 then 1 else 0) + cnt t C
  | [], _, h, _ => absurd rfl h
  | _, [], _, h => absurd rfl h
  | [x], y :: r, _, _ => by simp [cnt, hd0, la0]
  | x :: z :: r, y :: s, _, _ => by
    have ih := cnt_append (t := t) (A := z :: r) (C := y :: s) (by simp) (by simp)
    rw [la0_cons]
    simp only [List.cons_append, cnt] at ih ⊢
    omega
theorem cnt_shift {t v : Int} : ∀ B : List Int, cnt t (B.map fun x => x + v) = cnt t B
  | [] => rfl
  | [_] => rfl
  | x :: y :: r => by
    have ih := cnt_shift (t := t) (v := v) (y :: r)
    simp only [List.map_cons, cnt] at ih ⊢
    rw [ih, show y + v - (x + v) = y - x by omega]
theorem hd0_shift {v : Int} {B : List Int} (h : B ≠ []) : hd0 (B.map fun x => x + v) = hd0 B + v := by
  cases B with
  | nil => exact absurd rfl h
  | cons x r => simp [hd0]
theorem la0_shift {v : Int} : ∀ {B : List Int}, B ≠ [] → la0 (B.map fun x => x + v) = la0 B + v
  | [], h => absurd rfl h
  | [x], _ => by simp [la0]
  | x :: y :: r, _ => by
    have := la0_shift (v := v) (B := y :: r) (by simp)
    simp only [List.map_cons] at this ⊢
    rw [la0_cons, la0_cons]
    exact this
/-- blocks one behind the other -/
theorem cnt_blocks {t : Int} {B : List Int} (hB : B ≠ []) : ∀ V : List Int, cnt t (V.flatMap fun v => B.map fun x => x + v) = V.length * cnt t B + cnt (t + (hd0 B - la0 B)) V
  | [] => by simp [cnt]
  | [v] => by simp [cnt, cnt_shift]
  | v :: u :: r => by
    have ih := cnt_blocks (t := t) hB (u :: r)
    have hne : (B.map fun x => x + v) ≠ [] := by simpa using hB
    have hne2 : ((u :: r).flatMap fun v => B.map fun x => x + v) ≠ [] := by
      rw [List.flatMap_cons]
      intro z
      have := (List.append_eq_nil_iff.mp z).1
      simp at this
      exact hB this
    have hh : hd0 ((u :: r).flatMap fun v => B.map fun x => x + v) = hd0 B + u := by
      rw [List.flatMap_cons]
      cases B with
      | nil => exact absurd rfl hB
      | cons x s => simp [hd0]
    rw [List.flatMap_cons, cnt_append hne hne2, ih, cnt_shift, hh, la0_shift hB]
    simp only [List.length_cons, cnt]
    rw [show t + (hd0 B + u - (la0 B + v)) = t + (hd0 B - la0 B) + (u - v) by omega]
    generalize cnt t B = q
    generalize cnt (t + (hd0 B - la0 B)) (u :: r) = z
    have e : ((r.length + 1 + 1 : Nat) : Int) * q = ((r.length + 1 : Nat) : Int) * q + q := by
      rw [show ((r.length + 1 + 1 : Nat) : Int) = ((r.length + 1 : Nat) : Int) + 1 by omega, Int.add_mul, Int.one_mul]
    omega
theorem cnt_ap {t u c a : Int} : ∀ n : Nat, cnt t ((List.range (n + 1)).map fun (k : Nat) => (u + (k : Int) * c) * a) = if t + c * a = 1 then (n : Int) else 0
  | 0 => by simp [cnt]
  | n + 1 => by
    have ih := cnt_ap (t := t) (u := u) (c := c) (a := a) n
    rw [List.range_succ, List.map_append, cnt_append (by simp) (by simp), ih]
    have hl : la0 ((List.range (n + 1)).map fun (k : Nat) => (u + (k : Int) * c) * a) = (u + (n : Int) * c) * a := by
      rw [List.range_succ, List.map_append]
      simp [la0]
    rw [hl]
    have e : hd0 ([n + 1].map fun (k : Nat) => (u + (k : Int) * c) * a) - (u + (n : Int) * c) * a = c * a := by
      simp only [List.map_cons, List.map_nil, hd0, List.headD_cons]
      rw [← Int.sub_mul, show ((n + 1 : Nat) : Int) = (n : Int) + 1 by omega, Int.add_mul]
      congr 1
      omega
    rw [e]
    simp only [List.map_cons, List.map_nil, cnt]
    split <;> omega
theorem cnt_filter {t : Int} : ∀ L : List Int, (((List.range (L.length - 1)).filter fun k => decide (t + (L.getD (k + 1) 0 - L.getD k 0) = 1)).length : Int) = cnt t L
  | [] => rfl
  | [_] => rfl
  | x :: y :: r => by
    have ih := cnt_filter (t := t) (y :: r)
    simp only [List.length_cons, Nat.add_sub_cancel] at ih ⊢
    rw [List.range_succ_eq_map, List.filter_cons, List.filter_map, cnt]
    simp only [Function.comp_def, List.getD_cons_succ, List.getD_cons_zero] at ih ⊢
    simp only [decide_eq_true_eq]
    have : (if t + (y - x) = 1 then 0 :: List.map Nat.succ (List.filter (fun k => decide (t + (r.getD k 0 - (y :: r).getD k 0) = 1)) (List.range r.length)) else List.map Nat.succ (List.filter (fun k => decide (t + (r.getD k 0 - (y :: r).getD k 0) = 1)) (List.range r.length))).length = (if t + (y - x) = 1 then 1 else 0) + (List.filter (fun k => decide (t + (r.getD k 0 - (y :: r).getD k 0) = 1)) (List.range r.length)).length := by
      split <;> simp <;> omega
    rw [← ih]
    split at this <;> split <;> simp_all <;> omega
theorem cnt_range {t : Int} : ∀ L : List Int, 0 ≤ cnt t L ∧ (cnt t L ≤ L.length - 1 ∨ L = [])
  | [] => ⟨Int.le_refl 0, .inr rfl⟩
  | [x] => ⟨by simp [cnt], .inl (by simp [cnt])⟩
  | x :: y :: r => by
    obtain ⟨h1, h2⟩ := cnt_range (t := t) (y :: r)
    rcases h2 with h2 | h2
    · simp only [cnt, List.length_cons] at *
      split <;> omega
    · cases h2
/-- the values of all elements, the first part fastest -/
def vls : Int → List (Int × Int) → List Pg → List Int
  | a, d :: ds, p :: ps => (vls (a * ext d) ds ps).flatMap fun v => p.sb.map fun x => (x - d.1) * a + v
  | _, _, _ => [0]
theorem vls_len : ∀ {a : Int} {bs : List (Int × Int)} {ps : List Pg}, ps.length = bs.length → ((vls a bs ps).length : Int) = tot ps
  | a, [], [], _ => rfl
  | a, d :: ds, p :: ps, h => by
    have ih := vls_len (a := a * ext d) (bs := ds) (ps := ps) (by simpa using h)
    show (((vls (a * ext d) ds ps).flatMap fun v => p.sb.map fun x => (x - d.1) * a + v).length : Int) = p.cn * tot ps
    rw [List.length_flatMap, ← ih, ← Pg.sb_len]
    have : ((vls (a * ext d) ds ps).map fun v => (p.sb.map fun x => (x - d.1) * a + v).length) = (vls (a * ext d) ds ps).map fun _ => p.sb.length := by simp
    rw [this]
    simp [List.map_const', Int.mul_comm]
theorem vls_els : ∀ {a : Int} {bs : List (Int × Int)} {ps : List Pg}, ps.length = bs.length → (els ps).map (fun row => a * place bs row) = vls a bs ps
  | a, [], [], _ => by simp [els, vls, place]
  | a, d :: ds, p :: ps, h => by
    have ih := vls_els (a := a * ext d) (bs := ds) (ps := ps) (by simpa using h)
    show ((els ps).flatMap fun row => p.sb.map fun x => x :: row).map _ = (vls (a * ext d) ds ps).flatMap _
    rw [← ih, List.map_flatMap, List.flatMap_map]
    congr 1
    funext row
    rw [List.map_map]
    apply List.map_congr_left
    intro x _
    show a * ((x - d.1) + ext d * place ds row) = (x - d.1) * a + a * ext d * place ds row
    rw [Int.mul_add, Int.mul_comm a (x - d.1), Int.mul_assoc]
theorem Pg.hd_sb {p : Pg} (h : 0 < p.cn) : hd0 p.sb = p.at' 0 := by
  obtain ⟨n, hn⟩ := Int.eq_ofNat_of_zero_le (Int.sub_nonneg_of_le h)
  have : p.cn.toNat = n + 1 := by omega
  unfold Pg.sb
  rw [this, List.range_succ_eq_map]
  simp [hd0]
theorem Pg.la_sb {p : Pg} (h : 0 < p.cn) : la0 p.sb = p.at' (p.cn - 1) := by
  obtain ⟨n, hn⟩ := Int.eq_ofNat_of_zero_le (Int.sub_nonneg_of_le h)
  have : p.cn.toNat = n + 1 := by omega
  unfold Pg.sb
  rw [this, List.range_succ, List.map_append, show p.cn - 1 = (n : Int) by omega]
  simp [la0]
theorem sb_ne {p : Pg} (h : 0 < p.cn) : p.sb ≠ [] := fun z => by
  have := Pg.sb_len (p := p)
  rw [z] at this
  simp at this
  omega
theorem hd0_map {f : Int → Int} {l : List Int} (h : l ≠ []) : hd0 (l.map f) = f (hd0 l) := by
  cases l with
  | nil => exact absurd rfl h
  | cons x r => simp [hd0]
theorem la0_map {f : Int → Int} : ∀ {l : List Int}, l ≠ [] → la0 (l.map f) = f (la0 l)
  | [], h => absurd rfl h
  | [x], _ => by simp [la0]
  | x :: y :: r, _ => by
    have := la0_map (f := f) (l := y :: r) (by simp)
    simp only [List.map_cons] at this ⊢
    rw [la0_cons, la0_cons]
    exact this
/-- a part ahead of the others -/
theorem cnt_vls {t a : Int} {d : Int × Int} {ds : List (Int × Int)} {p : Pg} {ps : List Pg} (hp : 0 < p.cn) (h : ps.length = ds.length) :
    cnt t (vls a (d :: ds) (p :: ps)) = tot ps * cnt t (p.sb.map fun x => x * a) + cnt (t + (p.at' 0 - p.at' (p.cn - 1)) * a) (vls (a * ext d) ds ps) := by
  have e : vls a (d :: ds) (p :: ps) = (vls (a * ext d) ds ps).flatMap fun v => (p.sb.map fun x => (x - d.1) * a).map fun x => x + v := by
    show (vls (a * ext d) ds ps).flatMap _ = _
    congr 1
    funext v
    rw [List.map_map]
    rfl
  have hne : (p.sb.map fun x => (x - d.1) * a) ≠ [] := by simpa using sb_ne hp
  rw [e, cnt_blocks hne, vls_len h, hd0_map (sb_ne hp), la0_map (sb_ne hp), Pg.hd_sb hp, Pg.la_sb hp]
  have e2 : (p.sb.map fun x => (x - d.1) * a) = (p.sb.map fun x => x * a).map fun x => x + (-(d.1 * a)) := by
    rw [List.map_map]
    apply List.map_congr_left
    intro x _
    show (x - d.1) * a = x * a + -(d.1 * a)
    rw [Int.sub_mul]
    omega
  rw [e2, cnt_shift]
  congr 2
  rw [Int.sub_mul, Int.sub_mul, Int.sub_mul]
  omega
end DL

set_option maxHeartbeats 2000000
namespace DL
open PySem PySem.Spec PyProof.Rows L2
/-! ### lists of rows: the same rows in the same order, none of them twice, are rows of the same lists -/
def elsL : List (List Int) → List (List Int)
  | [] => [[]]
  | s :: A => (elsL A).flatMap fun row => s.map fun x => x :: row
theorem els_elsL : ∀ ps : List Pg, els ps = elsL (ps.map Pg.sb)
  | [] => rfl
  | p :: ps => by
    show (els ps).flatMap _ = (elsL (ps.map Pg.sb)).flatMap _
    rw [els_elsL ps]
theorem elsL_nodup : ∀ {A : List (List Int)}, (∀ s ∈ A, s.Nodup) → (elsL A).Nodup
  | [], _ => by simp [elsL]
  | s :: A, h => by
    have ih := elsL_nodup (A := A) fun t ht => h t (List.mem_cons_of_mem _ ht)
    have hs := h s List.mem_cons_self
    show ((elsL A).flatMap fun row => s.map fun x => x :: row).Nodup
    unfold List.Nodup at *
    rw [List.pairwise_flatMap]
    refine ⟨fun row _ => ?_, ih.imp fun {a b} hab => ?_⟩
    · rw [List.pairwise_map]
      exact hs.imp fun {x y} hxy e => hxy (List.cons.inj e).1
    · intro x hx y hy e
      obtain ⟨u, _, rfl⟩ := List.mem_map.mp hx
      obtain ⟨v, _, rfl⟩ := List.mem_map.mp hy
      exact hab (List.cons.inj e).2
theorem elsL_split {s : List Int} {A : List (List Int)} (h : (elsL (s :: A)).Nodup) (hs : s ≠ []) (hA : elsL A ≠ []) : s.Nodup ∧ (elsL A).Nodup := by
  have h : ((elsL A).flatMap fun row => s.map fun x => x :: row).Nodup := h
  unfold List.Nodup at *
  rw [List.pairwise_flatMap] at h
  obtain ⟨h1, h2⟩ := h
  obtain ⟨x0, s', rfl⟩ := List.exists_cons_of_ne_nil hs
  obtain ⟨r0, R, e⟩ := List.exists_cons_of_ne_nil hA
  refine ⟨?_, h2.imp fun {a b} hab e => ?_⟩
  · have q := h1 r0 (by rw [e]; exact List.mem_cons_self)
    rw [List.pairwise_map] at q
    exact q.imp fun {x y} hxy e => hxy (by rw [e])
  · exact hab (x0 :: a) (List.mem_map.mpr ⟨x0, List.mem_cons_self, rfl⟩) (x0 :: b) (List.mem_map.mpr ⟨x0, List.mem_cons_self, rfl⟩) (by rw [e])
theorem filter_eq1 {α : Type} [DecidableEq α] {x : α} {s : List α} (h : s.Nodup) (hx : x ∈ s) : s.filter (fun y => decide (y = x)) = [x] := by
  induction s with
  | nil => cases hx
  | cons a s ih =>
    have hn := List.nodup_cons.mp h
    by_cases e : a = x
    · subst e
      rw [List.filter_cons_of_pos (by simp)]
      have : s.filter (fun y => decide (y = a)) = [] := List.filter_eq_nil_iff.mpr fun y hy => by
        have : y ≠ a := fun z => hn.1 (z ▸ hy)
        simp [this]
      rw [this]
    · rw [List.filter_cons_of_neg (by simp [e])]
      rcases List.mem_cons.mp hx with z | z
      · exact absurd z.symm e
      · exact ih hn.2 z
theorem flatMap_one {α β : Type} [DecidableEq α] {x : α} {f : α → List β} : ∀ {s : List α}, s.Nodup → x ∈ s → (s.flatMap fun y => if y = x then f y else []) = f x
  | a :: s, h, hx => by
    have hn := List.nodup_cons.mp h
    rw [List.flatMap_cons]
    by_cases e : a = x
    · subst e
      rw [if_pos rfl]
      have : (s.flatMap fun y => if y = a then f y else []) = [] := List.flatMap_eq_nil_iff.mpr fun y hy => by
        have : y ≠ a := fun z => hn.1 (z ▸ hy)
        rw [if_neg this]
      rw [this, List.append_nil]
    · rw [if_neg e, List.nil_append]
      rcases List.mem_cons.mp hx with z | z
      · exact absurd z.symm e
      · exact flatMap_one hn.2 z
theorem by_tail {s : List Int} {R : List (List Int)} {r0 : List Int} (h : R.Nodup) (hr : r0 ∈ R) : (R.flatMap fun row => s.map fun x => x :: row).filter (fun l => decide (l.tail = r0)) = s.map fun x => x :: r0 := by
  rw [List.filter_flatMap]
  rw [show (fun row => ((s.map fun x => x :: row).filter fun l => decide (l.tail = r0))) = fun row => if row = r0 then s.map (fun x => x :: row) else [] from ?_]
  · exact flatMap_one h hr
  · funext row
    split
    · rename_i e
      subst e
      exact List.filter_eq_self.mpr fun l hl => by
        obtain ⟨x, _, rfl⟩ := List.mem_map.mp hl
        simp
    · rename_i e
      exact List.filter_eq_nil_iff.mpr fun l hl => by
        obtain ⟨x, _, rfl⟩ := List.mem_map.mp hl
        simp [e]
theorem by_head {s : List Int} {R : List (List Int)} {x0 : Int} (h : s.Nodup) (hx : x0 ∈ s) : (R.flatMap fun row => s.map fun x => x :: row).filter (fun l => decide (l.head? = some x0)) = R.map fun row => x0 :: row := by
  rw [List.filter_flatMap]
  rw [show (fun row => ((s.map fun x => x :: row).filter fun l => decide (l.head? = some x0))) = fun row => [x0 :: row] from ?_]
  · induction R with
    | nil => rfl
    | cons r R ih => rw [List.flatMap_cons, ih]; rfl
  · funext row
    rw [List.filter_map]
    rw [show ((fun l : List Int => decide (l.head? = some x0)) ∘ fun x => x :: row) = fun y => decide (y = x0) from by funext y; simp]
    rw [filter_eq1 h hx]
    rfl
theorem elsL_inj : ∀ {A B : List (List Int)}, A.length = B.length → elsL A = elsL B → elsL A ≠ [] → (elsL A).Nodup → A = B
  | [], [], _, _, _, _ => rfl
  | s :: A, t :: B, hl, he, hne, hnd => by
    have hs : s ≠ [] := fun z => hne (by rw [z]; show ((elsL A).flatMap fun row => ([] : List Int).map fun x => x :: row) = []; simp)
    have hA : elsL A ≠ [] := fun z => hne (by show ((elsL A).flatMap _) = []; rw [z]; rfl)
    have hne2 : elsL (t :: B) ≠ [] := he ▸ hne
    have hnd2 : (elsL (t :: B)).Nodup := he ▸ hnd
    have ht : t ≠ [] := fun z => hne2 (by rw [z]; show ((elsL B).flatMap fun row => ([] : List Int).map fun x => x :: row) = []; simp)
    have hB : elsL B ≠ [] := fun z => hne2 (by show ((elsL B).flatMap _) = []; rw [z]; rfl)
    obtain ⟨n1, n2⟩ := elsL_split hnd hs hA
    obtain ⟨m1, m2⟩ := elsL_split hnd2 ht hB
    have he : ((elsL A).flatMap fun row => s.map fun x => x :: row) = (elsL B).flatMap fun row => t.map fun x => x :: row := he
    obtain ⟨x0, s', es⟩ := List.exists_cons_of_ne_nil hs
    obtain ⟨y0, t', et⟩ := List.exists_cons_of_ne_nil ht
    obtain ⟨r0, R, eR⟩ := List.exists_cons_of_ne_nil hA
    obtain ⟨q0, Q, eQ⟩ := List.exists_cons_of_ne_nil hB
    have e0 : x0 :: r0 = y0 :: q0 := by
      have q := congrArg List.head? he
      rw [eR, eQ, es, et] at q
      simpa using q
    obtain ⟨rfl, rfl⟩ := List.cons.inj e0
    have h1 := by_tail (s := s) n2 (by rw [eR]; exact List.mem_cons_self : r0 ∈ elsL A)
    have h2 := by_tail (s := t) m2 (by rw [eQ]; exact List.mem_cons_self : r0 ∈ elsL B)
    rw [he, h2] at h1
    have est : t = s := by
      have q := congrArg (List.map fun l : List Int => l.headD 0) h1
      rw [List.map_map, List.map_map] at q
      simpa [Function.comp_def] using q
    subst est
    have h3 := by_head (R := elsL A) n1 (by rw [es]; exact List.mem_cons_self : x0 ∈ t)
    have h4 := by_head (R := elsL B) n1 (by rw [es]; exact List.mem_cons_self : x0 ∈ t)
    rw [he, h4] at h3
    have eAB : elsL B = elsL A := by
      have q := congrArg (List.map fun l : List Int => l.tail) h3
      rw [List.map_map, List.map_map] at q
      simpa [Function.comp_def] using q
    rw [elsL_inj (A := A) (B := B) (by simpa using hl) eAB.symm hA n2]
end DL

set_option maxHeartbeats 2000000
namespace DL
open PySem PySem.Spec PyProof.Rows L2
/-! ### parts without a subscript twice; parts of the same row -/
def Pg.once : Pg → Bool
  | .lst xs => decide (dist xs = xs.length)
  | _ => true
theorem met_nodup (val : Nat → Int) : ∀ i, (PyProof.Rows.firstMet val i).length = i → ((List.range i).map val).Nodup
  | 0, _ => by simp
  | i + 1, h => by
    have hle := PyProof.Rows.firstMet_length_le val i
    rw [PyProof.Rows.firstMet_succ] at h
    unfold PyProof.Rows.step_dedup at h
    split at h
    · omega
    · rename_i hn
      rw [List.length_append] at h
      have ih := met_nodup val i (by simpa using h)
      rw [PyProof.Rows.firstMet_any] at hn
      rw [List.range_succ, List.map_append]
      unfold List.Nodup at *
      rw [List.pairwise_append]
      refine ⟨ih, by simp, ?_⟩
      intro a ha b hb e
      have eb : b = val i := by simpa using hb
      subst eb
      subst e
      exact hn (List.any_eq_true.mpr ⟨_, ha, by simp⟩)
theorem dist_nodup {ns : List Int} (h : dist ns = ns.length) : ns.Nodup := by
  have q := met_nodup (fun i => ns.getD i 0) ns.length h
  have e : (List.range ns.length).map (fun i => ns.getD i 0) = ns := by
    apply List.ext_getElem
    · simp
    · intro i h1 h2
      simp [List.getD, List.getElem?_eq_getElem h2]
  rwa [e] at q
theorem once_nodup {p : Pg} (h : Gq p) (ho : p.once = true) : p.sb.Nodup := by
  cases h with
  | num _ => rw [Pg.sb_num]; simp
  | lst _ _ =>
    rw [Pg.sb_lst]
    exact dist_nodup (of_decide_eq_true ho)
  | tri _ _ _ h0 =>
    unfold Pg.sb List.Nodup
    rw [List.pairwise_map]
    refine List.nodup_range.imp fun {i j} hij e => hij ?_
    simp only [Pg.at'] at e
    have e2 := Int.mul_eq_mul_right_iff h0 |>.mp (Int.add_left_cancel e)
    omega
section
variable {w : Wl} {p q : Pg} {bs : List (Int × Int)} {ps qs : List Pg}
theorem e_once (h : Gq p) : F_is_part_once [p.toD] w = .ok (.bl p.once) w := by
  apply okE_eq
  cases h with
  | num _ => simp -implicitDefEqProofs [Pg.toD, F_is_part_once, B_is_part_once, okE_run, List.replicate, Pg.once]
  | tri _ _ _ _ => simp -implicitDefEqProofs [Pg.toD, F_is_part_once, B_is_part_once, okE_run, List.replicate, Pg.once]
  | lst h1 _ =>
    rename_i xs _
    have h2 : xs.length ≤ 4000 := by omega
    simp -implicitDefEqProofs [Pg.toD, F_is_part_once, B_is_part_once, okE_run, List.replicate, Pg.once, h2]
    exact Int.ofNat_inj
theorem sb_nodup_len (h : p.sb = q.sb) : p.cn = q.cn := by
  rw [← Pg.sb_len, ← Pg.sb_len, h]
theorem tri_sb {a b c a' b' c' : Int} (h1 : (Pg.tri a b c).cn = (Pg.tri a' b' c').cn) (h2 : 1 < (Pg.tri a b c).cn) : (Pg.tri a b c).sb = (Pg.tri a' b' c').sb ↔ a = a' ∧ c = c' := by
  constructor
  · intro h
    have key : ∀ (k : Nat), (k : Int) < (Pg.tri a b c).cn → a + k * c = a' + k * c' := fun k hk => by
      have e := congrArg (fun l => l[k]?) h
      unfold Pg.sb at e
      rw [← h1] at e
      simp only [List.getElem?_map] at e
      rw [List.getElem?_range (by omega)] at e
      simpa [Pg.at'] using e
    have k0 := key 0 (by omega)
    have k1 := key 1 (by omega)
    simp at k0 k1
    omega
  · rintro ⟨rfl, rfl⟩
    unfold Pg.sb
    rw [← h1]
    rfl
end
end DL

set_option maxHeartbeats 2000000
namespace DL
open PySem PySem.Spec PyProof.Rows L2
/-! ### the places of all elements; the same sequence -/
theorem vls_snoc {d : Int × Int} {p : Pg} : ∀ {a : Int} {ds : List (Int × Int)} {ps : List Pg}, ps.length = ds.length →
    vls a (ds ++ [d]) (ps ++ [p]) = p.sb.flatMap fun x => (vls a ds ps).map fun v => v + (x - d.1) * (a * prod (ds.map ext))
  | a, [], [], _ => by
    show ([0] : List Int).flatMap (fun v => p.sb.map fun x => (x - d.1) * a + v) = p.sb.flatMap fun x => [0 + (x - d.1) * (a * 1)]
    simp [List.flatMap_cons]
    induction p.sb with
    | nil => rfl
    | cons x r ih => simp [ih]
  | a, e :: ds, q :: ps, h => by
    have ih := vls_snoc (d := d) (p := p) (a := a * ext e) (ds := ds) (ps := ps) (by simpa using h)
    show (vls (a * ext e) (ds ++ [d]) (ps ++ [p])).flatMap (fun v => q.sb.map fun x => (x - e.1) * a + v) = p.sb.flatMap fun x => ((vls (a * ext e) ds ps).flatMap fun v => q.sb.map fun x => (x - e.1) * a + v).map _
    rw [ih, List.flatMap_assoc]
    congr 1
    funext y
    rw [List.flatMap_map, List.map_flatMap]
    congr 1
    funext v
    rw [List.map_map]
    apply List.map_congr_left
    intro x _
    show (x - e.1) * a + (v + (y - d.1) * (a * ext e * prod (ds.map ext))) = (x - e.1) * a + v + (y - d.1) * (a * (ext e * prod (ds.map ext)))
    rw [Int.mul_assoc a]
    omega
theorem place_inj : ∀ {bs : List (Int × Int)} {xs ys : List Int}, El bs xs → El bs ys → place bs xs = place bs ys → xs = ys
  | [], [], [], _, _, _ => rfl
  | d :: ds, x :: xs, y :: ys, hx, hy, h => by
    have h : (x - d.1) + ext d * place ds xs = (y - d.1) + ext d * place ds ys := h
    obtain ⟨h1, h2⟩ := hx.1
    obtain ⟨h3, h4⟩ := hy.1
    have he : ext d = d.2 - d.1 + 1 := by unfold ext; rw [if_pos (by omega)]
    have e1 : place ds xs = place ds ys := by
      generalize place ds xs = A at h
      generalize place ds ys = B at h
      rcases Int.lt_trichotomy A B with z | z | z
      · have : ext d * (A + 1) ≤ ext d * B := Int.mul_le_mul_of_nonneg_left (by omega) (by omega)
        rw [Int.mul_add] at this
        omega
      · exact z
      · have : ext d * (B + 1) ≤ ext d * A := Int.mul_le_mul_of_nonneg_left (by omega) (by omega)
        rw [Int.mul_add] at this
        omega
    rw [e1] at h
    have e0 : x = y := by omega
    rw [e0, place_inj hx.2 hy.2 e1]
  | [], _ :: _, _, h, _, _ => h.elim
  | [], [], _ :: _, _, h, _ => h.elim
  | _ :: _, [], _, h, _, _ => h.elim
  | _ :: _, _ :: _, [], _, h, _ => h.elim
theorem map_inj_el {bs : List (Int × Int)} : ∀ {L M : List (List Int)}, (∀ r ∈ L, El bs r) → (∀ r ∈ M, El bs r) → L.map (place bs) = M.map (place bs) → L = M
  | [], [], _, _, _ => rfl
  | [], _ :: _, _, _, h => by cases h
  | _ :: _, [], _, _, h => by cases h
  | x :: L, y :: M, h1, h2, h => by
    rw [List.map_cons, List.map_cons] at h
    obtain ⟨e1, e2⟩ := List.cons.inj h
    rw [place_inj (h1 x List.mem_cons_self) (h2 y List.mem_cons_self) e1, map_inj_el (fun r hr => h1 r (List.mem_cons_of_mem _ hr)) (fun r hr => h2 r (List.mem_cons_of_mem _ hr)) e2]
section
variable {w : Wl} {p q : Pg} {bs : List (Int × Int)} {ps qs : List Pg}
theorem vls_eq (hp : InnA bs ps) (hq : InnA bs qs) : vls 1 bs ps = vls 1 bs qs ↔ els ps = els qs := by
  rw [← vls_els hp.len, ← vls_els hq.len]
  simp only [Int.one_mul]
  constructor
  · exact fun h => map_inj_el (fun r hr => els_el hp hr) (fun r hr => els_el hq hr) h
  · exact fun h => by rw [h]
theorem els_sb (h : ps.map Pg.sb = qs.map Pg.sb) : els ps = els qs := by rw [els_elsL, els_elsL, h]
theorem els_once (hl : ps.length = qs.length) (h0 : tot ps ≠ 0) (ho : (∀ p ∈ ps, p.sb.Nodup) ∨ ∀ q ∈ qs, q.sb.Nodup) : els ps = els qs ↔ ps.map Pg.sb = qs.map Pg.sb := by
  refine ⟨fun h => ?_, els_sb⟩
  rw [els_elsL, els_elsL] at h
  have hne : elsL (ps.map Pg.sb) ≠ [] := fun z => h0 (by
    have := els_len ps
    rw [els_elsL, z] at this
    simpa using this.symm)
  refine elsL_inj (by simpa using hl) h hne ?_
  rcases ho with ho | ho
  · exact elsL_nodup fun s hs => by
      obtain ⟨p, hp, rfl⟩ := List.mem_map.mp hs
      exact ho p hp
  · rw [h]
    exact elsL_nodup fun s hs => by
      obtain ⟨p, hp, rfl⟩ := List.mem_map.mp hs
      exact ho p hp
def onceA (ps : List Pg) : Bool := decide (tot ps = 0) || (ps.map Pg.once).all id
theorem e_has_each_once (h7 : ps.length ≤ 7) (h : ∀ p ∈ ps, Gq p) : F_has_each_once [secG ps] w = .ok (.bl (onceA ps)) w := by
  apply okE_eq
  have hlim : lim = 16000000 := rfl
  have em := e_many_in (w := w) h7 h
  unfold onceA
  simp -implicitDefEqProofs [F_has_each_once, B_has_each_once, okE_run, List.replicate, em]
  by_cases h0 : tot ps = 0
  · simp -implicitDefEqProofs [h0]
  · simp -implicitDefEqProofs [h0]
    refine ⟨by omega, okE_lcall3 Pg.toD (fun p => .bl p.once) rfl (fun x hx => ?_) ?_⟩
    · simp -implicitDefEqProofs [e_once (h x hx)]
    · rw [show (ps.map fun p => D.bl p.once) = (ps.map Pg.once).map .bl by rw [List.map_map]; rfl]
      rw [v_all]
      simp -implicitDefEqProofs
      rfl
theorem e_check_both (hb : Bds bs) (h1 : Sec bs ps) (h2 : Sec bs qs) : F_check_both [bD bs, secG ps, secG qs] w = .ok .non w := by
  apply okE_eq
  have g1 : ∀ (x : Option D) (s : Sl), getS (x :: some (secG ps) :: s) 1 = some (secG ps) := fun x s => rfl
  have g2 : ∀ (x y : Option D) (s : Sl), getS (x :: y :: some (secG qs) :: s) 2 = some (secG qs) := fun x y s => rfl
  simp -implicitDefEqProofs [F_check_both, B_check_both, okE_run, List.replicate, g1, g2, e_check_section hb h1, e_check_section hb h2]
end
end DL

set_option maxHeartbeats 2000000
namespace DL
open PySem PySem.Spec PyProof.Rows L2
/-! ### the list of the places -/
theorem tot_append {ps qs : List Pg} : tot (ps ++ qs) = tot ps * tot qs := by unfold tot; rw [List.map_append, prod_append]
theorem tot_one : ∀ {ps : List Pg}, (∀ p ∈ ps, 0 < p.cn) → 1 ≤ tot ps
  | [], _ => by simp [tot, prod]
  | p :: ps, h => by
    have ih := tot_one (ps := ps) fun q hq => h q (List.mem_cons_of_mem _ hq)
    have hp := h p List.mem_cons_self
    show 1 ≤ p.cn * tot ps
    have := Int.mul_le_mul (show (1 : Int) ≤ p.cn by omega) ih (by decide) (by omega)
    omega
section
variable {w : Wl} {bs : List (Int × Int)}
theorem places_go : ∀ {ds : List (Int × Int)} {ps : List Pg} {D0 : List (Int × Int)} {P0 : List Pg} {t3 t4 t5 t6 t7 t8 t9 t10 : Option D} {A B : D}, P0.length = D0.length → InnA ds ps → (∀ p ∈ ps, Gq p ∧ 0 < p.cn ∧ p.cn ≤ 1000) → tot (P0 ++ ps) ≤ 1000000 → Bw (D0 ++ ds) →
    okS (loopD (gT (gCons' (gN 3) (gCons' (gT (gCons' (gN 4) (gCons' (gN 5) gNil')) 2) (gCons' (gN 6) gNil'))) 3) (sSeq (sAsg 7 (eL (aLc (iSeq (eCall 1 F_subscripts (aCons (eVar 3) aNil))) (gN 8) tYesD (eBin fMul (eBin fSub (eVar 8) (eVar 4)) (eVar 6)) [8]))) (sAsg 2 (eL (aLc2 (iSeq (eVar 7)) (gN 9) tYesD (iSeq (eVar 2)) (gN 10) tYesD (eBin fAdd (eVar 10) (eVar 9)) [9, 10] [10]))))
      ((ps.zip (ds.zip (wts (prod (D0.map ext)) (ds.map ext)))).map fun x => D.tup [x.1.toD, pD x.2.1, .int x.2.2]) [some A, some B, some (.lst ((vls 1 D0 P0).map .int)), t3, t4, t5, t6, t7, t8, t9, t10] w)
      (fun s w' => w' = w ∧ ∃ t3 t4 t5 t6 t7 t8 t9 t10, s = [some A, some B, some (.lst ((vls 1 (D0 ++ ds) (P0 ++ ps)).map .int)), t3, t4, t5, t6, t7, t8, t9, t10]) (fun _ _ => False)
  | [], [], D0, P0, t3, t4, t5, t6, t7, t8, t9, t10, A, B, h0, hI, hp, ht, hw => by
    rw [List.append_nil, List.append_nil]
    exact ⟨rfl, t3, t4, t5, t6, t7, t8, t9, t10, rfl⟩
  | d :: ds, p :: ps, D0, P0, t3, t4, t5, t6, t7, t8, t9, t10, A, B, h0, hI, hp, ht, hw => by
    have hlim : lim = 16000000 := rfl
    obtain ⟨hq, hc0, hc⟩ := hp p List.mem_cons_self
    have hp2 : ∀ q ∈ ps, Gq q ∧ 0 < q.cn ∧ q.cn ≤ 1000 := fun q hq => hp q (List.mem_cons_of_mem _ hq)
    have ih := places_go (t3 := some p.toD) (t4 := some (.int d.1)) (t5 := some (.int d.2)) (t6 := some (.int (prod (D0.map ext)))) (t7 := some (.lst ((p.sb.map fun x => (x - d.1) * prod (D0.map ext)).map .int))) (t8 := t8) (t9 := t9) (t10 := t10) (ds := ds) (ps := ps) (D0 := D0 ++ [d]) (P0 := P0 ++ [p]) (A := A) (B := B) (by simp [h0]) hI.2 hp2 (by rw [List.append_assoc]; exact ht) (by rw [List.append_assoc]; exact hw)
    rw [List.append_assoc, List.append_assoc, List.map_append, prod_append, show prod ([d].map ext) = ext d by simp [prod]] at ih
    have hsn := vls_snoc (d := d) (p := p) (a := 1) h0
    rw [hsn] at ih
    have es := e_subs_pg (w := w) hq hc
    have hnear := hw.near d (by simp)
    have hdiff : ∀ x ∈ p.sb, 0 ≤ x - d.1 ∧ x - d.1 ≤ 2 ^ 110 := fun x hx => near_diff hnear (hI.1 x hx)
    have hwt := prod_small (ns := D0.map ext) fun n hn => exts_small hw n (by
      obtain ⟨e, he, rfl⟩ := List.mem_map.mp hn
      exact List.mem_map_of_mem (List.mem_append_left _ he))
    have hD0 : (D0.map ext).length ≤ 7 := by
      have := hw.few
      rw [List.length_append] at this
      rw [List.length_map]
      omega
    have hlsb : p.sb.length ≤ 1000 := by have := p.sb_len; omega
    have hF : (vls 1 D0 P0).length * p.sb.length ≤ 1000000 := by
      have e1 := vls_len (a := 1) h0
      have e2 := p.sb_len
      have h1 := tot_one (ps := ps) fun q hq => (hp2 q hq).2.1
      have e3 : tot (P0 ++ p :: ps) = tot P0 * p.cn * tot ps := by
        rw [tot_append, Int.mul_assoc]
        rfl
      rw [e3, ← e1, ← e2, ← Int.natCast_mul] at ht
      have h8 : (0 : Int) ≤ (((vls 1 D0 P0).length * p.sb.length : Nat) : Int) := Int.natCast_nonneg _
      have := Int.mul_le_mul_of_nonneg_left h1 h8
      omega
    rw [List.map_cons, show wts (prod (D0.map ext)) (ext d :: ds.map ext) = prod (D0.map ext) :: wts (prod (D0.map ext) * ext d) (ds.map ext) from rfl, List.zip_cons_cons, List.zip_cons_cons, List.map_cons]
    refine okS_cons ?_
    unfold pD
    generalize hWdef : prod (D0.map ext) = Wt at *
    generalize hFdef : vls 1 D0 P0 = F at *
    simp -implicitDefEqProofs [es]
    refine ⟨by omega, okE_lcall2 D.int (fun x => .int ((x - d.1) * Wt)) rfl (fun x hx => ?_) ?_⟩
    · obtain ⟨h1, h2⟩ := hdiff x hx
      have hm : mulOk (x - d.1) Wt := mul_small (i := 110) (j := 110 * (D0.map ext).length) h1 h2 hwt.1 hwt.2 (by omega)
      simp -implicitDefEqProofs [hm]
    · rw [show (p.sb.map fun x => D.int ((x - d.1) * Wt)) = (p.sb.map fun x => (x - d.1) * Wt).map .int by rw [List.map_map]; rfl]
      rw [lc2_all (γ := Int) (δ := Int) D.int (fun _ => F) D.int (fun j v => .int (v + j)) (fun j hj => ?_)]
      · have e5 : ((p.sb.map fun x => (x - d.1) * Wt).flatMap fun j => F.map fun v => D.int (v + j)) = (p.sb.flatMap fun x => F.map fun v => v + (x - d.1) * (1 * Wt)).map .int := by
          rw [List.flatMap_map, List.map_flatMap]
          congr 1
          funext x
          rw [List.map_map, Int.one_mul]
          rfl
        rw [e5]
        refine ⟨?_, ?_⟩
        · rw [List.length_map, List.length_flatMap]
          have : (p.sb.map fun x => (F.map fun v => v + (x - d.1) * (1 * Wt)).length) = p.sb.map fun _ => F.length := by simp
          rw [this]
          simp only [List.map_const', List.sum_replicate_nat]
          have : p.sb.length * F.length ≤ 1000000 := by rw [Nat.mul_comm]; exact hF
          omega
        · exact ih
      · simp -implicitDefEqProofs
        rfl
  | [], _ :: _, _, _, _, _, _, _, _, _, _, _, _, _, _, h, _, _, _ => h.elim
  | _ :: _, [], _, _, _, _, _, _, _, _, _, _, _, _, _, h, _, _, _ => h.elim
variable {ps qs : List Pg}
theorem e_places_of (hB : Bw bs) (h : Sec bs ps) (h0 : tot ps ≠ 0) (hc : ∀ p ∈ ps, p.cn ≤ 1000) (ht : tot ps ≤ 1000000) : F_places_of [bD bs, secG ps] w = .ok (.lst ((vls 1 bs ps).map .int)) w := by
  have h1 := h.len
  have h7 := h.few
  have em := e_many_in (w := w) (ps := ps) (by omega) h.ok
  have ew := e_weights (w := w) hB
  have hl0 : (0 : Nat) ≤ lim := by decide
  have hl1 : (1 : Nat) ≤ lim := by decide
  have hz : ∀ l, zip2D [secG ps, bD bs, .lst l] = some (zip3D (ps.map Pg.toD) (bs.map pD) l) := fun l => rfl
  have g1 : ∀ (x : Option D) (s : Sl), getS (x :: some (secG ps) :: s) 1 = some (secG ps) := fun x s => rfl
  apply okE_eq
  simp -implicitDefEqProofs [F_places_of, B_places_of, okE_run, List.replicate, em, h0, ew, hz, zip3D_maps, g1, hl1, hl0]
  have hg := places_go (w := w) (ds := bs) (ps := ps) (D0 := []) (P0 := []) (t3 := none) (t4 := none) (t5 := none) (t6 := none) (t7 := none) (t8 := none) (t9 := none) (t10 := none) (A := bD bs) (B := secG ps) rfl (h.inn h0) (fun p hp => ⟨h.ok p hp, tot_ne h0 p hp, hc p hp⟩) ht hB
  simp only [List.nil_append, List.map_nil, prod] at hg
  refine okS_mono hg (fun s w' hh => ?_) (fun _ _ hh => hh.elim)
  obtain ⟨rfl, t3, t4, t5, t6, t7, t8, t9, t10, rfl⟩ := hh
  simp -implicitDefEqProofs
theorem sbs_zip : ∀ {ps qs : List Pg}, ps.length = qs.length → decide (ps.map Pg.sb = qs.map Pg.sb) = (ps.zip qs).all fun x => decide (x.1.sb = x.2.sb)
  | [], [], _ => rfl
  | p :: ps, q :: qs, h => by
    have ih := sbs_zip (ps := ps) (qs := qs) (by simpa using h)
    rw [List.zip_cons_cons, List.all_cons, ← ih, List.map_cons, List.map_cons]
    by_cases e : p.sb = q.sb
    · simp [e]
    · simp [e]
end
end DL

set_option maxHeartbeats 2000000
namespace DL
open PySem PySem.Spec PyProof.Rows L2
/-! ### what is done, contents of any kind -/
section
variable {w : Wl} {cs : List D}
def duA (c0 : List D) : List (Nat × Nat) → List D → List D
  | [], c => c
  | q :: L, c => duA c0 L (c.set q.1 (c0[q.2]?.getD .non))
theorem duA_len {c0 : List D} : ∀ {L : List (Nat × Nat)} {c : List D}, (duA c0 L c).length = c.length
  | [], _ => rfl
  | q :: L, c => by rw [duA, duA_len, List.length_set]
theorem setAt_nat {xs : List D} {j : Nat} {v : D} (h1 : j < xs.length) : setAt xs (j : Int) v = some (xs.set j v) := by
  unfold setAt ixN
  simp
  omega
theorem done_goA {A B B2 : D} {Z : D → Wl → Prop} : ∀ {L : List (Nat × Nat)} {c1 : List D} {t5 t6 : Option D}, (∀ q ∈ L, q.1 < c1.length ∧ q.2 < cs.length) →
    okS (loopD (gT (gCons' (gN 5) (gCons' (gN 6) gNil')) 2) (sSetO 4 (eVar 5) (eBin fIx (eVar 3) (eVar 6))) (L.map fun q => D.tup [.int (q.1 : Nat), .int (q.2 : Nat)]) [some A, some B, some B2, some (.lst cs), some (.own c1), t5, t6] w)
      (fun s' w' => w' = w ∧ ∃ t5 t6, s' = [some A, some B, some B2, some (.lst cs), some (.own (duA cs L c1)), t5, t6]) Z
  | [], c1, t5, t6, _ => ⟨rfl, t5, t6, rfl⟩
  | q :: L, c1, t5, t6, h => by
    obtain ⟨a1, b1⟩ := h q List.mem_cons_self
    have ih := done_goA (A := A) (B := B) (B2 := B2) (Z := Z) (L := L) (c1 := c1.set q.1 (cs[q.2]?.getD .non)) (t5 := some (.int (q.1 : Nat))) (t6 := some (.int (q.2 : Nat))) (fun V hV => by rw [List.length_set]; exact h V (List.mem_cons_of_mem _ hV))
    rw [List.map_cons]
    refine okS_cons ?_
    have hi : atI cs (q.2 : Nat) = some (cs[q.2]?.getD .non) := atI_nat (by rw [List.getElem?_eq_getElem b1]; rfl)
    have hs := setAt_nat (xs := c1) (v := cs[q.2]?.getD .non) a1
    simp -implicitDefEqProofs only [v_gT, v_gCons, v_gNil, v_gN, okO_some, List.length_cons, List.length_nil, List.set_cons_zero, List.set_cons_succ, true_and]
    simp -implicitDefEqProofs [hi, hs]
    exact ih
end
end DL

set_option maxHeartbeats 2000000
namespace DL
open PySem PySem.Spec PyProof.Rows L2
section
variable {w : Wl} {bs : List (Int × Int)} {ps qs : List Pg} {cs : List D}
def isT : Pg → Bool
  | .num _ => false
  | _ => true
def shp (ps : List Pg) : List Int := (ps.filter fun p => isT p).map Pg.cn
theorem e_is_kept {p : Pg} : F_is_kept [p.toD] w = .ok (.bl (isT p)) w := by
  apply okE_eq
  cases p <;> simp -implicitDefEqProofs [F_is_kept, B_is_kept, okE_run, List.replicate, Pg.toD, isT, F_is_number, B_is_number]
theorem e_shape_of (h7 : ps.length ≤ 7) (h : ∀ p ∈ ps, Gq p) : F_shape_of [secG ps] w = .ok (eD (shp ps)) w := by
  apply okE_eq
  have hlim : lim = 16000000 := rfl
  simp -implicitDefEqProofs [F_shape_of, B_shape_of, okE_run, List.replicate, secG]
  refine ⟨by omega, ?_⟩
  rw [lc_map (γ := Pg) Pg.toD (fun p => D.int p.cn) isT (fun x hx => by
    simp -implicitDefEqProofs only [v_gN, okO_some]
    refine ⟨okE_eq ?_, fun _ => okE_eq ?_⟩
    · simp -implicitDefEqProofs [wipeS, e_is_kept]
    · simp -implicitDefEqProofs [wipeS, e_many_pg (h x hx)])]
  have e : (ps.filter isT).map (fun p => D.int p.cn) = (shp ps).map .int := by unfold shp; rw [List.map_map]; rfl
  rw [e]
  simp -implicitDefEqProofs [eD]
theorem e_size_of (h : Bw bs) : F_size_of [bD bs] w = .ok (.int (prod (bs.map ext))) w := by
  apply okE_eq
  simp [F_size_of, B_size_of, okE_run, bD, List.replicate]
  rw [show D.tup (bs.map pD) = bD bs from rfl, e_all_extents h.few]
  simp
  have := e_multiplied (w := w) (ns := bs.map ext) (by simpa using h.few) (exts_small h)
  rw [List.map_map] at this
  rw [show (bs.map fun p => D.int (ext p)) = bs.map (D.int ∘ ext) from rfl, this]
  simp
def szB (bs : List (Int × Int)) : Int := prod (bs.map ext)
theorem e_check_contents (hb : Bw bs) (hc : (cs.length : Int) = szB bs) (h5 : szB bs ≤ 5000) : F_check_contents [bD bs, .lst cs] w = .ok .non w := by
  apply okE_eq
  have hs := e_size_of (w := w) hb
  have gb : ∀ s : Sl, getS (some (bD bs) :: s) 0 = some (bD bs) := fun s => rfl
  have hi : fIsi w [.lst cs, .tup [.ty "list", .ty "tuple"]] = some (.bl true) := rfl
  unfold szB at hc h5
  simp -implicitDefEqProofs [F_check_contents, B_check_contents, okE_run, List.replicate, gb, hs, hi, hc]
  exact ⟨h5, by decide⟩
end
end DL

set_option maxHeartbeats 2000000
namespace DL
open PySem PySem.Spec PyProof.Rows L2
section
variable {w : Wl} {bs : List (Int × Int)} {ps qs : List Pg} {cs : List D}
theorem ext_of {p : Int × Int} {x : Int} (h : p.1 ≤ x ∧ x ≤ p.2) : ext p = p.2 - p.1 + 1 ∧ 0 ≤ x - p.1 ∧ x - p.1 < ext p := by
  unfold ext
  split <;> omega
theorem place_range : ∀ {bs : List (Int × Int)} {xs : List Int}, El bs xs → 0 ≤ place bs xs ∧ place bs xs < prod (bs.map ext)
  | [], [], _ => by simp [place, prod]
  | p :: bs, x :: xs, h => by
    have hx := ext_of h.1
    have ih := place_range h.2
    simp only [place, List.map_cons, prod]
    have h1 : 0 ≤ ext p * place bs xs := Int.mul_nonneg (by omega) ih.1
    have h2 : ext p * (place bs xs + 1) ≤ ext p * prod (bs.map ext) := Int.mul_le_mul_of_nonneg_left (by omega) (by omega)
    rw [Int.mul_add, Int.mul_one] at h2
    omega
  | [], _ :: _, h => h.elim
  | _ :: _, [], h => h.elim
/-- the places of all elements, as natural numbers -/
def plN (bs : List (Int × Int)) (ps : List Pg) : List Nat := if tot ps = 0 then [] else (els ps).map fun row => (place bs row).toNat
theorem plN_in (h : Sec bs ps) {j : Nat} (hj : j ∈ plN bs ps) : (j : Int) < szB bs := by
  unfold plN at hj
  split at hj
  · cases hj
  · rename_i h0
    obtain ⟨row, hr, rfl⟩ := List.mem_map.mp hj
    have := place_range (els_el (h.inn h0) hr)
    unfold szB
    omega
theorem e_places (hb : Bw bs) (h : Sec bs ps) (hc : ∀ p ∈ ps, p.cn ≤ 1000) (ht : tot ps ≤ 1000000) : F_places_of [bD bs, secG ps] w = .ok (.lst ((plN bs ps).map fun j : Nat => .int j)) w := by
  by_cases h0 : tot ps = 0
  · unfold plN
    rw [if_pos h0]
    apply okE_eq
    have em := e_many_in (w := w) (ps := ps) (by rw [h.len]; exact h.few) h.ok
    have g1 : ∀ (x : Option D) (s : Sl), getS (x :: some (secG ps) :: s) 1 = some (secG ps) := fun x s => rfl
    simp -implicitDefEqProofs [F_places_of, B_places_of, okE_run, List.replicate, em, g1, h0]
  · rw [e_places_of hb h h0 hc ht, ← vls_els h.len]
    unfold plN
    rw [if_neg h0, List.map_map, List.map_map]
    congr 2
    apply List.map_congr_left
    intro row hr
    have := place_range (els_el (h.inn h0) hr)
    show D.int (1 * place bs row) = D.int (((place bs row).toNat : Nat) : Int)
    rw [Int.one_mul, Int.toNat_of_nonneg this.1]
end
end DL

set_option maxHeartbeats 2000000
namespace DL
open PySem PySem.Spec PyProof.Rows L2
section
variable {w : Wl} {bs : List (Int × Int)} {ps qs : List Pg} {cs : List D}
theorem zipD_nat {a b : List Nat} : zipD (a.map fun j : Nat => D.int j) (b.map fun j : Nat => D.int j) = (a.zip b).map fun q => D.tup [.int (q.1 : Nat), .int (q.2 : Nat)] := by
  unfold zipD
  rw [List.zip_map, List.map_map]
  rfl
theorem e_done (hb : Bds bs) (h1 : Sec bs ps) (h2 : Sec bs qs) (c1 : ∀ p ∈ ps, p.cn ≤ 1000) (c2 : ∀ p ∈ qs, p.cn ≤ 1000) (t1 : tot ps ≤ 1000000) (t2 : tot qs ≤ 1000000) (ho : onceA ps = true) (hs : shp ps = shp qs) (hl : (cs.length : Int) = szB bs) (h5 : szB bs ≤ 5000) :
    F_done [bD bs, secG ps, secG qs, .lst cs] w = .ok (.nl (duA cs ((plN bs ps).zip (plN bs qs)) cs)) w := by
  apply okE_eq
  have hbw := hb.wide
  have p7 : ps.length ≤ 7 := by rw [h1.len]; exact h1.few
  have q7 : qs.length ≤ 7 := by rw [h2.len]; exact h2.few
  have ec := e_check_both (w := w) hb h1 h2
  have eo := e_has_each_once (w := w) p7 h1.ok
  rw [ho] at eo
  have s1 := e_shape_of (w := w) p7 h1.ok
  have s2 := e_shape_of (w := w) q7 h2.ok
  rw [hs] at s1
  have ek := e_check_contents (w := w) hbw hl h5
  have p1 := e_places (w := w) hbw h1 c1 t1
  have p2 := e_places (w := w) hbw h2 c2 t2
  have g0 : ∀ s : Sl, getS (some (bD bs) :: s) 0 = some (bD bs) := fun s => rfl
  have g2 : ∀ (x y : Option D) (s : Sl), getS (x :: y :: some (secG qs) :: s) 2 = some (secG qs) := fun x y s => rfl
  have g1 : ∀ (x : Option D) (s : Sl), getS (x :: some (secG ps) :: s) 1 = some (secG ps) := fun x s => rfl
  have hfl : fList w [.lst cs] = some cs := rfl
  have hz : zip2D [.lst ((plN bs ps).map fun j : Nat => D.int j), .lst ((plN bs qs).map fun j : Nat => D.int j)] = some (((plN bs ps).zip (plN bs qs)).map fun q => D.tup [.int (q.1 : Nat), .int (q.2 : Nat)]) := by
    show some (zipD _ _) = _
    rw [zipD_nat]
  unfold F_done B_done
  simp -implicitDefEqProofs [okE_run, List.replicate, g0, g1, g2, ec, eo, s1, s2, ek, hfl]
  rw [p1]
  simp -implicitDefEqProofs only [okE_ok]
  rw [p2]
  simp -implicitDefEqProofs only [okE_ok]
  rw [hz]
  simp -implicitDefEqProofs only [okO_some]
  refine okS_mono (done_goA (A := bD bs) (B := secG ps) (B2 := secG qs) (c1 := cs) (t5 := none) (t6 := none) fun q hq => ?_) (fun s' w' q => ?_) (fun _ _ h => h)
  · have a1 := plN_in h1 (List.of_mem_zip hq).1
    have a2 := plN_in h2 (List.of_mem_zip hq).2
    omega
  obtain ⟨rfl, t5, t6, rfl⟩ := q
  exact ⟨rfl, rfl⟩
end
end DL

set_option maxHeartbeats 2000000
namespace DL
open PySem PySem.Spec PyProof.Rows L2
section
variable {w : Wl} {bs : List (Int × Int)} {ps qs : List Pg}
theorem e_twice {C : D} (hb : Bds bs) (h1 : Sec bs ps) (h2 : Sec bs qs) (ho : onceA ps = false) : F_done [bD bs, secG ps, secG qs, C] w = .er ⟨"InvalidSection", [("part", .str "twice")]⟩ w := by
  apply xE_err
  have p7 : ps.length ≤ 7 := by rw [h1.len]; exact h1.few
  have ec := e_check_both (w := w) hb h1 h2
  have eo := e_has_each_once (w := w) p7 h1.ok
  rw [ho] at eo
  have g0 : ∀ s : Sl, getS (some (bD bs) :: s) 0 = some (bD bs) := fun s => rfl
  have g2 : ∀ (x y : Option D) (s : Sl), getS (x :: y :: some (secG qs) :: s) 2 = some (secG qs) := fun x y s => rfl
  have g1 : ∀ (x : Option D) (s : Sl), getS (x :: some (secG ps) :: s) 1 = some (secG ps) := fun x s => rfl
  unfold F_done B_done
  simp -implicitDefEqProofs [xE_run, List.replicate, g0, g1, g2, ec, eo]
end
end DL

set_option maxHeartbeats 2000000
namespace DL
open PySem PySem.Spec PyProof.Rows L2
/-! ### the law's places -/
section
variable {w : Wl} {bs : List (Int × Int)} {xs : List Int}
theorem e_w_place (h : Bw bs) (he : El bs xs) : F_w_place [bD bs, eD xs] w = .ok (.int (place bs xs)) w := by
  apply okE_eq
  have hlen := he.len
  simp -implicitDefEqProofs [F_w_place, B_w_place, okE_run, List.replicate]
  rw [zip2_two seqD_eD seqD_bD]
  simp only [okO_some]
  rw [zipD_maps]
  have key : ∀ (bs : List (Int × Int)) (xs : List Int) (f b : Int) (k : Nat) (t4 t5 t6 : Option D) (A B : D), El bs xs → (∀ p ∈ bs, (-40564819207303340847894502572032 ≤ p.1 ∧ p.1 ≤ 40564819207303340847894502572032) ∧ -40564819207303340847894502572032 ≤ p.2 ∧ p.2 ≤ 40564819207303340847894502572032) → (0 ≤ b ∧ b ≤ 2 ^ k) → k + 110 * bs.length ≤ 1000 →
      okS (loopD (gT (gCons' (gN 4) (gCons' (gT (gCons' (gN 5) (gCons' (gN 6) gNil')) 2) gNil')) 2) (sMul [2, 3] (mVal (eBin fAdd (eVar 2) (eBin fMul (eBin fSub (eVar 4) (eVar 5)) (eVar 3))) (mVal (eBin fMul (eVar 3) (eBin fAdd (eBin fSub (eVar 6) (eVar 5)) (eC (.int 1)))) aNil)))
        ((xs.zip bs).map fun x => .tup [.int x.1, pD x.2]) [some A, some B, some (.int f), some (.int b), t4, t5, t6] w)
        (fun s w' => w' = w ∧ PL A B (f + b * place bs xs) s) (fun _ _ => False) := by
    intro bs
    induction bs with
    | nil =>
      intro xs f b k t4 t5 t6 A B he hn hb hk
      cases xs with
      | nil => exact ⟨rfl, b, t4, t5, t6, by unfold place; rw [Int.mul_zero, Int.add_zero]⟩
      | cons x r => exact he.elim
    | cons p r ih =>
      intro xs f b k t4 t5 t6 A B he hn hb hk
      cases xs with
      | nil => exact he.elim
      | cons x xr =>
        obtain ⟨hx, he⟩ := he
        have hp := hn p List.mem_cons_self
        have hd := near_diff hp hx
        have hs := ext_small hp
        have ex1 : p.2 - p.1 + 1 = ext p := by unfold ext; rw [if_pos (by omega)]
        have m1 : mulOk (x - p.1) b := mul_small hd.1 hd.2 hb.1 hb.2 (by simp at hk; omega)
        have m2 : mulOk b (ext p) := mul_small hb.1 hb.2 hs.1 hs.2 (by simp at hk; omega)
        have hb2 : 0 ≤ b * ext p ∧ b * ext p ≤ 2 ^ (k + 110) := ⟨Int.mul_nonneg hb.1 hs.1, by
          rw [Int.pow_add]
          exact Int.mul_le_mul hb.2 hs.2 hs.1 (Int.le_trans hb.1 hb.2)⟩
        have := ih xr (f + (x - p.1) * b) (b * ext p) (k + 110) (some (.int x)) (some (.int p.1)) (some (.int p.2)) A B he (fun q hq => hn q (List.mem_cons_of_mem _ hq)) hb2 (by simp at hk; omega)
        rw [List.zip_cons_cons, List.map_cons]
        refine okS_cons ?_
        unfold pD
        simp -implicitDefEqProofs [ex1, m1, m2]
        refine okS_mono this (fun s w' hh => ?_) (fun _ _ hh => hh)
        obtain ⟨rfl, hh⟩ := hh
        refine ⟨rfl, ?_⟩
        have e : f + b * place (p :: r) (x :: xr) = f + (x - p.1) * b + b * ext p * place r xr := by
          show f + b * ((x - p.1) + ext p * place r xr) = _
          rw [Int.mul_add, Int.mul_comm (x - p.1) b, Int.mul_assoc]
          omega
        rw [e]
        exact hh
  refine okS_mono (key bs xs 0 1 0 none none none _ _ he h.near ⟨by decide, by decide⟩ (by have := h.few; omega)) (fun s w' hh => ?_) (fun _ _ hh => hh.elim)
  obtain ⟨rfl, b', t4, t5, t6, rfl⟩ := hh
  simp -implicitDefEqProofs
end
end DL

set_option maxHeartbeats 2000000
namespace DL
open PySem PySem.Spec PyProof.Rows L2
/-! ### the law's elements -/
section
variable {w : Wl}
theorem lsts_map {α : Type} {f : α → List D} : ∀ {l : List α}, lsts? (l.map fun x => D.lst (f x)) = some (l.map f)
  | [] => rfl
  | x :: l => by
    rw [List.map_cons, lsts?, lsts_map]
    rfl
theorem elsL_snoc {A : List (List Int)} : (elsL A).length = (A.map List.length).foldr (· * ·) 1 := by
  induction A with
  | nil => rfl
  | cons s A ih =>
    show ((elsL A).flatMap fun row => s.map fun x => x :: row).length = s.length * (A.map List.length).foldr (· * ·) 1
    rw [← ih]
    generalize elsL A = L
    induction L with
    | nil => simp
    | cons r L ih2 => rw [List.flatMap_cons, List.length_append, ih2, List.length_map, List.length_cons, Nat.mul_succ, Nat.add_comm]
theorem row_step {s : List Int} {L : List (List Int)} : ((L.map fun row => s.map fun x => eD (x :: row)).flatten) = (L.flatMap fun row => s.map fun x => x :: row).map eD := by
  induction L with
  | nil => rfl
  | cons r L ih =>
    rw [List.map_cons, List.flatten_cons, ih, List.flatMap_cons, List.map_append, List.map_map]
    rfl
end
end DL

set_option maxHeartbeats 2000000
namespace DL
open PySem PySem.Spec PyProof.Rows L2
section
variable {w : Wl}
theorem elsL_row : ∀ {A : List (List Int)} {row : List Int}, row ∈ elsL A → row.length = A.length
  | [], row, h => by
    cases List.mem_singleton.mp h
    rfl
  | s :: A, row, h => by
    obtain ⟨r, hr, h2⟩ := List.mem_flatMap.mp h
    obtain ⟨x, _, rfl⟩ := List.mem_map.mp h2
    simp [elsL_row hr]
theorem el_loop {X : D} {Q : Sl → Wl → Prop} {Z : D → Wl → Prop} : ∀ (R A : List (List Int)) (t2 t3 t4 : Option D), (∀ s ∈ R, s.length ≤ 1000) → A.length + R.length ≤ 7 → (∀ k, k ≤ R.length → (elsL ((R.take k).reverse ++ A)).length ≤ 1000000) →
    (∀ t2 t3 t4, Q [some X, some (.lst ((elsL (R.reverse ++ A)).map eD)), t2, t3, t4] w) →
    okS (loopD (gN 2) (sAsg 1 (eCB fSumL (aCons (eL (aLc (iSeq (eVar 1)) (gN 3) tYesD (eL (aLc (iSeq (eVar 2)) (gN 4) tYesD (eBin fAdd (eTup (aCons (eVar 4) aNil)) (eVar 3)) [4])) [3])) (aCons (eL (aLst aNil)) aNil)))) (R.map fun s => D.lst (s.map .int)) [some X, some (.lst ((elsL A).map eD)), t2, t3, t4] w) Q Z
  | [], A, t2, t3, t4, _, _, _, q => q t2 t3 t4
  | s :: R, A, t2, t3, t4, hs, hl, hb, q => by
    have hlim : lim = 16000000 := rfl
    have hl0 : (0 : Nat) ≤ lim := by decide
    have hl1 : (1 : Nat) ≤ lim := by decide
    have b0 := hb 0 (Nat.zero_le _)
    have b1 := hb 1 (by simp)
    simp only [List.take_zero, List.reverse_nil, List.nil_append] at b0
    simp only [List.take_succ_cons, List.take_zero, List.reverse_cons, List.reverse_nil, List.nil_append, List.cons_append] at b1
    have s1 := hs s List.mem_cons_self
    simp only [List.length_cons] at hl
    have ih := el_loop (X := X) (Q := Q) (Z := Z) R (s :: A) (some (.lst (s.map .int))) t3 t4 (fun r hr => hs r (List.mem_cons_of_mem _ hr)) (by simp; omega) (fun k hk => by
      have := hb (k + 1) (by simp; omega)
      simpa using this) (fun t2 t3 t4 => by
      have := q t2 t3 t4
      simpa using this)
    rw [List.map_cons]
    refine okS_cons ?_
    simp -implicitDefEqProofs
    refine ⟨by omega, okE_lcall (γ := List Int) eD (fun row => D.lst (s.map fun x => eD (x :: row))) (fun row hr => ?_) ?_⟩
    · have hrl := elsL_row hr
      have ge : ∀ s : Sl, getS (some (eD row) :: s) 0 = some (eD row) := fun s => rfl
      have ha : ∀ x : Int, fAdd w (.tup [.int x]) (eD row) = some (eD (x :: row)) := fun x => by
        show (if _ then some (D.tup ([D.int x] ++ row.map D.int)) else none) = _
        rw [if_pos (by simp; omega)]
        rfl
      simp -implicitDefEqProofs [wipeS]
      refine ⟨by omega, okE_lcall (γ := Int) D.int (fun x => eD (x :: row)) (fun x hx => ?_) ?_⟩
      · simp -implicitDefEqProofs [hl1, ha]
      · simp
    · have e1 : fSumL w [.lst ((elsL A).map fun row => D.lst (s.map fun x => eD (x :: row))), .lst []] = some (.lst ((elsL (s :: A)).map eD)) := by
        unfold fSumL
        dsimp only
        rw [lsts_map]
        dsimp only
        rw [row_step]
        have : ((elsL (s :: A)).map eD).length ≤ lim := by rw [List.length_map]; omega
        rw [show (elsL A).flatMap (fun row => s.map fun x => x :: row) = elsL (s :: A) from rfl, if_pos this]
      simp -implicitDefEqProofs [e1, hl0]
      exact ih
end
end DL

set_option maxHeartbeats 2000000
namespace DL
open PySem PySem.Spec PyProof.Rows L2
section
variable {w : Wl}
theorem e_w_elements {rows : List (List Int)} (h7 : rows.length ≤ 7) (hs : ∀ s ∈ rows, s.length ≤ 1000) (hb : ∀ k, k ≤ rows.length → (elsL ((rows.reverse.take k).reverse)).length ≤ 1000000) : F_w_elements [.lst (rows.map fun s => D.lst (s.map .int))] w = .ok (.lst ((elsL rows).map eD)) w := by
  apply okE_eq
  have hl0 : (0 : Nat) ≤ lim := by decide
  have hl1 : (1 : Nat) ≤ lim := by decide
  have := el_loop (w := w) (X := .lst (rows.map fun s => D.lst (s.map .int))) (Q := fun s' w' => getS s' 1 = some (.lst ((elsL rows).map eD)) ∧ w' = w) (Z := fun d w' => d = .lst ((elsL rows).map eD) ∧ w' = w) rows.reverse [] none none none (fun s h => hs s (List.mem_reverse.mp h)) (by simp; omega) (fun k hk => by
    rw [List.append_nil]
    exact hb k (by simpa using hk)) (fun t2 t3 t4 => by
    rw [List.append_nil, List.reverse_reverse]
    exact ⟨rfl, rfl⟩)
  rw [F_w_elements, okE_run]
  refine ⟨rfl, ?_⟩
  unfold B_w_elements
  obtain ⟨U, hU⟩ : ∃ U : DS, U = sAsg 1 (eCB fSumL (aCons (eL (aLc (iSeq (eVar 1)) (gN 3) tYesD (eL (aLc (iSeq (eVar 2)) (gN 4) tYesD (eBin fAdd (eTup (aCons (eVar 4) aNil)) (eVar 3)) [4])) [3])) (aCons (eL (aLst aNil)) aNil))) := ⟨_, rfl⟩
  rw [← hU] at this ⊢
  have e0 : ((elsL []).map eD) = [D.tup []] := rfl
  rw [e0] at this
  simp -implicitDefEqProofs [List.replicate, hl0, hl1]
  rw [List.map_reverse] at this
  refine okS_mono this (fun s' w' h => ?_) fun _ _ h => h
  rw [h.1]
  exact ⟨rfl, h.2⟩
end
end DL

set_option maxHeartbeats 2000000
namespace DL
open PySem PySem.Spec PyProof.Rows L2
/-! ### contents of any sort: equal to themselves, shown -/
section
theorem strOk_of (s : String) : PyData.strOk (s : Str) = true := by
  show PyData.strOk (Str.ofString s) = true
  rw [Str.ofString_eq_toList]
  unfold PyData.strOk
  rw [← Array.all_toList, List.all_eq_true]
  intro c hc
  simp only [List.mem_map] at hc
  obtain ⟨z, _, rfl⟩ := hc
  have := z.valid
  have e : z.toNat = z.val.toNat := rfl
  simp only [UInt32.isValidChar, Nat.isValidChar] at this
  simp only [decide_eq_true_eq]
  omega
theorem strOk_app {a b : Str} (ha : PyData.strOk a = true) (hb : PyData.strOk b = true) : PyData.strOk (a ++ b) = true := by
  show ((a.cps ++ b.cps).all (· < 0x110000)) = true
  rw [Array.all_append]
  unfold PyData.strOk at ha hb
  rw [ha, hb]
  rfl
theorem strOk_rc {q c : Nat} (hq : q < 0x110000) (hc : c < 0x110000) : ∀ z ∈ Builtin.Str.reprChar q c, z < 0x110000 := by
  have hex : ∀ (w : Nat), ∀ z ∈ List.replicate w 48 ++ (Nat.toDigits 16 c).map Char.toNat, z < 0x110000 := by
    intro w z hz
    rcases List.mem_append.mp hz with h | h
    · rw [(List.mem_replicate.mp h).2]
      decide
    · obtain ⟨y, _, rfl⟩ := List.mem_map.mp h
      have := y.valid
      have e : y.toNat = y.val.toNat := rfl
      simp only [UInt32.isValidChar, Nat.isValidChar] at this
      omega
  intro z hz
  unfold Builtin.Str.reprChar at hz
  dsimp only at hz
  split at hz
  · simp at hz; omega
  split at hz
  · simp at hz; omega
  split at hz
  · simp at hz; omega
  split at hz
  · simp at hz; omega
  split at hz
  · simp at hz; omega
  split at hz
  · rcases List.mem_append.mp hz with h | h
    · simp at h; omega
    · exact hex _ z h
  split at hz
  · rcases List.mem_append.mp hz with h | h
    · simp at h; omega
    · exact hex _ z h
  · rcases List.mem_append.mp hz with h | h
    · simp at h; omega
    · exact hex _ z h
theorem strOk_fold {q : Nat} (hq : q < 0x110000) : ∀ (l : List Nat) (acc : Array Nat), (∀ c ∈ l, c < 0x110000) → (∀ z ∈ acc.toList, z < 0x110000) → ∀ z ∈ (l.foldl (fun out c => out ++ (Builtin.Str.reprChar q c).toArray) acc).toList, z < 0x110000
  | [], acc, _, h => h
  | c :: r, acc, hl, h => by
    rw [List.foldl_cons]
    refine strOk_fold hq r _ (fun x hx => hl x (List.mem_cons_of_mem _ hx)) fun z hz => ?_
    rw [Array.toList_append] at hz
    rcases List.mem_append.mp hz with h1 | h1
    · exact h z h1
    · exact strOk_rc hq (hl c List.mem_cons_self) z h1
theorem strOk_repr {x : Str} (h : PyData.strOk x = true) : PyData.strOk (reprText x) = true := by
  have hq : reprQuote x < 0x110000 := by unfold reprQuote; split <;> decide
  have hx : ∀ c ∈ x.cps.toList, c < 0x110000 := by
    unfold PyData.strOk at h
    rw [← Array.all_toList, List.all_eq_true] at h
    intro c hc
    simpa using h c hc
  unfold reprText PyData.strOk
  rw [← Array.all_toList, List.all_eq_true]
  intro z hz
  rw [Array.toList_push, ← Array.foldl_toList] at hz
  simp only [decide_eq_true_eq]
  rcases List.mem_append.mp hz with h1 | h1
  · exact strOk_fold hq _ _ hx (fun z hz => by simp at hz; omega) z h1
  · simp at h1; omega
theorem strOk_from : ∀ (ts : List Str) (k : Nat) (acc : Str), (∀ t ∈ ts, PyData.strOk t = true) → PyData.strOk acc = true → PyData.strOk (textFrom k acc ts) = true
  | [], _, _, _, h => h
  | t :: ts, k, acc, ht, h => strOk_from ts (k + 1) _ (fun u hu => ht u (List.mem_cons_of_mem _ hu)) (strOk_app (strOk_app h (strOk_of _)) (ht t List.mem_cons_self))
theorem strOk_join {sep : Str} (hs : PyData.strOk sep = true) : ∀ ts : List Str, (∀ t ∈ ts, PyData.strOk t = true) → PyData.strOk (Str.join sep ts) = true
  | [], _ => by unfold Str.join PyData.strOk Str.empty; rw [← Array.all_toList]; rfl
  | [x], h => h x (List.mem_singleton.mpr rfl)
  | x :: y :: r, h => strOk_app (strOk_app (h x List.mem_cons_self) hs) (strOk_join hs (y :: r) fun t ht => h t (List.mem_cons_of_mem _ ht))
mutual
theorem strOk_shown : ∀ d : PyData, d.canLay0 = true → PyData.strOk d.shown = true
  | .none, _ => by unfold PyData.shown; exact strOk_of _
  | .bool b, _ => by unfold PyData.shown; split <;> exact strOk_of _
  | .int i, _ => by unfold PyData.shown; exact strOk_of _
  | .str x, h => by unfold PyData.shown; exact strOk_repr (by simpa [PyData.canLay0] using h)
  | .list xs, h => by unfold PyData.shown; exact strOk_app (strOk_from _ _ _ (strOk_shownA xs (by simpa [PyData.canLay0] using h)) (strOk_of _)) (strOk_of _)
  | .tuple xs, h => by unfold PyData.shown; exact strOk_app (strOk_app (strOk_of _) (strOk_join (strOk_of _) _ (strOk_shownA xs (by simpa [PyData.canLay0] using h)))) (strOk_of _)
  | .dict kvs, h => by simp [PyData.canLay0] at h
theorem strOk_shownA : ∀ xs : List PyData, PyData.canLayAll0 xs = true → ∀ t ∈ PyData.shownAll xs, PyData.strOk t = true
  | [], _, t, ht => by simp [PyData.shownAll] at ht
  | x :: xs, h, t, ht => by
    have h : x.canLay0 = true ∧ PyData.canLayAll0 xs = true := by simpa [PyData.canLayAll0] using h
    rw [PyData.shownAll] at ht
    rcases List.mem_cons.mp ht with rfl | ht
    · exact strOk_shown x h.1
    · exact strOk_shownA xs h.2 t ht
end
mutual
theorem eqv_self : ∀ d : PyData, d.canLay0 = true → PyData.eqv d d = true
  | .none, _ => by unfold PyData.eqv; rfl
  | .bool b, _ => by unfold PyData.eqv; simp
  | .int i, _ => by unfold PyData.eqv; simp
  | .str x, h => by unfold PyData.eqv; simp
  | .list xs, h => by unfold PyData.eqv; exact eqv_selfA xs (by simpa [PyData.canLay0] using h)
  | .tuple xs, h => by unfold PyData.eqv; exact eqv_selfA xs (by simpa [PyData.canLay0] using h)
  | .dict kvs, h => by simp [PyData.canLay0] at h
theorem eqv_selfA : ∀ xs : List PyData, PyData.canLayAll0 xs = true → PyData.eqvAll xs xs = true
  | [], _ => by unfold PyData.eqvAll; rfl
  | x :: xs, h => by
    have h : x.canLay0 = true ∧ PyData.canLayAll0 xs = true := by simpa [PyData.canLayAll0] using h
    unfold PyData.eqvAll
    rw [eqv_self x h.1, eqv_selfA xs h.2]
    rfl
end
end
section
variable {w : Wl}
/-- what a cell may hold -/
def MC (d : D) : Prop := ∃ k : Int, (0 ≤ k ∧ k < 1000000) ∧ (d = .int k ∨ d = .str (toString k : String) ∨ d = .tup [.int k] ∨ d = .lst [.int k] ∨ d = .non)
theorem str_short {k : Int} (h : 0 ≤ k ∧ k < 1000000) : ((toString k : String) : Str).cps.size ≤ 13 := by
  have := PyData.shown_int_le (i := k) (by omega)
  unfold PyData.shown at this
  exact this
theorem weight_int {k : Int} (h : 0 ≤ k ∧ k < 1000000) : (PyData.int k).weight ≤ 21 := by
  unfold PyData.weight
  split
  · omega
  · have := PySem.Flt.log2_lt_of (n := k.natAbs) (k := 20) (by decide) (by omega)
    omega
structure MCf (d : D) : Prop where
  lay : (toPD d).canLay0 = true
  dep : (toPD d).depth ≤ 1
  wei : (toPD d).weight ≤ 30
  sho : (toPD d).showable = true
  sht : (toPD d).intsShort 13 = true
  pl : plA d = true
theorem MC.facts {d : D} (h : MC d) : MCf d := by
  obtain ⟨k, hk, h⟩ := h
  have hw := weight_int hk
  have hs := str_short hk
  have hi := PyData.shown_int_le (i := k) (by omega)
  have hl : k.natAbs.log2 < 1920 := PySem.Flt.log2_lt_of (by decide) (Nat.lt_of_lt_of_le (show k.natAbs < 2 ^ 20 by omega) (Nat.pow_le_pow_right (by decide) (by decide)))
  have ok := strOk_of (toString k)
  rcases h with rfl | rfl | rfl | rfl | rfl
  · exact ⟨rfl, by simp [toPD, PyData.depth], by simp only [toPD]; omega, by simpa [toPD, PyData.showable] using hl, by simpa [toPD, PyData.intsShort] using hi, rfl⟩
  · exact ⟨by simpa [toPD, PyData.canLay0] using ok, by simp [toPD, PyData.depth], by simp only [toPD, PyData.weight]; omega, by simp [toPD, PyData.showable], by simp [toPD, PyData.intsShort], rfl⟩
  · exact ⟨by simp [toPD, toPDs, PyData.canLay0, PyData.canLayAll0], by simp [toPD, toPDs, PyData.depth, PyData.depthAll], by simp only [toPD, toPDs, PyData.weight, PyData.weightAll] at hw ⊢; omega, by simpa [toPD, toPDs, PyData.showable, PyData.showableAll] using hl, by simpa [toPD, toPDs, PyData.intsShort, PyData.intsShortAll] using hi, rfl⟩
  · exact ⟨by simp [toPD, toPDs, PyData.canLay0, PyData.canLayAll0], by simp [toPD, toPDs, PyData.depth, PyData.depthAll], by simp only [toPD, toPDs, PyData.weight, PyData.weightAll] at hw ⊢; omega, by simpa [toPD, toPDs, PyData.showable, PyData.showableAll] using hl, by simpa [toPD, toPDs, PyData.intsShort, PyData.intsShortAll] using hi, rfl⟩
  · exact ⟨rfl, by simp [toPD, PyData.depth], by simp [toPD, PyData.weight], rfl, rfl, rfl⟩
structure MLf (L : List D) : Prop where
  lay : PyData.canLayAll0 (toPDs L) = true
  dep : PyData.depthAll (toPDs L) ≤ 1
  wei : PyData.weightAll (toPDs L) ≤ 31 * L.length
  sho : PyData.showableAll (toPDs L) = true
  sht : PyData.intsShortAll 13 (toPDs L) = true
  pl : plAs L = true
theorem ML_of : ∀ {L : List D}, (∀ d ∈ L, MC d) → MLf L
  | [], _ => ⟨rfl, by simp [toPDs, PyData.depthAll], by simp [toPDs, PyData.weightAll], rfl, rfl, rfl⟩
  | d :: L, h => by
    have f := (h d List.mem_cons_self).facts
    have g := ML_of (L := L) fun x hx => h x (List.mem_cons_of_mem _ hx)
    refine ⟨?_, ?_, ?_, ?_, ?_, ?_⟩
    · simp [toPDs, PyData.canLayAll0, f.lay, g.lay]
    · have h1 := f.dep
      have h2 := g.dep
      simp only [toPDs, PyData.depthAll]
      omega
    · have h1 := f.wei
      have h2 := g.wei
      simp only [toPDs, PyData.weightAll, List.length_cons]
      omega
    · simp [toPDs, PyData.showableAll, f.sho, g.sho]
    · simp [toPDs, PyData.intsShortAll, f.sht, g.sht]
    · simp [plAs, f.pl, g.pl]
theorem okD_ml {L : List D} (h : ∀ d ∈ L, MC d) : okD (.lst L) = true := by
  have g := ML_of h
  have h1 := g.dep
  simp only [okD, toPD, SeqAt.shaped, PyData.canLay0, PyData.depth, g.lay, Bool.true_and, decide_eq_true_eq]
  omega
theorem eqD_ml {L : List D} (h : ∀ d ∈ L, MC d) : eqD (.lst L) (.lst L) = true := by
  have g := ML_of h
  show PyData.eqv (.list (toPDs L)) (.list (toPDs L)) = true
  exact eqv_self _ (by simpa [PyData.canLay0] using g.lay)
def rpML (L : List D) : Str := PyData.shown (toPD (.lst L))
theorem repr_ml {L : List D} (h : ∀ d ∈ L, MC d) (hl : L.length ≤ 30000) (w : Wl) : fRepr w [.lst L] = some (.str (rpML L)) := by
  have g := ML_of h
  have h1 := g.dep
  have h2 := g.wei
  have hlay : (toPD (.lst L)).canLay0 = true := by simpa [toPD, PyData.canLay0] using g.lay
  have hd : (toPD (.lst L)).hasDict = false := PyData.hasDict_of_canLay _ hlay
  have hw : (toPD (.lst L)).weight ≤ 2 ^ 20 := by
    simp only [toPD, PyData.weight]
    omega
  have hde : (toPD (.lst L)).depth ≤ 2 := by
    simp only [toPD, PyData.depth]
    omega
  have hla : PyData.layable0 (toPD (.lst L)) = true := by
    unfold PyData.layable0
    simp only [Bool.and_eq_true, decide_eq_true_eq]
    exact ⟨⟨hlay, by omega⟩, hw⟩
  have hf := PyData.shown_fits_of_layable0 (B := 13) (by decide) (by decide) hla (by simpa [toPD, PyData.intsShort] using g.sht)
  have hs : PyData.showable (toPD (.lst L)) = true := by simpa [toPD, PyData.showable] using g.sho
  have hk : okR (.lst L) = true := by
    unfold okR
    simp only [Bool.and_eq_true, decide_eq_true_eq, Bool.not_eq_true']
    exact ⟨⟨⟨⟨hs, hd⟩, by omega⟩, hf⟩, hlay⟩
  show (if okR (.lst L) = true then some (D.str (PyData.shown (toPD (.lst L)))) else none) = _
  rw [if_pos hk]
  rfl
theorem okD_rp {L : List D} (h : ∀ d ∈ L, MC d) : okD (.str (rpML L)) = true := by
  have g := ML_of h
  have hlay : (toPD (.lst L)).canLay0 = true := by simpa [toPD, PyData.canLay0] using g.lay
  have := strOk_shown _ hlay
  simp only [okD, toPD, SeqAt.shaped, PyData.canLay0, PyData.depth, Bool.and_eq_true, decide_eq_true_eq]
  exact ⟨this, by decide⟩
theorem eqD_self_str {c : Str} : eqD (.str c) (.str c) = true := by
  show PyData.eqv (.str c) (.str c) = _
  unfold PyData.eqv
  simp
theorem mc_dua {cs : List D} (h : ∀ d ∈ cs, MC d) : ∀ {L : List (Nat × Nat)} {c : List D}, (∀ d ∈ c, MC d) → ∀ d ∈ duA cs L c, MC d
  | [], _, hc => hc
  | q :: L, c, hc => mc_dua h (L := L) fun d hd => by
    rcases List.mem_or_eq_of_mem_set hd with h1 | h1
    · exact hc d h1
    · subst h1
      cases e : cs[q.2]? with
      | none => exact ⟨0, by decide, .inr (.inr (.inr (.inr rfl)))⟩
      | some x => exact h x (List.mem_of_getElem? e)
theorem e_pick_items {k : Int} (h : 0 ≤ k ∧ k < 1000000) : ∀ x ∈ ([.int k, .str (toString k : String), .tup [.int k], .lst [.int k], .non] : List D), MC x := by
  intro x hx
  simp only [List.mem_cons, List.not_mem_nil, or_false] at hx
  exact ⟨k, h, hx⟩
end
end DL

set_option maxHeartbeats 2000000
namespace DL
open PySem PySem.Spec PyProof.Rows L2
/-! ### lists without repetition, drawn by pops -/
section
variable {w : Wl} {b top i : Nat} {xs ys : List Int} {y : Int}
def PopI (top i : Nat) (xs ys : List Int) : Prop := xs.length = i ∧ ys.length + i = top ∧ (xs ++ ys).Nodup ∧ ∀ x ∈ xs ++ ys, 1 ≤ x ∧ x ≤ (top : Int)
theorem perm_erase : ∀ {ys : List Int} {k : Nat} {y : Int}, ys[k]? = some y → (y :: ys.eraseIdx k).Perm ys
  | [], _, _, h => by simp at h
  | a :: ys, 0, y, h => by
    simp at h
    subst h
    exact List.Perm.refl _
  | a :: ys, k + 1, y, h => by
    have ih := perm_erase (ys := ys) (k := k) (y := y) (by simpa using h)
    rw [List.eraseIdx_cons_succ]
    exact (List.Perm.swap a y _).trans (ih.cons a)
theorem PopI.step (h : PopI top i xs ys) {k : Nat} (hk : ys[k]? = some y) : PopI top (i + 1) (xs ++ [y]) (ys.eraseIdx k) := by
  obtain ⟨h1, h2, h3, h4⟩ := h
  have hp := perm_erase hk
  have hl := hp.length_eq
  rw [List.length_cons] at hl
  have hq : (xs ++ [y] ++ ys.eraseIdx k).Perm (xs ++ ys) := by
    rw [List.append_assoc]
    exact hp.append_left xs
  exact ⟨by simp; omega, by omega, hq.nodup_iff.mpr h3, fun x hx => h4 x (hq.mem_iff.mp hx)⟩
theorem PopI.init : PopI top 0 [] ((List.range top).map fun k : Nat => 1 + (k : Int)) := by
  refine ⟨rfl, by simp, ?_, ?_⟩
  · rw [List.nil_append]
    unfold List.Nodup
    rw [List.pairwise_map]
    exact List.nodup_range.imp fun h e => h (by omega)
  · intro x hx
    rw [List.nil_append] at hx
    obtain ⟨k, hk, rfl⟩ := List.mem_map.mp hx
    have := List.mem_range.mp hk
    omega
theorem erase_map : ∀ {ys : List Int} {k : Nat}, (ys.map D.int).eraseIdx k = (ys.eraseIdx k).map D.int
  | [], _ => by simp
  | a :: ys, 0 => rfl
  | a :: ys, k + 1 => by
    rw [List.map_cons, List.eraseIdx_cons_succ, List.eraseIdx_cons_succ, erase_map]
    rfl
theorem met_full (val : Nat → Int) : ∀ i, ((List.range i).map val).Nodup → (PyProof.Rows.firstMet val i).length = i
  | 0, _ => rfl
  | i + 1, h => by
    rw [List.range_succ, List.map_append] at h
    unfold List.Nodup at h
    rw [List.pairwise_append] at h
    have ih := met_full val i h.1
    rw [PyProof.Rows.firstMet_succ]
    unfold PyProof.Rows.step_dedup
    rw [if_neg, List.length_append, ih]
    · rfl
    · rw [PyProof.Rows.firstMet_any]
      intro e
      obtain ⟨z, hz, e⟩ := List.any_eq_true.mp e
      exact h.2.2 z hz (val i) (by simp) (by simpa using e)
theorem nodup_dist {ns : List Int} (h : ns.Nodup) : dist ns = ns.length := by
  refine met_full (fun i => ns.getD i 0) ns.length ?_
  have e : (List.range ns.length).map (fun i => ns.getD i 0) = ns := by
    apply List.ext_getElem
    · simp
    · intro i h1 h2
      simp [List.getD, List.getElem?_eq_getElem h2]
  rwa [e]
theorem okS_appPop {i j : Nat} {A : DE} {s : Sl} {xs ys : List D} {N : Sl → Wl → Prop} {Z : D → Wl → Prop} (hi : s[i]? = some (some (.own xs))) (hj : s[j]? = some (some (.own ys))) (hij : i ≠ j) (hx : xs.length < lim)
    (h : okE (A s w) fun d w1 => ∃ (k : Nat) (y : D), d = .int k ∧ ys[k]? = some y ∧ k < 4611686018427387904 ∧ N ((s.set j (some (.own (ys.eraseIdx k)))).set i (some (.own (xs ++ [y])))) w1) : okS (sAppPop i j A s w) N Z := by
  unfold sAppPop
  rw [hi, hj]
  dsimp only
  cases e : A s w with
  | ok d w1 =>
    rw [e] at h
    obtain ⟨k, y, rfl, hy, hk, q⟩ := h
    dsimp only
    rw [Int.toNat_natCast, hy]
    dsimp only
    rw [if_pos ⟨hij, hx, by omega, by omega⟩]
    exact q
  | er _ _ => rw [e] at h; exact h.elim
  | no => rw [e] at h; exact h.elim
/-- a draw tells the place of an item -/
theorem draw_at {N : Nat → Int → Wl → Prop} (h0 : 0 < ys.length) (h1 : ys.length ≤ 1000000) (hb : b < 1010000) (hw : Lap b w) (q : ∀ (k : Nat) (y : Int) (w' : Wl), ys[k]? = some y → Lap (b + 1) w' → N k y w') :
    okE (F_w_draw [.well, .int ys.length] w) fun d w1 => ∃ (k : Nat) (z : D), d = .int k ∧ (ys.map D.int)[k]? = some z ∧ k < 4611686018427387904 ∧ ∃ y, z = .int y ∧ ys[k]? = some y ∧ N k y w1 := by
  have e100 := pp110
  refine draw hw (by omega) (by omega) hb fun k w1 k0 k1 l1 => ?_
  obtain ⟨j, rfl⟩ := Int.eq_ofNat_of_zero_le k0
  have hj : j < ys.length := by omega
  exact ⟨j, .int ys[j], rfl, by rw [List.getElem?_map, List.getElem?_eq_getElem hj]; rfl, by omega, ys[j], rfl, List.getElem?_eq_getElem hj, q j ys[j] w1 (List.getElem?_eq_getElem hj) l1⟩
end
/-! ### a part with a number of subscripts -/
section
variable {w : Wl} {b n : Nat} {top : Int}
structure PR (top m : Int) (p : Pg) : Prop where
  ok : Gq p
  inn : Inn (1, top) p
  cn : p.cn = m
  kept : isT p = true
theorem tri_cn {a c : Int} (h0 : c ≠ 0) : (Pg.tri a (a + (n : Int) * c) c).cn = (n : Int) + 1 := by
  have e : a + (n : Int) * c - a + c = ((n : Int) + 1) * c := by rw [Int.add_mul, Int.one_mul]; omega
  show (if (a + (n : Int) * c - a + c).fdiv c > 0 then (a + (n : Int) * c - a + c).fdiv c else 0) = _
  rw [e, Int.mul_fdiv_cancel _ h0, if_pos (by omega)]
theorem tri_row {a c : Int} (h0 : c ≠ 0) : (Pg.tri a (a + (n : Int) * c) c).sb = (List.range (n + 1)).map fun k : Nat => a + (k : Int) * c := by
  unfold Pg.sb
  rw [tri_cn h0, show ((n : Int) + 1).toNat = n + 1 by omega]
  rfl
theorem pr_lst {top : Nat} {xs ys : List Int} (h : PopI top n xs ys) (hn : n ≤ 64) (ht : top ≤ 1000) : PR top n (.lst xs) ∧ (Pg.lst xs).once = true := by
  obtain ⟨h1, h2, h3, h4⟩ := h
  have hm : ∀ x ∈ xs, 1 ≤ x ∧ x ≤ (top : Int) := fun x hx => h4 x (List.mem_append_left _ hx)
  refine ⟨⟨.lst (by omega) fun x hx => ?_, fun x hx => ?_, ?_, rfl⟩, ?_⟩
  · have := hm x hx
    unfold far
    omega
  · rw [Pg.sb_lst] at hx
    exact hm x hx
  · show (xs.length : Int) = _
    rw [h1]
  · have hd : xs.Nodup := by
      unfold List.Nodup at *
      exact (List.pairwise_append.mp h3).1
    unfold Pg.once
    exact decide_eq_true (nodup_dist hd)
theorem pr_tri {a c : Int} (h0 : c ≠ 0) (hc : -10 ≤ c ∧ c ≤ 10) (hn : n ≤ 64) (ht : top ≤ 1000) (ha : 1 ≤ a ∧ a ≤ top) (hz : ∀ k : Nat, k ≤ n → 1 ≤ a + (k : Int) * c ∧ a + (k : Int) * c ≤ top) : PR top ((n : Int) + 1) (.tri a (a + (n : Int) * c) c) := by
  have := hz n (Nat.le_refl _)
  refine ⟨.tri (by unfold far; omega) (by unfold far; omega) (by unfold far; omega) h0, fun x hx => ?_, tri_cn h0, rfl⟩
  rw [tri_row h0] at hx
  obtain ⟨k, hk, rfl⟩ := List.mem_map.mp hx
  exact hz k (by have := List.mem_range.mp hk; omega)
/-- what is told of a part: it, and its row -/
def prD (p : Pg) : D := .tup [p.toD, .lst (p.sb.map .int)]
@[irreducible] def runL : DS := (sSeq (sMul [4, 5] (mOwn (aRg2 (eC (.int 1)) (eBin fAdd (eVar 2) (eC (.int 1)))) (mOwn (aLst aNil) aNil))) (sSeq (sFor (iRng1 (aCons (eVar 1) aNil)) (gN 6) (sAppPop 5 4 (eCall 2 F_w_draw (aCons (eVar 0) (aCons (eLenO 4) aNil))))) (sFrz 5 (sRet (eTup (aCons (eVar 5) (aCons (eL (eCBL fList (aCons (eVar 5) aNil))) aNil)))))))
@[irreducible] def runT : DS := (sSeq (sAsg 7 (eBin fAdd (eC (.int 1)) (eCall 2 F_w_draw (aCons (eVar 0) (aCons (eBin fSub (eVar 2) (eBin fMul (eCB fAbs (aCons (eVar 3) aNil)) (eBin fSub (eVar 1) (eC (.int 1))))) aNil))))) (sSeq (sNew 5 (aLc (iRng1 (aCons (eVar 1) aNil)) (gN 8) tYesD (eBin fAdd (eVar 7) (eBin fMul (eCB fAbs (aCons (eVar 3) aNil)) (eVar 8))) [8])) (sFrz 5 (sRet (eIf (tE (eBin fGt (eVar 3) (eC (.int 0)))) (eTup (aCons (eTup (aCons (eBin fIx (eVar 5) (eC (.int 0))) (aCons (eBin fIx (eVar 5) (eUn fNeg (eC (.int 1)))) (aCons (eVar 3) aNil)))) (aCons (eVar 5) aNil))) (eTup (aCons (eTup (aCons (eBin fIx (eVar 5) (eUn fNeg (eC (.int 1)))) (aCons (eBin fIx (eVar 5) (eC (.int 0))) (aCons (eVar 3) aNil)))) (aCons (eRev (eVar 5)) aNil))))))))
theorem okE_rg2 {A B : DE} {s : Sl} {Q : List D → Wl → Prop} : okE (aRg2 A B s w) Q = okE (A s w) fun x w1 => okE (B s w1) fun y w2 => match x, y with
    | .int i, .int j => rgOk i j ∧ Q (upTo i (j - i).toNat) w2
    | _, _ => False := by
  unfold aRg2
  rw [okE_bind]
  congr
  funext x w1
  rw [okE_bind]
  congr
  funext y w2
  cases x <;> try rfl
  cases y <;> try rfl
  rename_i i j
  show okE (if rgOk i j then R.ok (upTo i (j - i).toNat) w2 else .no) Q = _
  split <;> simp [*]
theorem upTo1 {n : Nat} : upTo 1 n = ((List.range n).map fun k : Nat => 1 + (k : Int)).map .int := by
  unfold upTo
  rw [List.map_map]
  rfl
theorem e_runL {st : Int} {top : Nat} {t4 t5 t6 t7 t8 : Option D} {N : Sl → Wl → Prop} (hn : n ≤ 64) (ht : n ≤ top ∧ top ≤ 1000) (hb : b + n < 1010000) (hw : Lap b w) :
    okS (runL [some .well, some (.int n), some (.int top), some (.int st), t4, t5, t6, t7, t8] w) N fun d w' => ∃ p, d = prD p ∧ PR top n p ∧ p.once = true ∧ Lap (b + n) w' := by
  have hlim : lim = 16000000 := rfl
  have hrg : rgOk 1 ((top : Int) + 1) := by unfold rgOk; omega
  have htn : ((top : Int) + 1 - 1).toNat = top := by omega
  unfold runL
  simp -implicitDefEqProofs [okE_rg2, hrg]
  refine ⟨by omega, ?_⟩
  rw [upTo1]
  refine okS_loop0 (fun i s w' => Lap (b + i) w' ∧ ∃ xs ys t6, s = [some .well, some (.int n), some (.int top), some (.int st), some (.own (ys.map .int)), some (.own (xs.map .int)), t6, t7, t8] ∧ PopI top i xs ys) ⟨hw, [], _, t6, rfl, PopI.init⟩ ?_ ?_
  · rintro i d s w2 hd ⟨l2, xs, ys, t6, rfl, hp⟩
    have hi : i < n := by
      have := (List.getElem?_eq_some_iff.mp hd).1
      simpa [upTo] using this
    obtain ⟨h1, h2, -, -⟩ := id hp
    rw [v_gN, okO_some]
    refine okS_appPop (xs := xs.map .int) (ys := ys.map .int) rfl rfl (by decide) (by rw [List.length_map]; omega) ?_
    simp -implicitDefEqProofs
    refine okE_mono (draw_at (ys := ys) (N := fun k y w1 => Lap (b + i + 1) w1 ∧ PopI top (i + 1) (xs ++ [y]) (ys.eraseIdx k)) (by omega) (by omega) (by omega) l2 fun k y w1 hk l1 => ⟨l1, hp.step hk⟩) ?_
    rintro d w1 ⟨k, z, rfl, hz, hk, y, rfl, hy, l1, hq⟩
    refine ⟨k, rfl, .int y, ⟨y, hy, rfl⟩, hk, l1, xs ++ [y], ys.eraseIdx k, ?_, hq⟩
    rw [erase_map, List.map_append]
    simp
  · rintro s w2 ⟨l2, xs, ys, t6, rfl, hp⟩
    have hln : (upTo 0 n).length = n := by simp [upTo]
    rw [hln] at l2 hp
    simp -implicitDefEqProofs
    obtain ⟨hP, ho⟩ := pr_lst hp hn ht.2
    refine ⟨by omega, .lst xs, ?_, hP, ho, l2⟩
    unfold prD
    rw [Pg.sb_lst]
    rfl
end
end DL

set_option maxHeartbeats 2000000
namespace DL
open PySem PySem.Spec PyProof.Rows L2
/-! ### a part with a number of subscripts: triplets; the law's runs -/
section
variable {w : Wl} {b n : Nat} {top : Int}
theorem lst_ends {f : Nat → D} : atI ((List.range (n + 1)).map f) 0 = some (f 0) ∧ atI ((List.range (n + 1)).map f) (-1) = some (f n) := by
  refine ⟨atI_nat (j := 0) (by rw [List.getElem?_map, List.getElem?_range (by omega)]; rfl), ?_⟩
  rw [List.range_succ, List.map_append]
  exact atI_last _ _
theorem rev_range {f g : Nat → Int} (h : ∀ k, k ≤ n → f (n - k) = g k) : ((List.range (n + 1)).map fun k => D.int (f k)).reverse = (List.range (n + 1)).map fun k => D.int (g k) := by
  apply List.ext_getElem
  · simp
  · intro k h1 h2
    simp only [List.length_map, List.length_range, List.length_reverse] at h1
    simp only [List.getElem_reverse, List.length_map, List.length_range, List.getElem_map, List.getElem_range]
    rw [← h k (by omega)]
    congr 2
theorem upTo0 {m : Nat} : upTo 0 m = (List.range m).map fun k : Nat => D.int (0 + (k : Int)) := rfl
theorem e_runT {st : Int} {t4 t5 t6 t7 t8 : Option D} {N : Sl → Wl → Prop} (hs : st = 1 ∨ st = 2 ∨ st = -1) (hn : n ≤ 64) (ht : top ≤ 1000) (hlt : (if st < 0 then -st else st) * (n : Int) < top) (hb : b < 1000000) (hw : Lap b w) :
    okS (runT [some .well, some (.int ((n : Int) + 1)), some (.int top), some (.int st), t4, t5, t6, t7, t8] w) N fun d w' => ∃ p, d = prD p ∧ PR top ((n : Int) + 1) p ∧ p.once = true ∧ Lap (b + 1) w' := by
  have hlim : lim = 16000000 := rfl
  have e100 := pp110
  obtain ⟨a, ha⟩ : ∃ a, a = if st < 0 then -st else st := ⟨_, rfl⟩
  have ha2 : (a = 1 ∨ a = 2) ∧ (0 < st → a = st) ∧ (st < 0 → a = 1 ∧ st = -1) := by
    rcases hs with rfl | rfl | rfl <;> simp at ha <;> subst ha <;> decide
  rw [← ha] at hlt
  have en : ((n : Int) + 1 - 1) = n := by omega
  have m1 : ∀ k : Int, 0 ≤ k → k ≤ 100 → mulOk a k := fun k h0 h1 => mul_bt (i := 50) (j := 50) (bt50 (by omega) (by omega)) (bt50 h0 (by omega)) (by omega)
  have h0 : 0 ≤ a * (n : Int) := Int.mul_nonneg (by omega) (by omega)
  have hup : upTo 0 (n + 1) = (List.range (n + 1)).map fun k : Nat => D.int (k : Int) := by unfold upTo; simp
  have hul : (upTo 0 (n + 1)).length = n + 1 := by simp [upTo]
  unfold runT
  simp -implicitDefEqProofs [← ha, en]
  refine ⟨m1 n (by omega) (by omega), ?_⟩
  refine draw hw (by omega) (by omega) (by omega) fun k w1 k0 k1 l1 => ?_
  simp -implicitDefEqProofs [← ha]
  rw [hul]
  refine ⟨by omega, by omega, okE_lcall2 (γ := Nat) (fun j => D.int (j : Int)) (fun j => D.int (1 + k + a * (j : Int))) hup (fun j hj => ?_) ?_⟩
  · have := List.mem_range.mp hj
    simp -implicitDefEqProofs [wipeS, ← ha]
    exact m1 j (by omega) (by omega)
  · obtain ⟨q1, q2⟩ := lst_ends (n := n) (f := fun j => D.int (1 + k + a * (j : Int)))
    have s3 : ∀ j : Nat, j ≤ n → 0 ≤ a * (j : Int) ∧ a * (j : Int) ≤ a * n := fun j hj => ⟨Int.mul_nonneg (by omega) (by omega), Int.mul_le_mul_of_nonneg_left (by omega) (by omega)⟩
    simp -implicitDefEqProofs [q1, q2]
    by_cases hp : 0 < st
    · rw [if_pos hp]
      have e := ha2.2.1 hp
      subst e
      refine ⟨by omega, by omega, .tri (1 + k) (1 + k + (n : Int) * a) a, ?_, pr_tri (by omega) (by omega) hn ht (by omega) (fun j hj => ?_), rfl, l1⟩
      · unfold prD
        rw [tri_row (by omega), List.map_map]
        simp -implicitDefEqProofs [Pg.toD, Int.mul_comm]
      · have := s3 j hj
        rw [Int.mul_comm]
        omega
    · rw [if_neg hp]
      obtain ⟨rfl, rfl⟩ := ha2.2.2 (by omega)
      refine ⟨by omega, by omega, .tri (1 + k + n) (1 + k + (n : Int) + (n : Int) * (-1)) (-1), ?_, pr_tri (by omega) (by omega) hn ht (by omega) (fun j hj => ?_), rfl, l1⟩
      · unfold prD
        rw [tri_row (by omega), List.map_map]
        have er := rev_range (n := n) (f := fun j => 1 + k + 1 * (j : Int)) (g := fun j => 1 + k + n + (j : Int) * (-1)) (fun j hj => by
          have : ((n - j : Nat) : Int) = n - j := by omega
          rw [this]
          omega)
        rw [er]
        have e1 : 1 + k + (n : Int) + (n : Int) * (-1) = 1 + k := by omega
        have e2 : 1 + k + 1 * (n : Int) = 1 + k + n := by omega
        simp -implicitDefEqProofs [Pg.toD, e1]
        try omega
      · omega
end
end DL

set_option maxHeartbeats 2000000
namespace DL
open PySem PySem.Spec PyProof.Rows L2
/-! ### the law's runs and sides -/
section
variable {w : Wl} {b n top : Nat}
theorem e_w_run (hn : n ≤ 3) (ht : 4 ≤ top ∧ top ≤ 6) (hb : b < 900000) (hw : Lap b w) : okE (F_w_run [.well, .int ((n : Int) + 1), .int (top : Int)] w) fun d w' => ∃ p, d = prD p ∧ PR top ((n : Int) + 1) p ∧ p.once = true ∧ Lap (b + 8) w' := by
  have hl4 : (4 : Nat) ≤ lim := by decide
  have en : ((n : Int) + 1 - 1) = n := by omega
  have e : B_w_run = sSeq (sAsg 3 (eCall 2 F_w_pick (aCons (eVar 0) (aCons (eL (aLst (aCons (eC (.int 1)) (aCons (eC (.int 1)) (aCons (eC (.int 2)) (aCons (eUn fNeg (eC (.int 1))) aNil)))))) aNil)))) (sSeq (sIf (tOn (tE (eBin fGe (eBin fMul (eCB fAbs (aCons (eVar 3) aNil)) (eBin fSub (eVar 1) (eC (.int 1)))) (eVar 2))) (tE (eBin fEq (eCall 2 F_w_draw (aCons (eVar 0) (aCons (eC (.int 2)) aNil))) (eC (.int 0))))) runL sNx) runT) := by unfold runL runT; rfl
  have iL : ∃ L : DS, L = runL ∧ ∀ (n : Nat) {b : Nat} {w : Wl} {st : Int} {top : Nat}, n ≤ 64 → n ≤ top ∧ top ≤ 1000 → b + n < 1010000 → Lap b w → okS (L [some .well, some (.int n), some (.int top), some (.int st), none, none, none, none, none] w) (fun _ _ => False) fun d w' => ∃ p, d = prD p ∧ PR top n p ∧ p.once = true ∧ Lap (b + n) w' := ⟨runL, rfl, fun n _ _ _ _ h1 h2 h3 h4 => e_runL h1 h2 h3 h4⟩
  unfold F_w_run
  rw [e]
  obtain ⟨L, hL, eL⟩ := iL
  obtain ⟨R, hR⟩ : ∃ R : DS, R = runT := ⟨_, rfl⟩
  rw [← hL, ← hR]
  simp -implicitDefEqProofs [okE_run, List.replicate, hl4]
  refine pick hw (by simp) (by simp) (by omega) fun x hx w1 l1 => ?_
  have hx : ∃ st : Int, x = .int st ∧ (st = 1 ∨ st = 2 ∨ st = -1) := by
    simp only [List.mem_cons, List.not_mem_nil, or_false] at hx
    rcases hx with rfl | rfl | rfl | rfl
    · exact ⟨1, rfl, .inl rfl⟩
    · exact ⟨1, rfl, .inl rfl⟩
    · exact ⟨2, rfl, .inr (.inl rfl)⟩
    · exact ⟨-1, rfl, .inr (.inr rfl)⟩
  obtain ⟨st, rfl, hst⟩ := hx
  have hfin : ∀ (c : Nat) (w2 : Wl), c ≤ 2 → Lap (b + c) w2 → okS (L [some .well, some (.int ((n : Int) + 1)), some (.int (top : Int)), some (.int st), none, none, none, none, none] w2) (fun _ _ => False) fun d w' => ∃ p, d = prD p ∧ PR top ((n : Int) + 1) p ∧ p.once = true ∧ Lap (b + 8) w' := by
    intro c w2 hc l2
    obtain ⟨m, hm⟩ : ∃ m, m = n + 1 := ⟨_, rfl⟩
    obtain ⟨b2, hb2⟩ : ∃ b2, b2 = b + c := ⟨_, rfl⟩
    rw [← hb2] at l2
    have ec : (n : Int) + 1 = (m : Int) := by omega
    rw [ec]
    have := eL m (st := st) (show m ≤ 64 by omega) (show m ≤ top ∧ top ≤ 1000 by omega) (by omega) l2
    refine okS_mono this (fun _ _ h => h) ?_
    rintro d w3 ⟨p, h1, h2, h3, h4⟩
    exact ⟨p, h1, h2, h3, lap_le h4 (by omega)⟩
  have hfin2 : ∀ (w2 : Wl), (if st < 0 then -st else st) * (n : Int) < top → Lap (b + 2) w2 → okS (R [some .well, some (.int ((n : Int) + 1)), some (.int (top : Int)), some (.int st), none, none, none, none, none] w2) (fun _ _ => False) fun d w' => ∃ p, d = prD p ∧ PR top ((n : Int) + 1) p ∧ p.once = true ∧ Lap (b + 8) w' := by
    intro w2 hlt l2
    rw [hR]
    have := e_runT (n := n) (st := st) (top := top) (t4 := none) (t5 := none) (t6 := none) (t7 := none) (t8 := none) (N := fun _ _ => False) hst (by omega) (by omega) hlt (by omega) l2
    refine okS_mono this (fun _ _ h => h) ?_
    rintro d w3 ⟨p, h1, h2, h3, h4⟩
    exact ⟨p, h1, h2, h3, lap_le h4 (by omega)⟩
  have m1 : mulOk (if st < 0 then -st else st) (n : Int) := mul_bt (i := 50) (j := 50) (bt50 (by split <;> omega) (by split <;> omega)) (bt50 (by omega) (by omega)) (by omega)
  have fin' : ∀ {r : RS}, okS r (fun _ _ => False) (fun d w' => ∃ p, d = prD p ∧ PR top ((n : Int) + 1) p ∧ p.once = true ∧ Lap (b + 8) w') → ∀ N : Sl → Wl → Prop, okS r N (fun d w' => ∃ p, d = prD p ∧ PR top ((n : Int) + 1) p ∧ p.once = true ∧ Lap (b + 8) w') := fun h N => okS_mono h (fun _ _ z => z.elim) fun _ _ z => z
  simp -implicitDefEqProofs [en]
  refine ⟨m1, ?_⟩
  by_cases c : (top : Int) ≤ (if st < 0 then -st else st) * (n : Int)
  · rw [if_pos c]
    exact fin' (hfin 1 w1 (by omega) l1) _
  · rw [if_neg c]
    refine draw l1 (by decide) (by decide) (by omega) fun k w2 k0 k1 l2 => ?_
    simp -implicitDefEqProofs
    split
    · exact fin' (hfin 2 w2 (by omega) l2) _
    · exact fin' (hfin2 w2 (by omega) l2) _
end
end DL

set_option maxHeartbeats 2000000
namespace DL
open PySem PySem.Spec PyProof.Rows L2
/-! ### the law's sides -/
section
variable {w : Wl} {b n top : Nat}
@[simp] theorem okE_sl {A : DE} {L M : Sl → Wl → R (Option Int)} {s : Sl} {w : Wl} {Q : D → Wl → Prop} : okE (eSl A L M s w) Q = okE (A s w) fun x w1 => okE (L s w1) fun l w2 => okE (M s w2) fun m w3 => match x with
    | .lst xs => Q (.lst (cutD xs l m)) w3
    | .tup xs => Q (.tup (cutD xs l m)) w3
    | _ => False := by
  unfold eSl; simp only [okE_bind]; congr; funext x w1; congr; funext l w2; congr; funext m w3; cases x <;> rfl
@[simp] theorem okE_oNone {s : Sl} {Q : Option Int → Wl → Prop} : okE (oNone s w) Q = Q none w := rfl
@[simp] theorem okE_oSome {A : DE} {s : Sl} {Q : Option Int → Wl → Prop} : okE (oSome A s w) Q = okE (A s w) fun x w1 => match x with
    | .int i => Q (some i) w1
    | _ => False := by
  unfold oSome; simp only [okE_bind]; congr; funext x w1; cases x <;> rfl
theorem cut_from {α : Type} {l : List α} {k : Nat} (h : k ≤ l.length) : cutD l (some (k : Int)) none = l.drop k := by
  unfold cutD
  rw [HT.sIx_nat, HT.sIx_none, Nat.min_eq_left h]
  exact List.take_of_length_le (by rw [List.length_drop]; omega)
theorem cut_to {α : Type} {l : List α} {n : Nat} : cutD l none (some (n : Int)) = l.take n := by
  unfold cutD
  rw [HT.sIx_none, HT.sIx_nat]
  simp
theorem cut_init {α : Type} {l : List α} (h : l ≠ []) : cutD l none (some (-1)) = l.dropLast := by
  have hl : 0 < l.length := List.length_pos_iff.mpr h
  unfold cutD
  have e : HT.sIx l.length l.length (some (-1)) = l.length - 1 := by
    unfold HT.sIx
    simp
    omega
  rw [e, HT.sIx_none, List.dropLast_eq_take]
  simp
/-- the first item a second time, at the end -/
def tw (xs : List Int) : List Int := xs.dropLast ++ xs.take 1
theorem tw_len {xs : List Int} (h : xs ≠ []) : (tw xs).length = xs.length := by
  have hl : 0 < xs.length := List.length_pos_iff.mpr h
  unfold tw
  simp
  omega
theorem tw_mem {xs : List Int} {x : Int} (h : x ∈ tw xs) : x ∈ xs := by
  unfold tw at h
  rcases List.mem_append.mp h with h | h
  · exact List.dropLast_subset xs h
  · exact List.take_subset 1 xs h
theorem tw_twice {xs : List Int} (h : 1 < xs.length) : ¬ (tw xs).Nodup := by
  cases xs with
  | nil => simp at h
  | cons a r =>
    cases r with
    | nil => simp at h
    | cons c r =>
      have e : tw (a :: c :: r) = a :: ((c :: r).dropLast ++ [a]) := by
        unfold tw
        simp
      rw [e]
      simp
theorem v_tw {xs : List Int} (h : xs ≠ []) : cutD (xs.map D.int) none (some (-1)) ++ cutD (xs.map D.int) none (some 1) = (tw xs).map .int := by
  have e1 : cutD (xs.map D.int) none (some (1 : Int)) = (xs.map D.int).take 1 := cut_to (n := 1)
  rw [cut_init (by simpa using h), e1]
  unfold tw
  rw [List.map_append, List.map_dropLast, List.map_take]
/-- a part of a side -/
structure PG (r : Bool) (top : Int) (p : Pg) : Prop where
  ok : Gq p
  inn : Inn (1, top) p
  cn : 1 ≤ p.cn ∧ p.cn ≤ 4
  once : r = false → p.once = true
theorem pg_tw {xs : List Int} {t : Int} {r : Bool} (h : PR t ((n : Int) + 1) (.lst xs)) (hn : n ≤ 3) : PG true t (.lst (tw xs)) ∧ (Pg.lst (tw xs)).cn = (n : Int) + 1 ∧ xs ≠ [] := by
  have hc : (xs.length : Int) = (n : Int) + 1 := h.cn
  have hne : xs ≠ [] := fun e => by rw [e] at hc; simp at hc; omega
  have hl := tw_len hne
  have hG : (∀ x ∈ xs, far x) := by
    have := h.ok
    cases this with
    | lst _ f => exact f
  refine ⟨⟨.lst (by omega) fun x hx => hG x (tw_mem hx), fun x hx => ?_, ?_, fun e => by cases e⟩, ?_, hne⟩
  · rw [Pg.sb_lst] at hx
    exact h.inn x (by rw [Pg.sb_lst]; exact tw_mem hx)
  · show 1 ≤ ((tw xs).length : Int) ∧ ((tw xs).length : Int) ≤ 4
    omega
  · show ((tw xs).length : Int) = _
    omega
theorem pr_pg {t : Int} {r : Bool} {p : Pg} (h : PR t ((n : Int) + 1) p) (ho : p.once = true) (hn : n ≤ 3) : PG r t p := ⟨h.ok, h.inn, by rw [h.cn]; omega, fun _ => ho⟩
theorem okS_tgPop {G : DG} {F : DF} {j : Nat} {A C B : DE} {s : Sl} {a c y : D} {ys : List D} {N : Sl → Wl → Prop} {Z : D → Wl → Prop} (ha : A s w = .ok a w) (hc : C s w = .ok (.int 0) w) (hj : s[j]? = some (some (.own (y :: ys)))) (hb : B (s.set j (some (.own ys))) w = .ok c w)
    (h : okE (F [a, y, c] w) fun d w4 => okO (G d (s.set j (some (.own ys)))) fun s1 => N s1 w4) : okS (sTgPop G F j A C B s w) N Z := by
  unfold sTgPop
  rw [ha]
  dsimp only
  rw [hc, hj]
  dsimp only
  rw [show (0 : Int).toNat = 0 from rfl, List.getElem?_cons_zero]
  dsimp only
  rw [if_pos ⟨by omega, by omega⟩, List.eraseIdx_cons_zero, hb]
  dsimp only
  cases e : F [a, y, c] w with
  | ok d w4 =>
    rw [e] at h
    dsimp only
    cases e2 : G d (s.set j (some (.own ys))) with
    | none => rw [okE_ok, e2] at h; exact h.elim
    | some s1 => rw [okE_ok, e2] at h; exact h
  | er _ _ => rw [e] at h; exact h.elim
  | no => rw [e] at h; exact h.elim
def rowD (p : Pg) : D := .lst (p.sb.map .int)
@[simp] theorem getS_rowD {p : Pg} {s : Sl} : getS (some (rowD p) :: s) 0 = some (rowD p) := rfl
@[irreducible] def sdB : DS := (sIf (tE (eBin fEq (eVar 8) (eVar 6))) (sSeq (sAsg 10 (eBin fAdd (eC (.int 1)) (eCall 2 F_w_draw (aCons (eVar 0) (aCons (eVar 9) aNil))))) (sSeq (sApp 4 (eVar 10)) (sApp 5 (eL (aLst (aCons (eVar 10) aNil)))))) (sSeq (sTgPop (gT (gCons' (gN 11) (gCons' (gN 12) gNil')) 2) F_w_run 7 (eVar 0) (eC (.int 0)) (eVar 9)) (sSeq (sIf (tAn (tTr (eVar 3)) (tAn (tTr (eCB fIsi (aCons (eVar 11) (aCons (eC (.ty "list")) aNil)))) (tAn (tE (eBin fNe (eVar 11) (eL (aLst aNil)))) (tE (eBin fEq (eCall 2 F_w_draw (aCons (eVar 0) (aCons (eC (.int 2)) aNil))) (eC (.int 0))))))) (sMul [11, 12] (mVal (eBin fAdd (eSl (eVar 11) oNone (oSome (eUn fNeg (eC (.int 1))))) (eSl (eVar 11) oNone (oSome (eC (.int 1))))) (mVal (eBin fAdd (eSl (eVar 12) oNone (oSome (eUn fNeg (eC (.int 1))))) (eSl (eVar 12) oNone (oSome (eC (.int 1))))) aNil))) sNx) (sSeq (sApp 4 (eVar 11)) (sApp 5 (eVar 12))))))
/-- the state within a side -/
def sdS (A B : D) (r : Bool) (ps : List Pg) (at' : Int) (rem : List Int) (t8 t9 t10 t11 t12 : Option D) : Sl := [some .well, some A, some B, some (.bl r), some (.own (ps.map Pg.toD)), some (.own (ps.map rowD)), some (.int at'), some (.own (rem.map .int)), t8, t9, t10, t11, t12]
/-- a part that is a number -/
theorem e_sdB_num {A B : D} {r : Bool} {ps : List Pg} {k : Int} {rem : List Int} {t10 t11 t12 : Option D} {Z : D → Wl → Prop} {N : Sl → Wl → Prop} (hl : ps.length ≤ 7) (ht : 4 ≤ top ∧ top ≤ 6) (hb : b < 900000) (hw : Lap b w)
    (q : ∀ p w' t10, PG r top p → isT p = false → Lap (b + 1) w' → N (sdS A B r (ps ++ [p]) k rem (some (.int k)) (some (.int (top : Int))) t10 t11 t12) w') :
    okS (sdB (sdS A B r ps k rem (some (.int k)) (some (.int (top : Int))) t10 t11 t12) w) N Z := by
  have hlim : lim = 16000000 := rfl
  have e100 := pp110
  unfold sdB sdS
  simp -implicitDefEqProofs
  refine draw hw (by omega) (by omega) (by omega) fun j w1 j0 j1 l1 => ?_
  simp -implicitDefEqProofs
  refine ⟨by omega, by omega, by omega, ?_⟩
  have h := q (.num (1 + j)) w1 (some (.int (1 + j))) ⟨.num (by unfold far; omega), fun x hx => ?_, (show (1 : Int) ≤ 1 ∧ (1 : Int) ≤ 4 by decide), fun _ => rfl⟩ rfl l1
  · unfold sdS at h
    rw [List.map_append, List.map_append] at h
    exact h
  · rw [Pg.sb_num] at hx
    rw [List.mem_singleton.mp hx]
    show 1 ≤ 1 + j ∧ 1 + j ≤ (top : Int)
    omega
end
end DL

set_option maxHeartbeats 2000000
namespace DL
open PySem PySem.Spec PyProof.Rows L2
section
variable {w : Wl} {b n top : Nat}
/-- a part that is kept -/
theorem e_sdB_run {A B : D} {r : Bool} {ps : List Pg} {i k : Int} {rem : List Int} {t10 t11 t12 : Option D} {Z : D → Wl → Prop} {N : Sl → Wl → Prop} (hk : i ≠ k) (hn : n ≤ 3) (hl : ps.length ≤ 7) (ht : 4 ≤ top ∧ top ≤ 6) (hb : b < 800000) (hw : Lap b w)
    (q : ∀ p w' t11 t12, PG r top p → isT p = true → p.cn = (n : Int) + 1 → Lap (b + 9) w' → N (sdS A B r (ps ++ [p]) k rem (some (.int i)) (some (.int (top : Int))) t10 t11 t12) w') :
    okS (sdB (sdS A B r ps k (((n : Int) + 1) :: rem) (some (.int i)) (some (.int (top : Int))) t10 t11 t12) w) N Z := by
  have hlim : lim = 16000000 := rfl
  have e100 := pp110
  have hl0 : (0 : Nat) ≤ lim := by decide
  unfold sdB
  obtain ⟨T, hT⟩ : ∃ T : DS, T = (sSeq (sIf (tAn (tTr (eVar 3)) (tAn (tTr (eCB fIsi (aCons (eVar 11) (aCons (eC (.ty "list")) aNil)))) (tAn (tE (eBin fNe (eVar 11) (eL (aLst aNil)))) (tE (eBin fEq (eCall 2 F_w_draw (aCons (eVar 0) (aCons (eC (.int 2)) aNil))) (eC (.int 0))))))) (sMul [11, 12] (mVal (eBin fAdd (eSl (eVar 11) oNone (oSome (eUn fNeg (eC (.int 1))))) (eSl (eVar 11) oNone (oSome (eC (.int 1))))) (mVal (eBin fAdd (eSl (eVar 12) oNone (oSome (eUn fNeg (eC (.int 1))))) (eSl (eVar 12) oNone (oSome (eC (.int 1))))) aNil))) sNx) (sSeq (sApp 4 (eVar 11)) (sApp 5 (eVar 12)))) := ⟨_, rfl⟩
  rw [← hT]
  have htest : (tE (eBin fEq (eVar 8) (eVar 6)) : DT) (sdS A B r ps k (((n : Int) + 1) :: rem) (some (.int i)) (some (.int (top : Int))) t10 t11 t12) w = .ok false w := by
    apply okE_eq
    unfold sdS
    simp -implicitDefEqProofs [hk]
  rw [okS_if, htest, okE_ok, if_neg (by decide)]
  refine okS_then (fun s1 w1 => ∃ p, PR top ((n : Int) + 1) p ∧ p.once = true ∧ Lap (b + 8) w1 ∧ s1 = sdS A B r ps k rem (some (.int i)) (some (.int (top : Int))) t10 (some p.toD) (some (rowD p))) ?_ ?_
  · refine okS_tgPop (a := .well) (c := .int (top : Int)) (y := .int ((n : Int) + 1)) (ys := rem.map .int) rfl rfl rfl rfl ?_
    refine okE_mono (e_w_run hn ht (by omega) hw) ?_
    rintro d w1 ⟨p, rfl, hP, ho, l1⟩
    unfold prD sdS
    simp -implicitDefEqProofs
    exact ⟨p, hP, ho, l1, rfl, rfl⟩
  rintro s1 w1 ⟨p, hP, ho, l1, rfl⟩
  have gp : ∀ (x : Pg) (s : Sl), getS (some x.toD :: s) 0 = some x.toD := fun x s => getS_pg
  have fin : ∀ (p : Pg) (w2 : Wl), PG r top p → isT p = true → p.cn = (n : Int) + 1 → Lap (b + 9) w2 → okS (sSeq (sApp 4 (eVar 11)) (sApp 5 (eVar 12)) (sdS A B r ps k rem (some (.int i)) (some (.int (top : Int))) t10 (some p.toD) (some (rowD p))) w2) N Z := by
    intro p w2 hG hT2 hc l2
    have h := q p w2 (some p.toD) (some (rowD p)) hG hT2 hc l2
    unfold sdS at h ⊢
    rw [List.map_append, List.map_append] at h
    simp -implicitDefEqProofs
    first | exact h | exact ⟨by omega, h⟩ | exact ⟨by omega, by omega, h⟩
  have fin0 := fun (w2 : Wl) (l2 : Lap (b + 9) w2) => fin p w2 (pr_pg hP ho hn) hP.kept hP.cn l2
  obtain ⟨V, hV⟩ : ∃ V : DS, V = (sSeq (sApp 4 (eVar 11)) (sApp 5 (eVar 12))) := ⟨_, rfl⟩
  rw [← hV] at fin fin0 hT
  rw [hT]
  cases r with
  | false =>
    unfold sdS at fin0 ⊢
    simp -implicitDefEqProofs
    exact fin0 w1 (lap_le l1 (by omega))
  | true =>
    cases p with
    | num a => cases hP.kept
    | tri a c z =>
      have hi : fIsi w1 [Pg.toD (.tri a c z), .ty "list"] = some (.bl false) := rfl
      unfold sdS at fin0 ⊢
      simp -implicitDefEqProofs [gp, hi]
      exact fin0 w1 (lap_le l1 (by omega))
    | lst xs =>
      have hi : fIsi w1 [Pg.toD (.lst xs), .ty "list"] = some (.bl true) := rfl
      obtain ⟨hG, hc, hne⟩ := pg_tw (r := true) hP hn
      have hlx : xs.length ≤ 64 := by
        have := hP.cn
        have e : (Pg.lst xs).cn = (xs.length : Int) := rfl
        omega
      have o1 : okD (Pg.toD (.lst xs)) = true ∧ okD (.lst []) = true ∧ eqD (Pg.toD (.lst xs)) (.lst []) = false := by
        refine ⟨okD_lints, rfl, ?_⟩
        have := eqD_lints (xs := xs) (ys := [])
        rw [decide_eq_false hne] at this
        exact this
      have fin1 := fun (w2 : Wl) (l2 : Lap (b + 9) w2) => fin (.lst (tw xs)) w2 hG rfl hc l2
      have er : rowD (.lst xs) = .lst (xs.map .int) := by unfold rowD; rw [Pg.sb_lst]
      have er2 : rowD (.lst (tw xs)) = .lst ((tw xs).map .int) := by unfold rowD; rw [Pg.sb_lst]
      have ep : Pg.toD (.lst xs) = .lst (xs.map .int) := rfl
      have ep2 : Pg.toD (.lst (tw xs)) = .lst ((tw xs).map .int) := rfl
      have c1 := v_tw hne
      have len1 : (cutD (xs.map D.int) none (some (-1))).length + (cutD (xs.map D.int) none (some 1)).length ≤ lim := by
        rw [← List.length_append, c1, List.length_map, tw_len hne]
        omega
      rw [er, ep] at fin0
      rw [er2, ep2] at fin1
      rw [ep] at hi o1
      rw [ep, er]
      unfold sdS at fin0 fin1 ⊢
      simp -implicitDefEqProofs [gp, hi, hl0, o1]
      refine draw l1 (by decide) (by decide) (by omega) fun j w2 j0 j1 l2 => ?_
      simp -implicitDefEqProofs
      split
      · simp -implicitDefEqProofs [len1, c1]
        exact fin1 w2 (lap_le l2 (by omega))
      · exact fin0 w2 (lap_le l2 (by omega))
end
end DL

set_option maxHeartbeats 2000000
namespace DL
open PySem PySem.Spec PyProof.Rows L2
/-! ### a side: the section and its elements -/
section
variable {w : Wl} {b : Nat} {tops ms : List Nat} {ps qs : List Pg} {r : Bool}
def zI (ms : List Nat) : List Int := ms.map fun m : Nat => (m : Int) + 1
def tpD (tops : List Nat) : D := .lst (tops.map fun t : Nat => .int (t : Int))
structure Side (tops ms : List Nat) (r : Bool) (ps : List Pg) : Prop where
  len : ps.length = tops.length
  each : ∀ (j : Nat) (p : Pg), ps[j]? = some p → ∃ t : Nat, tops[j]? = some t ∧ PG r t p
  shape : shp ps = zI ms
structure Szs (tops ms : List Nat) : Prop where
  len : ms.length + 1 = tops.length
  few : tops.length ≤ 4
  ms3 : ∀ m ∈ ms, m ≤ 3
  top : ∀ t ∈ tops, 4 ≤ t ∧ t ≤ 6
theorem shp_snoc {p : Pg} : shp (ps ++ [p]) = shp ps ++ if isT p = true then [p.cn] else [] := by
  unfold shp
  rw [List.filter_append, List.map_append]
  congr 1
  cases h : isT p <;> simp [h]
theorem each_snoc {p : Pg} {t : Nat} (h : ∀ (j : Nat) (p : Pg), ps[j]? = some p → ∃ t : Nat, tops[j]? = some t ∧ PG r t p) (ht : tops[ps.length]? = some t) (hp : PG r t p) : ∀ (j : Nat) (q : Pg), (ps ++ [p])[j]? = some q → ∃ t : Nat, tops[j]? = some t ∧ PG r t q := by
  intro j q hq
  by_cases hj : j < ps.length
  · rw [List.getElem?_append_left hj] at hq
    exact h j q hq
  · rw [List.getElem?_append_right (by omega)] at hq
    have e : j - ps.length = 0 := by
      have := (List.getElem?_eq_some_iff.mp hq).1
      simp at this
      omega
    rw [e] at hq
    cases hq
    have e2 : j = ps.length := by omega
    rw [e2]
    exact ⟨t, ht, hp⟩
theorem elsL_few : ∀ {A : List (List Int)}, (∀ s ∈ A, s.length ≤ 4) → (elsL A).length ≤ 4 ^ A.length
  | [], _ => by simp [elsL]
  | s :: A, h => by
    have ih := elsL_few (A := A) fun x hx => h x (List.mem_cons_of_mem _ hx)
    have e : (elsL (s :: A)).length = s.length * (elsL A).length := by rw [elsL_snoc, elsL_snoc]; rfl
    rw [e, List.length_cons, Nat.pow_succ, Nat.mul_comm (4 ^ A.length)]
    exact Nat.mul_le_mul (h s List.mem_cons_self) ih
theorem sb_few {p : Pg} (h : p.cn ≤ 4) : p.sb.length ≤ 4 := by have := p.sb_len; omega
theorem e_elements_of (h4 : ps.length ≤ 4) (h : ∀ p ∈ ps, p.cn ≤ 4) : F_w_elements [.lst (ps.map rowD)] w = .ok (.lst ((els ps).map eD)) w := by
  have e : ps.map rowD = (ps.map Pg.sb).map fun s => D.lst (s.map .int) := by rw [List.map_map]; rfl
  have hs : ∀ s ∈ ps.map Pg.sb, s.length ≤ 4 := fun s hs => by
    obtain ⟨p, hp, rfl⟩ := List.mem_map.mp hs
    exact sb_few (h p hp)
  rw [e, els_elsL]
  refine e_w_elements (by rw [List.length_map]; omega) (fun s hs' => Nat.le_trans (hs s hs') (by decide)) fun k hk => ?_
  rw [List.length_map] at hk
  have := elsL_few (A := ((ps.map Pg.sb).reverse.take k).reverse) fun s hs' => hs s (List.mem_reverse.mp (List.mem_of_mem_take (List.mem_reverse.mp hs')))
  have hl : (((ps.map Pg.sb).reverse.take k).reverse).length ≤ 4 := by simp; omega
  have h4 : 4 ^ (((ps.map Pg.sb).reverse.take k).reverse).length ≤ 4 ^ 4 := Nat.pow_le_pow_right (by decide) hl
  have e4 : (4 : Nat) ^ 4 = 256 := by decide
  omega
theorem e_w_side (z : Szs tops ms) (hb : b < 700000) (hw : Lap b w) : okE (F_w_side [.well, .lst ((zI ms).map .int), tpD tops, .bl r] w) fun d w' => ∃ ps, d = .tup [secG ps, .lst ((els ps).map eD)] ∧ Side tops ms r ps ∧ Lap (b + 60) w' := by
  have hlim : lim = 16000000 := rfl
  have e100 := pp110
  have h1 := z.len
  have h4 := z.few
  obtain ⟨U, hU⟩ : ∃ U : DS, U = sdB := ⟨_, rfl⟩
  have e : B_w_side = (sSeq (sMul [4, 5, 6] (mOwn (aLst aNil) (mOwn (aLst aNil) (mVal (eCall 2 F_w_draw (aCons (eVar 0) (aCons (eCB fLen (aCons (eVar 2) aNil)) aNil))) aNil)))) (sSeq (sNew 7 (eCBL fList (aCons (eVar 1) aNil))) (sSeq (sFor (iEnumS (aCons (eVar 2) aNil)) (gT (gCons' (gN 8) (gCons' (gN 9) gNil')) 2) U) (sFrz 5 (sFrz 4 (sRet (eTup (aCons (eCB fTuple (aCons (eVar 4) aNil)) (aCons (eCall 1 F_w_elements (aCons (eVar 5) aNil)) aNil))))))))) := by
    rw [hU]
    unfold sdB
    rfl
  have hln : ∀ w, fLen w [tpD tops] = some (.int tops.length) := fun w => by
    show some (D.int ((tops.map fun t : Nat => D.int (t : Int)).length : Nat)) = _
    rw [List.length_map]
  have hen : enmSD [tpD tops] = some (enumD (tops.map fun t : Nat => .int (t : Int))) := rfl
  have hfl : ∀ w, fList w [.lst ((zI ms).map .int)] = some ((zI ms).map .int) := fun w => rfl
  have gt : ∀ s : Sl, getS (some (tpD tops) :: s) 0 = some (tpD tops) := fun s => rfl
  unfold F_w_side
  rw [e]
  simp -implicitDefEqProofs [okE_run, List.replicate, hln, gt, hfl]
  refine draw hw (by omega) (by omega) (by omega) fun k w1 k0 k1 l1 => ?_
  obtain ⟨k, rfl⟩ := Int.eq_ofNat_of_zero_le k0
  simp -implicitDefEqProofs [hen, gt]
  refine okS_loop0 (fun i s w' => Lap (b + 1 + 9 * i) w' ∧ ∃ ps ms' t8 t9 t10 t11 t12, s = sdS (.lst ((zI ms).map .int)) (tpD tops) r ps k (zI ms') t8 t9 t10 t11 t12 ∧ ps.length = i ∧ (∀ (j : Nat) (p : Pg), ps[j]? = some p → ∃ t : Nat, tops[j]? = some t ∧ PG r t p) ∧ shp ps ++ zI ms' = zI ms ∧ (∀ m ∈ ms', m ≤ 3) ∧ ms'.length = tops.length - 1 - (if i ≤ k then i else i - 1)) ?_ ?_ ?_
  · exact ⟨l1, [], ms, none, none, none, none, none, rfl, rfl, fun j p h => by simp at h, rfl, z.ms3, by simp; omega⟩
  · rintro i d s w2 hd ⟨l2, ps, ms', t8, t9, t10, t11, t12, rfl, hi, hE, hsh, h3, hml⟩
    have : ∃ t : Nat, tops[i]? = some t ∧ d = .tup [.int i, .int (t : Int)] := by
      unfold enumD at hd
      rw [List.getElem?_map, List.getElem?_zipIdx, List.getElem?_map] at hd
      cases e : tops[i]? with
      | none => rw [e] at hd; cases hd
      | some q =>
        rw [e] at hd
        refine ⟨q, rfl, ?_⟩
        have := (Option.some.inj hd).symm
        rw [this]
        simp
    obtain ⟨t, hti, rfl⟩ := this
    have hlt : i < tops.length := (List.getElem?_eq_some_iff.mp hti).1
    have ht := z.top t (List.mem_of_getElem? hti)
    have hstep : okO (gT (gCons' (gN 8) (gCons' (gN 9) gNil')) 2 (.tup [.int (i : Nat), .int (t : Int)]) (sdS (.lst ((zI ms).map .int)) (tpD tops) r ps k (zI ms') t8 t9 t10 t11 t12)) (fun s1 => s1 = sdS (.lst ((zI ms).map .int)) (tpD tops) r ps k (zI ms') (some (.int (i : Nat))) (some (.int (t : Int))) t10 t11 t12) := by
      unfold sdS
      simp -implicitDefEqProofs
    generalize gT (gCons' (gN 8) (gCons' (gN 9) gNil')) 2 (.tup [.int (i : Nat), .int (t : Int)]) (sdS (.lst ((zI ms).map .int)) (tpD tops) r ps k (zI ms') t8 t9 t10 t11 t12) = o at hstep ⊢
    cases o with
    | none => exact hstep.elim
    | some s1 =>
      cases hstep
      rw [okO_some, hU]
      by_cases hk : i = k
      · rw [show ((i : Nat) : Int) = (k : Int) by omega]
        refine e_sdB_num (by omega) ht (by omega) l2 fun p w3 t10 hP hT l3 => ?_
        refine ⟨lap_le l3 (by omega), ps ++ [p], ms', _, _, _, _, _, rfl, by simp [hi], each_snoc hE (by rw [hi]; exact hti) hP, ?_, h3, ?_⟩
        · rw [shp_snoc, hT, if_neg (by decide), List.append_nil]
          exact hsh
        · rw [hml, if_pos (by omega), if_neg (by omega)]
          omega
      · cases ms' with
        | nil =>
          exfalso
          rw [List.length_nil] at hml
          split at hml <;> omega
        | cons n rest =>
          refine e_sdB_run (n := n) (rem := zI rest) (by omega) (h3 n List.mem_cons_self) (by omega) ht (by omega) l2 fun p w3 t11 t12 hP hT hc l3 => ?_
          refine ⟨lap_le l3 (by omega), ps ++ [p], rest, _, _, _, _, _, rfl, by simp [hi], each_snoc hE (by rw [hi]; exact hti) hP, ?_, fun m hm => h3 m (List.mem_cons_of_mem _ hm), ?_⟩
          · rw [shp_snoc, hT, if_pos rfl, hc, List.append_assoc]
            exact hsh
          · rw [List.length_cons] at hml
            split at hml <;> split <;> omega
  · rintro s w2 ⟨l2, ps, ms', t8, t9, t10, t11, t12, rfl, hi, hE, hsh, h3, hml⟩
    have hel : (enumD (tops.map fun t : Nat => D.int (t : Int))).length = tops.length := by unfold enumD; simp
    rw [hel] at l2 hi hml
    have hnil : ms' = [] := List.eq_nil_of_length_eq_zero (by rw [hml, if_neg (by omega)]; omega)
    subst hnil
    have hcn : ∀ p ∈ ps, p.cn ≤ 4 := fun p hp => by
      obtain ⟨j, hj⟩ := List.getElem?_of_mem hp
      obtain ⟨t, -, hP⟩ := hE j p hj
      exact hP.cn.2
    have hee := e_elements_of (w := w2) (by omega) hcn
    have hft : ∀ w, fTuple w [.lst (ps.map Pg.toD)] = some (secG ps) := fun w => rfl
    unfold sdS
    simp -implicitDefEqProofs [hft, hee]
    refine ⟨by omega, ps, ⟨rfl, rfl⟩, ⟨by omega, hE, ?_⟩, lap_le l2 (by omega)⟩
    rw [← hsh]
    exact (List.append_nil _).symm
end
end DL

set_option maxHeartbeats 2000000
namespace DL
open PySem PySem.Spec PyProof.Rows L2
/-! ### a number twice on the left side -/
section
variable {w : Wl} {bs : List (Int × Int)} {ps qs : List Pg} {cs : List D}
structure Sc (bs : List (Int × Int)) (ps qs : List Pg) (cs : List D) : Prop where
  b : Bds bs
  p : Sec bs ps
  q : Sec bs qs
  pc : ∀ p ∈ ps, p.cn ≤ 1000
  qc : ∀ p ∈ qs, p.cn ≤ 1000
  pt : tot ps ≠ 0 ∧ tot ps ≤ 1000000
  qt : tot qs ≠ 0 ∧ tot qs ≤ 1000000
  o : onceA ps = true
  s : shp ps = shp qs
  l : (cs.length : Int) = szB bs
  l5 : szB bs ≤ 5000
  l1 : 1 ≤ szB bs
  mc : ∀ d ∈ cs, MC d
def dueL (bs : List (Int × Int)) (ps qs : List Pg) (cs : List D) : List D := duA cs ((plN bs ps).zip (plN bs qs)) cs
theorem Sc.done (k : Sc bs ps qs cs) : F_done [bD bs, secG ps, secG qs, .lst cs] w = .ok (.nl (dueL bs ps qs cs)) w := e_done k.b k.p k.q k.pc k.qc k.pt.2 k.qt.2 k.o k.s k.l k.l5
theorem innA_tw : ∀ {bs : List (Int × Int)} {ps : List Pg} {i : Nat} {xs : List Int}, InnA bs ps → ps[i]? = some (.lst xs) → InnA bs (ps.set i (.lst (tw xs)))
  | [], [], _, _, _, h => by simp at h
  | d :: bs, p :: ps, 0, xs, h, e => by
    simp at e
    subst e
    refine ⟨fun x hx => h.1 x ?_, h.2⟩
    rw [Pg.sb_lst] at hx ⊢
    exact tw_mem hx
  | d :: bs, p :: ps, i + 1, xs, h, e => ⟨h.1, innA_tw h.2 (by simpa using e)⟩
theorem sec_tw {i : Nat} {xs : List Int} (h : Sec bs ps) (ht : tot ps ≠ 0) (e : ps[i]? = some (.lst xs)) (h1 : 1 < xs.length) : Sec bs (ps.set i (.lst (tw xs))) ∧ onceA (ps.set i (.lst (tw xs))) = false := by
  have hi : i < ps.length := (List.getElem?_eq_some_iff.mp e).1
  have hm : Pg.lst xs ∈ ps := List.mem_of_getElem? e
  have hne : xs ≠ [] := fun z => by rw [z] at h1; simp at h1
  have hl := tw_len hne
  have hG : Gq (.lst (tw xs)) := by
    have := h.ok _ hm
    cases this with
    | lst a f => exact .lst (by omega) fun x hx => f x (tw_mem hx)
  have ht2 : tot (ps.set i (.lst (tw xs))) ≠ 0 := fun z => by
    obtain ⟨p, hp, h0⟩ := tot_zero.mp z
    rcases List.mem_or_eq_of_mem_set hp with h2 | h2
    · have := tot_ne ht p h2
      omega
    · subst h2
      have e : (Pg.lst (tw xs)).cn = ((tw xs).length : Int) := rfl
      omega
  refine ⟨⟨by rw [List.length_set]; exact h.len, h.few, fun p hp => ?_, fun _ => innA_tw (h.inn ht) e⟩, ?_⟩
  · rcases List.mem_or_eq_of_mem_set hp with h2 | h2
    · exact h.ok p h2
    · subst h2
      exact hG
  · unfold onceA
    rw [decide_eq_false ht2, Bool.false_or]
    have hon : (Pg.lst (tw xs)).once = false := by
      unfold Pg.once
      exact decide_eq_false fun z => tw_twice h1 (dist_nodup z)
    have hmem : (Pg.lst (tw xs)).once ∈ (ps.set i (.lst (tw xs))).map Pg.once := List.mem_map_of_mem (List.mem_set hi _)
    rw [hon] at hmem
    cases hz : ((ps.set i (.lst (tw xs))).map Pg.once).all id with
    | false => rfl
    | true =>
      have := List.all_eq_true.mp hz _ hmem
      exact absurd this (by decide)
theorem call4 {F : DF} {A B C E : DE} {s : Sl} {a b c e : D} (ha : A s w = .ok a w) (hb : B s w = .ok b w) (hc : C s w = .ok c w) (he : E s w = .ok e w) : eCall 4 F (aCons A (aCons B (aCons C (aCons E aNil)))) s w = F [a, b, c, e] w := by
  unfold eCall
  simp only [aCons, aNil, ha, hb, hc, he, R.bind_ok]
  rfl
theorem try_twice {E : DE} {i : Nat} {s : Sl} {N : Sl → Wl → Prop} {Z : D → Wl → Prop} (h : E s w = .er ⟨"InvalidSection", [("part", .str "twice")]⟩ w) (hi : i < s.length) (q : Z (.bl true) w) : okS (sTryEq i (sDrop (eWk E)) "InvalidSection" "twice" s w) N Z := by
  have e : sDrop (eWk E) s w = .er ⟨"InvalidSection", [("part", .str "twice")]⟩ s w := by
    unfold sDrop eWk
    rw [h]
  unfold sTryEq
  rw [e]
  dsimp only
  rw [if_pos ⟨rfl, rfl, hi⟩, okS_rt]
  simpa using q
@[irreducible] def rtV : DS := (sSeq (sFor (iEnumS (aCons (eVar 4) aNil)) (gT (gCons' (gN 1) (gCons' (gN 17) gNil')) 2) (sIf (tAn (tTr (eCB fIsi (aCons (eVar 17) (aCons (eC (.ty "list")) aNil)))) (tE (eBin fGt (eCB fLen (aCons (eVar 17) aNil)) (eC (.int 1))))) (sSeq (sAsg 18 (eBin fAdd (eBin fAdd (eSl (eVar 4) oNone (oSome (eVar 1))) (eTup (aCons (eBin fAdd (eSl (eVar 17) oNone (oSome (eUn fNeg (eC (.int 1))))) (eSl (eVar 17) oNone (oSome (eC (.int 1))))) aNil))) (eSl (eVar 4) (oSome (eBin fAdd (eVar 1) (eC (.int 1)))) oNone))) (sSeq (sTryEq 19 (sDrop (eWk (eCall 4 F_done (aCons (eVar 9) (aCons (eVar 18) (aCons (eVar 6) (aCons (eC .non) aNil))))))) "InvalidSection" "twice") (sRet (eC (.bl false))))) sNx)) (sRet (eC (.bl true))))
def rtS (t1 : Option D) (A2 A3 A5 A7 : D) (t8 : Option D) (bs : List (Int × Int)) (ps qs : List Pg) (t10 t11 t12 t13 t14 t15 t16 t17 t18 t19 : Option D) : Sl := [some .well, t1, some A2, some A3, some (secG ps), some A5, some (secG qs), some A7, t8, some (bD bs), t10, t11, t12, t13, t14, t15, t16, t17, t18, t19]
theorem e_rtV {t1 t8 t10 t11 t12 t13 t14 t15 t16 t17 t18 t19 : Option D} {A2 A3 A5 A7 : D} {N : Sl → Wl → Prop} (hb : Bds bs) (hp : Sec bs ps) (hq : Sec bs qs) (ht : tot ps ≠ 0) :
    okS (rtV (rtS t1 A2 A3 A5 A7 t8 bs ps qs t10 t11 t12 t13 t14 t15 t16 t17 t18 t19) w) N fun d w' => d = .bl true ∧ w' = w := by
  have hlim : lim = 16000000 := rfl
  have hl1 : (1 : Nat) ≤ lim := by decide
  have p7 : ps.length ≤ 7 := by rw [hp.len]; exact hp.few
  have hen : enmSD [secG ps] = some (enumD (ps.map Pg.toD)) := rfl
  have gs : ∀ s : Sl, getS (some (secG ps) :: s) 0 = some (secG ps) := fun s => rfl
  have gp : ∀ (x : Pg) (s : Sl), getS (some x.toD :: s) 0 = some x.toD := fun x s => getS_pg
  unfold rtV
  refine okS_then (fun s1 w1 => w1 = w) ?_ ?_
  · unfold rtS
    simp -implicitDefEqProofs [hen, gs]
    refine okS_loop0 (fun i s w' => w' = w ∧ ∃ t1 t17 t18 t19, s = rtS t1 A2 A3 A5 A7 t8 bs ps qs t10 t11 t12 t13 t14 t15 t16 t17 t18 t19) ⟨rfl, t1, t17, t18, t19, rfl⟩ ?_ (fun s w' h => h.1)
    rintro i d s w2 hd ⟨rfl, t1, t17, t18, t19, rfl⟩
    have : ∃ p, ps[i]? = some p ∧ d = .tup [.int i, p.toD] := by
      unfold enumD at hd
      rw [List.getElem?_map, List.getElem?_zipIdx, List.getElem?_map] at hd
      cases e : ps[i]? with
      | none => rw [e] at hd; cases hd
      | some q =>
        rw [e] at hd
        refine ⟨q, rfl, ?_⟩
        have := (Option.some.inj hd).symm
        rw [this]
        simp
    obtain ⟨p, hpi, rfl⟩ := this
    have hi : i < ps.length := (List.getElem?_eq_some_iff.mp hpi).1
    cases p with
    | num a =>
      have h1 : fIsi w2 [Pg.toD (.num a), .ty "list"] = some (.bl false) := rfl
      unfold rtS
      simp -implicitDefEqProofs [gp, h1]
    | tri a c z =>
      have h1 : fIsi w2 [Pg.toD (.tri a c z), .ty "list"] = some (.bl false) := rfl
      unfold rtS
      simp -implicitDefEqProofs [gp, h1]
    | lst xs =>
      have ep : Pg.toD (.lst xs) = .lst (xs.map .int) := rfl
      by_cases hx : 1 < xs.length
      · have hne : xs ≠ [] := fun z => by rw [z] at hx; simp at hx
        obtain ⟨hS, hO⟩ := sec_tw hp ht hpi hx
        have hx64 : xs.length ≤ 64 := by
          have := hp.ok _ (List.mem_of_getElem? hpi)
          cases this with
          | lst a f => exact a
        have c1 := v_tw hne
        have len1 : (cutD (xs.map D.int) none (some (-1))).length + (cutD (xs.map D.int) none (some 1)).length ≤ lim := by
          rw [← List.length_append, c1, List.length_map, tw_len hne]
          omega
        have c2 : cutD (ps.map Pg.toD) none (some (i : Int)) = (ps.map Pg.toD).take i := cut_to
        have c3 : cutD (ps.map Pg.toD) (some ((i : Int) + 1)) none = (ps.map Pg.toD).drop (i + 1) := cut_from (k := i + 1) (by rw [List.length_map]; omega)
        have e3 : ∀ w, fAdd w (.tup ((ps.map Pg.toD).take i)) (.tup [.lst ((tw xs).map .int)]) = some (.tup ((ps.map Pg.toD).take i ++ [.lst ((tw xs).map .int)])) := fun w => by
          show (if _ then some (D.tup _) else none) = _
          rw [if_pos (by simp; omega)]
        have e4 : ∀ w, fAdd w (.tup ((ps.map Pg.toD).take i ++ [.lst ((tw xs).map .int)])) (.tup ((ps.map Pg.toD).drop (i + 1))) = some (secG (ps.set i (.lst (tw xs)))) := fun w => by
          show (if _ then some (D.tup _) else none) = _
          rw [if_pos (by simp; omega)]
          unfold secG
          rw [List.map_set, List.set_eq_take_append_cons_drop, if_pos (by rw [List.length_map]; exact hi), List.append_assoc]
          rfl
        have e5 : cutD [D.tup []] none none = [D.tup []] := rfl
        have sL : seqD (secG ps) = some (true, ps.map Pg.toD) := rfl
        have gs2 : ∀ (s : Sl) {Q : D → Wl → Prop} {w : Wl}, (match secG ps with
            | .lst xs => Q (.lst (cutD xs none (some (i : Int)))) w
            | .tup xs => Q (.tup (cutD xs none (some (i : Int)))) w
            | _ => False) = Q (.tup (cutD (ps.map Pg.toD) none (some (i : Int)))) w := fun s Q w => rfl
        rw [ep]
        unfold rtS
        simp -implicitDefEqProofs only [v_gT, v_gCons, v_gNil, v_gN, okO_some, List.length_cons, List.length_nil, List.set_cons_zero, List.set_cons_succ, true_and]
        have htest : (tAn (tTr (eCB fIsi (aCons (eVar 17) (aCons (eC (.ty "list")) aNil)))) (tE (eBin fGt (eCB fLen (aCons (eVar 17) aNil)) (eC (.int 1)))) : DT) [some .well, some (.int (i : Nat)), some A2, some A3, some (secG ps), some A5, some (secG qs), some A7, t8, some (bD bs), t10, t11, t12, t13, t14, t15, t16, some (.lst (xs.map .int)), t18, t19] w2 = .ok true w2 := by
          apply okE_eq
          simp -implicitDefEqProofs
          omega
        rw [okS_if, htest, okE_ok, if_pos rfl]
        have hasg : ∀ {N : Sl → Wl → Prop} {Z : D → Wl → Prop}, N [some .well, some (.int (i : Nat)), some A2, some A3, some (secG ps), some A5, some (secG qs), some A7, t8, some (bD bs), t10, t11, t12, t13, t14, t15, t16, some (.lst (xs.map .int)), some (secG (ps.set i (.lst (tw xs)))), t19] w2 → okS ((sAsg 18 (eBin fAdd (eBin fAdd (eSl (eVar 4) oNone (oSome (eVar 1))) (eTup (aCons (eBin fAdd (eSl (eVar 17) oNone (oSome (eUn fNeg (eC (.int 1))))) (eSl (eVar 17) oNone (oSome (eC (.int 1))))) aNil))) (eSl (eVar 4) (oSome (eBin fAdd (eVar 1) (eC (.int 1)))) oNone))) [some .well, some (.int (i : Nat)), some A2, some A3, some (secG ps), some A5, some (secG qs), some A7, t8, some (bD bs), t10, t11, t12, t13, t14, t15, t16, some (.lst (xs.map .int)), t18, t19] w2) N Z := by
          intro N Z h
          have es : secG ps = .tup (ps.map Pg.toD) := rfl
          rw [okS_asg]
          rw [es] at h ⊢
          simp -implicitDefEqProofs [len1, c1, hl1, c2, c3, -v_addT, e3, e4]
          exact h
        rw [okS_seq]
        refine hasg ?_
        rw [okS_seq]
        refine try_twice ?_ (by simp) ⟨rfl, rfl⟩
        rw [call4 (a := bD bs) (b := secG (ps.set i (.lst (tw xs)))) (c := secG qs) (e := .non) rfl rfl rfl rfl]
        exact e_twice hb hS hq hO
      · have hx : ¬ (1 : Int) < (xs.length : Int) := by omega
        rw [ep]
        unfold rtS
        simp -implicitDefEqProofs [hx]
  · rintro s1 w1 rfl
    simp -implicitDefEqProofs
end
end DL

set_option maxHeartbeats 2000000
namespace DL
open PySem PySem.Spec PyProof.Rows L2
/-! ### what is told, and what is due -/
section
variable {w : Wl} {bs : List (Int × Int)} {ps qs : List Pg} {cs : List D}
theorem nlFrees_of : ∀ {l : List D}, (∀ x ∈ l, nlFree x = true) → nlFrees l = true
  | [], _ => by simp [nlFrees]
  | x :: l, h => by
    unfold nlFrees
    rw [h x List.mem_cons_self, nlFrees_of fun y hy => h y (List.mem_cons_of_mem _ hy)]
    rfl
theorem nlFrees_map {α : Type} {f : α → D} {l : List α} (h : ∀ x ∈ l, nlFree (f x) = true) : nlFrees (l.map f) = true := nlFrees_of fun x hx => by
  obtain ⟨y, hy, rfl⟩ := List.mem_map.mp hx
  exact h y hy
theorem nl_ints {xs : List Int} : nlFrees (xs.map .int) = true := nlFrees_map fun _ _ => by simp [nlFree]
theorem nl_eD {xs : List Int} : nlFree (eD xs) = true := by
  unfold eD nlFree
  exact nl_ints
theorem nl_bD : nlFree (bD bs) = true := by
  unfold bD nlFree
  exact nlFrees_map fun _ _ => by simp [pD, nlFree, nlFrees]
theorem nl_sec : nlFree (secG ps) = true := by
  unfold secG nlFree
  refine nlFrees_map fun p _ => ?_
  cases p with
  | num a => simp [Pg.toD, nlFree]
  | tri a b c => simp [Pg.toD, nlFree, nlFrees]
  | lst xs => show nlFree (.lst (xs.map .int)) = true; unfold nlFree; exact nl_ints
theorem nl_rows {rs : List (List Int)} : nlFree (.lst (rs.map eD)) = true := by
  unfold nlFree
  exact nlFrees_map fun _ _ => nl_eD
theorem nl_mc {L : List D} (h : ∀ d ∈ L, MC d) : nlFrees L = true := nlFrees_of fun x hx => by
  obtain ⟨k, -, h⟩ := h x hx
  rcases h with rfl | rfl | rfl | rfl | rfl <;> simp [nlFree, nlFrees]
theorem due_loop {t1 t8 t10 t13 t16 t17 t18 t19 : Option D} {A2 A3 A5 A7 : D} {N : Sl → Wl → Prop} {Z : D → Wl → Prop} (hb : Bw bs) (hl : (cs.length : Int) = szB bs) : ∀ (L : List (List Int × List Int)) (c : List D) (t14 t15 : Option D), (∀ x ∈ L, El bs x.1 ∧ El bs x.2) → c.length = cs.length → nlFreeO t14 = true → nlFreeO t15 = true →
    (∀ t14 t15, nlFreeO t14 = true → nlFreeO t15 = true → N (rtS t1 A2 A3 A5 A7 t8 bs ps qs t10 (some (.lst cs)) (some (.own (duA cs (L.map fun x => ((place bs x.1).toNat, (place bs x.2).toNat)) c))) t13 t14 t15 t16 t17 t18 t19) w) →
    okS (loopD (gT (gCons' (gN 14) (gCons' (gN 15) gNil')) 2) (sSetO 12 (eCall 2 F_w_place (aCons (eVar 9) (aCons (eVar 14) aNil))) (eBin fIx (eVar 11) (eCall 2 F_w_place (aCons (eVar 9) (aCons (eVar 15) aNil))))) (L.map fun x => D.tup [eD x.1, eD x.2]) (rtS t1 A2 A3 A5 A7 t8 bs ps qs t10 (some (.lst cs)) (some (.own c)) t13 t14 t15 t16 t17 t18 t19) w) N Z
  | [], c, t14, t15, _, _, n1, n2, q => q t14 t15 n1 n2
  | x :: L, c, t14, t15, h, hc, n1, n2, q => by
    obtain ⟨h1, h2⟩ := h x List.mem_cons_self
    have r1 := place_range h1
    have r2 := place_range h2
    have e1 := e_w_place (w := w) hb h1
    have e2 := e_w_place (w := w) hb h2
    unfold szB at hl
    obtain ⟨j1, hj1⟩ := Int.eq_ofNat_of_zero_le r1.1
    obtain ⟨j2, hj2⟩ := Int.eq_ofNat_of_zero_le r2.1
    rw [hj1] at r1 e1
    rw [hj2] at r2 e2
    have b1 : j1 < c.length := by omega
    have b2 : j2 < cs.length := by omega
    have hi : atI cs (j2 : Int) = some (cs[j2]?.getD .non) := atI_nat (by rw [List.getElem?_eq_getElem b2]; rfl)
    have hs := setAt_nat (xs := c) (v := cs[j2]?.getD .non) b1
    have ih := due_loop (t1 := t1) (t8 := t8) (t10 := t10) (t13 := t13) (t16 := t16) (t17 := t17) (t18 := t18) (t19 := t19) (A2 := A2) (A3 := A3) (A5 := A5) (A7 := A7) (N := N) (Z := Z) hb (by unfold szB; exact hl) L (c.set j1 (cs[j2]?.getD .non)) (some (eD x.1)) (some (eD x.2)) (fun y hy => h y (List.mem_cons_of_mem _ hy)) (by rw [List.length_set]; exact hc) nl_eD nl_eD (fun t14 t15 m1 m2 => by
      have := q t14 t15 m1 m2
      rw [List.map_cons, duA, hj1, hj2] at this
      exact this)
    have ge : ∀ (x : List Int) (s : Sl), getS (some (eD x) :: s) 0 = some (eD x) := fun _ _ => rfl
    have gb : ∀ (s : Sl), getS (some (bD bs) :: s) 0 = some (bD bs) := fun _ => rfl
    rw [List.map_cons]
    refine okS_cons ?_
    unfold rtS at ih ⊢
    simp -implicitDefEqProofs only [v_gT, v_gCons, v_gNil, v_gN, okO_some, List.length_cons, List.length_nil, List.set_cons_zero, List.set_cons_succ, true_and]
    simp -implicitDefEqProofs [ge, gb, e1, e2, hi, hs]
    exact ih
@[irreducible] def rtT : DS := (sSeq (sMul [12, 13] (mOwn (eCBL fList (aCons (eVar 11) aNil)) (mVal (eCB fRepr (aCons (eVar 11) aNil)) aNil))) (sSeq (sFor (iZip (aCons (eVar 5) (aCons (eVar 7) aNil))) (gT (gCons' (gN 14) (gCons' (gN 15) gNil')) 2) (sSetO 12 (eCall 2 F_w_place (aCons (eVar 9) (aCons (eVar 14) aNil))) (eBin fIx (eVar 11) (eCall 2 F_w_place (aCons (eVar 9) (aCons (eVar 15) aNil)))))) (sSeq (sNew 16 (aNewA (eCall 4 F_done (aCons (eVar 9) (aCons (eVar 4) (aCons (eVar 6) (aCons (eVar 11) aNil))))))) (sFrz 12 (sSeq (sIf (lendT 16 (tOn (tE (eBin fNe (eVar 16) (eVar 12))) (tE (eBin fNe (eCB fRepr (aCons (eVar 11) aNil)) (eVar 13))))) (sRet (eC (.bl false))) sNx) (sSeq (sClr 16) (sSeq (sIf (tOn (tE (eBin fNe (eWk (eCall 4 F_done (aCons (eVar 9) (aCons (eVar 4) (aCons (eVar 6) (aCons (eVar 11) aNil)))))) (eVar 12))) (tE (eBin fNe (eCB fRepr (aCons (eVar 11) aNil)) (eVar 13)))) (sRet (eC (.bl false))) sNx) rtV)))))))
theorem Sc.els (k : Sc bs ps qs cs) : (∀ x ∈ (els ps).zip (els qs), El bs x.1 ∧ El bs x.2) ∧ ((els ps).zip (els qs)).map (fun x => ((place bs x.1).toNat, (place bs x.2).toNat)) = (plN bs ps).zip (plN bs qs) := by
  refine ⟨fun x hx => ⟨els_el (k.p.inn k.pt.1) (List.of_mem_zip hx).1, els_el (k.q.inn k.qt.1) (List.of_mem_zip hx).2⟩, ?_⟩
  unfold plN
  rw [if_neg k.pt.1, if_neg k.qt.1, List.zip_map]
  rfl
theorem Sc.mcd (k : Sc bs ps qs cs) : (∀ d ∈ dueL bs ps qs cs, MC d) ∧ (dueL bs ps qs cs).length = cs.length := ⟨mc_dua k.mc k.mc, duA_len⟩
theorem e_rtT {t1 t8 t10 : Option D} {A2 A3 : D} {N : Sl → Wl → Prop} (k : Sc bs ps qs cs) (n1 : nlFreeO t1 = true) (n2 : nlFreeO (some A2) = true) (n3 : nlFreeO (some A3) = true) (n8 : nlFreeO t8 = true) (n10 : nlFreeO t10 = true) :
    okS (rtT (rtS t1 A2 A3 (.lst ((els ps).map eD)) (.lst ((els qs).map eD)) t8 bs ps qs t10 (some (.lst cs)) none none none none none none none none) w) N fun d w' => d = .bl true ∧ w' = w := by
  have hlim : lim = 16000000 := rfl
  obtain ⟨kE, kM⟩ := k.els
  obtain ⟨mD, lD⟩ := k.mcd
  have kd : ∀ w, F_done [bD bs, secG ps, secG qs, .lst cs] w = .ok (.nl (dueL bs ps qs cs)) w := fun w => k.done
  have e5 := k.l5
  have e1 := k.l1
  have el := k.l
  have hcs : cs.length ≤ 30000 := by omega
  have kr : ∀ w, fRepr w [.lst cs] = some (.str (rpML cs)) := repr_ml k.mc hcs
  have kdo : okD (.lst (dueL bs ps qs cs)) = true := okD_ml mD
  have kde : eqD (.lst (dueL bs ps qs cs)) (.lst (dueL bs ps qs cs)) = true := eqD_ml mD
  have kro : okD (.str (rpML cs)) = true := okD_rp k.mc
  have kre : eqD (.str (rpML cs)) (.str (rpML cs)) = true := eqD_self_str
  have eV : ∃ V : DS, V = rtV ∧ ∀ {t1 t8 t10 t11 t12 t13 t14 t15 t16 t17 t18 t19 : Option D} {A2 A3 A5 A7 : D} {N : Sl → Wl → Prop} {w : Wl}, okS (V (rtS t1 A2 A3 A5 A7 t8 bs ps qs t10 t11 t12 t13 t14 t15 t16 t17 t18 t19) w) N fun d w' => d = .bl true ∧ w' = w := ⟨rtV, rfl, e_rtV k.b k.p k.q k.pt.1⟩
  obtain ⟨V, hV, eV⟩ := eV
  have hfl : ∀ w, fList w [.lst cs] = some cs := fun w => rfl
  have hz : zip2D [.lst ((els ps).map eD), .lst ((els qs).map eD)] = some (((els ps).zip (els qs)).map fun x => D.tup [eD x.1, eD x.2]) := by
    show some (zipD _ _) = _
    rw [zipD_maps]
  unfold rtT
  rw [← hV]
  refine okS_then (fun s1 w1 => w1 = w ∧ s1 = rtS t1 A2 A3 (.lst ((els ps).map eD)) (.lst ((els qs).map eD)) t8 bs ps qs t10 (some (.lst cs)) (some (.own cs)) (some (.str (rpML cs))) none none none none none none) ?_ ?_
  · unfold rtS
    simp -implicitDefEqProofs [kr]
  rintro s1 w1 ⟨rfl, rfl⟩
  refine okS_then (fun s1 w2 => w2 = w1 ∧ ∃ t14 t15, nlFreeO t14 = true ∧ nlFreeO t15 = true ∧ s1 = rtS t1 A2 A3 (.lst ((els ps).map eD)) (.lst ((els qs).map eD)) t8 bs ps qs t10 (some (.lst cs)) (some (.own (dueL bs ps qs cs))) (some (.str (rpML cs))) t14 t15 none none none none) ?_ ?_
  · rw [okS_for]
    have : iZip (aCons (eVar 5) (aCons (eVar 7) aNil)) (rtS t1 A2 A3 (.lst ((els ps).map eD)) (.lst ((els qs).map eD)) t8 bs ps qs t10 (some (.lst cs)) (some (.own cs)) (some (.str (rpML cs))) none none none none none none) w1 = .ok (((els ps).zip (els qs)).map fun x => D.tup [eD x.1, eD x.2]) w1 := by
      apply okE_eq
      unfold rtS
      rw [okI_zip]
      simp -implicitDefEqProofs only [okE_cons, okE_nil, okE_var, getS_succ, getS_lst, okO_some, hz, and_self]
    rw [this, okE_ok]
    refine due_loop k.b.wide el _ _ none none kE rfl rfl rfl fun t14 t15 m1 m2 => ⟨rfl, t14, t15, m1, m2, ?_⟩
    rw [kM]
    rfl
  rintro s1 w1 ⟨rfl, t14, t15, m1, m2, rfl⟩
  have hn : (rtS t1 A2 A3 (.lst ((els ps).map eD)) (.lst ((els qs).map eD)) t8 bs ps qs t10 (some (.lst cs)) (some (.own (dueL bs ps qs cs))) (some (.str (rpML cs))) t14 t15 none none none none).all nlFreeO = true := by
    have a1 : ∀ ps : List Pg, nlFreeO (some (secG ps)) = true := fun ps => nl_sec (ps := ps)
    have a2 : ∀ rs : List (List Int), nlFreeO (some (.lst (rs.map eD))) = true := fun rs => nl_rows (rs := rs)
    have a3 : nlFreeO (some (bD bs)) = true := nl_bD
    have a4 : nlFreeO (some (.lst cs)) = true := by
      show nlFree (.lst cs) = true
      unfold nlFree
      exact nl_mc k.mc
    have a5 : nlFreeO (some (.own (dueL bs ps qs cs))) = true := nl_mc mD
    have a6 : nlFreeO (some A2) = true := n2
    have a7 : nlFreeO (some A3) = true := n3
    have a8 : nlFreeO (some .well) = true := by decide
    have a9 : nlFreeO none = true := by decide
    have a10 : nlFreeO (some (.str (rpML cs))) = true := rfl
    unfold rtS
    simp -implicitDefEqProofs only [List.all_cons, List.all_nil, a1, a2, a3, a4, a5, a6, a7, a8, a9, a10, n1, n8, n10, m1, m2, Bool.and_self]
  refine okS_then (fun s1 w2 => w2 = w1 ∧ s1 = rtS t1 A2 A3 (.lst ((els ps).map eD)) (.lst ((els qs).map eD)) t8 bs ps qs t10 (some (.lst cs)) (some (.own (dueL bs ps qs cs))) (some (.str (rpML cs))) t14 t15 (some (.own (dueL bs ps qs cs))) none none none) ?_ ?_
  · rw [okS_new]
    refine okE_newA hn ?_
    rw [call4 (a := bD bs) (b := secG ps) (c := secG qs) (e := .lst cs) rfl rfl rfl rfl, kd, okE_ok]
    exact ⟨_, rfl, (ML_of mD).pl, rfl, rfl⟩
  rintro s1 w1 ⟨rfl, rfl⟩
  rw [okS_frz]
  have hfr : frzS 12 (rtS t1 A2 A3 (.lst ((els ps).map eD)) (.lst ((els qs).map eD)) t8 bs ps qs t10 (some (.lst cs)) (some (.own (dueL bs ps qs cs))) (some (.str (rpML cs))) t14 t15 (some (.own (dueL bs ps qs cs))) none none none) = rtS t1 A2 A3 (.lst ((els ps).map eD)) (.lst ((els qs).map eD)) t8 bs ps qs t10 (some (.lst cs)) (some (.lst (dueL bs ps qs cs))) (some (.str (rpML cs))) t14 t15 (some (.own (dueL bs ps qs cs))) none none none := rfl
  rw [hfr]
  obtain ⟨y, ys, hy⟩ : ∃ y ys, dueL bs ps qs cs = y :: ys := by
    cases e : dueL bs ps qs cs with
    | nil => rw [e] at lD; simp at lD; omega
    | cons y ys => exact ⟨y, ys, rfl⟩
  refine okS_then (fun s1 w2 => w2 = w1 ∧ s1 = rtS t1 A2 A3 (.lst ((els ps).map eD)) (.lst ((els qs).map eD)) t8 bs ps qs t10 (some (.lst cs)) (some (.lst (dueL bs ps qs cs))) (some (.str (rpML cs))) t14 t15 (some (.own (dueL bs ps qs cs))) none none none) ?_ ?_
  · rw [okS_if, okT_lend (y := y) (ys := ys) (by rw [hy]; rfl), ← hy]
    unfold rtS
    simp -implicitDefEqProofs [kr, kdo, kde, kro, kre]
  rintro s1 w1 ⟨rfl, rfl⟩
  refine okS_then (fun s1 w2 => w2 = w1 ∧ s1 = rtS t1 A2 A3 (.lst ((els ps).map eD)) (.lst ((els qs).map eD)) t8 bs ps qs t10 (some (.lst cs)) (some (.lst (dueL bs ps qs cs))) (some (.str (rpML cs))) t14 t15 (some (.own [])) none none none) ⟨rfl, rfl⟩ ?_
  rintro s1 w1 ⟨rfl, rfl⟩
  refine okS_then (fun s1 w2 => w2 = w1 ∧ s1 = rtS t1 A2 A3 (.lst ((els ps).map eD)) (.lst ((els qs).map eD)) t8 bs ps qs t10 (some (.lst cs)) (some (.lst (dueL bs ps qs cs))) (some (.str (rpML cs))) t14 t15 (some (.own [])) none none none) ?_ ?_
  · have hwk := wk_ok (E := (eCall 4 F_done (aCons (eVar 9) (aCons (eVar 4) (aCons (eVar 6) (aCons (eVar 11) aNil)))))) (s := rtS t1 A2 A3 (.lst ((els ps).map eD)) (.lst ((els qs).map eD)) t8 bs ps qs t10 (some (.lst cs)) (some (.lst (dueL bs ps qs cs))) (some (.str (rpML cs))) t14 t15 (some (.own [])) none none none) (w := w1) (w1 := w1) (xs := dueL bs ps qs cs) (by
      rw [call4 (a := bD bs) (b := secG ps) (c := secG qs) (e := .lst cs) rfl rfl rfl rfl, kd])
    rw [okS_if, okT_on, okT_e, okE_bin, hwk, okE_ok]
    unfold rtS
    simp -implicitDefEqProofs [kr, kdo, kde, kro, kre]
  rintro s1 w1 ⟨rfl, rfl⟩
  exact eV
end
end DL

set_option maxHeartbeats 2000000
namespace DL
open PySem PySem.Spec PyProof.Rows L2
/-! ### what is drawn -/
section
variable {w : Wl} {b : Nat} {tops ms : List Nat} {ps qs : List Pg} {r : Bool} {cs : List D}
def bsT (tops : List Nat) : List (Int × Int) := tops.map fun t : Nat => (1, (t : Int))
theorem ext_t {t : Nat} (h : 4 ≤ t ∧ t ≤ 6) : ext (1, (t : Int)) = t := by
  unfold ext
  dsimp only
  rw [if_pos (by omega)]
  omega
theorem prod_tops : ∀ {tops : List Nat}, (∀ t ∈ tops, 4 ≤ t ∧ t ≤ 6) → prod ((bsT tops).map ext) = prod (tops.map fun t : Nat => (t : Int)) ∧ 1 ≤ prod ((bsT tops).map ext) ∧ prod ((bsT tops).map ext) ≤ 6 ^ tops.length
  | [], _ => ⟨rfl, by decide, by decide⟩
  | t :: r, h => by
    have ht := h t List.mem_cons_self
    obtain ⟨i1, i2, i3⟩ := prod_tops (tops := r) fun x hx => h x (List.mem_cons_of_mem _ hx)
    have e : prod ((bsT (t :: r)).map ext) = (t : Int) * prod ((bsT r).map ext) := by
      show ext (1, (t : Int)) * prod ((bsT r).map ext) = _
      rw [ext_t ht]
    rw [e]
    refine ⟨by rw [i1]; rfl, ?_, ?_⟩
    · have := Int.mul_le_mul (show (1 : Int) ≤ t by omega) i2 (by decide) (by omega)
      omega
    · rw [List.length_cons, Int.pow_succ, Int.mul_comm]
      exact Int.mul_le_mul i3 (by omega) (by omega) (by omega)
theorem pow4 {n : Nat} (h : n ≤ 4) : (6 : Int) ^ n ≤ 1296 := by
  have : n = 0 ∨ n = 1 ∨ n = 2 ∨ n = 3 ∨ n = 4 := by omega
  rcases this with rfl | rfl | rfl | rfl | rfl <;> decide
theorem bds_t (z : Szs tops ms) : Bds (bsT tops) := by
  have h1 := z.len
  have h4 := z.few
  refine ⟨by unfold bsT; rw [List.length_map]; omega, by unfold bsT; rw [List.length_map]; omega, fun p hp => ?_⟩
  obtain ⟨t, ht, rfl⟩ := List.mem_map.mp hp
  have := z.top t ht
  rw [inR_iff, inR_iff]
  simp only [FAR]
  omega
theorem innA_of : ∀ {tops : List Nat} {ps : List Pg}, ps.length = tops.length → (∀ (j : Nat) (p : Pg), ps[j]? = some p → ∃ t : Nat, tops[j]? = some t ∧ PG r t p) → InnA (bsT tops) ps
  | [], [], _, _ => True.intro
  | [], _ :: _, h, _ => by simp at h
  | _ :: _, [], h, _ => by simp at h
  | t :: tops, p :: ps, h, hE => by
    refine ⟨?_, innA_of (by simpa using h) fun j q hq => ?_⟩
    · obtain ⟨t', e, hP⟩ := hE 0 p rfl
      cases e
      exact hP.inn
    · obtain ⟨t', e, hP⟩ := hE (j + 1) q (by simpa using hq)
      exact ⟨t', by simpa using e, hP⟩
theorem Side.mem (h : Side tops ms r ps) {p : Pg} (hp : p ∈ ps) : ∃ t : Nat, PG r t p := by
  obtain ⟨j, hj⟩ := List.getElem?_of_mem hp
  obtain ⟨t, -, hP⟩ := h.each j p hj
  exact ⟨t, hP⟩
theorem Side.tot (z : Szs tops ms) (h : Side tops ms r ps) : tot ps ≠ 0 ∧ tot ps ≤ 1000000 := by
  have h4 := z.few
  have hl := h.len
  refine ⟨fun e => ?_, ?_⟩
  · obtain ⟨p, hp, h0⟩ := tot_zero.mp e
    obtain ⟨t, hP⟩ := h.mem hp
    have := hP.cn.1
    omega
  · rw [← els_len, els_elsL]
    have := elsL_few (A := ps.map Pg.sb) fun s hs => by
      obtain ⟨p, hp, rfl⟩ := List.mem_map.mp hs
      obtain ⟨t, hP⟩ := h.mem hp
      exact sb_few hP.cn.2
    have h5 : 4 ^ (ps.map Pg.sb).length ≤ 4 ^ 4 := Nat.pow_le_pow_right (by decide) (by rw [List.length_map]; omega)
    have e4 : (4 : Nat) ^ 4 = 256 := by decide
    omega
theorem Side.sec (z : Szs tops ms) (h : Side tops ms r ps) : Sec (bsT tops) ps := by
  have h4 := z.few
  refine ⟨by unfold bsT; rw [List.length_map]; exact h.len, by unfold bsT; rw [List.length_map]; omega, fun p hp => ?_, fun _ => innA_of h.len h.each⟩
  obtain ⟨t, hP⟩ := h.mem hp
  exact hP.ok
theorem Side.few (h : Side tops ms r ps) : ∀ p ∈ ps, p.cn ≤ 1000 := fun p hp => by
  obtain ⟨t, hP⟩ := h.mem hp
  have := hP.cn.2
  omega
theorem Side.onceA (h : Side tops ms false ps) : onceA ps = true := by
  unfold DL.onceA
  rw [Bool.or_eq_true]
  refine .inr (List.all_eq_true.mpr fun x hx => ?_)
  obtain ⟨p, hp, rfl⟩ := List.mem_map.mp hx
  obtain ⟨t, hP⟩ := h.mem hp
  exact hP.once rfl
theorem sc_of (z : Szs tops ms) (h1 : Side tops ms false ps) (h2 : Side tops ms true qs) (hl : (cs.length : Int) = prod ((bsT tops).map ext)) (hm : ∀ d ∈ cs, MC d) : Sc (bsT tops) ps qs cs := by
  obtain ⟨e1, e2, e3⟩ := prod_tops z.top
  have h4 := pow4 z.few
  exact ⟨bds_t z, h1.sec z, h2.sec z, h1.few, h2.few, h1.tot z, h2.tot z, h1.onceA, by rw [h1.shape, h2.shape], hl, by unfold szB; omega, by unfold szB; omega, hm⟩
theorem lc_any {A : DE} {s : Sl} {i B : Nat} {G P : D → Prop} (h : ∀ d b w, G d → b < B → Lap b w → okE (A (s.set i (some d)) w) fun y w' => P y ∧ Lap (b + 1) w') :
    ∀ (ds : List D) (b : Nat) (w : Wl), (∀ d ∈ ds, G d) → b + ds.length ≤ B → Lap b w → okE (lcD (gN i) tYesD A ds s w) fun ys w' => ys.length = ds.length ∧ (∀ y ∈ ys, P y) ∧ Lap (b + ds.length) w'
  | [], b, w, _, _, hw => by
    rw [okE_lcN]
    exact ⟨rfl, by simp, hw⟩
  | d :: ds, b, w, hG, hB, hw => by
    rw [okE_lcC]
    simp only [v_gN, okO_some, okE_noer, okT_yes, if_true]
    simp only [List.length_cons] at hB
    refine okE_mono (h d b w (hG d List.mem_cons_self) (by omega) hw) ?_
    rintro y w1 ⟨hn, l1⟩
    refine okE_mono (lc_any h ds (b + 1) w1 (fun x hx => hG x (List.mem_cons_of_mem _ hx)) (by omega) l1) ?_
    rintro ys w2 ⟨hl, hP, l2⟩
    refine ⟨by simp [hl], ?_, lap_le l2 (by simp only [List.length_cons]; omega)⟩
    intro x hx
    rcases List.mem_cons.mp hx with rfl | hx
    · exact hn
    · exact hP x hx
theorem nats_of {f : Nat → Int} {R : Nat → Prop} : ∀ {ys : List D}, (∀ y ∈ ys, ∃ n : Nat, y = .int (f n) ∧ R n) → ∃ ns : List Nat, ys = ns.map (fun n => .int (f n)) ∧ ∀ n ∈ ns, R n
  | [], _ => ⟨[], rfl, by simp⟩
  | y :: ys, h => by
    obtain ⟨n, rfl, hn⟩ := h y List.mem_cons_self
    obtain ⟨ns, rfl, hN⟩ := nats_of (ys := ys) fun x hx => h x (List.mem_cons_of_mem _ hx)
    refine ⟨n :: ns, rfl, fun x hx => ?_⟩
    rcases List.mem_cons.mp hx with rfl | hx
    · exact hn
    · exact hN x hx
theorem prod_loop {t1 t11 t12 t13 t14 t15 t16 t17 t18 t19 : Option D} {A2 A3 A5 A7 : D} {bs : List (Int × Int)} {N : Sl → Wl → Prop} {Z : D → Wl → Prop} : ∀ (ts : List Nat) (a : Int) (t8 : Option D), (∀ t ∈ ts, 4 ≤ t ∧ t ≤ 6) → 0 ≤ a → a * 6 ^ ts.length ≤ 1000000 → nlFreeO t8 = true →
    (∀ t8, nlFreeO t8 = true → N (rtS t1 A2 A3 A5 A7 t8 bs ps qs (some (.int (a * prod (ts.map fun t : Nat => (t : Int))))) t11 t12 t13 t14 t15 t16 t17 t18 t19) w) →
    okS (loopD (gN 8) (sAsg 10 (eBin fMul (eVar 10) (eVar 8))) (ts.map fun t : Nat => D.int (t : Int)) (rtS t1 A2 A3 A5 A7 t8 bs ps qs (some (.int a)) t11 t12 t13 t14 t15 t16 t17 t18 t19) w) N Z
  | [], a, t8, _, _, _, n8, q => by
    have := q t8 n8
    rw [show a * prod (([] : List Nat).map fun t : Nat => (t : Int)) = a by simp [prod]] at this
    exact this
  | t :: ts, a, t8, h, h0, h6, n8, q => by
    have ht := h t List.mem_cons_self
    have hp : (1 : Int) ≤ 6 ^ ts.length := Int.pow_pos (by decide)
    have e6 : a * 6 ^ (t :: ts).length = a * 6 ^ ts.length * 6 := by rw [List.length_cons, Int.pow_succ, Int.mul_assoc]
    rw [e6] at h6
    have h1 : a * 1 ≤ a * 6 ^ ts.length := Int.mul_le_mul_of_nonneg_left hp h0
    have h2 : 0 ≤ a * 6 ^ ts.length := Int.mul_nonneg h0 (by omega)
    have m1 : mulOk a (t : Int) := mul_bt (i := 50) (j := 50) (bt50 h0 (by omega)) (bt50 (by omega) (by omega)) (by omega)
    have h3 : a * (t : Int) * 6 ^ ts.length ≤ 1000000 := by
      have : a * 6 ^ ts.length * (t : Int) ≤ a * 6 ^ ts.length * 6 := Int.mul_le_mul_of_nonneg_left (by omega) h2
      rw [Int.mul_right_comm]
      omega
    have ih := prod_loop (t1 := t1) (t11 := t11) (t12 := t12) (t13 := t13) (t14 := t14) (t15 := t15) (t16 := t16) (t17 := t17) (t18 := t18) (t19 := t19) (A2 := A2) (A3 := A3) (A5 := A5) (A7 := A7) (bs := bs) (N := N) (Z := Z) ts (a * (t : Int)) (some (.int (t : Int))) (fun x hx => h x (List.mem_cons_of_mem _ hx)) (Int.mul_nonneg h0 (by omega)) h3 rfl (fun t8 m8 => by
      have := q t8 m8
      rw [show a * prod ((t :: ts).map fun t : Nat => (t : Int)) = a * (t : Int) * prod (ts.map fun t : Nat => (t : Int)) by rw [List.map_cons, prod, Int.mul_assoc]] at this
      exact this)
    rw [List.map_cons]
    refine okS_cons ?_
    unfold rtS at ih ⊢
    simp -implicitDefEqProofs [m1]
    exact ih
end
end DL

set_option maxHeartbeats 2000000
namespace DL
open PySem PySem.Spec PyProof.Rows L2
section
variable {w : Wl} {b : Nat} {tops ms : List Nat} {ps qs : List Pg} {cs : List D}
theorem fstr_ok {k : Int} (h : 0 ≤ k ∧ k < 1000000) (w : Wl) : fStrI w [.int k] = some (.str (toString k : String)) := by
  have hl : k.natAbs.log2 < 1920 := PySem.Flt.log2_lt_of (by decide) (Nat.lt_of_lt_of_le (show k.natAbs < 2 ^ 20 by omega) (Nat.pow_le_pow_right (by decide) (by decide)))
  unfold fStrI
  dsimp only
  rw [if_pos hl]
theorem nl_tpD : nlFreeO (some (tpD tops)) = true := by
  show nlFree (tpD tops) = true
  unfold tpD nlFree
  exact nlFrees_map fun _ _ => by simp [nlFree]
theorem nl_zI : nlFreeO (some (.lst ((zI ms).map .int))) = true := by
  show nlFree (.lst ((zI ms).map .int)) = true
  unfold nlFree
  exact nl_ints
@[irreducible] def rtC : DE := eL (aLc (iRng1 (aCons (eVar 10) aNil)) (gN 1) tYesD (eCall 2 F_w_pick (aCons (eVar 0) (aCons (eL (aLst (aCons (eVar 1) (aCons (eCB fStrI (aCons (eVar 1) aNil)) (aCons (eTup (aCons (eVar 1) aNil)) (aCons (eL (aLst (aCons (eVar 1) aNil))) (aCons (eC .non) aNil))))))) aNil))) [1])
theorem e_rtC {t1 t8 t11 t12 t13 t14 t15 t16 t17 t18 t19 : Option D} {A2 A3 A5 A7 : D} {bs : List (Int × Int)} {n : Nat} (hn : n ≤ 2000) (hb : b < 800000) (hw : Lap b w) :
    okE (rtC (rtS t1 A2 A3 A5 A7 t8 bs ps qs (some (.int n)) t11 t12 t13 t14 t15 t16 t17 t18 t19) w) fun d w' => ∃ cs, d = .lst cs ∧ cs.length = n ∧ (∀ d ∈ cs, MC d) ∧ Lap (b + n) w' := by
  have hlim : lim = 16000000 := rfl
  have hl1 : (1 : Nat) ≤ lim := by decide
  have hl5 : (5 : Nat) ≤ lim := by decide
  have hul : (upTo 0 n).length = n := by simp [upTo]
  unfold rtC rtS
  simp -implicitDefEqProofs [wipeS]
  refine ⟨by omega, by omega, ?_⟩
  refine okE_mono (lc_any (B := 900000) (G := fun d => ∃ k : Int, d = .int k ∧ 0 ≤ k ∧ k < 1000000) (P := MC) ?_ _ b w ?_ (by omega) hw) ?_
  · rintro d b w ⟨k, rfl, hk⟩ hb hw
    have hs := fstr_ok hk
    simp -implicitDefEqProofs [hs, hl1, hl5]
    exact pick hw (by simp) (by simp) (by omega) fun x hx w1 l1 => ⟨e_pick_items hk x hx, l1⟩
  · intro d hd
    unfold upTo at hd
    obtain ⟨k, hk, rfl⟩ := List.mem_map.mp hd
    have := List.mem_range.mp hk
    exact ⟨_, rfl, by omega, by omega⟩
  · rintro ys w' ⟨h1, h2, h3⟩
    rw [hul] at h1 h3
    exact ⟨h1, h2, h3⟩
theorem e_rtTops {t3 : Option D} {T : List (Option D)} (hT : T = [t3, none, none, none, none, none, none, none, none, none, none, none, none, none, none, none, none]) (hb : b < 800000) (hw : Lap b w) :
    okE (eL (aLc (iRng1 (aCons (eBin fAdd (eC (.int 1)) (eCall 2 F_w_draw (aCons (eVar 0) (aCons (eC (.int 4)) aNil)))) aNil)) (gN 1) tYesD (eBin fAdd (eC (.int 4)) (eCall 2 F_w_draw (aCons (eVar 0) (aCons (eC (.int 3)) aNil)))) [1]) (some .well :: none :: none :: T) w) fun d w' => ∃ tops : List Nat, d = tpD tops ∧ (1 ≤ tops.length ∧ tops.length ≤ 4) ∧ (∀ t ∈ tops, 4 ≤ t ∧ t ≤ 6) ∧ Lap (b + 5) w' := by
  have hlim : lim = 16000000 := rfl
  simp -implicitDefEqProofs [wipeS]
  refine draw hw (by decide) (by decide) (by omega) fun k w1 k0 k1 l1 => ?_
  obtain ⟨j, hj⟩ := Int.eq_ofNat_of_zero_le (show 0 ≤ 1 + k by omega)
  have hul : (upTo 0 j).length = j := by simp [upTo]
  simp -implicitDefEqProofs [hj]
  refine ⟨by omega, by omega, ?_⟩
  refine okE_mono (lc_any (B := 900000) (G := fun d => True) (P := fun y => ∃ n : Nat, y = .int (n : Int) ∧ (4 ≤ n ∧ n ≤ 6)) ?_ _ (b + 1) w1 (fun _ _ => True.intro) (by omega) l1) ?_
  · intro d b w _ hb hw
    simp -implicitDefEqProofs
    refine draw hw (by decide) (by decide) (by omega) fun k w2 k0 k1 l2 => ?_
    obtain ⟨m, hm⟩ := Int.eq_ofNat_of_zero_le (show 0 ≤ 4 + k by omega)
    rw [v_add, okO_some, hm]
    exact ⟨⟨m, rfl, by omega⟩, l2⟩
  · rintro ys w' ⟨h1, h2, h3⟩
    rw [hul] at h1 h3
    obtain ⟨ns, rfl, hR⟩ := nats_of (f := fun n : Nat => (n : Int)) h2
    rw [List.length_map] at h1
    exact ⟨ns, rfl, by omega, hR, lap_le h3 (by omega)⟩
theorem e_rtSz {T : List (Option D)} (h4 : 1 ≤ tops.length ∧ tops.length ≤ 4) (hT : T = [none, none, none, none, none, none, none, none, none, none, none, none, none, none, none, none, none]) (hb : b < 800000) (hw : Lap b w) :
    okE (eL (aLc (iRng1 (aCons (eBin fSub (eCB fLen (aCons (eVar 2) aNil)) (eC (.int 1))) aNil)) (gN 1) tYesD (eBin fAdd (eC (.int 1)) (eCall 2 F_w_draw (aCons (eVar 0) (aCons (eC (.int 4)) aNil)))) [1]) (some .well :: none :: some (tpD tops) :: T) w) fun d w' => ∃ ms : List Nat, d = .lst ((zI ms).map .int) ∧ ms.length + 1 = tops.length ∧ (∀ m ∈ ms, m ≤ 3) ∧ Lap (b + 3) w' := by
  have hlim : lim = 16000000 := rfl
  obtain ⟨j, hj⟩ : ∃ j : Nat, tops.length = j + 1 := ⟨tops.length - 1, by omega⟩
  have hul : (upTo 0 j).length = j := by simp [upTo]
  have hln : ∀ w, fLen w [tpD tops] = some (.int ((j : Int) + 1)) := fun w => by
    show some (D.int ((tops.map fun t : Nat => D.int (t : Int)).length : Nat)) = _
    rw [List.length_map, hj]
    rfl
  have gt : ∀ s : Sl, getS (some (tpD tops) :: s) 0 = some (tpD tops) := fun s => rfl
  have ej : ((j : Int) + 1 - 1) = j := by omega
  simp -implicitDefEqProofs [wipeS, gt, hln, ej]
  refine ⟨by omega, by omega, ?_⟩
  refine okE_mono (lc_any (B := 900000) (G := fun d => True) (P := fun y => ∃ n : Nat, y = .int ((n : Int) + 1) ∧ n ≤ 3) ?_ _ b w (fun _ _ => True.intro) (by omega) hw) ?_
  · intro d b w _ hb hw
    simp -implicitDefEqProofs
    refine draw hw (by decide) (by decide) (by omega) fun k w2 k0 k1 l2 => ?_
    obtain ⟨m, rfl⟩ := Int.eq_ofNat_of_zero_le k0
    rw [v_add, okO_some, Int.add_comm]
    exact ⟨⟨m, rfl, by omega⟩, l2⟩
  · rintro ys w' ⟨h1, h2, h3⟩
    rw [hul] at h1 h3
    obtain ⟨ns, rfl, hR⟩ := nats_of (f := fun n : Nat => (n : Int) + 1) h2
    rw [List.length_map] at h1
    refine ⟨ns, ?_, by omega, hR, lap_le h3 (by omega)⟩
    unfold zI
    rw [List.map_map]
    rfl
theorem e_w_right (hw : Lap b w) (hb : b < 100000) : okE (F_w_right [.well] w) fun d w' => d = .bl true ∧ Lap (b + 2000) w' := by
  have hlim : lim = 16000000 := rfl
  obtain ⟨T, hT⟩ : ∃ T : DS, T = rtT := ⟨_, rfl⟩
  obtain ⟨C, hC⟩ : ∃ C : DE, C = rtC := ⟨_, rfl⟩
  have e : B_w_right = (sSeq (sAsg 2 (eL (aLc (iRng1 (aCons (eBin fAdd (eC (.int 1)) (eCall 2 F_w_draw (aCons (eVar 0) (aCons (eC (.int 4)) aNil)))) aNil)) (gN 1) tYesD (eBin fAdd (eC (.int 4)) (eCall 2 F_w_draw (aCons (eVar 0) (aCons (eC (.int 3)) aNil)))) [1]))) (sSeq (sAsg 3 (eL (aLc (iRng1 (aCons (eBin fSub (eCB fLen (aCons (eVar 2) aNil)) (eC (.int 1))) aNil)) (gN 1) tYesD (eBin fAdd (eC (.int 1)) (eCall 2 F_w_draw (aCons (eVar 0) (aCons (eC (.int 4)) aNil)))) [1]))) (sSeq (sTg (gT (gCons' (gN 4) (gCons' (gN 5) gNil')) 2) (eCall 4 F_w_side (aCons (eVar 0) (aCons (eVar 3) (aCons (eVar 2) (aCons (eC (.bl false)) aNil)))))) (sSeq (sTg (gT (gCons' (gN 6) (gCons' (gN 7) gNil')) 2) (eCall 4 F_w_side (aCons (eVar 0) (aCons (eVar 3) (aCons (eVar 2) (aCons (eC (.bl true)) aNil)))))) (sSeq (sAsg 9 (eCB fTuple (aCons (eL (aLc (iSeq (eVar 2)) (gN 8) tYesD (eTup (aCons (eC (.int 1)) (aCons (eVar 8) aNil))) [8])) aNil))) (sSeq (sAsg 10 (eC (.int 1))) (sSeq (sFor (iSeq (eVar 2)) (gN 8) (sAsg 10 (eBin fMul (eVar 10) (eVar 8)))) (sSeq (sAsg 11 C) T)))))))) := by
    rw [hT, hC]
    unfold rtT rtV rtC
    rfl
  unfold F_w_right
  rw [e, okE_run]
  refine ⟨rfl, ?_⟩
  have gt : ∀ (tops : List Nat) (s : Sl), getS (some (tpD tops) :: s) 0 = some (tpD tops) := fun _ s => rfl
  refine okS_then (fun s1 w1 => ∃ tops : List Nat, ((1 ≤ tops.length ∧ tops.length ≤ 4) ∧ ∀ t ∈ tops, 4 ≤ t ∧ t ≤ 6) ∧ Lap (b + 5) w1 ∧ s1 = [some .well, none, some (tpD tops), none, none, none, none, none, none, none, none, none, none, none, none, none, none, none, none, none]) ?_ ?_
  · rw [okS_asg]
    refine okE_mono (e_rtTops (t3 := none) rfl (by omega) hw) ?_
    rintro d w1 ⟨tops, rfl, h4, ht, l1⟩
    exact ⟨tops, ⟨h4, ht⟩, l1, rfl⟩
  rintro s1 w1 ⟨tops, ⟨h4, ht⟩, l1, rfl⟩
  refine okS_then (fun s1 w1 => ∃ ms : List Nat, Szs tops ms ∧ Lap (b + 8) w1 ∧ s1 = [some .well, none, some (tpD tops), some (.lst ((zI ms).map .int)), none, none, none, none, none, none, none, none, none, none, none, none, none, none, none, none]) ?_ ?_
  · rw [okS_asg]
    refine okE_mono (e_rtSz h4 rfl (by omega) l1) ?_
    rintro d w1 ⟨ms, rfl, hl, h3, l1⟩
    exact ⟨ms, ⟨hl, h4.2, h3, ht⟩, l1, rfl⟩
  rintro s1 w2 ⟨ms, z, l2, rfl⟩
  refine okS_then (fun s1 w1 => ∃ ps, Side tops ms false ps ∧ Lap (b + 68) w1 ∧ s1 = [some .well, none, some (tpD tops), some (.lst ((zI ms).map .int)), some (secG ps), some (.lst ((els ps).map eD)), none, none, none, none, none, none, none, none, none, none, none, none, none, none]) ?_ ?_
  · rw [okS_tg, call4 (a := .well) (b := .lst ((zI ms).map .int)) (c := tpD tops) (e := .bl false) rfl rfl rfl rfl]
    refine okE_mono (e_w_side z (by omega) l2) ?_
    rintro d w1 ⟨ps, rfl, hS, l3⟩
    exact ⟨ps, hS, lap_le l3 (by omega), rfl⟩
  rintro s1 w3 ⟨ps, hp, l3, rfl⟩
  refine okS_then (fun s1 w1 => ∃ qs, Side tops ms true qs ∧ Lap (b + 128) w1 ∧ s1 = [some .well, none, some (tpD tops), some (.lst ((zI ms).map .int)), some (secG ps), some (.lst ((els ps).map eD)), some (secG qs), some (.lst ((els qs).map eD)), none, none, none, none, none, none, none, none, none, none, none, none]) ?_ ?_
  · rw [okS_tg, call4 (a := .well) (b := .lst ((zI ms).map .int)) (c := tpD tops) (e := .bl true) rfl rfl rfl rfl]
    refine okE_mono (e_w_side z (by omega) l3) ?_
    rintro d w1 ⟨qs, rfl, hS, l4⟩
    exact ⟨qs, hS, lap_le l4 (by omega), rfl⟩
  rintro s1 w4 ⟨qs, hq, l4, rfl⟩
  have hseq : seqD (tpD tops) = some (false, tops.map fun t : Nat => D.int (t : Int)) := rfl
  refine okS_then (fun s1 w1 => w1 = w4 ∧ s1 = [some .well, none, some (tpD tops), some (.lst ((zI ms).map .int)), some (secG ps), some (.lst ((els ps).map eD)), some (secG qs), some (.lst ((els qs).map eD)), none, some (bD (bsT tops)), none, none, none, none, none, none, none, none, none, none]) ?_ ?_
  · have hl2 : (2 : Nat) ≤ lim := by decide
    have hft : ∀ w, fTuple w [.lst (tops.map fun t : Nat => D.tup [.int 1, .int (t : Int)])] = some (bD (bsT tops)) := fun w => by
      show some (D.tup _) = _
      unfold bD bsT
      rw [List.map_map]
      rfl
    simp -implicitDefEqProofs [gt, hseq]
    refine ⟨by omega, okE_lcall2 (γ := Nat) (fun t => D.int (t : Int)) (fun t => D.tup [.int 1, .int (t : Int)]) rfl (fun t _ => ?_) ?_⟩
    · simp -implicitDefEqProofs [wipeS, hl2]
    · refine ⟨rfl, ?_⟩
      exact Option.some.inj (hft w4)
  rintro s1 w5 ⟨rfl, rfl⟩
  refine okS_then (fun s1 w1 => w1 = w5 ∧ s1 = rtS none (tpD tops) (.lst ((zI ms).map .int)) (.lst ((els ps).map eD)) (.lst ((els qs).map eD)) none (bsT tops) ps qs (some (.int 1)) none none none none none none none none none) ⟨rfl, rfl⟩ ?_
  rintro s1 w6 ⟨rfl, rfl⟩
  obtain ⟨p1, p2, p3⟩ := prod_tops ht
  have p4 := pow4 h4.2
  obtain ⟨n, hn⟩ := Int.eq_ofNat_of_zero_le (show 0 ≤ prod ((bsT tops).map ext) by omega)
  refine okS_then (fun s1 w1 => w1 = w6 ∧ ∃ t8, nlFreeO t8 = true ∧ s1 = rtS none (tpD tops) (.lst ((zI ms).map .int)) (.lst ((els ps).map eD)) (.lst ((els qs).map eD)) t8 (bsT tops) ps qs (some (.int n)) none none none none none none none none none) ?_ ?_
  · rw [okS_for]
    have : iSeq (eVar 2) (rtS none (tpD tops) (.lst ((zI ms).map .int)) (.lst ((els ps).map eD)) (.lst ((els qs).map eD)) none (bsT tops) ps qs (some (.int 1)) none none none none none none none none none) w6 = .ok (tops.map fun t : Nat => D.int (t : Int)) w6 := rfl
    rw [this, okE_ok]
    refine prod_loop _ _ none ht (by decide) (by rw [Int.one_mul]; omega) rfl fun t8 m8 => ⟨rfl, t8, m8, ?_⟩
    rw [Int.one_mul, ← p1, hn]
  rintro s1 w7 ⟨rfl, t8, m8, rfl⟩
  refine okS_then (fun s1 w1 => ∃ cs, Sc (bsT tops) ps qs cs ∧ Lap (b + 1500) w1 ∧ s1 = rtS none (tpD tops) (.lst ((zI ms).map .int)) (.lst ((els ps).map eD)) (.lst ((els qs).map eD)) t8 (bsT tops) ps qs (some (.int n)) (some (.lst cs)) none none none none none none none none) ?_ ?_
  · rw [okS_asg, hC]
    refine okE_mono (e_rtC (n := n) (by omega) (by omega) l4) ?_
    rintro d w8 ⟨cs, rfl, hl, hm, l8⟩
    exact ⟨cs, sc_of z hp hq (by omega) hm, lap_le l8 (by omega), rfl⟩
  rintro s1 w8 ⟨cs, k, l8, rfl⟩
  rw [hT]
  refine okS_mono (e_rtT k rfl nl_tpD nl_zI m8 rfl) (fun _ _ h => h) ?_
  rintro d w9 ⟨rfl, rfl⟩
  exact ⟨rfl, lap_le l8 (by omega)⟩
end
end DL

set_option maxHeartbeats 2000000
namespace DL
open PySem PySem.Spec PyProof.Rows L2
/-! ### long lists -/
section
variable {w : Wl} {b n top : Nat} {gs ss : List Int} {cs : List D}
def tw2 (xs : List Int) (d : Nat) : List Int := xs.dropLast ++ (xs.drop d).take 1
theorem tw2_facts {xs : List Int} {d : Nat} (h : d + 1 < xs.length) : (tw2 xs d).length = xs.length ∧ (∀ x ∈ tw2 xs d, x ∈ xs) ∧ ¬ (tw2 xs d).Nodup := by
  have hd : (xs.drop d).take 1 = [xs[d]] := by
    rw [List.drop_eq_getElem_cons (by omega), List.take_succ_cons, List.take_zero]
  have hm : xs[d] ∈ xs.dropLast := by
    have : xs.dropLast[d]? = some xs[d] := by
      rw [List.dropLast_eq_take, List.getElem?_take, if_pos (by omega), List.getElem?_eq_getElem]
    exact List.mem_of_getElem? this
  unfold tw2
  rw [hd]
  refine ⟨by simp; omega, fun x hx => ?_, fun hn => ?_⟩
  · rcases List.mem_append.mp hx with h | h
    · exact List.dropLast_subset xs h
    · rw [List.mem_singleton.mp h]
      exact List.getElem_mem _
  · unfold List.Nodup at hn
    rw [List.pairwise_append] at hn
    exact hn.2.2 _ hm _ (by simp) rfl
theorem sec1 {xs : List Int} (hl : xs.length ≤ 64) (ht : top ≤ 1000) (h : ∀ x ∈ xs, 1 ≤ x ∧ x ≤ (top : Int)) : Sec [(1, (top : Int))] [.lst xs] := by
  refine ⟨rfl, (by decide : (1 : Nat) ≤ 7), fun p hp => ?_, fun _ => ⟨fun x hx => ?_, True.intro⟩⟩
  · rw [List.mem_singleton.mp hp]
    exact .lst hl fun x hx => by
      have := h x hx
      unfold far
      omega
  · rw [Pg.sb_lst] at hx
    exact h x hx
theorem tot1 {xs : List Int} : tot [.lst xs] = (xs.length : Int) := by
  show (xs.length : Int) * 1 = _
  omega
theorem once1 {xs : List Int} (h0 : 0 < xs.length) : onceA [.lst xs] = decide (dist xs = xs.length) := by
  unfold onceA
  rw [tot1, decide_eq_false (by omega), Bool.false_or]
  simp [Pg.once]
theorem bds1 (h : 1 ≤ top ∧ top ≤ 1000) : Bds [(1, (top : Int))] := by
  refine ⟨Nat.le_refl 1, (by decide : (1 : Nat) ≤ 7), fun p hp => ?_⟩
  rw [List.mem_singleton.mp hp, inR_iff, inR_iff]
  simp only [FAR]
  omega
theorem plN1 {xs : List Int} (h0 : 0 < xs.length) : plN [(1, (top : Int))] [.lst xs] = xs.map fun x => (x - 1).toNat := by
  have e : els [.lst xs] = xs.map fun x => [x] := by
    show ([[]] : List (List Int)).flatMap (fun row => (Pg.lst xs).sb.map fun x => x :: row) = _
    rw [Pg.sb_lst]
    simp
  unfold plN
  rw [tot1, if_neg (by omega), e, List.map_map]
  apply List.map_congr_left
  intro x _
  show (x - 1 + ext (1, (top : Int)) * 0).toNat = _
  rw [Int.mul_zero, Int.add_zero]
theorem sc1 (hn : 2 ≤ gs.length ∧ gs.length ≤ 64) (ht : 64 ≤ top ∧ top ≤ 1000) (hg : ∀ x ∈ gs, 1 ≤ x ∧ x ≤ (top : Int)) (hd : gs.Nodup) (hs : ss.length = gs.length) (hS : ∀ x ∈ ss, 1 ≤ x ∧ x ≤ (top : Int)) (hc : cs.length = top) (hm : ∀ d ∈ cs, MC d) : Sc [(1, (top : Int))] [.lst gs] [.lst ss] cs := by
  have hz : szB [(1, (top : Int))] = top := by
    show ext (1, (top : Int)) * 1 = _
    unfold ext
    dsimp only
    rw [if_pos (by omega)]
    omega
  have cg : (Pg.lst gs).cn = (gs.length : Int) := rfl
  have cs' : (Pg.lst ss).cn = (ss.length : Int) := rfl
  refine ⟨bds1 (by omega), sec1 hn.2 ht.2 hg, sec1 (by omega) ht.2 hS, fun p hp => ?_, fun p hp => ?_, ⟨?_, ?_⟩, ⟨?_, ?_⟩, ?_, ?_, ?_, ?_, ?_, hm⟩
  · rw [List.mem_singleton.mp hp]; omega
  · rw [List.mem_singleton.mp hp]; omega
  · rw [tot1]; omega
  · rw [tot1]; omega
  · rw [tot1]; omega
  · rw [tot1]; omega
  · rw [once1 (by omega)]
    exact decide_eq_true (nodup_dist hd)
  · show [((gs.length : Nat) : Int)] = [((ss.length : Nat) : Int)]
    rw [hs]
  · rw [hz, hc]
  · rw [hz]; omega
  · rw [hz]; omega
def lgS (many top : Int) (t3 t4 t5 t6 t7 t8 t9 t10 t11 : Option D) : Sl := [some .well, some (.int many), some (.int top), t3, t4, t5, t6, t7, t8, t9, t10, t11]
@[irreducible] def lgL : DS := (sFor (iRng1 (aCons (eVar 1) aNil)) (gN 5) (sAppPop 4 3 (eCall 2 F_w_draw (aCons (eVar 0) (aCons (eLenO 3) aNil)))))
theorem e_lgPop {t5 t6 t7 t8 t9 t10 t11 : Option D} {Z : D → Wl → Prop} (hn : n ≤ 64) (ht : n ≤ top ∧ top ≤ 1000) (hb : b + n < 1010000) (hw : Lap b w) :
    okS (lgL (lgS n top (some (.own (((List.range top).map fun k : Nat => 1 + (k : Int)).map .int))) (some (.own [])) t5 t6 t7 t8 t9 t10 t11) w)
      (fun s' w' => Lap (b + n) w' ∧ ∃ xs ys t5, s' = lgS n top (some (.own (ys.map .int))) (some (.own (xs.map .int))) t5 t6 t7 t8 t9 t10 t11 ∧ PopI top n xs ys) Z := by
  have hlim : lim = 16000000 := rfl
  have hul : (upTo 0 n).length = n := by simp [upTo]
  unfold lgL
  rw [okS_for]
  have : iRng1 (aCons (eVar 1) aNil) (lgS n top (some (.own (((List.range top).map fun k : Nat => 1 + (k : Int)).map .int))) (some (.own [])) t5 t6 t7 t8 t9 t10 t11) w = .ok (upTo 0 n) w := by
    apply okE_eq
    unfold lgS
    simp -implicitDefEqProofs
    omega
  rw [this, okE_ok]
  refine okS_loop0 (fun i s w' => Lap (b + i) w' ∧ ∃ xs ys t5, s = lgS n top (some (.own (ys.map .int))) (some (.own (xs.map .int))) t5 t6 t7 t8 t9 t10 t11 ∧ PopI top i xs ys) ⟨hw, [], _, t5, rfl, PopI.init⟩ ?_ ?_
  · rintro i d s w2 hd ⟨l2, xs, ys, t5, rfl, hp⟩
    have hi : i < n := by
      have := (List.getElem?_eq_some_iff.mp hd).1
      omega
    obtain ⟨h1, h2, -, -⟩ := id hp
    rw [v_gN, okO_some]
    refine okS_appPop (xs := xs.map .int) (ys := ys.map .int) rfl rfl (by decide) (by rw [List.length_map]; omega) ?_
    unfold lgS
    simp -implicitDefEqProofs
    refine okE_mono (draw_at (ys := ys) (N := fun k y w1 => Lap (b + i + 1) w1 ∧ PopI top (i + 1) (xs ++ [y]) (ys.eraseIdx k)) (by omega) (by omega) (by omega) l2 fun k y w1 hk l1 => ⟨l1, hp.step hk⟩) ?_
    rintro d w1 ⟨k, z, rfl, hz, hk, y, rfl, hy, l1, hq⟩
    refine ⟨k, rfl, .int y, ⟨y, hy, rfl⟩, hk, l1, xs ++ [y], ys.eraseIdx k, ?_, hq⟩
    rw [erase_map, List.map_append]
    simp
  · rintro s w2 ⟨l2, xs, ys, t5, rfl, hp⟩
    rw [hul] at l2 hp
    exact ⟨l2, xs, ys, t5, rfl, hp⟩
theorem ints_of {R : Int → Prop} : ∀ {ys : List D}, (∀ y ∈ ys, ∃ n : Int, y = .int n ∧ R n) → ∃ ns : List Int, ys = ns.map .int ∧ ∀ n ∈ ns, R n
  | [], _ => ⟨[], rfl, by simp⟩
  | y :: ys, h => by
    obtain ⟨n, rfl, hn⟩ := h y List.mem_cons_self
    obtain ⟨ns, rfl, hN⟩ := ints_of (ys := ys) fun x hx => h x (List.mem_cons_of_mem _ hx)
    refine ⟨n :: ns, rfl, fun x hx => ?_⟩
    rcases List.mem_cons.mp hx with rfl | hx
    · exact hn
    · exact hN x hx
theorem lg_due {t3 t5 t11 : Option D} {m : Int} {N : Sl → Wl → Prop} {Z : D → Wl → Prop} {G S : D} (hc : cs.length = top) : ∀ (L : List (Int × Int)) (c : List D) (t9 t10 : Option D), (∀ x ∈ L, (1 ≤ x.1 ∧ x.1 ≤ (top : Int)) ∧ 1 ≤ x.2 ∧ x.2 ≤ (top : Int)) → c.length = cs.length →
    (∀ t9 t10, N (lgS m top t3 (some G) t5 (some S) (some (.lst cs)) (some (.own (duA cs (L.map fun x => ((x.1 - 1).toNat, (x.2 - 1).toNat)) c))) t9 t10 t11) w) →
    okS (loopD (gT (gCons' (gN 9) (gCons' (gN 10) gNil')) 2) (sSetO 8 (eBin fSub (eVar 9) (eC (.int 1))) (eBin fIx (eVar 7) (eBin fSub (eVar 10) (eC (.int 1))))) (L.map fun x => D.tup [.int x.1, .int x.2]) (lgS m top t3 (some G) t5 (some S) (some (.lst cs)) (some (.own c)) t9 t10 t11) w) N Z
  | [], c, t9, t10, _, _, q => q t9 t10
  | x :: L, c, t9, t10, h, hcc, q => by
    obtain ⟨h1, h2⟩ := h x List.mem_cons_self
    obtain ⟨j1, hj1⟩ := Int.eq_ofNat_of_zero_le (show 0 ≤ x.1 - 1 by omega)
    obtain ⟨j2, hj2⟩ := Int.eq_ofNat_of_zero_le (show 0 ≤ x.2 - 1 by omega)
    have b1 : j1 < c.length := by omega
    have b2 : j2 < cs.length := by omega
    have hi : atI cs (j2 : Int) = some (cs[j2]?.getD .non) := atI_nat (by rw [List.getElem?_eq_getElem b2]; rfl)
    have hs := setAt_nat (xs := c) (v := cs[j2]?.getD .non) b1
    have ih := lg_due (t3 := t3) (t5 := t5) (t11 := t11) (m := m) (N := N) (Z := Z) (G := G) (S := S) hc L (c.set j1 (cs[j2]?.getD .non)) (some (.int x.1)) (some (.int x.2)) (fun y hy => h y (List.mem_cons_of_mem _ hy)) (by rw [List.length_set]; exact hcc) (fun t9 t10 => by
      have := q t9 t10
      rw [List.map_cons, duA, hj1, hj2] at this
      exact this)
    rw [List.map_cons]
    refine okS_cons ?_
    unfold lgS at ih ⊢
    simp -implicitDefEqProofs only [v_gT, v_gCons, v_gNil, v_gN, okO_some, List.length_cons, List.length_nil, List.set_cons_zero, List.set_cons_succ, true_and]
    simp -implicitDefEqProofs [hj1, hj2, hi, hs]
    exact ih
theorem try_twice2 {E : DE} {i : Nat} {s : Sl} {w1 : Wl} {N : Sl → Wl → Prop} {Z : D → Wl → Prop} (h : E s w = .er ⟨"InvalidSection", [("part", .str "twice")]⟩ w1) (hi : i < s.length) (q : Z (.bl true) w1) : okS (sTryEq i (sDrop (eWk E)) "InvalidSection" "twice" s w) N Z := by
  have e : sDrop (eWk E) s w = .er ⟨"InvalidSection", [("part", .str "twice")]⟩ s w1 := by
    unfold sDrop eWk
    rw [h]
  unfold sTryEq
  rw [e]
  dsimp only
  rw [if_pos ⟨rfl, rfl, hi⟩, okS_rt]
  simpa using q
theorem call4w {F : DF} {A B C E : DE} {s : Sl} {w1 : Wl} {a b c e : D} (ha : A s w = .ok a w) (hb : B s w = .ok b w1) (hc : C s w1 = .ok c w1) (he : E s w1 = .ok e w1) : eCall 4 F (aCons A (aCons B (aCons C (aCons E aNil)))) s w = F [a, b, c, e] w1 := by
  unfold eCall
  simp only [aCons, aNil, ha, hb, hc, he, R.bind_ok]
  rfl
end
end DL

set_option maxHeartbeats 2000000
namespace DL
open PySem PySem.Spec PyProof.Rows L2
section
variable {w : Wl} {b n top : Nat} {gs ss : List Int} {cs : List D}
@[irreducible] def lgT : DS := (sSeq (sNew 8 (eCBL fList (aCons (eVar 7) aNil))) (sFrz 4 (sSeq (sFor (iZip (aCons (eVar 4) (aCons (eVar 6) aNil))) (gT (gCons' (gN 9) (gCons' (gN 10) gNil')) 2) (sSetO 8 (eBin fSub (eVar 9) (eC (.int 1))) (eBin fIx (eVar 7) (eBin fSub (eVar 10) (eC (.int 1)))))) (sFrz 8 (sSeq (sIf (tE (eBin fNe (eWk (eCall 4 F_done (aCons (eTup (aCons (eTup (aCons (eC (.int 1)) (aCons (eVar 2) aNil))) aNil)) (aCons (eTup (aCons (eVar 4) aNil)) (aCons (eTup (aCons (eVar 6) aNil)) (aCons (eVar 7) aNil)))))) (eVar 8))) (sRet (eC (.bl false))) sNx) (sSeq (sTryEq 11 (sDrop (eWk (eCall 4 F_done (aCons (eTup (aCons (eTup (aCons (eC (.int 1)) (aCons (eVar 2) aNil))) aNil)) (aCons (eTup (aCons (eBin fAdd (eSl (eVar 4) oNone (oSome (eUn fNeg (eC (.int 1))))) (eSl (eSl (eVar 4) (oSome (eCall 2 F_w_draw (aCons (eVar 0) (aCons (eBin fSub (eVar 1) (eC (.int 1))) aNil)))) oNone) oNone (oSome (eC (.int 1))))) aNil)) (aCons (eTup (aCons (eVar 6) aNil)) (aCons (eVar 7) aNil))))))) "InvalidSection" "twice") (sRet (eC (.bl false)))))))))
theorem e_lgT {t3 t5 t9 t10 t11 : Option D} {N : Sl → Wl → Prop} (hn : 2 ≤ gs.length ∧ gs.length ≤ 64) (ht : 64 ≤ top ∧ top ≤ 1000) (hg : ∀ x ∈ gs, 1 ≤ x ∧ x ≤ (top : Int)) (hd : gs.Nodup) (hs : ss.length = gs.length) (hS : ∀ x ∈ ss, 1 ≤ x ∧ x ≤ (top : Int)) (hc : cs.length = top) (hm : ∀ d ∈ cs, MC d) (hb : b < 900000) (hw : Lap b w) :
    okS (lgT (lgS gs.length top t3 (some (.own (gs.map .int))) t5 (some (.lst (ss.map .int))) (some (.lst cs)) none t9 t10 t11) w) N fun d w' => d = .bl true ∧ Lap (b + 1) w' := by
  have hlim : lim = 16000000 := rfl
  have e100 := pp110
  have hl1 : (1 : Nat) ≤ lim := by decide
  have hl2 : (2 : Nat) ≤ lim := by decide
  have k := sc1 hn ht hg hd hs hS hc hm
  obtain ⟨mD, lD⟩ := k.mcd
  have kd : ∀ w, F_done [bD [(1, (top : Int))], secG [.lst gs], secG [.lst ss], .lst cs] w = .ok (.nl (dueL [(1, (top : Int))] [.lst gs] [.lst ss] cs)) w := fun w => k.done
  have eD2 : dueL [(1, (top : Int))] [.lst gs] [.lst ss] cs = duA cs ((gs.zip ss).map fun x => ((x.1 - 1).toNat, (x.2 - 1).toNat)) cs := by
    unfold dueL
    rw [plN1 (by omega), plN1 (by omega), List.zip_map]
    rfl
  have kdo : okD (.lst (dueL [(1, (top : Int))] [.lst gs] [.lst ss] cs)) = true := okD_ml mD
  have kde : eqD (.lst (dueL [(1, (top : Int))] [.lst gs] [.lst ss] cs)) (.lst (dueL [(1, (top : Int))] [.lst gs] [.lst ss] cs)) = true := eqD_ml mD
  have eb : D.tup [.tup [.int 1, .int (top : Int)]] = bD [(1, (top : Int))] := rfl
  have es : ∀ xs : List Int, D.tup [.lst (xs.map .int)] = secG [.lst xs] := fun xs => rfl
  unfold lgT
  refine okS_then (fun s1 w1 => w1 = w ∧ s1 = lgS gs.length top t3 (some (.own (gs.map .int))) t5 (some (.lst (ss.map .int))) (some (.lst cs)) (some (.own cs)) t9 t10 t11) ?_ ?_
  · unfold lgS
    simp -implicitDefEqProofs
  rintro s1 w1 ⟨rfl, rfl⟩
  rw [okS_frz]
  have hfr : frzS 4 (lgS gs.length top t3 (some (.own (gs.map .int))) t5 (some (.lst (ss.map .int))) (some (.lst cs)) (some (.own cs)) t9 t10 t11) = lgS gs.length top t3 (some (.lst (gs.map .int))) t5 (some (.lst (ss.map .int))) (some (.lst cs)) (some (.own cs)) t9 t10 t11 := rfl
  rw [hfr]
  refine okS_then (fun s1 w2 => w2 = w1 ∧ ∃ t9 t10, s1 = lgS gs.length top t3 (some (.lst (gs.map .int))) t5 (some (.lst (ss.map .int))) (some (.lst cs)) (some (.own (dueL [(1, (top : Int))] [.lst gs] [.lst ss] cs))) t9 t10 t11) ?_ ?_
  · have hz : zip2D [.lst (gs.map D.int), .lst (ss.map D.int)] = some ((gs.zip ss).map fun x => D.tup [.int x.1, .int x.2]) := by
      show some (zipD _ _) = _
      rw [zipD_maps]
    have : iZip (aCons (eVar 4) (aCons (eVar 6) aNil)) (lgS gs.length top t3 (some (.lst (gs.map .int))) t5 (some (.lst (ss.map .int))) (some (.lst cs)) (some (.own cs)) t9 t10 t11) w1 = .ok ((gs.zip ss).map fun x => D.tup [.int x.1, .int x.2]) w1 := by
      apply okE_eq
      unfold lgS
      rw [okI_zip]
      simp -implicitDefEqProofs only [okE_cons, okE_nil, okE_var, getS_succ, getS_lst, okO_some, hz, and_self]
    rw [okS_for, this, okE_ok]
    refine lg_due hc _ _ t9 t10 (fun x hx => ⟨hg _ (List.of_mem_zip hx).1, hS _ (List.of_mem_zip hx).2⟩) rfl fun t9 t10 => ⟨rfl, t9, t10, ?_⟩
    rw [eD2]
  rintro s1 w2 ⟨rfl, t9, t10, rfl⟩
  rw [okS_frz]
  have hfr2 : frzS 8 (lgS gs.length top t3 (some (.lst (gs.map .int))) t5 (some (.lst (ss.map .int))) (some (.lst cs)) (some (.own (dueL [(1, (top : Int))] [.lst gs] [.lst ss] cs))) t9 t10 t11) = lgS gs.length top t3 (some (.lst (gs.map .int))) t5 (some (.lst (ss.map .int))) (some (.lst cs)) (some (.lst (dueL [(1, (top : Int))] [.lst gs] [.lst ss] cs))) t9 t10 t11 := rfl
  rw [hfr2]
  have eB : ∀ w, (eTup (aCons (eTup (aCons (eC (.int 1)) (aCons (eVar 2) aNil))) aNil) : DE) (lgS gs.length top t3 (some (.lst (gs.map .int))) t5 (some (.lst (ss.map .int))) (some (.lst cs)) (some (.lst (dueL [(1, (top : Int))] [.lst gs] [.lst ss] cs))) t9 t10 t11) w = .ok (bD [(1, (top : Int))]) w := fun w => by
    apply okE_eq
    unfold lgS
    simp -implicitDefEqProofs [hl1, hl2]
    exact eb
  have eS : ∀ w, (eTup (aCons (eVar 6) aNil) : DE) (lgS gs.length top t3 (some (.lst (gs.map .int))) t5 (some (.lst (ss.map .int))) (some (.lst cs)) (some (.lst (dueL [(1, (top : Int))] [.lst gs] [.lst ss] cs))) t9 t10 t11) w = .ok (secG [.lst ss]) w := fun w => by
    apply okE_eq
    unfold lgS
    simp -implicitDefEqProofs [hl1]
    exact es ss
  have eC7 : ∀ w, (eVar 7 : DE) (lgS gs.length top t3 (some (.lst (gs.map .int))) t5 (some (.lst (ss.map .int))) (some (.lst cs)) (some (.lst (dueL [(1, (top : Int))] [.lst gs] [.lst ss] cs))) t9 t10 t11) w = .ok (.lst cs) w := fun w => rfl
  refine okS_then (fun s1 w1 => w1 = w2 ∧ s1 = lgS gs.length top t3 (some (.lst (gs.map .int))) t5 (some (.lst (ss.map .int))) (some (.lst cs)) (some (.lst (dueL [(1, (top : Int))] [.lst gs] [.lst ss] cs))) t9 t10 t11) ?_ ?_
  · have eG : (eTup (aCons (eVar 4) aNil) : DE) (lgS gs.length top t3 (some (.lst (gs.map .int))) t5 (some (.lst (ss.map .int))) (some (.lst cs)) (some (.lst (dueL [(1, (top : Int))] [.lst gs] [.lst ss] cs))) t9 t10 t11) w2 = .ok (secG [.lst gs]) w2 := by
      apply okE_eq
      unfold lgS
      simp -implicitDefEqProofs [hl1]
      exact es gs
    have hwk := wk_ok (E := (eCall 4 F_done (aCons (eTup (aCons (eTup (aCons (eC (.int 1)) (aCons (eVar 2) aNil))) aNil)) (aCons (eTup (aCons (eVar 4) aNil)) (aCons (eTup (aCons (eVar 6) aNil)) (aCons (eVar 7) aNil)))))) (s := lgS gs.length top t3 (some (.lst (gs.map .int))) t5 (some (.lst (ss.map .int))) (some (.lst cs)) (some (.lst (dueL [(1, (top : Int))] [.lst gs] [.lst ss] cs))) t9 t10 t11) (w := w2) (w1 := w2) (xs := dueL [(1, (top : Int))] [.lst gs] [.lst ss] cs) (by
      rw [call4 (eB w2) eG (eS w2) (eC7 w2), kd])
    rw [okS_if, okT_e, okE_bin, hwk, okE_ok]
    unfold lgS
    simp -implicitDefEqProofs [kdo, kde]
  rintro s1 w3 ⟨rfl, rfl⟩
  rw [okS_seq]
  obtain ⟨d, w4, ed, j, rfl, ⟨j0, j1⟩, l4⟩ := okE_ex (e_draw (n := (gs.length : Int) - 1) (by omega) (by omega) (by omega) hw)
  obtain ⟨m, rfl⟩ := Int.eq_ofNat_of_zero_le j0
  obtain ⟨f1, f2, f3⟩ := tw2_facts (xs := gs) (d := m) (by omega)
  have eG : (eTup (aCons (eBin fAdd (eSl (eVar 4) oNone (oSome (eUn fNeg (eC (.int 1))))) (eSl (eSl (eVar 4) (oSome (eCall 2 F_w_draw (aCons (eVar 0) (aCons (eBin fSub (eVar 1) (eC (.int 1))) aNil)))) oNone) oNone (oSome (eC (.int 1))))) aNil) : DE) (lgS gs.length top t3 (some (.lst (gs.map .int))) t5 (some (.lst (ss.map .int))) (some (.lst cs)) (some (.lst (dueL [(1, (top : Int))] [.lst gs] [.lst ss] cs))) t9 t10 t11) w3 = .ok (secG [.lst (tw2 gs m)]) w4 := by
    have hne : gs.map D.int ≠ [] := fun z => by
      have := congrArg List.length z
      simp at this
      rw [this] at hn
      simp at hn
    have c1 := cut_init hne
    have c2 : cutD (gs.map D.int) (some (m : Int)) none = (gs.map D.int).drop m := cut_from (by rw [List.length_map]; omega)
    have c3 : cutD ((gs.map D.int).drop m) none (some (1 : Int)) = ((gs.map D.int).drop m).take 1 := cut_to (n := 1)
    have e3 : ∀ w, fAdd w (.lst (gs.map D.int).dropLast) (.lst (((gs.map D.int).drop m).take 1)) = some (.lst ((tw2 gs m).map .int)) := fun w => by
      show (if _ then some (D.lst _) else none) = _
      rw [if_pos (by simp; omega)]
      unfold tw2
      rw [List.map_append, List.map_dropLast, List.map_take, List.map_drop]
    have hq : okE ((eTup (aCons (eBin fAdd (eSl (eVar 4) oNone (oSome (eUn fNeg (eC (.int 1))))) (eSl (eSl (eVar 4) (oSome (eCall 2 F_w_draw (aCons (eVar 0) (aCons (eBin fSub (eVar 1) (eC (.int 1))) aNil)))) oNone) oNone (oSome (eC (.int 1))))) aNil) : DE) (lgS gs.length top t3 (some (.lst (gs.map .int))) t5 (some (.lst (ss.map .int))) (some (.lst cs)) (some (.lst (dueL [(1, (top : Int))] [.lst gs] [.lst ss] cs))) t9 t10 t11) w3) fun d w' => d = secG [.lst (tw2 gs m)] ∧ w' = w4 := by
      unfold lgS
      simp -implicitDefEqProofs only [okE_tup, okE_cons, okE_nil, okE_bin, okE_sl, okE_oNone, okE_oSome, okE_un, okE_c, okE_var, okE_call, getS_succ, getS_lst, getS_int, getS_well, okO_some, v_neg, v_sub, List.length_cons, List.length_nil, true_and, ed, okE_ok, c1, c2, c3, e3, hl1]
      first | exact ⟨es _, rfl⟩ | exact ⟨es _, True.intro⟩ | exact es _
    obtain ⟨d, w5, e, rfl, rfl⟩ := okE_ex hq
    exact e
  refine try_twice2 (w1 := w4) ?_ (by unfold lgS; simp) ⟨rfl, l4⟩
  rw [call4w (eB w3) eG (eS w4) (eC7 w4)]
  exact e_twice (bds1 (by omega)) (sec1 (by omega) ht.2 fun x hx => hg x (f2 x hx)) (sec1 (by omega) ht.2 hS) (by
    rw [once1 (by omega)]
    exact decide_eq_false fun z => f3 (dist_nodup z))
theorem e_w_long_right (hw : Lap b w) (hb : b < 200000) : okE (F_w_long_right [.well] w) fun d w' => d = .bl true ∧ Lap (b + 400) w' := by
  have hlim : lim = 16000000 := rfl
  obtain ⟨T, hT⟩ : ∃ T : DS, T = lgT := ⟨_, rfl⟩
  obtain ⟨P, hP⟩ : ∃ P : DS, P = (sMul [3, 4] (mOwn (aRg2 (eC (.int 1)) (eBin fAdd (eVar 2) (eC (.int 1)))) (mOwn (aLst aNil) aNil))) := ⟨_, rfl⟩
  obtain ⟨L, hL⟩ : ∃ L : DS, L = lgL := ⟨_, rfl⟩
  obtain ⟨A, hA⟩ : ∃ A : DS, A = (sAsg 6 (eL (aLc (iRng1 (aCons (eVar 1) aNil)) (gN 5) tYesD (eBin fAdd (eC (.int 1)) (eCall 2 F_w_draw (aCons (eVar 0) (aCons (eVar 2) aNil)))) [5]))) := ⟨_, rfl⟩
  obtain ⟨C, hC⟩ : ∃ C : DS, C = (sAsg 7 (eL (aLc (iRng1 (aCons (eVar 2) aNil)) (gN 5) tYesD (eCall 2 F_w_draw (aCons (eVar 0) (aCons (eC (.int 1000)) aNil))) [5]))) := ⟨_, rfl⟩
  have e : B_w_long_right = (sSeq (sMul [1, 2] (mVal (eBin fAdd (eC (.int 2)) (eCall 2 F_w_draw (aCons (eVar 0) (aCons (eC (.int 63)) aNil)))) (mVal (eBin fAdd (eC (.int 64)) (eCall 2 F_w_draw (aCons (eVar 0) (aCons (eC (.int 40)) aNil)))) aNil))) (sSeq P (sSeq L (sSeq A (sSeq C T))))) := by
    rw [hT, hP, hL, hA, hC]
    unfold lgT lgL
    rfl
  have e100 := pp110
  unfold F_w_long_right
  rw [e, okE_run]
  refine ⟨rfl, ?_⟩
  refine okS_to (fun s1 w1 => ∃ n top : Nat, (2 ≤ n ∧ n ≤ 64) ∧ (64 ≤ top ∧ top ≤ 103) ∧ Lap (b + 2) w1 ∧ s1 = lgS n top none none none none none none none none none) (fun M hM => ?_) ?_
  · simp -implicitDefEqProofs [List.replicate]
    refine draw hw (by decide) (by decide) (by omega) fun k w1 k0 k1 l1 => ?_
    simp -implicitDefEqProofs
    refine draw l1 (by decide) (by decide) (by omega) fun j w2 j0 j1 l2 => ?_
    obtain ⟨n, hn⟩ := Int.eq_ofNat_of_zero_le (show 0 ≤ 2 + k by omega)
    obtain ⟨t, ht⟩ := Int.eq_ofNat_of_zero_le (show 0 ≤ 64 + j by omega)
    simp -implicitDefEqProofs only [v_add, okO_some, putS_cons, putS_nil, List.set_cons_zero, List.set_cons_succ, hn, ht]
    exact hM _ _ ⟨n, t, by omega, by omega, l2, rfl⟩
  rintro s1 w1 ⟨n, top, hn, ht, l1, rfl⟩
  refine okS_then (fun s1 w2 => w2 = w1 ∧ s1 = lgS n top (some (.own (((List.range top).map fun k : Nat => 1 + (k : Int)).map .int))) (some (.own [])) none none none none none none none) ?_ ?_
  · have hrg : rgOk 1 ((top : Int) + 1) := by unfold rgOk; omega
    have hl0 : (0 : Nat) ≤ lim := by decide
    rw [← upTo1, hP]
    unfold lgS
    simp -implicitDefEqProofs [okE_rg2, hrg, hl0]
  rintro s1 w2 ⟨rfl, rfl⟩
  refine okS_to (fun s' w' => Lap (b + 2 + n) w' ∧ ∃ xs ys t5, s' = lgS n top (some (.own (ys.map .int))) (some (.own (xs.map .int))) t5 none none none none none none ∧ PopI top n xs ys) (fun M hM => hL ▸ okS_mono (e_lgPop (by omega) (by omega) (by omega) l1) hM fun _ _ h => h) ?_
  rintro s1 w3 ⟨l3, gs, ys, t5, rfl, hp⟩
  obtain ⟨hP, ho⟩ := pr_lst hp (by omega) (by omega)
  obtain ⟨h1, -, h3, h4⟩ := hp
  have hnd : gs.Nodup := by
    unfold List.Nodup at *
    exact (List.pairwise_append.mp h3).1
  have hg : ∀ x ∈ gs, 1 ≤ x ∧ x ≤ (top : Int) := fun x hx => h4 x (List.mem_append_left _ hx)
  have hun : (upTo 0 n).length = n := by simp [upTo]
  have hut : (upTo 0 top).length = top := by simp [upTo]
  refine okS_then (fun s1 w1 => ∃ ss : List Int, ss.length = n ∧ (∀ x ∈ ss, 1 ≤ x ∧ x ≤ (top : Int)) ∧ Lap (b + 2 + n + n) w1 ∧ s1 = lgS n top (some (.own (ys.map .int))) (some (.own (gs.map .int))) t5 (some (.lst (ss.map .int))) none none none none none) ?_ ?_
  · rw [hA]
    unfold lgS
    simp -implicitDefEqProofs [wipeS]
    refine ⟨by omega, by omega, ?_⟩
    refine okE_mono (lc_any (B := 900000) (G := fun d => True) (P := fun y => ∃ n : Int, y = .int n ∧ (1 ≤ n ∧ n ≤ (top : Int))) ?_ _ _ w3 (fun _ _ => True.intro) (by omega) l3) ?_
    · intro d b w _ hb hw
      simp -implicitDefEqProofs
      refine draw hw (by omega) (by omega) (by omega) fun k w2 k0 k1 l2 => ?_
      exact ⟨⟨1 + k, rfl, by omega, by omega⟩, l2⟩
    · rintro ys w' ⟨g1, g2, g3⟩
      rw [hun] at g1 g3
      obtain ⟨ns, rfl, hR⟩ := ints_of g2
      rw [List.length_map] at g1
      exact ⟨ns, g1, hR, g3, rfl⟩
  rintro s1 w4 ⟨ss, s1l, s2, l4, rfl⟩
  refine okS_then (fun s1 w1 => ∃ cs : List D, cs.length = top ∧ (∀ d ∈ cs, MC d) ∧ Lap (b + 2 + n + n + top) w1 ∧ s1 = lgS n top (some (.own (ys.map .int))) (some (.own (gs.map .int))) t5 (some (.lst (ss.map .int))) (some (.lst cs)) none none none none) ?_ ?_
  · rw [hC]
    unfold lgS
    simp -implicitDefEqProofs [wipeS]
    refine ⟨by omega, by omega, ?_⟩
    refine okE_mono (lc_any (B := 900000) (G := fun d => True) (P := MC) ?_ _ _ w4 (fun _ _ => True.intro) (by omega) l4) ?_
    · intro d b w _ hb hw
      simp -implicitDefEqProofs
      refine draw hw (by omega) (by omega) (by omega) fun k w2 k0 k1 l2 => ?_
      exact ⟨⟨k, by omega, .inl rfl⟩, l2⟩
    · rintro ys w' ⟨g1, g2, g3⟩
      rw [hut] at g1 g3
      exact ⟨ys, g1, g2, g3, rfl⟩
  rintro s1 w5 ⟨cs, c1, c2, l5, rfl⟩
  rw [hT]
  have := e_lgT (gs := gs) (ss := ss) (cs := cs) (top := top) (t3 := some (.own (ys.map .int))) (t5 := t5) (t9 := none) (t10 := none) (t11 := none) (N := fun _ w1 => False) (by omega) (by omega) hg hnd (by omega) s2 c1 c2 (by omega) l5
  rw [h1] at this
  refine okS_mono this (fun _ _ h => h.elim) ?_
  rintro d w6 ⟨rfl, l6⟩
  exact ⟨rfl, lap_le l6 (by omega)⟩
theorem right_ok (b : Nat) (w : Wl) (hb : b < 100000) (hw : Lap b w) : ∃ w', T_law [none, none, some .well, none] w = .ok false w' ∧ Lap (b + 4000) w' := by
  obtain ⟨d, w1, e1, rfl, l1⟩ := okE_ex (e_w_right hw hb)
  obtain ⟨d, w2, e2, rfl, l2⟩ := okE_ex (e_w_long_right l1 (by omega))
  refine ⟨w2, ?_, lap_le l2 (by omega)⟩
  have h1 : okE (T_law [none, none, some .well, none] w) fun c w' => c = false ∧ w' = w2 := by
    unfold T_law
    simp -implicitDefEqProofs [e1, e2]
  obtain ⟨c, w3, e, rfl, rfl⟩ := okE_ex h1
  exact e
end
end DL

set_option maxHeartbeats 2000000
namespace DL
open PySem PySem.Spec PyProof.Rows L2
open Evl (Ex)

/-! ### what the top has written; the law's own head -/
theorem all_mk {l : PySem.W.OpenLaw} {w : World} {K : PySem.W.Frag} {h : Heap} {mg : Str → Option Value} {fa f0 f1 f2 f3 f4 f5 f6 f7 f8 f9 f10 f11 f12 f13 f14 f15 f16 f17 f18 f19 f20 f21 f22 f23 f24 f25 f26 f27 f28 f29 f30 f31 f32 f33 f34 f35 f36 C_InvalidSection I_InvalidSection : Addr} (X : K.In h) (G : h.Ns mainGlobals mg) (hfa : mg "law" = some (.ref fa))
    {od0 an0 od1 an1 od2 an2 od3 an3 od4 an4 od5 an5 od6 an6 od7 an7 od8 an8 od9 an9 od10 an10 od11 an11 od12 an12 od13 an13 od14 an14 od15 an15 od16 an16 od17 an17 od18 an18 od19 an19 od20 an20 od21 an21 od22 an22 od23 an23 od24 an24 od25 an25 od26 an26 od27 an27 od28 an28 od29 an29 od30 an30 od31 an31 od32 an32 od33 an33 od34 an34 od35 an35 od36 an36 od_InvalidSection an_InvalidSection : Option Addr} {sl0 sl1 sl2 sl3 sl4 sl5 sl6 sl7 sl8 sl9 sl10 sl11 sl12 sl13 sl14 sl15 sl16 sl17 sl18 sl19 sl20 sl21 sl22 sl23 sl24 sl25 sl26 sl27 sl28 sl29 sl30 sl31 sl32 sl33 sl34 sl35 sl36 sl_InvalidSection : Array (Option Value)} {oc0 kV0 dc0 pm0 cd0 ct0 oc1 kV1 dc1 pm1 cd1 ct1 oc2 kV2 dc2 pm2 cd2 ct2 oc3 kV3 dc3 pm3 cd3 ct3 oc4 kV4 dc4 pm4 cd4 ct4 oc5 kV5 dc5 pm5 cd5 ct5 oc6 kV6 dc6 pm6 cd6 ct6 oc7 kV7 dc7 pm7 cd7 ct7 oc8 kV8 dc8 pm8 cd8 ct8 oc9 kV9 dc9 pm9 cd9 ct9 oc10 kV10 dc10 pm10 cd10 ct10 oc11 kV11 dc11 pm11 cd11 ct11 oc12 kV12 dc12 pm12 cd12 ct12 oc13 kV13 dc13 pm13 cd13 ct13 oc14 kV14 dc14 pm14 cd14 ct14 oc15 kV15 dc15 pm15 cd15 ct15 oc16 kV16 dc16 pm16 cd16 ct16 oc17 kV17 dc17 pm17 cd17 ct17 oc18 kV18 dc18 pm18 cd18 ct18 oc19 kV19 dc19 pm19 cd19 ct19 oc20 kV20 dc20 pm20 cd20 ct20 oc21 kV21 dc21 pm21 cd21 ct21 oc22 kV22 dc22 pm22 cd22 ct22 oc23 kV23 dc23 pm23 cd23 ct23 oc24 kV24 dc24 pm24 cd24 ct24 oc25 kV25 dc25 pm25 cd25 ct25 oc26 kV26 dc26 pm26 cd26 ct26 oc27 kV27 dc27 pm27 cd27 ct27 oc28 kV28 dc28 pm28 cd28 ct28 oc29 kV29 dc29 pm29 cd29 ct29 oc30 kV30 dc30 pm30 cd30 ct30 oc31 kV31 dc31 pm31 cd31 ct31 oc32 kV32 dc32 pm32 cd32 ct32 oc33 kV33 dc33 pm33 cd33 ct33 oc34 kV34 dc34 pm34 cd34 ct34 oc35 kV35 dc35 pm35 cd35 ct35 oc36 kV36 dc36 pm36 cd36 ct36 oc_InvalidSection dc_InvalidSection pm_InvalidSection cd_InvalidSection ct_InvalidSection : Value} {t_FAR t_LIST_LIMIT t_FARTHEST t_DIMENSIONS t_PLACES : Tok}
    (a0 : PySem.W.nsIn K mainGlobals "is_number" = some (some (.ref f0)))
    (l0 : K.lookup f0 = some ⟨oc0, od0, .func (PySem.W.fnOf "is_number" "is_number" (defArgs s_is_number) (defBody s_is_number) (defScope s_is_number) .none kV0 dc0 pm0 an0 cd0 ct0), sl0⟩)
    (c0 : PySem.W.codeIn K cd0 "is_number" = true)
    (k0 : PySem.W.keepIn K (.ref f0) = true)
    (a1 : PySem.W.nsIn K mainGlobals "is_far" = some (some (.ref f1)))
    (l1 : K.lookup f1 = some ⟨oc1, od1, .func (PySem.W.fnOf "is_far" "is_far" (defArgs s_is_far) (defBody s_is_far) (defScope s_is_far) .none kV1 dc1 pm1 an1 cd1 ct1), sl1⟩)
    (c1 : PySem.W.codeIn K cd1 "is_far" = true)
    (k1 : PySem.W.keepIn K (.ref f1) = true)
    (a2 : PySem.W.nsIn K mainGlobals "is_triplet" = some (some (.ref f2)))
    (l2 : K.lookup f2 = some ⟨oc2, od2, .func (PySem.W.fnOf "is_triplet" "is_triplet" (defArgs s_is_triplet) (defBody s_is_triplet) (defScope s_is_triplet) .none kV2 dc2 pm2 an2 cd2 ct2), sl2⟩)
    (c2 : PySem.W.codeIn K cd2 "is_triplet" = true)
    (k2 : PySem.W.keepIn K (.ref f2) = true)
    (a3 : PySem.W.nsIn K mainGlobals "is_part" = some (some (.ref f3)))
    (l3 : K.lookup f3 = some ⟨oc3, od3, .func (PySem.W.fnOf "is_part" "is_part" (defArgs s_is_part) (defBody s_is_part) (defScope s_is_part) .none kV3 dc3 pm3 an3 cd3 ct3), sl3⟩)
    (c3 : PySem.W.codeIn K cd3 "is_part" = true)
    (k3 : PySem.W.keepIn K (.ref f3) = true)
    (a4 : PySem.W.nsIn K mainGlobals "is_kept" = some (some (.ref f4)))
    (l4 : K.lookup f4 = some ⟨oc4, od4, .func (PySem.W.fnOf "is_kept" "is_kept" (defArgs s_is_kept) (defBody s_is_kept) (defScope s_is_kept) .none kV4 dc4 pm4 an4 cd4 ct4), sl4⟩)
    (c4 : PySem.W.codeIn K cd4 "is_kept" = true)
    (k4 : PySem.W.keepIn K (.ref f4) = true)
    (a5 : PySem.W.nsIn K mainGlobals "many_of" = some (some (.ref f5)))
    (l5 : K.lookup f5 = some ⟨oc5, od5, .func (PySem.W.fnOf "many_of" "many_of" (defArgs s_many_of) (defBody s_many_of) (defScope s_many_of) .none kV5 dc5 pm5 an5 cd5 ct5), sl5⟩)
    (c5 : PySem.W.codeIn K cd5 "many_of" = true)
    (k5 : PySem.W.keepIn K (.ref f5) = true)
    (a6 : PySem.W.nsIn K mainGlobals "subscript_of" = some (some (.ref f6)))
    (l6 : K.lookup f6 = some ⟨oc6, od6, .func (PySem.W.fnOf "subscript_of" "subscript_of" (defArgs s_subscript_of) (defBody s_subscript_of) (defScope s_subscript_of) .none kV6 dc6 pm6 an6 cd6 ct6), sl6⟩)
    (c6 : PySem.W.codeIn K cd6 "subscript_of" = true)
    (k6 : PySem.W.keepIn K (.ref f6) = true)
    (a7 : PySem.W.nsIn K mainGlobals "last_of" = some (some (.ref f7)))
    (l7 : K.lookup f7 = some ⟨oc7, od7, .func (PySem.W.fnOf "last_of" "last_of" (defArgs s_last_of) (defBody s_last_of) (defScope s_last_of) .none kV7 dc7 pm7 an7 cd7 ct7), sl7⟩)
    (c7 : PySem.W.codeIn K cd7 "last_of" = true)
    (k7 : PySem.W.keepIn K (.ref f7) = true)
    (a8 : PySem.W.nsIn K mainGlobals "subscripts" = some (some (.ref f8)))
    (l8 : K.lookup f8 = some ⟨oc8, od8, .func (PySem.W.fnOf "subscripts" "subscripts" (defArgs s_subscripts) (defBody s_subscripts) (defScope s_subscripts) .none kV8 dc8 pm8 an8 cd8 ct8), sl8⟩)
    (c8 : PySem.W.codeIn K cd8 "subscripts" = true)
    (k8 : PySem.W.keepIn K (.ref f8) = true)
    (a9 : PySem.W.nsIn K mainGlobals "lies_between" = some (some (.ref f9)))
    (l9 : K.lookup f9 = some ⟨oc9, od9, .func (PySem.W.fnOf "lies_between" "lies_between" (defArgs s_lies_between) (defBody s_lies_between) (defScope s_lies_between) .none kV9 dc9 pm9 an9 cd9 ct9), sl9⟩)
    (c9 : PySem.W.codeIn K cd9 "lies_between" = true)
    (k9 : PySem.W.keepIn K (.ref f9) = true)
    (a10 : PySem.W.nsIn K mainGlobals "is_part_once" = some (some (.ref f10)))
    (l10 : K.lookup f10 = some ⟨oc10, od10, .func (PySem.W.fnOf "is_part_once" "is_part_once" (defArgs s_is_part_once) (defBody s_is_part_once) (defScope s_is_part_once) .none kV10 dc10 pm10 an10 cd10 ct10), sl10⟩)
    (c10 : PySem.W.codeIn K cd10 "is_part_once" = true)
    (k10 : PySem.W.keepIn K (.ref f10) = true)
    (a11 : PySem.W.nsIn K mainGlobals "is_range" = some (some (.ref f11)))
    (l11 : K.lookup f11 = some ⟨oc11, od11, .func (PySem.W.fnOf "is_range" "is_range" (defArgs s_is_range) (defBody s_is_range) (defScope s_is_range) .none kV11 dc11 pm11 an11 cd11 ct11), sl11⟩)
    (c11 : PySem.W.codeIn K cd11 "is_range" = true)
    (k11 : PySem.W.keepIn K (.ref f11) = true)
    (a12 : PySem.W.nsIn K mainGlobals "is_bounds" = some (some (.ref f12)))
    (l12 : K.lookup f12 = some ⟨oc12, od12, .func (PySem.W.fnOf "is_bounds" "is_bounds" (defArgs s_is_bounds) (defBody s_is_bounds) (defScope s_is_bounds) .none kV12 dc12 pm12 an12 cd12 ct12), sl12⟩)
    (c12 : PySem.W.codeIn K cd12 "is_bounds" = true)
    (k12 : PySem.W.keepIn K (.ref f12) = true)
    (a13 : PySem.W.nsIn K mainGlobals "all_extents" = some (some (.ref f13)))
    (l13 : K.lookup f13 = some ⟨oc13, od13, .func (PySem.W.fnOf "all_extents" "all_extents" (defArgs s_all_extents) (defBody s_all_extents) (defScope s_all_extents) .none kV13 dc13 pm13 an13 cd13 ct13), sl13⟩)
    (c13 : PySem.W.codeIn K cd13 "all_extents" = true)
    (k13 : PySem.W.keepIn K (.ref f13) = true)
    (a14 : PySem.W.nsIn K mainGlobals "multiplied" = some (some (.ref f14)))
    (l14 : K.lookup f14 = some ⟨oc14, od14, .func (PySem.W.fnOf "multiplied" "multiplied" (defArgs s_multiplied) (defBody s_multiplied) (defScope s_multiplied) .none kV14 dc14 pm14 an14 cd14 ct14), sl14⟩)
    (c14 : PySem.W.codeIn K cd14 "multiplied" = true)
    (k14 : PySem.W.keepIn K (.ref f14) = true)
    (a15 : PySem.W.nsIn K mainGlobals "size_of" = some (some (.ref f15)))
    (l15 : K.lookup f15 = some ⟨oc15, od15, .func (PySem.W.fnOf "size_of" "size_of" (defArgs s_size_of) (defBody s_size_of) (defScope s_size_of) .none kV15 dc15 pm15 an15 cd15 ct15), sl15⟩)
    (c15 : PySem.W.codeIn K cd15 "size_of" = true)
    (k15 : PySem.W.keepIn K (.ref f15) = true)
    (a16 : PySem.W.nsIn K mainGlobals "weights" = some (some (.ref f16)))
    (l16 : K.lookup f16 = some ⟨oc16, od16, .func (PySem.W.fnOf "weights" "weights" (defArgs s_weights) (defBody s_weights) (defScope s_weights) .none kV16 dc16 pm16 an16 cd16 ct16), sl16⟩)
    (c16 : PySem.W.codeIn K cd16 "weights" = true)
    (k16 : PySem.W.keepIn K (.ref f16) = true)
    (a17 : PySem.W.nsIn K mainGlobals "many_in" = some (some (.ref f17)))
    (l17 : K.lookup f17 = some ⟨oc17, od17, .func (PySem.W.fnOf "many_in" "many_in" (defArgs s_many_in) (defBody s_many_in) (defScope s_many_in) .none kV17 dc17 pm17 an17 cd17 ct17), sl17⟩)
    (c17 : PySem.W.codeIn K cd17 "many_in" = true)
    (k17 : PySem.W.keepIn K (.ref f17) = true)
    (a18 : PySem.W.nsIn K mainGlobals "is_section" = some (some (.ref f18)))
    (l18 : K.lookup f18 = some ⟨oc18, od18, .func (PySem.W.fnOf "is_section" "is_section" (defArgs s_is_section) (defBody s_is_section) (defScope s_is_section) .none kV18 dc18 pm18 an18 cd18 ct18), sl18⟩)
    (c18 : PySem.W.codeIn K cd18 "is_section" = true)
    (k18 : PySem.W.keepIn K (.ref f18) = true)
    (a19 : PySem.W.nsIn K mainGlobals "shape_of" = some (some (.ref f19)))
    (l19 : K.lookup f19 = some ⟨oc19, od19, .func (PySem.W.fnOf "shape_of" "shape_of" (defArgs s_shape_of) (defBody s_shape_of) (defScope s_shape_of) .none kV19 dc19 pm19 an19 cd19 ct19), sl19⟩)
    (c19 : PySem.W.codeIn K cd19 "shape_of" = true)
    (k19 : PySem.W.keepIn K (.ref f19) = true)
    (a20 : PySem.W.nsIn K mainGlobals "has_each_once" = some (some (.ref f20)))
    (l20 : K.lookup f20 = some ⟨oc20, od20, .func (PySem.W.fnOf "has_each_once" "has_each_once" (defArgs s_has_each_once) (defBody s_has_each_once) (defScope s_has_each_once) .none kV20 dc20 pm20 an20 cd20 ct20), sl20⟩)
    (c20 : PySem.W.codeIn K cd20 "has_each_once" = true)
    (k20 : PySem.W.keepIn K (.ref f20) = true)
    (a21 : PySem.W.nsIn K mainGlobals "places_of" = some (some (.ref f21)))
    (l21 : K.lookup f21 = some ⟨oc21, od21, .func (PySem.W.fnOf "places_of" "places_of" (defArgs s_places_of) (defBody s_places_of) (defScope s_places_of) .none kV21 dc21 pm21 an21 cd21 ct21), sl21⟩)
    (c21 : PySem.W.codeIn K cd21 "places_of" = true)
    (k21 : PySem.W.keepIn K (.ref f21) = true)
    (a22 : PySem.W.nsIn K mainGlobals "check_bounds" = some (some (.ref f22)))
    (l22 : K.lookup f22 = some ⟨oc22, od22, .func (PySem.W.fnOf "check_bounds" "check_bounds" (defArgs s_check_bounds) (defBody s_check_bounds) (defScope s_check_bounds) .none kV22 dc22 pm22 an22 cd22 ct22), sl22⟩)
    (c22 : PySem.W.codeIn K cd22 "check_bounds" = true)
    (k22 : PySem.W.keepIn K (.ref f22) = true)
    (a23 : PySem.W.nsIn K mainGlobals "check_section" = some (some (.ref f23)))
    (l23 : K.lookup f23 = some ⟨oc23, od23, .func (PySem.W.fnOf "check_section" "check_section" (defArgs s_check_section) (defBody s_check_section) (defScope s_check_section) .none kV23 dc23 pm23 an23 cd23 ct23), sl23⟩)
    (c23 : PySem.W.codeIn K cd23 "check_section" = true)
    (k23 : PySem.W.keepIn K (.ref f23) = true)
    (a24 : PySem.W.nsIn K mainGlobals "check_both" = some (some (.ref f24)))
    (l24 : K.lookup f24 = some ⟨oc24, od24, .func (PySem.W.fnOf "check_both" "check_both" (defArgs s_check_both) (defBody s_check_both) (defScope s_check_both) .none kV24 dc24 pm24 an24 cd24 ct24), sl24⟩)
    (c24 : PySem.W.codeIn K cd24 "check_both" = true)
    (k24 : PySem.W.keepIn K (.ref f24) = true)
    (a25 : PySem.W.nsIn K mainGlobals "check_contents" = some (some (.ref f25)))
    (l25 : K.lookup f25 = some ⟨oc25, od25, .func (PySem.W.fnOf "check_contents" "check_contents" (defArgs s_check_contents) (defBody s_check_contents) (defScope s_check_contents) .none kV25 dc25 pm25 an25 cd25 ct25), sl25⟩)
    (c25 : PySem.W.codeIn K cd25 "check_contents" = true)
    (k25 : PySem.W.keepIn K (.ref f25) = true)
    (a26 : PySem.W.nsIn K mainGlobals "done" = some (some (.ref f26)))
    (l26 : K.lookup f26 = some ⟨oc26, od26, .func (PySem.W.fnOf "done" "done" (defArgs s_done) (defBody s_done) (defScope s_done) .none kV26 dc26 pm26 an26 cd26 ct26), sl26⟩)
    (c26 : PySem.W.codeIn K cd26 "done" = true)
    (k26 : PySem.W.keepIn K (.ref f26) = true)
    (a27 : PySem.W.nsIn K mainGlobals "_law_draw" = some (some (.ref f27)))
    (l27 : K.lookup f27 = some ⟨oc27, od27, .func (PySem.W.fnOf "_law_draw" "_law_draw" (defArgs s_w_draw) (defBody s_w_draw) (defScope s_w_draw) .none kV27 dc27 pm27 an27 cd27 ct27), sl27⟩)
    (c27 : PySem.W.codeIn K cd27 "_law_draw" = true)
    (k27 : PySem.W.keepIn K (.ref f27) = true)
    (a28 : PySem.W.nsIn K mainGlobals "_law_pick" = some (some (.ref f28)))
    (l28 : K.lookup f28 = some ⟨oc28, od28, .func (PySem.W.fnOf "_law_pick" "_law_pick" (defArgs s_w_pick) (defBody s_w_pick) (defScope s_w_pick) .none kV28 dc28 pm28 an28 cd28 ct28), sl28⟩)
    (c28 : PySem.W.codeIn K cd28 "_law_pick" = true)
    (k28 : PySem.W.keepIn K (.ref f28) = true)
    (a29 : PySem.W.nsIn K mainGlobals "_law_run" = some (some (.ref f29)))
    (l29 : K.lookup f29 = some ⟨oc29, od29, .func (PySem.W.fnOf "_law_run" "_law_run" (defArgs s_w_run) (defBody s_w_run) (defScope s_w_run) .none kV29 dc29 pm29 an29 cd29 ct29), sl29⟩)
    (c29 : PySem.W.codeIn K cd29 "_law_run" = true)
    (k29 : PySem.W.keepIn K (.ref f29) = true)
    (a30 : PySem.W.nsIn K mainGlobals "_law_elements" = some (some (.ref f30)))
    (l30 : K.lookup f30 = some ⟨oc30, od30, .func (PySem.W.fnOf "_law_elements" "_law_elements" (defArgs s_w_elements) (defBody s_w_elements) (defScope s_w_elements) .none kV30 dc30 pm30 an30 cd30 ct30), sl30⟩)
    (c30 : PySem.W.codeIn K cd30 "_law_elements" = true)
    (k30 : PySem.W.keepIn K (.ref f30) = true)
    (a31 : PySem.W.nsIn K mainGlobals "_law_place" = some (some (.ref f31)))
    (l31 : K.lookup f31 = some ⟨oc31, od31, .func (PySem.W.fnOf "_law_place" "_law_place" (defArgs s_w_place) (defBody s_w_place) (defScope s_w_place) .none kV31 dc31 pm31 an31 cd31 ct31), sl31⟩)
    (c31 : PySem.W.codeIn K cd31 "_law_place" = true)
    (k31 : PySem.W.keepIn K (.ref f31) = true)
    (a32 : PySem.W.nsIn K mainGlobals "_law_side" = some (some (.ref f32)))
    (l32 : K.lookup f32 = some ⟨oc32, od32, .func (PySem.W.fnOf "_law_side" "_law_side" (defArgs s_w_side) (defBody s_w_side) (defScope s_w_side) .none kV32 dc32 pm32 an32 cd32 ct32), sl32⟩)
    (c32 : PySem.W.codeIn K cd32 "_law_side" = true)
    (k32 : PySem.W.keepIn K (.ref f32) = true)
    (a33 : PySem.W.nsIn K mainGlobals "_law_right" = some (some (.ref f33)))
    (l33 : K.lookup f33 = some ⟨oc33, od33, .func (PySem.W.fnOf "_law_right" "_law_right" (defArgs s_w_right) (defBody s_w_right) (defScope s_w_right) .none kV33 dc33 pm33 an33 cd33 ct33), sl33⟩)
    (c33 : PySem.W.codeIn K cd33 "_law_right" = true)
    (k33 : PySem.W.keepIn K (.ref f33) = true)
    (a34 : PySem.W.nsIn K mainGlobals "_law_long_right" = some (some (.ref f34)))
    (l34 : K.lookup f34 = some ⟨oc34, od34, .func (PySem.W.fnOf "_law_long_right" "_law_long_right" (defArgs s_w_long_right) (defBody s_w_long_right) (defScope s_w_long_right) .none kV34 dc34 pm34 an34 cd34 ct34), sl34⟩)
    (c34 : PySem.W.codeIn K cd34 "_law_long_right" = true)
    (k34 : PySem.W.keepIn K (.ref f34) = true)
    (a35 : PySem.W.nsIn K mainGlobals "_law_well" = some (some (.ref f35)))
    (l35 : K.lookup f35 = some ⟨oc35, od35, .func (PySem.W.fnOf "_law_well" "_law_well" (defArgs s_w_well) (defBody s_w_well) (defScope s_w_well) .none kV35 dc35 pm35 an35 cd35 ct35), sl35⟩)
    (c35 : PySem.W.codeIn K cd35 "_law_well" = true)
    (k35 : PySem.W.keepIn K (.ref f35) = true)
    (a36 : PySem.W.nsIn K mainGlobals "law" = some (some (.ref f36)))
    (l36 : K.lookup f36 = some ⟨oc36, od36, .func (PySem.W.fnOf "law" "law" (defArgs s_law) (defBody s_law) (defScope s_law) .none kV36 dc36 pm36 an36 cd36 ct36), sl36⟩)
    (c36 : PySem.W.codeIn K cd36 "law" = true)
    (k36 : PySem.W.keepIn K (.ref f36) = true)
    (a_InvalidSection : PySem.W.nsIn K mainGlobals "InvalidSection" = some (some (.ref C_InvalidSection)))
    (x1_InvalidSection : PySem.W.excInitIn K C_InvalidSection PySem.ErrX.aeM "ArithmeticError.__new__" = true)
    (x2_InvalidSection : PySem.W.excOver K C_InvalidSection PySem.ErrX.aeM = true)
    (sa_InvalidSection : PySem.W.findIn K (.ref C_InvalidSection) "__setattr__" = some (some (.builtin "object.__setattr__")))
    (ga_InvalidSection : PySem.W.findIn K (.ref C_InvalidSection) "__getattribute__" = some (some (.builtin "BaseException.__getattribute__")))
    (gg_InvalidSection : PySem.W.findIn K (.ref C_InvalidSection) "__getattr__" = some none)
    (nb_InvalidSection : PySem.W.findIn K (.ref C_InvalidSection) "part" = some none)
    (i1_InvalidSection : PySem.W.findIn K (.ref C_InvalidSection) "__init__" = some (some (.ref I_InvalidSection)))
    (t1_InvalidSection : PySem.W.typeIn K (.ref I_InvalidSection) = some (.type "function"))
    (l1_InvalidSection : K.lookup I_InvalidSection = some ⟨oc_InvalidSection, od_InvalidSection, .func (PySem.W.fnOf "__init__" "InvalidSection.__init__" (PySem.ErrX.jA ⟨6, 17, 6, 21⟩ ⟨6, 23, 6, 27⟩) (PySem.ErrX.jB ⟨7, 8, 7, 12⟩ ⟨7, 8, 7, 17⟩ ⟨7, 20, 7, 24⟩ ⟨7, 8, 7, 24⟩) PySem.ErrX.jS .none .none dc_InvalidSection pm_InvalidSection an_InvalidSection cd_InvalidSection ct_InvalidSection), sl_InvalidSection⟩)
    (c1_InvalidSection : PySem.W.codeIn K cd_InvalidSection "InvalidSection.__init__" = true)
    (kC_InvalidSection : PySem.W.keepIn K (.ref C_InvalidSection) = true)
    (eC_InvalidSection : PySem.W.subIn K (.ref C_InvalidSection) (.type "BaseException") = some true)
    (tC_InvalidSection : PySem.W.typeIn K (.ref C_InvalidSection) = some (.type "type"))
    (hC_InvalidSection : PySem.W.hasDictIn K C_InvalidSection = true)
    (iC_InvalidSection : PySem.W.isClsIn K C_InvalidSection = true)
    (sC_InvalidSection : PySem.W.subIn K (.ref C_InvalidSection) (.ref C_InvalidSection) = some true)
    (z_int : PySem.W.nsIn K mainGlobals "int" = some none)
    (z_isinstance : PySem.W.nsIn K mainGlobals "isinstance" = some none)
    (z_bool : PySem.W.nsIn K mainGlobals "bool" = some none)
    (z_tuple : PySem.W.nsIn K mainGlobals "tuple" = some none)
    (z_len : PySem.W.nsIn K mainGlobals "len" = some none)
    (z_all : PySem.W.nsIn K mainGlobals "all" = some none)
    (z_list : PySem.W.nsIn K mainGlobals "list" = some none)
    (z_max : PySem.W.nsIn K mainGlobals "max" = some none)
    (z_range : PySem.W.nsIn K mainGlobals "range" = some none)
    (z_set : PySem.W.nsIn K mainGlobals "set" = some none)
    (z_zip : PySem.W.nsIn K mainGlobals "zip" = some none)
    (z_abs : PySem.W.nsIn K mainGlobals "abs" = some none)
    (z_sum : PySem.W.nsIn K mainGlobals "sum" = some none)
    (z_enumerate : PySem.W.nsIn K mainGlobals "enumerate" = some none)
    (z_str : PySem.W.nsIn K mainGlobals "str" = some none)
    (z_repr : PySem.W.nsIn K mainGlobals "repr" = some none)
    (z_min : PySem.W.nsIn K mainGlobals "min" = some none)
    (v_FAR : PySem.W.nsIn K mainGlobals "FAR" = some (some (.int 1000000000000000000000000000000 t_FAR)))
    (v_LIST_LIMIT : PySem.W.nsIn K mainGlobals "LIST_LIMIT" = some (some (.int 64 t_LIST_LIMIT)))
    (v_FARTHEST : PySem.W.nsIn K mainGlobals "FARTHEST" = some (some (.int 500000000000000000000000000000 t_FARTHEST)))
    (v_DIMENSIONS : PySem.W.nsIn K mainGlobals "DIMENSIONS" = some (some (.int 7 t_DIMENSIONS)))
    (v_PLACES : PySem.W.nsIn K mainGlobals "PLACES" = some (some (.int 5000 t_PLACES)))
    : ∃ fd : FuncData, (∀ (s : Shared) (v : Value), BindsTo s fd ⟨[v], []⟩ [("_law_script", v)]) ∧ ∀ base : Heap, K.In base → base.Ns mainGlobals mg → FnG l.prog w K mg base 10 fa fd ["_law_script"] (spLaw K) := by
  have e := hfa.symm.trans (PySem.W.mg_of X G a36)
  cases e
  exact ⟨PySem.W.fnOf "law" "law" (defArgs s_law) (defBody s_law) (defScope s_law) .none kV36 dc36 pm36 an36 cd36 ct36, fun s v => .of_eq rfl, fun base _ _ => ok_law (P := l.prog) (w := w) (K := K) (mg := mg) (base := base) {
      a_is_number := f0,
      d_is_number := _,
      F_is_number := fun_mk (st := s_is_number) l0 c0 k0,
      g_is_number := PySem.W.mg_of X G a0,
      a_is_far := f1,
      d_is_far := _,
      F_is_far := fun_mk (st := s_is_far) l1 c1 k1,
      g_is_far := PySem.W.mg_of X G a1,
      a_is_triplet := f2,
      d_is_triplet := _,
      F_is_triplet := fun_mk (st := s_is_triplet) l2 c2 k2,
      g_is_triplet := PySem.W.mg_of X G a2,
      a_is_part := f3,
      d_is_part := _,
      F_is_part := fun_mk (st := s_is_part) l3 c3 k3,
      g_is_part := PySem.W.mg_of X G a3,
      a_is_kept := f4,
      d_is_kept := _,
      F_is_kept := fun_mk (st := s_is_kept) l4 c4 k4,
      g_is_kept := PySem.W.mg_of X G a4,
      a_many_of := f5,
      d_many_of := _,
      F_many_of := fun_mk (st := s_many_of) l5 c5 k5,
      g_many_of := PySem.W.mg_of X G a5,
      a_subscript_of := f6,
      d_subscript_of := _,
      F_subscript_of := fun_mk (st := s_subscript_of) l6 c6 k6,
      g_subscript_of := PySem.W.mg_of X G a6,
      a_last_of := f7,
      d_last_of := _,
      F_last_of := fun_mk (st := s_last_of) l7 c7 k7,
      g_last_of := PySem.W.mg_of X G a7,
      a_subscripts := f8,
      d_subscripts := _,
      F_subscripts := fun_mk (st := s_subscripts) l8 c8 k8,
      g_subscripts := PySem.W.mg_of X G a8,
      a_lies_between := f9,
      d_lies_between := _,
      F_lies_between := fun_mk (st := s_lies_between) l9 c9 k9,
      g_lies_between := PySem.W.mg_of X G a9,
      a_is_part_once := f10,
      d_is_part_once := _,
      F_is_part_once := fun_mk (st := s_is_part_once) l10 c10 k10,
      g_is_part_once := PySem.W.mg_of X G a10,
      a_is_range := f11,
      d_is_range := _,
      F_is_range := fun_mk (st := s_is_range) l11 c11 k11,
      g_is_range := PySem.W.mg_of X G a11,
      a_is_bounds := f12,
      d_is_bounds := _,
      F_is_bounds := fun_mk (st := s_is_bounds) l12 c12 k12,
      g_is_bounds := PySem.W.mg_of X G a12,
      a_all_extents := f13,
      d_all_extents := _,
      F_all_extents := fun_mk (st := s_all_extents) l13 c13 k13,
      g_all_extents := PySem.W.mg_of X G a13,
      a_multiplied := f14,
      d_multiplied := _,
      F_multiplied := fun_mk (st := s_multiplied) l14 c14 k14,
      g_multiplied := PySem.W.mg_of X G a14,
      a_size_of := f15,
      d_size_of := _,
      F_size_of := fun_mk (st := s_size_of) l15 c15 k15,
      g_size_of := PySem.W.mg_of X G a15,
      a_weights := f16,
      d_weights := _,
      F_weights := fun_mk (st := s_weights) l16 c16 k16,
      g_weights := PySem.W.mg_of X G a16,
      a_many_in := f17,
      d_many_in := _,
      F_many_in := fun_mk (st := s_many_in) l17 c17 k17,
      g_many_in := PySem.W.mg_of X G a17,
      a_is_section := f18,
      d_is_section := _,
      F_is_section := fun_mk (st := s_is_section) l18 c18 k18,
      g_is_section := PySem.W.mg_of X G a18,
      a_shape_of := f19,
      d_shape_of := _,
      F_shape_of := fun_mk (st := s_shape_of) l19 c19 k19,
      g_shape_of := PySem.W.mg_of X G a19,
      a_has_each_once := f20,
      d_has_each_once := _,
      F_has_each_once := fun_mk (st := s_has_each_once) l20 c20 k20,
      g_has_each_once := PySem.W.mg_of X G a20,
      a_places_of := f21,
      d_places_of := _,
      F_places_of := fun_mk (st := s_places_of) l21 c21 k21,
      g_places_of := PySem.W.mg_of X G a21,
      a_check_bounds := f22,
      d_check_bounds := _,
      F_check_bounds := fun_mk (st := s_check_bounds) l22 c22 k22,
      g_check_bounds := PySem.W.mg_of X G a22,
      a_check_section := f23,
      d_check_section := _,
      F_check_section := fun_mk (st := s_check_section) l23 c23 k23,
      g_check_section := PySem.W.mg_of X G a23,
      a_check_both := f24,
      d_check_both := _,
      F_check_both := fun_mk (st := s_check_both) l24 c24 k24,
      g_check_both := PySem.W.mg_of X G a24,
      a_check_contents := f25,
      d_check_contents := _,
      F_check_contents := fun_mk (st := s_check_contents) l25 c25 k25,
      g_check_contents := PySem.W.mg_of X G a25,
      a_done := f26,
      d_done := _,
      F_done := fun_mk (st := s_done) l26 c26 k26,
      g_done := PySem.W.mg_of X G a26,
      a_w_draw := f27,
      d_w_draw := _,
      F_w_draw := fun_mk (st := s_w_draw) l27 c27 k27,
      g_w_draw := PySem.W.mg_of X G a27,
      a_w_pick := f28,
      d_w_pick := _,
      F_w_pick := fun_mk (st := s_w_pick) l28 c28 k28,
      g_w_pick := PySem.W.mg_of X G a28,
      a_w_run := f29,
      d_w_run := _,
      F_w_run := fun_mk (st := s_w_run) l29 c29 k29,
      g_w_run := PySem.W.mg_of X G a29,
      a_w_elements := f30,
      d_w_elements := _,
      F_w_elements := fun_mk (st := s_w_elements) l30 c30 k30,
      g_w_elements := PySem.W.mg_of X G a30,
      a_w_place := f31,
      d_w_place := _,
      F_w_place := fun_mk (st := s_w_place) l31 c31 k31,
      g_w_place := PySem.W.mg_of X G a31,
      a_w_side := f32,
      d_w_side := _,
      F_w_side := fun_mk (st := s_w_side) l32 c32 k32,
      g_w_side := PySem.W.mg_of X G a32,
      a_w_right := f33,
      d_w_right := _,
      F_w_right := fun_mk (st := s_w_right) l33 c33 k33,
      g_w_right := PySem.W.mg_of X G a33,
      a_w_long_right := f34,
      d_w_long_right := _,
      F_w_long_right := fun_mk (st := s_w_long_right) l34 c34 k34,
      g_w_long_right := PySem.W.mg_of X G a34,
      a_w_well := f35,
      d_w_well := _,
      F_w_well := fun_mk (st := s_w_well) l35 c35 k35,
      g_w_well := PySem.W.mg_of X G a35,
      a_law := fa,
      d_law := _,
      F_law := fun_mk (st := s_law) l36 c36 k36,
      g_law := PySem.W.mg_of X G a36,
      z_int := PySem.W.mg_none_of X G z_int,
      z_isinstance := PySem.W.mg_none_of X G z_isinstance,
      z_bool := PySem.W.mg_none_of X G z_bool,
      z_tuple := PySem.W.mg_none_of X G z_tuple,
      z_len := PySem.W.mg_none_of X G z_len,
      z_all := PySem.W.mg_none_of X G z_all,
      z_list := PySem.W.mg_none_of X G z_list,
      z_max := PySem.W.mg_none_of X G z_max,
      z_range := PySem.W.mg_none_of X G z_range,
      z_set := PySem.W.mg_none_of X G z_set,
      z_zip := PySem.W.mg_none_of X G z_zip,
      z_abs := PySem.W.mg_none_of X G z_abs,
      z_sum := PySem.W.mg_none_of X G z_sum,
      z_enumerate := PySem.W.mg_none_of X G z_enumerate,
      z_str := PySem.W.mg_none_of X G z_str,
      z_repr := PySem.W.mg_none_of X G z_repr,
      z_min := PySem.W.mg_none_of X G z_min,
      C_InvalidSection := C_InvalidSection,
      I_InvalidSection := I_InvalidSection,
      e_InvalidSection := { gC := PySem.W.mg_of X G a_InvalidSection, mkr := x1_InvalidSection, ov := x2_InvalidSection, sa := sa_InvalidSection, ga := ga_InvalidSection, gg := gg_InvalidSection, noN := nb_InvalidSection, iC := i1_InvalidSection, tC := t1_InvalidSection, kC := kC_InvalidSection, exC := eC_InvalidSection, tyC := tC_InvalidSection, hdC := hC_InvalidSection, te := exm_own eC_InvalidSection iC_InvalidSection tC_InvalidSection sC_InvalidSection, fn := ⟨_, _, _, _, _, _, _, _, _, _, _, _, _, _, l1_InvalidSection, c1_InvalidSection⟩ },
      t_FAR := t_FAR,
      c_FAR := PySem.W.mg_of X G v_FAR,
      t_LIST_LIMIT := t_LIST_LIMIT,
      c_LIST_LIMIT := PySem.W.mg_of X G v_LIST_LIMIT,
      t_FARTHEST := t_FARTHEST,
      c_FARTHEST := PySem.W.mg_of X G v_FARTHEST,
      t_DIMENSIONS := t_DIMENSIONS,
      c_DIMENSIONS := PySem.W.mg_of X G v_DIMENSIONS,
      t_PLACES := t_PLACES,
      c_PLACES := PySem.W.mg_of X G v_PLACES } right_ok⟩
end DL
open PySem PySem.W PyProof.Rows
set_option maxHeartbeats 0 in
theorem PySem.Challenge.cw_sectionwise_k33_assignments_with_lists_holds : PySem.Challenge.rw_sectionwise_k33_assignments_with_lists.Holds := by
  w_on; o_law; k_head; (case hw => w_witness2)
  k_fill
  refine DL.walk_guard (l := PySem.Challenge.rw_sectionwise_k33_assignments_with_lists) (n := 63) (k := 10) (x := "_law_script") (sp := fun w => DL.spLaw _) rfl (by decide) rfl ⟨rfl, by decide, by decide⟩ (fun w h Y => PySem.W.kIn_of Y) ?F (fun _ _ a ns hl hS => ⟨a, ns, rfl, hS, hl, fun _ => rfl⟩)
  case F =>
    intro w mg fa h KX G hmg
    refine' DL.all_mk KX G hmg ?a0 ?l0 ?c0 ?k0 ?a1 ?l1 ?c1 ?k1 ?a2 ?l2 ?c2 ?k2 ?a3 ?l3 ?c3 ?k3 ?a4 ?l4 ?c4 ?k4 ?a5 ?l5 ?c5 ?k5 ?a6 ?l6 ?c6 ?k6 ?a7 ?l7 ?c7 ?k7 ?a8 ?l8 ?c8 ?k8 ?a9 ?l9 ?c9 ?k9 ?a10 ?l10 ?c10 ?k10 ?a11 ?l11 ?c11 ?k11 ?a12 ?l12 ?c12 ?k12 ?a13 ?l13 ?c13 ?k13 ?a14 ?l14 ?c14 ?k14 ?a15 ?l15 ?c15 ?k15 ?a16 ?l16 ?c16 ?k16 ?a17 ?l17 ?c17 ?k17 ?a18 ?l18 ?c18 ?k18 ?a19 ?l19 ?c19 ?k19 ?a20 ?l20 ?c20 ?k20 ?a21 ?l21 ?c21 ?k21 ?a22 ?l22 ?c22 ?k22 ?a23 ?l23 ?c23 ?k23 ?a24 ?l24 ?c24 ?k24 ?a25 ?l25 ?c25 ?k25 ?a26 ?l26 ?c26 ?k26 ?a27 ?l27 ?c27 ?k27 ?a28 ?l28 ?c28 ?k28 ?a29 ?l29 ?c29 ?k29 ?a30 ?l30 ?c30 ?k30 ?a31 ?l31 ?c31 ?k31 ?a32 ?l32 ?c32 ?k32 ?a33 ?l33 ?c33 ?k33 ?a34 ?l34 ?c34 ?k34 ?a35 ?l35 ?c35 ?k35 ?a36 ?l36 ?c36 ?k36 ?a_InvalidSection ?x1_InvalidSection ?x2_InvalidSection ?sa_InvalidSection ?ga_InvalidSection ?gg_InvalidSection ?nb_InvalidSection ?i1_InvalidSection ?t1_InvalidSection ?l1_InvalidSection ?c1_InvalidSection ?kC_InvalidSection ?eC_InvalidSection ?tC_InvalidSection ?hC_InvalidSection ?iC_InvalidSection ?sC_InvalidSection ?z_int ?z_isinstance ?z_bool ?z_tuple ?z_len ?z_all ?z_list ?z_max ?z_range ?z_set ?z_zip ?z_abs ?z_sum ?z_enumerate ?z_str ?z_repr ?z_min ?v_FAR ?v_LIST_LIMIT ?v_FARTHEST ?v_DIMENSIONS ?v_PLACES
    (case a0 => k_is); (case l0 => k_is); (case c0 => k_is); (case k0 => k_is); (case a1 => k_is); (case l1 => k_is); (case c1 => k_is); (case k1 => k_is); (case a2 => k_is); (case l2 => k_is); (case c2 => k_is); (case k2 => k_is); (case a3 => k_is); (case l3 => k_is); (case c3 => k_is); (case k3 => k_is); (case a4 => k_is); (case l4 => k_is); (case c4 => k_is); (case k4 => k_is); (case a5 => k_is); (case l5 => k_is); (case c5 => k_is); (case k5 => k_is); (case a6 => k_is); (case l6 => k_is); (case c6 => k_is); (case k6 => k_is); (case a7 => k_is); (case l7 => k_is); (case c7 => k_is); (case k7 => k_is); (case a8 => k_is); (case l8 => k_is); (case c8 => k_is); (case k8 => k_is); (case a9 => k_is); (case l9 => k_is); (case c9 => k_is); (case k9 => k_is); (case a10 => k_is); (case l10 => k_is); (case c10 => k_is); (case k10 => k_is); (case a11 => k_is); (case l11 => k_is); (case c11 => k_is); (case k11 => k_is); (case a12 => k_is); (case l12 => k_is); (case c12 => k_is); (case k12 => k_is); (case a13 => k_is); (case l13 => k_is); (case c13 => k_is); (case k13 => k_is); (case a14 => k_is); (case l14 => k_is); (case c14 => k_is); (case k14 => k_is); (case a15 => k_is); (case l15 => k_is); (case c15 => k_is); (case k15 => k_is); (case a16 => k_is); (case l16 => k_is); (case c16 => k_is); (case k16 => k_is); (case a17 => k_is); (case l17 => k_is); (case c17 => k_is); (case k17 => k_is); (case a18 => k_is); (case l18 => k_is); (case c18 => k_is); (case k18 => k_is); (case a19 => k_is); (case l19 => k_is); (case c19 => k_is); (case k19 => k_is); (case a20 => k_is); (case l20 => k_is); (case c20 => k_is); (case k20 => k_is); (case a21 => k_is); (case l21 => k_is); (case c21 => k_is); (case k21 => k_is); (case a22 => k_is); (case l22 => k_is); (case c22 => k_is); (case k22 => k_is); (case a23 => k_is); (case l23 => k_is); (case c23 => k_is); (case k23 => k_is); (case a24 => k_is); (case l24 => k_is); (case c24 => k_is); (case k24 => k_is); (case a25 => k_is); (case l25 => k_is); (case c25 => k_is); (case k25 => k_is); (case a26 => k_is); (case l26 => k_is); (case c26 => k_is); (case k26 => k_is); (case a27 => k_is); (case l27 => k_is); (case c27 => k_is); (case k27 => k_is); (case a28 => k_is); (case l28 => k_is); (case c28 => k_is); (case k28 => k_is); (case a29 => k_is); (case l29 => k_is); (case c29 => k_is); (case k29 => k_is); (case a30 => k_is); (case l30 => k_is); (case c30 => k_is); (case k30 => k_is); (case a31 => k_is); (case l31 => k_is); (case c31 => k_is); (case k31 => k_is); (case a32 => k_is); (case l32 => k_is); (case c32 => k_is); (case k32 => k_is); (case a33 => k_is); (case l33 => k_is); (case c33 => k_is); (case k33 => k_is); (case a34 => k_is); (case l34 => k_is); (case c34 => k_is); (case k34 => k_is); (case a35 => k_is); (case l35 => k_is); (case c35 => k_is); (case k35 => k_is); (case a36 => k_is); (case l36 => k_is); (case c36 => k_is); (case k36 => k_is); (case a_InvalidSection => k_is); (case x1_InvalidSection => first | rfl | kx_is | k_is | decide +kernel); (case x2_InvalidSection => first | rfl | kx_is | k_is | decide +kernel); (case sa_InvalidSection => k_is); (case ga_InvalidSection => k_is); (case gg_InvalidSection => k_is); (case nb_InvalidSection => k_is); (case i1_InvalidSection => k_is); (case t1_InvalidSection => k_is); (case l1_InvalidSection => k_is); (case c1_InvalidSection => k_is); (case kC_InvalidSection => k_is); (case eC_InvalidSection => k_is); (case tC_InvalidSection => k_is); (case hC_InvalidSection => k_is); (case iC_InvalidSection => k_is); (case sC_InvalidSection => first | rfl | kx_is | k_is | decide +kernel); (case z_int => k_is); (case z_isinstance => k_is); (case z_bool => k_is); (case z_tuple => k_is); (case z_len => k_is); (case z_all => k_is); (case z_list => k_is); (case z_max => k_is); (case z_range => k_is); (case z_set => k_is); (case z_zip => k_is); (case z_abs => k_is); (case z_sum => k_is); (case z_enumerate => k_is); (case z_str => k_is); (case z_repr => k_is); (case z_min => k_is); (case v_FAR => k_is); (case v_LIST_LIMIT => k_is); (case v_FARTHEST => k_is); (case v_DIMENSIONS => k_is); (case v_PLACES => k_is)
