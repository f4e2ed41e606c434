import PyProof.Rows.All
import HandS.ForMost
import HandS.ForExc
import HandS.Style
import HandS.Wide
import HandS.Zip
import HandS.Defaults
import HandS.IsInst
import HandS.Walk
import HandS.Evl
import HandS.TupAny
import HandS.TupMul
import KE.GoesNew
import KE.KExcLine
import HandS.Lambda
import HandS.Deep
import HandS.SortInts
import HandS.Conv
import KE.GoesEnum
import HandS.Comp
import HandS.Strs
import HandS.SetBool
import HandS.Dict
import HandS.More
import HandS.DictComp
import HandS.Iter
import KE.KDictZip
import HandS.DictTup
import KE.KDictPairs
import KE.DataMinMax
import HandS.SortKw
import HandS.SetKeys
import HandS.Exc
import HandS.Steps
import PyProof.LongRange
import HandS.TryOnly
import PySem.Challenge.RW_sectionwise_k53_whole_great_variables
set_option Elab.async false
set_option linter.all false
set_option maxRecDepth 100000

set_option maxHeartbeats 2000000
namespace DL
open PySem PySem.Spec PyProof.Rows L2
open Evl (Ex)

/-! ### data, and how it stands in the heap -/
/-- the keys of a dict: tuples of ints, or ints and texts -/
inductive DKs where
  | t (ks : List (List Int)) | k (ks : List Key)
/-- what a program's value is, without addresses: lists that nobody writes any more are trees -/
inductive D where
  | non | bl (b : Bool) | int (i : Int) | str (x : Str) | lst (xs : List D) | tup (xs : List D)
  /-- a list that only its own slot knows -/
  | own (xs : List D)
  /-- a dict that only its own slot knows -/
  | dct (ks : DKs) (xs : List D)
  /-- a dict that nobody writes any more -/
  | dcf (ks : DKs) (xs : List D)
  /-- a list that is new -/
  | nl (xs : List D)
  /-- the list of three numbers that draws change -/
  | well
  | ref (a : Addr)
  /-- a built-in class -/
  | ty (n : String)
/-- the tables of code objects that may grow, each with the name of what it holds -/
class TabT where
  T : List (PySem.Addr × PySem.Str)
  em : T = []
theorem tabs_nil [TabT] {H : Hp} : LamX.Tabs TabT.T H := fun q hq => by rw [TabT.em] at hq; cases hq
/-- no table -/
def NT (o : HO) : Prop := ∀ ps, o ≠ .tbl ps
/-- neither a table nor a tuple -/
def NU (o : HO) : Prop := NT o ∧ ∀ xs, o ≠ .tup xs
theorem nt_lst {xs : List V} : NT (.lst xs) := fun _ z => nomatch z
theorem nu_lst {xs : List V} : NU (.lst xs) := ⟨nt_lst, fun _ z => nomatch z⟩
theorem nt_tup {xs : List V} : NT (.tup xs) := fun _ z => nomatch z
theorem nt_xd {xs : List (Str × V)} : NT (.xd xs) := fun _ z => nomatch z
/-- nothing there but a table, if anything -/
def Fr (H : Hp) (p : Addr) : Prop := ∀ o, H p = some o → ¬ NT o
theorem Fr.of {H : Hp} {p : Addr} (h : H p = none) : Fr H p := fun o e => by rw [h] at e; cases e
theorem ne_of_fr {H : Hp} {a p : Addr} {o : HO} (h : H a = some o) (t : NT o) (n : Fr H p) : a ≠ p := fun z => n o (z ▸ h) t
theorem tabs_upd {T : List (PySem.Addr × PySem.Str)} {H : Hp} {p : Addr} {o : HO} (t : LamX.Tabs T H) (h : H p = none ∨ ∃ xs, H p = some (.lst xs)) : LamX.Tabs T (upd H p o) := fun q hq => by
  obtain ⟨ps, h1, h2, h3⟩ := t q hq
  have n1 : q.1 ≠ p := fun z => by
    rw [z] at h1
    rcases h with e | ⟨xs, e⟩ <;> (rw [e] at h1; cases h1)
  refine ⟨ps, by rw [upd_ne n1]; exact h1, h2, fun pos cv hc => ?_⟩
  obtain ⟨c, e1, e2⟩ := h3 pos cv hc
  have n2 : c ≠ p := fun z => by
    rw [z] at e2
    rcases h with e | ⟨xs, e⟩
    · rw [e] at e2; cases e2
    · rw [e] at e2
      have := Option.some.inj e2
      unfold LamX.CodeO at this
      cases this
  exact ⟨c, e1, by rw [upd_ne n2]; exact e2⟩
variable [TabT]
/-- the objects that were there before -/
class OldT where
  old : Hp
variable [OldT]
abbrev Wl := Int × Int × Int
/-- a tuple of ints as a key -/
def keyT (k : List Int) : List Key := k.map Sum.inl
def wl (w : Wl) : List V := [.int w.1, .int w.2.1, .int w.2.2]
mutual
inductive Rep (wa : Addr) (Hf : Hp) : V → D → Prop
  | non : Rep wa Hf .non .non
  | bl (b : Bool) : Rep wa Hf (.bl b) (.bl b)
  | int (i : Int) : Rep wa Hf (.int i) (.int i)
  | str (x : Str) : Rep wa Hf (.str x) (.str x)
  | lst {a : Addr} {xs : List V} {ds : List D} : Hf a = some (.lst xs) → Reps wa Hf xs ds → Rep wa Hf (.ref a) (.lst ds)
  | tup {a : Addr} {xs : List V} {ds : List D} : Hf a = some (.tup xs) → Reps wa Hf xs ds → Rep wa Hf (.ref a) (.tup ds)
  | well : Rep wa Hf (.ref wa) .well
  | ref (a : Addr) : Rep wa Hf (.ref a) (.ref a)
  | ty (n : String) : Rep wa Hf (.ty n) (.ty n)
  | nl {a : Addr} {xs : List V} {ds : List D} : Hf a = some (.lst xs) → OldT.old a = none → Reps wa Hf xs ds → Rep wa Hf (.ref a) (.nl ds)
  | dft {a : Addr} {ob : Obj} {kvs : List (List Key × V)} {ks : List (List Int)} {ds : List D} : Hf a = some (.frz ob (.dT kvs)) → kvs.map (·.1) = ks.map keyT → Reps wa Hf (kvs.map (·.2)) ds → Rep wa Hf (.ref a) (.dcf (.t ks) ds)
  | dfk {a : Addr} {ob : Obj} {kvs : List (Key × V)} {ks : List Key} {ds : List D} : Hf a = some (.frz ob (.dK kvs)) → kvs.map (·.1) = ks → Reps wa Hf (kvs.map (·.2)) ds → Rep wa Hf (.ref a) (.dcf (.k ks) ds)
inductive Reps (wa : Addr) (Hf : Hp) : List V → List D → Prop
  | nil : Reps wa Hf [] []
  | cons {v : V} {vs : List V} {d : D} {ds : List D} : Rep wa Hf v d → Reps wa Hf vs ds → Reps wa Hf (v :: vs) (d :: ds)
end
section
variable {wa : Addr} {Hf Hf' Hf1 H H' H1 : Hp}
mutual
theorem Rep.mono (e : Ex Hf Hf') : ∀ {v : V} {d : D}, Rep wa Hf v d → Rep wa Hf' v d
  | _, _, .non => .non
  | _, _, .bl b => .bl b
  | _, _, .int i => .int i
  | _, _, .str x => .str x
  | _, _, .lst h r => .lst (e _ _ h) (Reps.mono e r)
  | _, _, .tup h r => .tup (e _ _ h) (Reps.mono e r)
  | _, _, .well => .well
  | _, _, .ref a => .ref a
  | _, _, .ty a => .ty a
  | _, _, .nl h o r => .nl (e _ _ h) o (Reps.mono e r)
  | _, _, .dft h k r => .dft (e _ _ h) k (Reps.mono e r)
  | _, _, .dfk h k r => .dfk (e _ _ h) k (Reps.mono e r)
theorem Reps.mono (e : Ex Hf Hf') : ∀ {vs : List V} {ds : List D}, Reps wa Hf vs ds → Reps wa Hf' vs ds
  | _, _, .nil => .nil
  | _, _, .cons h r => .cons (Rep.mono e h) (Reps.mono e r)
end
theorem Reps.length : ∀ {vs : List V} {ds : List D}, Reps wa Hf vs ds → vs.length = ds.length
  | _, _, .nil => rfl
  | _, _, .cons _ r => by simp [Reps.length r]
theorem Reps.get : ∀ {vs : List V} {ds : List D} {i : Nat} {d : D}, Reps wa Hf vs ds → ds[i]? = some d → ∃ v, vs[i]? = some v ∧ Rep wa Hf v d
  | _, _, _, _, .nil, e => by simp at e
  | _, _, 0, _, .cons r _, e => by simp at e; subst e; exact ⟨_, rfl, r⟩
  | _, _, i + 1, d, .cons _ t, e => by
    obtain ⟨v, h1, h2⟩ := Reps.get (i := i) (d := d) t (by simpa using e)
    exact ⟨v, by simpa using h1, h2⟩
theorem Reps.getV : ∀ {vs : List V} {ds : List D} {i : Nat} {v : V}, Reps wa Hf vs ds → vs[i]? = some v → ∃ d, ds[i]? = some d ∧ Rep wa Hf v d
  | _, _, _, _, .nil, e => by simp at e
  | _, _, 0, _, .cons r _, e => by simp at e; subst e; exact ⟨_, rfl, r⟩
  | _, _, i + 1, d, .cons _ t, e => by
    obtain ⟨v, h1, h2⟩ := Reps.getV (i := i) (v := d) t (by simpa using e)
    exact ⟨v, by simpa using h1, h2⟩
theorem Reps.append : ∀ {vs ws : List V} {ds es : List D}, Reps wa Hf vs ds → Reps wa Hf ws es → Reps wa Hf (vs ++ ws) (ds ++ es)
  | _, _, _, _, .nil, s => s
  | _, _, _, _, .cons r t, s => .cons r (Reps.append t s)
theorem Reps.take : ∀ {vs : List V} {ds : List D} (n : Nat), Reps wa Hf vs ds → Reps wa Hf (vs.take n) (ds.take n)
  | _, _, 0, _ => .nil
  | _, _, _ + 1, .nil => .nil
  | _, _, n + 1, .cons r t => .cons r (Reps.take n t)
theorem Reps.drop : ∀ {vs : List V} {ds : List D} (n : Nat), Reps wa Hf vs ds → Reps wa Hf (vs.drop n) (ds.drop n)
  | _, _, 0, r => r
  | _, _, _ + 1, .nil => .nil
  | _, _, n + 1, .cons _ t => Reps.drop n t
theorem Reps.reverse : ∀ {vs : List V} {ds : List D}, Reps wa Hf vs ds → Reps wa Hf vs.reverse ds.reverse
  | _, _, .nil => .nil
  | _, _, .cons r t => by
    rw [List.reverse_cons, List.reverse_cons]
    exact (Reps.reverse t).append (.cons r .nil)
theorem Reps.rep {vs : List V} {ds : List D} (h : Reps wa Hf vs ds) : ∀ k : Nat, Reps wa Hf (List.replicate k vs).flatten (List.replicate k ds).flatten
  | 0 => .nil
  | k + 1 => by
    rw [List.replicate_succ, List.replicate_succ, List.flatten_cons, List.flatten_cons]
    exact h.append (h.rep k)
theorem Reps.ints : ∀ {vs : List V} {ns : List Int}, Reps wa Hf vs (ns.map D.int) → vs = ns.map V.int
  | _, [], h => by cases h; rfl
  | _, n :: ns, h => by
    cases h with
    | cons h1 h2 =>
      cases h1
      rw [Reps.ints h2]
      rfl
theorem Reps.bls : ∀ {vs : List V} {ns : List Bool}, Reps wa Hf vs (ns.map D.bl) → vs = ns.map V.bl
  | _, [], h => by cases h; rfl
  | _, n :: ns, h => by
    cases h with
    | cons h1 h2 =>
      cases h1
      rw [Reps.bls h2]
      rfl
theorem Reps.of_ints : ∀ {ns : List Int}, Reps wa Hf (ns.map V.int) (ns.map D.int)
  | [] => .nil
  | n :: ns => .cons (.int n) Reps.of_ints

/-- the frozen part is there, and the well -/
structure Base (wa : Addr) (Hf H : Hp) (w : Wl) : Prop where
  ex : Ex Hf H
  well : H wa = some (.lst (wl w))
  nw : Hf wa = none
  tb : LamX.Tabs TabT.T H
  nt : ∀ a o, Hf a = some o → NT o
  od : Ex OldT.old Hf
/-- from a heap to a later one -/
structure Go (wa : Addr) (H Hf H' Hf' : Hp) : Prop where
  keepN : ∀ a o, a ≠ wa → NT o → H a = some o → H' a = some o
  ex : Ex Hf Hf'
  newN : ∀ a o, NU o → H a = some o → Hf' a = Hf a
  thereN : ∀ a o, NT o → H a = some o → ∃ o', NT o' ∧ (NU o → NU o') ∧ H' a = some o'
theorem Go.keep (g : Go wa H Hf H' Hf') (a : Addr) (xs : List V) (n : a ≠ wa) (h : H a = some (.lst xs)) : H' a = some (.lst xs) := g.keepN a _ n nt_lst h
theorem Go.new (g : Go wa H Hf H' Hf') (a : Addr) (xs : List V) (h : H a = some (.lst xs)) : Hf' a = Hf a := g.newN a _ nu_lst h
theorem Go.refl : Go wa H Hf H Hf := ⟨fun _ _ _ _ h => h, Ex.refl _, fun _ _ _ _ => rfl, fun _ o t h => ⟨o, t, id, h⟩⟩
theorem Go.trans (a : Go wa H Hf H1 Hf1) (b : Go wa H1 Hf1 H' Hf') : Go wa H Hf H' Hf' :=
  ⟨fun x o n t h => b.keepN x o n t (a.keepN x o n t h), a.ex.trans b.ex, fun x o t h => by
    obtain ⟨o', t', u', h'⟩ := a.thereN x o t.1 h
    rw [b.newN x o' (u' t) h', a.newN x o t h], fun x o t h => by
    obtain ⟨o', t', u', h'⟩ := a.thereN x o t h
    obtain ⟨o2, t2, u2, h2⟩ := b.thereN x o' t' h'
    exact ⟨o2, t2, fun z => u2 (u' z), h2⟩⟩
theorem Go.fr (g : Go wa H Hf H' Hf') {p : Addr} (h : Fr H' p) : Fr H p := fun o q t => by
  obtain ⟨o', t', _, e⟩ := g.thereN p o t q
  exact h o' e t'
theorem Go.free (g : Go wa H Hf H' Hf') {p : Addr} (h : H' p = none) : Fr H p := g.fr (.of h)
/-- a new object, not frozen -/
theorem Go.new1 {p : Addr} {o : HO} (h : H p = none) : Go wa H Hf (upd H p o) Hf :=
  ⟨fun a u _ _ e => by rw [upd_ne (ne_of_none e h)]; exact e, Ex.refl _, fun _ _ _ _ => rfl, fun a u t e => ⟨u, t, id, by rw [upd_ne (ne_of_none e h)]; exact e⟩⟩
/-- a new object, frozen at once -/
theorem Go.newF {p : Addr} {o : HO} (x : Ex Hf H) (h : H p = none) : Go wa H Hf (upd H p o) (upd Hf p o) :=
  have hf : Hf p = none := Evl.fresh_back x h
  ⟨fun a u _ _ e => by rw [upd_ne (ne_of_none e h)]; exact e, Ex.new hf, fun a u _ e => by rw [upd_ne (ne_of_none e h)], fun a u t e => ⟨u, t, id, by rw [upd_ne (ne_of_none e h)]; exact e⟩⟩
theorem Base.new1 {w : Wl} {p : Addr} {o : HO} (b : Base wa Hf H w) (h : H p = none) : Base wa Hf (upd H p o) w :=
  ⟨b.ex.trans (Ex.new h), by rw [upd_ne (ne_of_none b.well h)]; exact b.well, b.nw, tabs_upd b.tb (.inl h), b.nt, b.od⟩
theorem nt_upd {Hf : Hp} {p : Addr} {o : HO} (n : ∀ a o, Hf a = some o → NT o) (t : NT o) : ∀ a u, upd Hf p o a = some u → NT u := fun a u e => by
  by_cases hp : a = p
  · subst hp; rw [upd_same] at e; cases e; exact t
  · rw [upd_ne hp] at e; exact n a u e
theorem ex_upd2 {p : Addr} {o : HO} (x : Ex Hf H) : Ex (upd Hf p o) (upd H p o) := fun a u e => by
  by_cases hp : a = p
  · subst hp; rw [upd_same] at e ⊢; exact e
  · rw [upd_ne hp] at e ⊢; exact x a u e
theorem Base.newF {w : Wl} {p : Addr} {o : HO} (b : Base wa Hf H w) (h : H p = none) (t : NT o := by first | exact nt_lst | exact nt_tup | exact nt_xd) : Base wa (upd Hf p o) (upd H p o) w :=
  ⟨ex_upd2 b.ex, by rw [upd_ne (ne_of_none b.well h)]; exact b.well, by rw [upd_ne (ne_of_none b.well h)]; exact b.nw, tabs_upd b.tb (.inl h), nt_upd b.nt t, b.od.trans (Ex.new (Evl.fresh_back b.ex h))⟩
end

/-! ### what comes of a piece of code -/
structure Exn where
  name : Str
  fs : List (Str × D)
inductive R (α : Type) where
  | ok (a : α) (w : Wl) | er (x : Exn) (w : Wl) | no
def R.bind {α β : Type} (r : R α) (k : α → Wl → R β) : R β := match r with
  | .ok a w => k a w
  | .er x w => .er x w
  | .no => .no
def R.noer {α : Type} (r : R α) : R α := match r with
  | .ok a w => .ok a w
  | _ => .no
@[simp] theorem R.bind_ok {α β : Type} {a : α} {w : Wl} {k : α → Wl → R β} : (R.ok a w).bind k = k a w := rfl
@[simp] theorem R.bind_er {α β : Type} {x : Exn} {w : Wl} {k : α → Wl → R β} : (R.er x w).bind k = .er x w := rfl
@[simp] theorem R.bind_no {α β : Type} {k : α → Wl → R β} : (R.no).bind k = .no := rfl
@[simp] theorem R.noer_ok {α : Type} {a : α} {w : Wl} : (R.ok a w).noer = .ok a w := rfl
abbrev Sl := List (Option D)
abbrev DE := Sl → Wl → R D
abbrev DT := Sl → Wl → R Bool
abbrev DA := Sl → Wl → R (List D)
abbrev DG := D → Sl → Option Sl
inductive RS where
  | nx (s : Sl) (w : Wl) | rt (d : D) (w : Wl) | bk (s : Sl) (w : Wl) | ct (s : Sl) (w : Wl) | er (x : Exn) (s : Sl) (w : Wl) | no
abbrev DS := Sl → Wl → RS
abbrev DF := List D → Wl → R D

/-- what an exception is -/
def ErrV (mg : Str → Option Value) (wa : Addr) (Hf : Hp) (x : Exn) (cls : Value) (dx : Option Addr) : Prop :=
  ∃ (C d : Addr) (vs : List (Str × V)), mg x.name = some (.ref C) ∧ cls = .ref C ∧ dx = some d ∧ Hf d = some (.xd vs) ∧ vs.map (·.1) = x.fs.map (·.1) ∧ Reps wa Hf (vs.map (·.2)) (x.fs.map (·.2))
def Fin {α : Type} (wa : Addr) (Hf H : Hp) (r : R α) (Ok : α → Wl → Hp → Hp → Prop) (Er : Exn → Wl → Hp → Hp → Prop) : Prop := match r with
  | .ok a w' => ∀ H' Hf', Go wa H Hf H' Hf' → Base wa Hf' H' w' → Ok a w' H' Hf'
  | .er x w' => ∀ H' Hf', Go wa H Hf H' Hf' → Base wa Hf' H' w' → Er x w' H' Hf'
  | .no => False
section
variable {wa : Addr} {Hf H : Hp} {α β : Type}
theorem Fin.bind {r : R α} {k : α → Wl → R β} {Ok : β → Wl → Hp → Hp → Prop} {Er : Exn → Wl → Hp → Hp → Prop} (h : Fin wa Hf H (r.bind k) Ok Er) :
    Fin wa Hf H r (fun a w1 H1 Hf1 => Fin wa Hf1 H1 (k a w1) Ok Er) Er := by
  cases r with
  | ok a w1 =>
    intro H1 Hf1 g b
    have h : Fin wa Hf H (k a w1) Ok Er := h
    cases e : k a w1 with
    | ok a2 w2 => rw [e] at h; exact fun H2 Hf2 g2 b2 => h H2 Hf2 (g.trans g2) b2
    | er x w2 => rw [e] at h; exact fun H2 Hf2 g2 b2 => h H2 Hf2 (g.trans g2) b2
    | no => rw [e] at h; exact h
  | er x w1 => exact h
  | no => exact h
theorem Fin.mono {r : R α} {Ok Ok' : α → Wl → Hp → Hp → Prop} {Er Er' : Exn → Wl → Hp → Hp → Prop} (h : Fin wa Hf H r Ok Er)
    (ho : ∀ a w' H' Hf', Go wa H Hf H' Hf' → Base wa Hf' H' w' → Ok a w' H' Hf' → Ok' a w' H' Hf') (he : ∀ x w' H' Hf', Go wa H Hf H' Hf' → Base wa Hf' H' w' → Er x w' H' Hf' → Er' x w' H' Hf') : Fin wa Hf H r Ok' Er' := by
  cases r with
  | ok a w1 => exact fun H1 Hf1 g b => ho _ _ _ _ g b (h H1 Hf1 g b)
  | er x w1 => exact fun H1 Hf1 g b => he _ _ _ _ g b (h H1 Hf1 g b)
  | no => exact h
theorem Fin.here {a : α} {w : Wl} {Ok : α → Wl → Hp → Hp → Prop} {Er : Exn → Wl → Hp → Hp → Prop} (h : Fin wa Hf H (.ok a w) Ok Er) (b : Base wa Hf H w) : Ok a w H Hf := h H Hf Go.refl b
theorem Fin.noer {r : R α} {Ok : α → Wl → Hp → Hp → Prop} {Er Er' : Exn → Wl → Hp → Hp → Prop} (h : Fin wa Hf H r.noer Ok Er) : Fin wa Hf H r Ok Er' := by
  cases r with
  | ok a w1 => exact h
  | er x w1 => exact False.elim h
  | no => exact h
end

/-! ### slots -/
theorem nt_dT {kvs : List (List Key × V)} : NT (.dT kvs) := fun _ z => nomatch z
theorem nt_dK {kvs : List (Key × V)} : NT (.dK kvs) := fun _ z => nomatch z
theorem nu_dT {kvs : List (List Key × V)} : NU (.dT kvs) := ⟨nt_dT, fun _ z => nomatch z⟩
theorem nu_dK {kvs : List (Key × V)} : NU (.dK kvs) := ⟨nt_dK, fun _ z => nomatch z⟩
/-- what a dict holds -/
inductive DicR (wa : Addr) (Hf : Hp) : HO → DKs → List D → Prop
  | t {kvs : List (List Key × V)} {ks : List (List Int)} {xs : List D} : kvs.map (·.1) = ks.map keyT → Reps wa Hf (kvs.map (·.2)) xs → DicR wa Hf (.dT kvs) (.t ks) xs
  | k {kvs : List (Key × V)} {ks : List Key} {xs : List D} : kvs.map (·.1) = ks → Reps wa Hf (kvs.map (·.2)) xs → DicR wa Hf (.dK kvs) (.k ks) xs
theorem DicR.mono {wa : Addr} {Hf Hf' : Hp} {o : HO} {ks : DKs} {xs : List D} (r : DicR wa Hf o ks xs) (e : Ex Hf Hf') : DicR wa Hf' o ks xs := by
  cases r with
  | t h r => exact .t h (r.mono e)
  | k h r => exact .k h (r.mono e)
theorem DicR.nt {wa : Addr} {Hf : Hp} {o : HO} {ks : DKs} {xs : List D} (r : DicR wa Hf o ks xs) : NT o := by
  cases r with
  | t h r => exact nt_dT
  | k h r => exact nt_dK
theorem DicR.nu {wa : Addr} {Hf : Hp} {o : HO} {ks : DKs} {xs : List D} (r : DicR wa Hf o ks xs) : NU o := by
  cases r with
  | t h r => exact nu_dT
  | k h r => exact nu_dK
/-- a value that only its slot knows -/
def IsO (d : D) : Prop := (∃ xs, d = .own xs) ∨ ∃ ks xs, d = .dct ks xs
theorem isO_own {xs : List D} : IsO (.own xs) := .inl ⟨xs, rfl⟩
theorem isO_dct {ks : DKs} {xs : List D} : IsO (.dct ks xs) := .inr ⟨ks, xs, rfl⟩
structure Slots (wa : Addr) (Hf H : Hp) (σ : L2.St) (s : Sl) : Prop where
  len : σ.length = s.length
  val : ∀ (i : Nat) (d : D), s[i]? = some (some d) → ¬ IsO d → ∃ v, σ[i]? = some (some v) ∧ Rep wa Hf v d
  own : ∀ (i : Nat) (xs : List D), s[i]? = some (some (.own xs)) → ∃ p vs, σ[i]? = some (some (.ref p)) ∧ H p = some (.lst vs) ∧ Hf p = none ∧ p ≠ wa ∧ Reps wa Hf vs xs
  dic : ∀ (i : Nat) (ks : DKs) (xs : List D), s[i]? = some (some (.dct ks xs)) → ∃ p o, σ[i]? = some (some (.ref p)) ∧ H p = some o ∧ Hf p = none ∧ p ≠ wa ∧ DicR wa Hf o ks xs
  inj : ∀ (i j : Nat) (d e : D) (p : Addr), s[i]? = some (some d) → IsO d → s[j]? = some (some e) → IsO e → σ[i]? = some (some (.ref p)) → σ[j]? = some (some (.ref p)) → i = j
def OwnNew (H0 : Hp) (σ : L2.St) (s : Sl) : Prop := ∀ (i : Nat) (d : D) (p : Addr), s[i]? = some (some d) → IsO d → σ[i]? = some (some (.ref p)) → Fr H0 p
theorem rep_own {wa : Addr} {Hf : Hp} {v : V} {xs : List D} : ¬ Rep wa Hf v (.own xs) := fun h => nomatch h
theorem rep_isO {wa : Addr} {Hf : Hp} {v : V} {d : D} (r : Rep wa Hf v d) : ¬ IsO d := fun h => by
  rcases h with ⟨xs, rfl⟩ | ⟨ks, xs, rfl⟩
  · exact nomatch r
  · exact nomatch r
section
variable {wa : Addr} {Hf Hf' H H' H0 : Hp} {σ : L2.St} {s : Sl}
theorem Slots.go (x : Slots wa Hf H σ s) (g : Go wa H Hf H' Hf') : Slots wa Hf' H' σ s :=
  ⟨x.len, fun i d e n => let ⟨v, h1, h2⟩ := x.val i d e n; ⟨v, h1, h2.mono g.ex⟩, fun i xs e => by
    obtain ⟨p, vs, h1, h2, h3, h4, h5⟩ := x.own i xs e
    exact ⟨p, vs, h1, g.keep p _ h4 h2, (g.new p _ h2).trans h3, h4, h5.mono g.ex⟩, fun i ks xs e => by
    obtain ⟨p, kvs, h1, h2, h3, h4, h5⟩ := x.dic i ks xs e
    exact ⟨p, kvs, h1, g.keepN p _ h4 h5.nt h2, (g.newN p _ h5.nu h2).trans h3, h4, h5.mono g.ex⟩, x.inj⟩
/-- the object of such a slot -/
theorem Slots.oAt (x : Slots wa Hf H σ s) {j : Nat} {e : D} (h : s[j]? = some (some e)) (io : IsO e) : ∃ q o, σ[j]? = some (some (.ref q)) ∧ H q = some o ∧ NT o ∧ Hf q = none ∧ q ≠ wa := by
  rcases io with ⟨xs, rfl⟩ | ⟨ks, xs, rfl⟩
  · obtain ⟨q, vs, k1, k2, k3, k4, _⟩ := x.own j xs h
    exact ⟨q, _, k1, k2, nt_lst, k3, k4⟩
  · obtain ⟨q, vs, k1, k2, k3, k4, k5⟩ := x.dic j ks xs h
    exact ⟨q, _, k1, k2, k5.nt, k3, k4⟩
/-- where a slot that is written stands -/
theorem set_key {σ : L2.St} {s : Sl} {i : Nat} {v : V} {d : D} (hl : σ.length = s.length) (j : Nat) (e : Option D) (h : (s.set i (some d))[j]? = some e) : (j = i ∧ e = some d ∧ (σ.set i (some v))[j]? = some (some v)) ∨ (j ≠ i ∧ s[j]? = some e ∧ (σ.set i (some v))[j]? = σ[j]?) := by
  by_cases hj : j = i
  · subst hj
    rw [List.getElem?_set] at h
    split at h
    · split at h
      · rename_i h1 h2
        refine .inl ⟨rfl, (Option.some.inj h).symm, ?_⟩
        rw [List.getElem?_set_self (by rw [hl]; exact h2)]
      · cases h
    · rename_i h1
      exact absurd rfl h1
  · refine .inr ⟨hj, ?_, List.getElem?_set_ne (Ne.symm hj)⟩
    rw [List.getElem?_set_ne (Ne.symm hj)] at h
    exact h
theorem Slots.set (x : Slots wa Hf H σ s) {i : Nat} {v : V} {d : D} (r : Rep wa Hf v d) : Slots wa Hf H (σ.set i (some v)) (s.set i (some d)) := by
  have nd := rep_isO r
  refine ⟨by simp [x.len], fun j e h n => ?_, fun j xs h => ?_, fun j ks xs h => ?_, fun j k e u p h1 n1 h2 n2 h3 h4 => ?_⟩
  · rcases set_key (v := v) x.len j _ h with ⟨rfl, e1, e2⟩ | ⟨_, e1, e2⟩
    · cases e1
      exact ⟨v, e2, r⟩
    · rw [e2]
      exact x.val j e e1 n
  · rcases set_key (v := v) x.len j _ h with ⟨rfl, e1, e2⟩ | ⟨_, e1, e2⟩
    · cases e1
      exact absurd isO_own nd
    · rw [e2]
      exact x.own j xs e1
  · rcases set_key (v := v) x.len j _ h with ⟨rfl, e1, e2⟩ | ⟨_, e1, e2⟩
    · cases e1
      exact absurd isO_dct nd
    · rw [e2]
      exact x.dic j ks xs e1
  · rcases set_key (v := v) x.len j _ h1 with ⟨_, e1, _⟩ | ⟨_, e1, e2⟩
    · cases e1
      exact absurd n1 nd
    · rcases set_key (v := v) x.len k _ h2 with ⟨_, f1, _⟩ | ⟨_, f1, f2⟩
      · cases f1
        exact absurd n2 nd
      · rw [e2] at h3
        rw [f2] at h4
        exact x.inj j k e u p e1 n1 f1 n2 h3 h4
theorem OwnNew.set (x : OwnNew H0 σ s) {i : Nat} {v : V} {d : D} (nd : ¬ IsO d) : OwnNew H0 (σ.set i (some v)) (s.set i (some d)) := fun j e p h1 n1 h2 => by
  by_cases hj : j = i
  · subst hj
    rw [List.getElem?_set] at h1
    split at h1
    · split at h1
      · cases h1
        exact absurd n1 nd
      · cases h1
    · rename_i hne
      exact absurd rfl hne
  · rw [List.getElem?_set_ne (Ne.symm hj)] at h1 h2
    exact x j e p h1 n1 h2
/-- a new list, or a new dict, into a slot -/
theorem Slots.setO (x : Slots wa Hf H σ s) {i : Nat} {p : Addr} {d : D} (io : IsO d) (hl : ∀ xs, d = .own xs → ∃ vs, H p = some (.lst vs) ∧ Reps wa Hf vs xs) (hd : ∀ ks xs, d = .dct ks xs → ∃ o, H p = some o ∧ DicR wa Hf o ks xs) (hf : Hf p = none) (hw : p ≠ wa)
    (hn : ∀ (j : Nat) (e : D), s[j]? = some (some e) → IsO e → σ[j]? ≠ some (some (.ref p))) : Slots wa Hf H (σ.set i (some (.ref p))) (s.set i (some d)) := by
  refine ⟨by simp [x.len], fun j e h n => ?_, fun j ys h => ?_, fun j ks ys h => ?_, fun j k e u q h1 n1 h2 n2 h3 h4 => ?_⟩
  · rcases set_key (v := .ref p) x.len j _ h with ⟨rfl, e1, e2⟩ | ⟨_, e1, e2⟩
    · cases e1
      exact absurd io n
    · rw [e2]
      exact x.val j e e1 n
  · rcases set_key (v := .ref p) x.len j _ h with ⟨rfl, e1, e2⟩ | ⟨_, e1, e2⟩
    · obtain ⟨vs, k1, k2⟩ := hl ys (Option.some.inj e1).symm
      exact ⟨p, vs, e2, k1, hf, hw, k2⟩
    · rw [e2]
      exact x.own j ys e1
  · rcases set_key (v := .ref p) x.len j _ h with ⟨rfl, e1, e2⟩ | ⟨_, e1, e2⟩
    · obtain ⟨vs, k1, k2⟩ := hd ks ys (Option.some.inj e1).symm
      exact ⟨p, vs, e2, k1, hf, hw, k2⟩
    · rw [e2]
      exact x.dic j ks ys e1
  · rcases set_key (v := .ref p) x.len j _ h1 with ⟨hji, e1, e2⟩ | ⟨hji, e1, e2⟩
    · rcases set_key (v := .ref p) x.len k _ h2 with ⟨hki, f1, f2⟩ | ⟨_, f1, f2⟩
      · rw [hji, hki]
      · rw [e2] at h3
        cases h3
        rw [f2] at h4
        exact absurd h4 (hn k u f1 n2)
    · rcases set_key (v := .ref p) x.len k _ h2 with ⟨_, f1, f2⟩ | ⟨_, f1, f2⟩
      · rw [f2] at h4
        cases h4
        rw [e2] at h3
        exact absurd h3 (hn j e e1 n1)
      · rw [e2] at h3
        rw [f2] at h4
        exact x.inj j k e u q e1 n1 f1 n2 h3 h4
theorem Slots.setOwn (x : Slots wa Hf H σ s) {i : Nat} {p : Addr} {vs : List V} {xs : List D} (hp : H p = some (.lst vs)) (hf : Hf p = none) (hw : p ≠ wa) (r : Reps wa Hf vs xs)
    (hn : ∀ (j : Nat) (e : D), s[j]? = some (some e) → IsO e → σ[j]? ≠ some (some (.ref p))) : Slots wa Hf H (σ.set i (some (.ref p))) (s.set i (some (.own xs))) :=
  x.setO isO_own (fun ys e => by cases e; exact ⟨vs, hp, r⟩) (fun ks ys e => nomatch e) hf hw hn
theorem Slots.setDct (x : Slots wa Hf H σ s) {i : Nat} {p : Addr} {o : HO} {ks : DKs} {xs : List D} (hp : H p = some o) (hf : Hf p = none) (hw : p ≠ wa) (r : DicR wa Hf o ks xs)
    (hn : ∀ (j : Nat) (e : D), s[j]? = some (some e) → IsO e → σ[j]? ≠ some (some (.ref p))) : Slots wa Hf H (σ.set i (some (.ref p))) (s.set i (some (.dct ks xs))) :=
  x.setO isO_dct (fun ys e => nomatch e) (fun ks ys e => by cases e; exact ⟨o, hp, r⟩) hf hw hn
theorem OwnNew.setO (x : OwnNew H0 σ s) {i : Nat} {p : Addr} {d : D} (hl : σ.length = s.length) (h0 : Fr H0 p) : OwnNew H0 (σ.set i (some (.ref p))) (s.set i (some d)) := fun j e q h1 n1 h2 => by
  by_cases hj : j = i
  · subst hj
    rw [List.getElem?_set] at h1
    split at h1
    · split at h1
      · rename_i _ hlt
        rw [List.getElem?_set_self (by rw [hl]; exact hlt)] at h2
        cases h2
        exact h0
      · cases h1
    · rename_i hne
      exact absurd rfl hne
  · rw [List.getElem?_set_ne (Ne.symm hj)] at h1 h2
    exact x j e q h1 n1 h2
theorem OwnNew.setOwn (x : OwnNew H0 σ s) {i : Nat} {p : Addr} {xs : List D} (hl : σ.length = s.length) (h0 : Fr H0 p) : OwnNew H0 (σ.set i (some (.ref p))) (s.set i (some (.own xs))) := x.setO hl h0
/-- a slot's own object is written -/
theorem Slots.writeO (x : Slots wa Hf H σ s) {i : Nat} {d0 d : D} {p : Addr} {o : HO} (hi : s[i]? = some (some d0)) (i0 : IsO d0) (hp : σ[i]? = some (some (.ref p))) (io : IsO d) (hf : Hf p = none) (hw : p ≠ wa)
    (hl : ∀ xs, d = .own xs → ∃ vs, o = .lst vs ∧ Reps wa Hf vs xs) (hd : ∀ ks xs, d = .dct ks xs → DicR wa Hf o ks xs) : Slots wa Hf (upd H p o) σ (s.set i (some d)) := by
  have hlt : i < s.length := (List.getElem?_eq_some_iff.mp hi).1
  have key : ∀ (j : Nat) (e : Option D), (s.set i (some d))[j]? = some e → (j = i ∧ e = some d) ∨ (j ≠ i ∧ s[j]? = some e) := fun j e h => by
    by_cases hj : j = i
    · subst hj
      rw [List.getElem?_set_self hlt] at h
      exact .inl ⟨rfl, (Option.some.inj h).symm⟩
    · rw [List.getElem?_set_ne (Ne.symm hj)] at h
      exact .inr ⟨hj, h⟩
  refine ⟨by simp [x.len], fun j e h n => ?_, fun j zs h => ?_, fun j ks zs h => ?_, fun j k e u q e1 n1 e2 n2 e3 e4 => ?_⟩
  · rcases key j _ h with ⟨_, e1⟩ | ⟨_, e1⟩
    · cases e1
      exact absurd io n
    · exact x.val j e e1 n
  · rcases key j _ h with ⟨rfl, e1⟩ | ⟨hj, e1⟩
    · obtain ⟨vs, k1, k2⟩ := hl zs (Option.some.inj e1).symm
      exact ⟨p, vs, hp, by rw [upd_same, k1], hf, hw, k2⟩
    · obtain ⟨q, us, k1, k2, k3, k4, k5⟩ := x.own j zs e1
      have hne : q ≠ p := fun z => by
        subst z
        exact hj (x.inj j i _ _ q e1 isO_own hi i0 k1 hp)
      exact ⟨q, us, k1, by rw [upd_ne hne]; exact k2, k3, k4, k5⟩
  · rcases key j _ h with ⟨rfl, e1⟩ | ⟨hj, e1⟩
    · exact ⟨p, o, hp, upd_same, hf, hw, hd ks zs (Option.some.inj e1).symm⟩
    · obtain ⟨q, us, k1, k2, k3, k4, k5⟩ := x.dic j ks zs e1
      have hne : q ≠ p := fun z => by
        subst z
        exact hj (x.inj j i _ _ q e1 isO_dct hi i0 k1 hp)
      exact ⟨q, us, k1, by rw [upd_ne hne]; exact k2, k3, k4, k5⟩
  · have o1 : ∃ z, s[j]? = some (some z) ∧ IsO z := by
      rcases key j _ e1 with ⟨rfl, _⟩ | ⟨_, f⟩
      · exact ⟨d0, hi, i0⟩
      · exact ⟨e, f, n1⟩
    have o2 : ∃ z, s[k]? = some (some z) ∧ IsO z := by
      rcases key k _ e2 with ⟨rfl, _⟩ | ⟨_, f⟩
      · exact ⟨d0, hi, i0⟩
      · exact ⟨u, f, n2⟩
    obtain ⟨z1, o1, m1⟩ := o1
    obtain ⟨z2, o2, m2⟩ := o2
    exact x.inj j k z1 z2 q o1 m1 o2 m2 e3 e4
theorem Slots.write (x : Slots wa Hf H σ s) {i : Nat} {xs ys : List D} {p : Addr} {ws : List V} (hi : s[i]? = some (some (.own xs))) (hp : σ[i]? = some (some (.ref p))) (r : Reps wa Hf ws ys) :
    Slots wa Hf (upd H p (.lst ws)) σ (s.set i (some (.own ys))) := by
  obtain ⟨p', vs, h1, h2, h3, h4, h5⟩ := x.own i xs hi
  rw [hp] at h1
  cases h1
  exact x.writeO hi isO_own hp isO_own h3 h4 (fun zs e => by cases e; exact ⟨ws, rfl, r⟩) (fun ks zs e => nomatch e)
theorem Slots.writeD (x : Slots wa Hf H σ s) {i : Nat} {ks ls : DKs} {xs ys : List D} {p : Addr} {o : HO} (hi : s[i]? = some (some (.dct ks xs))) (hp : σ[i]? = some (some (.ref p))) (r : DicR wa Hf o ls ys) :
    Slots wa Hf (upd H p o) σ (s.set i (some (.dct ls ys))) := by
  obtain ⟨p', vs, h1, h2, h3, h4, h5⟩ := x.dic i ks xs hi
  rw [hp] at h1
  cases h1
  exact x.writeO hi isO_dct hp isO_dct h3 h4 (fun zs e => nomatch e) (fun ks zs e => by cases e; exact r)
/-- a slot's own list is read from now on -/
theorem Slots.frz (x : Slots wa Hf H σ s) {i : Nat} {xs : List D} {p : Addr} {vs : List V} (hi : s[i]? = some (some (.own xs))) (hp : σ[i]? = some (some (.ref p))) (hv : H p = some (.lst vs)) :
    Slots wa (upd Hf p (.lst vs)) H σ (s.set i (some (.lst xs))) := by
  have hlt : i < s.length := (List.getElem?_eq_some_iff.mp hi).1
  obtain ⟨p', vs', h1, h2, h3, h4, h5⟩ := x.own i xs hi
  rw [hp] at h1
  cases h1
  rw [hv] at h2
  cases h2
  have e0 : Ex Hf (upd Hf p (.lst vs)) := Ex.new h3
  have key : ∀ (j : Nat) (e : Option D), (s.set i (some (.lst xs)))[j]? = some e → (j = i ∧ e = some (.lst xs)) ∨ (j ≠ i ∧ s[j]? = some e) := fun j e h => by
    by_cases hj : j = i
    · subst hj
      rw [List.getElem?_set_self hlt] at h
      exact .inl ⟨rfl, (Option.some.inj h).symm⟩
    · rw [List.getElem?_set_ne (Ne.symm hj)] at h
      exact .inr ⟨hj, h⟩
  have nl : ¬ IsO (.lst xs) := fun h => by
    rcases h with ⟨ys, e⟩ | ⟨ks, ys, e⟩
    · cases e
    · cases e
  refine ⟨by simp [x.len], fun j e h n => ?_, fun j zs h => ?_, fun j ks zs h => ?_, fun j k e u q e1 n1 e2 n2 e3 e4 => ?_⟩
  · rcases key j _ h with ⟨rfl, e1⟩ | ⟨_, e1⟩
    · cases e1
      exact ⟨_, hp, .lst upd_same (h5.mono e0)⟩
    · obtain ⟨v, k1, k2⟩ := x.val j e e1 n
      exact ⟨v, k1, k2.mono e0⟩
  · rcases key j _ h with ⟨_, e1⟩ | ⟨hj, e1⟩
    · cases e1
    · obtain ⟨q, us, k1, k2, k3, k4, k5⟩ := x.own j zs e1
      have hne : q ≠ p := fun z => by
        subst z
        exact hj (x.inj j i _ _ q e1 isO_own hi isO_own k1 hp)
      exact ⟨q, us, k1, k2, by rw [upd_ne hne]; exact k3, k4, k5.mono e0⟩
  · rcases key j _ h with ⟨_, e1⟩ | ⟨hj, e1⟩
    · cases e1
    · obtain ⟨q, us, k1, k2, k3, k4, k5⟩ := x.dic j ks zs e1
      have hne : q ≠ p := fun z => by
        subst z
        exact hj (x.inj j i _ _ q e1 isO_dct hi isO_own k1 hp)
      exact ⟨q, us, k1, k2, by rw [upd_ne hne]; exact k3, k4, k5.mono e0⟩
  · rcases key j _ e1 with ⟨_, f⟩ | ⟨_, f⟩
    · cases f
      exact absurd n1 nl
    · rcases key k _ e2 with ⟨_, f2⟩ | ⟨_, f2⟩
      · cases f2
        exact absurd n2 nl
      · exact x.inj j k e u q f n1 f2 n2 e3 e4
theorem OwnNew.sub {s' : Sl} (x : OwnNew H0 σ s) (h : ∀ (i : Nat) d, s'[i]? = some (some d) → IsO d → ∃ e, s[i]? = some (some e) ∧ IsO e) : OwnNew H0 σ s' := fun i d p h1 n1 h2 => by
  obtain ⟨e, e1, e2⟩ := h i d h1 n1
  exact x i e p e1 e2 h2
end
end DL

set_option maxHeartbeats 2000000
namespace DL
open PySem PySem.Spec PyProof.Rows L2
variable [TabT] [OldT]
open Evl (Ex)
abbrev Rl (β α : Type) := Addr → Hp → β → α → Prop
abbrev rD : Rl V D := Rep
abbrev rAs : Rl (List V) (List D) := Reps
abbrev rB : Rl Bool Bool := fun _ _ b c => b = c
abbrev rO : Rl (Option Int) (Option Int) := fun _ _ b c => b = c
/-- a fresh list -/
abbrev Er (mg : Str → Option Value) (W : WX) (wa : Addr) (σ : L2.St) : Exn → Wl → Hp → Hp → Prop := fun x _ H' Hf' => ∀ cls dx, ErrV mg wa Hf' x cls dx → W cls dx σ H'
def lf {α β : Type} (rel : Rl β α) (mg : Str → Option Value) (W : WX) (E : Sl → Wl → R α) : L2.St → Hp → (β → Hp → Prop) → Prop := fun σ H Q =>
  ∃ wa Hf sD w, Base wa Hf H w ∧ Slots wa Hf H σ sD ∧ Fin wa Hf H (E sD w) (fun d _ H' Hf' => ∀ v, rel wa Hf' v d → Q v H') (Er mg W wa σ)
/-- the same, the value a list that is new -/
def lfL (mg : Str → Option Value) (W : WX) (E : Sl → Wl → R (List D)) : TE := fun σ H Q =>
  ∃ wa Hf sD w, Base wa Hf H w ∧ Slots wa Hf H σ sD ∧ Fin wa Hf H (E sD w) (fun ds _ H' Hf' => ∀ p vs, Fr H p → H' p = some (.lst vs) → Hf' p = none → p ≠ wa → Reps wa Hf' vs ds → Q (.ref p) H') (Er mg W wa σ)
abbrev lE := lf rD
abbrev lA := lf rAs
abbrev lT := lf rB
abbrev lO := lf rO
section
variable {α β γ δ : Type} {X : Cx} {mg : Str → Option Value} {W : WX} {e a b c : Expr} {pos : Pos} {σ : L2.St} {H : Hp}
theorem weakE {t t' : TE} (h : PE X e t) (i : ∀ σ H Q, t' σ H Q → t σ H Q) : PE X e t' := ⟨fun pins s σ H Q I q => h.run pins s σ H Q I (i σ H Q q)⟩
theorem weakT {t t' : TT} (h : PT X e t) (i : ∀ σ H Q, t' σ H Q → t σ H Q) : PT X e t' := ⟨fun pins s σ H Q I q => h.run pins s σ H Q I (i σ H Q q)⟩
theorem weakW {t t' : TT} (h : PW X e t) (i : ∀ σ H Q, t' σ H Q → t σ H Q) : PW X e t' := ⟨fun wh pins s σ H Q I q => h.run wh pins s σ H Q I (i σ H Q q)⟩
theorem weakA {es : List Expr} {t t' : TA} (h : PA X es t) (i : ∀ σ H Q, t' σ H Q → t σ H Q) : PA X es t' := ⟨fun p pins s σ H Q I q => h.run p pins s σ H Q I (i σ H Q q)⟩
theorem weakO {o : Option Expr} {t t' : TO} (h : PO X o t) (i : ∀ σ H Q, t' σ H Q → t σ H Q) : PO X o t' := ⟨fun pins s σ H Q I q => h.run pins s σ H Q I (i σ H Q q)⟩
theorem orE {t t' : TE} (h : PE X e t) (h' : PE X e t') : PE X e (fun σ H Q => t σ H Q ∨ t' σ H Q) := ⟨fun pins s σ H Q I q => q.elim (fun q => h.run pins s σ H Q I q) fun q => h'.run pins s σ H Q I q⟩
theorem orT {t t' : TT} (h : PT X e t) (h' : PT X e t') : PT X e (fun σ H Q => t σ H Q ∨ t' σ H Q) := ⟨fun pins s σ H Q I q => q.elim (fun q => h.run pins s σ H Q I q) fun q => h'.run pins s σ H Q I q⟩
/-! ### names, constants -/
def getS (s : Sl) (i : Nat) : Option D := match s[i]? with
  | some (some (.own _)) => none
  | some (some (.dct _ _)) => none
  | some (some d) => some d
  | _ => none
def eVar (i : Nat) : DE := fun s w => match getS s i with
  | some d => .ok d w
  | none => .no
def eC (d : D) : DE := fun _ w => .ok d w
theorem getS_some {wa : Addr} {Hf : Hp} {s : Sl} {i : Nat} {d : D} (x : Slots wa Hf H σ s) (h : getS s i = some d) : ∃ v, σ[i]? = some (some v) ∧ Rep wa Hf v d := by
  unfold getS at h
  split at h
  · cases h
  · cases h
  · rename_i d' hn hn2 hi
    cases h
    exact x.val i d hi fun z => by
      rcases z with ⟨xs, z⟩ | ⟨ks, xs, z⟩
      · exact hn xs z
      · exact hn2 ks xs z
  · cases h
theorem pd_var (i : Nat) {x : Str} (hN : X.N[i]? = some x := by rfl) (hv : Vis X.env.scope x := by first | exact Or.inl rfl | exact Or.inr (Or.inl rfl) | exact Or.inr (Or.inr rfl)) (hd : (x == ("__debug__" : Str)) = false := by decide)
    (hcd : (x == ("__classdict__" : Str)) = false := by decide) : PE X (.Name x pos) (lE mg W (eVar i)) := weakE (pe_var hN hv hd hcd) fun σ H Q h => by
  obtain ⟨wa, Hf, sD, w, hb, hs, hf⟩ := h
  unfold eVar at hf
  split at hf
  · rename_i d hi
    obtain ⟨v, h1, h2⟩ := getS_some hs hi
    exact ⟨v, h1, hf.here hb v h2⟩
  · exact hf.elim
theorem pd_c {v : V} {d : D} (h : PE X e (tC v)) (r : ∀ wa Hf, Rep wa Hf v d) : PE X e (lE mg W (eC d)) := weakE h fun σ H Q h => by
  obtain ⟨wa, Hf, sD, w, hb, hs, hf⟩ := h
  exact hf.here hb v (r _ _)
theorem pd_int {i j} : PE X (.Constant (.int i) j pos) (lE mg W (eC (.int i))) := pd_c pe_int fun _ _ => .int i
theorem pd_bl {i j} : PE X (.Constant (.bool i) j pos) (lE mg W (eC (.bl i))) := pd_c pe_bl fun _ _ => .bl i
theorem pd_non {j} : PE X (.Constant .none j pos) (lE mg W (eC .non)) := pd_c pe_non fun _ _ => .non
theorem pd_str {i j} : PE X (.Constant (.str i) j pos) (lE mg W (eC (.str i))) := pd_c pe_str fun _ _ => .str i
theorem pd_globI {x : Str} {i : Int} {t : Tok} (hg : Gl X x) (hm : X.mg x = some (.int i t)) (hd : (x == ("__debug__" : Str)) = false := by decide) : PE X (.Name x pos) (lE mg W (eC (.int i))) := pd_c (pe_glob hg hm (v := .int i) ⟨t, rfl⟩ hd) fun _ _ => .int i
theorem pd_ty {x : Str} {n : String} (hg : Gl X x) (hm : X.mg x = none) (hv : bootBuiltins x = some (.type n)) (hn : x ≠ "__name__" := by decide) (hd : (x == ("__debug__" : Str)) = false := by decide) : PE X (.Name x pos) (lE mg W (eC (.ty n))) :=
  pd_c (pe_bltn (v := .ty n) hg hm hv rfl hn hd) fun _ _ => .ty n

/-! ### operations on values -/
/-- a two-place rule does what f tells -/
def OpD (r : R2) (f : Wl → D → D → Option D) : Prop := ∀ wa Hf H w x y u v z Q, Base wa Hf H w → Rep wa Hf u x → Rep wa Hf v y → f w x y = some z →
  (∀ H' Hf', Go wa H Hf H' Hf' → Base wa Hf' H' w → ∀ v', Rep wa Hf' v' z → Q v' H') → r u v H Q
def UnD (r : V → Hp → VK → Prop) (f : Wl → D → Option D) : Prop := ∀ wa Hf H w x u z Q, Base wa Hf H w → Rep wa Hf u x → f w x = some z →
  (∀ H' Hf', Go wa H Hf H' Hf' → Base wa Hf' H' w → ∀ v', Rep wa Hf' v' z → Q v' H') → r u H Q
def CaD (r : List V → Hp → VK → Prop) (f : Wl → List D → Option D) : Prop := ∀ wa Hf H w ds us z Q, Base wa Hf H w → Reps wa Hf us ds → f w ds = some z →
  (∀ H' Hf', Go wa H Hf H' Hf' → Base wa Hf' H' w → ∀ v', Rep wa Hf' v' z → Q v' H') → r us H Q
/-- a call that makes a list -/
def CaL (r : List V → Hp → VK → Prop) (f : Wl → List D → Option (List D)) : Prop := ∀ wa Hf H w ds us zs Q, Base wa Hf H w → Reps wa Hf us ds → f w ds = some zs →
  (∀ H' Hf' p vs, Go wa H Hf H' Hf' → Base wa Hf' H' w → Fr H p → H' p = some (.lst vs) → Hf' p = none → p ≠ wa → Reps wa Hf' vs zs → Q (.ref p) H') → r us H Q
def OpL (r : R2) (f : Wl → D → D → Option (List D)) : Prop := ∀ wa Hf H w x y u v zs Q, Base wa Hf H w → Rep wa Hf u x → Rep wa Hf v y → f w x y = some zs →
  (∀ H' Hf' p vs, Go wa H Hf H' Hf' → Base wa Hf' H' w → Fr H p → H' p = some (.lst vs) → Hf' p = none → p ≠ wa → Reps wa Hf' vs zs → Q (.ref p) H') → r u v H Q
def opt {α : Type} (o : Option α) (w : Wl) : R α := match o with
  | some z => .ok z w
  | none => .no
@[simp] theorem opt_some {α : Type} {z : α} {w : Wl} : opt (some z) w = .ok z w := rfl
@[simp] theorem opt_none {α : Type} {w : Wl} : opt (none : Option α) w = .no := rfl
theorem Fin.opt {α : Type} {wa : Addr} {Hf H : Hp} {o : Option α} {w : Wl} {Ok : α → Wl → Hp → Hp → Prop} {Er : Exn → Wl → Hp → Hp → Prop} (h : Fin wa Hf H (opt o w) Ok Er) : ∃ z, o = some z ∧ ∀ H' Hf', Go wa H Hf H' Hf' → Base wa Hf' H' w → Ok z w H' Hf' := by
  cases o with
  | none => exact h.elim
  | some z => exact ⟨z, rfl, h⟩
def eBin (f : Wl → D → D → Option D) (A B : DE) : DE := fun s w => (A s w).bind fun x w1 => (B s w1).bind fun y w2 => opt (f w2 x y) w2
def eUn (f : Wl → D → Option D) (A : DE) : DE := fun s w => (A s w).bind fun x w1 => opt (f w1 x) w1
def eCB (f : Wl → List D → Option D) (A : DA) : DE := fun s w => (A s w).bind fun x w1 => opt (f w1 x) w1
variable {A B C : DE} {r r' : R2} {f g : Wl → D → D → Option D}

theorem bin_ok {Q : VK} (hf : OpD r f) (h : lE mg W (eBin f A B) σ H Q) : tOp r (lE mg W A) (lE mg W B) σ H Q := by
  obtain ⟨wa, Hf, sD, w, hb, hs, h⟩ := h
  refine ⟨wa, Hf, sD, w, hb, hs, h.bind.mono (fun x w1 H1 Hf1 g1 b1 q v rv => ?_) (fun _ _ _ _ _ _ q => q)⟩
  refine ⟨wa, Hf1, sD, w1, b1, hs.go g1, q.bind.mono (fun y w2 H2 Hf2 g2 b2 q2 v2 rv2 => ?_) (fun _ _ _ _ _ _ q => q)⟩
  obtain ⟨z, e, q3⟩ := q2.opt
  exact hf wa Hf2 H2 w2 x y v v2 z Q b2 (rv.mono g2.ex) rv2 e q3
theorem un_ok {Q : VK} {r : V → Hp → VK → Prop} {f : Wl → D → Option D} (hf : UnD r f) (h : lE mg W (eUn f A) σ H Q) : tUn r (lE mg W A) σ H Q := by
  obtain ⟨wa, Hf, sD, w, hb, hs, h⟩ := h
  refine ⟨wa, Hf, sD, w, hb, hs, h.bind.mono (fun x w1 H1 Hf1 g1 b1 q v rv => ?_) (fun _ _ _ _ _ _ q => q)⟩
  obtain ⟨z, e, q3⟩ := q.opt
  exact hf wa Hf1 H1 w1 x v z Q b1 rv e q3
theorem cb_ok {Q : VK} {r : List V → Hp → VK → Prop} {f : Wl → List D → Option D} {A : DA} (hf : CaD r f) (h : lE mg W (eCB f A) σ H Q) : tCB r (lA mg W A) σ H Q := by
  obtain ⟨wa, Hf, sD, w, hb, hs, h⟩ := h
  refine ⟨wa, Hf, sD, w, hb, hs, h.bind.mono (fun x w1 H1 Hf1 g1 b1 q v rv => ?_) (fun _ _ _ _ _ _ q => q)⟩
  obtain ⟨z, e, q3⟩ := q.opt
  exact hf wa Hf1 H1 w1 x v z Q b1 rv e q3
def eCBL (f : Wl → List D → Option (List D)) (A : DA) : DA := fun s w => (A s w).bind fun x w1 => opt (f w1 x) w1
def eBinL (f : Wl → D → D → Option (List D)) (A B : DE) : DA := fun s w => (A s w).bind fun x w1 => (B s w1).bind fun y w2 => opt (f w2 x y) w2
theorem cbL_ok {Q : VK} {r : List V → Hp → VK → Prop} {f : Wl → List D → Option (List D)} {A : DA} (hf : CaL r f) (h : lfL mg W (eCBL f A) σ H Q) : tCB r (lA mg W A) σ H Q := by
  obtain ⟨wa, Hf, sD, w, hb, hs, h⟩ := h
  refine ⟨wa, Hf, sD, w, hb, hs, h.bind.mono (fun x w1 H1 Hf1 g1 b1 q v rv => ?_) (fun _ _ _ _ _ _ q => q)⟩
  obtain ⟨z, e, q3⟩ := q.opt
  exact hf wa Hf1 H1 w1 x v z Q b1 rv e fun H' Hf' p vs g b n e1 e2 e3 r => q3 H' Hf' g b p vs (g1.fr n) e1 e2 e3 r
theorem binL_ok {Q : VK} {f : Wl → D → D → Option (List D)} (hf : OpL r f) (h : lfL mg W (eBinL f A B) σ H Q) : tOp r (lE mg W A) (lE mg W B) σ H Q := by
  obtain ⟨wa, Hf, sD, w, hb, hs, h⟩ := h
  refine ⟨wa, Hf, sD, w, hb, hs, h.bind.mono (fun x w1 H1 Hf1 g1 b1 q v rv => ?_) (fun _ _ _ _ _ _ q => q)⟩
  refine ⟨wa, Hf1, sD, w1, b1, hs.go g1, q.bind.mono (fun y w2 H2 Hf2 g2 b2 q2 v2 rv2 => ?_) (fun _ _ _ _ _ _ q => q)⟩
  obtain ⟨z, e, q3⟩ := q2.opt
  exact hf wa Hf2 H2 w2 x y v v2 z Q b2 (rv.mono g2.ex) rv2 e fun H' Hf' p vs g b n e1 e2 e3 r => q3 H' Hf' g b p vs ((g1.trans g2).fr n) e1 e2 e3 r
/-- a new list, read from now on -/
def eL (A : DA) : DE := fun s w => (A s w).bind fun ds w1 => .ok (.lst ds) w1
theorem eL_ok {Q : VK} {A : DA} (h : lE mg W (eL A) σ H Q) : lfL mg W A σ H Q := by
  obtain ⟨wa, Hf, sD, w, hb, hs, h⟩ := h
  refine ⟨wa, Hf, sD, w, hb, hs, ?_⟩
  unfold eL at h
  cases ea : A sD w with
  | ok ds w1 =>
    rw [ea] at h
    intro H1 Hf1 g1 b1 p vs n e1 e2 e3 rv
    have ex : Ex Hf1 (upd Hf1 p (.lst vs)) := Ex.new e2
    have g2 : Go wa H Hf H1 (upd Hf1 p (.lst vs)) := ⟨g1.keepN, g1.ex.trans ex, fun a o t h => by rw [upd_ne (ne_of_fr h t.1 n)]; exact g1.newN a o t h, g1.thereN⟩
    have b2 : Base wa (upd Hf1 p (.lst vs)) H1 w1 := ⟨fun a u h => by
      by_cases hp : a = p
      · subst hp; rw [upd_same] at h; rw [← h]; exact e1
      · rw [upd_ne hp] at h; exact b1.ex a u h, b1.well, by rw [upd_ne (Ne.symm e3)]; exact b1.nw, b1.tb, nt_upd b1.nt nt_lst, b1.od.trans ex⟩
    exact h H1 _ g2 b2 (.ref p) (.lst upd_same (rv.mono ex))
  | er x w1 => rw [ea] at h; exact h
  | no => rw [ea] at h; exact h
theorem pd_L {A : DA} (h : PE X e (lfL mg W A)) : PE X e (lE mg W (eL A)) := weakE h fun _ _ _ q => eL_ok q
end
end DL

set_option maxHeartbeats 2000000
namespace DL
open PySem PySem.Spec PyProof.Rows L2
variable [TabT] [OldT]
open Evl (Ex)
section
variable {α β γ δ : Type} {X : Cx} {mg : Str → Option Value} {W : WX} {e a b c : Expr} {pos : Pos} {σ : L2.St} {H : Hp} {A B C : DE} {r r' : R2} {f g : Wl → D → D → Option D}
theorem frzL {wa : Addr} {Hf H : Hp} {w : Wl} {Q : VK} {z : D} {vs : List V} {ds : List D} (hb : Base wa Hf H w) (rv : Reps wa Hf vs ds) (q : ∀ H' Hf', Go wa H Hf H' Hf' → Base wa Hf' H' w → ∀ v', Rep wa Hf' v' (.lst ds) → Q v' H') : ∀ p, H p = none → Q (.ref p) (upd H p (.lst vs)) := fun p hp =>
  q _ _ (Go.newF hb.ex hp) (hb.newF hp) _ (.lst upd_same (rv.mono (Ex.new (Evl.fresh_back hb.ex hp))))
theorem frzT {wa : Addr} {Hf H : Hp} {w : Wl} {Q : VK} {z : D} {vs : List V} {ds : List D} (hb : Base wa Hf H w) (rv : Reps wa Hf vs ds) (q : ∀ H' Hf', Go wa H Hf H' Hf' → Base wa Hf' H' w → ∀ v', Rep wa Hf' v' (.tup ds) → Q v' H') : ∀ p, H p = none → Q (.ref p) (upd H p (.tup vs)) := fun p hp =>
  q _ _ (Go.newF hb.ex hp) (hb.newF hp) _ (.tup upd_same (rv.mono (Ex.new (Evl.fresh_back hb.ex hp))))
/-! ### two-place operators -/
theorem pd_bin {op : Operator} (ho : OpR X (binaryOp op) r) (hf : OpD r f) (ha : PE X a (lE mg W A)) (hb : PE X b (lE mg W B)) : PE X (.BinOp a op b pos) (lE mg W (eBin f A B)) := weakE (pe_op ho ha hb) fun _ _ _ q => bin_ok hf q
theorem pd_un {op : UnaryOp} {r : V → Hp → VK → Prop} {f : Wl → D → Option D} (ho : UnR X (unaryOp op) r) (hf : UnD r f) (ha : PE X a (lE mg W A)) : PE X (.UnaryOp op a pos) (lE mg W (eUn f A)) := weakE (pe_un ho ha) fun _ _ _ q => un_ok hf q
def lim : Nat := 16000000
theorem lim_le {n : Nat} (h : n ≤ lim) : n ≤ sizeLine := by
  rw [sizeLine_eq]
  have : lim = 16000000 := rfl
  omega
def fAdd : Wl → D → D → Option D := fun _ x y => match x, y with
  | .int i, .int j => some (.int (i + j))
  | .tup xs, .tup ys => if xs.length + ys.length ≤ lim then some (.tup (xs ++ ys)) else none
  | .lst xs, .lst ys => if xs.length + ys.length ≤ lim then some (.lst (xs ++ ys)) else none
  | .str x, .str y => if x.length + y.length ≤ lim then some (.str (x ++ y)) else none
  | _, _ => none
def rAddS : R2 := fun x y H Q => ∃ i j, x = .str i ∧ y = .str j ∧ i.length + j.length ≤ sizeLine ∧ Q (.str (i ++ j)) H
def rAddA (K : PySem.W.Frag) : R2 := fun x y H Q => (rI0 (fun i j => .int (i + j)) x y H Q ∨ rCatA K x y H Q) ∨ rCat x y H Q ∨ rAddS x y H Q
theorem op_addA : OpR X (binaryOp .Add) (rAddA X.K) := (op_add.or op_catA).or (op_cat.or op_add_str)
theorem opd_add {K : PySem.W.Frag} : OpD (rAddA K) fAdd := by
  intro wa Hf H w x y u v z Q hb ru rv h q
  unfold fAdd at h
  split at h
  · cases h
    cases ru
    cases rv
    exact .inl (.inl ⟨_, _, rfl, rfl, q _ _ Go.refl hb _ (.int _)⟩)
  · split at h
    · rename_i hz
      cases h
      cases ru with
      | tup h1 r1 =>
        cases rv with
        | tup h2 r2 =>
          have l1 := r1.length
          have l2 := r2.length
          refine .inl (.inr ⟨_, _, _, _, rfl, rfl, SqT.of (hb.ex _ _ h1), SqT.of (hb.ex _ _ h2), lim_le (by omega), fun e => ?_, fun _ e => ?_, fun _ _ => frzT (z := .non) hb (r1.append r2) q⟩)
          · subst e
            cases r1
            exact q _ _ Go.refl hb _ (.tup h2 (by simpa using r2))
          · subst e
            cases r2
            exact q _ _ Go.refl hb _ (.tup h1 (by simpa using r1))
    · cases h
  · split at h
    · rename_i hz
      cases h
      cases ru with
      | lst h1 r1 =>
        cases rv with
        | lst h2 r2 =>
          have l1 := r1.length
          have l2 := r2.length
          exact .inr (.inl ⟨_, _, _, _, rfl, rfl, hb.ex _ _ h1, hb.ex _ _ h2, lim_le (by omega), frzL (z := .non) hb (r1.append r2) q⟩)
    · cases h
  · split at h
    · rename_i hz
      cases h
      cases ru
      cases rv
      exact .inr (.inr ⟨_, _, rfl, rfl, lim_le hz, q _ _ Go.refl hb _ (.str _)⟩)
    · cases h
  · cases h
theorem pd_add (ha : PE X a (lE mg W A)) (hb : PE X b (lE mg W B)) : PE X (.BinOp a .Add b pos) (lE mg W (eBin fAdd A B)) := pd_bin op_addA opd_add ha hb
def fSub : Wl → D → D → Option D := fun _ x y => match x, y with
  | .int i, .int j => some (.int (i - j))
  | _, _ => none
theorem pd_sub (ha : PE X a (lE mg W A)) (hb : PE X b (lE mg W B)) : PE X (.BinOp a .Sub b pos) (lE mg W (eBin fSub A B)) := pd_bin op_sub (fun wa Hf H w x y u v z Q hb ru rv h q => by
  unfold fSub at h
  split at h
  · cases h
    cases ru
    cases rv
    exact ⟨_, _, rfl, rfl, q _ _ Go.refl hb _ (.int _)⟩
  · cases h) ha hb
/-- factors that the model multiplies: together below a million bits -/
def mulOk (i j : Int) : Prop := i.natAbs.log2 + j.natAbs.log2 < 1000000
instance (i j : Int) : Decidable (mulOk i j) := by unfold mulOk; infer_instance
def fMul : Wl → D → D → Option D := fun _ x y => match x, y with
  | .int i, .int j => if mulOk i j then some (.int (i * j)) else none
  | .lst xs, .int k => if 0 ≤ k ∧ k ≤ 1000000 ∧ xs.length * k.toNat ≤ lim then some (.lst (List.replicate k.toNat xs).flatten) else none
  | .tup xs, .int k => if xs ≠ [] ∧ 2 ≤ k ∧ k ≤ 1000 ∧ xs.length ≤ 1000 then some (.tup (List.replicate k.toNat xs).flatten) else none
  | _, _ => none
def rMulA (K : PySem.W.Frag) : R2 := fun x y H Q => rI CMulW (fun i j => .int (i * j)) x y H Q ∨ rRep x y H Q ∨ rRepT K x y H Q
theorem op_mulA : OpR X (binaryOp .Mult) (rMulA X.K) := op_mulW.or (op_rep.or op_repT)
theorem opd_mul {K : PySem.W.Frag} : OpD (rMulA K) fMul := by
  intro wa Hf H w x y u v z Q hb ru rv h q
  unfold fMul at h
  split at h
  · split at h
    · rename_i hm
      cases h
      cases ru
      cases rv
      exact .inl ⟨_, _, rfl, rfl, hm, q _ _ Go.refl hb _ (.int _)⟩
    · cases h
  · split at h
    · rename_i hm
      cases h
      cases rv
      cases ru with
      | lst h1 r1 =>
        have l1 := r1.length
        exact .inr (.inl ⟨_, _, _, rfl, rfl, hb.ex _ _ h1, by omega, by omega, by rw [l1]; exact lim_le hm.2.2, frzL (z := .non) hb (r1.rep _) q⟩)
    · cases h
  · split at h
    · rename_i hm
      cases h
      cases rv
      cases ru with
      | tup h1 r1 =>
        have l1 := r1.length
        refine .inr (.inr ⟨_, _, _, rfl, rfl, SqT.of (hb.ex _ _ h1), fun e => ?_, hm.2.1, hm.2.2.1, by omega, frzT (z := .non) hb (r1.rep _) q⟩)
        subst e
        cases r1
        exact hm.1 rfl
    · cases h
  · cases h
theorem pd_mul (ha : PE X a (lE mg W A)) (hb : PE X b (lE mg W B)) : PE X (.BinOp a .Mult b pos) (lE mg W (eBin fMul A B)) := pd_bin op_mulA opd_mul ha hb
def divOk (j : Int) : Prop := j ≠ 0 ∧ j.natAbs.log2 < 9000
instance (j : Int) : Decidable (divOk j) := by unfold divOk; infer_instance
def fDiv : Wl → D → D → Option D := fun _ x y => match x, y with
  | .int i, .int j => if divOk j then some (.int (i.fdiv j)) else none
  | _, _ => none
theorem op_divA : OpR X (binaryOp .FloorDiv) (rI (fun _ j => divOk j) fun i j => .int (i.fdiv j)) := opI fun i j _ _ _ _ _ hc q => floordiv_int hc.1 q (.inl (PyProof.noPylong_of_log2 hc.2))
theorem pd_div (ha : PE X a (lE mg W A)) (hb : PE X b (lE mg W B)) : PE X (.BinOp a .FloorDiv b pos) (lE mg W (eBin fDiv A B)) := pd_bin op_divA (fun wa Hf H w x y u v z Q hb ru rv h q => by
  unfold fDiv at h
  split at h
  · split at h
    · rename_i hm
      cases h
      cases ru
      cases rv
      exact ⟨_, _, rfl, rfl, hm, q _ _ Go.refl hb _ (.int _)⟩
    · cases h
  · cases h) ha hb
def fMod : Wl → D → D → Option D := fun _ x y => match x, y with
  | .int i, .int j => if j ≠ 0 then some (.int (i.fmod j)) else none
  | _, _ => none
theorem pd_mod (ha : PE X a (lE mg W A)) (hb : PE X b (lE mg W B)) : PE X (.BinOp a .Mod b pos) (lE mg W (eBin fMod A B)) := pd_bin op_modN (fun wa Hf H w x y u v z Q hb ru rv h q => by
  unfold fMod at h
  split at h
  · split at h
    · rename_i hm
      cases h
      cases ru
      cases rv
      exact ⟨_, _, rfl, rfl, hm, q _ _ Go.refl hb _ (.int _)⟩
    · cases h
  · cases h) ha hb
def fPow : Wl → D → D → Option D := fun _ x y => match x, y with
  | .int i, .int j => if 0 ≤ j ∧ j ≤ 1000000 ∧ i.natAbs < 18446744073709551616 then some (.int (i ^ j.toNat)) else none
  | _, _ => none
theorem pd_pow (ha : PE X a (lE mg W A)) (hb : PE X b (lE mg W B)) : PE X (.BinOp a .Pow b pos) (lE mg W (eBin fPow A B)) := pd_bin op_pow (fun wa Hf H w x y u v z Q hb ru rv h q => by
  unfold fPow at h
  split at h
  · split at h
    · rename_i hm
      cases h
      cases ru
      cases rv
      exact ⟨_, _, rfl, rfl, ⟨hm.1, hm.2.1, hm.2.2⟩, q _ _ Go.refl hb _ (.int _)⟩
    · cases h
  · cases h) ha hb
def fNeg : Wl → D → Option D := fun _ x => match x with
  | .int i => some (.int (-i))
  | _ => none
theorem pd_neg (ha : PE X a (lE mg W A)) : PE X (.UnaryOp .USub a pos) (lE mg W (eUn fNeg A)) := pd_un un_neg (fun wa Hf H w x u z Q hb ru h q => by
  unfold fNeg at h
  split at h
  · cases h
    cases ru
    exact ⟨_, rfl, q _ _ Go.refl hb _ (.int _)⟩
  · cases h) ha

/-! ### comparisons -/
def fCmp (p : Int → Int → Bool) : Wl → D → D → Option D := fun _ x y => match x, y with
  | .int i, .int j => some (.bl (p i j))
  | _, _ => none
theorem opd_cmp {p : Int → Int → Bool} : OpD (rI0 fun i j => .bl (p i j)) (fCmp p) := by
  intro wa Hf H w x y u v z Q hb ru rv h q
  unfold fCmp at h
  split at h
  · cases h
    cases ru
    cases rv
    exact ⟨_, _, rfl, rfl, q _ _ Go.refl hb _ (.bl _)⟩
  · cases h
abbrev fLt := fCmp fun i j => decide (i < j)
abbrev fLe := fCmp fun i j => decide (i ≤ j)
abbrev fGt := fCmp fun i j => decide (j < i)
abbrev fGe := fCmp fun i j => decide (j ≤ i)
/-- a comparison, by its operator's rule -/
theorem pd_cmp {op : CmpOp} (ho : OpR X (compareOp op) r) (hf : OpD r f) (ha : PE X a (lE mg W A)) (hb : PE X b (lE mg W B)) (hm : behindInMarks op b = false) : PE X (.Compare a [op] [b] pos) (lE mg W (eBin f A B)) := weakE (pe_cmpR ho ha hb hm) fun _ _ _ q => bin_ok hf q
theorem pd_lt (ha : PE X a (lE mg W A)) (hb : PE X b (lE mg W B)) : PE X (.Compare a [.Lt] [b] pos) (lE mg W (eBin fLt A B)) := pd_cmp op_lt opd_cmp ha hb (nomark _)
theorem pd_le (ha : PE X a (lE mg W A)) (hb : PE X b (lE mg W B)) : PE X (.Compare a [.LtE] [b] pos) (lE mg W (eBin fLe A B)) := pd_cmp op_le opd_cmp ha hb (nomark _)
theorem pd_gt (ha : PE X a (lE mg W A)) (hb : PE X b (lE mg W B)) : PE X (.Compare a [.Gt] [b] pos) (lE mg W (eBin fGt A B)) := pd_cmp op_gt opd_cmp ha hb (nomark _)
theorem pd_ge (ha : PE X a (lE mg W A)) (hb : PE X b (lE mg W B)) : PE X (.Compare a [.GtE] [b] pos) (lE mg W (eBin fGe A B)) := pd_cmp op_ge opd_cmp ha hb (nomark _)
mutual
def toPD : D → PyData
  | .non => .none
  | .bl b => .bool b
  | .int i => .int i
  | .str x => .str x
  | .lst xs => .list (toPDs xs)
  | .nl xs => .list (toPDs xs)
  | .tup xs => .tuple (toPDs xs)
  | _ => .dict []
def toPDs : List D → List PyData
  | [] => []
  | x :: xs => toPD x :: toPDs xs
end
section
variable {K : PySem.W.Frag} {wa : Addr} {Hf : Hp} {w : Wl}
mutual
theorem Rep.dp (hb : Base wa Hf H w) : ∀ {v : V} {d : D}, Rep wa Hf v d → (toPD d).canLay0 = true → Dp K H v (toPD d)
  | _, _, .non, _ => .non
  | _, _, .bl b, _ => .bl b
  | _, _, .int b, _ => .int b
  | _, _, .str b, _ => .str b
  | _, _, .lst h r, c => .lst (SqL.of (hb.ex _ _ h)) (Reps.dp hb r (by simpa [toPD, PyData.canLay0] using c))
  | _, _, .nl h o r, c => .lst (SqL.of (hb.ex _ _ h)) (Reps.dp hb r (by simpa [toPD, PyData.canLay0] using c))
  | _, _, .dft _ _ _, c => by simp [toPD, PyData.canLay0] at c
  | _, _, .dfk _ _ _, c => by simp [toPD, PyData.canLay0] at c
  | _, _, .tup h r, c => .tup (SqT.of (hb.ex _ _ h)) (Reps.dp hb r (by simpa [toPD, PyData.canLay0] using c))
  | _, _, .well, c => by simp [toPD, PyData.canLay0] at c
  | _, _, .ref a, c => by simp [toPD, PyData.canLay0] at c
  | _, _, .ty a, c => by simp [toPD, PyData.canLay0] at c
theorem Reps.dp (hb : Base wa Hf H w) : ∀ {vs : List V} {ds : List D}, Reps wa Hf vs ds → PyData.canLayAll0 (toPDs ds) = true → DpAll K H vs (toPDs ds)
  | _, _, .nil, _ => .nil
  | _, d :: ds, .cons h r, c => by
    have c' : (toPD d).canLay0 = true ∧ PyData.canLayAll0 (toPDs ds) = true := by simpa [toPDs, PyData.canLayAll0] using c
    exact .cons (Rep.dp hb h c'.1) (Reps.dp hb r c'.2)
end
theorem shaped_lay {d : PyData} (h : SeqAt.shaped d = true) : d.canLay0 = true := by
  unfold SeqAt.shaped at h
  rw [Bool.and_eq_true] at h
  exact h.1
end
def okD (x : D) : Bool := SeqAt.shaped (toPD x)
def eqD (x y : D) : Bool := PyData.eqv (toPD x) (toPD y)
def fEq : Wl → D → D → Option D := fun _ x y => if okD x && okD y then some (.bl (eqD x y)) else none
def fNe : Wl → D → D → Option D := fun _ x y => if okD x && okD y then some (.bl (!eqD x y)) else none
theorem opd_eq {K : PySem.W.Frag} : OpD (rEqD K) fEq := by
  intro wa Hf H w x y u v z Q hb ru rv h q
  unfold fEq at h
  split at h
  · rename_i hc
    rw [Bool.and_eq_true] at hc
    cases h
    exact ⟨_, _, ru.dp hb (shaped_lay hc.1), rv.dp hb (shaped_lay hc.2), hc.1, hc.2, q _ _ Go.refl hb _ (.bl _)⟩
  · cases h
theorem opd_ne {K : PySem.W.Frag} : OpD (rNeD K) fNe := by
  intro wa Hf H w x y u v z Q hb ru rv h q
  unfold fNe at h
  split at h
  · rename_i hc
    rw [Bool.and_eq_true] at hc
    cases h
    exact ⟨_, _, ru.dp hb (shaped_lay hc.1), rv.dp hb (shaped_lay hc.2), hc.1, hc.2, q _ _ Go.refl hb _ (.bl _)⟩
  · cases h
theorem pd_eq (hu : X.A.units + 64 < cLine) (ha : PE X a (lE mg W A)) (hb : PE X b (lE mg W B)) : PE X (.Compare a [.Eq] [b] pos) (lE mg W (eBin fEq A B)) := pd_cmp (op_eqD hu) opd_eq ha hb (nomark _)
theorem pd_ne (hu : X.A.units + 64 < cLine) (ha : PE X a (lE mg W A)) (hb : PE X b (lE mg W B)) : PE X (.Compare a [.NotEq] [b] pos) (lE mg W (eBin fNe A B)) := pd_cmp (op_neD hu) opd_ne ha hb (nomark _)
def fIsN : Wl → D → D → Option D := fun _ x y => match x, y with
  | .non, .non => some (.bl true)
  | .well, .non | .ref _, .non | .ty _, .non | .dcf _ _, .non | .bl _, .non | .int _, .non | .str _, .non | .lst _, .non | .tup _, .non => some (.bl false)
  | _, _ => none
def fNotN : Wl → D → D → Option D := fun w x y => match fIsN w x y with
  | some (.bl k) => some (.bl (!k))
  | _ => none
theorem isN_of {wa : Addr} {Hf : Hp} {w : Wl} {x y z : D} {u v : V} (ru : Rep wa Hf u x) (rv : Rep wa Hf v y) (h : fIsN w x y = some z) : v = .non ∧ z = .bl (decide (u = .non)) := by
  unfold fIsN at h
  split at h <;> first
    | (cases h; cases ru <;> cases rv <;> exact ⟨rfl, rfl⟩)
    | cases h
theorem pd_isN (ha : PE X a (lE mg W A)) (hb : PE X b (lE mg W B)) : PE X (.Compare a [.Is] [b] pos) (lE mg W (eBin fIsN A B)) := pd_cmp op_isN (fun wa Hf H w x y u v z Q hb ru rv h q => by
  obtain ⟨e1, e2⟩ := isN_of ru rv h
  subst e2
  exact ⟨e1, q _ _ Go.refl hb _ (.bl _)⟩) ha hb (nomark _)
theorem pd_notN (ha : PE X a (lE mg W A)) (hb : PE X b (lE mg W B)) : PE X (.Compare a [.IsNot] [b] pos) (lE mg W (eBin fNotN A B)) := pd_cmp op_notN (fun wa Hf H w x y u v z Q hb ru rv h q => by
  unfold fNotN at h
  split at h
  · rename_i k hk
    cases h
    obtain ⟨e1, e2⟩ := isN_of ru rv hk
    cases e2
    exact ⟨e1, q _ _ Go.refl hb _ (.bl _)⟩
  · cases h) ha hb (nomark _)
/-- a op1 b op2 c -/
def eChain (f g : Wl → D → D → Option D) (A B C : DE) : DE := fun s w => (A s w).bind fun x w1 => (B s w1).bind fun y w2 => (opt (f w2 x y) w2).bind fun z w3 => match z with
  | .bl true => (C s w3).bind fun u w4 => opt (g w4 y u) w4
  | .bl false => .ok (.bl false) w3
  | _ => .no
theorem chain_ok {Q : VK} (hf : OpD r f) (hg : OpD r' g) (h : lE mg W (eChain f g A B C) σ H Q) : tChain r r' (lE mg W A) (lE mg W B) (lE mg W C) σ H Q := by
  obtain ⟨wa, Hf, sD, w, hb, hs, h⟩ := h
  refine ⟨wa, Hf, sD, w, hb, hs, h.bind.mono (fun x w1 H1 Hf1 g1 b1 q v rv => ?_) (fun _ _ _ _ _ _ q => q)⟩
  refine ⟨wa, Hf1, sD, w1, b1, hs.go g1, q.bind.mono (fun y w2 H2 Hf2 g2 b2 q2 v2 rv2 => ?_) (fun _ _ _ _ _ _ q => q)⟩
  obtain ⟨z, e, q3⟩ := q2.bind.opt
  refine hf wa Hf2 H2 w2 x y v v2 z _ b2 (rv.mono g2.ex) rv2 e fun H3 Hf3 g3 b3 v3 r3 => ?_
  have q4 := q3 H3 Hf3 g3 b3
  split at q4
  · cases r3
    refine ⟨true, rfl, iteT ?_⟩
    refine ⟨wa, Hf3, sD, _, b3, (hs.go g1).go (g2.trans g3), q4.bind.mono (fun u w4 H4 Hf4 g4 b4 q5 v4 r4 => ?_) (fun _ _ _ _ _ _ q => q)⟩
    obtain ⟨z2, e2, q6⟩ := q5.opt
    exact hg wa Hf4 H4 _ _ _ v2 v4 z2 Q b4 (rv2.mono (g3.trans g4).ex) r4 e2 q6
  · cases r3
    exact ⟨false, rfl, iteF (q4.here b3 _ (.bl false))⟩
  · exact q4.elim
theorem pd_chain {op op' : CmpOp} (ho : OpR X (compareOp op) r) (ho' : OpR X (compareOp op') r') (hf : OpD r f) (hg : OpD r' g) (ha : PE X a (lE mg W A)) (hb : PE X b (lE mg W B)) (hc : PE X c (lE mg W C))
    (hm : lastMarks [op, op'] [b, c] = false := by with_unfolding_all rfl) : PE X (.Compare a [op, op'] [b, c] pos) (lE mg W (eChain f g A B C)) := weakE (pe_chain ho ho' ha hb hc hm) fun _ _ _ q => chain_ok hf hg q

/-! ### and, or, not as values -/
def eAnd (A B : DE) : DE := fun s w => (A s w).bind fun x w1 => match x with
  | .bl true => B s w1
  | .bl false => .ok (.bl false) w1
  | _ => .no
def eOr (A B : DE) : DE := fun s w => (A s w).bind fun x w1 => match x with
  | .bl true => .ok (.bl true) w1
  | .bl false => B s w1
  | _ => .no
def eNot (A : DE) : DE := fun s w => (A s w).bind fun x w1 => match x with
  | .bl k => .ok (.bl (!k)) w1
  | _ => .no
variable {rest : List Expr}
theorem pd_one {op} (h : PE X a (lE mg W A)) : PE X (.BoolOp op [a] pos) (lE mg W A) := pe_one h
theorem pd_and (ha : PE X a (lE mg W A)) (hb : PE X (.BoolOp .And (b :: rest) pos) (lE mg W B)) : PE X (.BoolOp .And (a :: b :: rest) pos) (lE mg W (eAnd A B)) := weakE (pe_and ha hb) fun σ H Q h => by
  obtain ⟨wa, Hf, sD, w, hb, hs, h⟩ := h
  refine ⟨wa, Hf, sD, w, hb, hs, h.bind.mono (fun x w1 H1 Hf1 g1 b1 q v rv => ?_) (fun _ _ _ _ _ _ q => q)⟩
  split at q
  · cases rv
    exact ⟨true, rfl, iteT ⟨wa, Hf1, sD, w1, b1, hs.go g1, q⟩⟩
  · cases rv
    exact ⟨false, rfl, iteF (q.here b1 _ (.bl false))⟩
  · exact q.elim
theorem pd_or (ha : PE X a (lE mg W A)) (hb : PE X (.BoolOp .Or (b :: rest) pos) (lE mg W B)) : PE X (.BoolOp .Or (a :: b :: rest) pos) (lE mg W (eOr A B)) := weakE (pe_or ha hb) fun σ H Q h => by
  obtain ⟨wa, Hf, sD, w, hb, hs, h⟩ := h
  refine ⟨wa, Hf, sD, w, hb, hs, h.bind.mono (fun x w1 H1 Hf1 g1 b1 q v rv => ?_) (fun _ _ _ _ _ _ q => q)⟩
  split at q
  · cases rv
    exact ⟨true, rfl, iteT (q.here b1 _ (.bl true))⟩
  · cases rv
    exact ⟨false, rfl, iteF ⟨wa, Hf1, sD, w1, b1, hs.go g1, q⟩⟩
  · exact q.elim
theorem pd_not (ha : PE X a (lE mg W A)) : PE X (.UnaryOp .Not a pos) (lE mg W (eNot A)) := weakE (pe_not ha) fun σ H Q h => by
  obtain ⟨wa, Hf, sD, w, hb, hs, h⟩ := h
  refine ⟨wa, Hf, sD, w, hb, hs, h.bind.mono (fun x w1 H1 Hf1 g1 b1 q v rv => ?_) (fun _ _ _ _ _ _ q => q)⟩
  split at q
  · cases rv
    exact ⟨_, rfl, q.here b1 _ (.bl _)⟩
  · exact q.elim

/-! ### tests -/
def tE (A : DE) : DT := fun s w => (A s w).bind fun x w1 => match x with
  | .bl k => .ok k w1
  | _ => .no
def tAn (A B : DT) : DT := fun s w => (A s w).bind fun k w1 => if k then B s w1 else .ok false w1
def tOn (A B : DT) : DT := fun s w => (A s w).bind fun k w1 => if k then .ok true w1 else B s w1
def tNo (A : DT) : DT := fun s w => (A s w).bind fun k w1 => .ok (!k) w1
def truD : D → Option Bool
  | .non => some false
  | .bl b => some b
  | .int i => some (i != 0)
  | .str y => if y.length ≤ lim then some ((y.length : Int) != 0) else none
  | .lst xs => some (!xs.isEmpty)
  | .tup xs => some (!xs.isEmpty)
  | _ => none
def tTr (A : DE) : DT := fun s w => (A s w).bind fun x w1 => opt (truD x) w1
variable {S T : DT}
theorem tE_ok {Q : Bool → Hp → Prop} (h : lT mg W (tE A) σ H Q) : tTest (lE mg W A) σ H Q := by
  obtain ⟨wa, Hf, sD, w, hb, hs, h⟩ := h
  refine ⟨wa, Hf, sD, w, hb, hs, h.bind.mono (fun x w1 H1 Hf1 g1 b1 q v rv => ?_) (fun _ _ _ _ _ _ q => q)⟩
  split at q
  · cases rv
    exact ⟨_, rfl, q.here b1 _ rfl⟩
  · exact q.elim
/-- a comparison as a test -/
theorem qd_cmp {op : CmpOp} (ho : OpR X (compareOp op) r) (hf : OpD r f) (ha : PE X a (lE mg W A)) (hb : PE X b (lE mg W B)) (hm : behindInMarks op b = false) : PT X (.Compare a [op] [b] pos) (lT mg W (tE (eBin f A B))) := weakT (pt_cmpR ho ha hb hm) fun σ H Q h => by
  have q := tE_ok h
  exact bin_ok hf q
theorem qd_lt (ha : PE X a (lE mg W A)) (hb : PE X b (lE mg W B)) : PT X (.Compare a [.Lt] [b] pos) (lT mg W (tE (eBin fLt A B))) := qd_cmp op_lt opd_cmp ha hb (nomark _)
theorem qd_le (ha : PE X a (lE mg W A)) (hb : PE X b (lE mg W B)) : PT X (.Compare a [.LtE] [b] pos) (lT mg W (tE (eBin fLe A B))) := qd_cmp op_le opd_cmp ha hb (nomark _)
theorem qd_gt (ha : PE X a (lE mg W A)) (hb : PE X b (lE mg W B)) : PT X (.Compare a [.Gt] [b] pos) (lT mg W (tE (eBin fGt A B))) := qd_cmp op_gt opd_cmp ha hb (nomark _)
theorem qd_ge (ha : PE X a (lE mg W A)) (hb : PE X b (lE mg W B)) : PT X (.Compare a [.GtE] [b] pos) (lT mg W (tE (eBin fGe A B))) := qd_cmp op_ge opd_cmp ha hb (nomark _)
theorem qd_eq (hu : X.A.units + 64 < cLine) (ha : PE X a (lE mg W A)) (hb : PE X b (lE mg W B)) : PT X (.Compare a [.Eq] [b] pos) (lT mg W (tE (eBin fEq A B))) := qd_cmp (op_eqD hu) opd_eq ha hb (nomark _)
theorem qd_ne (hu : X.A.units + 64 < cLine) (ha : PE X a (lE mg W A)) (hb : PE X b (lE mg W B)) : PT X (.Compare a [.NotEq] [b] pos) (lT mg W (tE (eBin fNe A B))) := qd_cmp (op_neD hu) opd_ne ha hb (nomark _)
theorem qd_isN (ha : PE X a (lE mg W A)) (hb : PE X b (lE mg W B)) : PT X (.Compare a [.Is] [b] pos) (lT mg W (tE (eBin fIsN A B))) := qd_cmp op_isN (fun wa Hf H w x y u v z Q hb ru rv h q => by
  obtain ⟨e1, e2⟩ := isN_of ru rv h
  subst e2
  exact ⟨e1, q _ _ Go.refl hb _ (.bl _)⟩) ha hb (nomark _)
theorem qd_notN (ha : PE X a (lE mg W A)) (hb : PE X b (lE mg W B)) : PT X (.Compare a [.IsNot] [b] pos) (lT mg W (tE (eBin fNotN A B))) := qd_cmp op_notN (fun wa Hf H w x y u v z Q hb ru rv h q => by
  unfold fNotN at h
  split at h
  · rename_i k hk
    cases h
    obtain ⟨e1, e2⟩ := isN_of ru rv hk
    cases e2
    exact ⟨e1, q _ _ Go.refl hb _ (.bl _)⟩
  · cases h) ha hb (nomark _)
theorem qd_chain {op op' : CmpOp} (ho : OpR X (compareOp op) r) (ho' : OpR X (compareOp op') r') (hf : OpD r f) (hg : OpD r' g) (ha : PE X a (lE mg W A)) (hb : PE X b (lE mg W B)) (hc : PE X c (lE mg W C))
    (hm : lastMarks [op, op'] [b, c] = false := by with_unfolding_all rfl) : PT X (.Compare a [op, op'] [b, c] pos) (lT mg W (tE (eChain f g A B C))) := weakT (pt_chain ho ho' ha hb hc hm) fun σ H Q h => by
  have q := tE_ok h
  exact chain_ok hf hg q
/-- any other expression as a test: its truth -/
theorem qd_tr (ha : PE X a (lE mg W A)) (he : ∀ whole, isTrue a X.env whole = (do let v ← whole; standAt a.pos; holding [v] (truthy v)) := by intro _; rfl) : PT X a (lT mg W (tTr A)) := weakT (pt_truth ha he) fun σ H Q h => by
  obtain ⟨wa, Hf, sD, w, hb, hs, h⟩ := h
  refine ⟨wa, Hf, sD, w, hb, hs, h.bind.mono (fun x w1 H1 Hf1 g1 b1 q v rv => ?_) (fun _ _ _ _ _ _ q => q)⟩
  obtain ⟨z, e, q3⟩ := q.opt
  refine ⟨z, ?_, q3 _ _ Go.refl b1 _ rfl⟩
  unfold truD at e
  split at e
  · cases e; cases rv; rfl
  · cases e; cases rv; rfl
  · cases e; cases rv; rfl
  · split at e
    · rename_i hz
      cases e
      cases rv
      exact ⟨lim_le hz, rfl⟩
    · cases e
  · cases e
    cases rv with
    | lst h1 r1 =>
      refine .inl ⟨_, SqL.of (b1.ex _ _ h1), ?_⟩
      cases r1 <;> rfl
  · cases e
    cases rv with
    | tup h1 r1 =>
      refine .inr (.inl ⟨_, SqT.of (b1.ex _ _ h1), ?_⟩)
      cases r1 <;> rfl
  · cases e
theorem qd_and1 (ha : PT X a (lT mg W S)) : PW X (.BoolOp .And [a] pos) (lT mg W S) := pw_and1 ha
theorem qd_or1 (ha : PT X a (lT mg W S)) : PW X (.BoolOp .Or [a] pos) (lT mg W S) := pw_or1 ha
theorem qd_and (ha : PT X a (lT mg W S)) (hb : PW X (.BoolOp .And (b :: rest) pos) (lT mg W T)) : PW X (.BoolOp .And (a :: b :: rest) pos) (lT mg W (tAn S T)) := weakW (pw_and ha hb) fun σ H Q h => by
  obtain ⟨wa, Hf, sD, w, hb, hs, h⟩ := h
  refine ⟨wa, Hf, sD, w, hb, hs, h.bind.mono (fun x w1 H1 Hf1 g1 b1 q v rv => ?_) (fun _ _ _ _ _ _ q => q)⟩
  cases rv
  cases x with
  | true => exact iteT ⟨wa, Hf1, sD, w1, b1, hs.go g1, q⟩
  | false => exact iteF (q.here b1 _ rfl)
theorem qd_or (ha : PT X a (lT mg W S)) (hb : PW X (.BoolOp .Or (b :: rest) pos) (lT mg W T)) : PW X (.BoolOp .Or (a :: b :: rest) pos) (lT mg W (tOn S T)) := weakW (pw_or ha hb) fun σ H Q h => by
  obtain ⟨wa, Hf, sD, w, hb, hs, h⟩ := h
  refine ⟨wa, Hf, sD, w, hb, hs, h.bind.mono (fun x w1 H1 Hf1 g1 b1 q v rv => ?_) (fun _ _ _ _ _ _ q => q)⟩
  cases rv
  cases x with
  | true => exact iteT (q.here b1 _ rfl)
  | false => exact iteF ⟨wa, Hf1, sD, w1, b1, hs.go g1, q⟩
theorem qd_not (ha : PT X a (lT mg W S)) : PT X (.UnaryOp .Not a pos) (lT mg W (tNo S)) := weakT (pt_not ha) fun σ H Q h => by
  obtain ⟨wa, Hf, sD, w, hb, hs, h⟩ := h
  refine ⟨wa, Hf, sD, w, hb, hs, h.bind.mono (fun x w1 H1 Hf1 g1 b1 q v rv => ?_) (fun _ _ _ _ _ _ q => q)⟩
  cases rv
  exact q.here b1 _ rfl
/-- a if t else b -/
def eIf (T : DT) (A B : DE) : DE := fun s w => (T s w).bind fun k w1 => if k then A s w1 else B s w1
theorem pd_if (hc : PT X c (lT mg W T)) (ha : PE X a (lE mg W A)) (hb : PE X b (lE mg W B)) : PE X (.IfExp c a b pos) (lE mg W (eIf T A B)) := weakE (pe_ifExp hc ha hb) fun σ H Q h => by
  obtain ⟨wa, Hf, sD, w, hb, hs, h⟩ := h
  refine ⟨wa, Hf, sD, w, hb, hs, h.bind.mono (fun x w1 H1 Hf1 g1 b1 q v rv => ?_) (fun _ _ _ _ _ _ q => q)⟩
  cases rv
  cases x with
  | true => exact iteT ⟨wa, Hf1, sD, w1, b1, hs.go g1, q⟩
  | false => exact iteF ⟨wa, Hf1, sD, w1, b1, hs.go g1, q⟩

/-! ### argument lists, displays -/
def aNil : DA := fun _ w => .ok [] w
def aCons (A : DE) (As : DA) : DA := fun s w => (A s w).bind fun x w1 => (As s w1).bind fun xs w2 => .ok (x :: xs) w2
variable {As : DA} {es : List Expr}
theorem ad_nil : PA X [] (lA mg W aNil) := weakA pa_nil fun σ H Q h => by
  obtain ⟨wa, Hf, sD, w, hb, hs, h⟩ := h
  exact h.here hb _ .nil
theorem ad_cons (ha : PE X a (lE mg W A)) (hr : PA X es (lA mg W As)) (hs : starEach (a :: es) X.env = (false, eval a X.env) :: starEach es X.env := by rfl) : PA X (a :: es) (lA mg W (aCons A As)) := weakA (pa_cons ha hr hs) fun σ H Q h => by
  obtain ⟨wa, Hf, sD, w, hb, hs, h⟩ := h
  refine ⟨wa, Hf, sD, w, hb, hs, h.bind.mono (fun x w1 H1 Hf1 g1 b1 q v rv => ?_) (fun _ _ _ _ _ _ q => q)⟩
  refine ⟨wa, Hf1, sD, w1, b1, hs.go g1, q.bind.mono (fun y w2 H2 Hf2 g2 b2 q2 v2 rv2 => ?_) (fun _ _ _ _ _ _ q => q)⟩
  exact q2.here b2 _ (.cons (rv.mono g2.ex) rv2)
def eTup (As : DA) : DE := fun s w => (As s w).bind fun xs w1 => if xs.length ≤ lim then .ok (.tup xs) w1 else .no
def aLst (As : DA) : DA := fun s w => (As s w).bind fun xs w1 => if xs.length ≤ lim then .ok xs w1 else .no
theorem pd_tup {k} (ha : PA X es (lA mg W As)) : PE X (.Tuple es k pos) (lE mg W (eTup As)) := weakE (pe_tup ha) fun σ H Q h => by
  obtain ⟨wa, Hf, sD, w, hb, hs, h⟩ := h
  refine ⟨wa, Hf, sD, w, hb, hs, h.bind.mono (fun x w1 H1 Hf1 g1 b1 q v rv => ?_) (fun _ _ _ _ _ _ q => q)⟩
  split at q
  · rename_i hz
    refine ⟨by rw [rv.length]; exact lim_le hz, fun p hp => ?_⟩
    exact q _ _ (Go.newF b1.ex hp) (b1.newF hp) _ (.tup upd_same (rv.mono (Ex.new (Evl.fresh_back b1.ex hp))))
  · exact q.elim
theorem pl_lst (ha : PA X es (lA mg W As)) : PE X (.List es pos) (lfL mg W (aLst As)) := weakE (pe_lst ha) fun σ H Q h => by
  obtain ⟨wa, Hf, sD, w, hb, hs, h⟩ := h
  refine ⟨wa, Hf, sD, w, hb, hs, h.bind.mono (fun x w1 H1 Hf1 g1 b1 q v rv => ?_) (fun _ _ _ _ _ _ q => q)⟩
  split at q
  · rename_i hz
    refine ⟨by rw [rv.length]; exact lim_le hz, fun p hp => ?_⟩
    exact q _ _ (Go.new1 hp) (b1.new1 hp) p v (g1.free hp) upd_same (Evl.fresh_back b1.ex hp) (fun z => by rw [z, b1.well] at hp; cases hp) rv
  · exact q.elim

/-! ### subscripts -/
def atD (w : Wl) (x : D) (i : Int) : Option D := match x with
  | .lst xs => atI xs i
  | .tup xs => atI xs i
  | .well => atI [.int w.1, .int w.2.1, .int w.2.2] i
  | _ => none
def fIx : Wl → D → D → Option D := fun w x y => match y with
  | .int i => atD w x i
  | _ => none
theorem atI_rep {wa : Addr} {Hf : Hp} {vs : List V} {ds : List D} {i : Int} {d : D} (r : Reps wa Hf vs ds) (h : atI ds i = some d) : ∃ v, atI vs i = some v ∧ Rep wa Hf v d := by
  unfold atI at h ⊢
  rw [r.length]
  cases e : ixN ds.length i with
  | none => rw [e] at h; cases h
  | some j =>
    rw [e] at h
    exact r.get h
theorem opd_ix {K : PySem.W.Frag} : OpD (rIx K) fIx := by
  intro wa Hf H w x y u v z Q hb ru rv h q
  unfold fIx at h
  split at h
  · cases rv
    unfold atD at h
    split at h
    · cases ru with
      | lst h1 r1 =>
        obtain ⟨v', e, r'⟩ := atI_rep r1 h
        exact .inl ⟨_, _, _, _, rfl, rfl, SqL.of (hb.ex _ _ h1), e, q _ _ Go.refl hb _ r'⟩
    · cases ru with
      | tup h1 r1 =>
        obtain ⟨v', e, r'⟩ := atI_rep r1 h
        exact .inr (.inl ⟨_, _, _, _, rfl, rfl, SqT.of (hb.ex _ _ h1), e, q _ _ Go.refl hb _ r'⟩)
    · cases ru
      obtain ⟨v', e, r'⟩ := atI_rep (wa := wa) (Hf := Hf) (vs := wl w) (.cons (.int _) (.cons (.int _) (.cons (.int _) .nil))) h
      exact .inl ⟨_, _, _, _, rfl, rfl, SqL.of hb.well, e, q _ _ Go.refl hb _ r'⟩
    · cases h
  · cases h
theorem pd_ix (ha : PE X a (lE mg W A)) (hb : PE X b (lE mg W B)) (hs : PlainIx b := by exact fun _ _ => rfl) : PE X (.Subscript a b pos) (lE mg W (eBin fIx A B)) := weakE (pe_ix ix_seq ha hb hs) fun _ _ _ q => bin_ok opd_ix q
/-- a part of a slice -/
def oNone : Sl → Wl → R (Option Int) := fun _ w => .ok none w
def oSome (A : DE) : Sl → Wl → R (Option Int) := fun s w => (A s w).bind fun x w1 => match x with
  | .int i => .ok (some i) w1
  | _ => .no
theorem od_none : PO X none (lO mg W oNone) := weakO po_none fun σ H Q h => by
  obtain ⟨wa, Hf, sD, w, hb, hs, h⟩ := h
  exact h.here hb _ rfl
theorem od_some (ha : PE X a (lE mg W A)) : PO X (some a) (lO mg W (oSome A)) := weakO (po_some ha) fun σ H Q h => by
  obtain ⟨wa, Hf, sD, w, hb, hs, h⟩ := h
  refine ⟨wa, Hf, sD, w, hb, hs, h.bind.mono (fun x w1 H1 Hf1 g1 b1 q v rv => ?_) (fun _ _ _ _ _ _ q => q)⟩
  split at q
  · cases rv
    exact ⟨_, rfl, q.here b1 _ rfl⟩
  · exact q.elim
def cutD {α : Type} (xs : List α) (lo hi : Option Int) : List α := (xs.drop (HT.sIx xs.length 0 lo)).take (HT.sIx xs.length xs.length hi - HT.sIx xs.length 0 lo)
theorem cut_rep {wa : Addr} {Hf : Hp} {vs : List V} {ds : List D} {lo hi : Option Int} (r : Reps wa Hf vs ds) : Reps wa Hf (cutV vs lo hi) (cutD ds lo hi) := by
  unfold cutV cutD
  rw [r.length]
  exact (r.drop _).take _
theorem cutD_whole {α : Type} {xs : List α} {lo hi : Option Int} (h : HT.sIx xs.length 0 lo = 0 ∧ HT.sIx xs.length xs.length hi = xs.length) : cutD xs lo hi = xs := by
  unfold cutD
  rw [h.1, h.2]
  simp
def eSl (A : DE) (L M : Sl → Wl → R (Option Int)) : DE := fun s w => (A s w).bind fun x w1 => (L s w1).bind fun l w2 => (M s w2).bind fun m w3 => match x with
  | .lst xs => .ok (.lst (cutD xs l m)) w3
  | .tup xs => .ok (.tup (cutD xs l m)) w3
  | _ => .no
theorem pd_sl {lo hi : Option Expr} {p2 : Pos} {L M : Sl → Wl → R (Option Int)} (ha : PE X a (lE mg W A)) (hl : PO X lo (lO mg W L)) (hm : PO X hi (lO mg W M)) : PE X (.Subscript a (.Slice lo hi none p2) pos) (lE mg W (eSl A L M)) :=
  weakE (pe_slice (sl_list.or sl_tupA) ha hl hm) fun σ H Q h => by
  obtain ⟨wa, Hf, sD, w, hb, hs, h⟩ := h
  refine ⟨wa, Hf, sD, w, hb, hs, h.bind.mono (fun x w1 H1 Hf1 g1 b1 q v rv => ?_) (fun _ _ _ _ _ _ q => q)⟩
  refine ⟨wa, Hf1, sD, w1, b1, hs.go g1, q.bind.mono (fun y w2 H2 Hf2 g2 b2 q2 v2 rv2 => ?_) (fun _ _ _ _ _ _ q => q)⟩
  refine ⟨wa, Hf2, sD, w2, b2, (hs.go g1).go g2, q2.bind.mono (fun z w3 H3 Hf3 g3 b3 q3 v3 rv3 => ?_) (fun _ _ _ _ _ _ q => q)⟩
  cases rv2
  cases rv3
  split at q3
  · cases rv with
    | lst h1 r1 =>
      refine .inl ⟨_, _, rfl, SqL.of (b3.ex _ _ (g3.ex _ _ (g2.ex _ _ h1))), ?_⟩
      exact frzL (z := .non) b3 (cut_rep ((r1.mono g2.ex).mono g3.ex)) q3
  · cases rv with
    | tup h1 r1 =>
      have h3 := g3.ex _ _ (g2.ex _ _ h1)
      have r3 := (r1.mono g2.ex).mono g3.ex
      refine .inr ⟨_, _, rfl, SqT.of (b3.ex _ _ h3), fun hw => ?_, fun _ => frzT (z := .non) b3 (cut_rep r3) q3⟩
      rw [r3.length] at hw
      refine q3 _ _ Go.refl b3 _ ?_
      rw [cutD_whole hw]
      exact .tup h3 r3
  · exact q3.elim

/-! ### calls of built-ins by values -/
theorem pd_cb {x : Str} {id : String} {r : List V → Hp → VK → Prop} {f : Wl → List D → Option D} {p : Pos} (hc : CallR X (.builtin id) r) (hf : CaD r f) (hg : Gl X x) (hm : X.mg x = none) (hv : bootBuiltins x = some (.builtin id)) (ha : PA X (a :: es) (lA mg W As)) (hn : x ≠ "__name__" := by decide) (hdb : (x == ("__debug__" : Str)) = false := by decide)
    (he : starEach (a :: es) X.env = (false, eval a X.env) :: starEach es X.env := by rfl) (hpl : (backTo pos (starEach es X.env)).any (·.1) = false := by rfl) : PE X (.Call (.Name x p) (a :: es) [] pos) (lE mg W (eCB f As)) :=
  weakE (pe_callB hc hg hm hv ha hn hdb he hpl) fun _ _ _ q => cb_ok hf q
theorem pd_ct {x : Str} {id : String} {r : List V → Hp → VK → Prop} {f : Wl → List D → Option D} {p : Pos} (hc : CallR X (.type id) r) (hf : CaD r f) (hg : Gl X x) (hm : X.mg x = none) (hv : bootBuiltins x = some (.type id)) (ha : PA X (a :: es) (lA mg W As)) (hn : x ≠ "__name__" := by decide) (hdb : (x == ("__debug__" : Str)) = false := by decide)
    (he : starEach (a :: es) X.env = (false, eval a X.env) :: starEach es X.env := by rfl) (hpl : (backTo pos (starEach es X.env)).any (·.1) = false := by rfl) : PE X (.Call (.Name x p) (a :: es) [] pos) (lE mg W (eCB f As)) :=
  weakE (pe_callTy hc hg hm hv ha hn hdb he hpl) fun _ _ _ q => cb_ok hf q
theorem pl_ct {x : Str} {id : String} {r : List V → Hp → VK → Prop} {f : Wl → List D → Option (List D)} {p : Pos} (hc : CallR X (.type id) r) (hf : CaL r f) (hg : Gl X x) (hm : X.mg x = none) (hv : bootBuiltins x = some (.type id)) (ha : PA X (a :: es) (lA mg W As)) (hn : x ≠ "__name__" := by decide) (hdb : (x == ("__debug__" : Str)) = false := by decide)
    (he : starEach (a :: es) X.env = (false, eval a X.env) :: starEach es X.env := by rfl) (hpl : (backTo pos (starEach es X.env)).any (·.1) = false := by rfl) : PE X (.Call (.Name x p) (a :: es) [] pos) (lfL mg W (eCBL f As)) :=
  weakE (pe_callTy hc hg hm hv ha hn hdb he hpl) fun _ _ _ q => cbL_ok hf q
end
end DL

set_option maxHeartbeats 2000000
namespace DL
open PySem PySem.Spec PyProof.Rows L2
variable [TabT] [OldT]
open Evl (Ex)
/-! ### built-ins by values -/
def ints? : List D → Option (List Int)
  | [] => some []
  | .int i :: r => (ints? r).map (i :: ·)
  | _ => none
def bls? : List D → Option (List Bool)
  | [] => some []
  | .bl i :: r => (bls? r).map (i :: ·)
  | _ => none
@[simp] theorem ints?_map : ∀ ns : List Int, ints? (ns.map .int) = some ns
  | [] => rfl
  | n :: r => by simp [ints?, ints?_map r]
@[simp] theorem bls?_map : ∀ ns : List Bool, bls? (ns.map .bl) = some ns
  | [] => rfl
  | n :: r => by simp [bls?, bls?_map r]
theorem ints?_some : ∀ {ds : List D} {ns : List Int}, ints? ds = some ns → ds = ns.map .int
  | [], ns, h => by cases h; rfl
  | .int i :: r, ns, h => by
    unfold ints? at h
    cases e : ints? r with
    | none => rw [e] at h; cases h
    | some ms =>
      rw [e] at h
      cases h
      rw [ints?_some e]
      rfl
  | .non :: _, _, h | .bl _ :: _, _, h | .str _ :: _, _, h | .lst _ :: _, _, h | .tup _ :: _, _, h | .own _ :: _, _, h | .dct _ _ :: _, _, h | .well :: _, _, h | .ref _ :: _, _, h | .ty _ :: _, _, h => by cases h
theorem bls?_some : ∀ {ds : List D} {ns : List Bool}, bls? ds = some ns → ds = ns.map .bl
  | [], ns, h => by cases h; rfl
  | .bl i :: r, ns, h => by
    unfold bls? at h
    cases e : bls? r with
    | none => rw [e] at h; cases h
    | some ms =>
      rw [e] at h
      cases h
      rw [bls?_some e]
      rfl
  | .non :: _, _, h | .int _ :: _, _, h | .str _ :: _, _, h | .lst _ :: _, _, h | .tup _ :: _, _, h | .own _ :: _, _, h | .dct _ _ :: _, _, h | .well :: _, _, h | .ref _ :: _, _, h | .ty _ :: _, _, h => by cases h
section
variable {X : Cx} {H : Hp}
def fLen : Wl → List D → Option D := fun _ ds => match ds with
  | [.lst xs] => some (.int xs.length)
  | [.tup xs] => some (.int xs.length)
  | [.str x] => if x.length ≤ lim then some (.int x.length) else none
  | _ => none
theorem cd_len {K : PySem.W.Frag} : CaD (fun xs H Q => ∃ x n, xs = [x] ∧ LenV K x H n ∧ Q (.int n) H) fLen := by
  intro wa Hf H w ds us z Q hb rs h q
  unfold fLen at h
  split at h
  · cases h
    cases rs with
    | cons r1 r2 =>
      cases r2
      cases r1 with
      | lst h1 r1 => exact ⟨_, _, rfl, .inl ⟨_, SqL.of (hb.ex _ _ h1), rfl⟩, by rw [r1.length]; exact q _ _ Go.refl hb _ (.int _)⟩
  · cases h
    cases rs with
    | cons r1 r2 =>
      cases r2
      cases r1 with
      | tup h1 r1 => exact ⟨_, _, rfl, .inr ⟨_, SqT.of (hb.ex _ _ h1), rfl⟩, by rw [r1.length]; exact q _ _ Go.refl hb _ (.int _)⟩
  · split at h
    · rename_i hz
      cases h
      cases rs with
      | cons r1 r2 =>
        cases r2
        cases r1
        exact ⟨_, _, rfl, ⟨lim_le hz, rfl⟩, q _ _ Go.refl hb _ (.int _)⟩
    · cases h
  · cases h
def fMax2 : Wl → List D → Option D := fun _ ds => match ds with
  | [.int i, .int j] => some (.int (if j > i then j else i))
  | _ => none
def fMin2 : Wl → List D → Option D := fun _ ds => match ds with
  | [.int i, .int j] => some (.int (if j < i then j else i))
  | _ => none
theorem cd_max2 : CaD (fun xs H Q => ∃ i j, xs = [.int i, .int j] ∧ Q (.int (if j > i then j else i)) H) fMax2 := by
  intro wa Hf H w ds us z Q hb rs h q
  unfold fMax2 at h
  split at h
  · cases h
    cases rs with
    | cons r1 r2 =>
      cases r1
      cases r2 with
      | cons r1 r2 =>
        cases r1
        cases r2
        exact ⟨_, _, rfl, q _ _ Go.refl hb _ (.int _)⟩
  · cases h
theorem cd_min2 : CaD (fun xs H Q => ∃ i j, xs = [.int i, .int j] ∧ Q (.int (if j < i then j else i)) H) fMin2 := by
  intro wa Hf H w ds us z Q hb rs h q
  unfold fMin2 at h
  split at h
  · cases h
    cases rs with
    | cons r1 r2 =>
      cases r1
      cases r2 with
      | cons r1 r2 =>
        cases r1
        cases r2
        exact ⟨_, _, rfl, q _ _ Go.refl hb _ (.int _)⟩
  · cases h
def fAbs : Wl → List D → Option D := fun _ ds => match ds with
  | [.int i] => some (.int (if i < 0 then -i else i))
  | _ => none
theorem cd_abs : CaD (fun xs H Q => ∃ i, xs = [.int i] ∧ Q (.int (if i < 0 then -i else i)) H) fAbs := by
  intro wa Hf H w ds us z Q hb rs h q
  unfold fAbs at h
  split at h
  · cases h
    cases rs with
    | cons r1 r2 =>
      cases r1
      cases r2
      exact ⟨_, rfl, q _ _ Go.refl hb _ (.int _)⟩
  · cases h
def fInt : Wl → List D → Option D := fun _ ds => match ds with
  | [.int i] => some (.int i)
  | [.bl k] => some (.int (if k then 1 else 0))
  | _ => none
theorem cd_int : CaD (fun xs H Q => (∃ i, xs = [.int i] ∧ Q (.int i) H) ∨ ∃ k, xs = [.bl k] ∧ Q (.int (if k then 1 else 0)) H) fInt := by
  intro wa Hf H w ds us z Q hb rs h q
  unfold fInt at h
  split at h
  · cases h
    cases rs with
    | cons r1 r2 =>
      cases r1
      cases r2
      exact .inl ⟨_, rfl, q _ _ Go.refl hb _ (.int _)⟩
  · cases h
    cases rs with
    | cons r1 r2 =>
      cases r1
      cases r2
      exact .inr ⟨_, rfl, q _ _ Go.refl hb _ (.int _)⟩
  · cases h
def fSum : Wl → List D → Option D := fun _ ds => match ds with
  | [.lst xs] => (ints? xs).map fun ns => .int ns.sum
  | _ => none
theorem one_lst {wa : Addr} {Hf : Hp} {us : List V} {xs : List D} (r : Reps wa Hf us [.lst xs]) : ∃ a vs, us = [.ref a] ∧ Hf a = some (.lst vs) ∧ Reps wa Hf vs xs := by
  cases r with
  | cons r1 r2 =>
    cases r2
    cases r1 with
    | lst h1 r1 => exact ⟨_, _, rfl, h1, r1⟩
theorem cd_sum {K : PySem.W.Frag} : CaD (rSum K) fSum := by
  intro wa Hf H w ds us z Q hb rs h q
  unfold fSum at h
  split at h
  · rename_i xs
    cases e : ints? xs with
    | none => rw [e] at h; cases h
    | some ns =>
      rw [e] at h
      cases h
      obtain ⟨a, vs, rfl, h1, r1⟩ := one_lst rs
      rw [ints?_some e] at r1
      have e2 := r1.ints
      subst e2
      exact ⟨a, ns, rfl, SqL.of (hb.ex _ _ h1), q _ _ Go.refl hb _ (.int _)⟩
  · cases h
def fAll : Wl → List D → Option D := fun _ ds => match ds with
  | [.lst xs] => (bls? xs).map fun ns => .bl (ns.all id)
  | _ => none
def fAny : Wl → List D → Option D := fun _ ds => match ds with
  | [.lst xs] => (bls? xs).map fun ns => .bl (ns.any id)
  | _ => none
theorem cd_all {K : PySem.W.Frag} : CaD (rAll K) fAll := by
  intro wa Hf H w ds us z Q hb rs h q
  unfold fAll at h
  split at h
  · rename_i xs
    cases e : bls? xs with
    | none => rw [e] at h; cases h
    | some ns =>
      rw [e] at h
      cases h
      obtain ⟨a, vs, rfl, h1, r1⟩ := one_lst rs
      rw [bls?_some e] at r1
      have e2 := r1.bls
      subst e2
      exact ⟨a, ns, rfl, SqL.of (hb.ex _ _ h1), q _ _ Go.refl hb _ (.bl _)⟩
  · cases h
theorem cd_any {K : PySem.W.Frag} : CaD (rAny K) fAny := by
  intro wa Hf H w ds us z Q hb rs h q
  unfold fAny at h
  split at h
  · rename_i xs
    cases e : bls? xs with
    | none => rw [e] at h; cases h
    | some ns =>
      rw [e] at h
      cases h
      obtain ⟨a, vs, rfl, h1, r1⟩ := one_lst rs
      rw [bls?_some e] at r1
      have e2 := r1.bls
      subst e2
      exact ⟨a, ns, rfl, SqL.of (hb.ex _ _ h1), q _ _ Go.refl hb _ (.bl _)⟩
  · cases h
def fTuple : Wl → List D → Option D := fun _ ds => match ds with
  | [.lst xs] => some (.tup xs)
  | [.tup xs] => some (.tup xs)
  | _ => none
theorem cd_tuple {K : PySem.W.Frag} : CaD (fun xs H Q => ∃ p ys, xs = [.ref p] ∧ ((SqL K H p ys ∧ ∀ l, H l = none → Q (.ref l) (upd H l (.tup ys))) ∨ (SqT K H p ys ∧ Q (.ref p) H))) fTuple := by
  intro wa Hf H w ds us z Q hb rs h q
  unfold fTuple at h
  split at h
  · cases h
    obtain ⟨a, vs, rfl, h1, r1⟩ := one_lst rs
    exact ⟨a, vs, rfl, .inl ⟨SqL.of (hb.ex _ _ h1), frzT (z := .non) hb r1 q⟩⟩
  · cases h
    cases rs with
    | cons r1 r2 =>
      cases r2
      cases r1 with
      | tup h1 r1 => exact ⟨_, _, rfl, .inr ⟨SqT.of (hb.ex _ _ h1), q _ _ Go.refl hb _ (.tup h1 r1)⟩⟩
  · cases h
/-- list(x): a new list -/
def fList : Wl → List D → Option (List D) := fun _ ds => match ds with
  | [.lst xs] => some xs
  | [.tup xs] => some xs
  | _ => none
theorem newL {wa : Addr} {Hf H : Hp} {w : Wl} {Q : VK} {vs : List V} {ds : List D} (hb : Base wa Hf H w) (rv : Reps wa Hf vs ds) (q : ∀ H' Hf' p vs, Go wa H Hf H' Hf' → Base wa Hf' H' w → Fr H p → H' p = some (.lst vs) → Hf' p = none → p ≠ wa → Reps wa Hf' vs ds → Q (.ref p) H') : ∀ p, H p = none → Q (.ref p) (upd H p (.lst vs)) := fun p hp =>
  q _ _ p vs (Go.new1 hp) (hb.new1 hp) (.of hp) upd_same (Evl.fresh_back hb.ex hp) (fun z => by rw [z, hb.well] at hp; cases hp) rv
theorem cl_list {K : PySem.W.Frag} : CaL (fun xs H Q => ∃ p ys, xs = [.ref p] ∧ (SqL K H p ys ∨ SqT K H p ys) ∧ ∀ l, H l = none → Q (.ref l) (upd H l (.lst ys))) fList := by
  intro wa Hf H w ds us z Q hb rs h q
  unfold fList at h
  split at h
  · cases h
    obtain ⟨a, vs, rfl, h1, r1⟩ := one_lst rs
    exact ⟨a, vs, rfl, .inl (SqL.of (hb.ex _ _ h1)), newL hb r1 q⟩
  · cases h
    cases rs with
    | cons r1 r2 =>
      cases r2
      cases r1 with
      | tup h1 r1 => exact ⟨_, _, rfl, .inr (SqT.of (hb.ex _ _ h1)), newL hb r1 q⟩
  · cases h
/-- isinstance -/
def tyD : D → Option String
  | .non => some "NoneType"
  | .bl _ => some "bool"
  | .int _ => some "int"
  | .str _ => some "str"
  | .lst _ => some "list"
  | .nl _ => some "list"
  | .tup _ => some "tuple"
  | _ => none
theorem tyD_ok {wa : Addr} {Hf : Hp} {K : PySem.W.Frag} {w : Wl} {x : D} {v : V} {t : String} (hb : Base wa Hf H w) (r : Rep wa Hf v x) (h : tyD x = some t) : TyX K H v (.type t) := by
  cases r with
  | non => cases h; exact .base .non
  | bl b => cases h; exact .base (.bl b)
  | int b => cases h; exact .base (.int b)
  | str b => cases h; exact .base (.str b)
  | lst h1 r1 => cases h; exact .base (.lst (hb.ex _ _ h1))
  | nl h1 o r1 => cases h; exact .base (.lst (hb.ex _ _ h1))
  | dft _ _ _ => cases h
  | dfk _ _ _ => cases h
  | tup h1 r1 => cases h; exact .base (.tup (hb.ex _ _ h1))
  | well => cases h
  | ref a => cases h
  | ty a => cases h
def isB (t : String) (n : String) : Option Bool := if t = n then some true else match n with
  | "int" => if t = "bool" then some true else if t = "NoneType" ∨ t = "str" ∨ t = "list" ∨ t = "tuple" then some false else none
  | "bool" | "str" | "list" | "tuple" => if t = "NoneType" ∨ t = "str" ∨ t = "list" ∨ t = "tuple" ∨ t = "bool" ∨ t = "int" then some false else none
  | _ => none
theorem kitB_all : ∀ t ∈ ["NoneType", "bool", "int", "str", "list", "tuple"], ∀ n ∈ ["bool", "int", "str", "list", "tuple"], kitB t n = isB t n := by decide +kernel
theorem isB_kit {K : PySem.W.Frag} {t n : String} {b : Bool} {x : D} (ht : tyD x = some t) (h : isB t n = some b) : PySem.W.kitOne K (.type t) (.type n) = some b := by
  have mt : t ∈ ["NoneType", "bool", "int", "str", "list", "tuple"] := by
    cases x <;> first | (cases ht; decide) | cases ht
  have mn : n ∈ ["bool", "int", "str", "list", "tuple"] ∨ n = "NoneType" := by
    unfold isB at h
    split at h
    · rename_i e
      subst e
      revert mt
      intro mt
      simp only [List.mem_cons, List.not_mem_nil, or_false] at mt ⊢
      rcases mt with h | h | h | h | h | h <;> simp [h]
    · split at h <;> first | (left; decide) | cases h
  rcases mn with mn | mn
  · exact kit_ty (by rw [kitB_all t mt n mn]; exact h)
  · subst mn
    unfold isB at h
    split at h
    · rename_i e
      subst e
      cases h
      exact kit_ty (by decide +kernel)
    · simp at h
def fIsi : Wl → List D → Option D := fun _ ds => match ds with
  | [x, .ty n] => (tyD x).bind fun t => (isB t n).map .bl
  | [x, .tup [.ty n, .ty m]] => (tyD x).bind fun t => (isB t n).bind fun b => if b then some (.bl true) else (isB t m).map .bl
  | _ => none
theorem cd_isi {K : PySem.W.Frag} : CaD (fun xs H Q => rIsi K xs H Q ∨ rIsiT K xs H Q) fIsi := by
  intro wa Hf H w ds us z Q hb rs h q
  unfold fIsi at h
  split at h
  · rename_i x n
    cases e : tyD x with
    | none => rw [e] at h; cases h
    | some t =>
      rw [e] at h
      cases e2 : isB t n with
      | none => simp [e2] at h
      | some b =>
        simp only [Option.bind_some, e2, Option.map_some, Option.some.injEq] at h
        subst h
        cases rs with
        | cons r1 r2 =>
          cases r2 with
          | cons r2 r3 =>
            cases r2
            cases r3
            exact .inl ⟨_, _, _, _, b, rfl, .ty n, tyD_ok hb r1 e, isB_kit e e2, q _ _ Go.refl hb _ (.bl _)⟩
  · rename_i x n m
    cases e : tyD x with
    | none => rw [e] at h; cases h
    | some t =>
      rw [e] at h
      cases e2 : isB t n with
      | none => simp [e2] at h
      | some b =>
        simp only [Option.bind_some, e2] at h
        cases rs with
        | cons r1 r2 =>
          cases r2 with
          | cons r2 r3 =>
            cases r3
            cases r2 with
            | tup h1 r2 =>
              cases r2 with
              | cons ra rb =>
                cases ra
                cases rb with
                | cons rb rc =>
                  cases rb
                  cases rc
                  have pc : Paired ClsV [V.ty n, V.ty m] [Value.type n, Value.type m] := .cons (.ty n) (.cons (.ty m) .nil)
                  cases b with
                  | true =>
                    simp only [if_true, Option.some.injEq] at h
                    subst h
                    refine .inr ⟨_, _, _, _, _, true, rfl, hb.ex _ _ h1, pc, tyD_ok hb r1 e, ?_, q _ _ Go.refl hb _ (.bl _)⟩
                    unfold PySem.W.kitAny
                    rw [isB_kit e e2]
                  | false =>
                    simp only [Bool.false_eq_true, if_false] at h
                    cases e3 : isB t m with
                    | none => rw [e3] at h; cases h
                    | some b2 =>
                      rw [e3] at h
                      cases h
                      refine .inr ⟨_, _, _, _, _, b2, rfl, hb.ex _ _ h1, pc, tyD_ok hb r1 e, ?_, q _ _ Go.refl hb _ (.bl _)⟩
                      unfold PySem.W.kitAny
                      rw [isB_kit e e2]
                      show PySem.W.kitAny K (.type t) [.type m] = some b2
                      unfold PySem.W.kitAny
                      rw [isB_kit e e3]
                      cases b2 <;> rfl
  · cases h
theorem call_isiA : CallR X (.builtin "isinstance") (fun xs H Q => rIsi X.K xs H Q ∨ rIsiT X.K xs H Q) := call_isi.or call_isiT
/-- divmod -/
def fDivmod : Wl → List D → Option D := fun _ ds => match ds with
  | [.int i, .int j] => if divOk j then some (.tup [.int (i.fdiv j), .int (i.fmod j)]) else none
  | _ => none
def rDivmod : List V → Hp → VK → Prop := fun xs H Q => ∃ i j, xs = [.int i, .int j] ∧ divOk j ∧ ∀ p, H p = none → Q (.ref p) (upd H p (.tup [.int (i.fdiv j), .int (i.fmod j)]))
theorem call_divmodA : CallR X (.builtin "divmod") rDivmod := by
  intro pins s σ H xs us Q I r h
  obtain ⟨i, j, rfl, ⟨h1, h2⟩, q⟩ := h
  obtain ⟨u, w', rfl, ⟨t, rfl⟩, ⟨t', rfl⟩⟩ := vals2 r
  refine divmod_int h1 ?_ (.inl (PyProof.noPylong_of_log2 h2))
  have hn : H s.heap.objs.size = none := I.hok.fresh (Nat.le_refl _)
  refine ⟨.ref s.heap.objs.size, _, ?_, rfl, q _ hn⟩
  refine I.laid (fun b o e => Heap.get?_push_of_some _ e) (Nat.le_refl _) ⟨by simp only [List.length_cons, List.length_nil]; rw [sizeLine_eq]; decide, [.int (i.fdiv j) s.toks, .int (i.fmod j) (s.toks + 1)], .cons ⟨_, rfl⟩ (.cons ⟨_, rfl⟩ .nil), ?_⟩
  exact ⟨_, Heap.get?_push_size s.heap rfl, rfl, 0, rfl⟩
theorem cd_divmod : CaD rDivmod fDivmod := by
  intro wa Hf H w ds us z Q hb rs h q
  unfold fDivmod at h
  split at h
  · split at h
    · rename_i hd
      cases h
      cases rs with
      | cons r1 r2 =>
        cases r1
        cases r2 with
        | cons r1 r2 =>
          cases r1
          cases r2
          exact ⟨_, _, rfl, hd, frzT (z := .non) hb (.cons (.int _) (.cons (.int _) .nil)) q⟩
    · cases h
  · cases h
end
end DL

set_option maxHeartbeats 2000000
namespace DL
open PySem PySem.Spec PyProof.Rows L2
variable [TabT] [OldT]
open Evl (Ex)
/-! ### what is walked -/
structure WalkD (wa : Addr) (Hf : Hp) (J : It) (ds : List D) : Prop where
  goes : ∀ i H, i < ds.length → Ex Hf H → J.go i H
  stops : ∀ H, Ex Hf H → J.stop ds.length H
  yields : ∀ i H Hf1 w x H' d, ds[i]? = some d → Ex Hf Hf1 → Base wa Hf1 H w → J.yld i H x H' → ∃ Hf2, Go wa H Hf1 H' Hf2 ∧ Base wa Hf2 H' w ∧ Rep wa Hf2 x d
abbrev DI := Sl → Wl → R (List D)
def lI (mg : Str → Option Value) (W : WX) (I : DI) : TI := fun σ H R =>
  ∃ wa Hf sD w, Base wa Hf H w ∧ Slots wa Hf H σ sD ∧ Fin wa Hf H (I sD w) (fun ds _ H' Hf' => ∀ J, WalkD wa Hf' J ds → R J H') (Er mg W wa σ)
section
variable {X : Cx} {mg : Str → Option Value} {W : WX} {tg it a b e : Expr} {es : List Expr} {pos : Pos} {σ : L2.St} {H : Hp} {wa : Addr} {Hf : Hp}
theorem weakI {t t' : TI} (h : PI X tg it t) (i : ∀ σ H Q, t' σ H Q → t σ H Q) : PI X tg it t' := ⟨fun pins s σ H Q I q => h.run pins s σ H Q I (i σ H Q q)⟩
theorem orI {t t' : TI} (h : PI X tg it t) (h' : PI X tg it t') : PI X tg it (fun σ H Q => t σ H Q ∨ t' σ H Q) := ⟨fun pins s σ H Q I q => q.elim (fun q => h.run pins s σ H Q I q) fun q => h'.run pins s σ H Q I q⟩
theorem walkD_list {K : PySem.W.Frag} {p : Addr} {vs : List V} {ds : List D} (h : Hf p = some (.lst vs)) (r : Reps wa Hf vs ds) : WalkD wa Hf (Itl K p) ds :=
  ⟨fun i H hi x => by
    have hi' : i < vs.length := by rw [r.length]; exact hi
    exact ⟨vs, vs[i], SqL.of (x _ _ h), by simp [hi']⟩, fun H x => ⟨vs, SqL.of (x _ _ h), Nat.le_of_eq r.length⟩, fun i H Hf1 w y H' d hd x b q => by
    obtain ⟨rfl, q⟩ := q
    obtain ⟨v, e1, r1⟩ := (r.mono x).get hd
    have e2 := q vs (SqL.of (b.ex _ _ (x _ _ h)))
    rw [e1] at e2
    cases e2
    exact ⟨Hf1, Go.refl, b, r1⟩⟩
theorem walkD_tup {K : PySem.W.Frag} {p : Addr} {vs : List V} {ds : List D} (h : Hf p = some (.tup vs)) (r : Reps wa Hf vs ds) : WalkD wa Hf (Itt K p) ds :=
  ⟨fun i H hi x => by
    have hi' : i < vs.length := by rw [r.length]; exact hi
    exact ⟨vs, vs[i], SqT.of (x _ _ h), by simp [hi']⟩, fun H x => ⟨vs, SqT.of (x _ _ h), Nat.le_of_eq r.length⟩, fun i H Hf1 w y H' d hd x b q => by
    obtain ⟨rfl, q⟩ := q
    obtain ⟨v, e1, r1⟩ := (r.mono x).get hd
    have e2 := q vs (SqT.of (b.ex _ _ (x _ _ h)))
    rw [e1] at e2
    cases e2
    exact ⟨Hf1, Go.refl, b, r1⟩⟩
def upTo (lo : Int) (n : Nat) : List D := (List.range n).map fun i => .int (lo + (i : Nat))
theorem walkD_range {lo : Int} {n : Nat} : WalkD wa Hf (Itr lo n) (upTo lo n) :=
  ⟨fun i H hi x => by
    have h : i < n := by simpa [upTo] using hi
    exact h, fun H x => by
    have h : n ≤ (upTo lo n).length := by simp [upTo]
    exact h, fun i H Hf1 w y H' d hd x b q => by
    obtain ⟨rfl, q⟩ := q
    unfold upTo at hd
    rw [List.getElem?_map] at hd
    cases e : (List.range n)[i]? with
    | none => rw [e] at hd; cases hd
    | some j =>
      rw [e] at hd
      have ej : j = i := by
        rw [List.getElem?_range] at e
        · exact (Option.some.inj e).symm
        · have := (List.getElem?_eq_some_iff.mp e).1
          simpa using this
      subst ej
      cases hd
      rw [q]
      exact ⟨Hf1, Go.refl, b, .int _⟩⟩
def enumD (xs : List D) : List D := xs.zipIdx.map fun p => .tup [.int (p.2 : Nat), p.1]
theorem walkD_enum {K : PySem.W.Frag} {p : Addr} {vs : List V} {ds : List D} (h : Hf p = some (.lst vs)) (r : Reps wa Hf vs ds) : WalkD wa Hf (Ite K p) (enumD ds) :=
  ⟨fun i H hi x => by
    have hi' : i < vs.length := by rw [r.length]; simpa [enumD] using hi
    exact ⟨vs, vs[i], SqL.of (x _ _ h), by simp [hi']⟩, fun H x => ⟨vs, SqL.of (x _ _ h), by simp [enumD, r.length]⟩, fun i H Hf1 w y H' d hd x b q => by
    obtain ⟨T, z, rfl, hT, rfl, q⟩ := q
    unfold enumD at hd
    rw [List.getElem?_map, List.getElem?_zipIdx] at hd
    cases e : ds[i]? with
    | none => rw [e] at hd; cases hd
    | some d1 =>
      rw [e] at hd
      cases hd
      obtain ⟨v, e1, r1⟩ := (r.mono x).get e
      have e2 := q vs (SqL.of (b.ex _ _ (x _ _ h)))
      rw [e1] at e2
      cases e2
      rw [Nat.zero_add]
      exact ⟨_, Go.newF b.ex hT, b.newF hT, .tup upd_same (.cons (.int _) (.cons (r1.mono (Ex.new (Evl.fresh_back b.ex hT))) .nil))⟩⟩
/-- over a list or a tuple -/
def iSeq (A : DE) : DI := fun s w => (A s w).bind fun x w1 => match x with
  | .lst xs => .ok xs w1
  | .tup xs => .ok xs w1
  | _ => .no
theorem id_seq {A : DE} (ha : PE X a (lE mg W A)) : PI X tg a (lI mg W (iSeq A)) := weakI (orI (pi_list ha) (pi_tup ha)) fun σ H Q h => by
  obtain ⟨wa, Hf, sD, w, hb, hs, h⟩ := h
  unfold iSeq at h
  cases ea : A sD w with
  | ok x w1 =>
    rw [ea, R.bind_ok] at h
    cases x with
    | lst xs =>
      refine .inl ⟨wa, Hf, sD, w, hb, hs, ?_⟩
      rw [ea]
      intro H1 Hf1 g b v rv
      cases rv with
      | lst h1 r1 => exact ⟨_, rfl, ⟨_, SqL.of (b.ex _ _ h1)⟩, h H1 Hf1 g b _ (walkD_list h1 r1)⟩
    | tup xs =>
      refine .inr ⟨wa, Hf, sD, w, hb, hs, ?_⟩
      rw [ea]
      intro H1 Hf1 g b v rv
      cases rv with
      | tup h1 r1 => exact ⟨_, rfl, ⟨_, SqT.of (b.ex _ _ h1)⟩, h H1 Hf1 g b _ (walkD_tup h1 r1)⟩
    | _ => exact h.elim
  | er x w1 =>
    rw [ea] at h
    refine .inl ⟨wa, Hf, sD, w, hb, hs, ?_⟩
    rw [ea]
    exact h
  | no => rw [ea] at h; exact h.elim
/-- over a new list -/
def iRng1 (As : DA) : DI := fun s w => (As s w).bind fun xs w1 => match xs with
  | [.int j] => if -4611686018427387904 ≤ j ∧ j < 4611686018427387904 then .ok (upTo 0 j.toNat) w1 else .no
  | _ => .no
def iRng2 (As : DA) : DI := fun s w => (As s w).bind fun xs w1 => match xs with
  | [.int i, .int j] => if (-4611686018427387904 ≤ i ∧ i < 4611686018427387904) ∧ -4611686018427387904 ≤ j ∧ j < 4611686018427387904 then .ok (upTo i (j - i).toNat) w1 else .no
  | _ => .no
theorem id_rng1 {As : DA} {p : Pos} (hg : Gl X "range") (hm : X.mg "range" = none) (ha : PA X [a] (lA mg W As)) (hs : starEach [a] X.env = [(false, eval a X.env)] := by rfl) : PI X tg (.Call (.Name "range" p) [a] [] pos) (lI mg W (iRng1 As)) := weakI (pi_range1 hg hm ha hs) fun σ H Q h => by
  obtain ⟨wa, Hf, sD, w, hb, hs, h⟩ := h
  refine ⟨wa, Hf, sD, w, hb, hs, h.bind.mono (fun x w1 H1 Hf1 g1 b1 q v rv => ?_) (fun _ _ _ _ _ _ q => q)⟩
  split at q
  · split at q
    · rename_i hz
      cases rv with
      | cons r1 r2 =>
        cases r1
        cases r2
        exact ⟨_, rfl, by omega, by omega, q.here b1 _ walkD_range⟩
    · exact q.elim
  · exact q.elim
theorem id_rng2 {As : DA} {p : Pos} (hg : Gl X "range") (hm : X.mg "range" = none) (ha : PA X [a, b] (lA mg W As)) (hs : starEach [a, b] X.env = [(false, eval a X.env), (false, eval b X.env)] := by rfl) (hs2 : starEach [b] X.env = [(false, eval b X.env)] := by rfl) : PI X tg (.Call (.Name "range" p) [a, b] [] pos) (lI mg W (iRng2 As)) := weakI (pi_range2 hg hm ha hs hs2) fun σ H Q h => by
  obtain ⟨wa, Hf, sD, w, hb, hs, h⟩ := h
  refine ⟨wa, Hf, sD, w, hb, hs, h.bind.mono (fun x w1 H1 Hf1 g1 b1 q v rv => ?_) (fun _ _ _ _ _ _ q => q)⟩
  split at q
  · split at q
    · rename_i hz
      cases rv with
      | cons r1 r2 =>
        cases r1
        cases r2 with
        | cons r1 r2 =>
          cases r1
          cases r2
          exact ⟨_, _, rfl, ⟨by omega, by omega, by omega, by omega⟩, q.here b1 _ walkD_range⟩
    · exact q.elim
  · exact q.elim
def iEnum (As : DA) : DI := fun s w => (As s w).bind fun xs w1 => match xs with
  | [.lst ds] => .ok (enumD ds) w1
  | _ => .no
theorem id_enum {As : DA} {p tpos : Pos} {elts : List Expr} {kk : Nat} (hg : Gl X "enumerate") (hm : X.mg "enumerate" = none) (ha : PA X [a] (lA mg W As)) (hs : starEach [a] X.env = [(false, eval a X.env)] := by rfl) : PI X (.Tuple elts kk tpos) (.Call (.Name "enumerate" p) [a] [] pos) (lI mg W (iEnum As)) := weakI (pi_enum hg hm ha hs) fun σ H Q h => by
  obtain ⟨wa, Hf, sD, w, hb, hs, h⟩ := h
  refine ⟨wa, Hf, sD, w, hb, hs, h.bind.mono (fun x w1 H1 Hf1 g1 b1 q v rv => ?_) (fun _ _ _ _ _ _ q => q)⟩
  split at q
  · obtain ⟨p, vs, rfl, h1, r1⟩ := one_lst rv
    exact ⟨p, vs, rfl, SqL.of (b1.ex _ _ h1), q.here b1 _ (walkD_enum h1 r1)⟩
  · exact q.elim

/-! ### targets -/
def lG (vs : List Nat) (G : DG) : TG := fun v σ H Q => ∃ wa Hf H0 w sD d s', Base wa Hf H w ∧ Rep wa Hf v d ∧ Slots wa Hf H σ sD ∧ OwnNew H0 σ sD ∧ G d sD = some s' ∧
  ∀ σ', Slots wa Hf H σ' s' → OwnNew H0 σ' s' → wipe σ' vs = wipe σ vs → Q σ' H
def lGs (vs : List Nat) (G : List D → Sl → Option Sl) : TGs := fun v σ H Q => ∃ wa Hf H0 w sD d s', Base wa Hf H w ∧ Reps wa Hf v d ∧ Slots wa Hf H σ sD ∧ OwnNew H0 σ sD ∧ G d sD = some s' ∧
  ∀ σ', Slots wa Hf H σ' s' → OwnNew H0 σ' s' → wipe σ' vs = wipe σ vs → Q σ' H
theorem weakG {t t' : TG} (h : PG X tg t) (i : ∀ v σ H Q, t' v σ H Q → t v σ H Q) : PG X tg t' := ⟨fun pins s σ H v u Q I r q => h.run pins s σ H v u Q I r (i v σ H Q q)⟩
theorem weakGs {t t' : TGs} (h : PGs X es t) (i : ∀ v σ H Q, t' v σ H Q → t v σ H Q) : PGs X es t' := ⟨fun pins s σ H v u Q I r q => h.run pins s σ H v u Q I r (i v σ H Q q)⟩
theorem wipe_set {σ : L2.St} {i : Nat} {x : Option V} : ∀ {vs : List Nat}, i ∈ vs → wipe (σ.set i x) vs = wipe σ vs
  | v :: vs, h => by
    unfold wipe
    by_cases hi : i ∈ vs
    · rw [wipe_set hi]
    · have e : i = v := by
        rcases List.mem_cons.mp h with e | e
        · exact e
        · exact absurd e hi
      subst e
      have key : ∀ (ws : List Nat), i ∉ ws → wipe (σ.set i x) ws = (wipe σ ws).set i x := by
        intro ws
        induction ws with
        | nil => intro _; rfl
        | cons u us ih =>
          intro hu
          have h1 : i ∉ us := fun m => hu (List.mem_cons_of_mem _ m)
          have h2 : i ≠ u := fun e => hu (by rw [e]; exact List.mem_cons_self)
          unfold wipe
          rw [ih h1, List.set_comm _ _ h2]
      rw [key vs hi, List.set_set]
def gN (i : Nat) : DG := fun d s => some (s.set i (some d))
theorem gd_name {i : Nat} {x : Str} {vs : List Nat} (hN : X.N.Nodup) (hi : X.N[i]? = some x) (hx : Loc X.env.scope x) (hv : i ∈ vs) (hf : X.fn x = true ∨ X.env.scope.names.lookup x = some .local := by first | exact .inl rfl | exact .inr rfl | assumption) : PG X (.Name x pos) (lG vs (gN i)) := weakG (pg_name hN hi hx hf) fun v σ H Q h => by
  obtain ⟨wa, Hf, H0, w, sD, d, s', hb, rv, hs, ho, e, q⟩ := h
  cases e
  exact q _ (hs.set rv) (ho.set (rep_isO rv)) (wipe_set hv)
def gNil' : List D → Sl → Option Sl := fun ds s => match ds with
  | [] => some s
  | _ => none
def gCons' (G : DG) (Gs : List D → Sl → Option Sl) : List D → Sl → Option Sl := fun ds s => match ds with
  | d :: r => (G d s).bind fun s1 => Gs r s1
  | _ => none
def gT (Gs : List D → Sl → Option Sl) (n : Nat) : DG := fun d s => match d with
  | .tup ds => if ds.length = n then Gs ds s else none
  | _ => none
theorem gd_nil {vs : List Nat} : PGs X [] (lGs vs gNil') := weakGs pgs_nil fun v σ H Q h => by
  obtain ⟨wa, Hf, H0, w, sD, d, s', hb, rv, hs, ho, e, q⟩ := h
  unfold gNil' at e
  split at e
  · cases e
    cases rv
    exact ⟨rfl, q _ hs ho rfl⟩
  · cases e
theorem gd_cons {G : DG} {Gs : List D → Sl → Option Sl} {vs : List Nat} (h1 : PG X a (lG vs G)) (h2 : PGs X es (lGs vs Gs)) (hs : (assignEach (a :: es) X.env).map (·.2) = assign a X.env :: (assignEach es X.env).map (·.2) := by rfl) : PGs X (a :: es) (lGs vs (gCons' G Gs)) := weakGs (pgs_cons h1 h2 hs) fun v σ H Q h => by
  obtain ⟨wa, Hf, H0, w, sD, d, s', hb, rv, hs, ho, e, q⟩ := h
  unfold gCons' at e
  split at e
  · rename_i d r
    cases rv with
    | cons r1 r2 =>
      cases e1 : G d sD with
      | none => rw [e1] at e; cases e
      | some s1 =>
        rw [e1] at e
        exact ⟨_, _, rfl, wa, Hf, H0, w, sD, d, s1, hb, r1, hs, ho, e1, fun σ1 hs1 ho1 hw1 => ⟨wa, Hf, H0, w, s1, r, s', hb, r2, hs1, ho1, e, fun σ2 hs2 ho2 hw2 => q σ2 hs2 ho2 (hw2.trans hw1)⟩⟩
  · cases e
theorem gd_tup {k : Nat} {Gs : List D → Sl → Option Sl} {n : Nat} {vs : List Nat} (hc : X.calm = true) (h : PGs X es (lGs vs Gs)) (hn : (assignEach es X.env).length = n := by rfl) (hst : (assignEach es X.env).findIdx? (·.1) = none := by rfl) : PG X (.Tuple es k pos) (lG vs (gT Gs n)) := weakG (pg_tup hc h hn hst) fun v σ H Q h => by
  obtain ⟨wa, Hf, H0, w, sD, d, s', hb, rv, hs, ho, e, q⟩ := h
  unfold gT at e
  split at e
  · split at e
    · rename_i hl
      cases rv with
      | tup h1 r1 => exact ⟨_, _, rfl, SqT.of (hb.ex _ _ h1), by rw [r1.length]; exact hl, wa, Hf, H0, w, sD, _, s', hb, r1, hs, ho, e, q⟩
    · cases e
  · cases e
end

/-! ### calls of the program's own functions -/
def spD (mg : Str → Option Value) (n : Nat) (F : DF) : Sp := fun vs H Q E => ∃ wa Hf ds w, Base wa Hf H w ∧ Reps wa Hf vs ds ∧ ds.length = n ∧
  Fin wa Hf H (F ds w) (fun d _ H' Hf' => ∀ v, Rep wa Hf' v d → Q v H') (fun x _ H' Hf' => ∀ cls dx, ErrV mg wa Hf' x cls dx → E cls dx H')
abbrev FnD (P : Program) (w : World) (K : PySem.W.Frag) (mg : Str → Option Value) (base : Heap) (k : Nat) (f : Addr) (fd : FuncData) (ps : List Str) (F : DF) : Prop := FnOk P w K mg base (L2.CX P w) k f fd ps (spD mg ps.length F)
/-- less is promised, or the same -/
def Less {α β : Type} (F G : α → β → R D) : Prop := ∀ a b, F a b = .no ∨ F a b = G a b
theorem FnD.less {P : Program} {w : World} {K : PySem.W.Frag} {mg : Str → Option Value} {base : Heap} {k : Nat} {f : Addr} {fd : FuncData} {ps : List Str} {F G : DF} (h : FnD P w K mg base k f fd ps G) (l : ∀ ds w, ds.length = ps.length → F ds w = .no ∨ F ds w = G ds w) : FnD P w K mg base k f fd ps F :=
  FnOk.imp h fun vs H Q E ⟨wa, Hf, ds, w, hb, r, hl, q⟩ => ⟨wa, Hf, ds, w, hb, r, hl, by
    rcases l ds w hl with e | e
    · rw [e] at q; exact q.elim
    · rw [e] at q; exact q⟩
def eCall (n : Nat) (F : DF) (As : DA) : DE := fun s w => (As s w).bind fun ds w1 => if ds.length = n then F ds w1 else .no
/-- what is raised in a callee reaches what is wished here -/
def Wok (X : Cx) (W : WX) : Prop := ∀ σ, PassesAt (L2.CX X.prog X.w) X σ (WE W σ)
theorem wok_takes {X : Cx} {W : WX} (t : Takes X W) : Wok X W := fun σ => passAt t σ
abbrev W0 : WX := fun _ _ _ _ => False
theorem wok0 {X : Cx} : Wok X W0 := fun σ pins H s e s' I c => by
  obtain ⟨_, _, _, _, _, _, _, _, _, _, _, _, z⟩ := c
  exact z.elim
section
variable {X : Cx} {W : WX} {tg it a b e : Expr} {es : List Expr} {pos : Pos} {σ : L2.St} {H : Hp} {wa : Addr} {Hf : Hp}
theorem fin_call {mg : Str → Option Value} {w : Wl} {n : Nat} {F : DF} {ds : List D} {vs : List V} {Q : VK} {W : WX} (hb : Base wa Hf H w) (rv : Reps wa Hf vs ds) (q : Fin wa Hf H (if ds.length = n then F ds w else .no) (fun d _ H' Hf' => ∀ v, Rep wa Hf' v d → Q v H') (Er mg W wa σ)) : spD mg n F vs H Q (WE W σ) := by
  split at q
  · rename_i hl
    exact ⟨wa, Hf, ds, w, hb, rv, hl, q⟩
  · exact q.elim
theorem pd_call {k : Nat} {f : Addr} {fd : FuncData} {ps : List Str} {F : DF} {x : Str} {p : Pos} {As : DA} (G : FnD X.prog X.w X.K X.mg X.base k f fd ps F) (hr : Room k X.A) (hg : Gl X x) (hm : X.mg x = some (.ref f)) (hk : PySem.W.keepIn X.K (.ref f) = true) (hb : Binds X.K fd ps []) (hx : Wok X W)
    (ha : PA X (e :: es) (lA X.mg W As)) (hdb : (x == ("__debug__" : Str)) = false := by decide) (he : starEach (e :: es) X.env = (false, eval e X.env) :: starEach es X.env := by rfl) (hpl : (backTo pos (starEach es X.env)).any (·.1) = false := by rfl) :
    PE X (.Call (.Name x p) (e :: es) [] pos) (lE X.mg W (eCall ps.length F As)) := weakE (pe_callS G hr hg hm hk hb hx ha hdb he hpl) fun σ H Q h => by
  obtain ⟨wa, Hf, sD, w, hb, hs, h⟩ := h
  refine ⟨wa, Hf, sD, w, hb, hs, h.bind.mono (fun x w1 H1 Hf1 g1 b1 q v rv => ?_) (fun _ _ _ _ _ _ q => q)⟩
  exact fin_call b1 rv q
end
end DL

set_option maxHeartbeats 2000000
namespace DL
open PySem PySem.Spec PyProof.Rows L2
variable [TabT] [OldT]
open Evl (Ex)
theorem Go.appF {wa : Addr} {H Hf H' Hf' : Hp} {p : Addr} {o : HO} (g : Go wa H Hf H' Hf') (h : Fr H p) : Go wa H Hf (upd H' p o) Hf' :=
  ⟨fun a u n t e => by rw [upd_ne (ne_of_fr e t h)]; exact g.keepN a u n t e, g.ex, g.newN, fun a u t e => by rw [upd_ne (ne_of_fr e t h)]; exact g.thereN a u t e⟩
theorem Base.appL {wa : Addr} {H Hf : Hp} {w : Wl} {p : Addr} {o : HO} {xs : List V} (b : Base wa Hf H w) (h : Hf p = none) (hw : p ≠ wa) (hp : H p = some (.lst xs)) : Base wa Hf (upd H p o) w :=
  ⟨Evl.Ex.mut b.ex h, by rw [upd_ne (Ne.symm hw)]; exact b.well, b.nw, tabs_upd b.tb (.inr ⟨xs, hp⟩), b.nt, b.od⟩
/-! ### comprehensions -/
def lcD (G : DG) (T : DT) (E : DE) : List D → Sl → Wl → R (List D)
  | [], _, w => .ok [] w
  | d :: r, s, w => match G d s with
    | none => .no
    | some s1 => (T s1 w).noer.bind fun b w1 => if b = true then (E s1 w1).noer.bind fun y w2 => (lcD G T E r s w2).bind fun ys w3 => .ok (y :: ys) w3 else lcD G T E r s w1
def wipeS (s : Sl) : List Nat → Sl
  | [] => s
  | v :: vs => (wipeS s vs).set v none
def aLc (I : DI) (G : DG) (T : DT) (E : DE) (vs : List Nat) : DA := fun s w => (I s w).bind fun ds w1 => if ds.length ≤ lim then (lcD G T E ds (wipeS s vs) w1).noer else .no
def tYesD : DT := fun _ w => .ok true w
section
variable {X : Cx} {mg : Str → Option Value} {W : WX} {tg it a b e elt iter : Expr} {es ifs : List Expr} {pos : Pos} {σ : L2.St} {H : Hp} {wa : Addr} {Hf : Hp}
theorem Slots.setNone {s : Sl} (x : Slots wa Hf H σ s) (i : Nat) : Slots wa Hf H (σ.set i none) (s.set i none) := by
  have key : ∀ (j : Nat) (d : D), (s.set i none)[j]? = some (some d) → j ≠ i ∧ s[j]? = some (some d) := fun j d h => by
    by_cases hj : j = i
    · subst hj
      rw [List.getElem?_set] at h
      split at h
      · split at h <;> cases h
      · rename_i hne
        exact absurd rfl hne
    · rw [List.getElem?_set_ne (Ne.symm hj)] at h
      exact ⟨hj, h⟩
  have keyσ : ∀ (j : Nat), j ≠ i → (σ.set i none)[j]? = σ[j]? := fun j hj => List.getElem?_set_ne (Ne.symm hj)
  refine ⟨by simp [x.len], fun j d h n => ?_, fun j xs h => ?_, fun j ks xs h => ?_, fun j k d e p h1 n1 h2 n2 h3 h4 => ?_⟩
  · obtain ⟨hj, h'⟩ := key j d h
    rw [keyσ j hj]
    exact x.val j d h' n
  · obtain ⟨hj, h'⟩ := key j _ h
    rw [keyσ j hj]
    exact x.own j xs h'
  · obtain ⟨hj, h'⟩ := key j _ h
    rw [keyσ j hj]
    exact x.dic j ks xs h'
  · obtain ⟨hj, h1'⟩ := key j _ h1
    obtain ⟨hk, h2'⟩ := key k _ h2
    rw [keyσ j hj] at h3
    rw [keyσ k hk] at h4
    exact x.inj j k d e p h1' n1 h2' n2 h3 h4
theorem Slots.wipe {s : Sl} (x : Slots wa Hf H σ s) : ∀ vs : List Nat, Slots wa Hf H (L2.wipe σ vs) (wipeS s vs)
  | [] => x
  | v :: vs => (x.wipe vs).setNone v
theorem wipe_none {σ : L2.St} {i : Nat} : ∀ {vs : List Nat}, i ∈ vs → (L2.wipe σ vs).set i none = L2.wipe σ vs
  | v :: vs, h => by
    unfold L2.wipe
    by_cases hv : v = i
    · subst hv
      rw [List.set_set]
    · rw [List.set_comm _ _ hv]
      rcases List.mem_cons.mp h with e | e
      · exact absurd e.symm hv
      · rw [wipe_none e]
theorem wipe_wipe {σ : L2.St} : ∀ vs : List Nat, L2.wipe (L2.wipe σ vs) vs = L2.wipe σ vs := by
  have key : ∀ us vs : List Nat, (∀ i ∈ us, i ∈ vs) → L2.wipe (L2.wipe σ vs) us = L2.wipe σ vs := by
    intro us
    induction us with
    | nil => intro vs _; rfl
    | cons u us ih =>
      intro vs h
      show (L2.wipe (L2.wipe σ vs) us).set u none = L2.wipe σ vs
      rw [ih vs fun i hi => h i (List.mem_cons_of_mem _ hi)]
      exact wipe_none (h u List.mem_cons_self)
  exact fun vs => key vs vs fun _ h => h
theorem weakTs {t t' : TT} (h : PTs X ifs t) (i : ∀ σ H Q, t' σ H Q → t σ H Q) : PTs X ifs t' := ⟨fun pins s σ H Q I q => h.run pins s σ H Q I (i σ H Q q)⟩
theorem td_nil : PTs X [] (lT mg W tYesD) := weakTs pts_nil fun σ H Q h => by
  obtain ⟨wa, Hf, sD, w, hb, hs, h⟩ := h
  exact h.here hb _ rfl
theorem td_one {T : DT} (h : PT X a (lT mg W T)) : PTs X [a] (lT mg W T) := pts_one h
theorem lc_ok {I : DI} {G : DG} {T : DT} {E : DE} {vs : List Nat} {Q : VK} (h : lfL mg W (aLc I G T E vs) σ H Q) : tLc (lI mg W I) (lG vs G) (lT mg W0 T) (lE mg W0 E) vs σ H Q := by
  obtain ⟨wa, Hf, sD, w, hb, hs, h⟩ := h
  refine ⟨wa, Hf, sD, w, hb, hs, h.bind.mono (fun ds w1 H1 Hf1 g1 b1 q J wk D hD => ?_) (fun _ _ _ _ _ _ q => q)⟩
  have hs1 := (hs.go g1).wipe vs
  split at q
  · rename_i hz
    cases el : lcD G T E ds (wipeS sD vs) w1 with
    | er x w2 => rw [el] at q; exact q.elim
    | no => rw [el] at q; exact q.elim
    | ok total wF =>
      rw [el] at q
      have hDw : D ≠ wa := fun z => by rw [z, b1.well] at hD; cases hD
      have hDf : Hf1 D = none := Evl.fresh_back b1.ex hD
      refine ⟨fun i m H2 => m = ds.length - i ∧ i ≤ ds.length ∧ ∃ Hf2 w2 accV acc ys, Go wa H1 Hf1 H2 Hf2 ∧ Base wa Hf2 H2 w2 ∧ H2 D = some (.lst accV) ∧ Hf2 D = none ∧ Reps wa Hf2 accV acc ∧ acc.length ≤ i ∧ lcD G T E (ds.drop i) (wipeS sD vs) w2 = .ok ys wF ∧ acc ++ ys = total,
        ⟨ds.length, by simp, Nat.zero_le _, Hf1, w1, [], [], total, Go.new1 hD, b1.new1 hD, upd_same, hDf, .nil, Nat.le_refl _, el, rfl⟩, ?_⟩
      rintro i m H2 ⟨rfl, hi, Hf2, w2, accV, acc, ys, g2, b2, hD2, hDf2, ra, hal, e2, rfl⟩
      by_cases hlt : i < ds.length
      · have ed : ds.drop i = ds[i] :: ds.drop (i + 1) := List.drop_eq_getElem_cons hlt
        rw [ed] at e2
        have gi : ds[i]? = some ds[i] := by simp [hlt]
        refine .inr ⟨wk.goes i H2 hlt (g2.ex.trans b2.ex), fun H' => ∃ Hf2 w2 accV acc' ys', Go wa H1 Hf1 H' Hf2 ∧ Base wa Hf2 H' w2 ∧ H' D = some (.lst accV) ∧ Hf2 D = none ∧ Reps wa Hf2 accV acc' ∧ acc'.length ≤ i + 1 ∧ lcD G T E (ds.drop (i + 1)) (wipeS sD vs) w2 = .ok ys' wF ∧ acc' ++ ys' = acc ++ ys,
          fun H' hN => ⟨ds.length - (i + 1), by omega, rfl, hlt, hN⟩, fun x H3 hy => ?_⟩
        obtain ⟨Hf3, g3, b3, r3⟩ := wk.yields i H2 Hf2 w2 x H3 _ gi g2.ex b2 hy
        have hD3 : H3 D = some (.lst accV) := g3.keep D _ hDw hD2
        have hDf3 : Hf3 D = none := (g3.new D _ hD2).trans hDf2
        unfold lcD at e2
        cases eg : G ds[i] (wipeS sD vs) with
        | none => rw [eg] at e2; cases e2
        | some s1 =>
          rw [eg] at e2
          dsimp only at e2
          refine ⟨wa, Hf3, fun _ => none, w2, wipeS sD vs, ds[i], s1, b3, r3, (hs1.go g2).go g3, fun _ _ _ _ _ _ => .of rfl, eg, fun σ4 hs4 _ hw4 => ⟨hw4.trans (wipe_wipe vs), ?_⟩⟩
          cases et : T s1 w2 with
          | er y u => rw [et] at e2; cases e2
          | no => rw [et] at e2; cases e2
          | ok bb w5 =>
            rw [et] at e2
            refine ⟨wa, Hf3, s1, w2, b3, hs4, ?_⟩
            rw [et]
            intro H5 Hf5 g5 b5 v5 rv5
            have ev5 : v5 = bb := rv5
            subst ev5
            have hD5 : H5 D = some (.lst accV) := g5.keep D _ hDw hD3
            have hDf5 : Hf5 D = none := (g5.new D _ hD3).trans hDf3
            cases v5 with
            | false =>
              refine iteF ?_
              have e3 : lcD G T E (ds.drop (i + 1)) (wipeS sD vs) w5 = .ok ys wF := by simpa [R.noer, R.bind] using e2
              exact ⟨Hf5, w5, accV, acc, ys, (g2.trans g3).trans g5, b5, hD5, hDf5, (ra.mono g3.ex).mono g5.ex, by omega, e3, rfl⟩
            | true =>
              refine iteT ?_
              have e3 : ((E s1 w5).noer.bind fun y w2 => (lcD G T E (ds.drop (i + 1)) (wipeS sD vs) w2).bind fun ys w3 => .ok (y :: ys) w3) = R.ok ys wF := by simpa [R.noer, R.bind] using e2
              cases ee : E s1 w5 with
              | er y u => rw [ee] at e3; cases e3
              | no => rw [ee] at e3; cases e3
              | ok y w6 =>
                rw [ee] at e3
                refine ⟨wa, Hf5, s1, w5, b5, hs4.go g5, ?_⟩
                rw [ee]
                intro H6 Hf6 g6 b6 v6 r6
                have hD6 : H6 D = some (.lst accV) := g6.keep D _ hDw hD5
                have hDf6 : Hf6 D = none := (g6.new D _ hD5).trans hDf5
                have e4 : ((lcD G T E (ds.drop (i + 1)) (wipeS sD vs) w6).bind fun ys w3 => .ok (y :: ys) w3) = R.ok ys wF := by simpa [R.noer, R.bind] using e3
                cases er : lcD G T E (ds.drop (i + 1)) (wipeS sD vs) w6 with
                | er y u => rw [er] at e4; cases e4
                | no => rw [er] at e4; cases e4
                | ok zs w7 =>
                  rw [er] at e4
                  cases e4
                  have ra6 := ((ra.mono g3.ex).mono g5.ex).mono g6.ex
                  have hlen : accV.length = acc.length := ra.length
                  refine ⟨accV, hD6, Nat.lt_of_lt_of_le (by omega : accV.length < lim) (lim_le (Nat.le_refl _)), Hf6, w6, accV ++ [v6], acc ++ [y], zs, ?_, ?_, upd_same, hDf6, ra6.append (.cons r6 .nil), by simp; omega, er, by simp⟩
                  · have gg := ((g2.trans g3).trans g5).trans g6
                    exact gg.appF (.of hD)
                  · exact b6.appL hDf6 hDw hD6
      · have ei : i = ds.length := by omega
        subst ei
        rw [List.drop_length] at e2
        cases e2
        refine .inl ⟨wk.stops H2 (g2.ex.trans b2.ex), ?_⟩
        rw [List.append_nil] at q
        exact q H2 Hf2 g2 b2 D accV (g1.free hD) hD2 hDf2 hDw ra
  · exact q.elim
/-- [elt for tg in iter if ..]: a new list -/
theorem pl_lc {scope : Scope} {own : List (Str × Nat)} {I : DI} {G : DG} {T : DT} {E : DE} (hc : X.calm = true) (hN : X.N.Nodup) (hi : PI X tg iter (lI mg W I)) (ok : BlkOk X.N X.env.scope scope own)
    (hg : ∀ (s : Shared) (H : Hp) (C : Addr) (cl : List (Str × Addr)) (fp : List Addr), PG (X.blk s H scope (compEnvC scope cl C X.env) fp) tg (lG (own.map (·.2)) G)) (ht : ∀ (s : Shared) (H : Hp) (C : Addr) (cl : List (Str × Addr)) (fp : List Addr), PTs (X.blk s H scope (compEnvC scope cl C X.env) fp) ifs (lT mg W0 T))
    (he : ∀ (s : Shared) (H : Hp) (C : Addr) (cl : List (Str × Addr)) (fp : List Addr), PE (X.blk s H scope (compEnvC scope cl C X.env) fp) elt (lE mg W0 E)) (hs : ∀ x, foldedSetIterable iter X.env x = pure x := by intro _; rfl) :
    PE X (.ListComp elt [⟨tg, iter, ifs, 0⟩] scope pos) (lfL mg W (aLc I G T E (own.map (·.2)))) := weakE (pe_lc hc hN hi ok hg ht he hs) fun _ _ _ q => lc_ok q

/-! ### statements -/
def FinS (mg : Str → Option Value) (W : WX) (wa : Addr) (H0 Hf0 Hf : Hp) (r : RS) (D : Ends) : Prop := match r with
  | .nx s w => ∀ σ H' Hf', Go wa H0 Hf0 H' Hf' → Ex Hf Hf' → Base wa Hf' H' w → Slots wa Hf' H' σ s → OwnNew H0 σ s → D.nx σ H'
  | .bk s w => ∀ σ H' Hf', Go wa H0 Hf0 H' Hf' → Ex Hf Hf' → Base wa Hf' H' w → Slots wa Hf' H' σ s → OwnNew H0 σ s → D.bk σ H'
  | .ct s w => ∀ σ H' Hf', Go wa H0 Hf0 H' Hf' → Ex Hf Hf' → Base wa Hf' H' w → Slots wa Hf' H' σ s → OwnNew H0 σ s → D.ct σ H'
  | .rt d w => ∀ H' Hf' v, Go wa H0 Hf0 H' Hf' → Base wa Hf' H' w → Rep wa Hf' v d → D.rt v H'
  | .er x s w => ∀ σ H' Hf' cls dx, Go wa H0 Hf0 H' Hf' → Ex Hf Hf' → Base wa Hf' H' w → Slots wa Hf' H' σ s → OwnNew H0 σ s → ErrV mg wa Hf' x cls dx → W cls dx σ H'
  | .no => False
def lS (mg : Str → Option Value) (W : WX) (S : DS) : TS := fun D σ H => ∃ wa Hf sD w H0 Hf0, Go wa H0 Hf0 H Hf ∧ Base wa Hf H w ∧ Slots wa Hf H σ sD ∧ OwnNew H0 σ sD ∧ FinS mg W wa H0 Hf0 Hf (S sD w) D
theorem FinS.shift {H0 Hf0 Hf Hf1 : Hp} {r : RS} {D : Ends} (h : FinS mg W wa H0 Hf0 Hf r D) (x : Ex Hf Hf1) : FinS mg W wa H0 Hf0 Hf1 r D := by
  cases r with
  | nx s w => exact fun σ H' Hf' g e => h σ H' Hf' g (x.trans e)
  | bk s w => exact fun σ H' Hf' g e => h σ H' Hf' g (x.trans e)
  | ct s w => exact fun σ H' Hf' g e => h σ H' Hf' g (x.trans e)
  | rt d w => exact h
  | er y s w => exact fun σ H' Hf' cls dx g e => h σ H' Hf' cls dx g (x.trans e)
  | no => exact h
theorem weakS {st : Stmt} {t t' : TS} (h : PS X st t) (i : ∀ D σ H, t' D σ H → t D σ H) : PS X st t' := ⟨fun pins s σ H D I q => h.run pins s σ H D I (i D σ H q)⟩
theorem weakSs {st : List Stmt} {t t' : TS} (h : PSs X st t) (i : ∀ D σ H, t' D σ H → t D σ H) : PSs X st t' := ⟨fun pins s σ H D I q => h.run pins s σ H D I (i D σ H q)⟩
def sNx : DS := fun s w => .nx s w
def sSeq (S T : DS) : DS := fun s w => match S s w with
  | .nx s1 w1 => T s1 w1
  | o => o
variable {st : Stmt} {rest sts : List Stmt} {S T U : DS} {A B E : DE} {As : DA}
theorem sd_nil : PSs X [] (lS mg W sNx) := weakSs pss_nil fun D σ H h => by
  obtain ⟨wa, Hf, sD, w, H0, Hf0, g, b, hs, ho, h⟩ := h
  exact h σ H Hf g (Ex.refl _) b hs ho
theorem sd_cons (h1 : PS X st (lS mg W S)) (h2 : PSs X rest (lS mg W T)) : PSs X (st :: rest) (lS mg W (sSeq S T)) := weakSs (pss_cons h1 h2) fun D σ H h => by
  obtain ⟨wa, Hf, sD, w, H0, Hf0, g, b, hs, ho, h⟩ := h
  refine ⟨wa, Hf, sD, w, H0, Hf0, g, b, hs, ho, ?_⟩
  unfold sSeq at h
  cases e : S sD w with
  | nx s1 w1 =>
    rw [e] at h
    exact fun σ' H' Hf' g' x' b' hs' ho' => ⟨wa, Hf', s1, w1, H0, Hf0, g', b', hs', ho', h.shift x'⟩
  | bk s1 w1 => rw [e] at h; exact h
  | ct s1 w1 => rw [e] at h; exact h
  | rt d w1 => rw [e] at h; exact h
  | er x s1 w1 => rw [e] at h; exact h
  | no => rw [e] at h; exact h
theorem sd_one (h1 : PS X st (lS mg W S)) : PSs X [st] (lS mg W S) := pss_one h1
def sAsg (i : Nat) (E : DE) : DS := fun s w => match E s w with
  | .ok d w1 => .nx (s.set i (some d)) w1
  | .er x w1 => .er x s w1
  | .no => .no
theorem sd_asg {i : Nat} (h : PS X st (tAsg (lE mg W E) (gName i))) : PS X st (lS mg W (sAsg i E)) := weakS h fun D σ H h => by
  obtain ⟨wa, Hf, sD, w, H0, Hf0, g, b, hs, ho, h⟩ := h
  refine ⟨wa, Hf, sD, w, b, hs, ?_⟩
  unfold sAsg at h
  cases e : E sD w with
  | ok d w1 =>
    rw [e] at h
    exact fun H1 Hf1 g1 b1 v rv => h (σ.set i (some v)) H1 Hf1 (g.trans g1) g1.ex b1 ((hs.go g1).set rv) (ho.set (rep_isO rv))
  | er x w1 =>
    rw [e] at h
    exact fun H1 Hf1 g1 b1 cls dx ev => h σ H1 Hf1 cls dx (g.trans g1) g1.ex b1 (hs.go g1) ho ev
  | no => rw [e] at h; exact h
/-- a new list that its slot owns -/
def sNew (i : Nat) (E : DA) : DS := fun s w => match E s w with
  | .ok d w1 => .nx (s.set i (some (.own d))) w1
  | .er x w1 => .er x s w1
  | .no => .no
theorem sd_new {i : Nat} (h : PS X st (tAsg (lfL mg W As) (gName i))) : PS X st (lS mg W (sNew i As)) := weakS h fun D σ H h => by
  obtain ⟨wa, Hf, sD, w, H0, Hf0, g, b, hs, ho, h⟩ := h
  refine ⟨wa, Hf, sD, w, b, hs, ?_⟩
  unfold sNew at h
  cases e : As sD w with
  | ok d w1 =>
    rw [e] at h
    refine fun H1 Hf1 g1 b1 p vs hp e1 e2 e3 rv => h (σ.set i (some (.ref p))) H1 Hf1 (g.trans g1) g1.ex b1 ((hs.go g1).setOwn e1 e2 e3 rv fun j ye hj io hp' => ?_) (ho.setOwn hs.len (g.fr hp))
    obtain ⟨q, o, k1, k2, k3, _⟩ := hs.oAt hj io
    rw [hp'] at k1
    cases k1
    exact hp _ k2 k3
  | er x w1 =>
    rw [e] at h
    exact fun H1 Hf1 g1 b1 cls dx ev => h σ H1 Hf1 cls dx (g.trans g1) g1.ex b1 (hs.go g1) ho ev
  | no => rw [e] at h; exact h
theorem asg_weak {te te' : TE} {i : Nat} (h : PS X st (tAsg te (gName i))) (w : ∀ σ H Q, te' σ H Q → te σ H Q) : PS X st (tAsg te' (gName i)) := weakS h fun D σ H q => w σ H _ q
/-- any target -/
def sTg (G : DG) (E : DE) : DS := fun s w => match E s w with
  | .ok d w1 => match G d s with
    | some s1 => .nx s1 w1
    | none => .no
  | .er x w1 => .er x s w1
  | .no => .no
theorem sd_tg {G : DG} {vs : List Nat} (h : PS X st (tAsg (lE mg W E) (lG vs G))) : PS X st (lS mg W (sTg G E)) := weakS h fun D σ H h => by
  obtain ⟨wa, Hf, sD, w, H0, Hf0, g, b, hs, ho, h⟩ := h
  refine ⟨wa, Hf, sD, w, b, hs, ?_⟩
  unfold sTg at h
  cases e : E sD w with
  | ok d w1 =>
    rw [e] at h
    dsimp only at h
    cases eg : G d sD with
    | none => rw [eg] at h; exact h.elim
    | some s1 =>
      rw [eg] at h
      exact fun H1 Hf1 g1 b1 v rv => ⟨wa, Hf1, H0, w1, sD, d, s1, b1, rv, hs.go g1, ho, eg, fun σ' hs' ho' _ => h σ' H1 Hf1 (g.trans g1) g1.ex b1 hs' ho'⟩
  | er x w1 =>
    rw [e] at h
    exact fun H1 Hf1 g1 b1 cls dx ev => h σ H1 Hf1 cls dx (g.trans g1) g1.ex b1 (hs.go g1) ho ev
  | no => rw [e] at h; exact h
def sDrop (E : DE) : DS := fun s w => match E s w with
  | .ok _ w1 => .nx s w1
  | .er x w1 => .er x s w1
  | .no => .no
theorem sd_expr (he : PE X e (lE mg W E)) (hsw : swapsWith e none pos.line X.env = pure false := by rfl) : PS X (.Expr e pos) (lS mg W (sDrop E)) := weakS (ps_expr he hsw) fun D σ H h => by
  obtain ⟨wa, Hf, sD, w, H0, Hf0, g, b, hs, ho, h⟩ := h
  refine ⟨wa, Hf, sD, w, b, hs, ?_⟩
  unfold sDrop at h
  cases e : E sD w with
  | ok d w1 =>
    rw [e] at h
    exact fun H1 Hf1 g1 b1 v rv => h σ H1 Hf1 (g.trans g1) g1.ex b1 (hs.go g1) ho
  | er x w1 =>
    rw [e] at h
    exact fun H1 Hf1 g1 b1 cls dx ev => h σ H1 Hf1 cls dx (g.trans g1) g1.ex b1 (hs.go g1) ho ev
  | no => rw [e] at h; exact h
/-- x.append(e), x the slot's own list -/
def sApp (i : Nat) (E : DE) : DS := fun s w => match s[i]? with
  | some (some (.own xs)) => match E s w with
    | .ok d w1 => if xs.length < lim then .nx (s.set i (some (.own (xs ++ [d])))) w1 else .no
    | .er x w1 => .er x s w1
    | .no => .no
  | _ => .no
theorem sd_app {i : Nat} (h : PS X st (tDrop (tBM X.K "list" rAppend (tVar i) (tCons (lE mg W E) tNil)))) : PS X st (lS mg W (sApp i E)) := weakS h fun D σ H h => by
  obtain ⟨wa, Hf, sD, w, H0, Hf0, g, b, hs, ho, h⟩ := h
  unfold sApp at h
  split at h
  · rename_i xs hi
    obtain ⟨p, vs, k1, k2, k3, k4, k5⟩ := hs.own i xs hi
    refine ⟨.ref p, k1, .inl ⟨rfl, vs, SqL.of k2⟩, wa, Hf, sD, w, b, hs, ?_⟩
    cases e : E sD w with
    | ok d w1 =>
      rw [e] at h
      dsimp only at h
      split at h
      · rename_i hz
        intro H1 Hf1 g1 b1 v rv
        have hs1 := hs.go g1
        have kp : H1 p = some (.lst vs) := g1.keep p _ k4 k2
        have kf : Hf1 p = none := (g1.new p _ k2).trans k3
        have h0 : Fr H0 p := ho i _ p hi isO_own k1
        have r1 : Reps wa Hf1 (vs ++ [v]) (xs ++ [d]) := (k5.mono g1.ex).append (.cons rv .nil)
        refine ⟨p, vs, v, rfl, rfl, kp, Nat.lt_of_lt_of_le (by rw [k5.length]; exact hz) (lim_le (Nat.le_refl _)), ?_⟩
        refine h σ _ Hf1 ?_ g1.ex ?_ (hs1.write hi k1 r1) (ho.sub fun j ye hj io => ?_)
        · have gg := g.trans g1
          exact gg.appF h0
        · exact b1.appL kf k4 kp
        · by_cases hji : j = i
          · subst hji
            exact ⟨_, hi, isO_own⟩
          · rw [List.getElem?_set_ne (Ne.symm hji)] at hj
            exact ⟨ye, hj, io⟩
      · exact h.elim
    | er x w1 =>
      rw [e] at h
      exact fun H1 Hf1 g1 b1 cls dx ev => h σ H1 Hf1 cls dx (g.trans g1) g1.ex b1 (hs.go g1) ho ev
    | no => rw [e] at h; exact h
  · exact h.elim
/-- the well's k-th number stored -/
def setW (w : Wl) (k : Int) (z : Int) : Option Wl := if k = 0 then some (z, w.2.1, w.2.2) else if k = 1 then some (w.1, z, w.2.2) else if k = 2 then some (w.1, w.2.1, z) else none
def sSetW (A B E : DE) : DS := fun s w => match (E s w).bind fun d w1 => (A s w1).bind fun x w2 => (B s w2).bind fun k w3 => .ok [d, x, k] w3 with
  | .ok [.int z, .well, .int k] w3 => match setW w3 k z with
    | some w4 => .nx s w4
    | none => .no
  | .er x w3 => .er x s w3
  | _ => .no
theorem sd_setW (h : PS X st (tAsg (lE mg W E) (gSub (lE mg W A) (lE mg W B) rSetL))) : PS X st (lS mg W (sSetW A B E)) := weakS h fun D σ H h => by
  obtain ⟨wa, Hf, sD, w, H0, Hf0, g, b, hs, ho, h⟩ := h
  refine ⟨wa, Hf, sD, w, b, hs, ?_⟩
  unfold sSetW at h
  cases e : E sD w with
  | no => rw [e] at h; exact h
  | er x w1 =>
    rw [e] at h
    exact fun H1 Hf1 g1 b1 cls dx ev => h σ H1 Hf1 cls dx (g.trans g1) g1.ex b1 (hs.go g1) ho ev
  | ok d w1 =>
    rw [e, R.bind_ok] at h
    intro H1 Hf1 g1 b1 v rv
    refine ⟨wa, Hf1, sD, w1, b1, hs.go g1, ?_⟩
    cases e2 : A sD w1 with
    | no => rw [e2] at h; exact h
    | er x w2 =>
      rw [e2] at h
      exact fun H2 Hf2 g2 b2 cls dx ev => h σ H2 Hf2 cls dx ((g.trans g1).trans g2) (g1.ex.trans g2.ex) b2 ((hs.go g1).go g2) ho ev
    | ok x w2 =>
      rw [e2, R.bind_ok] at h
      intro H2 Hf2 g2 b2 v2 rv2
      refine ⟨wa, Hf2, sD, w2, b2, (hs.go g1).go g2, ?_⟩
      cases e3 : B sD w2 with
      | no => rw [e3] at h; exact h
      | er x w3 =>
        rw [e3] at h
        exact fun H3 Hf3 g3 b3 cls dx ev => h σ H3 Hf3 cls dx (((g.trans g1).trans g2).trans g3) ((g1.ex.trans g2.ex).trans g3.ex) b3 (((hs.go g1).go g2).go g3) ho ev
      | ok k w3 =>
        rw [e3, R.bind_ok] at h
        intro H3 Hf3 g3 b3 v3 rv3
        split at h
        · rename_i z k' w3' heq
          cases heq
          cases rv3
          cases rv2
          cases rv
          split at h
          · rename_i w4 hw
            have fin : ∀ j, ixN (wl w3).length k' = some j → wl w4 = (wl w3).set j (.int z) → rSetL (.ref wa) (.int k') (.int z) H3 fun H4 => D.nx σ H4 := fun j hj he => by
              refine ⟨wa, wl w3, k', j, rfl, rfl, b3.well, hj, ?_⟩
              rw [← he]
              have gg := (((g.trans g1).trans g2).trans g3)
              have hs3 := ((hs.go g1).go g2).go g3
              have g4 : Go wa H3 Hf3 (upd H3 wa (.lst (wl w4))) Hf3 := ⟨fun a o n _ q => by rw [upd_ne n]; exact q, Ex.refl _, fun _ _ _ _ => rfl, fun a o t q => by
                by_cases ha : a = wa
                · exact ⟨_, nt_lst, fun _ => nu_lst, by rw [ha]; exact upd_same⟩
                · exact ⟨o, t, id, by rw [upd_ne ha]; exact q⟩⟩
              exact h σ _ Hf3 (gg.trans g4) ((g1.ex.trans g2.ex).trans g3.ex) ⟨Evl.Ex.mut b3.ex b3.nw, upd_same, b3.nw, tabs_upd b3.tb (.inr ⟨_, b3.well⟩), b3.nt, b3.od⟩ (hs3.go g4) ho
            unfold setW at hw
            split at hw
            · rename_i h0
              cases hw
              subst h0
              exact fin 0 rfl rfl
            · split at hw
              · rename_i h0
                cases hw
                subst h0
                exact fin 1 rfl rfl
              · split at hw
                · rename_i h0
                  cases hw
                  subst h0
                  exact fin 2 rfl rfl
                · cases hw
          · exact h.elim
        · rename_i heq
          cases heq
        · exact h.elim
def sIf (C : DT) (S T : DS) : DS := fun s w => match C s w with
  | .ok k w1 => if k then S s w1 else T s w1
  | .er x w1 => .er x s w1
  | .no => .no
theorem sd_if {c : Expr} {a b : List Stmt} {C : DT} (hc : PT X c (lT mg W C)) (ha : PSs X a (lS mg W S)) (hb : PSs X b (lS mg W T)) : PS X (.If c a b pos) (lS mg W (sIf C S T)) := weakS (ps_if hc ha hb) fun D σ H h => by
  obtain ⟨wa, Hf, sD, w, H0, Hf0, g, b, hs, ho, h⟩ := h
  refine ⟨wa, Hf, sD, w, b, hs, ?_⟩
  unfold sIf at h
  cases e : C sD w with
  | no => rw [e] at h; exact h
  | er x w1 =>
    rw [e] at h
    exact fun H1 Hf1 g1 b1 cls dx ev => h σ H1 Hf1 cls dx (g.trans g1) g1.ex b1 (hs.go g1) ho ev
  | ok k w1 =>
    rw [e] at h
    intro H1 Hf1 g1 b1 v rv
    have ev : v = k := rv
    subst ev
    cases v with
    | true => exact iteT ⟨wa, Hf1, sD, w1, H0, Hf0, g.trans g1, b1, hs.go g1, ho, FinS.shift h g1.ex⟩
    | false => exact iteF ⟨wa, Hf1, sD, w1, H0, Hf0, g.trans g1, b1, hs.go g1, ho, FinS.shift h g1.ex⟩
def sRet (E : DE) : DS := fun s w => match E s w with
  | .ok d w1 => .rt d w1
  | .er x w1 => .er x s w1
  | .no => .no
theorem sd_ret (he : PE X e (lE mg W E)) : PS X (.Return (some e) pos) (lS mg W (sRet E)) := weakS (ps_ret he) fun D σ H h => by
  obtain ⟨wa, Hf, sD, w, H0, Hf0, g, b, hs, ho, h⟩ := h
  refine ⟨wa, Hf, sD, w, b, hs, ?_⟩
  unfold sRet at h
  cases e : E sD w with
  | ok d w1 =>
    rw [e] at h
    exact fun H1 Hf1 g1 b1 v rv => h H1 Hf1 v (g.trans g1) b1 rv
  | er x w1 =>
    rw [e] at h
    exact fun H1 Hf1 g1 b1 cls dx ev => h σ H1 Hf1 cls dx (g.trans g1) g1.ex b1 (hs.go g1) ho ev
  | no => rw [e] at h; exact h
/-- a, b = e1, e2 -/
def sPar (i j : Nat) (As : DA) : DS := fun s w => match As s w with
  | .ok [x, y] w1 => .nx ((s.set i (some x)).set j (some y)) w1
  | .er x w1 => .er x s w1
  | _ => .no
theorem sd_par {i j : Nat} (h : PS X st (tPar i j (lA mg W As))) : PS X st (lS mg W (sPar i j As)) := weakS h fun D σ H h => by
  obtain ⟨wa, Hf, sD, w, H0, Hf0, g, b, hs, ho, h⟩ := h
  refine ⟨wa, Hf, sD, w, b, hs, ?_⟩
  unfold sPar at h
  cases e : As sD w with
  | ok d w1 =>
    rw [e] at h
    intro H1 Hf1 g1 b1 v rv
    split at h
    · rename_i x y w1' heq
      cases heq
      cases rv with
      | cons r1 r2 =>
        cases r2 with
        | cons r2 r3 =>
          cases r3
          have n1 : ¬ IsO x := rep_isO r1
          have n2 : ¬ IsO y := rep_isO r2
          exact ⟨_, _, rfl, h _ H1 Hf1 (g.trans g1) g1.ex b1 (((hs.go g1).set r1).set r2) ((ho.set n1).set n2)⟩
    · rename_i heq
      cases heq
    · exact h.elim
  | er x w1 =>
    rw [e] at h
    exact fun H1 Hf1 g1 b1 cls dx ev => h σ H1 Hf1 cls dx (g.trans g1) g1.ex b1 (hs.go g1) ho ev
  | no => rw [e] at h; exact h
/-- from here on the slot's own list is only read -/
def frzS (i : Nat) (s : Sl) : Sl := match s[i]? with
  | some (some (.own xs)) => s.set i (some (.lst xs))
  | _ => s
def sFrz (i : Nat) (S : DS) : DS := fun s w => S (frzS i s) w
theorem frz_ok {i : Nat} {D : Ends} (h : lS mg W (sFrz i S) D σ H) : lS mg W S D σ H := by
  obtain ⟨wa, Hf, sD, w, H0, Hf0, g, b, hs, ho, h⟩ := h
  unfold sFrz frzS at h
  split at h
  · rename_i xs hi
    obtain ⟨p, vs, k1, k2, k3, k4, k5⟩ := hs.own i xs hi
    have h0 : Fr H0 p := ho i _ p hi isO_own k1
    have x1 : Ex Hf (upd Hf p (.lst vs)) := Ex.new k3
    refine ⟨wa, upd Hf p (.lst vs), _, w, H0, Hf0, ⟨g.keepN, g.ex.trans x1, fun a o t q => by rw [upd_ne (ne_of_fr q t.1 h0)]; exact g.newN a o t q, g.thereN⟩, ⟨fun a u q => ?_, b.well, by rw [upd_ne (Ne.symm k4)]; exact b.nw, b.tb, nt_upd b.nt nt_lst, b.od.trans x1⟩, hs.frz hi k1 k2, ho.sub fun j ye hj io => ?_, FinS.shift h x1⟩
    · by_cases ha : a = p
      · subst ha; rw [upd_same] at q; rw [← q]; exact k2
      · rw [upd_ne ha] at q; exact b.ex a u q
    · by_cases hji : j = i
      · subst hji
        rw [List.getElem?_set_self (List.getElem?_eq_some_iff.mp hi).1] at hj
        cases hj
        rcases io with ⟨zs, z⟩ | ⟨ks, zs, z⟩ <;> cases z
      · rw [List.getElem?_set_ne (Ne.symm hji)] at hj
        exact ⟨ye, hj, io⟩
  · exact ⟨wa, Hf, sD, w, H0, Hf0, g, b, hs, ho, h⟩
theorem sd_frz (i : Nat) (h : PSs X sts (lS mg W S)) : PSs X sts (lS mg W (sFrz i S)) := weakSs h fun _ _ _ q => frz_ok q
theorem sd_frz1 (i : Nat) (h : PS X st (lS mg W S)) : PS X st (lS mg W (sFrz i S)) := weakS h fun _ _ _ q => frz_ok q
/-! ### loops -/
def loopD (G : DG) (B : DS) : List D → DS
  | [], s, w => .nx s w
  | d :: r, s, w => match G d s with
    | none => .no
    | some s1 => match B s1 w with
      | .nx s2 w2 => loopD G B r s2 w2
      | .ct s2 w2 => loopD G B r s2 w2
      | .bk s2 w2 => .nx s2 w2
      | o => o
def sFor (I : DI) (G : DG) (B : DS) : DS := fun s w => match I s w with
  | .ok ds w1 => loopD G B ds s w1
  | .er x w1 => .er x s w1
  | .no => .no
theorem sd_for {I : DI} {G : DG} {S : DS} {vs : List Nat} {body : List Stmt} (hp : PassesOwn (model X.prog X.w) X.A X.env X.xe) (hc : X.calm = true) (hi : PI X tg iter (lI mg W I)) (hg : PG X tg (lG vs G)) (hb : PSs X body (lS mg W S))
    (hfs : ∀ x, foldedSetIterable iter X.env x = pure x := by intro _; rfl) : PS X (.For tg iter body [] pos) (lS mg W (sFor I G S)) := weakS (ps_for hp hc hi hg hb hfs) fun D σ H h => by
  obtain ⟨wa, Hf, sD, w, H0, Hf0, g, b, hs, ho, h⟩ := h
  refine ⟨wa, Hf, sD, w, b, hs, ?_⟩
  unfold sFor at h
  cases e : I sD w with
  | no => rw [e] at h; exact h
  | er x w1 =>
    rw [e] at h
    exact fun H1 Hf1 g1 b1 cls dx ev => h σ H1 Hf1 cls dx (g.trans g1) g1.ex b1 (hs.go g1) ho ev
  | ok ds w1 =>
    rw [e] at h
    intro H1 Hf1 g1 b1 J wk
    have h1 := FinS.shift h g1.ex
    refine ⟨fun i m σ2 H2 => m = ds.length - i ∧ i ≤ ds.length ∧ ∃ Hf2 s2 w2, Go wa H0 Hf0 H2 Hf2 ∧ Ex Hf1 Hf2 ∧ Base wa Hf2 H2 w2 ∧ Slots wa Hf2 H2 σ2 s2 ∧ OwnNew H0 σ2 s2 ∧ FinS mg W wa H0 Hf0 Hf2 (loopD G S (ds.drop i) s2 w2) D,
      ⟨ds.length, by simp, Nat.zero_le _, Hf1, sD, w1, g.trans g1, Ex.refl _, b1, hs.go g1, ho, h1⟩, ?_⟩
    rintro i m σ2 H2 ⟨rfl, hle, Hf2, s2, w2, g2, x2, b2, hs2, ho2, h2⟩
    by_cases hlt : i < ds.length
    · have ed : ds.drop i = ds[i] :: ds.drop (i + 1) := List.drop_eq_getElem_cons hlt
      rw [ed] at h2
      have gi : ds[i]? = some ds[i] := by simp [hlt]
      refine .inr ⟨wk.goes i H2 hlt (x2.trans b2.ex), fun σ' H' => ∃ Hf2 s2 w2, Go wa H0 Hf0 H' Hf2 ∧ Ex Hf1 Hf2 ∧ Base wa Hf2 H' w2 ∧ Slots wa Hf2 H' σ' s2 ∧ OwnNew H0 σ' s2 ∧ FinS mg W wa H0 Hf0 Hf2 (loopD G S (ds.drop (i + 1)) s2 w2) D,
        fun σ' H' hN => ⟨ds.length - (i + 1), by omega, rfl, hlt, hN⟩, fun x H3 hy => ?_⟩
      obtain ⟨Hf3, g3, b3, r3⟩ := wk.yields i H2 Hf2 w2 x H3 _ gi x2 b2 hy
      unfold loopD at h2
      cases eg : G ds[i] s2 with
      | none => rw [eg] at h2; exact h2.elim
      | some s3 =>
        rw [eg] at h2
        dsimp only at h2
        refine ⟨wa, Hf3, H0, w2, s2, ds[i], s3, b3, r3, hs2.go g3, ho2, eg, fun σ4 hs4 ho4 _ => ⟨wa, Hf3, s3, w2, H0, Hf0, g2.trans g3, b3, hs4, ho4, ?_⟩⟩
        cases eb : S s3 w2 with
        | nx s5 w5 =>
          rw [eb] at h2
          exact fun σ5 H5 Hf5 g5 x5 b5 hs5 ho5 => ⟨Hf5, s5, w5, g5, (x2.trans g3.ex).trans x5, b5, hs5, ho5, FinS.shift h2 (g3.ex.trans x5)⟩
        | ct s5 w5 =>
          rw [eb] at h2
          exact fun σ5 H5 Hf5 g5 x5 b5 hs5 ho5 => ⟨Hf5, s5, w5, g5, (x2.trans g3.ex).trans x5, b5, hs5, ho5, FinS.shift h2 (g3.ex.trans x5)⟩
        | bk s5 w5 =>
          rw [eb] at h2
          exact fun σ5 H5 Hf5 g5 x5 b5 hs5 ho5 => h2 σ5 H5 Hf5 g5 (g3.ex.trans x5) b5 hs5 ho5
        | rt d w5 => rw [eb] at h2; exact h2
        | er y s5 w5 => rw [eb] at h2; exact FinS.shift (r := .er y s5 w5) h2 g3.ex
        | no => rw [eb] at h2; exact h2
    · have ei : i = ds.length := by omega
      subst ei
      rw [List.drop_length] at h2
      exact .inl ⟨wk.stops H2 (x2.trans b2.ex), h2 σ2 H2 Hf2 g2 (Ex.refl _) b2 hs2 ho2⟩
/-- at most n turns -/
def whileD (C : DT) (B : DS) : Nat → DS
  | 0, _, _ => .no
  | n + 1, s, w => match C s w with
    | .ok true w1 => match B s w1 with
      | .nx s2 w2 => whileD C B n s2 w2
      | .ct s2 w2 => whileD C B n s2 w2
      | .bk s2 w2 => .nx s2 w2
      | o => o
    | .ok false w1 => .nx s w1
    | .er x w1 => .er x s w1
    | .no => .no
theorem sd_while {c : Expr} {C : DT} {S : DS} {body : List Stmt} (n : Nat) (hp : PassesOwn (model X.prog X.w) X.A X.env X.xe) (hc : PT X c (lT mg W C)) (hb : PSs X body (lS mg W S)) : PS X (.While c body [] pos) (lS mg W (whileD C S n)) := weakS (ps_while hp hc hb) fun D σ H h => by
  obtain ⟨wa, Hf, sD, w, H0, Hf0, g, b, hs, ho, h⟩ := h
  refine ⟨fun m σ2 H2 => ∃ Hf2 s2 w2, Go wa H0 Hf0 H2 Hf2 ∧ Base wa Hf2 H2 w2 ∧ Slots wa Hf2 H2 σ2 s2 ∧ OwnNew H0 σ2 s2 ∧ Ex Hf Hf2 ∧ FinS mg W wa H0 Hf0 Hf2 (whileD C S m s2 w2) D, ⟨n, Hf, sD, w, g, b, hs, ho, Ex.refl _, h⟩, ?_⟩
  rintro m σ2 H2 ⟨Hf2, s2, w2, g2, b2, hs2, ho2, x2, h2⟩
  cases m with
  | zero => exact h2.elim
  | succ m =>
    unfold whileD at h2
    refine ⟨wa, Hf2, s2, w2, b2, hs2, ?_⟩
    cases ec : C s2 w2 with
    | no => rw [ec] at h2; exact h2
    | er x w3 =>
      rw [ec] at h2
      exact fun H1 Hf1 g1 b1 cls dx ev => h2 σ2 H1 Hf1 cls dx (g2.trans g1) g1.ex b1 (hs2.go g1) ho2 ev
    | ok k w3 =>
      rw [ec] at h2
      intro H3 Hf3 g3 b3 v rv
      have ev : v = k := rv
      subst ev
      cases v with
      | false => exact iteF (h2 σ2 H3 Hf3 (g2.trans g3) g3.ex b3 (hs2.go g3) ho2)
      | true =>
        dsimp only at h2
        refine iteT ⟨fun σ' H' => ∃ Hf2 s2 w2, Go wa H0 Hf0 H' Hf2 ∧ Base wa Hf2 H' w2 ∧ Slots wa Hf2 H' σ' s2 ∧ OwnNew H0 σ' s2 ∧ Ex Hf Hf2 ∧ FinS mg W wa H0 Hf0 Hf2 (whileD C S m s2 w2) D, fun σ' H' hN => ⟨m, Nat.lt_succ_self m, hN⟩,
          wa, Hf3, s2, w3, H0, Hf0, g2.trans g3, b3, hs2.go g3, ho2, ?_⟩
        cases eb : S s2 w3 with
        | nx s5 w5 =>
          rw [eb] at h2
          exact fun σ5 H5 Hf5 g5 x5 b5 hs5 ho5 => ⟨Hf5, s5, w5, g5, b5, hs5, ho5, (x2.trans g3.ex).trans x5, FinS.shift h2 (g3.ex.trans x5)⟩
        | ct s5 w5 =>
          rw [eb] at h2
          exact fun σ5 H5 Hf5 g5 x5 b5 hs5 ho5 => ⟨Hf5, s5, w5, g5, b5, hs5, ho5, (x2.trans g3.ex).trans x5, FinS.shift h2 (g3.ex.trans x5)⟩
        | bk s5 w5 =>
          rw [eb] at h2
          exact fun σ5 H5 Hf5 g5 x5 b5 hs5 ho5 => h2 σ5 H5 Hf5 g5 (g3.ex.trans x5) b5 hs5 ho5
        | rt d w5 => rw [eb] at h2; exact h2
        | er y s5 w5 => rw [eb] at h2; exact FinS.shift (r := .er y s5 w5) h2 g3.ex
        | no => rw [eb] at h2; exact h2
end
/-! ### a def -/
def runB (n k : Nat) (B : DS) : DF := fun ds w => if ds.length = k then match B (ds.map some ++ List.replicate (n - k) none) w with
    | .nx _ w1 => .ok .non w1
    | .rt d w1 => .ok d w1
    | .er x _ w1 => .er x w1
    | _ => .no
  else .no
section
variable {P : Program} {w : World} {K : PySem.W.Frag} {mg : Str → Option Value} {base : Heap}
theorem slots_start {wa : Addr} {Hf H : Hp} {vs : List V} {ds : List D} {N : List Str} (hl : vs.length ≤ N.length) (r : Reps wa Hf vs ds) : Slots wa Hf H (L2.start N vs) (ds.map some ++ List.replicate (N.length - ds.length) none) := by
  have e := r.length
  have key : ∀ (i : Nat) (d : D), (ds.map some ++ List.replicate (N.length - ds.length) none)[i]? = some (some d) → ds[i]? = some d := fun i d h => by
    rw [List.getElem?_append] at h
    split at h
    · rw [List.getElem?_map] at h
      cases q : ds[i]? with
      | none => rw [q] at h; cases h
      | some z => rw [q] at h; cases h; rfl
    · rw [List.getElem?_replicate] at h
      split at h <;> cases h
  have nown : ∀ (i : Nat) (d : D), IsO d → ds[i]? ≠ some d := fun i d io h => by
    obtain ⟨v, _, r'⟩ := r.get h
    exact rep_isO r' io
  refine ⟨by unfold L2.start; simp [e], fun i d h n => ?_, fun i xs h => absurd (key i _ h) (nown i _ isO_own), fun i ks xs h => absurd (key i _ h) (nown i _ isO_dct), fun i j d e p h io _ _ _ _ => absurd (key i _ h) (nown i d io)⟩
  obtain ⟨v, h1, h2⟩ := r.get (key i d h)
  refine ⟨v, ?_, h2⟩
  unfold L2.start
  have hi : i < vs.length := (List.getElem?_eq_some_iff.mp h1).1
  rw [List.getElem?_append_left (by simpa using hi), List.getElem?_map, h1]
  rfl
theorem fnD {x qual : Str} {st : Stmt} {f : Addr} {fd : FuncData} {N ps : List Str} {k : Nat} (F : Fun K x qual st f fd) (S : FnScope N ps (defScope st)) (hN : ps.length ≤ N.length) (B : DS)
    (h : ∀ (cdv : Value) (A : Around) (outer : List Env) (s : Shared) (H : Hp) (E : XK), Room k (A.deeper (envOfC qual (defScope st) s.heap.objs.size f cdv)) →
      PSs (cxOf (L2.CX P w) P w K mg base N qual (defScope st) f cdv A outer s H E) (defBody st) (lS mg (fun cls d _ H => E cls d H) B)) : FnD P w K mg base (k + 1) f fd ps (runB N.length ps.length B) := by
  refine F.okX S (fun vs H Q E ⟨wa, Hf, ds, w, hb, r, hl, _⟩ => by rw [r.length]; exact hl) fun cdv A outer s H vs Q E hr ⟨wa, Hf, ds, w, hb, r, hl, q⟩ => ⟨_, h cdv A outer s H E hr, ?_⟩
  have hvl : vs.length ≤ N.length := by rw [r.length, hl]; exact hN
  have hst := slots_start (H := H) hvl r
  refine ⟨wa, Hf, _, w, H, Hf, Go.refl, hb, hst, fun i d p h1 io _ => ?_, ?_⟩
  · exfalso
    rw [List.getElem?_append] at h1
    split at h1
    · rw [List.getElem?_map] at h1
      cases e : ds[i]? with
      | none => rw [e] at h1; cases h1
      | some z =>
        rw [e] at h1
        cases h1
        obtain ⟨v, _, r'⟩ := r.get e
        exact rep_isO r' io
    · rw [List.getElem?_replicate] at h1
      split at h1 <;> cases h1
  · unfold runB at q
    rw [if_pos hl, ← hl] at q
    cases eB : B (ds.map some ++ List.replicate (N.length - ds.length) none) w with
    | nx s1 w1 => rw [eB] at q; exact fun σ H' Hf' g _ b _ _ => q H' Hf' g b _ .non
    | rt d w1 => rw [eB] at q; exact fun H' Hf' v g b r' => q H' Hf' g b v r'
    | er y s1 w1 => rw [eB] at q; exact fun σ H' Hf' cls dx g _ b _ _ ev => q H' Hf' g b cls dx ev
    | bk s1 w1 => rw [eB] at q; exact q.elim
    | ct s1 w1 => rw [eB] at q; exact q.elim
    | no => rw [eB] at q; exact q.elim
end
end DL

set_option maxHeartbeats 4000000
namespace DL
open PySem PySem.Spec PyProof.Rows L2
variable [TabT] [OldT]
open Evl (Ex)
/-! ### zip of two, of three, each a list or a tuple -/
def hoK (k : Bool) (xs : List V) : HO := match k with | true => .tup xs | false => .lst xs
def SI (k : Bool) (h : Heap) (it l : Addr) (i : Nat) : Prop := match k with | true => h.IsTupleIter it l i | false => h.IsListIter it l i
def SQ (k : Bool) (h : Heap) (l : Addr) (xs : Array Value) : Prop := match k with | true => h.IsTuple l xs | false => h.IsList l xs
def itO (k : Bool) (l : Addr) : Obj := match k with
  | true => { cls := .type "tuple_iterator", data := .fields #[.ref l, .int 0 0] }
  | false => { cls := .type "list_iterator", data := .fields #[.ref l, .int 0 0] }
theorem SI.at {k : Bool} {h h' : Heap} {it l : Addr} {i : Nat} (x : SI k h it l i) (e : ∀ o, h.get? it = some o → h'.get? it = some o) : SI k h' it l i := by
  cases k with
  | true => exact Heap.IsTupleIter.at x e
  | false => exact Heap.IsListIter.at x e
theorem SI.obj {k : Bool} {h : Heap} {it l : Addr} {i : Nat} (x : SI k h it l i) : ∃ o, h.get? it = some o ∧ ∀ v, o.data ≠ .cell v := by
  cases k with
  | true => obtain ⟨o, e, _, d⟩ := x; exact ⟨o, e, fun v z => by rw [d] at z; cases z⟩
  | false => obtain ⟨o, e, _, d⟩ := x; exact ⟨o, e, fun v z => by rw [d] at z; cases z⟩
theorem SI.new {k : Bool} {h : Heap} {it l : Addr} (x : h.get? it = some (itO k l)) : SI k h it l 0 := by
  cases k with
  | true => exact ⟨_, x, rfl, rfl⟩
  | false => exact ⟨_, x, rfl, rfl⟩
theorem draws_SI {prog : Program} {w : World} {A : Around} (k : Bool) (hh : A.handled = none) (it l : Addr) (hne : l ≠ it) (items : Array Value) :
    Draws prog w A it [it, l] items.size (fun i v => items[i]? = some v) (fun i h => SI k h it l i ∧ SQ k h l items) := by
  cases k with
  | true => exact Draws.tuple hh it l hne items
  | false => exact Draws.list hh it l hne items
theorem begins_SI (k : Bool) (l : Addr) (items : Array Value) : Begins (.ref l) (itO k l) fun h => SQ k h l items := by
  cases k with
  | true => exact begins_tuple l items
  | false => exact begins_list l items
section
variable {X : Cx} {pins : List (Addr × Obj)} {σ : L2.St} {H : Hp} {s : Shared}
theorem seqAt (I : Inv X pins σ H s) {k : Bool} {a : Addr} {xs : List V} (h : H a = some (hoK k xs)) : ∃ its : List Value, Vals xs its ∧ SQ k s.heap a its.toArray ∧ a < s.heap.objs.size := by
  cases k with
  | true =>
    obtain ⟨its, r, p, _⟩ := I.tuple (SqT.of h)
    obtain ⟨o, e, _⟩ := id p
    exact ⟨its, r, p, Heap.lt_size e⟩
  | false =>
    obtain ⟨its, r, p, _⟩ := I.list (SqL.of h)
    exact ⟨its, r, p.isList, p.lt⟩
theorem hoK_inj {k : Bool} {xs ys : List V} (h : hoK k xs = hoK k ys) : xs = ys := by
  cases k <;> (cases h; rfl)
def ItZ2 (k1 k2 : Bool) (a b : Addr) : It :=
  ⟨fun i H => ∃ xs ys : List V, H a = some (hoK k1 xs) ∧ H b = some (hoK k2 ys) ∧ i < xs.length ∧ i < ys.length,
    fun i H v H' => ∃ T x y, v = .ref T ∧ H T = none ∧ H' = upd H T (.tup [x, y]) ∧ (∀ xs, H a = some (hoK k1 xs) → xs[i]? = some x) ∧ ∀ ys, H b = some (hoK k2 ys) → ys[i]? = some y,
    fun i H => ∃ xs ys : List V, H a = some (hoK k1 xs) ∧ H b = some (hoK k2 ys) ∧ i = min xs.length ys.length⟩
theorem turn_z2 {P : Program} {w : World} {K : PySem.W.Frag} {elts : List Expr} {kk : Nat} {tpos : Pos} {k1 k2 : Bool} {a b z TI TO i1 i2 : Addr} (D : ZipApart z TI TO i1 i2 a b) :
    Turn P w K (.Tuple elts kk tpos) (ItZ2 k1 k2 a b) [z, TI, TO, i1, i2] z (fun i h => IsZip h z TI TO .none ∧ IsTupOf2 h TI (.ref i1) (.ref i2) ∧ (∃ x y, IsTupOf2 h TO x y) ∧ SI k1 h i1 a i ∧ SI k2 h i2 b i) where
  mem := by simp
  obj := fun i h st c hc => by
    obtain ⟨hz, hTI, ⟨x, y, hTO⟩, h1, h2⟩ := st
    have e' : c = z ∨ c = TI ∨ c = TO ∨ c = i1 ∨ c = i2 := by simpa using hc
    rcases e' with q | q | q | q | q
    · rw [q]; exact ⟨_, hz, fun v q => nomatch q⟩
    · rw [q]; exact ⟨_, hTI, fun v q => nomatch q⟩
    · rw [q]; exact ⟨_, hTO, fun v q => nomatch q⟩
    · rw [q]; exact h1.obj
    · rw [q]; exact h2.obj
  keep := fun i h h' st k => by
    obtain ⟨hz, hTI, ⟨x, y, hTO⟩, h1, h2⟩ := st
    exact ⟨k z (by simp) _ hz, k TI (by simp) _ hTI, ⟨x, y, k TO (by simp) _ hTO⟩, h1.at fun o q => k i1 (by simp) o q, h2.at fun o q => k i2 (by simp) o q⟩
  item := by
    intro X hP hw hK hc i pins s σ H E I hf st hg
    subst hP hw hK
    obtain ⟨hz, hTI, hTO, h1, h2⟩ := st
    obtain ⟨xs, ys, ha, hb, hx, hy⟩ := hg
    obtain ⟨its, rv, p, la⟩ := seqAt I ha
    obtain ⟨its2, rv2, p2, lb⟩ := seqAt I hb
    have hh := I.ok.hd hc
    have W := GoesN.zip2 (elts := elts) (x1 := kk) (pos := tpos) (z := z) (TI := TI) (TO := TO) (ZipSep2.mk (fp1 := [i1, a]) (fp2 := [i2, b]) D.TIz D.TOz D.TITO D.TIi1 (by simp) (by simp [D.i1z.symm, D.l1z.symm]) (by simp [D.TOi1, D.l1TO.symm]) D.TIi2 (by simp) (by simp [D.i2z.symm, D.l2z.symm]) (by simp [D.TOi2, D.l2TO.symm]) (by simp [D.i12, D.l2i1.symm]) (by simp [D.i12.symm, D.l1i2.symm]))
      (draws_SI (prog := X.prog) (w := X.w) (A := X.A.in1) k1 hh i1 a D.l1i1 its.toArray) (draws_SI (prog := X.prog) (w := X.w) (A := X.A.in1) k2 hh i2 b D.l2i2 its2.toArray)
    have l1 := rv.length
    have l2 := rv2.length
    refine thn (W.goes i s (fun v s2 => ∃ x H', Inv X pins σ H' s2 ∧ RelV x v ∧ (ItZ2 k1 k2 a b).yld i H x H' ∧ (IsZip s2.heap z TI TO .none ∧ IsTupOf2 s2.heap TI (.ref i1) (.ref i2) ∧ (∃ x y, IsTupOf2 s2.heap TO x y) ∧ SI k1 s2.heap i1 a (i + 1) ∧ SI k2 s2.heap i2 b (i + 1)) ∧ ∀ c ∈ [z, TI, TO, i1, i2], H' c = none) E (by simp; omega) ⟨hz, hTI, hTO, ⟨h1, p⟩, ⟨h2, p2⟩⟩ fun v h' tk hY st' hk _ => ?_) fun r s1 q => q
    obtain ⟨T, u1, u2, rfl, hT, e1, e2, hTup⟩ := hY
    obtain ⟨hz', hTI', hTO', ⟨h1', _⟩, ⟨h2', _⟩⟩ := st'
    have e1 : its[i]? = some u1 := by simpa using e1
    have e2 : its2[i]? = some u2 := by simpa using e2
    have gx : xs[i]? = some xs[i] := by simp [hx]
    have gy : ys[i]? = some ys[i] := by simp [hy]
    obtain ⟨u1', f1, r1⟩ := rv.get gx
    obtain ⟨u2', f2, r2⟩ := rv2.get gy
    rw [e1] at f1
    cases f1
    rw [e2] at f2
    cases f2
    have new : ObjOk X.prog X.w (upd H T (.tup [xs[i], ys[i]])) h' T (.tup [xs[i], ys[i]]) := ⟨by show 2 ≤ sizeLine; decide, [u1, u2], .cons r1 (.cons r2 .nil), hTup⟩
    have I1 : Inv X pins σ (upd H T (.tup [xs[i], ys[i]])) { s with heap := h', toks := tk } := I.turnedNew (ch := [z, TI, TO, i1, i2]) (fun c o hcm q => hk c o (fun m => hcm (by simp at m ⊢; rcases m with m | m | m | m <;> simp [m])) q) hf hT new
    refine ⟨.ref T, _, I1, rfl, ⟨T, _, _, rfl, I.hok.fresh hT, rfl, fun l hl => ?_, fun l hl => ?_⟩, ⟨hz', hTI', hTO', h1', h2'⟩, fun c hcm => ?_⟩
    · rw [ha] at hl
      rw [← hoK_inj (Option.some.inj hl)]
      exact gx
    · rw [hb] at hl
      rw [← hoK_inj (Option.some.inj hl)]
      exact gy
    · have hlt : c < s.heap.objs.size := by
        have e' : c = z ∨ c = TI ∨ c = TO ∨ c = i1 ∨ c = i2 := by simpa using hcm
        rcases e' with q | q | q | q | q
        · rw [q]; exact Heap.lt_size hz
        · rw [q]; exact Heap.lt_size hTI
        · obtain ⟨_, _, hTO⟩ := hTO; rw [q]; exact Heap.lt_size hTO
        · rw [q]; obtain ⟨_, e, _⟩ := h1.obj; exact Heap.lt_size e
        · rw [q]; obtain ⟨_, e, _⟩ := h2.obj; exact Heap.lt_size e
      rw [upd_ne (Nat.ne_of_lt (Nat.lt_of_lt_of_le hlt hT))]
      exact (hf c hcm).1
  done := by
    intro X hP hw hK hc i pins s σ H E I hf st hg
    subst hP hw hK
    obtain ⟨hz, hTI, hTO, h1, h2⟩ := st
    obtain ⟨xs, ys, ha, hb, hi⟩ := hg
    obtain ⟨its, rv, p, la⟩ := seqAt I ha
    obtain ⟨its2, rv2, p2, lb⟩ := seqAt I hb
    have hh := I.ok.hd hc
    have l1 := rv.length
    have l2 := rv2.length
    have W := GoesN.zip2 (elts := elts) (x1 := kk) (pos := tpos) (z := z) (TI := TI) (TO := TO) (ZipSep2.mk (fp1 := [i1, a]) (fp2 := [i2, b]) D.TIz D.TOz D.TITO D.TIi1 (by simp) (by simp [D.i1z.symm, D.l1z.symm]) (by simp [D.TOi1, D.l1TO.symm]) D.TIi2 (by simp) (by simp [D.i2z.symm, D.l2z.symm]) (by simp [D.TOi2, D.l2TO.symm]) (by simp [D.i12, D.l2i1.symm]) (by simp [D.i12.symm, D.l1i2.symm]))
      (draws_SI (prog := X.prog) (w := X.w) (A := X.A.in1) k1 hh i1 a D.l1i1 its.toArray) (draws_SI (prog := X.prog) (w := X.w) (A := X.A.in1) k2 hh i2 b D.l2i2 its2.toArray)
    have ei : i = min its.toArray.size its2.toArray.size := by simp; omega
    rw [ei] at h1 h2
    refine W.stops s _ E ⟨hz, hTI, hTO, ⟨h1, p⟩, ⟨h2, p2⟩⟩ fun h' tk hk _ => I.turnedL (ch := [z, TI, TO, i1, i2]) (fun c o hcm q => hk c o (fun m => hcm (by simp at m ⊢; rcases m with m | m | m | m <;> simp [m])) q) hf
  self := fun A i s Q E st h => wpAny_pyIter_zip st.1 h
def iZ2 (k1 k2 : Bool) (ta : TA) : TI := fun σ H R => ta σ H fun vs H1 => ∃ a b xs ys, vs = [.ref a, .ref b] ∧ H1 a = some (hoK k1 xs) ∧ H1 b = some (hoK k2 ys) ∧ R (ItZ2 k1 k2 a b) H1
theorem pi_z2 {e e2 : Expr} {ta : TA} {p pos tpos : Pos} {elts : List Expr} {kk : Nat} (k1 k2 : Bool) (hg : Gl X "zip") (hm : X.mg "zip" = none) (ha : PA X [e, e2] ta)
    (hs : starEach [e, e2] X.env = (false, eval e X.env) :: starEach [e2] X.env := by rfl) (hpl : (backTo pos (starEach [e2] X.env)).any (·.1) = false := by rfl) :
    PI X (.Tuple elts kk tpos) (.Call (.Name "zip" p) [e, e2] [] pos) (iZ2 k1 k2 ta) := by
  refine ⟨fun pins s σ H R I h => ?_⟩
  refine Call_ (ld_blt I hg hm PyProof.Rows.boot_zip (PyProof.Rows.callWith_type1 (thn (ha.run pos pins s σ H _ I h) fun us s1 ⟨vs, H1, I1, r1, q1⟩ => ?_) hs hpl))
  obtain ⟨a, b, xs, ys, ex, hx, hy, q⟩ := q1
  subst ex
  cases r1 with
  | cons r rr =>
    cases rr with
    | cons r' rr =>
      cases rr
      cases r
      cases r'
      obtain ⟨its, rv, p1, la⟩ := seqAt I1 hx
      obtain ⟨its2, rv2, p2, lb⟩ := seqAt I1 hy
      refine zip_begins2 (begins_SI k1 a its.toArray) (begins_SI k2 b its2.toArray) p1 p2 fun h' hz hTI hTO h1 h2 hsz hk => wpAny_pyIter_zip hz ?_
      have I2 : Inv X pins σ H1 { s1 with heap := h' } := I1.kept (t' := s1.toks) hk
      refine ⟨s1.heap.objs.size + 4, [s1.heap.objs.size + 4, s1.heap.objs.size + 2, s1.heap.objs.size + 3, s1.heap.objs.size, s1.heap.objs.size + 1], _, _, H1, rfl, I2, turn_z2 (PySem.W.ktu_apart s1.heap.objs.size a b la lb), ⟨hz, hTI, ⟨_, _, hTO⟩, SI.new h1, SI.new h2⟩, fun c hcm => ?_, q⟩
      have e' : c = s1.heap.objs.size + 4 ∨ c = s1.heap.objs.size + 2 ∨ c = s1.heap.objs.size + 3 ∨ c = s1.heap.objs.size ∨ c = s1.heap.objs.size + 1 := by simpa using hcm
      have hle : s1.heap.objs.size ≤ c := by
        rcases e' with z | z | z | z | z <;> (rw [z]; first | exact Nat.le_add_right _ _ | exact Nat.le_refl _)
      exact I1.fpOk hle (I1.hok.fresh hle)

def ItZ3 (k1 k2 k3 : Bool) (a b c : Addr) : It :=
  ⟨fun i H => ∃ xs ys zs : List V, H a = some (hoK k1 xs) ∧ H b = some (hoK k2 ys) ∧ H c = some (hoK k3 zs) ∧ i < xs.length ∧ i < ys.length ∧ i < zs.length,
    fun i H v H' => ∃ T x y z, v = .ref T ∧ H T = none ∧ H' = upd H T (.tup [x, y, z]) ∧ (∀ xs, H a = some (hoK k1 xs) → xs[i]? = some x) ∧ (∀ ys, H b = some (hoK k2 ys) → ys[i]? = some y) ∧ ∀ zs, H c = some (hoK k3 zs) → zs[i]? = some z,
    fun i H => ∃ xs ys zs : List V, H a = some (hoK k1 xs) ∧ H b = some (hoK k2 ys) ∧ H c = some (hoK k3 zs) ∧ i = min (min xs.length ys.length) zs.length⟩
structure Apart3 (n : Nat) (a b c : Addr) : Prop where
  la : a < n
  lb : b < n
  lc : c < n
theorem mem2 {x y z : Nat} (h1 : x ≠ y) (h2 : x ≠ z) : (x : Addr) ∉ ([y, z] : List Addr) := fun m => by
  rcases List.mem_cons.mp m with e | m
  · exact h1 e
  · rcases List.mem_cons.mp m with e | m
    · exact h2 e
    · cases m
theorem Apart3.sep {n a b c : Nat} (D : Apart3 n a b c) : ZipSep3 (n + 5) (n + 3) (n + 4) n (n + 1) (n + 2) [n, a] [n + 1, b] [n + 2, c] := by
  have la : @LT.lt Nat _ a n := D.la
  have lb : @LT.lt Nat _ b n := D.lb
  have lc : @LT.lt Nat _ c n := D.lc
  constructor <;> first
    | exact List.mem_cons_self
    | exact mem2 (by omega) (by omega)
    | (refine PySem.W.neN ?_; omega)
theorem turn_z3 {P : Program} {w : World} {K : PySem.W.Frag} {elts : List Expr} {kk : Nat} {tpos : Pos} {k1 k2 k3 : Bool} {n a b c : Addr} (D : Apart3 n a b c) :
    Turn P w K (.Tuple elts kk tpos) (ItZ3 k1 k2 k3 a b c) [n + 5, n + 3, n + 4, n, n + 1, n + 2] (n + 5) (fun i h => IsZip h (n + 5) (n + 3) (n + 4) .none ∧ IsTupOf3 h (n + 3) (.ref n) (.ref (n + 1)) (.ref (n + 2)) ∧ (∃ x y z, IsTupOf3 h (n + 4) x y z) ∧ SI k1 h n a i ∧ SI k2 h (n + 1) b i ∧ SI k3 h (n + 2) c i) where
  mem := by simp
  obj := fun i h st d hd => by
    obtain ⟨hz, hTI, ⟨x, y, z, hTO⟩, h1, h2, h3⟩ := st
    have e' : d = n + 5 ∨ d = n + 3 ∨ d = n + 4 ∨ d = n ∨ d = n + 1 ∨ d = n + 2 := by simpa using hd
    rcases e' with q | q | q | q | q | q
    · rw [q]; exact ⟨_, hz, fun v q => nomatch q⟩
    · rw [q]; exact ⟨_, hTI, fun v q => nomatch q⟩
    · rw [q]; exact ⟨_, hTO, fun v q => nomatch q⟩
    · rw [q]; exact h1.obj
    · rw [q]; exact h2.obj
    · rw [q]; exact h3.obj
  keep := fun i h h' st k => by
    obtain ⟨hz, hTI, ⟨x, y, z, hTO⟩, h1, h2, h3⟩ := st
    exact ⟨k _ (by simp) _ hz, k _ (by simp) _ hTI, ⟨x, y, z, k _ (by simp) _ hTO⟩, h1.at fun o q => k _ (by simp) o q, h2.at fun o q => k _ (by simp) o q, h3.at fun o q => k _ (by simp) o q⟩
  item := by
    intro X hP hw hK hc i pins s σ H E I hf st hg
    subst hP hw hK
    obtain ⟨hz, hTI, hTO, h1, h2, h3⟩ := st
    obtain ⟨xs, ys, zs, ha, hb, hcc, hx, hy, hzz⟩ := hg
    obtain ⟨its, rv, p, la⟩ := seqAt I ha
    obtain ⟨its2, rv2, p2, lb⟩ := seqAt I hb
    obtain ⟨its3, rv3, p3, lc⟩ := seqAt I hcc
    have hh := I.ok.hd hc
    have W := GoesN.zip3 (elts := elts) (x1 := kk) (pos := tpos) D.sep
      (draws_SI (prog := X.prog) (w := X.w) (A := X.A.in1) k1 hh n a (Nat.ne_of_lt D.la) its.toArray) (draws_SI (prog := X.prog) (w := X.w) (A := X.A.in1) k2 hh (n + 1) b (Nat.ne_of_lt (Nat.lt_succ_of_lt D.lb)) its2.toArray) (draws_SI (prog := X.prog) (w := X.w) (A := X.A.in1) k3 hh (n + 2) c (Nat.ne_of_lt (Nat.lt_succ_of_lt (Nat.lt_succ_of_lt D.lc))) its3.toArray)
    have l1 := rv.length
    have l2 := rv2.length
    have l3 := rv3.length
    refine thn (W.goes i s (fun v s2 => ∃ x H', Inv X pins σ H' s2 ∧ RelV x v ∧ (ItZ3 k1 k2 k3 a b c).yld i H x H' ∧ (IsZip s2.heap (n + 5) (n + 3) (n + 4) .none ∧ IsTupOf3 s2.heap (n + 3) (.ref n) (.ref (n + 1)) (.ref (n + 2)) ∧ (∃ x y z, IsTupOf3 s2.heap (n + 4) x y z) ∧ SI k1 s2.heap n a (i + 1) ∧ SI k2 s2.heap (n + 1) b (i + 1) ∧ SI k3 s2.heap (n + 2) c (i + 1)) ∧ ∀ c ∈ [n + 5, n + 3, n + 4, n, n + 1, n + 2], H' c = none) E (by simp; omega) ⟨hz, hTI, hTO, ⟨h1, p⟩, ⟨h2, p2⟩, ⟨h3, p3⟩⟩ fun v h' tk hY st' hk _ => ?_) fun r s1 q => q
    obtain ⟨T, u1, u2, u3, rfl, hT, e1, e2, e3, hTup⟩ := hY
    obtain ⟨hz', hTI', hTO', ⟨h1', _⟩, ⟨h2', _⟩, ⟨h3', _⟩⟩ := st'
    have e1 : its[i]? = some u1 := by simpa using e1
    have e2 : its2[i]? = some u2 := by simpa using e2
    have e3 : its3[i]? = some u3 := by simpa using e3
    have gx : xs[i]? = some xs[i] := by simp [hx]
    have gy : ys[i]? = some ys[i] := by simp [hy]
    have gz : zs[i]? = some zs[i] := by simp [hzz]
    obtain ⟨u1', f1, r1⟩ := rv.get gx
    obtain ⟨u2', f2, r2⟩ := rv2.get gy
    obtain ⟨u3', f3, r3⟩ := rv3.get gz
    rw [e1] at f1
    cases f1
    rw [e2] at f2
    cases f2
    rw [e3] at f3
    cases f3
    have new : ObjOk X.prog X.w (upd H T (.tup [xs[i], ys[i], zs[i]])) h' T (.tup [xs[i], ys[i], zs[i]]) := ⟨by show 3 ≤ sizeLine; decide, [u1, u2, u3], .cons r1 (.cons r2 (.cons r3 .nil)), hTup⟩
    have I1 : Inv X pins σ (upd H T (.tup [xs[i], ys[i], zs[i]])) { s with heap := h', toks := tk } := I.turnedNew (ch := [n + 5, n + 3, n + 4, n, n + 1, n + 2]) (fun c o hcm q => hk c o (fun m => hcm (by simp at m ⊢; rcases m with m | m | m | m | m <;> simp [m])) q) hf hT new
    refine ⟨.ref T, _, I1, rfl, ⟨T, _, _, _, rfl, I.hok.fresh hT, rfl, fun l hl => ?_, fun l hl => ?_, fun l hl => ?_⟩, ⟨hz', hTI', hTO', h1', h2', h3'⟩, fun c hcm => ?_⟩
    · rw [ha] at hl
      rw [← hoK_inj (Option.some.inj hl)]
      exact gx
    · rw [hb] at hl
      rw [← hoK_inj (Option.some.inj hl)]
      exact gy
    · rw [hcc] at hl
      rw [← hoK_inj (Option.some.inj hl)]
      exact gz
    · have hlt : c < s.heap.objs.size := by
        have e' : c = n + 5 ∨ c = n + 3 ∨ c = n + 4 ∨ c = n ∨ c = n + 1 ∨ c = n + 2 := by simpa using hcm
        rcases e' with q | q | q | q | q | q
        · rw [q]; exact Heap.lt_size hz
        · rw [q]; exact Heap.lt_size hTI
        · obtain ⟨_, _, _, hTO⟩ := hTO; rw [q]; exact Heap.lt_size hTO
        · rw [q]; obtain ⟨_, e, _⟩ := h1.obj; exact Heap.lt_size e
        · rw [q]; obtain ⟨_, e, _⟩ := h2.obj; exact Heap.lt_size e
        · rw [q]; obtain ⟨_, e, _⟩ := h3.obj; exact Heap.lt_size e
      rw [upd_ne (Nat.ne_of_lt (Nat.lt_of_lt_of_le hlt hT))]
      exact (hf c hcm).1
  done := by
    intro X hP hw hK hc i pins s σ H E I hf st hg
    subst hP hw hK
    obtain ⟨hz, hTI, hTO, h1, h2, h3⟩ := st
    obtain ⟨xs, ys, zs, ha, hb, hcc, hi⟩ := hg
    obtain ⟨its, rv, p, la⟩ := seqAt I ha
    obtain ⟨its2, rv2, p2, lb⟩ := seqAt I hb
    obtain ⟨its3, rv3, p3, lc⟩ := seqAt I hcc
    have hh := I.ok.hd hc
    have l1 := rv.length
    have l2 := rv2.length
    have l3 := rv3.length
    have W := GoesN.zip3 (elts := elts) (x1 := kk) (pos := tpos) D.sep
      (draws_SI (prog := X.prog) (w := X.w) (A := X.A.in1) k1 hh n a (Nat.ne_of_lt D.la) its.toArray) (draws_SI (prog := X.prog) (w := X.w) (A := X.A.in1) k2 hh (n + 1) b (Nat.ne_of_lt (Nat.lt_succ_of_lt D.lb)) its2.toArray) (draws_SI (prog := X.prog) (w := X.w) (A := X.A.in1) k3 hh (n + 2) c (Nat.ne_of_lt (Nat.lt_succ_of_lt (Nat.lt_succ_of_lt D.lc))) its3.toArray)
    have ei : i = min (min its.toArray.size its2.toArray.size) its3.toArray.size := by simp; omega
    rw [ei] at h1 h2 h3
    refine W.stops s _ E ⟨hz, hTI, hTO, ⟨h1, p⟩, ⟨h2, p2⟩, ⟨h3, p3⟩⟩ fun h' tk hk _ => I.turnedL (ch := [n + 5, n + 3, n + 4, n, n + 1, n + 2]) (fun c o hcm q => hk c o (fun m => hcm (by simp at m ⊢; rcases m with m | m | m | m | m <;> simp [m])) q) hf
  self := fun A i s Q E st h => wpAny_pyIter_zip st.1 h
def iZ3 (k1 k2 k3 : Bool) (ta : TA) : TI := fun σ H R => ta σ H fun vs H1 => ∃ a b c xs ys zs, vs = [.ref a, .ref b, .ref c] ∧ H1 a = some (hoK k1 xs) ∧ H1 b = some (hoK k2 ys) ∧ H1 c = some (hoK k3 zs) ∧ R (ItZ3 k1 k2 k3 a b c) H1
theorem pi_z3 {e e2 e3 : Expr} {ta : TA} {p pos tpos : Pos} {elts : List Expr} {kk : Nat} (k1 k2 k3 : Bool) (hg : Gl X "zip") (hm : X.mg "zip" = none) (ha : PA X [e, e2, e3] ta)
    (hs : starEach [e, e2, e3] X.env = (false, eval e X.env) :: starEach [e2, e3] X.env := by rfl) (hpl : (backTo pos (starEach [e2, e3] X.env)).any (·.1) = false := by rfl) :
    PI X (.Tuple elts kk tpos) (.Call (.Name "zip" p) [e, e2, e3] [] pos) (iZ3 k1 k2 k3 ta) := by
  refine ⟨fun pins s σ H R I h => ?_⟩
  refine Call_ (ld_blt I hg hm PyProof.Rows.boot_zip (PyProof.Rows.callWith_type1 (thn (ha.run pos pins s σ H _ I h) fun us s1 ⟨vs, H1, I1, r1, q1⟩ => ?_) hs hpl))
  obtain ⟨a, b, c, xs, ys, zs, ex, hx, hy, hz0, q⟩ := q1
  subst ex
  cases r1 with
  | cons r rr =>
    cases rr with
    | cons r' rr =>
      cases rr with
      | cons r'' rr =>
        cases rr
        cases r
        cases r'
        cases r''
        obtain ⟨its, rv, p1, la⟩ := seqAt I1 hx
        obtain ⟨its2, rv2, p2, lb⟩ := seqAt I1 hy
        obtain ⟨its3, rv3, p3, lc⟩ := seqAt I1 hz0
        refine zip_begins3 (begins_SI k1 a its.toArray) (begins_SI k2 b its2.toArray) (begins_SI k3 c its3.toArray) p1 p2 p3 fun h' hz hTI hTO h1 h2 h3 hsz hk => wpAny_pyIter_zip hz ?_
        have I2 : Inv X pins σ H1 { s1 with heap := h' } := I1.kept (t' := s1.toks) hk
        refine ⟨s1.heap.objs.size + 5, [s1.heap.objs.size + 5, s1.heap.objs.size + 3, s1.heap.objs.size + 4, s1.heap.objs.size, s1.heap.objs.size + 1, s1.heap.objs.size + 2], _, _, H1, rfl, I2, turn_z3 ⟨la, lb, lc⟩, ⟨hz, hTI, ⟨_, _, _, hTO⟩, SI.new h1, SI.new h2, SI.new h3⟩, fun d hdm => ?_, q⟩
        have e' : d = s1.heap.objs.size + 5 ∨ d = s1.heap.objs.size + 3 ∨ d = s1.heap.objs.size + 4 ∨ d = s1.heap.objs.size ∨ d = s1.heap.objs.size + 1 ∨ d = s1.heap.objs.size + 2 := by simpa using hdm
        have hle : s1.heap.objs.size ≤ d := by
          rcases e' with z | z | z | z | z | z <;> (rw [z]; first | exact Nat.le_add_right _ _ | exact Nat.le_refl _)
        exact I1.fpOk hle (I1.hok.fresh hle)
end
end DL

set_option maxHeartbeats 4000000
namespace DL
open PySem PySem.Spec PyProof.Rows L2
variable [TabT] [OldT]
open Evl (Ex)
/-! ### t[::-1] of a tuple -/
section
variable {prog : Program} {w : World} {A : Around} {E : Value → Shared → Prop} {s : Shared}
theorem sliceApplied_rev {sl : Addr} {vl vu vs : Value} {n : Nat} {Q : Int × Int × Nat → Shared → Prop} (hs : s.heap.IsSliceOf sl vl vu vs) (pl : IsPart vl none) (pu : IsPart vu none) (ps : IsPart vs (some (-1)))
    (h : Q ((n : Int) - 1, -1, n) s) : wpAny (model prog w) A (Builtin.Slice.sliceApplied (.ref sl) (pure (n : Int))) Q E s := by
  obtain ⟨os, hos, hcs, hds⟩ := id hs
  unfold Builtin.Slice.sliceApplied Builtin.Slice.sliceFields
  refine wpAny_bind (wpAny_bind (wpAny_field hos hds (x := vl) rfl (wpAny_bind (wpAny_field hos hds (x := vu) rfl (wpAny_bind (wpAny_field hos hds (x := vs) rfl (wpAny_pure ?_)))))))
  refine wpAny_bind (HT.slicePart_ ps ?_)
  show wpAny _ _ (if ((-1 : Int) == 0) = true then _ else _) _ _ s
  rw [if_neg (by decide)]
  refine wpAny_bind (HT.slicePart_ pl (wpAny_bind (HT.slicePart_ pu (wpAny_bind (wpAny_pure ?_)))))
  show wpAny _ _ (match Builtin.Slice.sliceAdjust none none (-1) (n : Int) with | (lo, hi) => pure (lo, (-1 : Int), Builtin.Slice.slicePlaces lo hi (-1))) _ _ s
  have e1 : Builtin.Slice.sliceAdjust none none (-1) (n : Int) = ((n : Int) - 1, -1) := by
    unfold Builtin.Slice.sliceAdjust
    simp
  rw [e1]
  have e2 : Builtin.Slice.slicePlaces ((n : Int) - 1) (-1) (-1) = n := by
    unfold Builtin.Slice.slicePlaces
    simp
    split <;> omega
  show wpAny _ _ (pure ((n : Int) - 1, (-1 : Int), Builtin.Slice.slicePlaces ((n : Int) - 1) (-1) (-1))) _ _ s
  rw [e2]
  exact wpAny_pure h
theorem pick_rev (xs : Array Value) : ((List.range xs.size).filterMap fun (m : Nat) => xs[(((xs.size : Int) - 1) + (m : Int) * (-1)).toNat]?).toArray = xs.toList.reverse.toArray := by
  congr 1
  have e : (List.range xs.size).filterMap (fun (m : Nat) => xs[(((xs.size : Int) - 1) + (m : Int) * (-1)).toNat]?) = ((List.range xs.size).map fun k => xs.size - 1 - k).filterMap (xs[·]?) := by
    rw [List.filterMap_map]
    have key : ∀ l : List Nat, (∀ m ∈ l, m < xs.size) → l.filterMap (fun (m : Nat) => xs[(((xs.size : Int) - 1) + (m : Int) * (-1)).toNat]?) = l.filterMap ((xs[·]?) ∘ fun k => xs.size - 1 - k) := by
      intro l
      induction l with
      | nil => intro _; rfl
      | cons m l ih =>
        intro hl
        have hm := hl m List.mem_cons_self
        have e2 : (((xs.size : Int) - 1) + (m : Int) * (-1)).toNat = xs.size - 1 - m := by omega
        rw [List.filterMap_cons, List.filterMap_cons, ih fun k hk => hl k (List.mem_cons_of_mem _ hk), e2]
        rfl
    exact key _ fun m hm => List.mem_range.mp hm
  rw [e, PySem.W.krv_range, List.filterMap_reverse, PySem.W.krv_all]
theorem getItem_tuple_rev {t sl : Addr} {items : Array Value} {vl vu vs : Value} {Q : Value → Shared → Prop} (ht : IsTup s.heap t items) (hs : s.heap.IsSliceOf sl vl vu vs) (pl : IsPart vl none) (pu : IsPart vu none) (ps : IsPart vs (some (-1)))
    (h : Q (.ref s.heap.objs.size) { s with heap := s.heap.push { cls := .type "tuple", data := .seq items.toList.reverse.toArray } })
    (hsz : items.size ≤ sizeLine) : wpAny (model prog w) A (getItem (.ref t) (.ref sl)) Q E s := by
  have htake : sizeOk (.seq items.toList.reverse.toArray) := by
    show items.toList.reverse.toArray.size ≤ sizeLine
    rw [List.size_toArray, List.length_reverse, Array.length_toList]
    exact hsz
  obtain ⟨os, hos, hcs, hds⟩ := id hs
  have hTs : s.TypeIs (.ref sl) "slice" := ⟨os, hos, hcs⟩
  unfold getItem
  try with_reducible refine wpAny_holding ?_
  first | refine wpAny_bind (wpAny_pure ?_) | skip
  refine wpAny_bind (wpAny_sequenceKey ht.typeIs (by decide) ?_)
  refine wpAny_bind (wpAny_callSpecial?_slot (name := Str.ofString "__getitem__") ht.typeIs PyProof.Rows.slot_tuple_getitem
    (wpAny_call_entry PyProof.Rows.slot_tuple_getitem ht.typeIs entry_tuple_getitem ?_ (args_tuple_getitem _ _)))
  show wpAny _ _ (Builtin.Tuple.tupleItemsOf (.ref t) >>= _) _ _ s
  refine wpAny_bind (tupleItemsOf_ ht ?_)
  refine wpAny_bind (wpAny_typeOf hTs ?_)
  rw [if_pos (by decide)]
  refine wpAny_bind (sliceApplied_rev hs pl pu ps ?_)
  have hno : ¬ ((((items.size : Int) - 1) == 0 && (-1 : Int) == 1 && items.size == items.size) = true) := by
    intro q
    rw [Bool.and_eq_true, Bool.and_eq_true] at q
    have q1 := q.1.2
    revert q1
    decide
  show wpAny _ _ (if (((items.size : Int) - 1) == 0 && (-1 : Int) == 1 && items.size == items.size) = true then _ else _) _ _ s
  rw [if_neg hno, pick_rev]
  first
    | exact wpAny_bind (m := Builtin.Tuple.tupleExact _) (wpAny_newObj_type (wpAny_pure ⟨_, rfl, wpAny_pure h⟩) htake)
    | exact wpAny_bind (m := Builtin.Tuple.tupleExact _) (wpAny_newObj_type (wpAny_bind (wpAny_pure (wpAny_pure ⟨_, rfl, wpAny_pure h⟩))) htake)
    | exact wpAny_bind (wpAny_bind (m := Builtin.Tuple.tupleExact _) (wpAny_newObj_type (wpAny_pure (wpAny_pure ⟨_, rfl, wpAny_pure h⟩)) htake))
    | exact wpAny_bind (wpAny_bind (m := Builtin.Tuple.tupleExact _) (wpAny_newObj_type (wpAny_pure ⟨_, rfl, wpAny_pure h⟩) htake))
end
def tRevT (K : PySem.W.Frag) (te : TE) : TE := fun σ H Q => te σ H fun x H1 => ∃ a xs, x = .ref a ∧ SqT K H1 a xs ∧ ∀ p, H1 p = none → Q (.ref p) (upd H1 p (.tup xs.reverse))
theorem pe_revT {X : Cx} {e : Expr} {te : TE} {k : Nat} {p1 p2 p3 pos : Pos} (he : PE X e te) : PE X (.Subscript e (.Slice none none (some (.UnaryOp .USub (.Constant (.int 1) k p1) p2)) p3) pos) (tRevT X.K te) := by
  refine ⟨fun pins s σ H Q I h => ?_⟩
  refine Subscript_ (thn (he.run pins s σ H _ I h) fun v s1 ⟨x, H1, I1, r1, q1⟩ => ?_)
  obtain ⟨a, xs, ex, hx, q⟩ := q1
  subst ex
  cases r1
  have hst : PO X (some (.UnaryOp .USub (.Constant (.int 1) k p1) p2)) (tPart (tUn (rU fun i => .int (-i)) (tC (.int 1)))) := po_some (pe_un un_neg pe_int)
  refine wpAny_Slice (thn (po_none.run pins s1 σ H1 (fun o H2 => o = none ∧ H2 = H1) I1 ⟨rfl, rfl⟩) fun vl s2 ⟨l, H2, I2, pl, el, e2⟩ => ?_)
  subst el e2
  refine thn (po_none.run pins s2 σ H2 (fun o H3 => o = none ∧ H3 = H2) I2 ⟨rfl, rfl⟩) fun vu s3 ⟨u, H3, I3, pu, eu, e3⟩ => ?_
  subst eu e3
  refine thn (hst.run pins s3 σ H3 (fun o H4 => o = some (-1) ∧ H4 = H3) I3 ⟨1, rfl, -1, rfl, rfl, rfl⟩) fun vs s4 ⟨o, H4, I4, ps, eo, e4⟩ => ?_
  subst eo e4
  have I5 : Inv X pins σ H4 { s4 with heap := s4.heap.push { cls := .type "slice", data := .fields #[vl, vu, vs] } } := I4.kept (t' := s4.toks) fun b ob q => Heap.get?_push_of_some _ q
  obtain ⟨its, r, ht, hz⟩ := I5.tuple hx
  have hlen := r.length
  show wpAny (model X.prog X.w) X.A (subscriptTail e (.Slice none none (some (.UnaryOp .USub (.Constant (.int 1) k p1) p2)) p3) (.ref a) (.ref s4.heap.objs.size)) (EP X pins σ Q) X.xe { s4 with heap := s4.heap.push { cls := .type "slice", data := .fields #[vl, vu, vs] } }
  refine tail_any (ops := [.ref a, .ref s4.heap.objs.size]) ht.typeIs (PyProof.Rows.slot_tuple_getitem.lookup) ?_ (by with_unfolding_all rfl)
  refine getItem_tuple_rev ht (Heap.IsSliceOf.new _ vl vu vs) pl pu ps ?_ (by rw [List.size_toArray]; omega)
  refine ⟨.ref _, _, I5.laid (t' := s4.toks) (o := .tup xs.reverse) (fun b ob q => Heap.get?_push_of_some _ q) (Nat.le_refl _) ?_, rfl, q _ (I5.hok.fresh (Nat.le_refl _))⟩
  exact ⟨by rw [List.length_reverse]; exact hz, its.reverse, r.reverse, IsTup.new _ _⟩
section
variable {X : Cx} {mg : Str → Option Value} {W : WX} {tg it a b c e : Expr} {es : List Expr} {pos : Pos} {σ : L2.St} {H : Hp} {wa : Addr} {Hf : Hp} {A : DE}
def eRev (A : DE) : DE := fun s w => (A s w).bind fun x w1 => match x with
  | .lst xs => .ok (.lst xs.reverse) w1
  | .tup xs => .ok (.tup xs.reverse) w1
  | _ => .no
theorem pd_rev {k : Nat} {p1 p2 p3 : Pos} (ha : PE X a (lE mg W A)) : PE X (.Subscript a (.Slice none none (some (.UnaryOp .USub (.Constant (.int 1) k p1) p2)) p3) pos) (lE mg W (eRev A)) := weakE (orE (pe_revL ha) (pe_revT ha)) fun σ H Q h => by
  obtain ⟨wa, Hf, sD, w, hb, hs, h⟩ := h
  unfold eRev at h
  cases ea : A sD w with
  | ok x w1 =>
    rw [ea, R.bind_ok] at h
    cases x with
    | lst xs =>
      refine .inl ⟨wa, Hf, sD, w, hb, hs, ?_⟩
      rw [ea]
      intro H1 Hf1 g b v rv
      cases rv with
      | lst h1 r1 =>
        refine ⟨_, _, rfl, SqL.of (b.ex _ _ h1), fun p hp => ?_⟩
        exact h _ _ (g.trans (Go.newF b.ex hp)) (b.newF hp) _ (.lst upd_same (r1.reverse.mono (Ex.new (Evl.fresh_back b.ex hp))))
    | tup xs =>
      refine .inr ⟨wa, Hf, sD, w, hb, hs, ?_⟩
      rw [ea]
      intro H1 Hf1 g b v rv
      cases rv with
      | tup h1 r1 =>
        refine ⟨_, _, rfl, SqT.of (b.ex _ _ h1), fun p hp => ?_⟩
        exact h _ _ (g.trans (Go.newF b.ex hp)) (b.newF hp) _ (.tup upd_same (r1.reverse.mono (Ex.new (Evl.fresh_back b.ex hp))))
    | _ => exact h.elim
  | er x w1 =>
    rw [ea] at h
    refine .inl ⟨wa, Hf, sD, w, hb, hs, ?_⟩
    rw [ea]
    exact h
  | no => rw [ea] at h; exact h.elim

/-! ### zip -/
def seqD : D → Option (Bool × List D)
  | .lst xs => some (false, xs)
  | .tup xs => some (true, xs)
  | _ => none
theorem seqD_rep {v : V} {d : D} {k : Bool} {xs : List D} (r : Rep wa Hf v d) (h : seqD d = some (k, xs)) : ∃ a vs, v = .ref a ∧ Hf a = some (hoK k vs) ∧ Reps wa Hf vs xs := by
  unfold seqD at h
  split at h
  · cases h
    cases r with
    | lst h1 r1 => exact ⟨_, _, rfl, h1, r1⟩
  · cases h
    cases r with
    | tup h1 r1 => exact ⟨_, _, rfl, h1, r1⟩
  · cases h
def zipD (xs ys : List D) : List D := (xs.zip ys).map fun p => .tup [p.1, p.2]
def zip3D (xs ys zs : List D) : List D := (xs.zip (ys.zip zs)).map fun p => .tup [p.1, p.2.1, p.2.2]
theorem walkD_z2 {k1 k2 : Bool} {p q : Addr} {vs us : List V} {ds es : List D} (h1 : Hf p = some (hoK k1 vs)) (h2 : Hf q = some (hoK k2 us)) (r1 : Reps wa Hf vs ds) (r2 : Reps wa Hf us es) : WalkD wa Hf (ItZ2 k1 k2 p q) (zipD ds es) := by
  have l1 := r1.length
  have l2 := r2.length
  refine ⟨fun i H hi x => ⟨vs, us, x _ _ h1, x _ _ h2, ?_, ?_⟩, fun H x => ⟨vs, us, x _ _ h1, x _ _ h2, by simp [zipD]; omega⟩, fun i H Hf1 w y H' d hd x b z => ?_⟩
  · simp [zipD] at hi; omega
  · simp [zipD] at hi; omega
  · obtain ⟨T, u, v, rfl, hT, rfl, q1, q2⟩ := z
    unfold zipD at hd
    rw [List.getElem?_map] at hd
    cases e : (ds.zip es)[i]? with
    | none => rw [e] at hd; cases hd
    | some pr =>
      rw [e] at hd
      cases hd
      rw [List.getElem?_zip_eq_some] at e
      obtain ⟨u1, f1, s1⟩ := (r1.mono x).get e.1
      obtain ⟨u2, f2, s2⟩ := (r2.mono x).get e.2
      have g1 := q1 vs (b.ex _ _ (x _ _ h1))
      have g2 := q2 us (b.ex _ _ (x _ _ h2))
      rw [f1] at g1
      rw [f2] at g2
      cases g1
      cases g2
      have nx := Ex.new (o := HO.tup [u, v]) (Evl.fresh_back b.ex hT)
      exact ⟨_, Go.newF b.ex hT, b.newF hT, .tup upd_same (.cons (s1.mono nx) (.cons (s2.mono nx) .nil))⟩
theorem walkD_z3 {k1 k2 k3 : Bool} {p q o : Addr} {vs us ts : List V} {ds es fs : List D} (h1 : Hf p = some (hoK k1 vs)) (h2 : Hf q = some (hoK k2 us)) (h3 : Hf o = some (hoK k3 ts)) (r1 : Reps wa Hf vs ds) (r2 : Reps wa Hf us es) (r3 : Reps wa Hf ts fs) : WalkD wa Hf (ItZ3 k1 k2 k3 p q o) (zip3D ds es fs) := by
  have l1 := r1.length
  have l2 := r2.length
  have l3 := r3.length
  refine ⟨fun i H hi x => ⟨vs, us, ts, x _ _ h1, x _ _ h2, x _ _ h3, ?_, ?_, ?_⟩, fun H x => ⟨vs, us, ts, x _ _ h1, x _ _ h2, x _ _ h3, by simp [zip3D]; omega⟩, fun i H Hf1 w y H' d hd x b z => ?_⟩
  · simp [zip3D] at hi; omega
  · simp [zip3D] at hi; omega
  · simp [zip3D] at hi; omega
  · obtain ⟨T, u, v, t, rfl, hT, rfl, q1, q2, q3⟩ := z
    unfold zip3D at hd
    rw [List.getElem?_map] at hd
    cases e : (ds.zip (es.zip fs))[i]? with
    | none => rw [e] at hd; cases hd
    | some pr =>
      rw [e] at hd
      cases hd
      rw [List.getElem?_zip_eq_some, List.getElem?_zip_eq_some] at e
      obtain ⟨u1, f1, s1⟩ := (r1.mono x).get e.1
      obtain ⟨u2, f2, s2⟩ := (r2.mono x).get e.2.1
      obtain ⟨u3, f3, s3⟩ := (r3.mono x).get e.2.2
      have g1 := q1 vs (b.ex _ _ (x _ _ h1))
      have g2 := q2 us (b.ex _ _ (x _ _ h2))
      have g3 := q3 ts (b.ex _ _ (x _ _ h3))
      rw [f1] at g1
      rw [f2] at g2
      rw [f3] at g3
      cases g1
      cases g2
      cases g3
      have nx := Ex.new (o := HO.tup [u, v, t]) (Evl.fresh_back b.ex hT)
      exact ⟨_, Go.newF b.ex hT, b.newF hT, .tup upd_same (.cons (s1.mono nx) (.cons (s2.mono nx) (.cons (s3.mono nx) .nil)))⟩
theorem anyI {κ : Type} {t : κ → TI} (h : ∀ k, PI X tg it (t k)) : PI X tg it (fun σ H R => ∃ k, t k σ H R) := ⟨fun pins s σ H R I ⟨k, q⟩ => (h k).run pins s σ H R I q⟩
def iZip (As : DA) : DI := fun s w => (As s w).bind fun xs w1 => match xs with
  | [x, y] => match seqD x, seqD y with
    | some (_, ds), some (_, es) => .ok (zipD ds es) w1
    | _, _ => .no
  | [x, y, z] => match seqD x, seqD y, seqD z with
    | some (_, ds), some (_, es), some (_, fs) => .ok (zip3D ds es fs) w1
    | _, _, _ => .no
  | _ => .no
theorem id_zip2 {As : DA} {p tpos : Pos} {elts : List Expr} {kk : Nat} (hg : Gl X "zip") (hm : X.mg "zip" = none) (ha : PA X [a, b] (lA mg W (aCons A As))) (hl : ∀ s w x w1, (aCons A As s w) = .ok x w1 → x.length = 2)
    (hs : starEach [a, b] X.env = (false, eval a X.env) :: starEach [b] X.env := by rfl) (hpl : (backTo pos (starEach [b] X.env)).any (·.1) = false := by rfl) : PI X (.Tuple elts kk tpos) (.Call (.Name "zip" p) [a, b] [] pos) (lI mg W (iZip (aCons A As))) :=
  weakI (anyI fun k : Bool × Bool => pi_z2 k.1 k.2 hg hm ha hs hpl) fun σ H Q h => by
  obtain ⟨wa, Hf, sD, w, hb, hs, h⟩ := h
  unfold iZip at h
  cases ea : aCons A As sD w with
  | ok ds w1 =>
    rw [ea, R.bind_ok] at h
    have h2 := hl _ _ _ _ ea
    obtain ⟨x, y, rfl⟩ : ∃ x y, ds = [x, y] := by
      match ds, h2 with
      | [x, y], _ => exact ⟨x, y, rfl⟩
    dsimp only at h
    split at h
    · rename_i k1 ds k2 es e1 e2
      refine ⟨(k1, k2), wa, Hf, sD, w, hb, hs, ?_⟩
      rw [ea]
      intro H1 Hf1 g b v rv
      cases rv with
      | cons r1 r2 =>
        cases r2 with
        | cons r2 r3 =>
          cases r3
          obtain ⟨p1, vs, rfl, h1, s1⟩ := seqD_rep r1 e1
          obtain ⟨p2, us, rfl, h2, s2⟩ := seqD_rep r2 e2
          exact ⟨p1, p2, vs, us, rfl, b.ex _ _ h1, b.ex _ _ h2, h H1 Hf1 g b _ (walkD_z2 h1 h2 s1 s2)⟩
    · exact h.elim
  | er x w1 =>
    rw [ea] at h
    refine ⟨(true, true), wa, Hf, sD, w, hb, hs, ?_⟩
    rw [ea]
    exact h
  | no => rw [ea] at h; exact h.elim
theorem id_zip3 {As : DA} {p tpos : Pos} {elts : List Expr} {kk : Nat} (hg : Gl X "zip") (hm : X.mg "zip" = none) (ha : PA X [a, b, c] (lA mg W (aCons A As))) (hl : ∀ s w x w1, (aCons A As s w) = .ok x w1 → x.length = 3)
    (hs : starEach [a, b, c] X.env = (false, eval a X.env) :: starEach [b, c] X.env := by rfl) (hpl : (backTo pos (starEach [b, c] X.env)).any (·.1) = false := by rfl) : PI X (.Tuple elts kk tpos) (.Call (.Name "zip" p) [a, b, c] [] pos) (lI mg W (iZip (aCons A As))) :=
  weakI (anyI fun k : Bool × Bool × Bool => pi_z3 k.1 k.2.1 k.2.2 hg hm ha hs hpl) fun σ H Q h => by
  obtain ⟨wa, Hf, sD, w, hb, hs, h⟩ := h
  unfold iZip at h
  cases ea : aCons A As sD w with
  | ok ds w1 =>
    rw [ea, R.bind_ok] at h
    have h2 := hl _ _ _ _ ea
    obtain ⟨x, y, z, rfl⟩ : ∃ x y z, ds = [x, y, z] := by
      match ds, h2 with
      | [x, y, z], _ => exact ⟨x, y, z, rfl⟩
    dsimp only at h
    split at h
    · rename_i k1 ds k2 es k3 fs e1 e2 e3
      refine ⟨(k1, k2, k3), wa, Hf, sD, w, hb, hs, ?_⟩
      rw [ea]
      intro H1 Hf1 g b v rv
      cases rv with
      | cons r1 r2 =>
        cases r2 with
        | cons r2 r3 =>
          cases r3 with
          | cons r3 r4 =>
            cases r4
            obtain ⟨p1, vs, rfl, h1, s1⟩ := seqD_rep r1 e1
            obtain ⟨p2, us, rfl, h2, s2⟩ := seqD_rep r2 e2
            obtain ⟨p3, ts, rfl, h3, s3⟩ := seqD_rep r3 e3
            exact ⟨p1, p2, p3, vs, us, ts, rfl, b.ex _ _ h1, b.ex _ _ h2, b.ex _ _ h3, h H1 Hf1 g b _ (walkD_z3 h1 h2 h3 s1 s2 s3)⟩
    · exact h.elim
  | er x w1 =>
    rw [ea] at h
    refine ⟨(true, true, true), wa, Hf, sD, w, hb, hs, ?_⟩
    rw [ea]
    exact h
  | no => rw [ea] at h; exact h.elim
/-- an argument list has so many values -/
theorem aNil_len {s : Sl} {w w1 : Wl} {x : List D} (h : aNil s w = .ok x w1) : x.length = 0 := by cases h; rfl
theorem aCons_len {n : Nat} {As : DA} (hr : ∀ s w x w1, As s w = .ok x w1 → x.length = n) : ∀ s w x w1, (aCons A As s w) = .ok x w1 → x.length = n + 1 := fun s w x w1 h => by
  unfold aCons at h
  cases e : A s w with
  | ok d w2 =>
    rw [e, R.bind_ok] at h
    cases e2 : As s w2 with
    | ok ds w3 =>
      rw [e2, R.bind_ok] at h
      cases h
      simp [hr _ _ _ _ e2]
    | er y w3 => rw [e2] at h; cases h
    | no => rw [e2] at h; cases h
  | er y w2 => rw [e] at h; cases h
  | no => rw [e] at h; cases h

/-! ### calls by names -/
def permute {α : Type} (π : List Nat) (xs : List α) : List α := π.filterMap fun i => xs[i]?
theorem permute_reps {vs : List V} {ds : List D} (r : Reps wa Hf vs ds) : ∀ π : List Nat, Reps wa Hf (permute π vs) (permute π ds)
  | [] => .nil
  | i :: π => by
    have ih := permute_reps r π
    unfold permute at ih ⊢
    rw [List.filterMap_cons, List.filterMap_cons]
    cases e : ds[i]? with
    | none =>
      have e2 : vs[i]? = none := by
        rw [List.getElem?_eq_none_iff] at e ⊢
        rw [r.length]; exact e
      rw [e2]
      exact ih
    | some d =>
      obtain ⟨v, e2, r2⟩ := r.get e
      rw [e2]
      exact .cons r2 ih
theorem permute_vals {vs : List V} {us : List Value} (r : Vals vs us) : ∀ π : List Nat, Vals (permute π vs) (permute π us)
  | [] => .nil
  | i :: π => by
    have ih := permute_vals r π
    unfold permute at ih ⊢
    rw [List.filterMap_cons, List.filterMap_cons]
    cases e : vs[i]? with
    | none =>
      rw [r.none_of e]
      exact ih
    | some d =>
      obtain ⟨v, e2, r2⟩ := r.get e
      rw [e2]
      exact .cons r2 ih
/-- how keywords bind: all the n positional values, then those of the names ks, put in order by π -/
def KwB (fd : FuncData) (ps : List Str) (n : Nat) (ks : List Str) (π : List Nat) : Prop := ∀ us ws : List Value, us.length = n → ws.length = ks.length → bindArgs fd ⟨us, ks.zip ws⟩ = pure (ps.zip (permute π (us ++ ws)))
theorem KwB.kbn {K : PySem.W.Frag} {fd : FuncData} {ps ks : List Str} {n : Nat} {π : List Nat} (h : KwB fd ps n ks π) : KBn K fd ps n ks (fun us ws => permute π (us ++ ws)) (fun us ws => permute π (us ++ ws)) :=
  ⟨fun s us ws _ h1 h2 => .of_eq (h us ws h1 h2), fun r1 r2 => permute_vals (r1.append r2) π⟩
def eCallK (m n k : Nat) (π : List Nat) (F : DF) (As Ks : DA) : DE := fun s w => (As s w).bind fun ds w1 => (Ks s w1).bind fun zs w2 => if ds.length = n ∧ zs.length = k ∧ (permute π (ds ++ zs)).length = m then F (permute π (ds ++ zs)) w2 else .no
theorem kd_nil : PK X [] (lA mg W aNil) := ⟨fun pos pins s σ H Q I h => (pk_nil (X := X)).run pos pins s σ H Q I (by
  obtain ⟨wa, Hf, sD, w, hb, hs, h⟩ := h
  exact h.here hb _ .nil)⟩
theorem kd_cons {kws : List Keyword} {nm kpos} {As : DA} (ha : PE X e (lE mg W A)) (hr : PK X kws (lA mg W As)) : PK X (⟨nm, e, kpos⟩ :: kws) (lA mg W (aCons A As)) := ⟨fun pos pins s σ H Q I h => (pk_cons ha hr).run pos pins s σ H Q I (by
  obtain ⟨wa, Hf, sD, w, hb, hs, h⟩ := h
  refine ⟨wa, Hf, sD, w, hb, hs, h.bind.mono (fun x w1 H1 Hf1 g1 b1 q v rv => ?_) (fun _ _ _ _ _ _ q => q)⟩
  refine ⟨wa, Hf1, sD, w1, b1, hs.go g1, q.bind.mono (fun y w2 H2 Hf2 g2 b2 q2 v2 rv2 => ?_) (fun _ _ _ _ _ _ q => q)⟩
  exact q2.here b2 _ (.cons (rv.mono g2.ex) rv2))⟩
/-- f(k = v, ..), no positional values; what is raised goes to the wish -/
theorem run_fnW {k : Nat} {f : Addr} {fd : FuncData} {ps ks : List Str} {n : Nat} {F : DF} {W : WX} {pins : List (Addr × Obj)} {s : Shared} {Q : VK} {us ws : List Value} {vs zs : List V} {π : List Nat} (G : FnD X.prog X.w X.K X.mg X.base k f fd ps F) (hr : Room k X.A) (hb : KwB fd ps n ks π) (hx : Wok X W)
    (I : Inv X pins σ H s) (r : Vals vs us) (rz : Vals zs ws) (l1 : vs.length = n) (l2 : zs.length = ks.length) (h : spD X.mg ps.length F (permute π (vs ++ zs)) H Q (WE W σ)) : wpAny (model X.prog X.w) X.A (call (.ref f) us (ks.zip ws)) (EP X pins σ Q) X.xe s := by
  have r2 := (hb.kbn (K := X.K)).rel r rz
  refine wpAny_call (codeAny_mono (G.run X.A X.stack s H ⟨us, ks.zip ws⟩ (permute π (us ++ ws)) (permute π (vs ++ zs)) Q (WE W σ) hr I.env0 ((hb.kbn (K := X.K)).to s us ws I.kIn (r.length.symm.trans l1) (rz.length.symm.trans l2)) r2 h) fun r s' hq => ?_)
  cases r with
  | error e => exact hx σ pins H s e s' I hq
  | ok fl =>
    cases fl with
    | ret u => exact I.after hq
    | next => exact False.elim hq
    | brk => exact False.elim hq
    | cont => exact False.elim hq
theorem pd_callK0 {k : Nat} {f : Addr} {fd : FuncData} {ps ks : List Str} {F : DF} {W : WX} {x : Str} {p : Pos} {Ks : DA} {kws : List Keyword} {π : List Nat} (G : FnD X.prog X.w X.K X.mg X.base k f fd ps F) (hr : Room k X.A) (hg : Gl X x) (hm : X.mg x = some (.ref f)) (hk : PySem.W.keepIn X.K (.ref f) = true) (hb : KwB fd ps 0 ks π) (hx : Wok X W)
    (hkw : PK X kws (lA X.mg W Ks)) (hall : (backToKw pos (keywordEach kws X.env)).all (·.1.isSome) = true := by rfl) (hks : (backToKw pos (keywordEach kws X.env)).filterMap (·.1) = ks := by rfl) (hdb : (x == ("__debug__" : Str)) = false := by decide)
    (hpl : ((backTo pos (starEach [] X.env)).any (·.1) || (backToKw pos (keywordEach kws X.env)).any (·.1.isNone)) = false := by rfl) :
    PE X (.Call (.Name x p) [] kws pos) (lE X.mg W (eCallK ps.length 0 ks.length π F aNil Ks)) := by
  refine ⟨fun pins s σ H Q I h => ?_⟩
  obtain ⟨wa, Hf, sD, w, hb0, hs, h⟩ := h
  refine wpAny_Call_Name_kw (ld_glob I hg hm ?_ hdb)
  refine PySem.W.callWith_KW0 (h₀ := X.base) I.ok.mod.kin hk hall ?_ hpl
  refine thn (hkw.run pos pins s σ H (fun zs H1 => zs.length = ks.length ∧ spD X.mg ps.length F (permute π ([] ++ zs)) H1 Q (WE W σ)) I ⟨wa, Hf, sD, w, hb0, hs, ?_⟩) fun ws s2 ⟨zs, H2, I2, rz, l2, q2⟩ => ⟨I2.kIn, ?_⟩
  · refine Fin.mono (Fin.bind (r := Ks sD w) (k := fun zs w2 => if ([] : List D).length = 0 ∧ zs.length = ks.length ∧ (permute π ([] ++ zs)).length = ps.length then F (permute π ([] ++ zs)) w2 else .no) h) (fun zs w1 H1 Hf1 g1 b1 q v rv => ?_) (fun _ _ _ _ _ _ q => q)
    split at q
    · rename_i hl
      refine ⟨by rw [rv.length]; exact hl.2.1, wa, Hf1, _, w1, b1, permute_reps (Reps.append .nil rv) π, hl.2.2, q⟩
    · exact q.elim
  · rw [hks]
    exact run_fnW G hr hb hx I2 .nil rz rfl l2 q2
end
end DL

set_option maxHeartbeats 4000000
namespace DL
open PySem PySem.Spec PyProof.Rows L2
variable [TabT] [OldT]
open Evl (Ex)
/-! ### values side by side, some of them new lists that a slot will own -/
inductive RepsO (wa : Addr) (Hf H : Hp) : List V → List D → List Addr → Prop
  | nil : RepsO wa Hf H [] [] []
  | val {v : V} {d : D} {vs : List V} {ds : List D} {ps : List Addr} : Rep wa Hf v d → RepsO wa Hf H vs ds ps → RepsO wa Hf H (v :: vs) (d :: ds) ps
  | own {p : Addr} {xs : List V} {es : List D} {vs : List V} {ds : List D} {ps : List Addr} : H p = some (.lst xs) → Hf p = none → p ≠ wa → Reps wa Hf xs es → p ∉ ps → RepsO wa Hf H vs ds ps → RepsO wa Hf H (.ref p :: vs) (.own es :: ds) (p :: ps)
  | dct {p : Addr} {o : HO} {ks : DKs} {xs : List D} {vs : List V} {ds : List D} {ps : List Addr} : H p = some o → DicR wa Hf o ks xs → Hf p = none → p ≠ wa → p ∉ ps → RepsO wa Hf H vs ds ps → RepsO wa Hf H (.ref p :: vs) (.dct ks xs :: ds) (p :: ps)
def lM (mg : Str → Option Value) (W : WX) (E : Sl → Wl → R (List D)) : TA := fun σ H Q =>
  ∃ wa Hf sD w, Base wa Hf H w ∧ Slots wa Hf H σ sD ∧ Fin wa Hf H (E sD w) (fun ds _ H' Hf' => ∀ vs ps, RepsO wa Hf' H' vs ds ps → (∀ p ∈ ps, Fr H p) → Q vs H') (Er mg W wa σ)
section
variable {X : Cx} {mg : Str → Option Value} {W : WX} {tg it a b c e : Expr} {es : List Expr} {pos : Pos} {σ : L2.St} {H H' H0 : Hp} {wa : Addr} {Hf Hf' : Hp} {A : DE} {As M : DA}
theorem RepsO.length : ∀ {vs : List V} {ds : List D} {ps : List Addr}, RepsO wa Hf H vs ds ps → vs.length = ds.length
  | _, _, _, .nil => rfl
  | _, _, _, .val _ r => by simp [RepsO.length r]
  | _, _, _, .own _ _ _ _ _ r => by simp [RepsO.length r]
  | _, _, _, .dct _ _ _ _ _ r => by simp [RepsO.length r]
theorem RepsO.go (g : Go wa H Hf H' Hf') : ∀ {vs : List V} {ds : List D} {ps : List Addr}, RepsO wa Hf H vs ds ps → RepsO wa Hf' H' vs ds ps
  | _, _, _, .nil => .nil
  | _, _, _, .val h r => .val (h.mono g.ex) (RepsO.go g r)
  | _, _, _, .own h1 h2 h3 h4 h5 r => .own (g.keep _ _ h3 h1) ((g.new _ _ h1).trans h2) h3 (h4.mono g.ex) h5 (RepsO.go g r)
  | _, _, _, .dct h1 hd h2 h3 h5 r => .dct (g.keepN _ _ h3 hd.nt h1) (hd.mono g.ex) ((g.newN _ _ hd.nu h1).trans h2) h3 h5 (RepsO.go g r)
def mVal (A : DE) (As : DA) : DA := fun s w => (A s w).bind fun x w1 => (As s w1).bind fun xs w2 => .ok (x :: xs) w2
def mOwn (A : DA) (As : DA) : DA := fun s w => (A s w).bind fun x w1 => (As s w1).bind fun xs w2 => .ok (.own x :: xs) w2
theorem md_nil : PA X [] (lM mg W aNil) := weakA pa_nil fun σ H Q h => by
  obtain ⟨wa, Hf, sD, w, hb, hs, h⟩ := h
  exact h.here hb _ [] .nil fun _ m => nomatch m
theorem md_val (ha : PE X a (lE mg W A)) (hr : PA X es (lM mg W As)) (hs : starEach (a :: es) X.env = (false, eval a X.env) :: starEach es X.env := by rfl) : PA X (a :: es) (lM mg W (mVal A As)) := weakA (pa_cons ha hr hs) fun σ H Q h => by
  obtain ⟨wa, Hf, sD, w, hb, hs, h⟩ := h
  refine ⟨wa, Hf, sD, w, hb, hs, h.bind.mono (fun x w1 H1 Hf1 g1 b1 q v rv => ?_) (fun _ _ _ _ _ _ q => q)⟩
  refine ⟨wa, Hf1, sD, w1, b1, hs.go g1, q.bind.mono (fun y w2 H2 Hf2 g2 b2 q2 v2 ps rv2 hn => ?_) (fun _ _ _ _ _ _ q => q)⟩
  exact q2.here b2 _ ps (.val (rv.mono g2.ex) rv2) fun p m => g1.fr (hn p m)
theorem md_own {B : DA} (ha : PE X a (lfL mg W B)) (hr : PA X es (lM mg W As)) (hs : starEach (a :: es) X.env = (false, eval a X.env) :: starEach es X.env := by rfl) : PA X (a :: es) (lM mg W (mOwn B As)) := weakA (pa_cons ha hr hs) fun σ H Q h => by
  obtain ⟨wa, Hf, sD, w, hb, hs, h⟩ := h
  refine ⟨wa, Hf, sD, w, hb, hs, h.bind.mono (fun x w1 H1 Hf1 g1 b1 q p vs hp e1 e2 e3 rv => ?_) (fun _ _ _ _ _ _ q => q)⟩
  refine ⟨wa, Hf1, sD, w1, b1, hs.go g1, q.bind.mono (fun y w2 H2 Hf2 g2 b2 q2 v2 ps rv2 hn => ?_) (fun _ _ _ _ _ _ q => q)⟩
  have hpp : p ∉ ps := fun m => by
    exact hn p m _ e1 nt_lst
  refine q2.here b2 _ (p :: ps) (.own (g2.keep _ _ e3 e1) ((g2.new _ _ e1).trans e2) e3 (rv.mono g2.ex) hpp rv2) fun z m => ?_
  rcases List.mem_cons.mp m with e | m
  · rw [e]; exact hp
  · exact g1.fr (hn z m)
/-- into slots, one after another -/
def putS (s : Sl) : List Nat → List D → Option Sl
  | [], [] => some s
  | i :: is, d :: ds => putS (s.set i (some d)) is ds
  | _, _ => none
def putV (σ : L2.St) : List Nat → List V → Option L2.St
  | [], [] => some σ
  | i :: is, v :: vs => putV (σ.set i (some v)) is vs
  | _, _ => none
/-- who owns p already is none of these -/
def Apart (s : Sl) (σ : L2.St) (ps : List Addr) : Prop := ∀ p ∈ ps, ∀ (j : Nat) (e : D), s[j]? = some (some e) → IsO e → σ[j]? ≠ some (some (.ref p))
theorem put_ok : ∀ {is : List Nat} {vs : List V} {ds : List D} {ps : List Addr} {σ : L2.St} {s s' : Sl}, RepsO wa Hf H vs ds ps → (∀ p ∈ ps, Fr H0 p) → Slots wa Hf H σ s → OwnNew H0 σ s → Apart s σ ps → putS s is ds = some s' →
    ∃ σ', putV σ is vs = some σ' ∧ Slots wa Hf H σ' s' ∧ OwnNew H0 σ' s'
  | [], _, _, _, σ, s, s', .nil, _, hs, ho, _, h => by cases h; exact ⟨σ, rfl, hs, ho⟩
  | i :: is, _, _, _, σ, s, s', .val r rr, hp, hs, ho, ha, h => by
    refine put_ok (is := is) rr hp (hs.set r) (ho.set (rep_isO r)) (fun p m j ye h1 io h2 => ?_) h
    by_cases hj : j = i
    · subst hj
      rw [List.getElem?_set] at h1
      split at h1
      · split at h1
        · cases h1
          exact rep_isO r io
        · cases h1
      · rename_i hne
        exact absurd rfl hne
    · rw [List.getElem?_set_ne (Ne.symm hj)] at h1 h2
      exact ha p m j ye h1 io h2
  | i :: is, _, _, _, σ, s, s', .own (p := p) h1 h2 h3 h4 h5 rr, hp, hs, ho, ha, h => by
    refine put_ok (is := is) rr (fun q m => hp q (List.mem_cons_of_mem _ m)) (hs.setOwn h1 h2 h3 h4 fun j ye k1 io => ha p List.mem_cons_self j ye k1 io) (ho.setOwn hs.len (hp p List.mem_cons_self)) (fun q m j ye k1 io k2 => ?_) h
    by_cases hj : j = i
    · subst hj
      rw [List.getElem?_set] at k2
      split at k2
      · split at k2
        · cases k2
          exact h5 m
        · cases k2
      · rename_i hne
        exact absurd rfl hne
    · rw [List.getElem?_set_ne (Ne.symm hj)] at k1 k2
      exact ha q (List.mem_cons_of_mem _ m) j ye k1 io k2
  | i :: is, _, _, _, σ, s, s', .dct (p := p) h1 hd h2 h3 h5 rr, hp, hs, ho, ha, h => by
    refine put_ok (is := is) rr (fun q m => hp q (List.mem_cons_of_mem _ m)) (hs.setDct h1 h2 h3 hd fun j ye k1 io => ha p List.mem_cons_self j ye k1 io) (ho.setO hs.len (hp p List.mem_cons_self)) (fun q m j ye k1 io k2 => ?_) h
    by_cases hj : j = i
    · subst hj
      rw [List.getElem?_set] at k2
      split at k2
      · split at k2
        · cases k2
          exact h5 m
        · cases k2
      · rename_i hne
        exact absurd rfl hne
    · rw [List.getElem?_set_ne (Ne.symm hj)] at k1 k2
      exact ha q (List.mem_cons_of_mem _ m) j ye k1 io k2
  | [], _, _, _, _, _, _, .val _ _, _, _, _, _, h => by cases h
  | [], _, _, _, _, _, _, .own _ _ _ _ _ _, _, _, _, _, h => by cases h
  | [], _, _, _, _, _, _, .dct _ _ _ _ _ _, _, _, _, _, h => by cases h
  | _ :: _, _, _, _, _, _, _, .nil, _, _, _, _, h => by cases h
def sMul (is : List Nat) (M : DA) : DS := fun s w => match M s w with
  | .ok ds w1 => match putS s is ds with
    | some s1 => .nx s1 w1
    | none => .no
  | .er x w1 => .er x s w1
  | .no => .no
theorem apart_new {s : Sl} {H1 : Hp} {ps : List Addr} (hs : Slots wa Hf H1 σ s) (hn : ∀ p ∈ ps, Fr H1 p) : Apart s σ ps := fun p m j ye h1 io h2 => by
  obtain ⟨q, o, k1, k2, k3, _⟩ := hs.oAt h1 io
  rw [h2] at k1
  cases k1
  exact hn p m _ k2 k3
variable {st : Stmt}
/-- a, b = e1, e2: two local names -/
theorem sd_par2 {i j : Nat} (h : PS X st (tPar i j (lM mg W M))) : PS X st (lS mg W (sMul [i, j] M)) := weakS h fun D σ H h => by
  obtain ⟨wa, Hf, sD, w, H0, Hf0, g, b, hs, ho, h⟩ := h
  refine ⟨wa, Hf, sD, w, b, hs, ?_⟩
  unfold sMul at h
  cases e : M sD w with
  | ok ds w1 =>
    rw [e] at h
    dsimp only at h
    intro H1 Hf1 g1 b1 vs ps rv hn
    split at h
    · rename_i s1 hp
      obtain ⟨σ1, e1, hs1, ho1⟩ := put_ok (H0 := H0) rv (fun p m => g.fr (hn p m)) (hs.go g1) ho (apart_new hs hn) hp
      match ds, vs, hp, e1 with
      | [x, y], [u, v], hp, e1 =>
        cases e1
        exact ⟨u, v, rfl, h _ H1 Hf1 (g.trans g1) g1.ex b1 hs1 ho1⟩
    · exact h.elim
  | er x w1 =>
    rw [e] at h
    exact fun H1 Hf1 g1 b1 cls dx ev => h σ H1 Hf1 cls dx (g.trans g1) g1.ex b1 (hs.go g1) ho ev
  | no => rw [e] at h; exact h
theorem sd_par3 {i j k : Nat} (h : PS X st (tPar3 i j k (lM mg W M))) : PS X st (lS mg W (sMul [i, j, k] M)) := weakS h fun D σ H h => by
  obtain ⟨wa, Hf, sD, w, H0, Hf0, g, b, hs, ho, h⟩ := h
  refine ⟨wa, Hf, sD, w, b, hs, ?_⟩
  unfold sMul at h
  cases e : M sD w with
  | ok ds w1 =>
    rw [e] at h
    dsimp only at h
    intro H1 Hf1 g1 b1 vs ps rv hn
    split at h
    · rename_i s1 hp
      obtain ⟨σ1, e1, hs1, ho1⟩ := put_ok (H0 := H0) rv (fun p m => g.fr (hn p m)) (hs.go g1) ho (apart_new hs hn) hp
      match ds, vs, hp, e1 with
      | [x, y, z], [u, v, t], hp, e1 =>
        cases e1
        exact ⟨u, v, t, rfl, h _ H1 Hf1 (g.trans g1) g1.ex b1 hs1 ho1⟩
    · exact h.elim
  | er x w1 =>
    rw [e] at h
    exact fun H1 Hf1 g1 b1 cls dx ev => h σ H1 Hf1 cls dx (g.trans g1) g1.ex b1 (hs.go g1) ho ev
  | no => rw [e] at h; exact h
/-- names, as targets -/
def gNames : List Nat → TGs
  | [] => gNil
  | i :: is => gCons (gName i) (gNames is)
theorem gNames_of {H : Hp} {Q : L2.St → Hp → Prop} : ∀ {is : List Nat} {vs : List V} {σ σ' : L2.St}, putV σ is vs = some σ' → Q σ' H → gNames is vs σ H Q
  | [], [], _, _, h, q => by cases h; exact ⟨rfl, q⟩
  | i :: is, v :: vs, _, _, h, q => ⟨v, vs, rfl, gNames_of (is := is) h q⟩
  | [], _ :: _, _, _, h, _ => by cases h
  | _ :: _, [], _, _, h, _ => by cases h
/-- a, b, .. = a written tuple -/
theorem sd_multi {is : List Nat} {n : Nat} (h : PS X st (tAsg (tTup (lM mg W M)) (gTup X.K n (gNames is)))) (hn : is.length = n) (hz : n ≤ 1000) : PS X st (lS mg W (sMul is M)) := weakS h fun D σ H h => by
  obtain ⟨wa, Hf, sD, w, H0, Hf0, g, b, hs, ho, h⟩ := h
  refine ⟨wa, Hf, sD, w, b, hs, ?_⟩
  unfold sMul at h
  cases e : M sD w with
  | ok ds w1 =>
    rw [e] at h
    dsimp only at h
    intro H1 Hf1 g1 b1 vs ps rv hnew
    split at h
    · rename_i s1 hp
      obtain ⟨σ1, e1, hs1, ho1⟩ := put_ok (H0 := H0) rv (fun p m => g.fr (hnew p m)) (hs.go g1) ho (apart_new hs hnew) hp
      have len : ∀ (is : List Nat) (vs : List V) (σ σ' : L2.St), putV σ is vs = some σ' → vs.length = is.length := by
        intro is
        induction is with
        | nil => intro vs σ σ' h; cases vs with
          | nil => rfl
          | cons _ _ => cases h
        | cons i is ih => intro vs σ σ' h; cases vs with
          | nil => cases h
          | cons v vs => simp [ih _ _ _ h]
      have hvl := len _ _ _ _ e1
      refine ⟨by rw [hvl, hn, sizeLine_eq]; omega, fun t ht => ⟨t, vs, rfl, SqT.of upd_same, by rw [hvl, hn], gNames_of e1 ?_⟩⟩
      exact h _ _ Hf1 ((g.trans g1).trans (Go.new1 ht)) g1.ex (b1.new1 ht) (hs1.go (Go.new1 ht)) ho1
    · exact h.elim
  | er x w1 =>
    rw [e] at h
    exact fun H1 Hf1 g1 b1 cls dx ev => h σ H1 Hf1 cls dx (g.trans g1) g1.ex b1 (hs.go g1) ho ev
  | no => rw [e] at h; exact h
/-- what the proof never comes to -/
def sNever : DS := fun _ _ => .no
theorem sd_never : PS X st (lS mg W sNever) := weakS ps_never fun D σ H h => by
  obtain ⟨wa, Hf, sD, w, H0, Hf0, g, b, hs, ho, h⟩ := h
  exact h
end
theorem Fun.kwb {K : PySem.W.Frag} {x qual : Str} {st : Stmt} {f : Addr} {fd : FuncData} {ps ks : List Str} {n : Nat} {π : List Nat} (F : Fun K x qual st f fd)
    (h : ∀ (kV doc pm : Value) (an : Option Addr) (cdv ct : Value) (us ws : List Value), us.length = n → ws.length = ks.length → bindArgs (PySem.W.fnOf x qual (defArgs st) (defBody st) (defScope st) .none kV doc pm an cdv ct) ⟨us, ks.zip ws⟩ = pure (ps.zip (permute π (us ++ ws)))) : KwB fd ps n ks π := by
  obtain ⟨oc, od, kV, doc, pm, an, cdv, ct, osl, rfl, lk, hcd⟩ := F.ex
  exact fun us ws h1 h2 => h kV doc pm an cdv ct us ws h1 h2
end DL

set_option maxHeartbeats 2000000
namespace DL
open PySem PySem.Spec PyProof.Rows L2
variable [TabT] [OldT]
open Evl (Ex)
/-! ### in, index, sorted, max and min of a list, break, continue -/
theorem units65 {k : Nat} {A : Around} (r : Room k A) : A.units + 65 < cLine := by have := r.un; omega
/-- is an integer among integers -/
def hasI (i : Int) (ns : List Int) : Bool := ns.any fun j => decide (j = i)
def fInG (neg : Bool) : Wl → D → D → Option D := fun _ x y => match y with
  | .lst ds => if okD x && okD (.lst ds) then some (.bl (if neg then !ds.any fun d => eqD d x else ds.any fun d => eqD d x)) else none
  | .tup ds => match x, ints? ds with
    | .int i, some ns => some (.bl (if neg then !hasI i ns else hasI i ns))
    | _, _ => none
  | _ => none
abbrev fIn := fInG false
abbrev fNin := fInG true
theorem toPDs_map (ds : List D) : toPDs ds = ds.map toPD := by
  induction ds with
  | nil => rfl
  | cons d r ih => rw [List.map_cons, ← ih]; rfl
theorem anyPD (x : D) (ds : List D) : ((toPDs ds).any fun z => PyData.eqv z (toPD x)) = ds.any fun d => eqD d x := by
  rw [toPDs_map, List.any_map]
  rfl
theorem inV_ints (i : Int) (ns : List Int) : inV (.int i) (ns.map V.int) = hasI i ns := by
  unfold inV hasI
  rw [List.any_map]
  congr 1
theorem flat_ints (ns : List Int) : (ns.map V.int).all flatV = true := by
  rw [List.all_map]
  exact List.all_eq_true.mpr fun _ _ => rfl
theorem opd_in {K : PySem.W.Frag} : OpD (fun x y H Q => rInD K x y H Q ∨ rIn K false x y H Q) fIn := by
  intro wa Hf H w x y u v z Q hb ru rv h q
  unfold fIn fInG at h
  split at h
  · split at h
    · rename_i ds hc
      rw [Bool.and_eq_true] at hc
      cases h
      refine .inl ⟨_, _, ru.dp hb (shaped_lay hc.1), rv.dp hb (shaped_lay hc.2), hc.1, hc.2, ?_⟩
      rw [anyPD]
      exact q _ _ Go.refl hb _ (.bl _)
    · cases h
  · rename_i ds
    split at h
    · rename_i i ns e
      cases h
      cases ru
      cases rv with
      | tup h1 r1 =>
        rw [ints?_some e] at r1
        have e2 := r1.ints
        subst e2
        refine .inr ⟨_, _, rfl, .inr (SqT.of (hb.ex _ _ h1)), rfl, flat_ints _, ?_⟩
        rw [inV_ints]
        exact q _ _ Go.refl hb _ (.bl _)
    · cases h
  · cases h
theorem opd_nin {K : PySem.W.Frag} : OpD (fun x y H Q => rNotInD K x y H Q ∨ rIn K true x y H Q) fNin := by
  intro wa Hf H w x y u v z Q hb ru rv h q
  unfold fNin fInG at h
  split at h
  · split at h
    · rename_i ds hc
      rw [Bool.and_eq_true] at hc
      cases h
      refine .inl ⟨_, _, ru.dp hb (shaped_lay hc.1), rv.dp hb (shaped_lay hc.2), hc.1, hc.2, ?_⟩
      rw [anyPD]
      exact q _ _ Go.refl hb _ (.bl _)
    · cases h
  · rename_i ds
    split at h
    · rename_i i ns e
      cases h
      cases ru
      cases rv with
      | tup h1 r1 =>
        rw [ints?_some e] at r1
        have e2 := r1.ints
        subst e2
        refine .inr ⟨_, _, rfl, .inr (SqT.of (hb.ex _ _ h1)), rfl, flat_ints _, ?_⟩
        rw [inV_ints]
        exact q _ _ Go.refl hb _ (.bl _)
    · cases h
  · cases h
section
variable {X : Cx} {mg : Str → Option Value} {W : WX} {a b : Expr} {pos : Pos} {A B : DE}
theorem pd_in (hu : X.A.units + 65 < cLine) (ha : PE X a (lE mg W A)) (hb : PE X b (lE mg W B)) (hm : behindInMarks .In b = false := by first | rfl | exact nomark _) : PE X (.Compare a [.In] [b] pos) (lE mg W (eBin fIn A B)) := pd_cmp ((op_inD hu).or op_in_seq) opd_in ha hb hm
theorem pd_nin (hu : X.A.units + 65 < cLine) (ha : PE X a (lE mg W A)) (hb : PE X b (lE mg W B)) (hm : behindInMarks .NotIn b = false := by first | rfl | exact nomark _) : PE X (.Compare a [.NotIn] [b] pos) (lE mg W (eBin fNin A B)) := pd_cmp ((op_notInD hu).or op_notIn_seq) opd_nin ha hb hm
theorem qd_in (hu : X.A.units + 65 < cLine) (ha : PE X a (lE mg W A)) (hb : PE X b (lE mg W B)) (hm : behindInMarks .In b = false := by first | rfl | exact nomark _) : PT X (.Compare a [.In] [b] pos) (lT mg W (tE (eBin fIn A B))) := qd_cmp ((op_inD hu).or op_in_seq) opd_in ha hb hm
theorem qd_nin (hu : X.A.units + 65 < cLine) (ha : PE X a (lE mg W A)) (hb : PE X b (lE mg W B)) (hm : behindInMarks .NotIn b = false := by first | rfl | exact nomark _) : PT X (.Compare a [.NotIn] [b] pos) (lT mg W (tE (eBin fNin A B))) := qd_cmp ((op_notInD hu).or op_notIn_seq) opd_nin ha hb hm
end
/-! sorted, max, min -/
def sortI (ns : List Int) : List Int := ns.mergeSort fun a b => decide (a ≤ b)
theorem sortI_perm (ns : List Int) : (sortI ns).Perm ns := List.mergeSort_perm _ _
theorem sortI_le (ns : List Int) : (sortI ns).Pairwise (· ≤ ·) := by
  have := List.pairwise_mergeSort (le := fun a b : Int => decide (a ≤ b)) (fun a b c h1 h2 => by simp at *; omega) (fun a b => by simp; omega) ns
  exact this.imp fun h => of_decide_eq_true h
theorem sorted_unique : ∀ {xs ys : List Int}, xs.Perm ys → xs.Pairwise (· ≤ ·) → ys.Pairwise (· ≤ ·) → xs = ys := fun p h1 h2 => p.eq_of_pairwise (fun a b _ _ h3 h4 => Int.le_antisymm h3 h4) h1 h2
def fSorted : Wl → List D → Option (List D) := fun _ ds => match ds with
  | [.lst xs] => (ints? xs).map fun ns => (sortI ns).map .int
  | _ => none
theorem cl_sorted {K : PySem.W.Frag} : CaL (rSortedI K) fSorted := by
  intro wa Hf H w ds us zs Q hb rs h q
  unfold fSorted at h
  split at h
  · rename_i xs
    cases e : ints? xs with
    | none => rw [e] at h; cases h
    | some ns =>
      rw [e] at h
      cases h
      obtain ⟨a, vs, rfl, h1, r1⟩ := one_lst rs
      rw [ints?_some e] at r1
      have e2 := r1.ints
      subst e2
      refine ⟨a, ns, rfl, SqL.of (hb.ex _ _ h1), fun ns' p hp hs hn => ?_⟩
      have e3 : ns' = sortI ns := sorted_unique (hp.trans (sortI_perm ns).symm) hs (sortI_le ns)
      subst e3
      exact newL hb Reps.of_ints q p hn
  · cases h
def maxI : List Int → Option Int
  | [] => none
  | i :: r => some (r.foldl max i)
def minI : List Int → Option Int
  | [] => none
  | i :: r => some (r.foldl min i)
theorem foldl_max_le : ∀ (r : List Int) (i : Int), i ≤ r.foldl max i ∧ (∀ y ∈ r, y ≤ r.foldl max i) ∧ (r.foldl max i = i ∨ r.foldl max i ∈ r)
  | [], i => ⟨Int.le_refl _, by simp, .inl rfl⟩
  | j :: r, i => by
    obtain ⟨h1, h2, h3⟩ := foldl_max_le r (max i j)
    refine ⟨?_, ?_, ?_⟩
    · simp only [List.foldl_cons]; omega
    · intro y hy
      simp only [List.foldl_cons]
      rcases List.mem_cons.mp hy with rfl | hy
      · omega
      · exact h2 y hy
    · simp only [List.foldl_cons, List.mem_cons]
      rcases h3 with h3 | h3
      · omega
      · exact .inr (.inr h3)
theorem foldl_min_le : ∀ (r : List Int) (i : Int), r.foldl min i ≤ i ∧ (∀ y ∈ r, r.foldl min i ≤ y) ∧ (r.foldl min i = i ∨ r.foldl min i ∈ r)
  | [], i => ⟨Int.le_refl _, by simp, .inl rfl⟩
  | j :: r, i => by
    obtain ⟨h1, h2, h3⟩ := foldl_min_le r (min i j)
    refine ⟨?_, ?_, ?_⟩
    · simp only [List.foldl_cons]; omega
    · intro y hy
      simp only [List.foldl_cons]
      rcases List.mem_cons.mp hy with rfl | hy
      · omega
      · exact h2 y hy
    · simp only [List.foldl_cons, List.mem_cons]
      rcases h3 with h3 | h3
      · omega
      · exact .inr (.inr h3)
theorem maxI_of {ns : List Int} {m : Int} (h : maxI ns = some m) : m ∈ ns ∧ ∀ y ∈ ns, y ≤ m := by
  cases ns with
  | nil => cases h
  | cons i r =>
    cases h
    obtain ⟨h1, h2, h3⟩ := foldl_max_le r i
    refine ⟨?_, fun y hy => ?_⟩
    · rcases h3 with h3 | h3
      · rw [h3]; exact List.mem_cons_self
      · exact List.mem_cons_of_mem _ h3
    · rcases List.mem_cons.mp hy with rfl | hy
      · exact h1
      · exact h2 y hy
theorem minI_of {ns : List Int} {m : Int} (h : minI ns = some m) : m ∈ ns ∧ ∀ y ∈ ns, m ≤ y := by
  cases ns with
  | nil => cases h
  | cons i r =>
    cases h
    obtain ⟨h1, h2, h3⟩ := foldl_min_le r i
    refine ⟨?_, fun y hy => ?_⟩
    · rcases h3 with h3 | h3
      · rw [h3]; exact List.mem_cons_self
      · exact List.mem_cons_of_mem _ h3
    · rcases List.mem_cons.mp hy with rfl | hy
      · exact h1
      · exact h2 y hy
def fMaxL : Wl → List D → Option D := fun _ ds => match ds with
  | [.lst xs] => (ints? xs).bind fun ns => (maxI ns).map .int
  | _ => none
def fMinL : Wl → List D → Option D := fun _ ds => match ds with
  | [.lst xs] => (ints? xs).bind fun ns => (minI ns).map .int
  | _ => none
theorem cd_maxL {K : PySem.W.Frag} : CaD (rMax K) fMaxL := by
  intro wa Hf H w ds us z Q hb rs h q
  unfold fMaxL at h
  split at h
  · rename_i xs
    cases e : ints? xs with
    | none => rw [e] at h; cases h
    | some ns =>
      rw [e, Option.bind_some] at h
      cases e1 : maxI ns with
      | none => rw [e1] at h; cases h
      | some m =>
        rw [e1] at h
        cases h
        obtain ⟨a, vs, rfl, h1, r1⟩ := one_lst rs
        rw [ints?_some e] at r1
        have e2 := r1.ints
        subst e2
        obtain ⟨g1, g2⟩ := maxI_of e1
        refine ⟨a, ns, rfl, SqL.of (hb.ex _ _ h1), List.length_pos_of_mem g1, fun m' h3 h4 => ?_⟩
        have : m' = m := Int.le_antisymm (g2 m' h3) (h4 m g1)
        subst this
        exact q _ _ Go.refl hb _ (.int _)
  · cases h
theorem cd_minL {K : PySem.W.Frag} : CaD (rMin K) fMinL := by
  intro wa Hf H w ds us z Q hb rs h q
  unfold fMinL at h
  split at h
  · rename_i xs
    cases e : ints? xs with
    | none => rw [e] at h; cases h
    | some ns =>
      rw [e, Option.bind_some] at h
      cases e1 : minI ns with
      | none => rw [e1] at h; cases h
      | some m =>
        rw [e1] at h
        cases h
        obtain ⟨a, vs, rfl, h1, r1⟩ := one_lst rs
        rw [ints?_some e] at r1
        have e2 := r1.ints
        subst e2
        obtain ⟨g1, g2⟩ := minI_of e1
        refine ⟨a, ns, rfl, SqL.of (hb.ex _ _ h1), List.length_pos_of_mem g1, fun m' h3 h4 => ?_⟩
        have : m' = m := Int.le_antisymm (h4 m g1) (g2 m' h3)
        subst this
        exact q _ _ Go.refl hb _ (.int _)
  · cases h
/-! xs.index(y) -/
def idxD (ds : List D) (y : D) : Option D := if okD y && okD (.lst ds) then (ds.findIdx? fun d => eqD d y).map fun j => .int (j : Nat) else none
def eIdx (A B : DE) : DE := fun s w => (A s w).bind fun x w1 => match x with
  | .lst ds => (B s w1).bind fun y w2 => opt (idxD ds y) w2
  | _ => .no
section
variable {X : Cx} {mg : Str → Option Value} {W : WX} {o e : Expr} {apos cpos : Pos} {A B : DE}
theorem pd_index (hu : X.A.units + 65 < cLine) (ha : PE X o (lE mg W A)) (hb : PE X e (lE mg W B))
    (hbase : attributeBase o "index" X.env (eval o X.env) = eval o X.env := by rfl)
    (hfew : ((backTo cpos (starEach (e :: []) X.env)).all (fun x => !x.1) && (backToKw cpos (keywordEach [] X.env)).all (fun x => x.1.isSome)
      && decide ((e :: []).length + ([] : List Keyword).length + (if ([] : List Keyword).isEmpty then 0 else 1) < 30)) = true := by rfl)
    (hline : (apos.endLine == cpos.line) = true := by rfl) (hs : starEach (e :: []) X.env = (false, eval e X.env) :: starEach [] X.env := by rfl) (hplain : (backTo cpos (starEach [] X.env)).any (·.1) = false := by rfl) :
    PE X (.Call (.Attribute o "index" apos) [e] [] cpos) (lE mg W (eIdx A B)) := weakE (pe_bm PySem.F.plainAttrs_list PySem.F.slot_list_index PySem.F.type_list_index (mt_indexD hu) ha (pa_cons hb pa_nil hs) hbase hfew hline hs hplain) fun σ H Q h => by
  obtain ⟨wa, Hf, sD, w, hb, hs, h⟩ := h
  refine ⟨wa, Hf, sD, w, hb, hs, h.bind.mono (fun x w1 H1 Hf1 g1 b1 q v rv => ?_) (fun _ _ _ _ _ _ q => q)⟩
  have hx : ∃ xs, x = .lst xs := by
    cases x with
    | lst xs => exact ⟨xs, rfl⟩
    | _ => exact q.elim
  obtain ⟨ds, rfl⟩ := hx
  cases rv with
  | lst h1 r1 =>
    refine ⟨.inl ⟨rfl, _, SqL.of (b1.ex _ _ h1)⟩, wa, Hf1, sD, w1, b1, hs.go g1, q.bind.mono (fun y w2 H2 Hf2 g2 b2 q2 v2 rv2 => ?_) (fun _ _ _ _ _ _ q => q)⟩
    unfold idxD at q2
    split at q2
    · rename_i hc
      rw [Bool.and_eq_true] at hc
      cases e1 : ds.findIdx? (fun d => eqD d y) with
      | none => rw [e1] at q2; exact q2.elim
      | some j =>
        rw [e1] at q2
        obtain ⟨hj, h3, h4⟩ := List.findIdx?_eq_some_iff_getElem.mp e1
        have hl := (Rep.lst h1 r1).mono g2.ex
        refine ⟨_, v2, toPD y, toPDs ds, j, toPD ds[j], rfl, rfl, hl.dp b2 (shaped_lay hc.2), rv2.dp b2 (shaped_lay hc.1), hc.2, hc.1, ?_, h3, fun m z' hm hz => ?_, q2 H2 Hf2 Go.refl b2 _ (.int _)⟩
        · rw [toPDs_map, List.getElem?_map, List.getElem?_eq_getElem hj]; rfl
        · rw [toPDs_map, List.getElem?_map, List.getElem?_eq_getElem (by omega)] at hz
          cases hz
          have := h4 m hm
          exact (Bool.not_eq_true _).mp this
    · exact q2.elim
theorem pl_cb {es : List Expr} {a : Expr} {As : DA} {x : Str} {id : String} {r : List V → Hp → VK → Prop} {f : Wl → List D → Option (List D)} {p : Pos} {pos : Pos} (hc : CallR X (.builtin id) r) (hf : CaL r f) (hg : Gl X x) (hm : X.mg x = none) (hv : bootBuiltins x = some (.builtin id)) (ha : PA X (a :: es) (lA mg W As)) (hn : x ≠ "__name__" := by decide) (hdb : (x == ("__debug__" : Str)) = false := by decide)
    (he : starEach (a :: es) X.env = (false, eval a X.env) :: starEach es X.env := by rfl) (hpl : (backTo pos (starEach es X.env)).any (·.1) = false := by rfl) : PE X (.Call (.Name x p) (a :: es) [] pos) (lfL mg W (eCBL f As)) :=
  weakE (pe_callB hc hg hm hv ha hn hdb he hpl) fun _ _ _ q => cbL_ok hf q
end
/-! break, continue -/
section
variable {X : Cx} {mg : Str → Option Value} {W : WX} {pos : Pos}
def sBrk : DS := fun s w => .bk s w
def sCnt : DS := fun s w => .ct s w
theorem sd_brk : PS X (.Break pos) (lS mg W sBrk) := weakS ps_break fun D σ H h => by
  obtain ⟨wa, Hf, sD, w, H0, Hf0, g, b, hs, ho, h⟩ := h
  exact h σ H Hf g (Ex.refl _) b hs ho
theorem sd_cnt : PS X (.Continue pos) (lS mg W sCnt) := weakS ps_continue fun D σ H h => by
  obtain ⟨wa, Hf, sD, w, H0, Hf0, g, b, hs, ho, h⟩ := h
  exact h σ H Hf g (Ex.refl _) b hs ho
end
end DL

set_option maxHeartbeats 2000000
namespace DL
open PySem PySem.Spec PyProof.Rows L2
variable [TabT] [OldT]
open Evl (Ex)
/-! ### list(range(..)) -/
def rgOk (a b : Int) : Prop := -4611686018427387904 ≤ a ∧ a < 4611686018427387904 ∧ -4611686018427387904 ≤ b ∧ b < 4611686018427387904 ∧ (b - a).toNat ≤ lim
instance (a b : Int) : Decidable (rgOk a b) := by unfold rgOk; infer_instance
theorem rgOk_of {a b : Int} (h : rgOk a b) : RgOk a b := by
  obtain ⟨h1, h2, h3, h4, h5⟩ := h
  have : lim = 16000000 := rfl
  exact ⟨by omega, by omega, by omega, by omega, by omega⟩
def aRg1 (A : DE) : DA := fun s w => (A s w).bind fun x w1 => match x with
  | .int j => if rgOk 0 j then .ok (upTo 0 (j - 0).toNat) w1 else .no
  | _ => .no
def aRg2 (A B : DE) : DA := fun s w => (A s w).bind fun x w1 => (B s w1).bind fun y w2 => match x, y with
  | .int i, .int j => if rgOk i j then .ok (upTo i (j - i).toNat) w2 else .no
  | _, _ => .no
section
variable {X : Cx} {mg : Str → Option Value} {W : WX} {a b : Expr} {p p2 pos pos2 : Pos} {A B : DE}
theorem rg_reps {wa : Addr} {Hf : Hp} {i j : Int} : Reps wa Hf (rgV i j) (upTo i (j - i).toNat) := by
  have e : ∀ l : List Nat, Reps wa Hf (l.map fun (k : Nat) => V.int (i + (k : Nat))) (l.map fun (k : Nat) => D.int (i + (k : Nat))) := by
    intro l
    induction l with
    | nil => exact .nil
    | cons k r ih => exact .cons (.int _) ih
  exact e _
theorem pl_rg1 (hc : X.calm = true) (hg : Gl X "list") (hm : X.mg "list" = none) (hg2 : Gl X "range") (hm2 : X.mg "range" = none) (ha : PE X a (lE mg W A))
    (na : starEach [a] X.env = (false, eval a X.env) :: starEach [] X.env := by rfl)
    (ne : starEach [Expr.Call (.Name "range" p2) [a] [] pos2] X.env = (false, eval (Expr.Call (.Name "range" p2) [a] [] pos2) X.env) :: starEach [] X.env := by rfl) :
    PE X (.Call (.Name "list" p) [.Call (.Name "range" p2) [a] [] pos2] [] pos) (lfL mg W (aRg1 A)) := weakE (pe_listRg hc hg hm (prg_1 hg2 hm2 ha na) ne) fun σ H Q h => by
  obtain ⟨wa, Hf, sD, w, hb, hs, h⟩ := h
  refine ⟨wa, Hf, sD, w, hb, hs, h.bind.mono (fun x w1 H1 Hf1 g1 b1 q v rv => ?_) (fun _ _ _ _ _ _ q => q)⟩
  split at q
  · split at q
    · rename_i hr
      cases rv
      refine ⟨_, rfl, rgOk_of hr, fun l hl => ?_⟩
      exact newL b1 rg_reps (fun H' Hf' l2 vs g b n e1 e2 e3 r => q H' Hf' g b l2 vs (g1.fr n) e1 e2 e3 r) l hl
    · exact q.elim
  · exact q.elim
theorem pl_rg2 (hc : X.calm = true) (hg : Gl X "list") (hm : X.mg "list" = none) (hg2 : Gl X "range") (hm2 : X.mg "range" = none) (ha : PE X a (lE mg W A)) (hb : PE X b (lE mg W B))
    (na : starEach [a, b] X.env = (false, eval a X.env) :: starEach [b] X.env := by rfl) (nb : starEach [b] X.env = (false, eval b X.env) :: starEach [] X.env := by rfl) (hp : (backTo pos2 (starEach [b] X.env)).any (·.1) = false := by rfl)
    (ne : starEach [Expr.Call (.Name "range" p2) [a, b] [] pos2] X.env = (false, eval (Expr.Call (.Name "range" p2) [a, b] [] pos2) X.env) :: starEach [] X.env := by rfl) :
    PE X (.Call (.Name "list" p) [.Call (.Name "range" p2) [a, b] [] pos2] [] pos) (lfL mg W (aRg2 A B)) := weakE (pe_listRg hc hg hm (prg_2 hg2 hm2 ha hb na nb hp) ne) fun σ H Q h => by
  obtain ⟨wa, Hf, sD, w, hb, hs, h⟩ := h
  refine ⟨wa, Hf, sD, w, hb, hs, h.bind.mono (fun x w1 H1 Hf1 g1 b1 q v rv => ?_) (fun _ _ _ _ _ _ q => q)⟩
  refine ⟨wa, Hf1, sD, w1, b1, hs.go g1, q.bind.mono (fun y w2 H2 Hf2 g2 b2 q2 v2 rv2 => ?_) (fun _ _ _ _ _ _ q => q)⟩
  split at q2
  · split at q2
    · rename_i hr
      cases rv
      cases rv2
      refine ⟨_, _, rfl, rfl, rgOk_of hr, fun l hl => ?_⟩
      exact newL b2 rg_reps (fun H' Hf' l2 vs g b n e1 e2 e3 r => q2 H' Hf' g b l2 vs ((g1.trans g2).fr n) e1 e2 e3 r) l hl
    · exact q2.elim
  · exact q2.elim
end
/-! ### a test that is `x if c else y` -/
section
variable {X : Cx} {mg : Str → Option Value} {W : WX} {a b c : Expr} {pos : Pos} {C S T : DT} {tC tA tB : TT}
theorem pt_ifx (hc : PT X c tC) (ha : PT X a tA) (hb : PT X b tB) : PT X (.IfExp c a b pos) (fun σ H Q => tC σ H fun k H1 => if k = true then tA σ H1 Q else tB σ H1 Q) := ⟨fun pins s σ H Q I h =>
  PyProof.Rows.isTrue_IfExp (thn (hc.run pins s σ H _ I h) fun d s1 ⟨H1, I1, q1⟩ => by
    cases d with
    | true => exact ha.run pins s1 σ H1 Q I1 q1
    | false => exact hb.run pins s1 σ H1 Q I1 q1)⟩
def tIfD (C S T : DT) : DT := fun s w => (C s w).bind fun k w1 => if k then S s w1 else T s w1
theorem qd_ifx (hc : PT X c (lT mg W C)) (ha : PT X a (lT mg W S)) (hb : PT X b (lT mg W T)) : PT X (.IfExp c a b pos) (lT mg W (tIfD C S T)) := weakT (pt_ifx hc ha hb) fun σ H Q h => by
  obtain ⟨wa, Hf, sD, w, hb, hs, h⟩ := h
  refine ⟨wa, Hf, sD, w, hb, hs, h.bind.mono (fun x w1 H1 Hf1 g1 b1 q v rv => ?_) (fun _ _ _ _ _ _ q => q)⟩
  cases rv
  cases x with
  | true => exact iteT ⟨wa, Hf1, sD, w1, b1, hs.go g1, q⟩
  | false => exact iteF ⟨wa, Hf1, sD, w1, b1, hs.go g1, q⟩
end
end DL

set_option maxHeartbeats 2000000
namespace DL
open PySem PySem.Spec PyProof.Rows L2
variable [TabT] [OldT]
/-! ### what a piece of code comes to, as a plain proposition -/
section
variable {α β : Type} {a : α} {w : Wl} {Q P : α → Wl → Prop} {s : Sl} {A B C : DE} {As Bs : DA} {S T : DT} {f g : Wl → D → D → Option D} {U V : DS} {N N' : Sl → Wl → Prop} {Z Z' : D → Wl → Prop} {i n k : Nat}
def okE (r : R α) (Q : α → Wl → Prop) : Prop := match r with
  | .ok a w => Q a w
  | _ => False
def okO (o : Option α) (P : α → Prop) : Prop := match o with
  | some z => P z
  | none => False
def okB (d : D) (P : Bool → Prop) : Prop := match d with
  | .bl k => P k
  | _ => False
@[simp] theorem okE_ok : okE (.ok a w) Q = Q a w := rfl
@[simp] theorem okE_no : okE (.no) Q = False := rfl
@[simp] theorem okE_er {x : Exn} : okE (.er x w) Q = False := rfl
@[simp] theorem okO_some {P : α → Prop} : okO (some a) P = P a := rfl
@[simp] theorem okO_none {P : α → Prop} : okO none P = False := rfl
@[simp] theorem okB_bl {P : Bool → Prop} {k : Bool} : okB (.bl k) P = P k := rfl
theorem okE_bind {r : R α} {k : α → Wl → R β} {Q : β → Wl → Prop} : okE (r.bind k) Q = okE r (fun a w => okE (k a w) Q) := by cases r <;> rfl
@[simp] theorem okE_noer {r : R α} : okE r.noer Q = okE r Q := by cases r <;> rfl
@[simp] theorem okE_opt {o : Option α} : okE (opt o w) Q = okO o fun z => Q z w := by cases o <;> rfl
@[simp] theorem okE_ite {c : Prop} [Decidable c] {r r' : R α} : okE (if c then r else r') Q = if c then okE r Q else okE r' Q := by split <;> rfl
@[simp] theorem okO_ite {c : Prop} [Decidable c] {o : Option α} {P : α → Prop} : okO (if c then o else none) P = (c ∧ okO o P) := by
  by_cases h : c
  · simp [h]
  · simp [h]
theorem okE_mono {r : R α} (h : okE r P) (i : ∀ a w, P a w → Q a w) : okE r Q := by
  cases r with
  | ok a w => exact i _ _ h
  | er _ _ => exact h
  | no => exact h
theorem okE_eq {r : R α} (h : okE r fun d w' => d = a ∧ w' = w) : r = .ok a w := by
  cases r with
  | ok b v => obtain ⟨rfl, rfl⟩ := h; rfl
  | er _ _ => exact h.elim
  | no => exact h.elim
theorem okE_ex {r : R α} (h : okE r P) : ∃ a w, r = .ok a w ∧ P a w := by
  cases r with
  | ok b v => exact ⟨b, v, rfl, h⟩
  | er _ _ => exact h.elim
  | no => exact h.elim
variable {Q : D → Wl → Prop} {QA : List D → Wl → Prop} {QT : Bool → Wl → Prop}
@[simp] theorem okE_var : okE (eVar i s w) Q = okO (getS s i) fun d => Q d w := by unfold eVar; cases getS s i <;> rfl
@[simp] theorem okE_c {d : D} : okE (eC d s w) Q = Q d w := rfl
@[simp] theorem okE_bin : okE (eBin f A B s w) Q = okE (A s w) fun x w1 => okE (B s w1) fun y w2 => okO (f w2 x y) fun z => Q z w2 := by unfold eBin; simp only [okE_bind, okE_opt]
@[simp] theorem okE_un {f : Wl → D → Option D} : okE (eUn f A s w) Q = okE (A s w) fun x w1 => okO (f w1 x) fun z => Q z w1 := by unfold eUn; simp only [okE_bind, okE_opt]
@[simp] theorem okE_cb {f : Wl → List D → Option D} : okE (eCB f As s w) Q = okE (As s w) fun x w1 => okO (f w1 x) fun z => Q z w1 := by unfold eCB; simp only [okE_bind, okE_opt]
@[simp] theorem okE_cbl {f : Wl → List D → Option (List D)} : okE (eCBL f As s w) QA = okE (As s w) fun x w1 => okO (f w1 x) fun z => QA z w1 := by unfold eCBL; simp only [okE_bind, okE_opt]
@[simp] theorem okE_l : okE (eL As s w) Q = okE (As s w) fun x w1 => Q (.lst x) w1 := by unfold eL; simp only [okE_bind, okE_ok]
@[simp] theorem okE_nil : okE (aNil s w) QA = QA [] w := rfl
@[simp] theorem okE_cons : okE (aCons A As s w) QA = okE (A s w) fun x w1 => okE (As s w1) fun xs w2 => QA (x :: xs) w2 := by unfold aCons; simp only [okE_bind, okE_ok]
@[simp] theorem okE_tup : okE (eTup As s w) Q = okE (As s w) fun xs w1 => xs.length ≤ lim ∧ Q (.tup xs) w1 := by
  unfold eTup; simp only [okE_bind]; congr; funext xs w1; split <;> simp [*]
@[simp] theorem okE_lst : okE (aLst As s w) QA = okE (As s w) fun xs w1 => xs.length ≤ lim ∧ QA xs w1 := by
  unfold aLst; simp only [okE_bind]; congr; funext xs w1; split <;> simp [*]
@[simp] theorem okE_call {F : DF} : okE (eCall n F As s w) Q = okE (As s w) fun ds w1 => ds.length = n ∧ okE (F ds w1) Q := by
  unfold eCall; simp only [okE_bind]; congr; funext xs w1; split <;> simp [*]
@[simp] theorem okE_callK {F : DF} {m : Nat} {π : List Nat} : okE (eCallK m n k π F As Bs s w) Q = okE (As s w) fun ds w1 => okE (Bs s w1) fun zs w2 => (ds.length = n ∧ zs.length = k ∧ (permute π (ds ++ zs)).length = m) ∧ okE (F (permute π (ds ++ zs)) w2) Q := by
  unfold eCallK; simp only [okE_bind]; congr; funext xs w1; congr; funext ys w2; split <;> simp [*]
@[simp] theorem okE_if : okE (eIf T A B s w) Q = okE (T s w) fun k w1 => if k = true then okE (A s w1) Q else okE (B s w1) Q := by
  unfold eIf; simp only [okE_bind]; congr; funext k w1; cases k <;> rfl
@[simp] theorem okE_and : okE (eAnd A B s w) Q = okE (A s w) fun x w1 => okB x fun k => if k = true then okE (B s w1) Q else Q (.bl false) w1 := by
  unfold eAnd; simp only [okE_bind]; congr; funext x w1; cases x <;> try rfl
  rename_i b; cases b <;> rfl
@[simp] theorem okE_or : okE (eOr A B s w) Q = okE (A s w) fun x w1 => okB x fun k => if k = true then Q (.bl true) w1 else okE (B s w1) Q := by
  unfold eOr; simp only [okE_bind]; congr; funext x w1; cases x <;> try rfl
  rename_i b; cases b <;> rfl
@[simp] theorem okE_not : okE (eNot A s w) Q = okE (A s w) fun x w1 => okB x fun k => Q (.bl (!k)) w1 := by
  unfold eNot; simp only [okE_bind]; congr; funext x w1; cases x <;> rfl
@[simp] theorem okE_chain : okE (eChain f g A B C s w) Q = okE (A s w) fun x w1 => okE (B s w1) fun y w2 => okO (f w2 x y) fun z => okB z fun k => if k = true then okE (C s w2) fun u w4 => okO (g w4 y u) fun v => Q v w4 else Q (.bl false) w2 := by
  unfold eChain; simp only [okE_bind, okE_opt]; congr; funext x w1; congr; funext y w2; congr; funext z; cases z <;> try rfl
  rename_i b; cases b
  · rfl
  · simp only [okE_bind, okE_opt]; rfl
@[simp] theorem okT_e : okE (tE A s w) QT = okE (A s w) fun x w1 => okB x fun k => QT k w1 := by
  unfold tE; simp only [okE_bind]; congr; funext x w1; cases x <;> rfl
@[simp] theorem okT_an : okE (tAn S T s w) QT = okE (S s w) fun k w1 => if k = true then okE (T s w1) QT else QT false w1 := by
  unfold tAn; simp only [okE_bind]; congr; funext k w1; cases k <;> rfl
@[simp] theorem okT_on : okE (tOn S T s w) QT = okE (S s w) fun k w1 => if k = true then QT true w1 else okE (T s w1) QT := by
  unfold tOn; simp only [okE_bind]; congr; funext k w1; cases k <;> rfl
@[simp] theorem okT_no : okE (tNo S s w) QT = okE (S s w) fun k w1 => QT (!k) w1 := by unfold tNo; simp only [okE_bind, okE_ok]
@[simp] theorem okT_tr : okE (tTr A s w) QT = okE (A s w) fun x w1 => okO (truD x) fun k => QT k w1 := by unfold tTr; simp only [okE_bind, okE_opt]
@[simp] theorem okT_yes : okE (tYesD s w) QT = QT true w := rfl
@[simp] theorem okE_rev : okE (eRev A s w) Q = okE (A s w) fun x w1 => match x with
    | .lst xs => Q (.lst xs.reverse) w1
    | .tup xs => Q (.tup xs.reverse) w1
    | _ => False := by unfold eRev; simp only [okE_bind]; congr; funext x w1; cases x <;> rfl
@[simp] theorem okI_seq : okE (iSeq A s w) QA = okE (A s w) fun x w1 => okO (seqD x) fun p => QA p.2 w1 := by unfold iSeq; simp only [okE_bind]; congr; funext x w1; cases x <;> rfl
def rng1D : List D → Option (List D)
  | [.int j] => if -4611686018427387904 ≤ j ∧ j < 4611686018427387904 then some (upTo 0 j.toNat) else none
  | _ => none
def rng2D : List D → Option (List D)
  | [.int i, .int j] => if (-4611686018427387904 ≤ i ∧ i < 4611686018427387904) ∧ -4611686018427387904 ≤ j ∧ j < 4611686018427387904 then some (upTo i (j - i).toNat) else none
  | _ => none
def enm1D : List D → Option (List D)
  | [.lst ds] => some (enumD ds)
  | _ => none
def zip2D : List D → Option (List D)
  | [x, y] => (seqD x).bind fun p => (seqD y).bind fun q => some (zipD p.2 q.2)
  | [x, y, z] => (seqD x).bind fun p => (seqD y).bind fun q => (seqD z).bind fun r => some (zip3D p.2 q.2 r.2)
  | _ => none
@[simp] theorem okI_rng1 : okE (iRng1 As s w) QA = okE (As s w) fun xs w1 => okO (rng1D xs) fun ds => QA ds w1 := by
  unfold iRng1; simp only [okE_bind]; congr; funext xs w1
  rcases xs with _ | ⟨x, _ | ⟨y, xs⟩⟩ <;> try rfl
  · cases x <;> try rfl
    simp only [rng1D, okE_ite, okO_ite, okE_ok, okE_no, okO_some]
    split <;> simp [*]
  · cases x <;> rfl
@[simp] theorem okI_rng2 : okE (iRng2 As s w) QA = okE (As s w) fun xs w1 => okO (rng2D xs) fun ds => QA ds w1 := by
  unfold iRng2; simp only [okE_bind]; congr; funext xs w1
  rcases xs with _ | ⟨x, _ | ⟨y, _ | ⟨z, xs⟩⟩⟩ <;> try rfl
  · cases x <;> rfl
  · cases x <;> try rfl
    cases y <;> try rfl
    simp only [rng2D, okE_ite, okO_ite, okE_ok, okE_no, okO_some]
    split <;> simp [*]
  · cases x <;> try rfl
    cases y <;> rfl
@[simp] theorem okI_enum : okE (iEnum As s w) QA = okE (As s w) fun xs w1 => okO (enm1D xs) fun ds => QA ds w1 := by
  unfold iEnum; simp only [okE_bind]; congr; funext xs w1
  rcases xs with _ | ⟨x, _ | ⟨y, xs⟩⟩ <;> try rfl
  · cases x <;> rfl
  · cases x <;> rfl
@[simp] theorem okI_zip : okE (iZip As s w) QA = okE (As s w) fun xs w1 => okO (zip2D xs) fun ds => QA ds w1 := by
  unfold iZip; simp only [okE_bind]; congr; funext xs w1
  rcases xs with _ | ⟨x, _ | ⟨y, _ | ⟨z, _ | ⟨u, xs⟩⟩⟩⟩ <;> try rfl
  · show okE (match seqD x, seqD y with | some (_, ds), some (_, es) => R.ok (zipD ds es) w1 | _, _ => R.no) QA = okO ((seqD x).bind fun p => (seqD y).bind fun q => some (zipD p.2 q.2)) _
    cases seqD x <;> cases seqD y <;> rfl
  · show okE (match seqD x, seqD y, seqD z with | some (_, ds), some (_, es), some (_, fs) => R.ok (zip3D ds es fs) w1 | _, _, _ => R.no) QA = okO ((seqD x).bind fun p => (seqD y).bind fun q => (seqD z).bind fun r => some (zip3D p.2 q.2 r.2)) _
    cases seqD x <;> cases seqD y <;> cases seqD z <;> rfl
@[simp] theorem okE_lc {I : DI} {G : DG} {vs : List Nat} : okE (aLc I G T A vs s w) QA = okE (I s w) fun ds w1 => ds.length ≤ lim ∧ okE (lcD G T A ds (wipeS s vs) w1) QA := by
  unfold aLc; simp only [okE_bind]; congr; funext xs w1; split <;> simp [*]
/-! statements -/
def okS (r : RS) (N : Sl → Wl → Prop) (Z : D → Wl → Prop) : Prop := match r with
  | .nx s w => N s w
  | .rt d w => Z d w
  | _ => False
@[simp] theorem okS_nx : okS (.nx s w) N Z = N s w := rfl
@[simp] theorem okS_rt {d : D} : okS (.rt d w) N Z = Z d w := rfl
@[simp] theorem okS_no : okS .no N Z = False := rfl
@[simp] theorem okS_sNx : okS (sNx s w) N Z = N s w := rfl
@[simp] theorem okS_never : okS (sNever s w) N Z = False := rfl
@[simp] theorem okS_seq : okS (sSeq U V s w) N Z = okS (U s w) (fun s1 w1 => okS (V s1 w1) N Z) Z := by unfold sSeq; cases U s w <;> rfl
@[simp] theorem okS_asg : okS (sAsg i A s w) N Z = okE (A s w) fun d w1 => N (s.set i (some d)) w1 := by unfold sAsg; cases A s w <;> rfl
@[simp] theorem okS_new : okS (sNew i As s w) N Z = okE (As s w) fun d w1 => N (s.set i (some (.own d))) w1 := by unfold sNew; cases As s w <;> rfl
@[simp] theorem okS_tg {G : DG} : okS (sTg G A s w) N Z = okE (A s w) fun d w1 => okO (G d s) fun s1 => N s1 w1 := by
  unfold sTg
  cases A s w with
  | ok d w1 => simp only [okE_ok]; cases G d s <;> rfl
  | er _ _ => rfl
  | no => rfl
@[simp] theorem okS_drop : okS (sDrop A s w) N Z = okE (A s w) fun _ w1 => N s w1 := by unfold sDrop; cases A s w <;> rfl
@[simp] theorem okS_if : okS (sIf T U V s w) N Z = okE (T s w) fun k w1 => if k = true then okS (U s w1) N Z else okS (V s w1) N Z := by
  unfold sIf
  cases T s w with
  | ok k w1 => cases k <;> rfl
  | er _ _ => rfl
  | no => rfl
@[simp] theorem okS_ret : okS (sRet A s w) N Z = okE (A s w) Z := by unfold sRet; cases A s w <;> rfl
def okOwn (o : Option (Option D)) (P : List D → Prop) : Prop := match o with
  | some (some (.own xs)) => P xs
  | _ => False
@[simp] theorem okOwn_own {xs : List D} {P : List D → Prop} : okOwn (some (some (.own xs))) P = P xs := rfl
@[simp] theorem okS_app : okS (sApp i A s w) N Z = okOwn s[i]? fun xs => okE (A s w) fun d w1 => xs.length < lim ∧ N (s.set i (some (.own (xs ++ [d])))) w1 := by
  unfold sApp
  cases h : s[i]? with
  | none => rfl
  | some o =>
    cases o with
    | none => rfl
    | some d =>
      cases d <;> try rfl
      rename_i xs
      simp only [okOwn_own]
      cases A s w with
      | ok d w1 => simp only [okE_ok]; split <;> simp [*]
      | er _ _ => rfl
      | no => rfl
@[simp] theorem okS_frz : okS (sFrz i U s w) N Z = okS (U (frzS i s) w) N Z := rfl
@[simp] theorem okS_setW : okS (sSetW A B C s w) N Z = okE (C s w) fun d w1 => okE (A s w1) fun x w2 => okE (B s w2) fun k w3 => match d, x, k with
    | .int z, .well, .int k => okO (setW w3 k z) fun w4 => N s w4
    | _, _, _ => False := by
  unfold sSetW
  cases C s w with
  | er _ _ => rfl
  | no => rfl
  | ok d w1 =>
    simp only [R.bind_ok, okE_ok]
    cases A s w1 with
    | er _ _ => rfl
    | no => rfl
    | ok x w2 =>
      simp only [R.bind_ok, okE_ok]
      cases B s w2 with
      | er _ _ => rfl
      | no => rfl
      | ok k w3 =>
        simp only [R.bind_ok, okE_ok]
        cases d <;> try rfl
        cases x <;> try rfl
        cases k <;> try rfl
        rename_i z k
        cases h : setW w3 k z <;> simp [h] <;> rfl
@[simp] theorem okE_mval : okE (mVal A As s w) QA = okE (A s w) fun x w1 => okE (As s w1) fun xs w2 => QA (x :: xs) w2 := by unfold mVal; simp only [okE_bind, okE_ok]
@[simp] theorem okE_mown : okE (mOwn Bs As s w) QA = okE (Bs s w) fun x w1 => okE (As s w1) fun xs w2 => QA (.own x :: xs) w2 := by unfold mOwn; simp only [okE_bind, okE_ok]
@[simp] theorem okS_mul {is : List Nat} : okS (sMul is As s w) N Z = okE (As s w) fun ds w1 => okO (putS s is ds) fun s1 => N s1 w1 := by
  unfold sMul
  cases As s w with
  | ok d w1 => simp only [okE_ok]; cases putS s is d <;> rfl
  | er _ _ => rfl
  | no => rfl
@[simp] theorem okS_for {I : DI} {G : DG} : okS (sFor I G U s w) N Z = okE (I s w) fun ds w1 => okS (loopD G U ds s w1) N Z := by unfold sFor; cases I s w <;> rfl
theorem okS_mono {r : RS} (h : okS r N Z) (i : ∀ s w, N s w → N' s w) (j : ∀ d w, Z d w → Z' d w) : okS r N' Z' := by
  cases r with
  | nx s w => exact i _ _ h
  | rt d w => exact j _ _ h
  | _ => exact h
theorem okE_run {B : DS} {ds : List D} : okE (runB n k B ds w) Q = (ds.length = k ∧ okS (B (ds.map some ++ List.replicate (n - k) none) w) (fun _ w1 => Q .non w1) Q) := by
  unfold runB
  by_cases h : ds.length = k
  · rw [if_pos h]
    simp only [h, true_and]
    cases B (ds.map some ++ List.replicate (n - k) none) w <;> rfl
  · rw [if_neg h]
    simp [h]
/-- a comprehension, element by element -/
theorem lc_map {γ : Type} {G : DG} (g f : γ → D) (p : γ → Bool) {s : Sl} {w : Wl} : ∀ {xs : List γ}, (∀ x ∈ xs, okO (G (g x) s) fun s1 => T s1 w = .ok (p x) w ∧ (p x = true → A s1 w = .ok (f x) w)) → lcD G T A (xs.map g) s w = .ok ((xs.filter p).map f) w
  | [], _ => rfl
  | x :: xs, h => by
    have h1 := h x List.mem_cons_self
    have ih := lc_map g f p (xs := xs) fun y hy => h y (List.mem_cons_of_mem _ hy)
    rw [List.map_cons]
    unfold lcD
    cases e : G (g x) s with
    | none => rw [e] at h1; exact h1.elim
    | some s1 =>
      rw [e] at h1
      obtain ⟨h2, h3⟩ := h1
      simp only [h2, R.noer_ok, R.bind_ok]
      by_cases hp : p x = true
      · rw [if_pos hp, h3 hp, List.filter_cons_of_pos hp]
        simp [ih]
      · rw [if_neg hp, List.filter_cons_of_neg hp]
        exact ih
/-- .. no condition -/
theorem lc_all {γ : Type} {G : DG} (g f : γ → D) {s : Sl} {w : Wl} {xs : List γ} (h : ∀ x ∈ xs, okO (G (g x) s) fun s1 => okE (A s1 w) fun d w1 => d = f x ∧ w1 = w) : lcD G tYesD A (xs.map g) s w = .ok (xs.map f) w := by
  have := lc_map (T := tYesD) (A := A) (G := G) g f (fun _ => true) (s := s) (w := w) (xs := xs) fun x hx => by
    have h1 := h x hx
    cases e : G (g x) s with
    | none => rw [e] at h1; exact h1.elim
    | some s1 =>
      rw [e] at h1
      exact ⟨rfl, fun _ => okE_eq h1⟩
  rw [List.filter_eq_self.mpr (by simp)] at this
  exact this
theorem okE_lcall {γ : Type} {G : DG} (g f : γ → D) {s : Sl} {w : Wl} {xs : List γ} {Q : List D → Wl → Prop} (h : ∀ x ∈ xs, okO (G (g x) s) fun s1 => okE (A s1 w) fun d w1 => d = f x ∧ w1 = w) (q : Q (xs.map f) w) : okE (lcD G tYesD A (xs.map g) s w) Q := by
  rw [lc_all g f h]
  exact q
/-- a loop by its invariant -/
theorem okS_loop {G : DG} (I : Nat → Sl → Wl → Prop) : ∀ {ds : List D} {s : Sl} {w : Wl} (m : Nat), I m s w → (∀ i d s w, ds[i]? = some d → I (m + i) s w → okO (G d s) fun s1 => okS (U s1 w) (I (m + i + 1)) Z) → (∀ s w, I (m + ds.length) s w → N s w) → okS (loopD G U ds s w) N Z
  | [], s, w, m, h0, _, he => he s w h0
  | d :: ds, s, w, m, h0, hs, he => by
    have h1 := hs 0 d s w rfl h0
    unfold loopD
    cases e : G d s with
    | none => rw [e] at h1; exact h1.elim
    | some s1 =>
      rw [e] at h1
      simp only [okO_some] at h1
      dsimp only
      cases e2 : U s1 w with
      | nx s2 w2 =>
        rw [e2] at h1
        exact okS_loop I (m + 1) h1 (fun i d' s' w' hd hI => by
          have := hs (i + 1) d' s' w' (by simpa using hd) (by rw [show m + (i + 1) = m + 1 + i by omega]; exact hI)
          rw [show m + (i + 1) + 1 = m + 1 + i + 1 by omega] at this
          exact this) (fun s' w' hI => he s' w' (by rw [List.length_cons, show m + (ds.length + 1) = m + 1 + ds.length by omega]; exact hI))
      | rt d' w2 => rw [e2] at h1; exact h1
      | bk _ _ => rw [e2] at h1; exact h1.elim
      | ct _ _ => rw [e2] at h1; exact h1.elim
      | er _ _ _ => rw [e2] at h1; exact h1.elim
      | no => rw [e2] at h1; exact h1.elim
theorem okS_loop0 {G : DG} (I : Nat → Sl → Wl → Prop) {ds : List D} {s : Sl} {w : Wl} (h0 : I 0 s w) (hs : ∀ i d s w, ds[i]? = some d → I i s w → okO (G d s) fun s1 => okS (U s1 w) (I (i + 1)) Z) (he : ∀ s w, I ds.length s w → N s w) : okS (loopD G U ds s w) N Z :=
  okS_loop I 0 h0 (fun i d s w hd hI => by
    rw [Nat.zero_add] at hI ⊢
    exact hs i d s w hd hI) (fun s w hI => he s w (by rw [Nat.zero_add] at hI; exact hI))
end
end DL

set_option maxHeartbeats 2000000
namespace DL
open PySem PySem.Spec PyProof.Rows L2
variable [TabT] [OldT]
open Evl (Ex)
/-! ### new lists that defs tell -/
section
variable {X : Cx} {mg : Str → Option Value} {W : WX} {e a b : Expr} {pos : Pos} {A B E : DE} {As : DA} {σ : L2.St} {H : Hp} {st : Stmt}
/-- a new list, known as such -/
def eNL (A : DA) : DE := fun s w => (A s w).bind fun ds w1 => .ok (.nl ds) w1
theorem eNL_ok {Q : VK} (h : lE mg W (eNL As) σ H Q) : lfL mg W As σ H Q := by
  obtain ⟨wa, Hf, sD, w, hb, hs, h⟩ := h
  refine ⟨wa, Hf, sD, w, hb, hs, ?_⟩
  unfold eNL at h
  cases ea : As sD w with
  | ok ds w1 =>
    rw [ea] at h
    intro H1 Hf1 g1 b1 p vs n e1 e2 e3 rv
    have ex : Ex Hf1 (upd Hf1 p (.lst vs)) := Ex.new e2
    have g2 : Go wa H Hf H1 (upd Hf1 p (.lst vs)) := ⟨g1.keepN, g1.ex.trans ex, fun a o t h => by rw [upd_ne (ne_of_fr h t.1 n)]; exact g1.newN a o t h, g1.thereN⟩
    have b2 : Base wa (upd Hf1 p (.lst vs)) H1 w1 := ⟨fun a u h => by
      by_cases hp : a = p
      · subst hp; rw [upd_same] at h; rw [← h]; exact e1
      · rw [upd_ne hp] at h; exact b1.ex a u h, b1.well, by rw [upd_ne (Ne.symm e3)]; exact b1.nw, b1.tb, nt_upd b1.nt nt_lst, b1.od.trans ex⟩
    have po : OldT.old p = none := Evl.fresh_back b1.od e2
    exact h H1 _ g2 b2 (.ref p) (.nl upd_same po (rv.mono ex))
  | er x w1 => rw [ea] at h; exact h
  | no => rw [ea] at h; exact h
theorem pd_NL (h : PE X e (lfL mg W As)) : PE X e (lE mg W (eNL As)) := weakE h fun _ _ _ q => eNL_ok q
/-- the same, that it is new is forgotten -/
def eWk (E : DE) : DE := fun s w => match E s w with
  | .ok (.nl xs) w1 => .ok (.lst xs) w1
  | r => r
theorem pd_wk (h : PE X e (lE mg W E)) : PE X e (lE mg W (eWk E)) := weakE h fun σ H Q q => by
  obtain ⟨wa, Hf, sD, w, hb, hs, q⟩ := q
  refine ⟨wa, Hf, sD, w, hb, hs, ?_⟩
  unfold eWk at q
  cases e : E sD w with
  | ok d w1 =>
    rw [e] at q
    cases d with
    | nl xs => exact fun H1 Hf1 g b v rv => q H1 Hf1 g b v (by cases rv with | nl h1 o r => exact .lst h1 r)
    | _ => exact q
  | er x w1 => rw [e] at q; exact q
  | no => rw [e] at q; exact q
/-- a list, or a new one -/
def lst? : D → Option (List D)
  | .lst xs => some xs
  | .nl xs => some xs
  | _ => none
theorem lst?_rep {wa : Addr} {Hf : Hp} {v : V} {d : D} {xs : List D} (r : Rep wa Hf v d) (h : lst? d = some xs) : ∃ p vs, v = .ref p ∧ Hf p = some (.lst vs) ∧ Reps wa Hf vs xs := by
  cases d with
  | lst ys => cases h; cases r with | lst h1 r1 => exact ⟨_, _, rfl, h1, r1⟩
  | nl ys => cases h; cases r with | nl h1 o r1 => exact ⟨_, _, rfl, h1, r1⟩
  | _ => cases h
def aCat (A B : DE) : DA := fun s w => (A s w).bind fun x w1 => (B s w1).bind fun y w2 => match lst? x, lst? y with
  | some xs, some ys => if xs.length + ys.length ≤ lim then .ok (xs ++ ys) w2 else .no
  | _, _ => .no
theorem pl_cat (ha : PE X a (lE mg W A)) (hb : PE X b (lE mg W B)) : PE X (.BinOp a .Add b pos) (lfL mg W (aCat A B)) := weakE (pe_op op_cat ha hb) fun σ H Q h => by
  obtain ⟨wa, Hf, sD, w, hb, hs, h⟩ := h
  refine ⟨wa, Hf, sD, w, hb, hs, h.bind.mono (fun x w1 H1 Hf1 g1 b1 q v rv => ?_) (fun _ _ _ _ _ _ q => q)⟩
  refine ⟨wa, Hf1, sD, w1, b1, hs.go g1, q.bind.mono (fun y w2 H2 Hf2 g2 b2 q2 v2 rv2 => ?_) (fun _ _ _ _ _ _ q => q)⟩
  split at q2
  · rename_i xs ys hx hy
    split at q2
    · rename_i hz
      obtain ⟨p, vs, rfl, h1, r1⟩ := lst?_rep rv hx
      obtain ⟨p2, vs2, rfl, h2, r2⟩ := lst?_rep rv2 hy
      have r1' := r1.mono g2.ex
      refine ⟨p, p2, vs, vs2, rfl, rfl, b2.ex _ _ (g2.ex _ _ h1), b2.ex _ _ h2, by rw [r1.length, r2.length]; exact lim_le hz, fun q hq => ?_⟩
      exact q2 _ _ (Go.new1 hq) (b2.new1 hq) q _ ((g1.trans g2).free hq) upd_same (Evl.fresh_back b2.ex hq) (fun z => by rw [z, b2.well] at hq; cases hq) (r1'.append r2)
    · exact q2.elim
  · exact q2.elim
end
mutual
def nlFree : D → Bool
  | .nl _ => false
  | .own _ => false
  | .dct _ _ => false
  | .dcf _ ds => nlFrees ds
  | .lst ds => nlFrees ds
  | .tup ds => nlFrees ds
  | _ => true
def nlFrees : List D → Bool
  | [] => true
  | d :: r => nlFree d && nlFrees r
end
def nlFreeO : Option D → Bool
  | some (.own ds) => nlFrees ds
  | some (.dct _ ds) => nlFrees ds
  | some d => nlFree d
  | none => true
section
variable {h' : Hp} {wa : Addr} {Hf H : Hp}
mutual
theorem Rep.turn : ∀ {v : V} {d : D}, Rep wa Hf v d → nlFree d = true → @Rep ⟨h'⟩ wa Hf v d
  | _, _, .non, _ => @Rep.non ⟨h'⟩ wa Hf
  | _, _, .bl b, _ => @Rep.bl ⟨h'⟩ wa Hf b
  | _, _, .int b, _ => @Rep.int ⟨h'⟩ wa Hf b
  | _, _, .str b, _ => @Rep.str ⟨h'⟩ wa Hf b
  | _, _, .lst h r, n => @Rep.lst ⟨h'⟩ wa Hf _ _ _ h (Reps.turn r (by simpa [nlFree] using n))
  | _, _, .tup h r, n => @Rep.tup ⟨h'⟩ wa Hf _ _ _ h (Reps.turn r (by simpa [nlFree] using n))
  | _, _, .well, _ => @Rep.well ⟨h'⟩ wa Hf
  | _, _, .ref a, _ => @Rep.ref ⟨h'⟩ wa Hf a
  | _, _, .ty a, _ => @Rep.ty ⟨h'⟩ wa Hf a
  | _, _, .nl _ _ _, n => by simp [nlFree] at n
  | _, _, .dft h k r, n => @Rep.dft ⟨h'⟩ wa Hf _ _ _ _ _ h k (Reps.turn r (by simpa [nlFree] using n))
  | _, _, .dfk h k r, n => @Rep.dfk ⟨h'⟩ wa Hf _ _ _ _ _ h k (Reps.turn r (by simpa [nlFree] using n))
theorem Reps.turn : ∀ {vs : List V} {ds : List D}, Reps wa Hf vs ds → nlFrees ds = true → @Reps ⟨h'⟩ wa Hf vs ds
  | _, _, .nil, _ => @Reps.nil ⟨h'⟩ wa Hf
  | _, _, .cons h r, n => by
    have n' := n
    simp only [nlFrees, Bool.and_eq_true] at n'
    exact @Reps.cons ⟨h'⟩ wa Hf _ _ _ _ (Rep.turn h n'.1) (Reps.turn r n'.2)
end
theorem Slots.turn {σ : L2.St} {s : Sl} (x : Slots wa Hf H σ s) (h : s.all nlFreeO = true) : @Slots ⟨h'⟩ wa Hf H σ s := by
  refine @Slots.mk ⟨h'⟩ wa Hf H σ s x.len (fun i d e n => ?_) (fun i xs e => ?_) (fun i ks xs e => ?_) fun i j xs ys p e1 n1 e2 n2 e3 e4 => x.inj i j xs ys p e1 n1 e2 n2 e3 e4
  · obtain ⟨v, h1, h2⟩ := x.val i d e n
    have h3 := List.all_eq_true.mp h _ (List.mem_of_getElem? e)
    have h4 : nlFree d = true := by
      cases d <;> first | exact h3 | exact absurd isO_own n | exact absurd isO_dct n
    exact ⟨v, h1, h2.turn h4⟩
  · obtain ⟨p, vs, h1, h2, h3, h4, h5⟩ := x.own i xs e
    have h6 := List.all_eq_true.mp h _ (List.mem_of_getElem? e)
    exact ⟨p, vs, h1, h2, h3, h4, h5.turn h6⟩
  · obtain ⟨p, o, h1, h2, h3, h4, h5⟩ := x.dic i ks xs e
    have h6 := List.all_eq_true.mp h _ (List.mem_of_getElem? e)
    refine ⟨p, o, h1, h2, h3, h4, ?_⟩
    cases h5 with
    | t k r => exact @DicR.t ⟨h'⟩ _ _ _ _ _ k (r.turn h6)
    | k k r => exact @DicR.k ⟨h'⟩ _ _ _ _ _ k (r.turn h6)
end
/-- what may stand in a told list: a tuple of ints -/
def plainT : D → Bool
  | .tup ds => (ints? ds).isSome
  | .int _ => true
  | _ => false
theorem ints_stay {o o' : OldT} {wa : Addr} {Hf Hf' : Hp} : ∀ {ns : List Int} {vs : List V}, @Reps o wa Hf vs (ns.map D.int) → @Reps o' wa Hf' vs (ns.map D.int) := by
  intro ns
  induction ns with
  | nil => intro vs h; cases h; exact @Reps.nil o' wa Hf'
  | cons n ns ih =>
    intro vs h
    cases h with
    | cons r rs => exact @Reps.cons o' wa Hf' _ _ _ _ (by cases r; exact @Rep.int o' wa Hf' n) (ih rs)
/-- without one address -/
def delH (Hf : Hp) (p : Addr) : Hp := fun a => if a = p then none else Hf a
theorem delH_same {Hf : Hp} {p : Addr} : delH Hf p p = none := by unfold delH; rw [if_pos rfl]
theorem delH_ne {Hf : Hp} {p a : Addr} (h : a ≠ p) : delH Hf p a = Hf a := by unfold delH; rw [if_neg h]
theorem plain_stay {o o' : OldT} {wa p : Addr} {Hf Hf' : Hp} {us : List V} (hp : Hf p = some (.lst us)) (k : ∀ a u, a ≠ p → Hf a = some u → Hf' a = some u) : ∀ {ds : List D} {vs : List V}, ds.all plainT = true → @Reps o wa Hf vs ds → @Reps o' wa Hf' vs ds := by
  intro ds
  induction ds with
  | nil => intro vs _ h; cases h; exact @Reps.nil o' wa Hf'
  | cons d ds ih =>
    intro vs h hr
    cases hr with
    | cons r rs =>
      rw [List.all_cons, Bool.and_eq_true] at h
      refine @Reps.cons o' wa Hf' _ _ _ _ ?_ (ih h.2 rs)
      cases d with
      | tup ys =>
        have h1 : (ints? ys).isSome = true := h.1
        cases e : ints? ys with
        | none => rw [e] at h1; cases h1
        | some ns =>
          have := ints?_some e
          subst this
          cases r with
          | tup ht rt =>
            refine @Rep.tup o' wa Hf' _ _ _ (k _ _ (fun z => ?_) ht) (ints_stay rt)
            rw [z, hp] at ht
            cases ht
      | int n => cases r; exact @Rep.int o' wa Hf' n
      | _ => exact absurd h.1 (by simp [plainT])
section
variable {X : Cx} {mg : Str → Option Value} {W : WX} {e : Expr} {E : DE} {st : Stmt}
/-- what a def tells as a new list: such a one -/
def aNew (E : DE) : DA := fun s w => if s.all nlFreeO = true then match E s w with
  | .ok (.nl xs) w1 => if xs.all plainT = true then .ok xs w1 else .no
  | _ => .no
  else .no
theorem pl_new (h : ∀ o : OldT, PE X e (@lE _ o mg W E)) : PE X e (lfL mg W (aNew E)) := by
  refine weakE (⟨fun pins s σ H Q I ⟨o, q⟩ => (h o).run pins s σ H Q I q⟩ : PE X e fun σ H Q => ∃ o : OldT, @lE _ o mg W E σ H Q) fun σ H Q q => ?_
  obtain ⟨wa, Hf, sD, w, hb, hs, q⟩ := q
  unfold aNew at q
  split at q
  · rename_i hfree
    refine ⟨⟨Hf⟩, wa, Hf, sD, w, @Base.mk _ ⟨Hf⟩ wa Hf H w hb.ex hb.well hb.nw hb.tb hb.nt (Ex.refl _), hs.turn hfree, ?_⟩
    split at q
    · rename_i xs w1 e1
      split at q
      · rename_i hpl
        rw [e1]
        intro H1 Hf1 g1 b1 v rv
        obtain ⟨bex, bwell, bnw, btb, bnt, _⟩ := b1
        obtain ⟨p, vs, rfl, h1, ho, r1⟩ : ∃ p vs, v = V.ref p ∧ Hf1 p = some (.lst vs) ∧ Hf p = none ∧ @Reps ⟨Hf⟩ wa Hf1 vs xs := by
          cases rv with
          | nl h1 o r1 => exact ⟨_, _, rfl, h1, o, r1⟩
        have hpw : p ≠ wa := fun z => by rw [z, bnw] at h1; cases h1
        have hHp : Fr H p := fun o e2 t => by
          have hk := g1.keepN p o hpw t e2
          rw [bex _ _ h1] at hk
          cases hk
          have := g1.newN p _ nu_lst e2
          rw [h1, ho] at this
          cases this
        have ex' : Ex Hf (delH Hf1 p) := fun a u ha => by
          have : a ≠ p := fun z => by rw [z, ho] at ha; cases ha
          rw [delH_ne this]
          exact g1.ex a u ha
        have go : Go wa H Hf H1 (delH Hf1 p) := ⟨g1.keepN, ex', fun a o t ha => by
          have : a ≠ p := fun z => by rw [z] at ha; exact hHp o ha t.1
          rw [delH_ne this]
          exact g1.newN a o t ha, g1.thereN⟩
        have b' : Base wa (delH Hf1 p) H1 w1 := ⟨fun a u ha => by
          by_cases hp : a = p
          · subst hp; rw [delH_same] at ha; cases ha
          · rw [delH_ne hp] at ha; exact bex a u ha, bwell, by rw [delH_ne (Ne.symm hpw)]; exact bnw, btb, fun a u ha => by
          by_cases hp : a = p
          · subst hp; rw [delH_same] at ha; cases ha
          · rw [delH_ne hp] at ha; exact bnt a u ha, hb.od.trans ex'⟩
        exact q H1 _ go b' p vs hHp (bex _ _ h1) (delH_same) hpw (plain_stay h1 (fun a u n ha => by rw [delH_ne n]; exact ha) hpl r1)
      · exact q.elim
    · exact q.elim
  · exact q.elim
/-- x.clear() -/
def sClr (i : Nat) : DS := fun s w => match s[i]? with
  | some (some (.own _)) => .nx (s.set i (some (.own []))) w
  | _ => .no
theorem sd_clr {i : Nat} (h : PS X st (tDrop (tBM0 X.K "list" rClear (tVar i)))) : PS X st (lS mg W (sClr i)) := weakS h fun D σ H h => by
  obtain ⟨wa, Hf, sD, w, H0, Hf0, g, b, hs, ho, h⟩ := h
  unfold sClr at h
  split at h
  · rename_i xs hi
    obtain ⟨p, vs, k1, k2, k3, k4, k5⟩ := hs.own i xs hi
    refine ⟨.ref p, k1, .inl ⟨rfl, vs, SqL.of k2⟩, p, vs, rfl, rfl, k2, ?_⟩
    have h0 : Fr H0 p := ho i _ p hi isO_own k1
    refine h σ _ Hf (g.appF h0) (Ex.refl _) (b.appL k3 k4 k2) (hs.write hi k1 .nil) (ho.sub fun j ye hj io => ?_)
    by_cases hji : j = i
    · subst hji
      exact ⟨_, hi, isO_own⟩
    · rw [List.getElem?_set_ne (Ne.symm hji)] at hj
      exact ⟨ye, hj, io⟩
  · exact h.elim
end
@[simp] theorem okE_nl {A : DA} {s : Sl} {w : Wl} {Q : D → Wl → Prop} : okE (eNL A s w) Q = okE (A s w) fun x w1 => Q (.nl x) w1 := by unfold eNL; cases A s w <;> rfl
@[simp] theorem okE_aCat {A B : DE} {s : Sl} {w : Wl} {Q : List D → Wl → Prop} : okE (aCat A B s w) Q = okE (A s w) fun x w1 => okE (B s w1) fun y w2 => match lst? x, lst? y with
    | some xs, some ys => xs.length + ys.length ≤ lim ∧ Q (xs ++ ys) w2
    | _, _ => False := by
  unfold aCat
  simp only [okE_bind]
  congr; funext x w1; congr; funext y w2
  cases lst? x <;> cases lst? y <;> try rfl
  rename_i xs ys
  show okE (if xs.length + ys.length ≤ lim then R.ok (xs ++ ys) w2 else .no) Q = _
  by_cases h : xs.length + ys.length ≤ lim
  · rw [if_pos h]; simp [okE, h]
  · rw [if_neg h]; simp [okE, h]
theorem wk_ok {E : DE} {s : Sl} {w w1 : Wl} {xs : List D} (h : E s w = .ok (.nl xs) w1) : eWk E s w = .ok (.lst xs) w1 := by unfold eWk; rw [h]
@[simp] theorem okS_clr {i : Nat} {s : Sl} {w : Wl} {N : Sl → Wl → Prop} {Z : D → Wl → Prop} : okS (sClr i s w) N Z = match s[i]? with
    | some (some (.own _)) => N (s.set i (some (.own []))) w
    | _ => False := by unfold sClr; split <;> rfl
end DL

set_option maxHeartbeats 2000000
namespace DL
open PySem PySem.Spec PyProof.Rows L2
variable [TabT] [OldT]
open Evl (Ex)
/-! ### an own list is lent to an expression, and is own again behind it -/
def kindD : D → Nat
  | .int _ => 1
  | .bl _ => 2
  | .str _ => 3
  | .non => 4
  | .lst _ => 5
  | .tup _ => 6
  | _ => 0
mutual
/-- nowhere in it a list whose first item is of this kind -/
def avoidD (k : Nat) : D → Bool
  | .lst ds => (match ds with
    | [] => true
    | y :: _ => kindD y != 0 && kindD y != k) && avoidDs k ds
  | .tup ds => avoidDs k ds
  | .nl _ => false
  | .dcf _ _ => false
  | _ => true
def avoidDs (k : Nat) : List D → Bool
  | [] => true
  | d :: ds => avoidD k d && avoidDs k ds
end
section
variable {wa : Addr} {Hf Hf' H H' : Hp} {p : Addr}
theorem kind_uniq {v : V} {d d' : D} (r : Rep wa Hf v d) (r' : Rep wa Hf v d') (h : kindD d ≠ 0) (h' : kindD d' ≠ 0) : kindD d = kindD d' := by
  cases r with
  | non => cases r' <;> first | rfl | exact absurd rfl h'
  | bl b => cases r' <;> first | rfl | exact absurd rfl h'
  | int b => cases r' <;> first | rfl | exact absurd rfl h'
  | str b => cases r' <;> first | rfl | exact absurd rfl h'
  | lst h1 r1 =>
    cases r' with
    | lst h2 r2 => rfl
    | tup h2 r2 => rw [h1] at h2; cases h2
    | _ => exact absurd rfl h'
  | tup h1 r1 =>
    cases r' with
    | lst h2 r2 => rw [h1] at h2; cases h2
    | tup h2 r2 => rfl
    | _ => exact absurd rfl h'
  | _ => exact absurd rfl h
mutual
theorem Rep.del {v0 : V} {vs : List V} {y : D} (hp : Hf p = some (.lst (v0 :: vs))) (r0 : Rep wa Hf v0 y) (k0 : kindD y ≠ 0) : ∀ {v : V} {d : D}, Rep wa Hf v d → avoidD (kindD y) d = true → Rep wa (delH Hf p) v d
  | _, _, .non, _ => .non
  | _, _, .bl b, _ => .bl b
  | _, _, .int b, _ => .int b
  | _, _, .str b, _ => .str b
  | _, _, .well, _ => .well
  | _, _, .ref a, _ => .ref a
  | _, _, .ty a, _ => .ty a
  | _, .tup ds, .tup (a := a) h r, c => by
    have hne : a ≠ p := fun e => by rw [e, hp] at h; cases h
    exact .tup ((delH_ne hne).trans h) (Reps.del hp r0 k0 r c)
  | _, .nl ds, .nl (a := a) h o r, c => by cases c
  | _, .dcf _ _, .dft _ _ _, c => by cases c
  | _, .dcf _ _, .dfk _ _ _, c => by cases c
  | _, .lst ds, .lst (a := a) h r, c => by
    unfold avoidD at c
    rw [Bool.and_eq_true] at c
    by_cases hne : a = p
    · exfalso
      rw [hne, hp] at h
      cases h
      cases r with
      | cons r1 r2 =>
        have c1 := c.1
        simp only [Bool.and_eq_true, bne_iff_ne, ne_eq] at c1
        exact c1.2 (kind_uniq r1 r0 c1.1 k0)
    · exact .lst ((delH_ne hne).trans h) (Reps.del hp r0 k0 r c.2)
theorem Reps.del {v0 : V} {vs : List V} {y : D} (hp : Hf p = some (.lst (v0 :: vs))) (r0 : Rep wa Hf v0 y) (k0 : kindD y ≠ 0) : ∀ {us : List V} {ds : List D}, Reps wa Hf us ds → avoidDs (kindD y) ds = true → Reps wa (delH Hf p) us ds
  | _, _, .nil, _ => .nil
  | _, d :: ds, .cons h r, c => by
    unfold avoidDs at c
    rw [Bool.and_eq_true] at c
    exact .cons (Rep.del hp r0 k0 h c.1) (Reps.del hp r0 k0 r c.2)
end
/-- back to before, the lent list being own -/
theorem lent_back {w1 : Wl} {vs : List V} (b : Base wa Hf H w1) (k3 : Hf p = none) (k4 : p ≠ wa) {w2 : Wl} (g : Go wa H (upd Hf p (.lst vs)) H' Hf') (b' : Base wa Hf' H' w2) : Go wa H Hf H' (delH Hf' p) ∧ Base wa (delH Hf' p) H' w2 :=
  ⟨⟨g.keepN, fun a o e => by
      have hne : a ≠ p := fun z => by rw [z, k3] at e; cases e
      rw [delH_ne hne]
      exact g.ex a o (by rw [upd_ne hne]; exact e), fun a o t e => by
      by_cases ha : a = p
      · subst ha; rw [delH_same, k3]
      · rw [delH_ne ha, g.newN a o t e, upd_ne ha], g.thereN⟩,
   ⟨fun a o e => by
      by_cases ha : a = p
      · subst ha; rw [delH_same] at e; cases e
      · rw [delH_ne ha] at e; exact b'.ex a o e, b'.well, by rw [delH_ne (Ne.symm k4)]; exact b'.nw, b'.tb, fun a o e => by
      by_cases ha : a = p
      · subst ha; rw [delH_same] at e; cases e
      · rw [delH_ne ha] at e; exact b'.nt a o e, fun a o e => by
      have hne : a ≠ p := fun z => by rw [z, Evl.fresh_back b.od k3] at e; cases e
      rw [delH_ne hne]; exact b'.od a o e⟩⟩
theorem frz_base {w : Wl} {vs : List V} (b : Base wa Hf H w) (k3 : Hf p = none) (k2 : H p = some (.lst vs)) (k4 : p ≠ wa) : Base wa (upd Hf p (.lst vs)) H w :=
  ⟨fun a u q => by
    by_cases ha : a = p
    · subst ha; rw [upd_same] at q; rw [← q]; exact k2
    · rw [upd_ne ha] at q; exact b.ex a u q, b.well, by rw [upd_ne (Ne.symm k4)]; exact b.nw, b.tb, nt_upd b.nt nt_lst, b.od.trans (Ex.new k3)⟩
end
def lendE (i : Nat) (E : DE) : DE := fun s w => match s[i]? with
  | some (some (.own (y :: ys))) => match E (s.set i (some (.lst (y :: ys)))) w with
    | .ok d w1 => if kindD y ≠ 0 ∧ avoidD (kindD y) d = true then .ok d w1 else .no
    | _ => .no
  | _ => E s w
def lendT (i : Nat) (T : DT) : DT := fun s w => match s[i]? with
  | some (some (.own (y :: ys))) => match T (s.set i (some (.lst (y :: ys)))) w with
    | .ok k w1 => .ok k w1
    | _ => .no
  | _ => T s w
section
variable {X : Cx} {mg : Str → Option Value} {W : WX} {e : Expr} {A : DE} {T : DT} {σ : L2.St} {H : Hp}
theorem lendE_ok {i : Nat} {Q : VK} (h : lE mg W (lendE i A) σ H Q) : lE mg W A σ H Q := by
  obtain ⟨wa, Hf, sD, w, hb, hs, h⟩ := h
  unfold lendE at h
  split at h
  · rename_i y ys hi
    obtain ⟨p, vs, k1, k2, k3, k4, k5⟩ := hs.own i _ hi
    refine ⟨wa, upd Hf p (.lst vs), _, w, frz_base hb k3 k2 k4, hs.frz hi k1 k2, ?_⟩
    cases eA : A (sD.set i (some (.lst (y :: ys)))) w with
    | no => rw [eA] at h; exact h.elim
    | er x w1 => rw [eA] at h; exact h.elim
    | ok d w1 =>
      rw [eA] at h
      simp only at h
      split at h
      · rename_i hc
        intro H' Hf' g b v rv
        obtain ⟨g2, b2⟩ := lent_back hb k3 k4 g b
        cases k5 with
        | cons r0 r1 =>
          have hp := g.ex p _ upd_same
          have r0' := (r0.mono (Ex.new k3)).mono g.ex
          exact h H' _ g2 b2 v (Rep.del hp r0' hc.1 rv hc.2)
      · exact h.elim
  · exact ⟨wa, Hf, sD, w, hb, hs, h⟩
theorem lendT_ok {i : Nat} {Q : Bool → Hp → Prop} (h : lT mg W (lendT i T) σ H Q) : lT mg W T σ H Q := by
  obtain ⟨wa, Hf, sD, w, hb, hs, h⟩ := h
  unfold lendT at h
  split at h
  · rename_i y ys hi
    obtain ⟨p, vs, k1, k2, k3, k4, k5⟩ := hs.own i _ hi
    refine ⟨wa, upd Hf p (.lst vs), _, w, frz_base hb k3 k2 k4, hs.frz hi k1 k2, ?_⟩
    cases eA : T (sD.set i (some (.lst (y :: ys)))) w with
    | no => rw [eA] at h; exact h.elim
    | er x w1 => rw [eA] at h; exact h.elim
    | ok d w1 =>
      rw [eA] at h
      intro H' Hf' g b v rv
      obtain ⟨g2, b2⟩ := lent_back hb k3 k4 g b
      exact h H' _ g2 b2 v rv
  · exact ⟨wa, Hf, sD, w, hb, hs, h⟩
theorem pd_lend (i : Nat) (h : PE X e (lE mg W A)) : PE X e (lE mg W (lendE i A)) := weakE h fun _ _ _ q => lendE_ok q
theorem qd_lend (i : Nat) (h : PT X e (lT mg W T)) : PT X e (lT mg W (lendT i T)) := weakT h fun _ _ _ q => lendT_ok q
end
section
variable {i : Nat} {A : DE} {T : DT} {s : Sl} {w : Wl} {Q : D → Wl → Prop} {QT : Bool → Wl → Prop} {y : D} {ys : List D}
theorem okE_lend (h : s[i]? = some (some (.own (y :: ys)))) : okE (lendE i A s w) Q = okE (A (s.set i (some (.lst (y :: ys)))) w) fun d w1 => (kindD y ≠ 0 ∧ avoidD (kindD y) d = true) ∧ Q d w1 := by
  unfold lendE
  rw [h]
  simp only
  cases A (s.set i (some (.lst (y :: ys)))) w with
  | no => rfl
  | er _ _ => rfl
  | ok d w1 =>
    simp only [okE_ok]
    by_cases hc : kindD y ≠ 0 ∧ avoidD (kindD y) d = true
    · rw [if_pos hc]
      simp [hc]
    · rw [if_neg hc]
      simp only [okE_no, eq_iff_iff, false_iff]
      exact fun h => hc h.1
theorem okT_lend (h : s[i]? = some (some (.own (y :: ys)))) : okE (lendT i T s w) QT = okE (T (s.set i (some (.lst (y :: ys)))) w) QT := by
  unfold lendT
  rw [h]
  simp only
  cases T (s.set i (some (.lst (y :: ys)))) w <;> rfl
end
end DL

set_option maxHeartbeats 2000000
namespace DL
open PySem PySem.Spec PyProof.Rows L2
variable [TabT] [OldT]
/-! ### what the operations make of plain values -/
section
variable {w : Wl} {i j k n m : Nat} {a b : Int} {xs ys : List D} {s : Sl} {d x y : D} {P : D → Prop} {PA : List D → Prop} {PS : Sl → Prop}
@[simp] theorem v_add : fAdd w (.int a) (.int b) = some (.int (a + b)) := rfl
@[simp] theorem v_addT : okO (fAdd w (.tup xs) (.tup ys)) P = (xs.length + ys.length ≤ lim ∧ P (.tup (xs ++ ys))) := by unfold fAdd; simp
@[simp] theorem v_addL : okO (fAdd w (.lst xs) (.lst ys)) P = (xs.length + ys.length ≤ lim ∧ P (.lst (xs ++ ys))) := by unfold fAdd; simp
@[simp] theorem v_sub : fSub w (.int a) (.int b) = some (.int (a - b)) := rfl
@[simp] theorem v_mul : okO (fMul w (.int a) (.int b)) P = (mulOk a b ∧ P (.int (a * b))) := by unfold fMul; simp
@[simp] theorem v_div : okO (fDiv w (.int a) (.int b)) P = (divOk b ∧ P (.int (a.fdiv b))) := by unfold fDiv; simp
@[simp] theorem v_mod : okO (fMod w (.int a) (.int b)) P = (b ≠ 0 ∧ P (.int (a.fmod b))) := by unfold fMod; by_cases h : b = 0 <;> simp [h]
@[simp] theorem v_pow : okO (fPow w (.int a) (.int b)) P = ((0 ≤ b ∧ b ≤ 1000000 ∧ a.natAbs < 18446744073709551616) ∧ P (.int (a ^ b.toNat))) := by unfold fPow; simp
@[simp] theorem v_neg : fNeg w (.int a) = some (.int (-a)) := rfl
@[simp] theorem v_cmp {p : Int → Int → Bool} : fCmp p w (.int a) (.int b) = some (.bl (p a b)) := rfl
@[simp] theorem v_eq : okO (fEq w x y) P = ((okD x && okD y) = true ∧ P (.bl (eqD x y))) := by unfold fEq; simp
@[simp] theorem v_ne : okO (fNe w x y) P = ((okD x && okD y) = true ∧ P (.bl (!eqD x y))) := by unfold fNe; simp
@[simp] theorem v_lenL : fLen w [.lst xs] = some (.int xs.length) := rfl
@[simp] theorem v_lenT : fLen w [.tup xs] = some (.int xs.length) := rfl
@[simp] theorem v_max : fMax2 w [.int a, .int b] = some (.int (if b > a then b else a)) := rfl
@[simp] theorem v_min : fMin2 w [.int a, .int b] = some (.int (if b < a then b else a)) := rfl
@[simp] theorem v_abs : fAbs w [.int a] = some (.int (if a < 0 then -a else a)) := rfl
@[simp] theorem v_int : fInt w [.int a] = some (.int a) := rfl
@[simp] theorem v_intB {c : Bool} : fInt w [.bl c] = some (.int (if c then 1 else 0)) := rfl
@[simp] theorem v_sum {α : Type} {f : α → Int} {l : List α} : fSum w [.lst (l.map fun x => .int (f x))] = some (.int (l.map f).sum) := by
  have : l.map (fun x => D.int (f x)) = (l.map f).map D.int := by simp
  show ((ints? (l.map fun x => D.int (f x))).map fun ns => D.int ns.sum) = _
  rw [this, ints?_map]
  rfl
@[simp] theorem v_all {α : Type} {f : α → Bool} {l : List α} : fAll w [.lst (l.map fun x => .bl (f x))] = some (.bl (l.all f)) := by
  have : l.map (fun x => D.bl (f x)) = (l.map f).map D.bl := by simp
  show ((bls? (l.map fun x => D.bl (f x))).map fun ns => D.bl (ns.all id)) = _
  rw [this, bls?_map]
  simp
@[simp] theorem v_any {α : Type} {f : α → Bool} {l : List α} : fAny w [.lst (l.map fun x => .bl (f x))] = some (.bl (l.any f)) := by
  have : l.map (fun x => D.bl (f x)) = (l.map f).map D.bl := by simp
  show ((bls? (l.map fun x => D.bl (f x))).map fun ns => D.bl (ns.any id)) = _
  rw [this, bls?_map]
  simp
@[simp] theorem v_tupL : fTuple w [.lst xs] = some (.tup xs) := rfl
@[simp] theorem v_tupT : fTuple w [.tup xs] = some (.tup xs) := rfl
@[simp] theorem v_lstL : fList w [.lst xs] = some xs := rfl
@[simp] theorem v_lstT : fList w [.tup xs] = some xs := rfl
@[simp] theorem v_isi1 : fIsi w [.int a, .ty "int"] = some (.bl true) := rfl
@[simp] theorem v_isi2 : fIsi w [.int a, .ty "bool"] = some (.bl false) := rfl
@[simp] theorem v_isi3 : fIsi w [.int a, .ty "tuple"] = some (.bl false) := rfl
@[simp] theorem v_isi4 : fIsi w [.int a, .ty "list"] = some (.bl false) := rfl
@[simp] theorem v_isi5 : fIsi w [.tup xs, .ty "int"] = some (.bl false) := rfl
@[simp] theorem v_isi6 : fIsi w [.tup xs, .ty "tuple"] = some (.bl true) := rfl
@[simp] theorem v_isi7 : fIsi w [.tup xs, .ty "list"] = some (.bl false) := rfl
@[simp] theorem v_isi8 : fIsi w [.lst xs, .ty "int"] = some (.bl false) := rfl
@[simp] theorem v_isi9 : fIsi w [.lst xs, .ty "tuple"] = some (.bl false) := rfl
@[simp] theorem v_isi10 : fIsi w [.lst xs, .ty "list"] = some (.bl true) := rfl
@[simp] theorem v_truB {c : Bool} : truD (.bl c) = some c := rfl
@[simp] theorem v_truI : truD (.int a) = some (a != 0) := rfl
@[simp] theorem v_truL : truD (.lst xs) = some (!xs.isEmpty) := rfl
@[simp] theorem v_truT : truD (.tup xs) = some (!xs.isEmpty) := rfl
@[simp] theorem v_gN : gN i d s = some (s.set i (some d)) := rfl
@[simp] theorem v_gNil : gNil' [] s = some s := rfl
@[simp] theorem v_gCons {G : DG} {Gs : List D → Sl → Option Sl} : okO (gCons' G Gs (d :: xs) s) PS = okO (G d s) fun s1 => okO (Gs xs s1) PS := by
  show okO ((G d s).bind fun s1 => Gs xs s1) PS = _
  cases G d s <;> rfl
@[simp] theorem v_gT {Gs : List D → Sl → Option Sl} : okO (gT Gs n (.tup xs) s) PS = (xs.length = n ∧ okO (Gs xs s) PS) := by
  show okO (if xs.length = n then Gs xs s else none) PS = _
  simp
@[simp] theorem v_ixL : fIx w (.lst xs) (.int a) = atI xs a := rfl
@[simp] theorem v_ixT : fIx w (.tup xs) (.int a) = atI xs a := rfl
@[simp] theorem v_ix0 : fIx w .well (.int 0) = some (.int w.1) := rfl
@[simp] theorem v_ix1 : fIx w .well (.int 1) = some (.int w.2.1) := rfl
@[simp] theorem v_ix2 : fIx w .well (.int 2) = some (.int w.2.2) := rfl
@[simp] theorem v_set0 : setW w 0 a = some (a, w.2.1, w.2.2) := rfl
@[simp] theorem v_set1 : setW w 1 a = some (w.1, a, w.2.2) := rfl
@[simp] theorem v_set2 : setW w 2 a = some (w.1, w.2.1, a) := rfl
theorem getS_eq : getS s i = match s[i]? with
  | some (some (.own _)) => none
  | some (some (.dct _ _)) => none
  | some (some d) => some d
  | _ => none := rfl
@[simp] theorem getS_succ {o : Option D} : getS (o :: s) (i + 1) = getS s i := rfl
@[simp] theorem getS_int : getS (some (.int a) :: s) 0 = some (.int a) := rfl
@[simp] theorem getS_bl {c : Bool} : getS (some (.bl c) :: s) 0 = some (.bl c) := rfl
@[simp] theorem getS_str {c : Str} : getS (some (.str c) :: s) 0 = some (.str c) := rfl
@[simp] theorem getS_non : getS (some .non :: s) 0 = some .non := rfl
@[simp] theorem getS_lst : getS (some (.lst xs) :: s) 0 = some (.lst xs) := rfl
@[simp] theorem getS_tup : getS (some (.tup xs) :: s) 0 = some (.tup xs) := rfl
@[simp] theorem getS_well : getS (some .well :: s) 0 = some .well := rfl
@[simp] theorem wipeS_nil : wipeS s [] = s := rfl
@[simp] theorem wipeS_cons {vs : List Nat} : wipeS s (i :: vs) = (wipeS s vs).set i none := rfl
@[simp] theorem frzS_zero : frzS 0 (some (.own xs) :: s) = some (.lst xs) :: s := rfl
@[simp] theorem frzS_lst : frzS 0 (some (.lst xs) :: s) = some (.lst xs) :: s := rfl
@[simp] theorem frzS_tup : frzS 0 (some (.tup xs) :: s) = some (.tup xs) :: s := rfl
@[simp] theorem frzS_succ {o : Option D} : frzS (i + 1) (o :: s) = o :: frzS i s := by
  unfold frzS
  rw [List.getElem?_cons_succ]
  cases s[i]? with
  | none => rfl
  | some q =>
    cases q with
    | none => rfl
    | some d => cases d <;> rfl
@[simp] theorem seqD_lst : seqD (.lst xs) = some (false, xs) := rfl
@[simp] theorem seqD_tup : seqD (.tup xs) = some (true, xs) := rfl
@[simp] theorem putS_nil : putS s [] [] = some s := rfl
@[simp] theorem putS_cons {is : List Nat} : putS s (i :: is) (d :: xs) = putS (s.set i (some d)) is xs := rfl
@[simp] theorem rng1_int : okO (rng1D [.int a]) PA = ((-4611686018427387904 ≤ a ∧ a < 4611686018427387904) ∧ PA (upTo 0 a.toNat)) := by unfold rng1D; simp
@[simp] theorem rng2_int : okO (rng2D [.int a, .int b]) PA = (((-4611686018427387904 ≤ a ∧ a < 4611686018427387904) ∧ -4611686018427387904 ≤ b ∧ b < 4611686018427387904) ∧ PA (upTo a (b - a).toNat)) := by unfold rng2D; simp
@[simp] theorem enm1_lst : enm1D [.lst xs] = some (enumD xs) := rfl
theorem zip2_two {p q : Bool} (h1 : seqD x = some (p, xs)) (h2 : seqD y = some (q, ys)) : zip2D [x, y] = some (zipD xs ys) := by simp [zip2D, h1, h2]
@[simp] theorem zip2_tt : zip2D [.tup xs, .tup ys] = some (zipD xs ys) := rfl
@[simp] theorem zip2_tl : zip2D [.tup xs, .lst ys] = some (zipD xs ys) := rfl
@[simp] theorem zip2_lt : zip2D [.lst xs, .tup ys] = some (zipD xs ys) := rfl
@[simp] theorem zip2_ll : zip2D [.lst xs, .lst ys] = some (zipD xs ys) := rfl
@[simp] theorem zip3_ttl {zs : List D} : zip2D [.tup xs, .tup ys, .lst zs] = some (zip3D xs ys zs) := rfl
theorem mulOk_of {a b : Int} {i j : Nat} (ha : a.natAbs < 2 ^ i) (hb : b.natAbs < 2 ^ j) (hi : 0 < i) (hj : 0 < j) (h : i + j ≤ 1000000) : mulOk a b := by
  have x := PySem.Flt.log2_lt_of hi ha
  have y := PySem.Flt.log2_lt_of hj hb
  unfold mulOk
  omega
theorem divOk_of {b : Int} (h0 : b ≠ 0) (hb : b.natAbs < 2 ^ 9000) : divOk b := ⟨h0, PySem.Flt.log2_lt_of (by decide) hb⟩
/-- two lists by one of pairs -/
theorem zipD_map {α : Type} {f g : α → D} {l : List α} : zipD (l.map f) (l.map g) = l.map fun x => .tup [f x, g x] := by
  unfold zipD
  rw [List.zip_map', List.map_map]
  rfl
theorem zipD_maps {α β : Type} {f : α → D} {g : β → D} {l : List α} {m : List β} : zipD (l.map f) (m.map g) = (l.zip m).map fun x => .tup [f x.1, g x.2] := by
  unfold zipD
  rw [List.zip_map, List.map_map]
  rfl
theorem zip3D_maps {α β γ : Type} {f : α → D} {g : β → D} {h : γ → D} {l : List α} {m : List β} {n : List γ} : zip3D (l.map f) (m.map g) (n.map h) = (l.zip (m.zip n)).map fun x => .tup [f x.1, g x.2.1, h x.2.2] := by
  unfold zip3D
  rw [List.zip_map, List.zip_map, List.map_map]
  rfl
theorem zip3D_map {α : Type} {f g h : α → D} {l : List α} : zip3D (l.map f) (l.map g) (l.map h) = l.map fun x => .tup [f x, g x, h x] := by
  unfold zip3D
  rw [List.zip_map', List.zip_map', List.map_map]
  rfl
end
end DL

set_option maxHeartbeats 4000000
namespace DL
open PySem PySem.Spec PyProof.Rows L2
variable [TabT] [OldT]
open Evl (Ex)
/-! ### enumerate, of a list or a tuple -/
theorem enum_new {v : Value} {o : Obj} {G : Heap → Prop} (B : Begins v o G) :
    Meets (Builtin.«enumerate.__new__» ⟨[.type "enumerate", v], []⟩) (fun _ R s => G s.heap ∧
      R (.ok (.ret (.ref (s.heap.push o).objs.size))) { s with heap := (s.heap.push o).push { cls := .type "enumerate", data := .fields #[.none, .bool false, .ref s.heap.objs.size, rawInt 0, .none, .none] } }) :=
  .of_wp fun prog w A R s hh => by
    obtain ⟨hp, ge, dr, tk, os⟩ := s
    obtain ⟨g1, hh⟩ := hh
    have sub := sub_enumerate
    have begun : ∀ {A' : Around} {E : Value → Shared → Prop} {Q : Value → Shared → Prop}, Q (.ref hp.objs.size) ⟨hp.push o, ge, dr, tk, os⟩ → wpAny (model prog w) A' (pyIter v) Q E ⟨hp, ge, dr, tk, os⟩ :=
      fun z => B.iter prog w _ _ ⟨hp, ge, dr, tk, os⟩ _ g1 z
    wp_walk using begun
    refine wpAny_stack_any fun st => wpAny_pure ?_
    split
    · rename_i c _ _ _ _ _
      cases (c == Value.type "enumerate") <;> (wp_walk using begun; exact ⟨_, rfl, hh⟩)
    · wp_walk using begun
      exact ⟨_, rfl, hh⟩
theorem enum_call {prog : Program} {w : World} {A : Around} {E : Value → Shared → Prop} {s : Shared} {v : Value} {o : Obj} {G : Heap → Prop} {Q : Value → Shared → Prop} (B : Begins v o G) (g1 : G s.heap)
    (q : ∀ h', IsEnum h' (s.heap.objs.size + 1) s.heap.objs.size 0 .none → h'.get? s.heap.objs.size = some o → (∀ b u, s.heap.get? b = some u → h'.get? b = some u) → Q (.ref (s.heap.objs.size + 1)) { s with heap := h' }) :
    wpAny (model prog w) A (call (.type "enumerate") [v]) Q E s := by
  refine callType_new F.called_enumerate (by decide) (F.typeCall_enumerate_1 _) (F.newCall_enumerate_1 _) (fun obj => F.args_object_init_2 obj _) F.entry_enumerate_new (enum_new B) ⟨g1, ?_⟩
  have sz : (s.heap.push o).objs.size = s.heap.objs.size + 1 := Heap.size_push ..
  show _ ∧ _
  rw [sz]
  have en : IsEnum ((s.heap.push o).push { cls := .type "enumerate", data := .fields #[.none, .bool false, .ref s.heap.objs.size, rawInt 0, .none, .none] }) (s.heap.objs.size + 1) s.heap.objs.size 0 .none := by
    have z := Heap.get?_push_size (s.heap.push o) (o := { cls := .type "enumerate", data := .fields #[.none, .bool false, .ref s.heap.objs.size, rawInt 0, .none, .none] }) rfl
    rw [sz] at z
    exact z
  exact ⟨⟨_, en, rfl⟩, q _ en (Heap.get?_push_of_some _ (Heap.get?_push_size _ B.free)) fun b u y => Heap.get?_push_of_some _ (Heap.get?_push_of_some _ y)⟩
section
variable {X : Cx} {pins : List (Addr × Obj)} {σ : L2.St} {H : Hp} {s : Shared}
def ItE (k : Bool) (a : Addr) : It :=
  ⟨fun i H => ∃ xs : List V, H a = some (hoK k xs) ∧ i < xs.length,
    fun i H v H' => ∃ T x, v = .ref T ∧ H T = none ∧ H' = upd H T (.tup [.int (i : Nat), x]) ∧ ∀ xs, H a = some (hoK k xs) → xs[i]? = some x,
    fun i H => ∃ xs : List V, H a = some (hoK k xs) ∧ i = xs.length⟩
theorem turn_e {P : Program} {w : World} {K : PySem.W.Frag} {elts : List Expr} {kk : Nat} {tpos : Pos} {k : Bool} {n a : Addr} (la : a < n) :
    Turn P w K (.Tuple elts kk tpos) (ItE k a) [n + 1, n] (n + 1) (fun i h => (∃ old, IsEnum h (n + 1) n (0 + (i : Int)) old) ∧ SI k h n a i) where
  mem := by simp
  obj := fun i h st c hc => by
    obtain ⟨⟨old, he⟩, h1⟩ := st
    rcases List.mem_cons.mp hc with q | q
    · rw [q]; exact ⟨_, he, fun v z => nomatch z⟩
    · rw [List.mem_singleton.mp q]; exact h1.obj
  keep := fun i h h' st k => by
    obtain ⟨⟨old, he⟩, h1⟩ := st
    exact ⟨⟨old, k _ (by simp) _ he⟩, h1.at fun o q => k _ (by simp) o q⟩
  item := by
    intro X hP hw hK hc i pins s σ H E I hf st hg
    subst hP hw hK
    obtain ⟨he, h1⟩ := st
    obtain ⟨xs, ha, hx⟩ := hg
    obtain ⟨its, rv, p, _⟩ := seqAt I ha
    have hh := I.ok.hd hc
    have na : (n + 1 : Addr) ∉ ([n, a] : List Addr) := mem2 (Nat.succ_ne_self _) (Nat.ne_of_gt (Nat.lt_succ_of_lt la))
    have W := GoesN.enumFrom (elts := elts) (x1 := kk) (pos := tpos) 0 (draws_SI (prog := X.prog) (w := X.w) (A := X.A.in1) k hh n a (Nat.ne_of_lt la) its.toArray) (n + 1) (Nat.succ_ne_self _) na List.mem_cons_self
    have l1 := rv.length
    refine thn (W.goes i s (fun v s2 => ∃ x H', Inv X pins σ H' s2 ∧ RelV x v ∧ (ItE k a).yld i H x H' ∧ ((∃ old, IsEnum s2.heap (n + 1) n (0 + ((i + 1 : Nat) : Int)) old) ∧ SI k s2.heap n a (i + 1)) ∧ ∀ c ∈ [n + 1, n], H' c = none) E (by simp; omega) ⟨he, h1, p⟩ fun v h' tk hY st' hk _ => ?_) fun r s1 q => q
    obtain ⟨T, t, u, rfl, hT, e1, hTup⟩ := hY
    obtain ⟨he', h1', _⟩ := st'
    have e1 : its[i]? = some u := by simpa using e1
    have gx : xs[i]? = some xs[i] := by simp [hx]
    obtain ⟨u', f1, r1⟩ := rv.get gx
    rw [e1] at f1
    cases f1
    have new : ObjOk X.prog X.w (upd H T (.tup [.int (i : Nat), xs[i]])) h' T (.tup [.int (i : Nat), xs[i]]) := ⟨by show 2 ≤ sizeLine; decide, [_, u], .cons ⟨t, by rw [Int.zero_add]⟩ (.cons r1 .nil), hTup⟩
    have I1 : Inv X pins σ (upd H T (.tup [.int (i : Nat), xs[i]])) { s with heap := h', toks := tk } := I.turnedNew (ch := [n + 1, n]) (fun c o hcm q => hk c o (fun m => hcm (by simpa using m)) q) hf hT new
    refine ⟨.ref T, _, I1, rfl, ⟨T, _, rfl, I.hok.fresh hT, rfl, fun l hl => ?_⟩, ⟨he', h1'⟩, fun c hcm => ?_⟩
    · rw [ha] at hl
      rw [← hoK_inj (Option.some.inj hl)]
      exact gx
    · have hlt : c < s.heap.objs.size := by
        rcases List.mem_cons.mp hcm with q | q
        · obtain ⟨old, he⟩ := he
          rw [q]; exact Heap.lt_size he
        · rw [List.mem_singleton.mp q]; obtain ⟨_, e, _⟩ := h1.obj; exact Heap.lt_size e
      rw [upd_ne (Nat.ne_of_lt (Nat.lt_of_lt_of_le hlt hT))]
      exact (hf c hcm).1
  done := by
    intro X hP hw hK hc i pins s σ H E I hf st hg
    subst hP hw hK
    obtain ⟨he, h1⟩ := st
    obtain ⟨xs, ha, hi⟩ := hg
    obtain ⟨its, rv, p, _⟩ := seqAt I ha
    have hh := I.ok.hd hc
    have na : (n + 1 : Addr) ∉ ([n, a] : List Addr) := mem2 (Nat.succ_ne_self _) (Nat.ne_of_gt (Nat.lt_succ_of_lt la))
    have W := GoesN.enumFrom (elts := elts) (x1 := kk) (pos := tpos) 0 (draws_SI (prog := X.prog) (w := X.w) (A := X.A.in1) k hh n a (Nat.ne_of_lt la) its.toArray) (n + 1) (Nat.succ_ne_self _) na List.mem_cons_self
    have l1 := rv.length
    have ei : i = its.toArray.size := by simp; omega
    rw [ei] at he h1
    exact W.stops s _ E ⟨he, h1, p⟩ fun h' tk hk _ => I.turnedL (ch := [n + 1, n]) (fun c o hcm q => hk c o (fun m => hcm (by simpa using m)) q) hf
  self := fun A i s Q E st h => by
    obtain ⟨⟨old, he⟩, _⟩ := st
    exact wpAny_pyIter_enum he h
def iE (k : Bool) (ta : TA) : TI := fun σ H R => ta σ H fun vs H1 => ∃ a xs, vs = [.ref a] ∧ H1 a = some (hoK k xs) ∧ R (ItE k a) H1
theorem pi_e {e : Expr} {ta : TA} {p pos tpos : Pos} {elts : List Expr} {kk : Nat} (k : Bool) (hg : Gl X "enumerate") (hm : X.mg "enumerate" = none) (ha : PA X [e] ta) (hs : starEach [e] X.env = [(false, eval e X.env)] := by rfl) :
    PI X (.Tuple elts kk tpos) (.Call (.Name "enumerate" p) [e] [] pos) (iE k ta) := by
  refine ⟨fun pins s σ H R I h => ?_⟩
  refine Call_ (ld_blt I hg hm boot_enumerate (PyProof.Rows.callWith_type1 (thn (ha.run pos pins s σ H _ I h) fun us s1 z => ?_) hs rfl))
  obtain ⟨vs, H1, I1, r1, a, xs, ex, hx, q⟩ := z
  subst ex
  cases r1 with
  | cons r rr =>
    cases rr
    cases r
    obtain ⟨its, rv, p', la⟩ := seqAt I1 hx
    refine enum_call (begins_SI k a its.toArray) p' fun h' he hit hk => wpAny_pyIter_enum he ?_
    have I2 : Inv X pins σ H1 { s1 with heap := h' } := I1.kept (t' := s1.toks) hk
    refine ⟨s1.heap.objs.size + 1, [s1.heap.objs.size + 1, s1.heap.objs.size], _, _, H1, rfl, I2, turn_e la, ⟨⟨.none, he⟩, SI.new hit⟩, fun b hb => ?_, q⟩
    have hle : s1.heap.objs.size ≤ b := by
      rcases List.mem_cons.mp hb with z | z
      · rw [z]; exact Nat.le_succ _
      · rw [List.mem_singleton.mp z]; exact Nat.le_refl _
    exact I1.fpOk hle (I1.hok.fresh hle)
end
section
variable {X : Cx} {W : WX} {tg a : Expr} {pos : Pos} {wa : Addr} {Hf : Hp} {mg : Str → Option Value}
theorem walkD_e {k : Bool} {p : Addr} {vs : List V} {ds : List D} (h : Hf p = some (hoK k vs)) (r : Reps wa Hf vs ds) : WalkD wa Hf (ItE k p) (enumD ds) :=
  ⟨fun i H hi x => by
    have hi' : i < vs.length := by rw [r.length]; simpa [enumD] using hi
    exact ⟨vs, x _ _ h, hi'⟩, fun H x => ⟨vs, x _ _ h, by simp [enumD, r.length]⟩, fun i H Hf1 w y H' d hd x b q => by
    obtain ⟨T, z, rfl, hT, rfl, q⟩ := q
    unfold enumD at hd
    rw [List.getElem?_map, List.getElem?_zipIdx] at hd
    cases e : ds[i]? with
    | none => rw [e] at hd; cases hd
    | some d1 =>
      rw [e] at hd
      cases hd
      obtain ⟨v, e1, r1⟩ := (r.mono x).get e
      have e2 := q vs (b.ex _ _ (x _ _ h))
      rw [e1] at e2
      cases e2
      rw [Nat.zero_add]
      exact ⟨_, Go.newF b.ex hT, b.newF hT, .tup upd_same (.cons (.int _) (.cons (r1.mono (Ex.new (Evl.fresh_back b.ex hT))) .nil))⟩⟩
def iEnumS (As : DA) : DI := fun s w => (As s w).bind fun xs w1 => match xs with
  | [x] => match seqD x with
    | some (_, ds) => .ok (enumD ds) w1
    | none => .no
  | _ => .no
theorem id_enumS {As : DA} {p tpos : Pos} {elts : List Expr} {kk : Nat} (hg : Gl X "enumerate") (hm : X.mg "enumerate" = none) (ha : PA X [a] (lA mg W As)) (hs : starEach [a] X.env = [(false, eval a X.env)] := by rfl) : PI X (.Tuple elts kk tpos) (.Call (.Name "enumerate" p) [a] [] pos) (lI mg W (iEnumS As)) := weakI (anyI fun k : Bool => pi_e k hg hm ha hs) fun σ H Q h => by
  obtain ⟨wa, Hf, sD, w, hb, hs, h⟩ := h
  unfold iEnumS at h
  cases ea : As sD w with
  | ok xs w1 =>
    rw [ea, R.bind_ok] at h
    split at h
    · rename_i x
      split at h
      · rename_i k ds e1
        refine ⟨k, wa, Hf, sD, w, hb, hs, ?_⟩
        rw [ea]
        intro H1 Hf1 g b v rv
        cases rv with
        | cons r1 r2 =>
          cases r2
          obtain ⟨p1, vs, rfl, h1, s1⟩ := seqD_rep r1 e1
          exact ⟨p1, vs, rfl, b.ex _ _ h1, h H1 Hf1 g b _ (walkD_e h1 s1)⟩
      · exact h.elim
    · exact h.elim
  | er x w1 =>
    rw [ea] at h
    refine ⟨true, wa, Hf, sD, w, hb, hs, ?_⟩
    rw [ea]
    exact h
  | no => rw [ea] at h; exact h.elim
def enmSD : List D → Option (List D)
  | [x] => (seqD x).map fun p => enumD p.2
  | _ => none
@[simp] theorem okI_enumS {As : DA} {s : Sl} {w : Wl} {QA : List D → Wl → Prop} : okE (iEnumS As s w) QA = okE (As s w) fun xs w1 => okO (enmSD xs) fun ds => QA ds w1 := by
  unfold iEnumS; simp only [okE_bind]; congr; funext xs w1
  rcases xs with _ | ⟨x, _ | ⟨y, xs⟩⟩ <;> try rfl
  show okE (match seqD x with | some (_, ds) => R.ok (enumD ds) w1 | none => R.no) QA = okO ((seqD x).map fun p => enumD p.2) _
  cases seqD x <;> rfl
end
end DL

set_option maxHeartbeats 2000000
namespace DL
open PySem PySem.Spec PyProof.Rows L2
variable [TabT] [OldT]
/-! ### in, index, sorted, divmod, while by value -/
section
variable {w : Wl} {i j k n m : Nat} {a b : Int} {xs ys : List D} {s : Sl} {d x y : D} {P : D → Prop} {A B C : DE} {Q : D → Wl → Prop} {U V : DS} {N : Sl → Wl → Prop} {Z : D → Wl → Prop} {T : DT}
@[simp] theorem v_divmod : okO (fDivmod w [.int a, .int b]) P = (divOk b ∧ P (.tup [.int (a.fdiv b), .int (a.fmod b)])) := by
  show okO (if divOk b then some _ else none) P = _
  simp
@[simp] theorem v_inL : okO (fInG false w x (.lst xs)) P = ((okD x && okD (.lst xs)) = true ∧ P (.bl (xs.any fun d => eqD d x))) := by
  show okO (if _ then some _ else none) P = _
  simp
@[simp] theorem v_ninL : okO (fInG true w x (.lst xs)) P = ((okD x && okD (.lst xs)) = true ∧ P (.bl (!xs.any fun d => eqD d x))) := by
  show okO (if _ then some _ else none) P = _
  simp
theorem v_inT {ns : List Int} : fInG false w (.int a) (.tup (ns.map .int)) = some (.bl (hasI a ns)) := by
  unfold fInG
  simp
theorem v_ninT {ns : List Int} : fInG true w (.int a) (.tup (ns.map .int)) = some (.bl (!hasI a ns)) := by
  unfold fInG
  simp
@[simp] theorem okE_idx : okE (eIdx A B s w) Q = okE (A s w) fun x w1 => match x with
    | .lst ds => okE (B s w1) fun y w2 => okO (idxD ds y) fun z => Q z w2
    | _ => False := by
  unfold eIdx
  simp only [okE_bind]
  congr
  funext x w1
  cases x <;> try rfl
  simp only [okE_bind, okE_opt]
@[simp] theorem v_sorted {ns : List Int} : fSorted w [.lst (ns.map .int)] = some ((sortI ns).map .int) := by
  unfold fSorted
  simp
@[simp] theorem v_maxL {ns : List Int} : fMaxL w [.lst (ns.map .int)] = (maxI ns).map .int := by
  unfold fMaxL
  simp
@[simp] theorem v_minL {ns : List Int} : fMinL w [.lst (ns.map .int)] = (minI ns).map .int := by
  unfold fMinL
  simp
/-- a while loop: I k: at most k turns are left -/
theorem okS_while (I : Nat → Sl → Wl → Prop) : ∀ (n k : Nat) {s : Sl} {w : Wl}, k < n → I k s w → (∀ k s w, I k s w → okE (T s w) fun c w1 => if c = true then ∃ j, k = j + 1 ∧ okS (U s w1) (I j) Z else N s w1) → okS (whileD T U n s w) N Z
  | 0, k, s, w, hk, _, _ => by omega
  | n + 1, k, s, w, hk, h, hs => by
    have h1 := hs k s w h
    unfold whileD
    cases e : T s w with
    | no => rw [e] at h1; exact h1
    | er x w1 => rw [e] at h1; exact h1
    | ok c w1 =>
      rw [e] at h1
      simp only [okE_ok] at h1
      cases c with
      | false => exact h1
      | true =>
        rw [if_pos rfl] at h1
        obtain ⟨j, rfl, h2⟩ := h1
        dsimp only
        cases e2 : U s w1 with
        | nx s2 w2 => rw [e2] at h2; exact okS_while I n j (by omega) h2 hs
        | rt d w2 => rw [e2] at h2; exact h2
        | bk _ _ => rw [e2] at h2; exact h2.elim
        | ct _ _ => rw [e2] at h2; exact h2.elim
        | er _ _ _ => rw [e2] at h2; exact h2.elim
        | no => rw [e2] at h2; exact h2.elim
end
@[simp] theorem atI_0 {α : Type} {x : α} {r : List α} : atI (x :: r) 0 = some x := atI_nat (j := 0) rfl
@[simp] theorem atI_1 {α : Type} {x y : α} {r : List α} : atI (x :: y :: r) 1 = some y := atI_nat (j := 1) rfl
@[simp] theorem atI_2 {α : Type} {x y z : α} {r : List α} : atI (x :: y :: z :: r) 2 = some z := atI_nat (j := 2) rfl
/-! ### equality of plain values -/
@[simp] theorem okD_int {a : Int} : okD (.int a) = true := rfl
@[simp] theorem okD_non : okD .non = true := rfl
@[simp] theorem eqD_int {a b : Int} : eqD (.int a) (.int b) = decide (a = b) := by
  show (PyData.eqv (.int a) (.int b)) = _
  unfold PyData.eqv
  rfl
@[simp] theorem eqD_non : eqD .non .non = true := by
  show (PyData.eqv .none .none) = _
  unfold PyData.eqv
  rfl
@[simp] theorem eqD_ni {a : Int} : eqD .non (.int a) = false := by
  show (PyData.eqv .none (.int a)) = _
  unfold PyData.eqv
  rfl
@[simp] theorem eqD_in {a : Int} : eqD (.int a) .non = false := by
  show (PyData.eqv (.int a) .none) = _
  unfold PyData.eqv
  rfl
/-- tuples of ints -/
def eD (xs : List Int) : D := .tup (xs.map .int)
theorem toPDs_ints : ∀ xs : List Int, toPDs (xs.map D.int) = xs.map PyData.int
  | [] => by simp [toPDs]
  | x :: xs => by simp [toPDs, toPD, toPDs_ints xs]
theorem lay_ints : ∀ xs : List Int, PyData.canLayAll0 (xs.map PyData.int) = true ∧ PyData.depthAll (xs.map PyData.int) = 0
  | [] => by simp [PyData.canLayAll0, PyData.depthAll]
  | x :: xs => by
    have := lay_ints xs
    simp [PyData.canLayAll0, PyData.depthAll, PyData.canLay0, PyData.depth, this]
@[simp] theorem okD_ints {xs : List Int} : okD (eD xs) = true := by
  have := lay_ints xs
  simp [okD, eD, toPD, toPDs_ints, SeqAt.shaped, PyData.canLay0, PyData.depth, this]
@[simp] theorem okD_lints {xs : List Int} : okD (.lst (xs.map .int)) = true := by
  have := lay_ints xs
  simp [okD, toPD, toPDs_ints, SeqAt.shaped, PyData.canLay0, PyData.depth, this]
theorem eqvAll_ints : ∀ xs ys : List Int, PyData.eqvAll (xs.map PyData.int) (ys.map PyData.int) = decide (xs = ys)
  | [], [] => by simp [PyData.eqvAll]
  | [], y :: ys => by simp [PyData.eqvAll]
  | x :: xs, [] => by simp [PyData.eqvAll]
  | x :: xs, y :: ys => by
    have := eqvAll_ints xs ys
    have e : PyData.eqv (.int x) (.int y) = decide (x = y) := by unfold PyData.eqv; rfl
    simp [PyData.eqvAll, e, this]
@[simp] theorem eqD_ints {xs ys : List Int} : eqD (eD xs) (eD ys) = decide (xs = ys) := by
  show PyData.eqv (toPD (eD xs)) (toPD (eD ys)) = _
  simp only [eD, toPD, toPDs_ints]
  rw [show PyData.eqv (.tuple (xs.map PyData.int)) (.tuple (ys.map PyData.int)) = PyData.eqvAll (xs.map PyData.int) (ys.map PyData.int) by unfold PyData.eqv; rfl]
  exact eqvAll_ints xs ys
@[simp] theorem eqD_lints {xs ys : List Int} : eqD (.lst (xs.map .int)) (.lst (ys.map .int)) = decide (xs = ys) := by
  show PyData.eqv (toPD (.lst (xs.map .int))) (toPD (.lst (ys.map .int))) = _
  simp only [toPD, toPDs_ints]
  rw [show PyData.eqv (.list (xs.map PyData.int)) (.list (ys.map PyData.int)) = PyData.eqvAll (xs.map PyData.int) (ys.map PyData.int) by unfold PyData.eqv; rfl]
  exact eqvAll_ints xs ys
theorem any_ints {a : Int} {xs : List Int} : ((xs.map D.int).any fun d => eqD d (.int a)) = hasI a xs := by
  rw [List.any_map]
  unfold hasI
  congr 1
theorem hasI_iff {a : Int} {xs : List Int} : hasI a xs = true ↔ a ∈ xs := by
  unfold hasI
  simp
theorem idx_ints {a : Int} {xs : List Int} : idxD (xs.map .int) (.int a) = (xs.findIdx? fun b => decide (b = a)).map fun j => .int (j : Nat) := by
  unfold idxD
  simp only [okD_int, okD_lints, Bool.and_self, if_true, List.findIdx?_map]
  congr 2
/-! ### sizes of numbers -/
theorem nat_lt_pow {a : Int} {k : Nat} (h0 : 0 ≤ a) (h : a ≤ 2 ^ k) : a.natAbs < 2 ^ (k + 1) := by
  have e : (a.natAbs : Int) = a := Int.natAbs_of_nonneg h0
  have : (a.natAbs : Int) ≤ ((2 ^ k : Nat) : Int) := by rw [e]; simpa using h
  have h2 : a.natAbs ≤ 2 ^ k := by exact_mod_cast this
  have h3 : 2 ^ k < 2 ^ (k + 1) := Nat.pow_lt_pow_right (by decide) (by omega)
  omega
/-- below two to the k, either way -/
def Bt (k : Nat) (a : Int) : Prop := a.natAbs < 2 ^ k
theorem Bt.mono {i j : Nat} {a : Int} (h : Bt i a) (hij : i ≤ j) : Bt j a := Nat.lt_of_lt_of_le h (Nat.pow_le_pow_right (by decide) hij)
theorem bt_mul {i j : Nat} {a b : Int} (ha : Bt i a) (hb : Bt j b) : Bt (i + j) (a * b) := by
  unfold Bt at *
  rw [Int.natAbs_mul, Nat.pow_add]
  exact Nat.mul_lt_mul'' ha hb
theorem bt_add {i : Nat} {a b : Int} (ha : Bt i a) (hb : Bt i b) : Bt (i + 1) (a + b) := by
  unfold Bt at *
  rw [Nat.pow_succ]
  omega
theorem bt_neg {i : Nat} {a : Int} (ha : Bt i a) : Bt i (-a) := by
  unfold Bt at *
  omega
theorem bt_sub {i : Nat} {a b : Int} (ha : Bt i a) (hb : Bt i b) : Bt (i + 1) (a - b) := by
  unfold Bt at *
  rw [Nat.pow_succ]
  omega
theorem bt_of {i : Nat} {a : Int} (h1 : -(2 ^ i : Int) < a) (h2 : a < 2 ^ i) : Bt i a := by
  unfold Bt
  have : ((2 ^ i : Nat) : Int) = (2 : Int) ^ i := by simp
  omega
theorem bt_iff {i : Nat} {a : Int} : Bt i a ↔ -(2 ^ i : Int) < a ∧ a < 2 ^ i := by
  unfold Bt
  have : ((2 ^ i : Nat) : Int) = (2 : Int) ^ i := by simp
  omega
theorem mul_bt {i j : Nat} {a b : Int} (ha : Bt i a) (hb : Bt j b) (h : i + j ≤ 900000) : mulOk a b :=
  mulOk_of (i := i + 1) (j := j + 1) (Bt.mono ha (by omega)) (Bt.mono hb (by omega)) (by omega) (by omega) (by omega)
theorem div_bt {i : Nat} {b : Int} (h0 : b ≠ 0) (hb : Bt i b) (h : i ≤ 9000) : divOk b := divOk_of h0 (Bt.mono hb h)
theorem fmod_range {a n : Int} (h : 0 < n) : 0 ≤ a.fmod n ∧ a.fmod n < n := by
  rw [Int.fmod_eq_emod_of_nonneg _ (by omega)]
  exact ⟨Int.emod_nonneg _ (by omega), Int.emod_lt_of_pos _ h⟩
theorem fdiv_range {a n : Int} (h : 0 < n) (h0 : 0 ≤ a) : 0 ≤ a.fdiv n ∧ a.fdiv n ≤ a := by
  rw [Int.fdiv_eq_ediv_of_nonneg _ (by omega)]
  exact ⟨Int.ediv_nonneg h0 (by omega), Int.ediv_le_self _ h0⟩
theorem atI_of {α : Type} {l : List α} {k : Int} (h0 : 0 ≤ k) (h1 : k < l.length) : ∃ x, atI l k = some x ∧ x ∈ l := by
  obtain ⟨j, rfl⟩ := Int.eq_ofNat_of_zero_le h0
  have hj : j < l.length := by omega
  exact ⟨l[j], atI_nat (by simp [hj]), by simp⟩
theorem lim7 {n : Nat} (h : n ≤ 1000000) : n ≤ lim := Nat.le_trans h (by decide)
end DL

set_option maxHeartbeats 2000000
namespace DL
open PySem PySem.Spec PyProof.Rows L2
variable [TabT] [OldT]
open Evl (Ex)
/-! ### comprehensions of two clauses -/
def lc2D (G : DG) (T : DT) (I1 : DI) (G1 : DG) (T1 : DT) (E : DE) (vs1 : List Nat) : List D → Sl → Wl → R (List D)
  | [], _, w => .ok [] w
  | d :: r, s, w => match G d s with
    | none => .no
    | some s1 => (T s1 w).noer.bind fun b w1 => if b = true then (I1 s1 w1).noer.bind fun ds1 w2 => (lcD G1 T1 E ds1 (wipeS s1 vs1) w2).noer.bind fun ys w3 => (lc2D G T I1 G1 T1 E vs1 r s w3).bind fun zs w4 => .ok (ys ++ zs) w4 else lc2D G T I1 G1 T1 E vs1 r s w1
def aLc2 (I : DI) (G : DG) (T : DT) (I1 : DI) (G1 : DG) (T1 : DT) (E : DE) (vs vs1 : List Nat) : DA := fun s w => (I s w).bind fun ds w1 => (lc2D G T I1 G1 T1 E vs1 ds (wipeS s vs) w1).noer.bind fun ys w2 => if ys.length ≤ lim then .ok ys w2 else .no
section
variable {X : Cx} {mg : Str → Option Value} {W : WX} {tg it a b e elt iter tg1 iter1 : Expr} {es ifs ifs1 : List Expr} {pos : Pos} {σ : L2.St} {H : Hp} {wa : Addr} {Hf : Hp}
theorem OwnNew.setNone {H0 : Hp} {s : Sl} (x : OwnNew H0 σ s) (i : Nat) : OwnNew H0 (σ.set i none) (s.set i none) := fun j d p h1 n1 h2 => by
  by_cases hj : j = i
  · subst hj
    rw [List.getElem?_set] at h1
    split at h1
    · split at h1 <;> cases h1
    · rename_i hne
      exact absurd rfl hne
  · rw [List.getElem?_set_ne (Ne.symm hj)] at h1 h2
    exact x j d p h1 n1 h2
theorem OwnNew.wipe {H0 : Hp} {s : Sl} (x : OwnNew H0 σ s) : ∀ vs : List Nat, OwnNew H0 (L2.wipe σ vs) (wipeS s vs)
  | [] => x
  | v :: vs => (x.wipe vs).setNone v
theorem Slots.app {s : Sl} {D : Addr} {o o' : HO} {H0 : Hp} (x : Slots wa Hf H σ s) (n : OwnNew (upd H0 D o') σ s) (t : NT o') : Slots wa Hf (upd H D o) σ s :=
  have ne : ∀ (i : Nat) (d : DL.D) (p : Addr), s[i]? = some (some d) → IsO d → σ[i]? = some (some (.ref p)) → p ≠ D := fun i d p h1 n1 h2 z => n i d p h1 n1 h2 o' (by rw [z, upd_same]) t
  ⟨x.len, x.val, fun i xs e => by
    obtain ⟨p, vs, h1, h2, h3, h4, h5⟩ := x.own i xs e
    exact ⟨p, vs, h1, by rw [upd_ne (ne i _ p e isO_own h1)]; exact h2, h3, h4, h5⟩, fun i ks xs e => by
    obtain ⟨p, vs, h1, h2, h3, h4, h5⟩ := x.dic i ks xs e
    exact ⟨p, vs, h1, by rw [upd_ne (ne i _ p e isO_dct h1)]; exact h2, h3, h4, h5⟩, x.inj⟩
theorem Slots.apart {s : Sl} {D : Addr} {o : HO} (x : Slots wa Hf H σ s) (h : H D = none) : OwnNew (upd (fun _ => none) D o) σ s := fun i d p h1 n1 h2 o3 e3 _ => by
  obtain ⟨q, o2, e1, e2, _⟩ := x.oAt h1 n1
  rw [h2] at e1
  cases e1
  by_cases hp : p = D
  · rw [hp, h] at e2; cases e2
  · rw [upd_ne hp] at e3; cases e3
theorem less {n i : Nat} (h : i < n) : n - (i + 1) < n - i := by omega
theorem lc2_ok {I : DI} {G : DG} {T : DT} {I1 : DI} {G1 : DG} {T1 : DT} {E : DE} {vs vs1 : List Nat} {Q : VK} (h : lfL mg W (aLc2 I G T I1 G1 T1 E vs vs1) σ H Q) :
    tLc2 (lI mg W I) (lG vs G) (lT mg W0 T) (lI mg W0 I1) (lG vs1 G1) (lT mg W0 T1) (lE mg W0 E) vs vs1 σ H Q := by
  obtain ⟨wa, Hf, sD, w, hb, hs, h⟩ := h
  refine ⟨wa, Hf, sD, w, hb, hs, h.bind.mono (fun ds w1 H1 Hf1 g1 b1 q J wk D hD => ?_) (fun _ _ _ _ _ _ q => q)⟩
  have hs1 := (hs.go g1).wipe vs
  cases el : lc2D G T I1 G1 T1 E vs1 ds (wipeS sD vs) w1 with
  | er x w2 => rw [el] at q; exact q.elim
  | no => rw [el] at q; exact q.elim
  | ok total wF =>
    rw [el] at q
    simp only [R.noer, R.bind_ok] at q
    split at q
    · rename_i hz
      have hDw : D ≠ wa := fun z => by rw [z, b1.well] at hD; cases hD
      have hDf : Hf1 D = none := Evl.fresh_back b1.ex hD
      refine ⟨fun i m H2 => m = ds.length - i ∧ i ≤ ds.length ∧ ∃ Hf2 w2 accV acc ys, Go wa H1 Hf1 H2 Hf2 ∧ Base wa Hf2 H2 w2 ∧ H2 D = some (.lst accV) ∧ Hf2 D = none ∧ Reps wa Hf2 accV acc ∧ lc2D G T I1 G1 T1 E vs1 (ds.drop i) (wipeS sD vs) w2 = .ok ys wF ∧ acc ++ ys = total,
        ⟨ds.length, by simp, Nat.zero_le _, Hf1, w1, [], [], total, Go.new1 hD, b1.new1 hD, upd_same, hDf, .nil, el, rfl⟩, ?_⟩
      rintro i m H2 ⟨rfl, hi, Hf2, w2, accV, acc, ys, g2, b2, hD2, hDf2, ra, e2, rfl⟩
      by_cases hlt : i < ds.length
      · have ed : ds.drop i = ds[i] :: ds.drop (i + 1) := List.drop_eq_getElem_cons hlt
        rw [ed] at e2
        have gi : ds[i]? = some ds[i] := by simp [hlt]
        refine .inr ⟨wk.goes i H2 hlt (g2.ex.trans b2.ex), fun H' => ∃ Hf2 w2 accV acc' ys', Go wa H1 Hf1 H' Hf2 ∧ Base wa Hf2 H' w2 ∧ H' D = some (.lst accV) ∧ Hf2 D = none ∧ Reps wa Hf2 accV acc' ∧ lc2D G T I1 G1 T1 E vs1 (ds.drop (i + 1)) (wipeS sD vs) w2 = .ok ys' wF ∧ acc' ++ ys' = acc ++ ys,
          fun H' hN => ⟨ds.length - (i + 1), less hlt, rfl, hlt, hN⟩, fun x H3 hy => ?_⟩
        obtain ⟨Hf3, g3, b3, r3⟩ := wk.yields i H2 Hf2 w2 x H3 _ gi g2.ex b2 hy
        have hD3 : H3 D = some (.lst accV) := g3.keep D _ hDw hD2
        have hDf3 : Hf3 D = none := (g3.new D _ hD2).trans hDf2
        unfold lc2D at e2
        cases eg : G ds[i] (wipeS sD vs) with
        | none => rw [eg] at e2; cases e2
        | some s1 =>
          rw [eg] at e2
          dsimp only at e2
          refine ⟨wa, Hf3, upd (fun _ => none) D (.lst []), w2, wipeS sD vs, ds[i], s1, b3, r3, (hs1.go g2).go g3, hs1.apart hD, eg, fun σ4 hs4 on4 hw4 => ⟨hw4.trans (wipe_wipe vs), ?_⟩⟩
          cases et : T s1 w2 with
          | er y u => rw [et] at e2; cases e2
          | no => rw [et] at e2; cases e2
          | ok bb w5 =>
            rw [et] at e2
            refine ⟨wa, Hf3, s1, w2, b3, hs4, ?_⟩
            rw [et]
            intro H5 Hf5 g5 b5 v5 rv5
            have ev5 : v5 = bb := rv5
            subst ev5
            have hD5 : H5 D = some (.lst accV) := g5.keep D _ hDw hD3
            have hDf5 : Hf5 D = none := (g5.new D _ hD3).trans hDf3
            cases v5 with
            | false =>
              refine iteF ?_
              have e3 : lc2D G T I1 G1 T1 E vs1 (ds.drop (i + 1)) (wipeS sD vs) w5 = .ok ys wF := by simpa [R.noer, R.bind] using e2
              exact ⟨Hf5, w5, accV, acc, ys, (g2.trans g3).trans g5, b5, hD5, hDf5, (ra.mono g3.ex).mono g5.ex, e3, rfl⟩
            | true =>
              refine iteT ?_
              have e3 : ((I1 s1 w5).noer.bind fun ds1 w2 => (lcD G1 T1 E ds1 (wipeS s1 vs1) w2).noer.bind fun ys w3 => (lc2D G T I1 G1 T1 E vs1 (ds.drop (i + 1)) (wipeS sD vs) w3).bind fun zs w4 => .ok (ys ++ zs) w4) = R.ok ys wF := by simpa [R.noer, R.bind] using e2
              cases ei : I1 s1 w5 with
              | er y u => rw [ei] at e3; cases e3
              | no => rw [ei] at e3; cases e3
              | ok ds1 w6 =>
                rw [ei] at e3
                refine ⟨wa, Hf5, s1, w5, b5, hs4.go g5, ?_⟩
                rw [ei]
                intro H6 Hf6 g6 b6 J1 wk1
                have hD6 : H6 D = some (.lst accV) := g6.keep D _ hDw hD5
                have hDf6 : Hf6 D = none := (g6.new D _ hD5).trans hDf5
                have e4 : ((lcD G1 T1 E ds1 (wipeS s1 vs1) w6).noer.bind fun ys w3 => (lc2D G T I1 G1 T1 E vs1 (ds.drop (i + 1)) (wipeS sD vs) w3).bind fun zs w4 => .ok (ys ++ zs) w4) = R.ok ys wF := by simpa [R.noer, R.bind] using e3
                cases ey : lcD G1 T1 E ds1 (wipeS s1 vs1) w6 with
                | er y u => rw [ey] at e4; cases e4
                | no => rw [ey] at e4; cases e4
                | ok ys1 w7 =>
                  rw [ey] at e4
                  have e5 : ((lc2D G T I1 G1 T1 E vs1 (ds.drop (i + 1)) (wipeS sD vs) w7).bind fun zs w4 => .ok (ys1 ++ zs) w4) = R.ok ys wF := by simpa [R.noer, R.bind] using e4
                  cases ez : lc2D G T I1 G1 T1 E vs1 (ds.drop (i + 1)) (wipeS sD vs) w7 with
                  | er y u => rw [ez] at e5; cases e5
                  | no => rw [ez] at e5; cases e5
                  | ok zs w8 =>
                    rw [ez] at e5
                    cases e5
                    have g06 : Go wa H1 Hf1 H6 Hf6 := ((g2.trans g3).trans g5).trans g6
                    have hsI := ((hs4.go g5).go g6).wipe vs1
                    refine ⟨fun j k H7 => k = ds1.length - j ∧ j ≤ ds1.length ∧ ∃ Hf7 w9 accV' acc' us, Go wa H1 Hf1 H7 Hf7 ∧ Ex Hf6 Hf7 ∧ Slots wa Hf7 H7 (L2.wipe σ4 vs1) (wipeS s1 vs1) ∧ Base wa Hf7 H7 w9 ∧ H7 D = some (.lst accV') ∧ Hf7 D = none ∧ Reps wa Hf7 accV' acc' ∧ lcD G1 T1 E (ds1.drop j) (wipeS s1 vs1) w9 = .ok us w7 ∧ acc' ++ us = acc ++ ys1,
                      ⟨ds1.length, by simp, Nat.zero_le _, Hf6, w6, accV, acc, ys1, g06, Ex.refl _, hsI, b6, hD6, hDf6, ((ra.mono g3.ex).mono g5.ex).mono g6.ex, ey, rfl⟩, ?_⟩
                    rintro j k H7 ⟨rfl, hj, Hf7, w9, accV', acc', us, g7, x7, s7, b7, hD7, hDf7, ra7, e7, eacc⟩
                    by_cases hlj : j < ds1.length
                    · have ed1 : ds1.drop j = ds1[j] :: ds1.drop (j + 1) := List.drop_eq_getElem_cons hlj
                      rw [ed1] at e7
                      have gj : ds1[j]? = some ds1[j] := by simp [hlj]
                      refine .inr ⟨wk1.goes j H7 hlj (x7.trans b7.ex), fun H' => ∃ Hf7 w9 accV' acc' us', Go wa H1 Hf1 H' Hf7 ∧ Ex Hf6 Hf7 ∧ Slots wa Hf7 H' (L2.wipe σ4 vs1) (wipeS s1 vs1) ∧ Base wa Hf7 H' w9 ∧ H' D = some (.lst accV') ∧ Hf7 D = none ∧ Reps wa Hf7 accV' acc' ∧ lcD G1 T1 E (ds1.drop (j + 1)) (wipeS s1 vs1) w9 = .ok us' w7 ∧ acc' ++ us' = acc ++ ys1,
                        fun H' hN => ⟨ds1.length - (j + 1), less hlj, rfl, hlj, hN⟩, fun y H8 hy8 => ?_⟩
                      obtain ⟨Hf8, g8, b8, r8⟩ := wk1.yields j H7 Hf7 w9 y H8 _ gj x7 b7 hy8
                      have hD8 : H8 D = some (.lst accV') := g8.keep D _ hDw hD7
                      have hDf8 : Hf8 D = none := (g8.new D _ hD7).trans hDf7
                      unfold lcD at e7
                      cases eg1 : G1 ds1[j] (wipeS s1 vs1) with
                      | none => rw [eg1] at e7; cases e7
                      | some s2 =>
                        rw [eg1] at e7
                        dsimp only at e7
                        refine ⟨wa, Hf8, fun _ => none, w9, wipeS s1 vs1, ds1[j], s2, b8, r8, s7.go g8, fun _ _ _ _ _ _ => .of rfl, eg1, fun σ9 hs9 _ hw9 => ⟨hw9.trans (wipe_wipe vs1), ?_⟩⟩
                        cases et1 : T1 s2 w9 with
                        | er y u => rw [et1] at e7; cases e7
                        | no => rw [et1] at e7; cases e7
                        | ok bb1 w10 =>
                          rw [et1] at e7
                          refine ⟨wa, Hf8, s2, w9, b8, hs9, ?_⟩
                          rw [et1]
                          intro H9 Hf9 g9 b9 v9 rv9
                          have ev9 : v9 = bb1 := rv9
                          subst ev9
                          have hD9 : H9 D = some (.lst accV') := g9.keep D _ hDw hD8
                          have hDf9 : Hf9 D = none := (g9.new D _ hD8).trans hDf8
                          cases v9 with
                          | false =>
                            refine iteF ?_
                            have e8 : lcD G1 T1 E (ds1.drop (j + 1)) (wipeS s1 vs1) w10 = .ok us w7 := by simpa [R.noer, R.bind] using e7
                            exact ⟨Hf9, w10, accV', acc', us, (g7.trans g8).trans g9, (x7.trans g8.ex).trans g9.ex, (s7.go g8).go g9, b9, hD9, hDf9, (ra7.mono g8.ex).mono g9.ex, e8, eacc⟩
                          | true =>
                            refine iteT ?_
                            have e8 : ((E s2 w10).noer.bind fun y w2 => (lcD G1 T1 E (ds1.drop (j + 1)) (wipeS s1 vs1) w2).bind fun ys w3 => .ok (y :: ys) w3) = R.ok us w7 := by simpa [R.noer, R.bind] using e7
                            cases ee : E s2 w10 with
                            | er y u => rw [ee] at e8; cases e8
                            | no => rw [ee] at e8; cases e8
                            | ok z w11 =>
                              rw [ee] at e8
                              refine ⟨wa, Hf9, s2, w10, b9, hs9.go g9, ?_⟩
                              rw [ee]
                              intro H10 Hf10 g10 b10 v10 r10
                              have hD10 : H10 D = some (.lst accV') := g10.keep D _ hDw hD9
                              have hDf10 : Hf10 D = none := (g10.new D _ hD9).trans hDf9
                              have e9 : ((lcD G1 T1 E (ds1.drop (j + 1)) (wipeS s1 vs1) w11).bind fun ys w3 => .ok (z :: ys) w3) = R.ok us w7 := by simpa [R.noer, R.bind] using e8
                              cases er : lcD G1 T1 E (ds1.drop (j + 1)) (wipeS s1 vs1) w11 with
                              | er y u => rw [er] at e9; cases e9
                              | no => rw [er] at e9; cases e9
                              | ok us1 w12 =>
                                rw [er] at e9
                                cases e9
                                have ra10 := ((ra7.mono g8.ex).mono g9.ex).mono g10.ex
                                have hlen : accV'.length = acc'.length := ra7.length
                                have hlt2 : accV'.length < lim := by
                                  have q1 : (acc' ++ z :: us1).length = (acc ++ ys1).length := by rw [eacc]
                                  simp only [List.length_append, List.length_cons] at q1 hz
                                  omega
                                have gg := ((g7.trans g8).trans g9).trans g10
                                refine ⟨accV', hD10, Nat.lt_of_lt_of_le hlt2 (lim_le (Nat.le_refl _)), Hf10, w11, accV' ++ [v10], acc' ++ [z], us1, gg.appF (.of hD), ((x7.trans g8.ex).trans g9.ex).trans g10.ex, ?_, b10.appL hDf10 hDw hD10, upd_same, hDf10, ra10.append (.cons r10 .nil), er, by simp [← eacc]⟩
                                exact (((s7.go g8).go g9).go g10).app (on4.wipe vs1) nt_lst
                    · have ej : j = ds1.length := by omega
                      subst ej
                      rw [List.drop_length] at e7
                      cases e7
                      refine .inl ⟨wk1.stops H7 (x7.trans b7.ex), Hf7, w7, accV', acc', zs, g7, b7, hD7, hDf7, ra7, ez, ?_⟩
                      rw [List.append_nil] at eacc
                      rw [eacc, List.append_assoc]
      · have ei : i = ds.length := by omega
        subst ei
        rw [List.drop_length] at e2
        cases e2
        refine .inl ⟨wk.stops H2 (g2.ex.trans b2.ex), ?_⟩
        rw [List.append_nil] at q
        exact q H2 Hf2 g2 b2 D accV (g1.free hD) hD2 hDf2 hDw ra
    · exact q.elim
/-- [elt for tg in iter if .. for tg1 in iter1 if ..]: a new list -/
theorem pl_lc2 {scope : Scope} {own : List (Str × Nat)} {vs1 : List Nat} {I I1 : DI} {G G1 : DG} {T T1 : DT} {E : DE} (hc : X.calm = true) (hN : X.N.Nodup) (hi : PI X tg iter (lI mg W I)) (ok : BlkOk X.N X.env.scope scope own) (hv : ∀ i ∈ vs1, i ∈ own.map (·.2))
    (hg : ∀ (s : Shared) (H : Hp) (C : Addr) (cl : List (Str × Addr)) (fp : List Addr), PG (X.blk s H scope (compEnvC scope cl C X.env) fp) tg (lG (own.map (·.2)) G)) (ht : ∀ (s : Shared) (H : Hp) (C : Addr) (cl : List (Str × Addr)) (fp : List Addr), PTs (X.blk s H scope (compEnvC scope cl C X.env) fp) ifs (lT mg W0 T))
    (hi1 : ∀ (s : Shared) (H : Hp) (C : Addr) (cl : List (Str × Addr)) (fp : List Addr), PI (X.blk s H scope (compEnvC scope cl C X.env) fp) tg1 iter1 (lI mg W0 I1))
    (hg1 : ∀ (s : Shared) (H : Hp) (C : Addr) (cl : List (Str × Addr)) (fp : List Addr), PG (X.blk s H scope (compEnvC scope cl C X.env) fp) tg1 (lG vs1 G1)) (ht1 : ∀ (s : Shared) (H : Hp) (C : Addr) (cl : List (Str × Addr)) (fp : List Addr), PTs (X.blk s H scope (compEnvC scope cl C X.env) fp) ifs1 (lT mg W0 T1))
    (he : ∀ (s : Shared) (H : Hp) (C : Addr) (cl : List (Str × Addr)) (fp : List Addr), PE (X.blk s H scope (compEnvC scope cl C X.env) fp) elt (lE mg W0 E)) (hs : ∀ x, foldedSetIterable iter X.env x = pure x := by intro _; rfl) (hs1 : ∀ env x, foldedSetIterable iter1 env x = pure x := by intro _ _; rfl) :
    PE X (.ListComp elt [⟨tg, iter, ifs, 0⟩, ⟨tg1, iter1, ifs1, 0⟩] scope pos) (lfL mg W (aLc2 I G T I1 G1 T1 E (own.map (·.2)) vs1)) := weakE (pe_lc2 hc hN hi ok hv hg ht hi1 hg1 ht1 he hs hs1) fun _ _ _ q => lc2_ok q
/-! ### len(set(xs)) -/
def dist (ns : List Int) : Nat := (PyProof.Rows.firstMet (fun i => ns.getD i 0) ns.length).length
def tLenSetG (K : PySem.W.Frag) (ta : TE) : TE := fun σ H Q => ta σ H fun x H1 => ∃ (l : Addr) (ns : List Int), x = .ref l ∧ SqL K H1 l (ns.map V.int) ∧ ns.length ≤ 4000 ∧ Q (.int (dist ns : Nat)) H1
theorem pe_lenSetG {a : Expr} {ta : TE} {p p2 q pos : Pos} (hg : Gl X "len") (hm : X.mg "len" = none) (hg2 : Gl X "set") (hm2 : X.mg "set" = none) (ha : PE X a ta) (hc : X.calm = true := by rfl)
    (na : starEach [a] X.env = (false, eval a X.env) :: starEach [] X.env := by rfl) : PE X (.Call (.Name "len" p) [.Call (.Name "set" p2) [a] [] q] [] pos) (tLenSetG X.K ta) := by
  refine ⟨fun pins s σ H Q I h => ?_⟩
  refine Call_ (ld_blt I hg hm boot_len ?_)
  refine PyProof.Rows.callWith_builtin1 (PyProof.Rows.args_cons ?_ rfl) rfl rfl
  refine Call_ (ld_blt I hg2 hm2 boot_set ?_)
  refine PyProof.Rows.callWith_type1 (PyProof.Rows.args_cons (thn (ha.run pins s σ H _ I h) fun v s1 ⟨x, H1, I1, r1, q1⟩ => PyProof.Rows.args_nil ?_) na) na rfl
  obtain ⟨l, ns, rfl, hq, hl, q1⟩ := q1
  cases r1
  obtain ⟨its, r, pl, hz⟩ := I1.list hq
  have hlen : its.toArray.size = ns.length := by rw [List.size_toArray, ← r.length, List.length_map]
  refine call_set_list (I1.ok.hd hc) pl.isList (by simpa using RZ.intsAre_vals r) (by rw [hlen]; unfold scanBound; omega) fun h' tk hS hk => ?_
  refine PyProof.Rows.args_nil ?_
  rw [hlen] at hS
  have hle := PyProof.Rows.firstMet_length_le (fun i => ns.getD i 0) ns.length
  obtain ⟨o, es, ep, t, ho, hex, hd, _, _, _, hf, hn⟩ := hS
  have I2 : Inv X pins σ H1 { s1 with heap := h', toks := tk } := I1.kept fun b o e => hk b o (Heap.lt_size e) e
  exact call_len_set ho hex hd hf (by rw [hn] <;> omega) ⟨.int (dist ns : Nat), H1, I2.tok _, ⟨_, by rw [hn] <;> rfl⟩, q1⟩
def fLenSet : Wl → D → Option D := fun _ x => match x with
  | .lst ds => match ints? ds with
    | some ns => if ns.length ≤ 4000 then some (.int (dist ns)) else none
    | none => none
  | _ => none
theorem pd_lenSet {A : DE} {p p2 q : Pos} (hg : Gl X "len") (hm : X.mg "len" = none) (hg2 : Gl X "set") (hm2 : X.mg "set" = none) (ha : PE X a (lE mg W A)) (hc : X.calm = true := by rfl)
    (na : starEach [a] X.env = (false, eval a X.env) :: starEach [] X.env := by rfl) : PE X (.Call (.Name "len" p) [.Call (.Name "set" p2) [a] [] q] [] pos) (lE mg W (eUn fLenSet A)) := weakE (pe_lenSetG hg hm hg2 hm2 ha hc na) fun σ H Q h => by
  obtain ⟨wa, Hf, sD, w, hb, hs, h⟩ := h
  refine ⟨wa, Hf, sD, w, hb, hs, h.bind.mono (fun x w1 H1 Hf1 g1 b1 q v rv => ?_) (fun _ _ _ _ _ _ q => q)⟩
  obtain ⟨z, e, q3⟩ := q.opt
  unfold fLenSet at e
  split at e
  · split at e
    · rename_i ds ns hn
      split at e
      · rename_i hl
        cases e
        obtain ⟨a, vs, ev, h1, r1⟩ := one_lst (Reps.cons rv .nil)
        cases ev
        rw [ints?_some hn] at r1
        have e2 := r1.ints
        subst e2
        exact ⟨a, ns, rfl, SqL.of (b1.ex _ _ h1), hl, q3 _ _ Go.refl b1 _ (.int _)⟩
      · cases e
    · cases e
  · cases e
@[simp] theorem v_lenSet {w : Wl} {ns : List Int} : fLenSet w (.lst (ns.map .int)) = if ns.length ≤ 4000 then some (.int (dist ns)) else none := by
  unfold fLenSet
  simp only [ints?_map]
/-! ### is, is not of bools -/
def fIsB : Wl → D → D → Option D := fun _ x y => match x, y with
  | .bl a, .bl b => some (.bl (decide (a = b)))
  | _, _ => none
def fNotB : Wl → D → D → Option D := fun _ x y => match x, y with
  | .bl a, .bl b => some (.bl (!decide (a = b)))
  | _, _ => none
theorem opd_isB : OpD rIsB fIsB := by
  intro wa Hf H w x y u v z Q hb ru rv h q
  unfold fIsB at h
  split at h
  · cases h
    cases ru
    cases rv
    exact ⟨_, _, rfl, rfl, q _ _ Go.refl hb _ (.bl _)⟩
  · cases h
theorem opd_notB : OpD rNotB fNotB := by
  intro wa Hf H w x y u v z Q hb ru rv h q
  unfold fNotB at h
  split at h
  · cases h
    cases ru
    cases rv
    exact ⟨_, _, rfl, rfl, q _ _ Go.refl hb _ (.bl _)⟩
  · cases h
theorem pd_isB {A B : DE} (ha : PE X a (lE mg W A)) (hb : PE X b (lE mg W B)) : PE X (.Compare a [.Is] [b] pos) (lE mg W (eBin fIsB A B)) := pd_cmp op_isBl opd_isB ha hb (nomark _)
theorem pd_notB {A B : DE} (ha : PE X a (lE mg W A)) (hb : PE X b (lE mg W B)) : PE X (.Compare a [.IsNot] [b] pos) (lE mg W (eBin fNotB A B)) := pd_cmp op_notBl opd_notB ha hb (nomark _)
theorem qd_isB {A B : DE} (ha : PE X a (lE mg W A)) (hb : PE X b (lE mg W B)) : PT X (.Compare a [.Is] [b] pos) (lT mg W (tE (eBin fIsB A B))) := qd_cmp op_isBl opd_isB ha hb (nomark _)
theorem qd_notB {A B : DE} (ha : PE X a (lE mg W A)) (hb : PE X b (lE mg W B)) : PT X (.Compare a [.IsNot] [b] pos) (lT mg W (tE (eBin fNotB A B))) := qd_cmp op_notBl opd_notB ha hb (nomark _)
@[simp] theorem v_isB {w : Wl} {x y : Bool} : fIsB w (.bl x) (.bl y) = some (.bl (decide (x = y))) := rfl
@[simp] theorem v_notB {w : Wl} {x y : Bool} : fNotB w (.bl x) (.bl y) = some (.bl (!decide (x = y))) := rfl
end
section
variable {w : Wl} {s : Sl} {A E : DE} {T T1 : DT} {I I1 : DI} {G G1 : DG}
@[simp] theorem okE_lc2 {vs vs1 : List Nat} {QA : List D → Wl → Prop} : okE (aLc2 I G T I1 G1 T1 E vs vs1 s w) QA = okE (I s w) fun ds w1 => okE (lc2D G T I1 G1 T1 E vs1 ds (wipeS s vs) w1) fun ys w2 => ys.length ≤ lim ∧ QA ys w2 := by
  unfold aLc2; simp only [okE_bind, okE_noer]; congr; funext ds w1; congr; funext ys w2; split <;> simp [*]
/-- a comprehension of two clauses without tests, element by element -/
theorem lc2_all {γ δ : Type} {vs1 : List Nat} (g : γ → D) (h : γ → List δ) (g1 : δ → D) (f : γ → δ → D) {s : Sl} {w : Wl} : ∀ {xs : List γ}, (∀ x ∈ xs, okO (G (g x) s) fun s1 => I1 s1 w = .ok ((h x).map g1) w ∧ ∀ y ∈ h x, okO (G1 (g1 y) (wipeS s1 vs1)) fun s2 => okE (E s2 w) fun d w1 => d = f x y ∧ w1 = w) →
    lc2D G tYesD I1 G1 tYesD E vs1 (xs.map g) s w = .ok (xs.flatMap fun x => (h x).map (f x)) w
  | [], _ => rfl
  | x :: xs, k => by
    have h1 := k x List.mem_cons_self
    have ih := lc2_all g h g1 f (xs := xs) fun y hy => k y (List.mem_cons_of_mem _ hy)
    rw [List.map_cons]
    unfold lc2D
    cases e : G (g x) s with
    | none => rw [e] at h1; exact h1.elim
    | some s1 =>
      rw [e] at h1
      obtain ⟨h2, h3⟩ := h1
      have q : lcD G1 tYesD E ((h x).map g1) (wipeS s1 vs1) w = .ok ((h x).map (f x)) w := lc_all g1 (f x) h3
      simp only [tYesD, R.noer_ok, R.bind_ok, if_true, h2, q, List.flatMap_cons]
      rw [show lc2D G tYesD I1 G1 tYesD E vs1 (xs.map g) s w = _ from ih]
      rfl
end
end DL

set_option maxHeartbeats 2000000
/-! sorted of a set of ints, as many as a set may have -/
namespace L2
open PySem.Spec PyProof.Rows PySem
theorem sorted_setN {P : Program} {w : World} {A : Around} {E : Value → Shared → Prop} {s : Shared} {a : Addr} {S : Int → Bool} {n : Nat} {Q : Value → Shared → Prop} (R : SetR w s.heap a S n) (hh : A.handled = none)
    (hQ : ∀ s' p (out : List Value) (c : Nat) (ns : List Int), (∀ b o, s.heap.get? b = some o → s'.heap.get? b = some o) → s'.gens = s.gens → s'.os = s.os → s.heap.objs.size ≤ p →
      s'.heap.get? p = some (seqObj "list" out.toArray c) → IntsAre out ns → ns.Pairwise (· < ·) → (∀ k, k ∈ ns ↔ S k = true) → ns.length = n → Q (.ref p) s') : wpAny (model P w) A (call (.builtin "sorted") [.ref a]) Q E s := by
  obtain ⟨o, es, ep, t, h1, h2, h3, good, nodup, mem, few, fits, size, ris, led⟩ := R
  apply Calls.call_function_entry kind_sorted plain_sorted entry_sorted (args_sorted1 _)
  delta Builtin.«sorted»
  refine wpAny_bind (m := checkCount "sorted" 1 1 _) (wpAny_pure ?_)
  apply wpAny_bind
  refine collect_set (A := A.in1) hh ⟨o, h1, h2.1, h3⟩ fits few ris led fun s1 vs kp hz hg ho pm => ?_
  have lv : vs.length = n := by
    rw [pm.length_eq, List.length_map, Array.length_toList]
    exact size
  have hI : IntsAre vs (vs.map Builtin.Re.reRawOf) := ints_of vs fun v m => by
    obtain ⟨e, he, q⟩ := List.mem_map.mp (pm.mem_iff.mp m)
    obtain ⟨k, tk, z, _⟩ := good e he
    exact ⟨k, tk, q ▸ z⟩
  have pk : (vs.map Builtin.Re.reRawOf).Perm (es.toList.map keyOf) := by
    have := pm.map Builtin.Re.reRawOf
    rw [List.map_map] at this
    exact this
  have hn : n < 4096 := size ▸ few
  have hsz : vs.length ≤ sizeLine := by rw [lv, sizeLine_eq]; omega
  apply wpAny_bind
  refine wpAny_newList ?_ hsz
  have hL : (s1.heap.push (seqObj "list" vs.toArray 0)).get? s1.heap.objs.size = some (seqObj "list" vs.toArray 0) := Heap.get?_push_size _ rfl
  apply wpAny_bind
  apply wpAny_holding
  refine wpAny_call_entry slot_list_sort ⟨_, hL, rfl⟩ entry_list_sort (SrtO.list_sort_ord SrtO.swo_int hL hsz (fun h2 => SrtO.ints_sortable hI h2) fun out o1 o2 => ⟨_, rfl, ?_⟩) (args_list_sort _)
  obtain ⟨k1, k2, k3⟩ := SrtO.ints_out hI o1 o2
  obtain ⟨c, hc⟩ := sortedHeap_at (vs := vs) (out := out.toArray) hL
  have pn := k2.trans pk
  refine wpAny_pure ⟨_, rfl, hQ _ _ out c _ (fun b u e => ?_) hg ho hz hc k1 (lt_of_le_nodup _ k3 (pn.nodup_iff.mpr nodup)) (fun k => ?_) ?_⟩
  · have e1 := kp b u e
    have lt1 := Heap.lt_size e1
    refine (sortedHeap_old (Nat.ne_of_lt lt1) ?_).trans (Heap.get?_push_of_some _ e1)
    rw [size_push']
    exact Nat.lt_succ_of_lt lt1
  · rw [pn.mem_iff, ← mem k]
  · rw [pn.length_eq, List.length_map, Array.length_toList]
    exact size
def rSortedSetN (w : World) : List V → Hp → VK → Prop := fun vs H Q => ∃ (a : Addr) (S : Int → Bool) (n : Nat), vs = [V.ref a] ∧ H a = some (SetO w a S n) ∧
  ∀ (ns : List Int) (p : Addr), ns.Pairwise (· < ·) → (∀ k : Int, k ∈ ns ↔ S k = true) → ns.length = n → H p = none → Q (.ref p) (upd H p (.lst (ns.map V.int)))
theorem cr_sortedSetN {X : Cx} (hc : X.calm = true) : CallR X (.builtin "sorted") (rSortedSetN X.w) := by
  intro pins s σ H vs us Q I r h
  obtain ⟨a, S, n, rfl, ha, q⟩ := h
  have R := setO_get I ha
  have hfew : n < 4096 := by
    obtain ⟨_, es, _, _, _, _, _, _, _, _, few, _, size, _⟩ := R
    exact size ▸ few
  rw [Vals.ref1 r]
  refine sorted_setN R (I.ok.hd hc) fun s' p out c ns kp g o hp hg hi hs hm hl => ?_
  have hn : H p = none := I.hok.fresh hp
  have es : s' = { s with heap := s'.heap, gens := s'.gens, drawn := s'.drawn, toks := s'.toks } := by
    cases s
    cases s'
    cases o
    rfl
  have J : Inv X pins σ (upd H p (.lst (ns.map V.int))) { s with heap := s'.heap, gens := s'.gens, drawn := s'.drawn, toks := s'.toks } :=
    I.call (ch := []) (Un.laid kp hp hn) (I.hok.laid kp hp ⟨by rw [List.length_map, hl, sizeLine_eq]; omega, out, c, vals_of_ints hi, hg⟩) (by rw [g]; exact I.bare) (fun _ z => nomatch z)
  rw [es]
  exact ⟨.ref p, _, J, rfl, q ns p hs hm hl hn⟩
end L2

set_option maxHeartbeats 2000000
namespace DL
open PySem PySem.Spec PyProof.Rows L2
variable [TabT] [OldT]
open Evl (Ex)
/-! ### sorted({..}), sorted(set(..)) of ints -/
def insS (k : Int) : List Int → List Int
  | [] => [k]
  | j :: r => if k < j then k :: j :: r else if k = j then j :: r else j :: insS k r
/-- the ints of a row, each once, ascending -/
def sset : List Int → List Int
  | [] => []
  | k :: r => insS k (sset r)
theorem mem_insS {k x : Int} : ∀ {r : List Int}, x ∈ insS k r ↔ x = k ∨ x ∈ r
  | [] => by simp [insS]
  | j :: r => by
    unfold insS
    split
    · simp
    · split
      · rename_i h1 h2
        subst h2
        simp only [List.mem_cons]
        constructor
        · intro h; exact .inr h
        · rintro (h | h)
          · exact .inl h
          · exact h
      · simp only [List.mem_cons, mem_insS (r := r)]
        constructor
        · rintro (h | h | h)
          · exact .inr (.inl h)
          · exact .inl h
          · exact .inr (.inr h)
        · rintro (h | h | h)
          · exact .inr (.inl h)
          · exact .inl h
          · exact .inr (.inr h)
theorem mem_sset {x : Int} : ∀ {r : List Int}, x ∈ sset r ↔ x ∈ r
  | [] => by simp [sset]
  | j :: r => by rw [sset, mem_insS, mem_sset (r := r), List.mem_cons]
theorem lt_insS {k : Int} : ∀ {r : List Int}, r.Pairwise (· < ·) → (insS k r).Pairwise (· < ·)
  | [], _ => by simp [insS]
  | j :: r, h => by
    obtain ⟨h1, h2⟩ := List.pairwise_cons.mp h
    unfold insS
    split
    · rename_i hk
      refine List.pairwise_cons.mpr ⟨fun y hy => ?_, h⟩
      rcases List.mem_cons.mp hy with e | e
      · rw [e]; exact hk
      · exact Int.lt_trans hk (h1 y e)
    · split
      · exact h
      · rename_i hk he
        refine List.pairwise_cons.mpr ⟨fun y hy => ?_, lt_insS h2⟩
        rcases mem_insS.mp hy with e | e
        · rw [e]; omega
        · exact h1 y e
theorem lt_sset : ∀ r : List Int, (sset r).Pairwise (· < ·)
  | [] => .nil
  | _ :: r => lt_insS (lt_sset r)
theorem insS_len {k : Int} : ∀ {r : List Int}, (insS k r).length ≤ r.length + 1
  | [] => Nat.le_refl _
  | j :: r => by
    unfold insS
    split
    · simp
    · split
      · simp
      · have := insS_len (k := k) (r := r)
        simp only [List.length_cons]
        omega
theorem sset_len : ∀ r : List Int, (sset r).length ≤ r.length
  | [] => Nat.le_refl _
  | k :: r => by
    have h1 := insS_len (k := k) (r := sset r)
    have h2 := sset_len r
    rw [sset, List.length_cons]
    omega
theorem asc_ext : ∀ {xs ys : List Int}, xs.Pairwise (· < ·) → ys.Pairwise (· < ·) → (∀ k, k ∈ xs ↔ k ∈ ys) → xs = ys
  | [], [], _, _, _ => rfl
  | [], y :: ys, _, _, h => absurd ((h y).mpr List.mem_cons_self) (by simp)
  | x :: xs, [], _, _, h => absurd ((h x).mp List.mem_cons_self) (by simp)
  | x :: xs, y :: ys, hx, hy, h => by
    obtain ⟨x1, x2⟩ := List.pairwise_cons.mp hx
    obtain ⟨y1, y2⟩ := List.pairwise_cons.mp hy
    have e : x = y := by
      rcases List.mem_cons.mp ((h x).mp List.mem_cons_self) with e | e
      · exact e
      · rcases List.mem_cons.mp ((h y).mpr List.mem_cons_self) with f | f
        · exact f.symm
        · have := y1 x e
          have := x1 y f
          omega
    subst e
    congr 1
    refine asc_ext x2 y2 fun k => ?_
    constructor
    · intro hk
      rcases List.mem_cons.mp ((h k).mp (List.mem_cons_of_mem _ hk)) with e | e
      · subst e; exact absurd (x1 k hk) (by omega)
      · exact e
    · intro hk
      rcases List.mem_cons.mp ((h k).mpr (List.mem_cons_of_mem _ hk)) with e | e
      · subst e; exact absurd (y1 k hk) (by omega)
      · exact e
theorem mem_len {x : Int} : ∀ {r : List Int}, x ∈ r → (insS x r).length = r.length ∨ ¬ r.Pairwise (· < ·)
  | j :: r, h => by
    by_cases hp : (j :: r).Pairwise (· < ·)
    · obtain ⟨h1, h2⟩ := List.pairwise_cons.mp hp
      left
      unfold insS
      split
      · rename_i hk
        rcases List.mem_cons.mp h with e | e
        · omega
        · exact absurd (h1 x e) (by omega)
      · split
        · rfl
        · rename_i _ hne
          rcases List.mem_cons.mp h with e | e
          · exact absurd e hne
          · rcases mem_len e with e | e
            · simp [e]
            · exact absurd h2 e
    · exact .inr hp
theorem nmem_len {x : Int} : ∀ {r : List Int}, x ∉ r → (insS x r).length = r.length + 1
  | [], _ => rfl
  | j :: r, h => by
    unfold insS
    split
    · rfl
    · split
      · rename_i e
        exact absurd (by rw [e]; exact List.mem_cons_self) h
      · rw [List.length_cons, nmem_len fun z => h (List.mem_cons_of_mem _ z), List.length_cons]
section
variable {X : Cx}
/-- {elt for tg in iter if ..}, its members ints: D the set -/
def tSci (w : World) (ti : TI) (tg : TG) (tt : TT) (te : TE) (vs : List Nat) : TE := fun σ H Q => ti σ H fun J Ha => ∀ D, Ha D = none → ∃ W : Nat → Nat → Hp → Prop, (∃ m, W 0 m (upd Ha D (SetO w D (fun _ => false) 0))) ∧ ∀ i m Hb, W i m Hb →
  (J.stop i Hb ∧ Q (.ref D) Hb) ∨ (J.go i Hb ∧ ∃ Nx : Hp → Prop, (∀ Hc, Nx Hc → ∃ m', m' < m ∧ W (i + 1) m' Hc) ∧ ∀ x Hc, J.yld i Hb x Hc → tg x (wipe σ vs) Hc fun σ2 H2 => wipe σ2 vs = wipe σ vs ∧ tt σ2 H2 fun b H3 =>
    if b = true then te σ2 H3 fun y H4 => ∃ (c : Int) (S : Int → Bool) (n : Nat), y = .int c ∧ H4 D = some (SetO w D S n) ∧ n + 1 < scanBound ∧ Nx (upd H4 D (SetO w D (fun j => S j || decide (j = c)) (if S c = true then n else n + 1))) else Nx H3)
theorem sci_core {pins : List (Addr × Obj)} {s : Shared} {σ : L2.St} {H : Hp} {Q : VK} {elt tgt itr : Expr} {tests : List Expr} {scope : Scope} {own : List (PySem.Str × Nat)} {pos pos' : Pos} {ti : TI} {tg : TG} {tt : TT} {te : TE} {use : Option (Value → Sem Unit)} {Qf : Value → Shared → Prop}
    (hc : X.calm = true) (hN : X.N.Nodup) (Iv : Inv X pins σ H s) (hi : PI X tgt itr ti) (ok : BlkOk X.N X.env.scope scope own)
    (hg : ∀ (s' : Shared) (H' : Hp) (C : Addr) (cl : List (PySem.Str × Addr)) (fp : List Addr), PG (X.blk s' H' scope (compEnvC scope cl C X.env) fp) tgt tg)
    (ht : ∀ (s' : Shared) (H' : Hp) (C : Addr) (cl : List (PySem.Str × Addr)) (fp : List Addr), PTs (X.blk s' H' scope (compEnvC scope cl C X.env) fp) tests tt)
    (he : ∀ (s' : Shared) (H' : Hp) (C : Addr) (cl : List (PySem.Str × Addr)) (fp : List Addr), PE (X.blk s' H' scope (compEnvC scope cl C X.env) fp) elt te) (hs : ∀ x, foldedSetIterable itr X.env x = pure x)
    (hyp : tSci X.w ti tg tt te (own.map (·.2)) σ H Q)
    (fin0 : ∀ D C s' m H', Inv X pins σ H' s' → Q (.ref D) H' → s'.heap.Ns C m → FpOk X pins H' C → compPost (model X.prog X.w) X.A X.xe use Qf (.ref D) C (.ok .next) s') :
    wpAny (model X.prog X.w) X.A (comprehension (.SetComp elt [⟨tgt, itr, tests, 0⟩] scope pos) scope X.env pos' (newSet (.type "set")) false (eval itr X.env) use) Qf X.xe s := by
  have hfr : ∀ y ∈ scope.names, y.2 = .free → ∃ c, X.env.cells.lookup y.1 = some c := fun y hy e => (ok.free y hy e).elim (fun k => Iv.ok.has _ (.inl k)) fun k => Iv.ok.has _ (.inr k)
  refine wpAny_comprehension_free (use := use) rfl hs (closure_ok hfr) ok.kind (fun y hy e => by rw [ok.uniq y hy, e]) (thn (hi.run pins s σ H _ Iv hyp) fun xv s1 hx => thn hx fun itv s2 h2 => ?_)
  obtain ⟨it, fp, tn, J, H2, e, I2, T, st2, f2, q⟩ := h2
  subst e
  refine PpSet.newSet_ok (newEnv_comp ?_)
  generalize hD : s2.heap.objs.size = D
  have nD : H2 D = none := I2.hok.fresh (Nat.le_of_eq hD)
  obtain ⟨W, ⟨m0, w0⟩, turn⟩ := q D nD
  generalize hsa : ({ s2 with heap := s2.heap.push { cls := .type "set", dict := none, data := .set #[] 0 (.fresh 0 0 (!X.w.params.followText "set-order")) } } : Shared) = sa
  have Ia : Inv X pins σ (upd H2 D (SetO X.w D (fun _ => false) 0)) sa := by
    rw [← hsa]
    refine I2.laid (t' := s2.toks) (fun b o e => Heap.get?_push_of_some _ e) (Nat.le_of_eq hD) ?_
    rw [← hD]
    exact setO_new (setR_fresh X.w)
  have ha : sa.heap = s2.heap.push { cls := .type "set", dict := none, data := .set #[] 0 (.fresh 0 0 (!X.w.params.followText "set-order")) } := by rw [← hsa]
  have szp : ∀ b ∈ fp, b < s2.heap.objs.size := fun b hb => let ⟨o, e, _⟩ := T.obj _ _ st2 b hb; Heap.lt_size e
  have fa : ∀ b ∈ fp, FpOk X pins (upd H2 D (SetO X.w D (fun _ => false) 0)) b ∧ b < sa.heap.objs.size := fun b hb => by
    have hlt := szp b hb
    refine ⟨⟨?_, (f2 b hb).2⟩, by rw [ha, Heap.size_push]; exact Nat.lt_succ_of_lt hlt⟩
    rw [upd_ne (by rw [← hD]; exact Nat.ne_of_lt hlt)]
    exact (f2 b hb).1
  have sta : tn 0 sa.heap := T.keep _ _ _ st2 fun b _ o e => by rw [ha]; exact Heap.get?_push_of_some _ e
  have Ib := block_start Ia ok hN fa
  have pg := hg sa (upd H2 D (SetO X.w D (fun _ => false) 0)) sa.heap.objs.size (cellsFrom (sa.heap.objs.size + 1) scope.names (cloFrom X.env.cells scope.names [])) fp
  have pt := ht sa (upd H2 D (SetO X.w D (fun _ => false) 0)) sa.heap.objs.size (cellsFrom (sa.heap.objs.size + 1) scope.names (cloFrom X.env.cells scope.names [])) fp
  have pe := he sa (upd H2 D (SetO X.w D (fun _ => false) 0)) sa.heap.objs.size (cellsFrom (sa.heap.objs.size + 1) scope.names (cloFrom X.env.cells scope.names [])) fp
  show codeAny _ _ (.compStart (.SetComp elt [⟨tgt, itr, tests, 0⟩] scope pos) 0 (.ref it) (.ref D) (compEnvC scope (cellsFrom (sa.heap.objs.size + 1) scope.names (cloFrom X.env.cells scope.names [])) sa.heap.objs.size X.env)) (compPost (model X.prog X.w) X.A X.xe use Qf (.ref D) sa.heap.objs.size) { sa with heap := pushCells (sa.heap.push { cls := .type "dict", data := .dict #[] }) scope.names }
  have na : ∀ b ∈ fp, (upd H2 D (SetO X.w D (fun _ => false) 0)) b = none := fun b hb => (fa b hb).1.1
  generalize hce : compEnvC scope (cellsFrom (sa.heap.objs.size + 1) scope.names (cloFrom X.env.cells scope.names [])) sa.heap.objs.size X.env = ce at Ib pg pt pe ⊢
  have cL : ce.locals = sa.heap.objs.size := by subst hce; rfl
  generalize hHa : upd H2 D (SetO X.w D (fun _ => false) 0) = Ha at Ia Ib pg pt pe w0 na fa
  generalize hsb : ({ sa with heap := pushCells (sa.heap.push { cls := .type "dict", data := .dict #[] }) scope.names } : Shared) = sb at Ib ⊢
  have stb : tn 0 sb.heap := T.keep _ _ _ sta fun b _ o e => by rw [← hsb]; exact pushCells_keeps _ _ _ _ (Heap.get?_push_of_some _ e)
  have still : ∀ {σ' : L2.St} {H' : Hp} {s' : Shared}, Inv (X.blk sa Ha scope ce fp) [] σ' H' s' → (∀ b ∈ fp, H' b = none) → ∀ b ∈ fp, FpOk (X.blk sa Ha scope ce fp) [] H' b := fun {σ' H' s'} I' hn b hb =>
    ⟨hn b hb, (I'.ok.exf b hb).1, I'.ok.exfs b hb, .inl hb, fun x c e => (I'.ok.exf b hb).2 x c e, fun p hp => absurd (show p ∈ ([] : List (Addr × Obj)) ++ [] from hp) (by simp)⟩
  have loop : codeAny (model X.prog X.w) X.A (.compLoop (.SetComp elt [⟨tgt, itr, tests, 0⟩] scope pos) 0 (.ref it) (.ref D) ce) (compPost (model X.prog X.w) X.A X.xe use Qf (.ref D) sa.heap.objs.size) sb := by
    refine PpSet.compLoopS_any (fun n s' => ∃ i H', Inv (X.blk sa Ha scope ce fp) [] (wipe σ (own.map (·.2))) H' s' ∧ tn i s'.heap ∧ (∀ b ∈ fp, H' b = none) ∧ W i n H') ?_ m0 ⟨0, Ha, Ib, stb, na, w0⟩
    rintro n s5 ⟨i, H5, I5, st5, n5, w5⟩
    rcases turn i n H5 w5 with ⟨halt, qq⟩ | ⟨on, Nx, hNx, step⟩
    · refine thnF (T.done (X.blk sa Ha scope ce fp) rfl rfl rfl hc i [] s5 _ H5 (fun _ _ => False) I5 (still I5 n5) st5 halt) fun r s6 ⟨hr, I6⟩ => ?_
      subst hr
      have I7 : Inv X pins σ H5 s6 := Ia.call' (ch := fp) I6.os I6.base I6.hok I6.bare fun b hb => ⟨(fa b hb).1.2.2.2.1, (fa b hb).1.2.1, (fa b hb).1.2.2.2.2.1, (fa b hb).1.2.2.2.2.2⟩
      have nC : H5 sa.heap.objs.size = none := by
        have z : H5 ce.locals = none := I6.free
        rwa [cL] at z
      obtain ⟨m, hn, _⟩ := I6.loc
      have hn : s6.heap.Ns ce.locals m := hn
      rw [cL] at hn
      exact fin0 D sa.heap.objs.size s6 m H5 I7 qq hn (Ia.fpOk (Nat.le_refl _) nC)
    · refine thnF (T.item (X.blk sa Ha scope ce fp) rfl rfl rfl hc i [] s5 _ H5 (fun _ _ => False) I5 (still I5 n5) st5 on) fun r s6 ⟨u, hr, h6⟩ => ?_
      subst hr
      refine thnF h6 fun _ s7 ⟨x, H7, I7, r7, y7, st7, n7⟩ => ?_
      refine thnF (pg.run _ s7 _ H7 x u _ (I7.pinned (still I7 n7) (T.obj _ _ st7)) r7 (step x H7 y7)) fun _ s8 ⟨σ8, H8, I8, hw8, q8⟩ => ?_
      refine thnF (pt.run _ s8 σ8 H8 _ I8 q8) fun b s9 ⟨H9, I9, q9⟩ => ?_
      have back : ∀ {s' : Shared} {H' : Hp}, Inv (X.blk sa Ha scope ce fp) ([] ++ pinsAt fp s7.heap) σ8 H' s' → Nx H' → ∃ m, m < n ∧ ∃ i H', Inv (X.blk sa Ha scope ce fp) [] (wipe σ (own.map (·.2))) H' s' ∧ tn i s'.heap ∧ (∀ b ∈ fp, H' b = none) ∧ W i m H' := fun {s' H'} I' nx => by
        obtain ⟨m', hm, w'⟩ := hNx H' nx
        have held : ∀ b ∈ fp, ∀ o, s7.heap.get? b = some o → s'.heap.get? b = some o ∧ H' b = none := fun b hb o e =>
          let z := I'.pin (b, o) (List.mem_append_right _ (List.mem_append_right _ (mem_pinsAt hb e)))
          ⟨z.1, z.2.1⟩
        have hl : (wipe σ (own.map (·.2))).length = σ8.length := by rw [← hw8, wipe_length]
        refine ⟨m', hm, i + 1, H', (I'.unpinned (pins := [])).weak hl (fun j v e => ?_), T.keep _ _ _ st7 fun b hb o e => (held b hb o e).1, fun b hb => let ⟨o, e, _⟩ := T.obj _ _ st7 b hb; (held b hb o e).2, w'⟩
        rw [← hw8] at e
        exact (wipe_some e).1
      cases b with
      | false =>
        simp only [Bool.false_eq_true, if_false] at q9 ⊢
        exact back I9 q9
      | true =>
        simp only [if_true] at q9 ⊢
        refine thnF (pe.run _ s9 σ8 H9 _ I9 q9) fun z s10 ⟨yv, H10, I10, r10, cb, S0, n0, ey, hD10, hz10, nx⟩ => ?_
        subst ey
        have add := mt_sadd (X := X.blk sa Ha scope ce fp) _ s10 σ8 H10 (.ref D) [.int cb] (.ref D) [z] (fun _ H' => Nx H') I10 rfl (.cons r10 .nil) ⟨D, cb, S0, n0, rfl, rfl, hD10, hz10, nx⟩
        exact thnF add fun _ s11 ⟨_, H11, I11, _, nx'⟩ => back I11 nx'
  exact PpSet.codeAny_compStart_set loop (T.self X.A 0 _ _ _ stb loop)
/-- the set as a value -/
theorem pe_sci {elt tgt itr : Expr} {tests : List Expr} {scope : Scope} {own : List (PySem.Str × Nat)} {pos : Pos} {ti : TI} {tg : TG} {tt : TT} {te : TE} (hc : X.calm = true) (hN : X.N.Nodup) (hi : PI X tgt itr ti) (ok : BlkOk X.N X.env.scope scope own)
    (hg : ∀ (s' : Shared) (H' : Hp) (C : Addr) (cl : List (PySem.Str × Addr)) (fp : List Addr), PG (X.blk s' H' scope (compEnvC scope cl C X.env) fp) tgt tg)
    (ht : ∀ (s' : Shared) (H' : Hp) (C : Addr) (cl : List (PySem.Str × Addr)) (fp : List Addr), PTs (X.blk s' H' scope (compEnvC scope cl C X.env) fp) tests tt)
    (he : ∀ (s' : Shared) (H' : Hp) (C : Addr) (cl : List (PySem.Str × Addr)) (fp : List Addr), PE (X.blk s' H' scope (compEnvC scope cl C X.env) fp) elt te) (hs : ∀ x, foldedSetIterable itr X.env x = pure x := by intro _; rfl) :
    PE X (.SetComp elt [⟨tgt, itr, tests, 0⟩] scope pos) (tSci X.w ti tg tt te (own.map (·.2))) := ⟨fun pins s σ H Q Iv h => by
  rw [PpSet.eval_SetComp]
  refine sci_core hc hN Iv hi ok hg ht he hs h fun D C s' m H' I' q hn f => ⟨m, hn, fun h'' sb => ?_⟩
  obtain ⟨f0, f1, f2, f3, f4, f5⟩ := f
  exact ⟨.ref D, H', I'.turned (t' := s'.toks) (fun b o hb e => (sb.2 b hb).trans e) f0 f1 f3 f4 f5, rfl, q⟩⟩
end

def aSS (I : DI) (G : DG) (T : DT) (E : DE) (vs : List Nat) : DA := fun s w => (I s w).bind fun ds w1 => if ds.length ≤ lim then (lcD G T E ds (wipeS s vs) w1).noer.bind fun ys w2 => match ints? ys with
  | some ns => if ns.length < 1000 then .ok ((sset ns).map .int) w2 else .no
  | none => .no
  else .no
section
variable {X : Cx} {mg : Str → Option Value} {W : WX} {elt itr tgt a : Expr} {es tests : List Expr} {pos : Pos} {σ : L2.St} {H : Hp} {wa : Addr} {Hf : Hp}
theorem int_of {y : D} {ys : List D} {us : List Int} (h : y :: ys = us.map D.int) : ∃ c vs, us = c :: vs ∧ y = .int c ∧ ys = vs.map D.int := by
  cases us with
  | nil => cases h
  | cons c vs => cases h; exact ⟨c, vs, rfl, rfl, rfl⟩
theorem nt_setO {w0 : World} {D : Addr} {S : Int → Bool} {n : Nat} : NT (SetO w0 D S n) := fun _ z => by unfold SetO at z; cases z
theorem nu_setO {w0 : World} {D : Addr} {S : Int → Bool} {n : Nat} : NU (SetO w0 D S n) := ⟨nt_setO, fun _ z => by unfold SetO at z; cases z⟩
theorem ss_ok {w0 : World} {I : DI} {G : DG} {T : DT} {E : DE} {vs : List Nat} {Q : VK} (h : lfL mg W (aSS I G T E vs) σ H Q) : tCB (rSortedSetN w0) (tCons (tSci w0 (lI mg W I) (lG vs G) (lT mg W0 T) (lE mg W0 E) vs) tNil) σ H Q := by
  obtain ⟨wa, Hf, sD, w, hb, hs, h⟩ := h
  refine ⟨wa, Hf, sD, w, hb, hs, h.bind.mono (fun ds w1 H1 Hf1 g1 b1 q J wk D hD => ?_) (fun _ _ _ _ _ _ q => q)⟩
  have hs1 := (hs.go g1).wipe vs
  split at q
  · rename_i hz
    cases el : lcD G T E ds (wipeS sD vs) w1 with
    | er x w2 => rw [el] at q; exact q.elim
    | no => rw [el] at q; exact q.elim
    | ok total wF =>
      rw [el] at q
      simp only [R.noer, R.bind_ok] at q
      cases en : ints? total with
      | none => rw [en] at q; exact q.elim
      | some ns =>
      rw [en] at q
      dsimp only at q
      split at q
      · rename_i h64
        have etot := ints?_some en
        have hDw : D ≠ wa := fun z => by rw [z, b1.well] at hD; cases hD
        have hDf : Hf1 D = none := Evl.fresh_back b1.ex hD
        refine ⟨fun i m H2 => m = ds.length - i ∧ i ≤ ds.length ∧ ∃ Hf2 w2 S n, ∃ acc us : List Int, Go wa H1 Hf1 H2 Hf2 ∧ Base wa Hf2 H2 w2 ∧ H2 D = some (SetO w0 D S n) ∧ Hf2 D = none ∧ (∀ k, S k = true ↔ k ∈ acc) ∧ n = (sset acc).length ∧ acc.length + us.length = ns.length ∧ lcD G T E (ds.drop i) (wipeS sD vs) w2 = .ok (us.map .int) wF ∧ ∀ k, (k ∈ acc ∨ k ∈ us) ↔ k ∈ ns,
          ⟨ds.length, by simp, Nat.zero_le _, Hf1, w1, _, _, [], ns, Go.new1 hD, b1.new1 hD, upd_same, hDf, by simp, rfl, by simp, by rw [List.drop_zero, el, etot], by simp⟩, ?_⟩
        rintro i m H2 ⟨rfl, hi, Hf2, w2, S, n, acc, us, g2, b2, hD2, hDf2, hS, hn, hlen, e2, hk⟩
        by_cases hlt : i < ds.length
        · have ed : ds.drop i = ds[i] :: ds.drop (i + 1) := List.drop_eq_getElem_cons hlt
          rw [ed] at e2
          have gi : ds[i]? = some ds[i] := by simp [hlt]
          refine .inr ⟨wk.goes i H2 hlt (g2.ex.trans b2.ex), fun H' => ∃ Hf2 w2 S n, ∃ acc us : List Int, Go wa H1 Hf1 H' Hf2 ∧ Base wa Hf2 H' w2 ∧ H' D = some (SetO w0 D S n) ∧ Hf2 D = none ∧ (∀ k, S k = true ↔ k ∈ acc) ∧ n = (sset acc).length ∧ acc.length + us.length = ns.length ∧ lcD G T E (ds.drop (i + 1)) (wipeS sD vs) w2 = .ok (us.map .int) wF ∧ ∀ k, (k ∈ acc ∨ k ∈ us) ↔ k ∈ ns,
            fun H' hN => ⟨ds.length - (i + 1), by omega, rfl, hlt, hN⟩, fun x H3 hy => ?_⟩
          obtain ⟨Hf3, g3, b3, r3⟩ := wk.yields i H2 Hf2 w2 x H3 _ gi g2.ex b2 hy
          have hD3 := g3.keepN D _ hDw nt_setO hD2
          have hDf3 : Hf3 D = none := (g3.newN D _ nu_setO hD2).trans hDf2
          unfold lcD at e2
          cases eg : G ds[i] (wipeS sD vs) with
          | none => rw [eg] at e2; cases e2
          | some s1 =>
            rw [eg] at e2
            dsimp only at e2
            refine ⟨wa, Hf3, fun _ => none, w2, wipeS sD vs, ds[i], s1, b3, r3, (hs1.go g2).go g3, fun _ _ _ _ _ _ => .of rfl, eg, fun σ4 hs4 _ hw4 => ⟨hw4.trans (wipe_wipe vs), ?_⟩⟩
            cases et : T s1 w2 with
            | er y u => rw [et] at e2; cases e2
            | no => rw [et] at e2; cases e2
            | ok bb w5 =>
              rw [et] at e2
              refine ⟨wa, Hf3, s1, w2, b3, hs4, ?_⟩
              rw [et]
              intro H5 Hf5 g5 b5 v5 rv5
              have ev5 : v5 = bb := rv5
              subst ev5
              have hD5 := g5.keepN D _ hDw nt_setO hD3
              have hDf5 : Hf5 D = none := (g5.newN D _ nu_setO hD3).trans hDf3
              cases v5 with
              | false =>
                refine iteF ?_
                have e3 : lcD G T E (ds.drop (i + 1)) (wipeS sD vs) w5 = .ok (us.map .int) wF := by simpa [R.noer, R.bind] using e2
                exact ⟨Hf5, w5, S, n, acc, us, (g2.trans g3).trans g5, b5, hD5, hDf5, hS, hn, hlen, e3, hk⟩
              | true =>
                refine iteT ?_
                have e3 : ((E s1 w5).noer.bind fun y w2 => (lcD G T E (ds.drop (i + 1)) (wipeS sD vs) w2).bind fun ys w3 => .ok (y :: ys) w3) = R.ok (us.map .int) wF := by simpa [R.noer, R.bind] using e2
                cases ee : E s1 w5 with
                | er y u => rw [ee] at e3; cases e3
                | no => rw [ee] at e3; cases e3
                | ok y w6 =>
                  rw [ee] at e3
                  refine ⟨wa, Hf5, s1, w5, b5, hs4.go g5, ?_⟩
                  rw [ee]
                  intro H6 Hf6 g6 b6 v6 r6
                  have hD6 := g6.keepN D _ hDw nt_setO hD5
                  have hDf6 : Hf6 D = none := (g6.newN D _ nu_setO hD5).trans hDf5
                  have e4 : ((lcD G T E (ds.drop (i + 1)) (wipeS sD vs) w6).bind fun ys w3 => .ok (y :: ys) w3) = R.ok (us.map .int) wF := by simpa [R.noer, R.bind] using e3
                  cases er : lcD G T E (ds.drop (i + 1)) (wipeS sD vs) w6 with
                  | er y u => rw [er] at e4; cases e4
                  | no => rw [er] at e4; cases e4
                  | ok zs w7 =>
                    rw [er] at e4
                    simp only [R.bind_ok, R.ok.injEq] at e4
                    obtain ⟨e4, rfl⟩ := e4
                    obtain ⟨c, us', rfl, rfl, rfl⟩ := int_of e4
                    cases r6
                    have l1 := sset_len acc
                    simp only [List.length_cons] at hlen
                    refine ⟨c, S, n, rfl, hD6, by unfold scanBound; omega, Hf6, w6, _, _, c :: acc, us', ?_, ?_, upd_same, hDf6, fun k => ?_, ?_, by simp; omega, er, fun k => ?_⟩
                    · have gg := ((g2.trans g3).trans g5).trans g6
                      exact gg.appF (.of hD)
                    · exact ⟨Evl.Ex.mut b6.ex hDf6, by rw [upd_ne (Ne.symm hDw)]; exact b6.well, b6.nw, tabs_nil, b6.nt, b6.od⟩
                    · rw [Bool.or_eq_true, decide_eq_true_eq, hS, List.mem_cons, or_comm]
                    · show (if S c = true then n else n + 1) = (insS c (sset acc)).length
                      split
                      · rename_i hc
                        rcases mem_len (mem_sset.mpr ((hS c).mp hc)) with e | e
                        · rw [e, hn]
                        · exact absurd (lt_sset acc) e
                      · rename_i hc
                        rw [nmem_len fun z => hc ((hS c).mpr (mem_sset.mp z)), hn]
                    · rw [← hk k, List.mem_cons, List.mem_cons]
                      constructor
                      · rintro ((h | h) | h)
                        · exact .inr (.inl h)
                        · exact .inl h
                        · exact .inr (.inr h)
                      · rintro (h | h | h)
                        · exact .inl (.inr h)
                        · exact .inl (.inl h)
                        · exact .inr h
        · have ei : i = ds.length := by omega
          subst ei
          rw [List.drop_length] at e2
          have e5 : us = [] ∧ w2 = wF := by
            simp only [lcD, R.ok.injEq] at e2
            exact ⟨(by cases us with | nil => rfl | cons _ _ => cases e2.1), e2.2⟩
          obtain ⟨rfl, rfl⟩ := e5
          have l1 := sset_len acc
          simp only [List.length_nil, Nat.add_zero] at hlen
          refine .inl ⟨wk.stops H2 (g2.ex.trans b2.ex), D, S, n, rfl, hD2, fun ns' p hp hm hl hn' => ?_⟩
          have e6 : ns' = sset ns := asc_ext hp (lt_sset ns) fun k => by
            rw [hm, hS, mem_sset, ← hk k]
            simp
          subst e6
          have hpw : p ≠ wa := fun z => by rw [z, b2.well] at hn'; cases hn'
          exact q _ Hf2 (g2.appF (g2.free hn')) (b2.new1 hn') p _ (g1.fr (g2.free hn')) upd_same (Evl.fresh_back b2.ex hn') hpw Reps.of_ints
      · exact q.elim
  · exact q.elim
/-- sorted({elt for tg in iter if ..}) -/
theorem pl_ss {scope : Scope} {own : List (Str × Nat)} {I : DI} {G : DG} {T : DT} {E : DE} {p pos2 : Pos} (hgs : Gl X "sorted") (hms : X.mg "sorted" = none) (hc : X.calm = true) (hN : X.N.Nodup) (hi : PI X tgt itr (lI mg W I)) (ok : BlkOk X.N X.env.scope scope own)
    (hg : ∀ (s : Shared) (H : Hp) (C : Addr) (cl : List (Str × Addr)) (fp : List Addr), PG (X.blk s H scope (compEnvC scope cl C X.env) fp) tgt (lG (own.map (·.2)) G)) (ht : ∀ (s : Shared) (H : Hp) (C : Addr) (cl : List (Str × Addr)) (fp : List Addr), PTs (X.blk s H scope (compEnvC scope cl C X.env) fp) tests (lT mg W0 T))
    (he : ∀ (s : Shared) (H : Hp) (C : Addr) (cl : List (Str × Addr)) (fp : List Addr), PE (X.blk s H scope (compEnvC scope cl C X.env) fp) elt (lE mg W0 E)) (hs : ∀ x, foldedSetIterable itr X.env x = pure x := by intro _; rfl) :
    PE X (.Call (.Name "sorted" p) [.SetComp elt [⟨tgt, itr, tests, 0⟩] scope pos] [] pos2) (lfL mg W (aSS I G T E (own.map (·.2)))) := weakE (pe_callB (cr_sortedSetN hc) hgs hms (by decide +kernel) (pa_cons (pe_sci hc hN hi ok hg ht he hs) pa_nil)) fun _ _ _ q => ss_ok q
end
end DL

set_option maxHeartbeats 2000000
namespace DL
open PySem PySem.Spec PyProof.Rows L2
variable [TabT] [OldT]
/-! ### an element of an own list, by its number -/
def eIxO (i : Nat) (B : DE) : DE := fun s w => match s[i]? with
  | some (some (.own xs)) => (B s w).bind fun k w1 => match k with
    | .int k => opt (atI xs k) w1
    | _ => .no
  | _ => .no
section
variable {X : Cx} {mg : Str → Option Value} {W : WX} {a b : Expr} {pos : Pos} {B : DE}
theorem pd_ixO {i : Nat} (ha : PE X a (tVar i)) (hb : PE X b (lE mg W B)) (hs : PlainIx b := by exact fun _ _ => rfl) : PE X (.Subscript a b pos) (lE mg W (eIxO i B)) := weakE (pe_ix ix_list ha hb hs) fun σ H Q h => by
  obtain ⟨wa, Hf, sD, w, hB, hs, h⟩ := h
  unfold eIxO at h
  split at h
  · rename_i xs hi
    obtain ⟨p, vs, k1, k2, k3, k4, k5⟩ := hs.own i xs hi
    refine ⟨.ref p, k1, wa, Hf, sD, w, hB, hs, h.bind.mono (fun k w1 H1 Hf1 g1 b1 q v rv => ?_) (fun _ _ _ _ _ _ q => q)⟩
    split at q
    · cases rv
      obtain ⟨z, e, q3⟩ := q.opt
      obtain ⟨v, e2, r2⟩ := atI_rep (k5.mono g1.ex) e
      exact ⟨p, vs, _, v, rfl, rfl, SqL.of (g1.keep p _ k4 k2), e2, q3 _ _ Go.refl b1 v r2⟩
    · exact q.elim
  · exact h.elim
end
theorem okE_ixO {i : Nat} {B : DE} {s : Sl} {w : Wl} {Q : D → Wl → Prop} {xs : List D} (h : s[i]? = some (some (.own xs))) : okE (eIxO i B s w) Q = okE (B s w) fun k w1 => match k with | .int k => okO (atI xs k) fun z => Q z w1 | _ => False := by
  unfold eIxO
  rw [h]
  simp only [okE_bind]
  congr
  funext k w1
  cases k <;> simp
end DL

set_option maxHeartbeats 2000000
namespace DL
open PySem PySem.Spec PyProof.Rows L2
variable [TabT] [OldT]
open Evl (Ex)
/-! ### dicts: keys and what stands at them -/
theorem units1 {k : Nat} {A : Around} (r : Room k A) : A.units + 1 < cLine := by have := r.un; omega
/-- a call that never comes -/
def eNo : DE := fun _ _ => .no
theorem pd_no {X : Cx} {mg : Str → Option Value} {W : WX} {e : Expr} : PE X e (lE mg W eNo) := ⟨fun pins s σ H Q I h => by
  obtain ⟨wa, Hf, sD, w, hb, hs, h⟩ := h
  exact h.elim⟩
theorem keyT_inj {k j : List Int} : keyT k = keyT j ↔ k = j := by
  unfold keyT
  constructor
  · intro h
    induction k generalizing j with
    | nil => cases j with
      | nil => rfl
      | cons _ _ => cases h
    | cons a k ih => cases j with
      | nil => cases h
      | cons b j =>
        simp only [List.map_cons, List.cons.injEq, Sum.inl.injEq] at h
        rw [h.1, ih h.2]
  · intro h; rw [h]
def nilK (k : Bool) : DKs := if k then .t [] else .k []
def DKs.many : DKs → Nat
  | .t ks => ks.length
  | .k ks => ks.length
def keyK? : D → Option Key
  | .int i => some (.inl i)
  | .str x => some (.inr x)
  | _ => none
def keyT? : D → Option (List Int)
  | .tup ds => ints? ds
  | _ => none
def intK? : List Key → Option (List Int)
  | [] => some []
  | .inl i :: r => (intK? r).map (i :: ·)
  | _ => none
theorem intK?_some : ∀ {ks : List Key} {ns : List Int}, intK? ks = some ns → ks = ns.map Sum.inl
  | [], _, h => by cases h; rfl
  | .inl i :: r, ns, h => by
    unfold intK? at h
    obtain ⟨m, hm, rfl⟩ := Option.map_eq_some_iff.mp h
    rw [intK?_some hm]
    rfl
  | .inr _ :: _, _, h => by cases h
@[simp] theorem intK?_map : ∀ {ns : List Int}, intK? (ns.map Sum.inl) = some ns
  | [] => rfl
  | n :: ns => by rw [List.map_cons]; unfold intK?; rw [intK?_map]; rfl
section
variable {κ : Type} [DecidableEq κ]
/-- what stands at j, if something -/
def getG : List κ → List D → κ → Option D
  | k :: ks, x :: xs, j => if k = j then some x else getG ks xs j
  | _, _, _ => none
/-- what stands there behind a put -/
def setG : List κ → List D → κ → D → List D
  | k :: ks, x :: xs, j, d => (if k = j then d else x) :: setG ks xs j d
  | _, _, _, _ => []
def putG (ks : List κ) (xs : List D) (j : κ) (d : D) : List κ × List D := if j ∈ ks then (ks, setG ks xs j d) else (ks ++ [j], xs ++ [d])
variable {κ' : Type} [DecidableEq κ'] {wa : Addr} {Hf : Hp} {f : κ → κ'}
theorem getG_rep (hf : ∀ a b, f a = f b → a = b) : ∀ {kvs : List (κ' × V)} {ks : List κ} {xs : List D}, kvs.map (·.1) = ks.map f → Reps wa Hf (kvs.map (·.2)) xs → ∀ j : κ, (valV kvs (f j) = none ∧ getG ks xs j = none) ∨ ∃ v d, valV kvs (f j) = some v ∧ getG ks xs j = some d ∧ Rep wa Hf v d
  | [], [], _, _, _, _ => .inl ⟨rfl, rfl⟩
  | [], _ :: _, _, h, _, _ => by cases h
  | _ :: _, [], _, h, _, _ => by cases h
  | p :: kvs, a :: ks, xs, h, r, j => by
    simp only [List.map_cons, List.cons.injEq] at h
    simp only [List.map_cons] at r
    cases r with
    | cons r1 r2 =>
      rename_i x xs
      unfold getG
      by_cases ha : a = j
      · rw [if_pos ha, valV_pos (by rw [h.1, ha])]
        exact .inr ⟨_, _, rfl, rfl, r1⟩
      · rw [if_neg ha, valV_neg (fun z => ha (hf _ _ (by rw [← h.1]; exact z)))]
        exact getG_rep hf h.2 r2 j
theorem putG_rep (hf : ∀ a b, f a = f b → a = b) {kvs : List (κ' × V)} {ks : List κ} {xs : List D} {j : κ} {v : V} {d : D} (h : kvs.map (·.1) = ks.map f) (r : Reps wa Hf (kvs.map (·.2)) xs) (rv : Rep wa Hf v d) :
    (putK kvs (f j) v).map (·.1) = (putG ks xs j d).1.map f ∧ Reps wa Hf ((putK kvs (f j) v).map (·.2)) (putG ks xs j d).2 := by
  have ha : ∀ {kvs : List (κ' × V)} {ks : List κ}, kvs.map (·.1) = ks.map f → ((kvs.any fun kv => decide (kv.1 = f j)) = true ↔ j ∈ ks) := by
    intro kvs
    induction kvs with
    | nil => intro ks h; cases ks with
      | nil => simp
      | cons _ _ => cases h
    | cons p kvs ih =>
      intro ks h
      cases ks with
      | nil => cases h
      | cons k ks =>
        simp only [List.map_cons, List.cons.injEq] at h
        rw [List.any_cons, Bool.or_eq_true, ih h.2, List.mem_cons, h.1, decide_eq_true_eq]
        constructor
        · rintro (e | e)
          · exact .inl (hf _ _ e).symm
          · exact .inr e
        · rintro (e | e)
          · exact .inl (by rw [e])
          · exact .inr e
  unfold putK putG
  by_cases hj : j ∈ ks
  · rw [if_pos ((ha h).mpr hj), if_pos hj]
    have key : ∀ {kvs : List (κ' × V)} {ks : List κ} {xs : List D}, kvs.map (·.1) = ks.map f → Reps wa Hf (kvs.map (·.2)) xs → (kvs.map fun kv => if kv.1 = f j then (kv.1, v) else kv).map (·.1) = ks.map f ∧ Reps wa Hf ((kvs.map fun kv => if kv.1 = f j then (kv.1, v) else kv).map (·.2)) (setG ks xs j d) := by
      intro kvs
      induction kvs with
      | nil => intro ks xs h r; cases ks with
        | nil => cases r; exact ⟨rfl, .nil⟩
        | cons _ _ => cases h
      | cons p kvs ih =>
        intro ks xs h r
        cases ks with
        | nil => cases h
        | cons k ks =>
          simp only [List.map_cons, List.cons.injEq] at h
          simp only [List.map_cons] at r
          cases r with
          | cons r1 r2 =>
            obtain ⟨i1, i2⟩ := ih h.2 r2
            rw [List.map_cons, List.map_cons, List.map_cons, List.map_cons]
            unfold setG
            by_cases hk : k = j
            · rw [if_pos (by rw [h.1, hk]), if_pos hk]
              exact ⟨by rw [i1, h.1], .cons rv i2⟩
            · rw [if_neg (fun z => hk (hf _ _ (by rw [← h.1]; exact z))), if_neg hk]
              exact ⟨by rw [i1, h.1], .cons r1 i2⟩
    exact key h r
  · rw [if_neg (fun z => hj ((ha h).mp z)), if_neg hj]
    constructor
    · rw [List.map_append, List.map_append, h]; rfl
    · rw [List.map_append]
      exact r.append (.cons rv .nil)
end
/-- what a dict has at a key: none if the key is not of its kind -/
def getD (ks : DKs) (xs : List D) (kd : D) : Option (Option D) := match ks with
  | .t ks => (keyT? kd).map fun k => getG ks xs k
  | .k ks => (keyK? kd).map fun k => getG ks xs k
def putD (ks : DKs) (xs : List D) (kd d : D) : Option (DKs × List D) := match ks with
  | .t ks => (keyT? kd).map fun k => (.t (putG ks xs k d).1, (putG ks xs k d).2)
  | .k ks => (keyK? kd).map fun k => (.k (putG ks xs k d).1, (putG ks xs k d).2)
section
variable {wa : Addr} {Hf H : Hp} {w : Wl}
theorem key_rep {v : V} {ns : List Int} (r : Rep wa Hf v (.tup (ns.map .int))) : ∃ b, v = .ref b ∧ Hf b = some (.tup ((keyT ns).map kV)) := by
  cases r with
  | tup h1 r1 =>
    have e := r1.ints
    subst e
    refine ⟨_, rfl, ?_⟩
    rw [h1]
    unfold keyT
    rw [List.map_map]
    rfl
theorem keyT?_rep {v : V} {kd : D} {k : List Int} (r : Rep wa Hf v kd) (h : keyT? kd = some k) : ∃ b, v = .ref b ∧ Hf b = some (.tup ((keyT k).map kV)) := by
  unfold keyT? at h
  split at h
  · have := ints?_some h
    subst this
    exact key_rep r
  · cases h
theorem keyK?_rep {v : V} {kd : D} {k : Key} (r : Rep wa Hf v kd) (h : keyK? kd = some k) : v = kV k := by
  unfold keyK? at h
  split at h
  · cases h; cases r; rfl
  · cases h; cases r; rfl
  · cases h
def RepO (wa : Addr) (Hf : Hp) : Option V → Option D → Prop
  | some v, some d => Rep wa Hf v d
  | none, none => True
  | _, _ => False
theorem dic_get {p : Addr} {o : HO} {ks : DKs} {xs : List D} {kd : D} {v : V} {z : Option D} (b : Base wa Hf H w) (r : DicR wa Hf o ks xs) (hp : Rd H p o) (rv : Rep wa Hf v kd) (h : getD ks xs kd = some z) : ∃ z', DGet H p v z' ∧ RepO wa Hf z' z := by
  cases r with
  | t hk r =>
    unfold getD at h
    obtain ⟨k, hkd, rfl⟩ := Option.map_eq_some_iff.mp h
    obtain ⟨bb, rfl, hb⟩ := keyT?_rep rv hkd
    refine ⟨_, .inr ⟨_, keyT k, bb, hp, rfl, b.ex _ _ hb, rfl⟩, ?_⟩
    rcases getG_rep (f := keyT) (fun a b => keyT_inj.mp) hk r k with ⟨e1, e2⟩ | ⟨u, d, e1, e2, e3⟩
    · rw [e1, e2]; trivial
    · rw [e1, e2]; exact e3
  | k hk r =>
    unfold getD at h
    obtain ⟨k, hkd, rfl⟩ := Option.map_eq_some_iff.mp h
    have e := keyK?_rep rv hkd
    refine ⟨_, .inl ⟨_, k, hp, e, rfl⟩, ?_⟩
    rcases getG_rep (f := fun x : Key => x) (fun a b e => e) (hk.trans (List.map_id' _).symm) r k with ⟨e1, e2⟩ | ⟨u, d, e1, e2, e3⟩
    · rw [e1, e2]; trivial
    · rw [e1, e2]; exact e3
theorem dic_put {p : Addr} {o : HO} {ks : DKs} {xs : List D} {kd d : D} {v u : V} {z : DKs × List D} (b : Base wa Hf H w) (r : DicR wa Hf o ks xs) (hp : H p = some o) (rv : Rep wa Hf u kd) (rd : Rep wa Hf v d) (hl : ks.many < lim) (h : putD ks xs kd d = some z) :
    ∃ o', DPut H p u v (upd H p o') ∧ DicR wa Hf o' z.1 z.2 := by
  cases r with
  | t hk r =>
    rename_i kvs ks
    unfold putD at h
    obtain ⟨k, hkd, rfl⟩ := Option.map_eq_some_iff.mp h
    obtain ⟨bb, rfl, hb⟩ := keyT?_rep rv hkd
    have hl2 : kvs.length < sizeLine := Nat.lt_of_lt_of_le (by have := congrArg List.length hk; simp only [List.length_map] at this; rw [this]; exact hl) (lim_le (Nat.le_refl _))
    obtain ⟨p1, p2⟩ := putG_rep (f := keyT) (fun a b => keyT_inj.mp) (j := k) hk r rd
    exact ⟨_, .inr ⟨kvs, keyT k, bb, hp, rfl, b.ex _ _ hb, hl2, rfl⟩, .t p1 p2⟩
  | k hk r =>
    rename_i kvs ksK
    unfold putD at h
    obtain ⟨k, hkd, rfl⟩ := Option.map_eq_some_iff.mp h
    have e := keyK?_rep rv hkd
    have hl2 : kvs.length < sizeLine := Nat.lt_of_lt_of_le (by have := congrArg List.length hk; simp only [List.length_map] at this; rw [this]; exact hl) (lim_le (Nat.le_refl _))
    obtain ⟨p1, p2⟩ := putG_rep (f := fun x : Key => x) (fun a b e => e) (j := k) (hk.trans (List.map_id' _).symm) r rd
    exact ⟨_, .inl ⟨kvs, k, hp, e, hl2, rfl⟩, .k (p1.trans (List.map_id' _)) p2⟩
theorem tabs_updD {T : List (PySem.Addr × PySem.Str)} {p : Addr} {o o0 : HO} {ks : DKs} {xs : List D} (t : LamX.Tabs T H) (h : H p = some o0) (r : DicR wa Hf o0 ks xs) : LamX.Tabs T (upd H p o) := fun q hq => by
  obtain ⟨ps, h1, h2, h3⟩ := t q hq
  have n1 : q.1 ≠ p := fun z => by
    rw [z, h] at h1
    cases r <;> cases h1
  refine ⟨ps, by rw [upd_ne n1]; exact h1, h2, fun pos cv hc => ?_⟩
  obtain ⟨c, e1, e2⟩ := h3 pos cv hc
  have n2 : c ≠ p := fun z => by
    rw [z, h] at e2
    have := Option.some.inj e2
    unfold LamX.CodeO at this
    cases r <;> cases this
  exact ⟨c, e1, by rw [upd_ne n2]; exact e2⟩
theorem Base.appD {p : Addr} {o o0 : HO} {ks : DKs} {xs : List D} (b : Base wa Hf H w) (h : Hf p = none) (hw : p ≠ wa) (hp : H p = some o0) (r : DicR wa Hf o0 ks xs) : Base wa Hf (upd H p o) w :=
  ⟨Evl.Ex.mut b.ex h, by rw [upd_ne (Ne.symm hw)]; exact b.well, b.nw, tabs_updD b.tb hp r, b.nt, b.od⟩
end
end DL

set_option maxHeartbeats 2000000
namespace DL
open PySem PySem.Spec PyProof.Rows L2
variable [TabT] [OldT]
open Evl (Ex)
/-! ### dicts that only their slot knows: put, get, in, sorted -/
section
variable {X : Cx} {mg : Str → Option Value} {W : WX} {st : Stmt} {e : Expr} {A E : DE} {i : Nat}
theorem Fin.past {α : Type} {wa : Addr} {Hf H Hf' H' : Hp} {r : R α} {Ok : α → Wl → Hp → Hp → Prop} {Er : Exn → Wl → Hp → Hp → Prop} (g : Go wa H Hf H' Hf') (h : Fin wa Hf H r Ok Er) : Fin wa Hf' H' r Ok Er := by
  cases r with
  | ok a w1 => exact fun H1 Hf1 g1 b => h H1 Hf1 (g.trans g1) b
  | er x w1 => exact fun H1 Hf1 g1 b => h H1 Hf1 (g.trans g1) b
  | no => exact h
/-- a new dict, in a row of values -/
def mDct (k : Bool) (As : DA) : DA := fun s w => (As s w).bind fun xs w2 => .ok (.dct (nilK k) [] :: xs) w2
theorem md_dctT {a : Expr} {es : List Expr} {As : DA} (ha : PE X a tDNewT) (hr : PA X es (lM mg W As)) (hs : starEach (a :: es) X.env = (false, eval a X.env) :: starEach es X.env := by rfl) : PA X (a :: es) (lM mg W (mDct true As)) := weakA (pa_cons ha hr hs) fun σ H Q h => by
  obtain ⟨wa, Hf, sD, w, hb, hs, h⟩ := h
  intro p hp
  have g1 : Go wa H Hf (upd H p (.dT [])) Hf := Go.new1 hp
  have hf : Hf p = none := Evl.fresh_back hb.ex hp
  refine ⟨wa, Hf, sD, w, hb.new1 hp, hs.go g1, (h.bind.past g1).mono (fun y w2 H2 Hf2 g2 b2 q2 v2 ps rv2 hn => ?_) (fun _ _ _ _ _ _ q => q)⟩
  have hpp : p ∉ ps := fun m => hn p m _ upd_same nt_dT
  refine q2.here b2 _ (p :: ps) (.dct (ks := .t []) (xs := []) (g2.keepN p _ (ne_of_none hb.well hp).symm nt_dT upd_same) (.t rfl .nil) ((g2.newN p _ nu_dT upd_same).trans hf) (ne_of_none hb.well hp).symm hpp rv2) fun z m => ?_
  rcases List.mem_cons.mp m with e | m
  · rw [e]; exact (Go.refl (Hf := Hf) (wa := wa)).free hp
  · exact g1.fr (hn z m)
theorem md_dctK {a : Expr} {es : List Expr} {As : DA} (ha : PE X a tDNewK) (hr : PA X es (lM mg W As)) (hs : starEach (a :: es) X.env = (false, eval a X.env) :: starEach es X.env := by rfl) : PA X (a :: es) (lM mg W (mDct false As)) := weakA (pa_cons ha hr hs) fun σ H Q h => by
  obtain ⟨wa, Hf, sD, w, hb, hs, h⟩ := h
  intro p hp
  have g1 : Go wa H Hf (upd H p (.dK [])) Hf := Go.new1 hp
  have hf : Hf p = none := Evl.fresh_back hb.ex hp
  refine ⟨wa, Hf, sD, w, hb.new1 hp, hs.go g1, (h.bind.past g1).mono (fun y w2 H2 Hf2 g2 b2 q2 v2 ps rv2 hn => ?_) (fun _ _ _ _ _ _ q => q)⟩
  have hpp : p ∉ ps := fun m => hn p m _ upd_same nt_dK
  refine q2.here b2 _ (p :: ps) (.dct (ks := .k []) (xs := []) (g2.keepN p _ (ne_of_none hb.well hp).symm nt_dK upd_same) (.k rfl .nil) ((g2.newN p _ nu_dK upd_same).trans hf) (ne_of_none hb.well hp).symm hpp rv2) fun z m => ?_
  rcases List.mem_cons.mp m with e | m
  · rw [e]; exact (Go.refl (Hf := Hf) (wa := wa)).free hp
  · exact g1.fr (hn z m)
/-- x = {} -/
def sNewD (k : Bool) (i : Nat) : DS := fun s w => .nx (s.set i (some (.dct (nilK k) []))) w
theorem newD_ok {k : Bool} {D : Ends} {σ : L2.St} {H : Hp} {p : Addr} {o : HO} (h : lS mg W (sNewD k i) D σ H) (hp : H p = none) (ho' : ∀ wa Hf, DicR wa Hf o (nilK k) []) : D.nx (σ.set i (some (.ref p))) (upd H p o) := by
  obtain ⟨wa, Hf, sD, w, H0, Hf0, g, b, hs, ho, h⟩ := h
  have g1 : Go wa H Hf (upd H p o) Hf := Go.new1 hp
  have hf : Hf p = none := Evl.fresh_back b.ex hp
  refine h _ _ Hf (g.trans g1) (Ex.refl _) (b.new1 hp) ((hs.go g1).setDct upd_same hf (ne_of_none b.well hp).symm (ho' wa Hf) fun j ye hj io hp' => ?_) (ho.setO hs.len (g.free hp))
  obtain ⟨q, o, k1, k2, k3, _⟩ := hs.oAt hj io
  rw [hp'] at k1
  cases k1
  rw [hp] at k2
  cases k2
theorem sd_newDT (h : PS X st (tAsg tDNewT (gName i))) : PS X st (lS mg W (sNewD true i)) := weakS h fun D σ H h p hp => newD_ok h hp fun _ _ => .t rfl .nil
theorem sd_newDK (h : PS X st (tAsg tDNewK (gName i))) : PS X st (lS mg W (sNewD false i)) := weakS h fun D σ H h p hp => newD_ok h hp fun _ _ => .k rfl .nil
/-- x[k] = v -/
def sPutD (i : Nat) (A E : DE) : DS := fun s w => match E s w with
  | .ok d w1 => match A s w1 with
    | .ok kd w2 => match s[i]? with
      | some (some (.dct ks xs)) => match putD ks xs kd d with
        | some r => if ks.many < lim then .nx (s.set i (some (.dct r.1 r.2))) w2 else .no
        | none => .no
      | _ => .no
    | _ => .no
  | _ => .no
theorem sd_putD (h : PS X st (sDPut (tVar i) (lE mg W A) (lE mg W E))) : PS X st (lS mg W (sPutD i A E)) := weakS h fun D σ H h => by
  obtain ⟨wa, Hf, sD, w, H0, Hf0, g, b, hs, ho, h⟩ := h
  unfold sPutD at h
  cases e : E sD w with
  | no => rw [e] at h; exact h.elim
  | er x w1 => rw [e] at h; exact h.elim
  | ok d w1 =>
    rw [e] at h
    dsimp only at h
    cases ea : A sD w1 with
    | no => rw [ea] at h; exact h.elim
    | er x w2 => rw [ea] at h; exact h.elim
    | ok kd w2 =>
      rw [ea] at h
      dsimp only at h
      split at h
      · rename_i ks xs hi
        split at h
        · rename_i r hr
          split at h
          · rename_i hk
            obtain ⟨p, o, k1, k2, k3, k4, k5⟩ := hs.dic i ks xs hi
            refine ⟨wa, Hf, sD, w, b, hs, ?_⟩
            rw [e]
            intro H1 Hf1 g1 b1 v rv
            refine ⟨.ref p, k1, wa, Hf1, sD, w1, b1, hs.go g1, ?_⟩
            rw [ea]
            intro H2 Hf2 g2 b2 u ru
            have g12 := g1.trans g2
            have kp : H2 p = some o := g12.keepN p _ k4 k5.nt k2
            have kf : Hf2 p = none := (g12.newN p _ k5.nu k2).trans k3
            have h0 : Fr H0 p := ho i _ p hi isO_dct k1
            obtain ⟨o', hput, hd'⟩ := dic_put b2 (k5.mono g12.ex) kp ru (rv.mono g2.ex) hk hr
            refine ⟨p, _, rfl, hput, ?_⟩
            refine h σ _ Hf2 ((g.trans g12).appF h0) g12.ex (b2.appD kf k4 kp (k5.mono g12.ex)) ((hs.go g12).writeD hi k1 hd') (ho.sub fun j ye hj io => ?_)
            by_cases hji : j = i
            · subst hji
              exact ⟨_, hi, isO_dct⟩
            · rw [List.getElem?_set_ne (Ne.symm hji)] at hj
              exact ⟨ye, hj, io⟩
          · exact h.elim
        · exact h.elim
      · exact h.elim
/-- x[k], there -/
def eGetD (i : Nat) (A : DE) : DE := fun s w => match s[i]? with
  | some (some (.dct ks xs)) => match A s w with
    | .ok kd w1 => match getD ks xs kd with
      | some (some d) => .ok d w1
      | _ => .no
    | _ => .no
  | _ => .no
theorem pd_getD (h : PE X e (tDGet (tVar i) (lE mg W A))) : PE X e (lE mg W (eGetD i A)) := weakE h fun σ H Q h => by
  obtain ⟨wa, Hf, sD, w, hb, hs, h⟩ := h
  unfold eGetD at h
  split at h
  · rename_i ks xs hi
    obtain ⟨p, o, k1, k2, k3, k4, k5⟩ := hs.dic i ks xs hi
    refine ⟨.ref p, k1, wa, Hf, sD, w, hb, hs, ?_⟩
    cases ea : A sD w with
    | no => rw [ea] at h; exact h.elim
    | er x w2 => rw [ea] at h; exact h.elim
    | ok kd w1 =>
      rw [ea] at h
      dsimp only at h
      split at h
      · rename_i d hd
        intro H1 Hf1 g b v rv
        obtain ⟨z, hg, hz⟩ := dic_get b (k5.mono g.ex) (.inl (g.keepN p _ k4 k5.nt k2)) rv hd
        cases z with
        | none => exact hz.elim
        | some u => exact ⟨p, u, rfl, hg, h H1 Hf1 g b _ hz⟩
      · exact h.elim
  · exact h.elim
/-- k in x -/
def eHasD (i : Nat) (A : DE) : DE := fun s w => match s[i]? with
  | some (some (.dct ks xs)) => match A s w with
    | .ok kd w1 => match getD ks xs kd with
      | some z => .ok (.bl z.isSome) w1
      | none => .no
    | _ => .no
  | _ => .no
theorem hasD_ok {σ : L2.St} {H : Hp} {Q : VK} (h : lE mg W (eHasD i A) σ H Q) : tDIn (lE mg W A) (tVar i) σ H Q := by
  obtain ⟨wa, Hf, sD, w, hb, hs, h⟩ := h
  unfold eHasD at h
  refine ⟨wa, Hf, sD, w, hb, hs, ?_⟩
  split at h
  · rename_i ks xs hi
    obtain ⟨p, o, k1, k2, k3, k4, k5⟩ := hs.dic i ks xs hi
    cases ea : A sD w with
    | no => rw [ea] at h; exact h.elim
    | er x w2 => rw [ea] at h; exact h.elim
    | ok kd w1 =>
      rw [ea] at h
      dsimp only at h
      split at h
      · rename_i z hd
        intro H1 Hf1 g b v rv
        obtain ⟨z', hg, hz⟩ := dic_get b (k5.mono g.ex) (.inl (g.keepN p _ k4 k5.nt k2)) rv hd
        refine ⟨.ref p, k1, p, z', rfl, hg, ?_⟩
        have e : z'.isSome = z.isSome := by cases z <;> cases z' <;> first | rfl | exact hz.elim
        rw [e]
        exact h H1 Hf1 g b _ (.bl _)
      · exact h.elim
  · exact h.elim
theorem pd_hasD (h : PE X e (tDIn (lE mg W A) (tVar i))) : PE X e (lE mg W (eHasD i A)) := weakE h fun σ H Q h => hasD_ok h
theorem qd_hasD {a b : Expr} {pos : Pos} (h : PC X .In a b (tDIn (lE mg W A) (tVar i))) (hm : behindInMarks .In b = false) : PT X (.Compare a [.In] [b] pos) (lT mg W (tE (eHasD i A))) := weakT (pt_cmp h hm) fun σ H Q h => hasD_ok (tE_ok h)
/-- sorted(x) of a dict whose keys are ints -/
def aSortD (i : Nat) : DA := fun s w => match s[i]? with
  | some (some (.dct (.k ks) _)) => match intK? ks with
    | some ns => if ns.length < 64 then .ok ((sortI ns).map .int) w else .no
    | none => .no
  | _ => .no
theorem pl_sortD {p : Pos} {pos : Pos} {a : Expr} (hc : X.calm = true) (hg : Gl X "sorted") (hm : X.mg "sorted" = none) (ha : PE X a (tVar i))
    (na : starEach [a] X.env = (false, eval a X.env) :: starEach [] X.env := by rfl) : PE X (.Call (.Name "sorted" p) [a] [] pos) (lfL mg W (aSortD i)) :=
  weakE (pe_callB (call_sortedDI hc) hg hm (by decide +kernel) (pa_cons ha pa_nil na) (he := na)) fun σ H Q h => by
  obtain ⟨wa, Hf, sD, w, hb, hs, h⟩ := h
  unfold aSortD at h
  split at h
  · rename_i ks xs hi
    split at h
    · rename_i ns hns
      split at h
      · rename_i hl
        obtain ⟨q, o, k1, k2, k3, k4, k5⟩ := hs.dic i _ _ hi
        cases k5 with
        | k hk r =>
          rename_i kvs
          refine ⟨.ref q, k1, q, kvs, ns, rfl, .inl k2, hk.trans (intK?_some hns), hl, fun ys p hp1 hp2 hp => ?_⟩
          have e : ys = sortI ns := sorted_unique (hp1.trans (sortI_perm ns).symm) hp2 (sortI_le ns)
          rw [e]
          have g1 : Go wa H Hf (upd H p (.lst ((sortI ns).map V.int))) Hf := Go.new1 hp
          exact h _ Hf g1 (hb.new1 hp) p _ (.of hp) upd_same (Evl.fresh_back hb.ex hp) (fun z => by rw [z, hb.well] at hp; cases hp) Reps.of_ints
      · exact h.elim
    · exact h.elim
  · exact h.elim
end
end DL

set_option maxHeartbeats 2000000
namespace DL
open PySem PySem.Spec PyProof.Rows L2
variable [TabT] [OldT]
open Evl (Ex)
/-! ### dicts that nobody writes any more -/
def keyD : Key → D
  | .inl i => .int i
  | .inr x => .str x
theorem rep_key {wa : Addr} {Hf : Hp} (k : Key) : Rep wa Hf (kV k) (keyD k) := by
  cases k with
  | inl i => exact .int i
  | inr x => exact .str x
theorem nt_frz {ob : Obj} {u : HO} : NT (.frz ob u) := fun _ z => nomatch z
/-- a dict that is new -/
def lfD (mg : Str → Option Value) (W : WX) (E : Sl → Wl → R (DKs × List D)) : TE := fun σ H Q =>
  ∃ wa Hf sD w, Base wa Hf H w ∧ Slots wa Hf H σ sD ∧ Fin wa Hf H (E sD w) (fun r _ H' Hf' => ∀ p o, Fr H p → H' p = some o → DicR wa Hf' o r.1 r.2 → Hf' p = none → p ≠ wa → Q (.ref p) H') (Er mg W wa σ)
/-- it is read from now on -/
def tFrzD (te : TE) : TE := fun σ H Q => te σ H fun x H1 => ∃ d u, x = .ref d ∧ H1 d = some u ∧ Mut (some u) ∧ ∀ od, Q x (upd H1 d (.frz od u))
section
variable {X : Cx} {mg : Str → Option Value} {W : WX} {e a b tg : Expr} {pos : Pos} {σ : L2.St} {H : Hp} {A B C : DE}
theorem pe_frzD {te : TE} (h : PE X e te) : PE X e (tFrzD te) := ⟨fun pins s σ H Q I q => thn (h.run pins s σ H _ I q) fun v s1 ⟨x, H1, I1, r, d, u, ex, hd, mu, q1⟩ => by
  subst ex
  obtain ⟨od, I2⟩ := I1.lock hd mu
  exact ⟨.ref d, _, I2, r, q1 od⟩⟩
def eDc (E : Sl → Wl → R (DKs × List D)) : DE := fun s w => (E s w).bind fun r w1 => .ok (.dcf r.1 r.2) w1
theorem pd_D {E : Sl → Wl → R (DKs × List D)} (h : PE X e (lfD mg W E)) : PE X e (lE mg W (eDc E)) := weakE (pe_frzD h) fun σ H Q q => by
  obtain ⟨wa, Hf, sD, w, hb, hs, q⟩ := q
  refine ⟨wa, Hf, sD, w, hb, hs, ?_⟩
  unfold eDc at q
  cases ea : E sD w with
  | ok r w1 =>
    rw [ea] at q
    obtain ⟨ks, xs⟩ := r
    intro H1 Hf1 g1 b1 p o n e1 dr e2 e3
    refine ⟨p, o, rfl, e1, by cases dr <;> exact True.intro, fun od => ?_⟩
    have ex : Ex Hf1 (upd Hf1 p (.frz od o)) := Ex.new e2
    have g2 : Go wa H Hf (upd H1 p (.frz od o)) (upd Hf1 p (.frz od o)) := ⟨fun a u nw t h => by rw [upd_ne (ne_of_fr h t n)]; exact g1.keepN a u nw t h, g1.ex.trans ex, fun a o t h => by rw [upd_ne (ne_of_fr h t.1 n)]; exact g1.newN a o t h, fun a o t h => by rw [upd_ne (ne_of_fr h t n)]; exact g1.thereN a o t h⟩
    have b2 : Base wa (upd Hf1 p (.frz od o)) (upd H1 p (.frz od o)) w1 := ⟨ex_upd2 b1.ex, by rw [upd_ne (Ne.symm e3)]; exact b1.well, by rw [upd_ne (Ne.symm e3)]; exact b1.nw, tabs_updD b1.tb e1 dr, nt_upd b1.nt nt_frz, b1.od.trans ex⟩
    refine q _ _ g2 b2 (.ref p) ?_
    cases dr with
    | t k r => exact .dft upd_same k (r.mono ex)
    | k k r => exact .dfk upd_same k (r.mono ex)
  | er x w1 => rw [ea] at q; exact q
  | no => rw [ea] at q; exact q
theorem dcf_rd {wa : Addr} {Hf : Hp} {v : V} {ks : DKs} {xs : List D} (r : Rep wa Hf v (.dcf ks xs)) : ∃ p ob o, v = .ref p ∧ Hf p = some (.frz ob o) ∧ DicR wa Hf o ks xs := by
  cases r with
  | dft h k r => exact ⟨_, _, _, rfl, h, .t k r⟩
  | dfk h k r => exact ⟨_, _, _, rfl, h, .k k r⟩
/-- d[k] -/
def eGetF (A B : DE) : DE := fun s w => (A s w).bind fun x w1 => (B s w1).bind fun k w2 => match x with
  | .dcf ks xs => match getD ks xs k with
    | some (some d) => .ok d w2
    | _ => .no
  | _ => .no
theorem pd_getF (hu : X.A.units + 1 < cLine) (ha : PE X a (lE mg W A)) (hb : PE X b (lE mg W B)) (hs : NoSl b) : PE X (.Subscript a b pos) (lE mg W (eGetF A B)) := weakE (pe_dget hu ha hb hs) fun σ H Q h => by
  obtain ⟨wa, Hf, sD, w, hb, hs, h⟩ := h
  refine ⟨wa, Hf, sD, w, hb, hs, h.bind.mono (fun x w1 H1 Hf1 g1 b1 q v rv => ?_) (fun _ _ _ _ _ _ q => q)⟩
  refine ⟨wa, Hf1, sD, w1, b1, hs.go g1, q.bind.mono (fun k w2 H2 Hf2 g2 b2 q2 v2 rv2 => ?_) (fun _ _ _ _ _ _ q => q)⟩
  split at q2
  · split at q2
    · rename_i d hd
      obtain ⟨p, ob, o, rfl, hp, dr⟩ := dcf_rd (rv.mono g2.ex)
      obtain ⟨z, hg, hz⟩ := dic_get b2 dr (.inr ⟨ob, b2.ex _ _ hp⟩) rv2 hd
      cases z with
      | none => exact hz.elim
      | some u => exact ⟨p, u, rfl, hg, q2.here b2 _ hz⟩
    · exact q2.elim
  · exact q2.elim
/-- k in d, k not in d -/
def eInF (n : Bool) (A B : DE) : DE := fun s w => (A s w).bind fun k w1 => (B s w1).bind fun x w2 => match x with
  | .dcf ks xs => match getD ks xs k with
    | some z => .ok (.bl (z.isSome != n)) w2
    | none => .no
  | _ => .no
theorem inF_ok {n : Bool} {Q : VK} (h : lE mg W (eInF n A B) σ H Q) : (lE mg W A) σ H fun y H1 => (lE mg W B) σ H1 fun x H2 => ∃ a o, x = .ref a ∧ DGet H2 a y o ∧ Q (.bl (o.isSome != n)) H2 := by
  obtain ⟨wa, Hf, sD, w, hb, hs, h⟩ := h
  refine ⟨wa, Hf, sD, w, hb, hs, h.bind.mono (fun k w1 H1 Hf1 g1 b1 q v rv => ?_) (fun _ _ _ _ _ _ q => q)⟩
  refine ⟨wa, Hf1, sD, w1, b1, hs.go g1, q.bind.mono (fun x w2 H2 Hf2 g2 b2 q2 v2 rv2 => ?_) (fun _ _ _ _ _ _ q => q)⟩
  split at q2
  · split at q2
    · rename_i z hd
      obtain ⟨p, ob, o, rfl, hp, dr⟩ := dcf_rd rv2
      obtain ⟨z', hg, hz⟩ := dic_get b2 dr (.inr ⟨ob, b2.ex _ _ hp⟩) (rv.mono g2.ex) hd
      refine ⟨p, z', rfl, hg, ?_⟩
      have e : z'.isSome = z.isSome := by cases z <;> cases z' <;> first | rfl | exact hz.elim
      rw [e]
      exact q2.here b2 _ (.bl _)
    · exact q2.elim
  · exact q2.elim
theorem pc_inF (hu : X.A.units + 1 < cLine) (ha : PE X a (lE mg W A)) (hb : PE X b (lE mg W B)) : PC X .In a b (tDIn (lE mg W A) (lE mg W B)) := pc_din hu ha hb
theorem din_of {Q : VK} (h : lE mg W (eInF false A B) σ H Q) : tDIn (lE mg W A) (lE mg W B) σ H Q := by
  obtain ⟨wa, Hf, sD, w, hb, hs, h⟩ := inF_ok h
  refine ⟨wa, Hf, sD, w, hb, hs, h.mono (fun k w1 H1 Hf1 g1 b1 q v rv => ?_) (fun _ _ _ _ _ _ q => q)⟩
  obtain ⟨wa, Hf, sD, w, hb, hs, h⟩ := q v rv
  refine ⟨wa, Hf, sD, w, hb, hs, h.mono (fun k w1 H1 Hf1 g1 b1 q v rv => ?_) (fun _ _ _ _ _ _ q => q)⟩
  obtain ⟨a, o, e1, e2, e3⟩ := q v rv
  refine ⟨a, o, e1, e2, ?_⟩
  have : (o.isSome != false) = o.isSome := by cases o.isSome <;> rfl
  rw [this] at e3
  exact e3
theorem dnotin_of {Q : VK} (h : lE mg W (eInF true A B) σ H Q) : tDNotIn (lE mg W A) (lE mg W B) σ H Q := by
  obtain ⟨wa, Hf, sD, w, hb, hs, h⟩ := inF_ok h
  refine ⟨wa, Hf, sD, w, hb, hs, h.mono (fun k w1 H1 Hf1 g1 b1 q v rv => ?_) (fun _ _ _ _ _ _ q => q)⟩
  obtain ⟨wa, Hf, sD, w, hb, hs, h⟩ := q v rv
  refine ⟨wa, Hf, sD, w, hb, hs, h.mono (fun k w1 H1 Hf1 g1 b1 q v rv => ?_) (fun _ _ _ _ _ _ q => q)⟩
  obtain ⟨a, o, e1, e2, e3⟩ := q v rv
  refine ⟨a, o, e1, e2, ?_⟩
  have : (o.isSome != true) = !o.isSome := by cases o.isSome <;> rfl
  rw [this] at e3
  exact e3
theorem pd_inF (hu : X.A.units + 1 < cLine) (ha : PE X a (lE mg W A)) (hb : PE X b (lE mg W B)) (hm : behindInMarks .In b = false) : PE X (.Compare a [.In] [b] pos) (lE mg W (eInF false A B)) := weakE (pe_cmp (pc_din hu ha hb) hm) fun _ _ _ q => din_of q
theorem qd_inF (hu : X.A.units + 1 < cLine) (ha : PE X a (lE mg W A)) (hb : PE X b (lE mg W B)) (hm : behindInMarks .In b = false) : PT X (.Compare a [.In] [b] pos) (lT mg W (tE (eInF false A B))) := weakT (pt_cmp (pc_din hu ha hb) hm) fun _ _ _ q => din_of (tE_ok q)
theorem pd_ninF (hu : X.A.units + 1 < cLine) (ha : PE X a (lE mg W A)) (hb : PE X b (lE mg W B)) (hm : behindInMarks .NotIn b = false) : PE X (.Compare a [.NotIn] [b] pos) (lE mg W (eInF true A B)) := weakE (pe_cmp (pc_dnotin hu ha hb) hm) fun _ _ _ q => dnotin_of q
theorem qd_ninF (hu : X.A.units + 1 < cLine) (ha : PE X a (lE mg W A)) (hb : PE X b (lE mg W B)) (hm : behindInMarks .NotIn b = false) : PT X (.Compare a [.NotIn] [b] pos) (lT mg W (tE (eInF true A B))) := weakT (pt_cmp (pc_dnotin hu ha hb) hm) fun _ _ _ q => dnotin_of (tE_ok q)
/-! ### for (k, v) in d.items() -/
theorem walkD_items {wa : Addr} {Hf : Hp} {d : Addr} {ob : Obj} {kvs : List (Key × V)} {ks : List Key} {xs : List D} (h : Hf d = some (.frz ob (.dK kvs))) (hk : kvs.map (·.1) = ks) (r : Reps wa Hf (kvs.map (·.2)) xs) :
    WalkD wa Hf (Iti d ob kvs) ((ks.zip xs).map fun z => .tup [keyD z.1, z.2]) := by
  have l1 : kvs.length = ks.length := by rw [← hk, List.length_map]
  have l2 : kvs.length = xs.length := by have := r.length; rw [List.length_map] at this; exact this
  have ll : ((ks.zip xs).map fun z => D.tup [keyD z.1, z.2]).length = kvs.length := by rw [List.length_map, List.length_zip]; omega
  refine ⟨fun i H hi x => ⟨x _ _ h, by rw [← ll]; exact hi⟩, fun H x => ⟨x _ _ h, Nat.le_of_eq ll.symm⟩, fun i H Hf1 w y H' z hd x b q => ?_⟩
  obtain ⟨T, k, v, e1, rfl, hT, rfl⟩ := q
  have hi : i < kvs.length := (List.getElem?_eq_some_iff.mp e1).1
  have ek : ks[i]? = some k := by rw [← hk, List.getElem?_map, e1]; rfl
  obtain ⟨dv, ed, rv⟩ := r.getV (i := i) (v := v) (by rw [List.getElem?_map, e1]; rfl)
  have ez : z = .tup [keyD k, dv] := by
    rw [List.getElem?_map] at hd
    obtain ⟨⟨a, b⟩, e3, e4⟩ := Option.map_eq_some_iff.mp hd
    rw [List.getElem?_zip_eq_some] at e3
    obtain ⟨e5, e6⟩ := e3
    rw [ek] at e5
    rw [ed] at e6
    cases e5; cases e6
    exact e4.symm
  rw [ez]
  have e2 := Evl.fresh_back b.ex hT
  exact ⟨_, Go.newF b.ex hT, b.newF hT, .tup upd_same (.cons (rep_key k) (.cons ((rv.mono x).mono (Ex.new e2)) .nil))⟩
def iItems (A : DE) : DI := fun s w => (A s w).bind fun x w1 => match x with
  | .dcf (.k ks) xs => .ok ((ks.zip xs).map fun z => .tup [keyD z.1, z.2]) w1
  | _ => .no
theorem id_items {elts : List Expr} {kk : Nat} {tpos apos cpos : Pos} (ha : PE X a (lE mg W A)) (hbase : attributeBase a "items" X.env (eval a X.env) = eval a X.env := by rfl) (hline : (apos.endLine == cpos.line) = true := by rfl) :
    PI X (.Tuple elts kk tpos) (.Call (.Attribute a "items" apos) [] [] cpos) (lI mg W (iItems A)) := weakI (pi_items ha hbase hline) fun σ H Q h => by
  obtain ⟨wa, Hf, sD, w, hb, hs, h⟩ := h
  refine ⟨wa, Hf, sD, w, hb, hs, h.bind.mono (fun x w1 H1 Hf1 g1 b1 q v rv => ?_) (fun _ _ _ _ _ _ q => q)⟩
  split at q
  · cases rv with
    | dfk h k r => exact ⟨_, _, _, rfl, b1.ex _ _ h, q.here b1 _ (walkD_items h k r)⟩
  · exact q.elim
/-- for v in d.values() -/
theorem walkD_vals {wa : Addr} {Hf : Hp} {d : Addr} {ob : Obj} {kvs : List (Key × V)} {xs : List D} (h : Hf d = some (.frz ob (.dK kvs))) (r : Reps wa Hf (kvs.map (·.2)) xs) : WalkD wa Hf (Itd d ob kvs) xs := by
  have l2 : kvs.length = xs.length := by have := r.length; rw [List.length_map] at this; exact this
  refine ⟨fun i H hi x => ⟨x _ _ h, by omega⟩, fun H x => ⟨x _ _ h, by omega⟩, fun i H Hf1 w y H' z hd x b q => ?_⟩
  obtain ⟨rfl, k, e1⟩ := q
  obtain ⟨dv, ed, rv⟩ := r.getV (i := i) (v := y) (by rw [List.getElem?_map, e1]; rfl)
  rw [hd] at ed
  cases ed
  exact ⟨Hf1, Go.refl, b, rv.mono x⟩
/-- for k in d -/
theorem walkD_keys {wa : Addr} {Hf : Hp} {d : Addr} {ob : Obj} {kvs : List (Key × V)} {ks : List Key} (h : Hf d = some (.frz ob (.dK kvs))) (hk : kvs.map (·.1) = ks) : WalkD wa Hf (Itk d ob kvs) (ks.map keyD) := by
  have l1 : (ks.map keyD).length = kvs.length := by rw [← hk]; simp
  refine ⟨fun i H hi x => ⟨x _ _ h, by omega⟩, fun H x => ⟨x _ _ h, by omega⟩, fun i H Hf1 w y H' z hd x b q => ?_⟩
  obtain ⟨rfl, k, v, e1, rfl⟩ := q
  have ek : ks[i]? = some k := by rw [← hk, List.getElem?_map, e1]; rfl
  rw [List.getElem?_map, ek] at hd
  cases hd
  exact ⟨Hf1, Go.refl, b, rep_key k⟩
def iKeysD (A : DE) : DI := fun s w => (A s w).bind fun x w1 => match x with
  | .dcf (.k ks) _ => .ok (ks.map keyD) w1
  | _ => .no
theorem id_keys (ha : PE X a (lE mg W A)) : PI X tg a (lI mg W (iKeysD A)) := weakI (pi_keys ha) fun σ H Q h => by
  obtain ⟨wa, Hf, sD, w, hb, hs, h⟩ := h
  refine ⟨wa, Hf, sD, w, hb, hs, h.bind.mono (fun x w1 H1 Hf1 g1 b1 q v rv => ?_) (fun _ _ _ _ _ _ q => q)⟩
  split at q
  · cases rv with
    | dfk h k r => exact ⟨_, _, rfl, .inl ⟨_, b1.ex _ _ h, q.here b1 _ (walkD_keys h k)⟩⟩
  · exact q.elim
/-! ### {k: v for .. in .. if ..} -/
def dcD (G : DG) (T : DT) (EK EV : DE) : List D → Sl → Wl → List Key → List D → R (DKs × List D)
  | [], _, w, ks, xs => .ok (.k ks, xs) w
  | d :: r, s, w, ks, xs => match G d s with
    | none => .no
    | some s1 => (T s1 w).noer.bind fun b w1 => if b = true then (EK s1 w1).noer.bind fun kd w2 => (EV s1 w2).noer.bind fun v w3 => match keyK? kd with
        | some k => dcD G T EK EV r s w3 (putG ks xs k v).1 (putG ks xs k v).2
        | none => .no
      else dcD G T EK EV r s w1 ks xs
def aDc (I : DI) (G : DG) (T : DT) (EK EV : DE) (vs : List Nat) : Sl → Wl → R (DKs × List D) := fun s w => (I s w).bind fun ds w1 => if ds.length < lim then (dcD G T EK EV ds (wipeS s vs) w1 [] []).noer else .no
theorem putG_len {κ : Type} [DecidableEq κ] {ks : List κ} {xs : List D} {k : κ} {d : D} : (putG ks xs k d).1.length ≤ ks.length + 1 := by
  unfold putG
  split
  · dsimp only; omega
  · simp
theorem dc_ok {I : DI} {G : DG} {T : DT} {EK EV : DE} {vs : List Nat} {Q : VK} (h : lfD mg W (aDc I G T EK EV vs) σ H Q) : tDc (lI mg W I) (lG vs G) (lT mg W0 T) (lE mg W0 EK) (lE mg W0 EV) vs σ H Q := by
  obtain ⟨wa, Hf, sD, w, hb, hs, h⟩ := h
  refine ⟨wa, Hf, sD, w, hb, hs, h.bind.mono (fun ds w1 H1 Hf1 g1 b1 q J wk D hD => ?_) (fun _ _ _ _ _ _ q => q)⟩
  have hs1 := (hs.go g1).wipe vs
  split at q
  · rename_i hz
    cases el : dcD G T EK EV ds (wipeS sD vs) w1 [] [] with
    | er x w2 => rw [el] at q; exact q.elim
    | no => rw [el] at q; exact q.elim
    | ok total wF =>
      rw [el] at q
      have hDw : D ≠ wa := fun z => by rw [z, b1.well] at hD; cases hD
      have hDf : Hf1 D = none := Evl.fresh_back b1.ex hD
      refine ⟨fun i m H2 => m = ds.length - i ∧ i ≤ ds.length ∧ ∃ Hf2 w2 kvs ks xs, Go wa H1 Hf1 H2 Hf2 ∧ Base wa Hf2 H2 w2 ∧ H2 D = some (.dK kvs) ∧ Hf2 D = none ∧ kvs.map (·.1) = ks ∧ Reps wa Hf2 (kvs.map (·.2)) xs ∧ ks.length ≤ i ∧ dcD G T EK EV (ds.drop i) (wipeS sD vs) w2 ks xs = .ok total wF,
        ⟨ds.length, by simp, Nat.zero_le _, Hf1, w1, [], [], [], Go.new1 hD, b1.new1 hD, upd_same, hDf, rfl, .nil, Nat.le_refl _, el⟩, ?_⟩
      rintro i m H2 ⟨rfl, hi, Hf2, w2, kvs, ks, xs, g2, b2, hD2, hDf2, hk, ra, hal, e2⟩
      by_cases hlt : i < ds.length
      · have ed : ds.drop i = ds[i] :: ds.drop (i + 1) := List.drop_eq_getElem_cons hlt
        rw [ed] at e2
        have gi : ds[i]? = some ds[i] := by simp [hlt]
        refine .inr ⟨wk.goes i H2 hlt (g2.ex.trans b2.ex), fun H' => ∃ Hf2 w2 kvs ks xs, Go wa H1 Hf1 H' Hf2 ∧ Base wa Hf2 H' w2 ∧ H' D = some (.dK kvs) ∧ Hf2 D = none ∧ kvs.map (·.1) = ks ∧ Reps wa Hf2 (kvs.map (·.2)) xs ∧ ks.length ≤ i + 1 ∧ dcD G T EK EV (ds.drop (i + 1)) (wipeS sD vs) w2 ks xs = .ok total wF,
          fun H' hN => ⟨ds.length - (i + 1), by omega, rfl, hlt, hN⟩, fun x H3 hy => ?_⟩
        obtain ⟨Hf3, g3, b3, r3⟩ := wk.yields i H2 Hf2 w2 x H3 _ gi g2.ex b2 hy
        have hD3 : H3 D = some (.dK kvs) := g3.keepN D _ hDw nt_dK hD2
        have hDf3 : Hf3 D = none := (g3.newN D _ nu_dK hD2).trans hDf2
        unfold dcD at e2
        cases eg : G ds[i] (wipeS sD vs) with
        | none => rw [eg] at e2; cases e2
        | some s1 =>
          rw [eg] at e2
          dsimp only at e2
          refine ⟨wa, Hf3, fun _ => none, w2, wipeS sD vs, ds[i], s1, b3, r3, (hs1.go g2).go g3, fun _ _ _ _ _ _ => .of rfl, eg, fun σ4 hs4 _ hw4 => ⟨hw4.trans (wipe_wipe vs), ?_⟩⟩
          cases et : T s1 w2 with
          | er y u => rw [et] at e2; cases e2
          | no => rw [et] at e2; cases e2
          | ok bb w5 =>
            rw [et] at e2
            refine ⟨wa, Hf3, s1, w2, b3, hs4, ?_⟩
            rw [et]
            intro H5 Hf5 g5 b5 v5 rv5
            have ev5 : v5 = bb := rv5
            subst ev5
            have hD5 : H5 D = some (.dK kvs) := g5.keepN D _ hDw nt_dK hD3
            have hDf5 : Hf5 D = none := (g5.newN D _ nu_dK hD3).trans hDf3
            cases v5 with
            | false =>
              refine iteF ?_
              have e3 : dcD G T EK EV (ds.drop (i + 1)) (wipeS sD vs) w5 ks xs = .ok total wF := by simpa [R.noer, R.bind] using e2
              exact ⟨Hf5, w5, kvs, ks, xs, (g2.trans g3).trans g5, b5, hD5, hDf5, hk, (ra.mono g3.ex).mono g5.ex, by omega, e3⟩
            | true =>
              refine iteT ?_
              have e3 : ((EK s1 w5).noer.bind fun kd w2 => (EV s1 w2).noer.bind fun v w3 => match keyK? kd with
                | some k => dcD G T EK EV (ds.drop (i + 1)) (wipeS sD vs) w3 (putG ks xs k v).1 (putG ks xs k v).2
                | none => .no) = .ok total wF := by simpa [R.noer, R.bind] using e2
              cases ek : EK s1 w5 with
              | er y u => rw [ek] at e3; cases e3
              | no => rw [ek] at e3; cases e3
              | ok kd w6 =>
                rw [ek] at e3
                refine ⟨wa, Hf5, s1, w5, b5, hs4.go g5, ?_⟩
                rw [ek]
                intro H6 Hf6 g6 b6 v6 r6
                have e4 : ((EV s1 w6).noer.bind fun v w3 => match keyK? kd with
                  | some k => dcD G T EK EV (ds.drop (i + 1)) (wipeS sD vs) w3 (putG ks xs k v).1 (putG ks xs k v).2
                  | none => .no) = .ok total wF := e3
                cases ev : EV s1 w6 with
                | er y u => rw [ev] at e4; cases e4
                | no => rw [ev] at e4; cases e4
                | ok vd w7 =>
                  rw [ev] at e4
                  refine ⟨wa, Hf6, s1, w6, b6, (hs4.go g5).go g6, ?_⟩
                  rw [ev]
                  intro H7 Hf7 g7 b7 v7 r7
                  have e5 : (match keyK? kd with
                    | some k => dcD G T EK EV (ds.drop (i + 1)) (wipeS sD vs) w7 (putG ks xs k vd).1 (putG ks xs k vd).2
                    | none => .no) = .ok total wF := e4
                  split at e5
                  · rename_i k hkk
                    have g57 := (g5.trans g6).trans g7
                    have hD7 : H7 D = some (.dK kvs) := g57.keepN D _ hDw nt_dK hD3
                    have hDf7 : Hf7 D = none := (g57.newN D _ nu_dK hD3).trans hDf3
                    have ra7 := (ra.mono g3.ex).mono g57.ex
                    obtain ⟨p1, p2⟩ := putG_rep (f := fun x : Key => x) (fun a b e => e) (j := k) (d := vd) (v := v7) (hk.trans (List.map_id' _).symm) ra7 r7
                    have hkl : kvs.length = ks.length := by rw [← hk, List.length_map]
                    refine ⟨kvs, k, keyK?_rep r6 hkk, hD7, Nat.lt_of_lt_of_le (show kvs.length < lim by omega) (lim_le (Nat.le_refl _)), Hf7, w7, _, _, _, ((g2.trans g3).trans g57).appF (.of hD), b7.appD hDf7 hDw hD7 (.k hk ra7), upd_same, hDf7, p1.trans (List.map_id' _), p2, ?_, e5⟩
                    have := putG_len (ks := ks) (xs := xs) (k := k) (d := vd)
                    omega
                  · cases e5
      · have ei : i = ds.length := by omega
        subst ei
        rw [List.drop_length] at e2
        cases e2
        refine .inl ⟨wk.stops H2 (g2.ex.trans b2.ex), ?_⟩
        exact q H2 Hf2 g2 b2 D _ (g1.free hD) hD2 (.k hk ra) hDf2 hDw
  · exact q.elim
theorem pl_dc {kx vx iter : Expr} {ifs : List Expr} {scope : Scope} {own : List (Str × Nat)} {I : DI} {G : DG} {T : DT} {EK EV : DE} (hc : X.calm = true) (hN : X.N.Nodup) (hi : PI X tg iter (lI mg W I)) (ok : BlkOk X.N X.env.scope scope own)
    (hg : ∀ (s : Shared) (H : Hp) (C : Addr) (cl : List (Str × Addr)) (fp : List Addr), PG (X.blk s H scope (compEnvC scope cl C X.env) fp) tg (lG (own.map (·.2)) G)) (ht : ∀ (s : Shared) (H : Hp) (C : Addr) (cl : List (Str × Addr)) (fp : List Addr), PTs (X.blk s H scope (compEnvC scope cl C X.env) fp) ifs (lT mg W0 T))
    (hk : ∀ (s : Shared) (H : Hp) (C : Addr) (cl : List (Str × Addr)) (fp : List Addr), PE (X.blk s H scope (compEnvC scope cl C X.env) fp) kx (lE mg W0 EK))
    (he : ∀ (s : Shared) (H : Hp) (C : Addr) (cl : List (Str × Addr)) (fp : List Addr), PE (X.blk s H scope (compEnvC scope cl C X.env) fp) vx (lE mg W0 EV)) (hs : ∀ x, foldedSetIterable iter X.env x = pure x := by intro _; rfl) :
    PE X (.DictComp kx vx [⟨tg, iter, ifs, 0⟩] scope pos) (lfD mg W (aDc I G T EK EV (own.map (·.2)))) := weakE (pe_dc hc hN hi ok hg ht hk he hs) fun _ _ _ q => dc_ok q
end
end DL

set_option maxHeartbeats 2000000
/-! list(zip(a, b)) of two lists -/
namespace PySem.W
open PySem.Spec PySem.Calls PyProof.V PyProof.Rows PySem
theorem zl_nolen : typeLookup (.type "zip") "__len__" = pure none := by rw [typeLookup_type, builtinLookup_eq_fast]; kernel_rfl
theorem zl_nohint : typeLookup (.type "zip") "__length_hint__" = pure none := by rw [typeLookup_type, builtinLookup_eq_fast]; kernel_rfl
/-- a tuple of two -/
abbrev pairO (x y : Value) : Obj := { cls := .type "tuple", data := .seq #[x, y] }
/-- new pairs of xs and ys, each behind the one ahead -/
structure PairsAt (xs ys : Array Value) (lo : Nat) (h : Heap) (as : List Addr) : Prop where
  inc : as.Pairwise fun p q => @LT.lt Nat _ p q
  low : ∀ a ∈ as, @LT.lt Nat _ lo a
  obj : ∀ (j : Nat) (a : Addr), as[j]? = some a → ∃ x y, xs[j]? = some x ∧ ys[j]? = some y ∧ h.get? a = some (pairO x y)
theorem PairsAt.keep {xs ys : Array Value} {lo : Nat} {h h' : Heap} {as : List Addr} (g : PairsAt xs ys lo h as) (k : ∀ (a : Nat) o, lo < a → h.get? a = some o → h'.get? a = some o) : PairsAt xs ys lo h' as :=
  ⟨g.inc, g.low, fun j a e => by
    obtain ⟨x, y, q1, q2, q3⟩ := g.obj j a e
    exact ⟨x, y, q1, q2, k a _ (g.low a (List.mem_of_getElem? e)) q3⟩⟩
theorem PairsAt.top {xs ys : Array Value} {lo : Nat} {h : Heap} {as : List Addr} (g : PairsAt xs ys lo h as) : ∀ a ∈ as, @LT.lt Nat _ a h.objs.size := fun a m => by
  obtain ⟨j, e⟩ := List.getElem?_of_mem m
  obtain ⟨_, _, _, _, q⟩ := g.obj j a e
  exact Heap.lt_size q
theorem PairsAt.snoc {xs ys : Array Value} {lo : Nat} {h : Heap} {as : List Addr} (g : PairsAt xs ys lo h as) {b : Nat} {x y : Value} (hb : lo < b) (ht : ∀ a ∈ as, @LT.lt Nat _ a b) (hx : xs[as.length]? = some x) (hy : ys[as.length]? = some y)
    (hp : h.get? b = some (pairO x y)) : PairsAt xs ys lo h (as ++ [b]) := by
  refine ⟨?_, fun a m => ?_, fun j a e => ?_⟩
  · rw [List.pairwise_append]
    exact ⟨g.inc, by simp, fun a m c mc => by rw [List.mem_singleton.mp mc]; exact ht a m⟩
  · rw [List.mem_append, List.mem_singleton] at m
    rcases m with m | rfl
    · exact g.low a m
    · exact hb
  · rw [List.getElem?_append] at e
    split at e
    · exact g.obj j a e
    · rename_i hj
      have hj0 : j = as.length := by
        have := (List.getElem?_eq_some_iff.mp e).1
        simp at this
        omega
      subst hj0
      simp at e
      rw [← e]
      exact ⟨x, y, hx, hy, hp⟩
def ZlSt (h : Heap) (N l1 l2 : Nat) (i : Nat) : Prop :=
  IsPair h (N + 2 : Nat) (.ref (N : Nat)) (.ref (N + 1 : Nat)) ∧ h.IsListIter (N : Nat) l1 i ∧ h.IsListIter (N + 1 : Nat) l2 i ∧
    ((IsZip h (N + 4 : Nat) (N + 2 : Nat) (N + 3 : Nat) .none ∧ IsPair h (N + 3 : Nat) .none .none) ∨ ∃ (T : Nat) (f : Bool) (oT : Obj), IsZipHeld h (N + 4 : Nat) (N + 2 : Nat) (N + 3 : Nat) T f ∧ h.get? T = some oT ∧ N + 5 < T)
theorem ZlSt.keep {h h' : Heap} {N l1 l2 i : Nat} (st : ZlSt h N l1 l2 i) (k : ∀ (b : Nat) o, b ≠ N + 5 → h.get? b = some o → h'.get? b = some o) : ZlSt h' N l1 l2 i := by
  obtain ⟨a, b, c, d⟩ := st
  refine ⟨k _ _ (by first | omega | (refine neN ?_; omega)) a, b.at fun o e => k _ o (by first | omega | (refine neN ?_; omega)) e, c.at fun o e => k _ o (by first | omega | (refine neN ?_; omega)) e, ?_⟩
  rcases d with ⟨d1, d2⟩ | ⟨T, f, oT, d1, d2, d3⟩
  · exact .inl ⟨k _ _ (by first | omega | (refine neN ?_; omega)) d1, k _ _ (by first | omega | (refine neN ?_; omega)) d2⟩
  · exact .inr ⟨T, f, oT, k _ _ (by first | omega | (refine neN ?_; omega)) d1, k _ _ (by first | omega | (refine neN ?_; omega)) d2, d3⟩
section
variable {s : Shared} {prog : Program} {w : World} {E : Value → Shared → Prop} {A : Around}
theorem zl_item {N l1 l2 i : Nat} {xs ys : Array Value} {x y : Value} {Q : Option Value → Shared → Prop} (la : l1 < N) (lb : l2 < N) (hS : N + 5 < s.heap.objs.size) (st : ZlSt s.heap N l1 l2 i)
    (h1 : s.heap.IsList l1 xs) (h2 : s.heap.IsList l2 ys) (hx : xs[i]? = some x) (hy : ys[i]? = some y)
    (hQ : ∀ h', ZlSt h' N l1 l2 (i + 1) → h'.get? s.heap.objs.size = some { cls := .type "tuple", data := .seq #[x, y] } → h'.objs.size = s.heap.objs.size + 1 →
      (∀ (b : Nat) o, b < N ∨ N + 5 ≤ b → s.heap.get? b = some o → h'.get? b = some o) → Q (some (.ref s.heap.objs.size)) { s with heap := h' }) :
    wpAny (model prog w) A (pyNext (.ref (N + 4 : Nat))) Q E s := by
  obtain ⟨a, b, c, d⟩ := st
  have D := ktu_apart N l1 l2 la lb
  rcases d with ⟨d1, d2⟩ | ⟨T, f, oT, d1, d2, d3⟩
  · refine wpAny_pyNext_zip_item D d1 a d2 b c h1 h2 hx hy fun h' z1 z2 z3 z4 z5 z6 z7 => hQ h' ⟨?_, z3, z4, .inr ⟨s.heap.objs.size, false, _, z1, z5, hS⟩⟩ z5 z6 fun b o hb e => z7 b o (by first | omega | (refine neN ?_; omega)) (by first | omega | (refine neN ?_; omega)) (by first | omega | (refine neN ?_; omega)) (by first | omega | (refine neN ?_; omega)) e
    exact z7 _ _ (by first | omega | (refine neN ?_; omega)) (by first | omega | (refine neN ?_; omega)) (by first | omega | (refine neN ?_; omega)) (by first | omega | (refine neN ?_; omega)) a
  · refine wpAny_pyNext_zip_item_held D d1 d2 a b c h1 h2 hx hy fun h' z1 z3 z4 z5 z6 z7 => hQ h' ⟨?_, z3, z4, .inr ⟨T, true, oT, z1, ?_, d3⟩⟩ z5 z6 fun b o hb e => z7 b o (by first | omega | (refine neN ?_; omega)) (by first | omega | (refine neN ?_; omega)) (by first | omega | (refine neN ?_; omega)) e
    · exact z7 _ _ (by first | omega | (refine neN ?_; omega)) (by first | omega | (refine neN ?_; omega)) (by first | omega | (refine neN ?_; omega)) a
    · exact z7 _ _ (by first | omega | (refine neN ?_; omega)) (by first | omega | (refine neN ?_; omega)) (by first | omega | (refine neN ?_; omega)) d2
theorem zl_done {N l1 l2 i : Nat} {xs ys : Array Value} {Q : Option Value → Shared → Prop} (hh : A.handled = none) (la : l1 < N) (lb : l2 < N) (st : ZlSt s.heap N l1 l2 i)
    (h1 : s.heap.IsList l1 xs) (h2 : s.heap.IsList l2 ys) (he : xs[i]? = none ∨ ys[i]? = none)
    (hQ : ∀ h', (∀ (b : Nat) o, b < N ∨ N + 5 ≤ b → s.heap.get? b = some o → h'.get? b = some o) → Q none { s with heap := h' }) :
    wpAny (model prog w) A (pyNext (.ref (N + 4 : Nat))) Q E s := by
  obtain ⟨a, b, c, d⟩ := st
  have D := ktu_apart N l1 l2 la lb
  rcases d with ⟨d1, d2⟩ | ⟨T, f, oT, d1, d2, d3⟩
  · exact wpAny_pyNext_zip_end hh D d1 a d2 b c h1 h2 he fun h' k => hQ h' fun b o hb e => k b o (by first | omega | (refine neN ?_; omega)) (by first | omega | (refine neN ?_; omega)) (by first | omega | (refine neN ?_; omega)) (by first | omega | (refine neN ?_; omega)) e
  · exact wpAny_pyNext_zip_end_held hh D d1 d2 a b c h1 h2 he fun h' k => hQ h' fun b o hb e => k b o (by first | omega | (refine neN ?_; omega)) (by first | omega | (refine neN ?_; omega)) (by first | omega | (refine neN ?_; omega)) e
end
section
variable {s : Shared} {prog : Program} {w : World} {E : Value → Shared → Prop} {A : Around} {xs ys : Array Value} {N l1 l2 : Nat}
/-- what stands when the list is whole -/
def ZlFin (xs ys : Array Value) (N n : Nat) (h₀ : Heap) (P : Heap → Nat → Prop) : Prop := ∀ (h : Heap) (tk c : Nat) (acc : Array Value) (as : List Addr), (∀ (b : Nat) o, b < N → h₀.get? b = some o → h.get? b = some o) →
  h.get? (N + 5 : Nat) = some { cls := .type "list", data := .seq acc c } → acc.toList = as.map Value.ref → as.length = n → PairsAt xs ys (N + 5) h as → P h tk
theorem zl_loop {n : Nat} {R : Result → Shared → Prop} {h₀ : Heap} (hh : A.handled = none) (b1 : l1 < N) (b2 : l2 < N) (q1 : h₀.IsList l1 xs) (q2 : h₀.IsList l2 ys) (hn : n = min xs.size ys.size) (hz : n ≤ sizeLine) (v : Value)
    (fin : ZlFin xs ys N n h₀ fun h tk => R (.ok (.ret v)) { s with heap := h, toks := tk }) : ∀ (m i : Nat), i + m = n → ∀ (h : Heap) (tk c : Nat) (acc : Array Value) (as : List Addr), ZlSt h N l1 l2 i →
      (∀ (b : Nat) o, b < N → h₀.get? b = some o → h.get? b = some o) → h.get? (N + 5 : Nat) = some { cls := .type "list", data := .seq acc c } → acc.toList = as.map Value.ref → as.length = i → PairsAt xs ys (N + 5) h as →
      codeAny (model prog w) A (.builtin "list.extend.loop" ⟨[.ref (N + 5 : Nat), .ref (N + 4 : Nat), v], []⟩) R { s with heap := h, toks := tk }
  | 0, i, hi, h, tk, c, acc, as, st, kp, hS, ha, hl, g => by
    have hend : xs[i]? = none ∨ ys[i]? = none := by
      have : xs.size ≤ i ∨ ys.size ≤ i := by omega
      exact this.imp (fun z => Array.getElem?_eq_none z) fun z => Array.getElem?_eq_none z
    apply codeAny_builtin PySem.F.entry_extend_loop
    rw [Around.under_plainId PySem.F.plain_extend_loop]
    show wpAny (model prog w) A.in1 (pyNext (.ref (N + 4 : Nat)) >>= _) _ _ _
    apply wpAny_bind
    refine zl_done (s := { s with heap := h, toks := tk }) (A := A.in1) hh b1 b2 st (q1.at fun o e => kp _ o b1 e) (q2.at fun o e => kp _ o b2 e) hend fun h' k => wpAny_pure ?_
    exact fin h' tk c acc as (fun b o hb e => k b o (.inl hb) (kp b o hb e)) (k _ _ (.inr (Nat.le_refl _)) hS) ha (by omega) (g.keep fun a o hlt e => k a o (.inr (by omega)) e)
  | m + 1, i, hi, h, tk, c, acc, as, st, kp, hS, ha, hl, g => by
    have hxi : i < xs.size := by omega
    have hyi : i < ys.size := by omega
    have hsz : acc.size = i := by
      have := congrArg List.length ha
      simpa [hl] using this
    have htop : N + 5 < h.objs.size := Heap.lt_size hS
    apply codeAny_builtin PySem.F.entry_extend_loop
    rw [Around.under_plainId PySem.F.plain_extend_loop]
    show wpAny (model prog w) A.in1 (pyNext (.ref (N + 4 : Nat)) >>= _) _ _ _
    apply wpAny_bind
    refine zl_item (s := { s with heap := h, toks := tk }) b1 b2 htop st (q1.at fun o e => kp _ o b1 e) (q2.at fun o e => kp _ o b2 e) (Array.getElem?_eq_getElem hxi) (Array.getElem?_eq_getElem hyi) fun h' st' hT _ k => ?_
    dsimp only at hT k ⊢
    have hS' := k (N + 5) _ (.inr (Nat.le_refl _)) hS
    let f : Obj → Obj := Obj.mapSeq (·.push (Value.ref h.objs.size))
    have up : ∀ (b : Nat) o, b ≠ N + 5 → h'.get? b = some o → (h'.update (N + 5 : Nat) f).get? b = some o := fun b o hb e => (Heap.get?_update_other _ _ (Ne.symm hb)).trans e
    have g' : PairsAt xs ys (N + 5) (h'.update (N + 5 : Nat) f) (as ++ [h.objs.size]) := by
      refine (g.keep fun a o hlt e => up a o (by omega) (k a o (.inr (by omega)) e)).snoc (x := xs[i]) (y := ys[i]) htop g.top ?_ ?_ (up _ _ (by omega) hT)
      · rw [hl]; exact Array.getElem?_eq_getElem hxi
      · rw [hl]; exact Array.getElem?_eq_getElem hyi
    show wpAny (model prog w) A.in1 (updateSeq (N + 5 : Nat) (·.push (Value.ref h.objs.size)) >>= _) _ _ _
    apply wpAny_bind
    refine wpAny_updateSeq hS' rfl ?_ (by omega) (by simp only [Array.size_push]; omega)
    refine wpAny_pure ⟨plainId_quiet PySem.F.plain_extend_loop _, ?_⟩
    exact zl_loop hh b1 b2 q1 q2 hn hz v fin m (i + 1) (by omega) _ tk _ _ (as ++ [h.objs.size]) (st'.keep up) (fun b o hb e => up b o (by omega) (k b o (.inl hb) (kp b o hb e))) (Heap.get?_update_self f hS' rfl)
      (by rw [Array.toList_push, ha, List.map_append, List.map_singleton]) (by simp [hl]) g'
/-- an empty list at N + 5 is filled from the zip at N + 4 -/
theorem zl_fill {h₀ : Heap} {R : Result → Shared → Prop} (hh : A.handled = none) (b1 : l1 < N) (b2 : l2 < N) (hs0 : s.heap = h₀) (st : ZlSt h₀ N l1 l2 0) (q1 : h₀.IsList l1 xs) (q2 : h₀.IsList l2 ys) (hz : min xs.size ys.size ≤ sizeLine) (v : Value) (c₀ : Nat)
    (hS : h₀.get? (N + 5 : Nat) = some { cls := .type "list", data := .seq #[] c₀ }) (fin : ZlFin xs ys N (min xs.size ys.size) h₀ fun h tk => R (.ok (.ret v)) { s with heap := h, toks := tk }) :
    wpAny (model prog w) A.in1 (Builtin.List.listExtendWith (.ref (N + 5 : Nat)) (.ref (N + 4 : Nat)) v) (fun q s1 => match q with | .done f => R (.ok f) s1 | .again k => k.quiet = true ∧ codeAny (model prog w) A k R s1) (fun e s1 => R (.error e) s1) s := by
  subst hs0
  have hT : s.TypeIs (.ref (N + 4 : Nat)) "zip" := by
    obtain ⟨_, _, _, ⟨d, _⟩ | ⟨_, _, _, d, _⟩⟩ := id st
    · exact ⟨_, d, rfl⟩
    · exact ⟨_, d, rfl⟩
  have ne : Builtin.List.listSameRef (.ref (N + 5 : Nat)) (.ref (N + 4 : Nat)) = false := by simp [Builtin.List.listSameRef]
  delta Builtin.List.listExtendWith
  apply wpAny_bind
  refine wpAny_typeOf (T := "zip") hT ?_
  rw [if_neg (by rw [ne]; decide)]
  apply wpAny_bind
  have self : ∀ {Q : Value → Shared → Prop} {E' : Value → Shared → Prop}, Q (.ref (N + 4 : Nat)) s → wpAny (model prog w) A.in1 (pyIter (.ref (N + 4 : Nat))) Q E' s := fun {Q E'} q => by
    apply wpAny_pyIter_slot hT F.slot_zip_iter
    refine wpAny_call_entry F.slot_zip_iter hT F.entry_zip_iter ?_ (F.args_zip_iter_1 _)
    show wpAny _ _ (ret (.ref (N + 4 : Nat))) _ _ s
    exact wpAny_pure ⟨_, rfl, "zip", _, hT, F.slot_zip_next.lookup, q⟩
  apply self
  apply wpAny_bind
  apply wpAny_holding
  delta Builtin.List.listLengthHint
  apply wpAny_bind
  refine wpAny_specialOf hT zl_nolen ?_
  show wpAny _ A.in1 (specialOf (Value.ref (N + 4 : Nat)) (Str.ofString "__length_hint__") >>= _) _ _ _
  apply wpAny_bind
  refine wpAny_specialOf hT zl_nohint (wpAny_pure ?_)
  show wpAny _ A.in1 (rule "list.extend.makes-room" >>= fun _ => Builtin.List.listTouch (.ref (N + 5 : Nat)) >>= fun _ => again (.builtin "list.extend.loop" ⟨[.ref (N + 5 : Nat), .ref (N + 4 : Nat), v], []⟩)) _ _ _
  apply wpAny_bind
  apply wpAny_rule
  apply wpAny_bind
  show wpAny _ A.in1 (updateSeq (N + 5 : Nat) (·.push .none) >>= fun _ => updateSeq (N + 5 : Nat) (·.pop)) _ _ _
  apply wpAny_bind
  refine wpAny_updateSeq hS rfl ?_
  have s1 := Heap.get?_update_self (Obj.mapSeq (Array.push · Value.none)) hS rfl
  refine wpAny_updateSeq (hz := by seq_fits) s1 rfl ?_
  have s2 := Heap.get?_update_self (Obj.mapSeq Array.pop) s1 rfl
  have far : ∀ (b : Nat) o, b ≠ N + 5 → s.heap.get? b = some o → ((s.heap.update (N + 5 : Nat) (Obj.mapSeq (Array.push · Value.none))).update (N + 5 : Nat) (Obj.mapSeq Array.pop)).get? b = some o := fun b o hb e => by
    rw [Heap.get?_update_other _ _ (Ne.symm hb), Heap.get?_update_other _ _ (Ne.symm hb)]
    exact e
  refine wpAny_pure ⟨plainId_quiet PySem.F.plain_extend_loop _, ?_⟩
  exact zl_loop (h₀ := s.heap) hh b1 b2 q1 q2 rfl hz v fin _ 0 (Nat.zero_add _) _ s.toks _ #[] [] (st.keep far) (fun b o hb e => far b o (by omega) e) s2 rfl rfl ⟨.nil, (fun _ m => nomatch m), (fun j a e => by simp at e)⟩
theorem zl_call {Q : Value → Shared → Prop} (hh : A.handled = none) (b1 : l1 < N) (b2 : l2 < N) (hsz : s.heap.objs.size = N + 5) (st : ZlSt s.heap N l1 l2 0) (q1 : s.heap.IsList l1 xs) (q2 : s.heap.IsList l2 ys) (hz : min xs.size ys.size ≤ sizeLine)
    (fin : ZlFin xs ys N (min xs.size ys.size) s.heap fun h tk => Q (.ref (N + 5 : Nat)) { s with heap := h, toks := tk }) : wpAny (model prog w) A (call (.type "list") [.ref (N + 4 : Nat)]) Q E s := by
  let em : Obj := { cls := .type "list", data := .seq #[] }
  refine callType_codes (Q₁ := fun v s' => v = .ref s.heap.objs.size ∧ s' = { s with heap := s.heap.push em }) PySem.F.called_list (PySem.F.typeCall_list_1 _) PySem.F.entry_list_init (code_list_new _ ⟨rfl, rfl⟩) fun v s' hv => ?_
  rcases hv with ⟨rfl, rfl⟩
  have hS : (s.heap.push em).get? s.heap.objs.size = some em := Heap.get?_push_size _ rfl
  refine ⟨⟨_, hS, rfl⟩, PySem.F.args_list_init_2 _ _, ?_⟩
  rw [hsz] at hS ⊢
  show wpAny _ _ (do let old ← Builtin.List.listItems (.ref (N + 5 : Nat)); Builtin.List.listUpdate (.ref (N + 5 : Nat)) (fun _ => #[]); letGo old.toList.reverse; Builtin.List.listExtendWith (.ref (N + 5 : Nat)) (.ref (N + 4 : Nat)) .none) _ _ _
  apply wpAny_bind
  delta Builtin.List.listItems
  apply wpAny_bind
  refine wpAny_seqItems hS rfl (wpAny_pure ?_)
  show wpAny _ _ (updateSeq (N + 5 : Nat) (fun _ => #[]) >>= fun _ => letGo (#[] : Array Value).toList.reverse >>= fun _ => Builtin.List.listExtendWith (.ref (N + 5 : Nat)) (.ref (N + 4 : Nat)) .none) _ _ _
  apply wpAny_bind
  refine wpAny_updateSeq hS rfl ?_
  have s1 := Heap.get?_update_self (Obj.mapSeq fun _ => (#[] : Array Value)) hS rfl
  have far : ∀ (b : Nat) o, b ≠ N + 5 → s.heap.get? b = some o → ((s.heap.push em).update (N + 5 : Nat) (Obj.mapSeq fun _ => (#[] : Array Value))).get? b = some o := fun b o hb e => by
    rw [Heap.get?_update_other _ _ (Ne.symm hb)]
    exact Heap.get?_push_of_some _ e
  apply wpAny_bind
  apply wpAny_letGo
  refine zl_fill (A := A.in1) hh b1 b2 rfl (st.keep far) (q1.at fun o e => far _ o (by first | omega | (refine neN ?_; omega)) e) (q2.at fun o e => far _ o (by first | omega | (refine neN ?_; omega)) e) hz .none _ s1 ?_
  exact fun h tk c acc as k hL ha hl g => ⟨rfl, fin h tk c acc as (fun b o hb e => k b o hb (far b o (by omega) e)) hL ha hl g⟩
end
end PySem.W
namespace DL
open PySem PySem.Spec PyProof.Rows L2
variable [TabT] [OldT]
open Evl (Ex)
theorem vals_at {xs : List V} {us : List Value} {j : Nat} {x : Value} (r : Vals xs us) (h : us[j]? = some x) : ∃ u, xs[j]? = some u ∧ RelV u x := by
  have hl : j < xs.length := by rw [r.length]; exact (List.getElem?_eq_some_iff.mp h).1
  obtain ⟨v, e1, e2⟩ := r.get (List.getElem?_eq_getElem hl)
  rw [h] at e1
  cases e1
  exact ⟨_, List.getElem?_eq_getElem hl, e2⟩
def tListZip (ta : TA) : TE := fun σ H Q => ta σ H fun vs H1 => ∃ a b xs ys, vs = [.ref a, .ref b] ∧ H1 a = some (.lst xs) ∧ H1 b = some (.lst ys) ∧ ∀ H2 (l : Addr) (as : List Addr), (∀ c o, H1 c = some o → H2 c = some o) → H1 l = none →
  H2 l = some (.lst (as.map V.ref)) → as.length = min xs.length ys.length → l ∉ as → (∀ (j : Nat) (c : Addr), as[j]? = some c → H1 c = none ∧ ∃ x y, xs[j]? = some x ∧ ys[j]? = some y ∧ H2 c = some (.tup [x, y])) → Q (.ref l) H2
section
variable {X : Cx} {mg : Str → Option Value} {W : WX} {a b : Expr} {p p2 pos pos2 : Pos} {ta : TA}
theorem pe_listZip (hc : X.calm = true) (hg : Gl X "list") (hm : X.mg "list" = none) (hg2 : Gl X "zip") (hm2 : X.mg "zip" = none) (ha : PA X [a, b] ta)
    (hs : starEach [a, b] X.env = (false, eval a X.env) :: starEach [b] X.env := by rfl) (hpl : (backTo pos2 (starEach [b] X.env)).any (·.1) = false := by rfl)
    (ne : starEach [Expr.Call (.Name "zip" p2) [a, b] [] pos2] X.env = (false, eval (Expr.Call (.Name "zip" p2) [a, b] [] pos2) X.env) :: starEach [] X.env := by rfl) :
    PE X (.Call (.Name "list" p) [.Call (.Name "zip" p2) [a, b] [] pos2] [] pos) (tListZip ta) := by
  refine ⟨fun pins s σ H Q I h => ?_⟩
  refine Call_ (ld_blt I hg hm boot_list (PyProof.Rows.callWith_type1 (args_cons ?_ ne) ne))
  refine Call_ (ld_blt I hg2 hm2 PyProof.Rows.boot_zip (PyProof.Rows.callWith_type1 (thn (ha.run pos2 pins s σ H _ I h) fun us s1 ⟨vs, H1, I1, r1, q1⟩ => ?_) hs hpl))
  obtain ⟨l1, l2, xs, ys, ex, hx, hy, q⟩ := q1
  subst ex
  cases r1 with
  | cons r rr =>
    cases rr with
    | cons r' rr =>
      cases rr
      cases r
      cases r'
      obtain ⟨its, rv, p1, z1⟩ := I1.list (.inl (Rd.of hx))
      obtain ⟨its2, rv2, pp2, z2⟩ := I1.list (.inl (Rd.of hy))
      have e1 := rv.length
      have e2 := rv2.length
      have la : @LT.lt Nat _ l1 s1.heap.objs.size := by
        obtain ⟨o, e, _⟩ := p1.isList
        exact Heap.lt_size e
      have lb : @LT.lt Nat _ l2 s1.heap.objs.size := by
        obtain ⟨o, e, _⟩ := pp2.isList
        exact Heap.lt_size e
      refine call_zip_2 p1.isList pp2.isList fun h' hz hTI hTO h1 h2 hsz hk => args_nil ?_
      refine PySem.W.zl_call (N := s1.heap.objs.size) (xs := its.toArray) (ys := its2.toArray) (I1.ok.hd hc) la lb hsz ⟨hTI, h1, h2, .inl ⟨hz, hTO⟩⟩ (p1.isList.at fun o e => hk _ o e) (pp2.isList.at fun o e => hk _ o e) (by simp; omega) fun h2 tk c acc as hk2 hS hacc hl hG => ?_
      have hkk : ∀ (b : Addr) o, s1.heap.get? b = some o → h2.get? b = some o := fun b o e => hk2 b o (Heap.lt_size e) (hk b o e)
      have I2 : Inv X pins σ H1 { s1 with heap := h2, toks := tk } := I1.kept (t' := tk) hkk
      have hn0 : H1 (s1.heap.objs.size + 5 : Nat) = none := I1.hok.fresh (Nat.le_add_right _ _)
      have hlen : as.length = min xs.length ys.length := by rw [hl, e1, e2]; simp
      have I3 : Inv X pins σ (upd H1 (s1.heap.objs.size + 5 : Nat) (.lst (as.map V.ref))) { s1 with heap := h2, toks := tk } :=
        I2.take (h' := h2) (t' := tk) (fun b ob _ e => e) (I1.fpOk (Nat.le_add_right _ _) hn0) ⟨by rw [List.length_map]; omega, acc.toList, c, by rw [hacc]; exact vals_maps (fun z : Addr => V.ref z) (fun z => Value.ref z) as fun _ _ => rfl, by rw [Array.toArray_toList]; exact hS⟩
      have nd : as.Nodup := hG.inc.imp fun h => Nat.ne_of_lt h
      have nl : (s1.heap.objs.size + 5 : Nat) ∉ as := fun hm => Nat.lt_irrefl _ (hG.low _ hm)
      obtain ⟨H3, I4, g, qt⟩ := L2.DX.takeT (P := fun b vs => ∃ (j : Nat) (x y : V), as[j]? = some b ∧ vs = [x, y] ∧ xs[j]? = some x ∧ ys[j]? = some y) I1 as _ I3 nd fun c hc' => by
        obtain ⟨j, hj⟩ := List.mem_iff_getElem?.mp hc'
        obtain ⟨x, y, x1, y1, hgt⟩ := hG.obj j c hj
        have hle : s1.heap.objs.size ≤ c := by
          have h : @LT.lt Nat _ (s1.heap.objs.size + 5) c := hG.low c hc'
          show @LE.le Nat _ _ c
          omega
        obtain ⟨u, u1, u2⟩ := vals_at rv (j := j) (x := x) (by simpa using x1)
        obtain ⟨v, v1, v2⟩ := vals_at rv2 (j := j) (x := y) (by simpa using y1)
        refine ⟨hle, ?_, [u, v], ⟨j, u, v, hj, rfl, u1, v1⟩, fun H4 => ⟨by show 2 ≤ sizeLine; decide, [x, y], .cons u2 (.cons v2 .nil), ⟨_, hgt, rfl, 0, rfl⟩⟩⟩
        rw [upd_ne (fun z => nl (by rw [← z]; exact hc'))]
        exact I1.hok.fresh hle
      refine ⟨.ref (s1.heap.objs.size + 5 : Nat), H3, I4, rfl, q H3 _ as (fun b o e => g b o (by rw [upd_ne (ne_of_none e hn0)]; exact e)) hn0 (g _ _ upd_same) hlen nl fun j c hj => ?_⟩
      obtain ⟨vs, ⟨j', x, y, j1, ev, x1, y1⟩, hH⟩ := qt c (List.mem_of_getElem? hj)
      have ejj : j = j' := (List.getElem?_inj (List.getElem?_eq_some_iff.mp hj).1 nd).mp (hj.trans j1.symm)
      subst ejj
      rw [ev] at hH
      have hle : s1.heap.objs.size ≤ c := by
        have h : @LT.lt Nat _ (s1.heap.objs.size + 5) c := hG.low c (List.mem_of_getElem? hj)
        show @LE.le Nat _ _ c
        omega
      exact ⟨I1.hok.fresh hle, x, y, x1, y1, hH⟩
/-- list(zip(a, b)) -/
def aZip (As : DA) : DA := fun s w => (As s w).bind fun xs w1 => match xs with
  | [.lst xs, .lst ys] => .ok (zipD xs ys) w1
  | _ => .no
theorem reps_zip {wa : Addr} {Hf1 Hf2 : Hp} (x : Ex Hf1 Hf2) : ∀ (xs ys : List D) {vs us : List V} (r1 : Reps wa Hf1 vs xs) (r2 : Reps wa Hf1 us ys) (as : List Addr), as.length = min vs.length us.length →
    (∀ (j : Nat) (c : Addr), as[j]? = some c → ∃ x y, vs[j]? = some x ∧ us[j]? = some y ∧ Hf2 c = some (.tup [x, y])) → Reps wa Hf2 (as.map V.ref) (zipD xs ys)
  | [], ys, vs, us, r1, r2, as, hl, _ => by
    cases r1
    cases as with
    | nil => exact .nil
    | cons a as => simp at hl
  | _ :: _, [], vs, us, r1, r2, as, hl, _ => by
    cases r2
    cases as with
    | nil => exact .nil
    | cons a as => simp at hl
  | d :: xs, e :: ys, vs, us, r1, r2, as, hl, hj => by
    cases r1 with
    | cons h1 t1 =>
    cases r2 with
    | cons h2 t2 =>
      cases as with
      | nil => simp at hl
      | cons a as =>
        obtain ⟨u, v, e1, e2, e3⟩ := hj 0 a rfl
        simp only [List.getElem?_cons_zero, Option.some.injEq] at e1 e2
        subst e1
        subst e2
        exact .cons (.tup e3 (.cons (h1.mono x) (.cons (h2.mono x) .nil))) (reps_zip x xs ys t1 t2 as (by simp at hl ⊢; omega) fun j c e => by
          have := hj (j + 1) c (by simpa using e)
          simpa using this)
theorem pl_zip2 {As : DA} (hc : X.calm = true) (hg : Gl X "list") (hm : X.mg "list" = none) (hg2 : Gl X "zip") (hm2 : X.mg "zip" = none) (ha : PA X [a, b] (lA mg W As))
    (hs : starEach [a, b] X.env = (false, eval a X.env) :: starEach [b] X.env := by rfl) (hpl : (backTo pos2 (starEach [b] X.env)).any (·.1) = false := by rfl)
    (ne : starEach [Expr.Call (.Name "zip" p2) [a, b] [] pos2] X.env = (false, eval (Expr.Call (.Name "zip" p2) [a, b] [] pos2) X.env) :: starEach [] X.env := by rfl) :
    PE X (.Call (.Name "list" p) [.Call (.Name "zip" p2) [a, b] [] pos2] [] pos) (lfL mg W (aZip As)) := weakE (pe_listZip hc hg hm hg2 hm2 ha hs hpl ne) fun σ H Q h => by
  obtain ⟨wa, Hf, sD, w, hb, hs, h⟩ := h
  refine ⟨wa, Hf, sD, w, hb, hs, h.bind.mono (fun x w1 H1 Hf1 g1 b1 q vs rv => ?_) (fun _ _ _ _ _ _ q => q)⟩
  split at q
  · rename_i xs ys
    cases rv with
    | cons r1 rr =>
      cases rr with
      | cons r2 rr =>
        cases rr
        cases r1 with
        | lst h1 s1 =>
        cases r2 with
        | lst h2 s2 =>
        refine ⟨_, _, _, _, rfl, b1.ex _ _ h1, b1.ex _ _ h2, fun H2 l as hext hn hl hlen nl hj => ?_⟩
        have hno : ∀ c ∈ as, H1 c = none := fun c hc => by
          obtain ⟨j, e⟩ := List.mem_iff_getElem?.mp hc
          exact (hj j c e).1
        have hfn : ∀ c ∈ as, Hf1 c = none := fun c hc => Evl.fresh_back b1.ex (hno c hc)
        have hx : Ex Hf1 (fun c => if c ∈ as then H2 c else Hf1 c) := fun c o e => by
          by_cases m : c ∈ as
          · rw [hfn c m] at e; cases e
          · simp only [if_neg m]; exact e
        have g2 : Go wa H1 Hf1 H2 (fun c => if c ∈ as then H2 c else Hf1 c) := ⟨fun c o _ _ e => hext c o e, hx, fun c o _ e => by
          have m : c ∉ as := fun m => by rw [hno c m] at e; cases e
          simp only [if_neg m], fun c o t e => ⟨o, t, id, hext c o e⟩⟩
        have bb : Base wa (fun c => if c ∈ as then H2 c else Hf1 c) H2 w1 := by
          refine ⟨fun c o e => ?_, hext _ _ b1.well, ?_, fun q hq => ?_, fun c o e => ?_, b1.od.trans hx⟩
          · by_cases m : c ∈ as
            · simp only [if_pos m] at e; exact e
            · simp only [if_neg m] at e; exact hext _ _ (b1.ex _ _ e)
          · have m : wa ∉ as := fun m => by
              have := hno wa m
              rw [b1.well] at this
              cases this
            simp only [if_neg m]
            exact b1.nw
          · obtain ⟨ps, t1, t2, t3⟩ := b1.tb q hq
            refine ⟨ps, hext _ _ t1, t2, fun pos cv hc => ?_⟩
            obtain ⟨c, t4, t5⟩ := t3 pos cv hc
            exact ⟨c, t4, hext _ _ t5⟩
          · by_cases m : c ∈ as
            · simp only [if_pos m] at e
              obtain ⟨j, ej⟩ := List.mem_iff_getElem?.mp m
              obtain ⟨_, x, y, _, _, e2⟩ := hj j c ej
              rw [e2] at e
              cases e
              exact nt_tup
            · simp only [if_neg m] at e
              exact b1.nt _ _ e
        refine q H2 _ g2 bb l _ (g1.fr (.of hn)) hl ?_ (fun z => by rw [z, b1.well] at hn; cases hn) ?_
        · simp only [if_neg nl]
          exact Evl.fresh_back b1.ex hn
        · refine reps_zip hx _ _ s1 s2 as hlen fun j c e => ?_
          obtain ⟨_, x, y, e1, e2, e3⟩ := hj j c e
          exact ⟨x, y, e1, e2, by simp only [if_pos (List.mem_of_getElem? e)]; exact e3⟩
  · exact q.elim
/-- bool - bool -/
def op_subB {X : Cx} : OpR X (binaryOp .Sub) (fun x y H Q => ∃ p q : Bool, x = .bl p ∧ y = .bl q ∧ Q (.int (PyProof.Rows.b2i p - PyProof.Rows.b2i q)) H) := fun pins s σ H x y v u Q I rx ry h => by
  obtain ⟨p, q, rfl, rfl, h⟩ := h
  cases (show v = Value.bool p from rx)
  cases (show u = Value.bool q from ry)
  exact PyProof.Rows.sub_bool ⟨.int (PyProof.Rows.b2i p - PyProof.Rows.b2i q), H, I.kept (t' := s.toks + 1) (fun _ _ e => e), ⟨_, rfl⟩, h⟩
def fSubB : Wl → D → D → Option D := fun _ x y => match x, y with
  | .bl p, .bl q => some (.int ((if p then 1 else 0) - (if q then 1 else 0)))
  | _, _ => none
theorem pd_subB {A B : DE} (ha : PE X a (lE mg W A)) (hb : PE X b (lE mg W B)) : PE X (.BinOp a .Sub b pos) (lE mg W (eBin fSubB A B)) := pd_bin op_subB (fun wa Hf H w x y u v z Q hb ru rv h q => by
  unfold fSubB at h
  split at h
  · cases h
    cases ru
    cases rv
    exact ⟨_, _, rfl, rfl, q _ _ Go.refl hb _ (.int _)⟩
  · cases h) ha hb
end
end DL

set_option maxHeartbeats 2000000
namespace DL
open PySem PySem.Spec PyProof.Rows L2
variable [TabT] [OldT]
open Evl (Ex)
theorem units2 {k : Nat} {A : Around} (r : Room k A) : A.units + 1 + 1 < cLine := by have := r.un; omega
/-! ### for k in d, the keys tuples -/
theorem walkD_keysT {wa : Addr} {Hf : Hp} {d : Addr} {ob : Obj} {kvs : List (List Key × V)} {ks : List (List Int)} (h : Hf d = some (.frz ob (.dT kvs))) (hk : kvs.map (·.1) = ks.map keyT) : WalkD wa Hf (Itkt d ob kvs) (ks.map fun k => .tup (k.map .int)) := by
  have l0 := congrArg List.length hk
  rw [List.length_map, List.length_map] at l0
  have l1 : (ks.map fun k => D.tup (k.map .int)).length = kvs.length := by rw [List.length_map, l0]
  refine ⟨fun i H hi x => ⟨x _ _ h, by omega⟩, fun H x => ⟨x _ _ h, by omega⟩, fun i H Hf1 w y H' z hd x b q => ?_⟩
  obtain ⟨rfl, k, v, q, e1, rfl, hq⟩ := q
  have ek : (ks.map keyT)[i]? = some k := by rw [← hk, List.getElem?_map, e1]; rfl
  rw [List.getElem?_map] at ek hd
  obtain ⟨k0, e2, rfl⟩ := Option.map_eq_some_iff.mp ek
  rw [e2] at hd
  cases hd
  have hints : Reps wa Hf1 ((keyT k0).map kV) (k0.map D.int) := by
    have e : (keyT k0).map kV = k0.map V.int := by
      unfold keyT
      rw [List.map_map]
      rfl
    rw [e]
    exact Reps.of_ints
  cases hf : Hf1 q with
  | some o =>
    have e3 := b.ex _ _ hf
    rw [hq] at e3
    cases e3
    exact ⟨Hf1, Go.refl, b, .tup hf hints⟩
  | none =>
    have xn : Ex Hf1 (upd Hf1 q (.tup ((keyT k0).map kV))) := Ex.new hf
    have hw : q ≠ wa := fun z => by rw [z, b.well] at hq; cases hq
    refine ⟨upd Hf1 q (.tup ((keyT k0).map kV)), ⟨fun a o _ _ e => e, xn, fun a o t e => ?_, fun a o t e => ⟨o, t, id, e⟩⟩, ⟨fun a o e => ?_, b.well, by rw [upd_ne (Ne.symm hw)]; exact b.nw, b.tb, nt_upd b.nt nt_tup, b.od.trans xn⟩, .tup upd_same (hints.mono xn)⟩
    · rw [upd_ne]
      intro z
      rw [z, hq] at e
      cases e
      exact t.2 _ rfl
    · by_cases ha : a = q
      · rw [ha, upd_same] at e
        cases e
        rw [ha]
        exact hq
      · rw [upd_ne ha] at e
        exact b.ex _ _ e
section
variable {X : Cx} {mg : Str → Option Value} {W : WX} {e a b tg : Expr} {pos : Pos} {σ : L2.St} {H : Hp} {A B C : DE}
def iKeysT (A : DE) : DI := fun s w => (A s w).bind fun x w1 => match x with
  | .dcf (.t ks) _ => .ok (ks.map fun k => .tup (k.map .int)) w1
  | _ => .no
theorem id_keysT (ha : PE X a (lE mg W A)) : PI X tg a (lI mg W (iKeysT A)) := weakI (pi_keys ha) fun σ H Q h => by
  obtain ⟨wa, Hf, sD, w, hb, hs, h⟩ := h
  refine ⟨wa, Hf, sD, w, hb, hs, h.bind.mono (fun x w1 H1 Hf1 g1 b1 q v rv => ?_) (fun _ _ _ _ _ _ q => q)⟩
  split at q
  · cases rv with
    | dft h k r => exact ⟨_, _, rfl, .inr ⟨_, b1.ex _ _ h, q.here b1 _ (walkD_keysT h k)⟩⟩
  · exact q.elim
end
/-! ### dict(a list of pairs with tuples as keys) -/
abbrev ET := List Key × Addr × V
def mergeT (es : List ET) (kvs : List (List Key × V)) : List (List Key × V) := es.foldl (fun acc e => putK acc e.1 e.2.2) kvs
theorem kt_merge {H : Hp} : ∀ {es : List ET} {ps : List (List Key × Addr × Value)} {kvs : List (List Key × V)} {xs : List (List Key × Addr × Value)}, Paired (fun (e : ET) p => e.1 = p.1 ∧ e.2.1 = p.2.1 ∧ RelV e.2.2 p.2.2 ∧ H e.2.1 = some (.tup (e.1.map kV))) es ps → KT H kvs xs →
    KT H (mergeT es kvs) (storedAllH xs ps)
  | _, _, _, _, .nil, r => r
  | _, _, kvs, xs, .cons (a := e) (b := p) h t, r => by
    obtain ⟨h1, h2, h3, h4⟩ := h
    have r2 := KT.put r e.1 h4 h3
    have := kt_merge t r2
    rw [h1, h2] at this
    show KT H (mergeT _ (putK kvs e.1 e.2.2)) (storedAllH (storedH xs p.1 p.2.1 p.2.2) _)
    rw [h1]
    exact this
section
variable {X : Cx}
theorem call_dictT (hc : X.calm = true) (hu : X.A.units + 1 + 1 < cLine) : CallR X (.type "dict") (fun xs H Q => ∃ (a : Addr) (ps : List Addr) (es : List ET), xs = [.ref a] ∧ H a = some (.lst (ps.map V.ref)) ∧
    Paired (fun p (e : ET) => H p = some (.tup [.ref e.2.1, e.2.2]) ∧ H e.2.1 = some (.tup (e.1.map kV))) ps es ∧ ∀ d, H d = none → Q (.ref d) (upd H d (.dT (mergeT es [])))) := by
  intro pins s σ H xs us Q I r q
  obtain ⟨a, ps, es, rfl, ha, hp, q⟩ := q
  obtain ⟨u, rfl, ru⟩ := vals1 r
  cases ru
  obtain ⟨its, rv, ⟨o, n, ho, hcl, hd, hdat⟩, hz⟩ := I.list (.inl (Rd.of ha))
  have ei := refs_at rv
  subst ei
  rw [List.length_map] at hz
  -- the pairs by value
  have key : ∀ {ps : List Addr} {es : List ET}, Paired (fun p (e : ET) => H p = some (.tup [.ref e.2.1, e.2.2]) ∧ H e.2.1 = some (.tup (e.1.map kV))) ps es →
      ∃ qs : List (List Key × Addr × Value), Paired (fun (e : ET) p => e.1 = p.1 ∧ e.2.1 = p.2.1 ∧ RelV e.2.2 p.2.2 ∧ H e.2.1 = some (.tup (e.1.map kV))) es qs ∧ qs.length = ps.length ∧
        ∀ (j : Nat) (e : List Key × Addr × Value), qs[j]? = some e → ∃ p, ps[j]? = some p ∧ PairAt s.heap p (.ref e.2.1) e.2.2 ∧ H e.2.1 = some (.tup (e.1.map kV)) := by
    intro ps es h
    induction h with
    | nil => exact ⟨[], .nil, rfl, fun j e z => by simp at z⟩
    | @cons p e ps es h t ih =>
      obtain ⟨qs, i1, i2, i3⟩ := ih
      obtain ⟨h1, h2⟩ := h
      obtain ⟨_, its, r2, o, hog, hcl, n, hdt⟩ := I.hok _ _ h1
      obtain ⟨u1, u2, rfl, r3, r4⟩ := vals2 r2
      cases r3
      refine ⟨(e.1, e.2.1, u2) :: qs, .cons ⟨rfl, rfl, r4, h2⟩ i1, by simp [i2], fun j z hj => ?_⟩
      cases j with
      | zero =>
        cases Option.some.inj hj
        exact ⟨p, rfl, .inl ⟨o, hog, hcl, n, hdt⟩, h2⟩
      | succ j =>
        obtain ⟨p', k1, k2⟩ := i3 j z (by simpa using hj)
        exact ⟨p', by simpa using k1, k2⟩
  obtain ⟨qs, k1, k2, k3⟩ := key hp
  have P := PairArg.list (prog := X.prog) (w := X.w) a (ps.map Value.ref).toArray (fun j => ps[j]?.getD a) (qs.map fun e => (Value.ref e.2.1, e.2.2))
  have hks : ∀ e ∈ qs, H e.2.1 = some (.tup (e.1.map kV)) := fun e m => by
    obtain ⟨j, hj⟩ := List.mem_iff_getElem?.mp m
    obtain ⟨_, _, _, h⟩ := k3 j e hj
    exact h
  refine call_dict_pairsH (knd := tupleKind (mixKind X.prog X.w)) (ps := qs) P (I.ok.hd hc) (tupleKind_room_in1 (A := X.A.in1) hu) ⟨⟨o, n, ho, hcl, hd, hdat⟩, ⟨by simp [k2], fun j k v hj => ?_⟩⟩ ⟨by simp, fun i ky v hi => ?_⟩ (fun h' hk x hx => ?_) (by rw [List.length_map, k2]; exact hz) fun h' tk dd kp => ?_
  · rw [List.getElem?_map] at hj
    obtain ⟨e, he, z⟩ := Option.map_eq_some_iff.mp hj
    cases z
    obtain ⟨p, e1, e2, _⟩ := k3 j e he
    have et : ps[j]?.getD a = p := by rw [e1]; rfl
    refine ⟨by simp [e1], ?_⟩
    show PairAt s.heap (ps[j]?.getD a) _ _
    rw [et]
    exact e2
  · have hi' : (qs.map fun e => (Value.ref e.2.1, e.2.2))[i]? = some (ky, v) := hi
    rw [List.getElem?_map] at hi'
    obtain ⟨e, he, z⟩ := Option.map_eq_some_iff.mp hi'
    cases z
    exact ⟨e.1, e.2.1, he, rfl⟩
  · exact key_of (I.kept (h' := h') (t' := s.toks) fun b ob z => hk b ob (Nat.ne_of_lt (Heap.lt_size z)) (by simp) z).hok (hks x hx)
  · have hm : (s.heap.objs.size == sysModules) = false := beq_eq_false_iff_ne.mpr (Nat.ne_of_gt I.big)
    have hn : H s.heap.objs.size = none := I.hok.fresh (Nat.le_refl _)
    have kt : KT (upd H s.heap.objs.size (.dT (mergeT es []))) (mergeT es []) (storedAllH [] qs) := (kt_merge k1 .nil).keeps fun b ys e => by
      rw [upd_ne (ne_of_none e hn)]
      exact e
    have hlen : (mergeT es []).length ≤ sizeLine := by
      rw [Paired.length kt]
      have := storedAllH_length qs ([] : List (List Key × Addr × Value))
      rw [List.length_nil, Nat.zero_add] at this
      omega
    obtain ⟨od, ees, ep, d1, d2, d3, d4, _, d5⟩ := dd
    exact ⟨.ref s.heap.objs.size, _, I.laid (t' := tk) (fun b ob z => kp b ob (by simp) z) (Nat.le_refl _) (show ObjOk X.prog X.w _ _ _ (.dT (mergeT es [])) from ⟨hlen, hm, _, kt, od, ees, ep, d1, d2, d3, d4, d5⟩), rfl, q _ hn⟩
end
/-- the pairs of a list -/
def pairT? : D → Option (List Int × D)
  | .tup [.tup ds, d] => (ints? ds).map fun k => (k, d)
  | _ => none
def pairsT? : List D → Option (List (List Int × D))
  | [] => some []
  | d :: r => match pairT? d, pairsT? r with
    | some p, some q => some (p :: q)
    | _, _ => none
def foldT (ps : List (List Int × D)) (ks : List (List Int)) (xs : List D) : List (List Int) × List D := ps.foldl (fun acc p => putG acc.1 acc.2 p.1 p.2) (ks, xs)
def aDictT (As : DA) : Sl → Wl → R (DKs × List D) := fun s w => (As s w).bind fun ds w1 => match ds with
  | [.lst ds] => match pairsT? ds with
    | some ps => .ok (.t (foldT ps [] []).1, (foldT ps [] []).2) w1
    | none => .no
  | _ => .no
theorem pairsT_rep {wa : Addr} {Hf H : Hp} (x : Ex Hf H) : ∀ {ds : List D} {vs : List V} {ps : List (List Int × D)}, Reps wa Hf vs ds → pairsT? ds = some ps →
    ∃ (as : List Addr) (es : List ET), vs = as.map V.ref ∧ Paired (fun p (e : ET) => H p = some (.tup [.ref e.2.1, e.2.2]) ∧ H e.2.1 = some (.tup (e.1.map kV))) as es ∧
      Paired (fun (e : ET) (p : List Int × D) => e.1 = keyT p.1 ∧ Rep wa Hf e.2.2 p.2) es ps
  | [], _, _, r, h => by
    cases r
    cases h
    exact ⟨[], [], rfl, .nil, .nil⟩
  | d :: ds, _, _, r, h => by
    cases r with
    | cons r1 r2 =>
      unfold pairsT? at h
      split at h
      · rename_i p q hp hq
        cases h
        obtain ⟨as, es, i1, i2, i3⟩ := pairsT_rep x r2 hq
        unfold pairT? at hp
        split at hp
        · rename_i ds' d'
          obtain ⟨k, hk, rfl⟩ := Option.map_eq_some_iff.mp hp
          cases r1 with
          | tup h1 t1 =>
            cases t1 with
            | cons t1 t2 =>
              cases t2 with
              | cons t2 t3 =>
                cases t3
                obtain ⟨b, rfl, hb⟩ := keyT?_rep t1 (show keyT? (.tup ds') = some k from hk)
                refine ⟨_ :: as, (keyT k, b, _) :: es, ?_, .cons ⟨x _ _ h1, x _ _ hb⟩ i2, .cons ⟨rfl, t2⟩ i3⟩
                rw [i1]
                rfl
        · cases hp
      · cases h
theorem foldT_rep {wa : Addr} {Hf : Hp} : ∀ {es : List ET} {ps : List (List Int × D)} {kvs : List (List Key × V)} {ks : List (List Int)} {xs : List D}, Paired (fun (e : ET) (p : List Int × D) => e.1 = keyT p.1 ∧ Rep wa Hf e.2.2 p.2) es ps →
    kvs.map (·.1) = ks.map keyT → Reps wa Hf (kvs.map (·.2)) xs → (mergeT es kvs).map (·.1) = (foldT ps ks xs).1.map keyT ∧ Reps wa Hf ((mergeT es kvs).map (·.2)) (foldT ps ks xs).2
  | _, _, _, _, _, .nil, h, r => ⟨h, r⟩
  | e :: es, p :: ps, kvs, ks, xs, .cons h t, hk, r => by
    obtain ⟨h1, h2⟩ := h
    obtain ⟨q1, q2⟩ := putG_rep (fun a b e => keyT_inj.mp e) (j := p.1) hk r h2
    rw [← h1] at q1 q2
    exact foldT_rep (es := es) (ps := ps) t q1 q2
section
variable {X : Cx} {mg : Str → Option Value} {W : WX} {a : Expr} {p pos : Pos}
theorem pe_dictT {As : DA} (hc : X.calm = true) (hu : X.A.units + 1 + 1 < cLine) (hg : Gl X "dict") (hm : X.mg "dict" = none) (ha : PA X [a] (lA mg W As)) (na : starEach [a] X.env = (false, eval a X.env) :: starEach [] X.env := by rfl) :
    PE X (.Call (.Name "dict" p) [a] [] pos) (lfD mg W (aDictT As)) := weakE (pe_callTy (call_dictT hc hu) hg hm (by decide +kernel) ha (he := na)) fun σ H Q h => by
  obtain ⟨wa, Hf, sD, w, hb, hs, h⟩ := h
  refine ⟨wa, Hf, sD, w, hb, hs, h.bind.mono (fun ds w1 H1 Hf1 g1 b1 q vs rv => ?_) (fun _ _ _ _ _ _ q => q)⟩
  split at q
  · split at q
    · rename_i ds ps hps
      cases rv with
      | cons r1 r2 =>
        cases r2
        cases r1 with
        | lst h1 t1 =>
          obtain ⟨as, es, rfl, i2, i3⟩ := pairsT_rep b1.ex t1 hps
          obtain ⟨f1, f2⟩ := foldT_rep i3 (kvs := []) (ks := []) (xs := []) rfl .nil
          refine ⟨_, as, es, rfl, b1.ex _ _ h1, i2, fun d hd => ?_⟩
          have g2 : Go wa H1 Hf1 (upd H1 d (.dT (mergeT es []))) Hf1 := Go.new1 hd
          exact q _ Hf1 g2 (b1.new1 hd) d _ (g1.fr (.of hd)) upd_same (.t f1 f2) (Evl.fresh_back b1.ex hd) (fun z => by rw [z, b1.well] at hd; cases hd)
    · exact q.elim
  · exact q.elim
end
end DL

set_option maxHeartbeats 2000000
namespace DL
open PySem PySem.Spec PyProof.Rows L2
variable [TabT] [OldT]
open Evl (Ex)
/-! ### dict of pairs whose keys are ints or texts -/
def pairK? : D → Option (Key × D)
  | .tup [kd, d] => (keyK? kd).map fun k => (k, d)
  | _ => none
def pairsK? : List D → Option (List (Key × D))
  | [] => some []
  | d :: r => match pairK? d, pairsK? r with
    | some p, some q => some (p :: q)
    | _, _ => none
def foldK (ps : List (Key × D)) (ks : List Key) (xs : List D) : List Key × List D := ps.foldl (fun acc p => putG acc.1 acc.2 p.1 p.2) (ks, xs)
def aDictK (As : DA) : Sl → Wl → R (DKs × List D) := fun s w => (As s w).bind fun ds w1 => match ds with
  | [.lst ds] => match pairsK? ds with
    | some ps => .ok (.k (foldK ps [] []).1, (foldK ps [] []).2) w1
    | none => .no
  | _ => .no
theorem pairsK_rep {wa : Addr} {Hf H : Hp} {K : PySem.W.Frag} (x : Ex Hf H) : ∀ {ds : List D} {vs : List V} {ps : List (Key × D)}, Reps wa Hf vs ds → pairsK? ds = some ps →
    ∃ (as : List Addr) (kvs : List (Key × V)), vs = as.map V.ref ∧ Paired (fun p (kv : Key × V) => SqT K H p [kV kv.1, kv.2]) as kvs ∧ Paired (fun (kv : Key × V) (p : Key × D) => kv.1 = p.1 ∧ Rep wa Hf kv.2 p.2) kvs ps
  | [], _, _, r, h => by
    cases r
    cases h
    exact ⟨[], [], rfl, .nil, .nil⟩
  | d :: ds, _, _, r, h => by
    cases r with
    | cons r1 r2 =>
      unfold pairsK? at h
      split at h
      · rename_i p q hp hq
        cases h
        obtain ⟨as, es, i1, i2, i3⟩ := pairsK_rep (K := K) x r2 hq
        unfold pairK? at hp
        split at hp
        · rename_i kd d'
          obtain ⟨k, hk, rfl⟩ := Option.map_eq_some_iff.mp hp
          cases r1 with
          | tup h1 t1 =>
            cases t1 with
            | cons t1 t2 =>
              cases t2 with
              | cons t2 t3 =>
                cases t3
                have e := keyK?_rep t1 hk
                subst e
                refine ⟨_ :: as, (k, _) :: es, ?_, .cons (SqT.of (x _ _ h1)) i2, .cons ⟨rfl, t2⟩ i3⟩
                rw [i1]
                rfl
        · cases hp
      · cases h
theorem foldK_rep {wa : Addr} {Hf : Hp} : ∀ {es : List (Key × V)} {ps : List (Key × D)} {kvs : List (Key × V)} {ks : List Key} {xs : List D}, Paired (fun (kv : Key × V) (p : Key × D) => kv.1 = p.1 ∧ Rep wa Hf kv.2 p.2) es ps →
    kvs.map (·.1) = ks → Reps wa Hf (kvs.map (·.2)) xs → (mergeK kvs es).map (·.1) = (foldK ps ks xs).1 ∧ Reps wa Hf ((mergeK kvs es).map (·.2)) (foldK ps ks xs).2
  | _, _, _, _, _, .nil, h, r => ⟨h, r⟩
  | e :: es, p :: ps, kvs, ks, xs, .cons h t, hk, r => by
    obtain ⟨h1, h2⟩ := h
    obtain ⟨q1, q2⟩ := putG_rep (f := fun x : Key => x) (fun a b e => e) (j := p.1) (hk.trans (List.map_id' _).symm) r h2
    have q3 : putK kvs p.1 e.2 = putK kvs e.1 e.2 := by rw [h1]
    rw [q3] at q1 q2
    rw [List.map_id'] at q1
    exact foldK_rep (es := es) (ps := ps) t q1 q2
section
variable {X : Cx} {mg : Str → Option Value} {W : WX} {a : Expr} {p pos : Pos}
theorem pe_dictK {As : DA} (hc : X.calm = true) (hg : Gl X "dict") (hm : X.mg "dict" = none) (ha : PA X [a] (lA mg W As)) (na : starEach [a] X.env = (false, eval a X.env) :: starEach [] X.env := by rfl) :
    PE X (.Call (.Name "dict" p) [a] [] pos) (lfD mg W (aDictK As)) := weakE (pe_callTy (call_dictP hc) hg hm (by decide +kernel) ha (he := na)) fun σ H Q h => by
  obtain ⟨wa, Hf, sD, w, hb, hs, h⟩ := h
  refine ⟨wa, Hf, sD, w, hb, hs, h.bind.mono (fun ds w1 H1 Hf1 g1 b1 q vs rv => ?_) (fun _ _ _ _ _ _ q => q)⟩
  split at q
  · split at q
    · rename_i ds ps hps
      cases rv with
      | cons r1 r2 =>
        cases r2
        cases r1 with
        | lst h1 t1 =>
          obtain ⟨as, es, rfl, i2, i3⟩ := pairsK_rep (K := X.K) b1.ex t1 hps
          obtain ⟨f1, f2⟩ := foldK_rep i3 (kvs := []) (ks := []) (xs := []) rfl .nil
          refine ⟨_, as, es, rfl, SqL.of (b1.ex _ _ h1), i2, fun d hd => ?_⟩
          have g2 : Go wa H1 Hf1 (upd H1 d (.dK (mergeK [] es))) Hf1 := Go.new1 hd
          exact q _ Hf1 g2 (b1.new1 hd) d _ (g1.fr (.of hd)) upd_same (.k f1 f2) (Evl.fresh_back b1.ex hd) (fun z => by rw [z, b1.well] at hd; cases hd)
    · exact q.elim
  · exact q.elim
end
end DL

set_option maxHeartbeats 2000000
namespace DL
open PySem PySem.Spec PyProof.Rows L2
variable [TabT] [OldT]
open Evl (Ex)
/-! ### max of a list or a tuple of ints -/
theorem readsInts (h : Heap) : ∀ {vs : List Value} {xs : List Int}, IntsAre vs xs → ReadsAll h vs (xs.map PyData.int) []
  | _, _, .nil => .nil
  | _, _, .cons n t r => ReadsAll.cons (Reads.int n t) (readsInts h r)
theorem depth_ints : ∀ xs : List Int, PyData.depthAll (xs.map PyData.int) = 0
  | [] => by simp [PyData.depthAll]
  | x :: xs => by simp [PyData.depthAll, PyData.depth, depth_ints xs]
theorem alike_ints (xs : List Int) : PySem.W.AlikeAll (xs.map PyData.int) := by
  constructor
  · intro x hx y hy
    obtain ⟨a, _, rfl⟩ := List.mem_map.mp hx
    obtain ⟨b, _, rfl⟩ := List.mem_map.mp hy
    rfl
  · intro x hx
    obtain ⟨a, _, rfl⟩ := List.mem_map.mp hx
    intro z
    cases z
def rMaxT (K : PySem.W.Frag) : List V → Hp → VK → Prop := fun vs H Q => ∃ (a : Addr) (n : Int) (ns : List Int), vs = [V.ref a] ∧ SqT K H a ((n :: ns).map V.int) ∧ Q (.int (ns.foldl max n)) H
section
variable {X : Cx}
theorem cr_maxT (hu : X.A.units + 1 < cLine) (hc : X.calm = true) : CallR X (.builtin "max") (rMaxT X.K) := by
  intro pins s σ H vs us Q I r h
  obtain ⟨a, n, ns, rfl, hs, q⟩ := h
  obtain ⟨its, rv, hl, _⟩ := I.tuple hs
  rw [Vals.ref1 r]
  have hi := rv.ints
  have hr : ReadsAll s.heap its.toArray.toList (PyData.int n :: ns.map PyData.int) [] := readsInts s.heap hi
  refine PySem.W.max_tuple_data (I.ok.hd hc) (show s.heap.IsTuple a its.toArray from hl) hr (alike_ints (n :: ns)) ?_ fun i v h' tk bs hv hrd hk => ?_
  · have := depth_ints (n :: ns)
    rw [List.map_cons] at this
    rw [this]
    exact hu
  · rw [PySem.W.maxD_ints] at hrd
    cases hrd with
    | int _ t => exact ⟨.int _, H, I.kept hk, ⟨_, rfl⟩, q⟩
def rMaxA (K : PySem.W.Frag) : List V → Hp → VK → Prop := fun vs H Q => rMax K vs H Q ∨ rMaxT K vs H Q
theorem cr_maxA (hu : X.A.units + 1 < cLine) (hc : X.calm = true) : CallR X (.builtin "max") (rMaxA X.K) := by
  intro pins s σ H vs us Q I r h
  rcases h with h | h
  · exact cr_max hc pins s σ H vs us Q I r h
  · exact cr_maxT hu hc pins s σ H vs us Q I r h
def fMaxA : Wl → List D → Option D := fun w ds => match ds with
  | [.lst xs] => fMaxL w [.lst xs]
  | [.tup xs] => match ints? xs with
    | some (n :: ns) => some (.int (ns.foldl max n))
    | _ => none
  | _ => none
theorem cd_maxA {K : PySem.W.Frag} : CaD (rMaxA K) fMaxA := by
  intro wa Hf H w ds us z Q hb rs h q
  unfold fMaxA at h
  split at h
  · exact .inl (cd_maxL wa Hf H w _ us z Q hb rs h q)
  · split at h
    · rename_i xs n ns e
      cases h
      right
      cases rs with
      | cons r1 r2 =>
        cases r2
        cases r1 with
        | tup h1 r1 =>
          rw [ints?_some e] at r1
          have e2 := r1.ints
          subst e2
          exact ⟨_, n, ns, rfl, SqT.of (hb.ex _ _ h1), q _ _ Go.refl hb _ (.int _)⟩
    · cases h
  · cases h
@[simp] theorem v_maxA {w : Wl} {ns : List Int} : fMaxA w [.lst (ns.map .int)] = (maxI ns).map .int := v_maxL (w := w)
@[simp] theorem v_maxAT {w : Wl} {n : Int} {ns : List Int} : fMaxA w [.tup (.int n :: ns.map .int)] = some (.int (ns.foldl max n)) := by
  have e := ints?_map (n :: ns)
  rw [List.map_cons] at e
  unfold fMaxA
  dsimp only
  rw [e]
end
end DL

set_option maxHeartbeats 2000000
namespace DL
open PySem PySem.Spec PyProof.Rows L2
variable [TabT] [OldT]
open Evl (Ex)
/-! ### min of tuples of a text and ints, with a default or without -/
abbrev TxI := Str × List Int
def siD (p : TxI) : D := .tup (.str p.1 :: p.2.map .int)
def siP (p : TxI) : PyData := .tuple (.str p.1 :: p.2.map .int)
theorem toPD_si (p : TxI) : toPD (siD p) = siP p := by simp [siD, siP, toPD, toPDs, toPDs_ints]
theorem toPDs_si : ∀ ps : List TxI, toPDs (ps.map siD) = ps.map siP
  | [] => rfl
  | p :: ps => by rw [List.map_cons, List.map_cons, toPDs, toPD_si, toPDs_si ps]
def siD? : D → Option TxI
  | .tup (.str x :: ds) => (ints? ds).map fun ns => (x, ns)
  | _ => none
def sis? : List D → Option (List TxI)
  | [] => some []
  | d :: ds => match siD? d, sis? ds with
    | some p, some ps => some (p :: ps)
    | _, _ => none
theorem siD?_some {d : D} {p : TxI} (h : siD? d = some p) : d = siD p := by
  unfold siD? at h
  split at h
  · rename_i x ds
    obtain ⟨ns, hn, rfl⟩ := Option.map_eq_some_iff.mp h
    rw [ints?_some hn]
    rfl
  · cases h
@[simp] theorem siD?_si {p : TxI} : siD? (siD p) = some p := by
  unfold siD siD?
  dsimp only
  rw [ints?_map]
  rfl
theorem sis?_some : ∀ {ds : List D} {ps : List TxI}, sis? ds = some ps → ds = ps.map siD
  | [], _, h => by cases h; rfl
  | d :: ds, ps, h => by
    unfold sis? at h
    cases e1 : siD? d with
    | none => rw [e1] at h; cases h
    | some p =>
      cases e2 : sis? ds with
      | none => rw [e1, e2] at h; cases h
      | some qs =>
        rw [e1, e2] at h
        cases h
        rw [siD?_some e1, sis?_some e2]
        rfl
@[simp] theorem sis?_map : ∀ {ps : List TxI}, sis? (ps.map siD) = some ps
  | [] => rfl
  | p :: ps => by rw [List.map_cons]; unfold sis?; rw [siD?_si, sis?_map]
def ltS (a b : TxI) : Bool := PySem.W.dataLt (siP a) (siP b)
def minS (p : TxI) (ps : List TxI) : TxI := ps.foldl (fun a y => if ltS y a then y else a) p
theorem minD_si (p : TxI) (ps : List TxI) : PySem.W.minD (siP p) (ps.map siP) = siP (minS p ps) := by
  unfold PySem.W.minD minS
  induction ps generalizing p with
  | nil => rfl
  | cons q ps ih =>
    rw [List.map_cons, List.foldl_cons, List.foldl_cons]
    have e : (if PySem.W.dataLt (siP q) (siP p) = true then siP q else siP p) = siP (if ltS q p = true then q else p) := by
      unfold ltS
      split <;> rfl
    rw [e]
    exact ih _
theorem ints_inj : ∀ {xs ys : List Int}, xs.map PyData.int = ys.map PyData.int → xs = ys
  | [], [], _ => rfl
  | x :: xs, y :: ys, h => by
    simp only [List.map_cons, List.cons.injEq, PyData.int.injEq] at h
    rw [h.1, ints_inj h.2]
  | [], _ :: _, h => by cases h
  | _ :: _, [], h => by cases h
theorem siP_inj {p q : TxI} (h : siP p = siP q) : p = q := by
  obtain ⟨x, xs⟩ := p
  obtain ⟨y, ys⟩ := q
  unfold siP at h
  simp only [PyData.tuple.injEq, List.cons.injEq, PyData.str.injEq] at h
  rw [h.1, ints_inj h.2]
theorem alikeI : ∀ xs ys : List Int, PySem.W.alikeAll (xs.map .int) (ys.map .int) = true
  | [], _ => by simp [PySem.W.alikeAll]
  | _ :: _, [] => by simp [PySem.W.alikeAll]
  | x :: xs, y :: ys => by
    rw [List.map_cons, List.map_cons, PySem.W.alikeAll, PySem.W.alike, alikeI xs ys]
    rfl
theorem alike_si (ps : List TxI) : PySem.W.AlikeAll (ps.map siP) := by
  constructor
  · intro x hx y hy
    obtain ⟨a, _, rfl⟩ := List.mem_map.mp hx
    obtain ⟨b, _, rfl⟩ := List.mem_map.mp hy
    unfold siP
    rw [PySem.W.alike, PySem.W.alikeAll, PySem.W.alike, alikeI]
    rfl
  · intro x hx
    obtain ⟨a, _, rfl⟩ := List.mem_map.mp hx
    intro z
    cases z
theorem depth_si : ∀ ps : List TxI, PyData.depthAll (ps.map siP) ≤ 1
  | [] => by simp [PyData.depthAll]
  | p :: ps => by
    have := depth_si ps
    have h2 := depth_ints p.2
    simp [PyData.depthAll, PyData.depth, siP, h2]
    exact Nat.max_le.mpr ⟨Nat.le_refl _, this⟩
theorem vals_atS : ∀ {xs : List V} {us : List Value} {i : Nat} {u : Value}, Vals xs us → us[i]? = some u → ∃ x, xs[i]? = some x ∧ RelV x u
  | [], _, _, _, .nil, h => by cases h
  | x :: xs, _, 0, _, .cons r _, h => by cases h; exact ⟨x, rfl, r⟩
  | x :: xs, _, i + 1, _, .cons _ r, h => vals_atS (i := i) r h
/-- what stands in its list at the place of the least -/
def AtS (ys : List V) (ps : List TxI) (p : TxI) (x : V) : Prop := ∃ i : Nat, ys[i]? = some x ∧ ps[i]? = some p
def rMinS (K : PySem.W.Frag) : List V → Hp → VK → Prop := fun vs H Q => ∃ a ys p ps, vs = [V.ref a] ∧ SqL K H a ys ∧ DpAll K H ys ((p :: ps).map siP) ∧ PyData.canLayAll0 ((p :: ps).map siP) = true ∧ ∀ x, AtS ys (p :: ps) (minS p ps) x → Q x H
def rMinSD (K : PySem.W.Frag) : List V → List V → Hp → VK → Prop := fun vs zs H Q => ∃ a ys ps z, vs = [V.ref a] ∧ zs = [z] ∧ SqL K H a ys ∧ DpAll K H ys (ps.map siP) ∧ PyData.canLayAll0 (ps.map siP) = true ∧ (ps = [] → Q z H) ∧ ∀ p qs x, ps = p :: qs → AtS ys ps (minS p qs) x → Q x H
theorem layAll_mem : ∀ {ds : List PyData}, PyData.canLayAll0 ds = true → ∀ d ∈ ds, d.canLay0 = true
  | d :: ds, h, e, m => by
    have h' : d.canLay0 = true ∧ PyData.canLayAll0 ds = true := by simpa [PyData.canLayAll0] using h
    rcases List.mem_cons.mp m with rfl | m
    · exact h'.1
    · exact layAll_mem h'.2 e m
section
variable {X : Cx}
theorem at_min {s : Shared} {h' : Heap} {ys : List V} {its : List Value} {ps : List TxI} {q : TxI} {as bs : List Addr} {i : Nat} {v : Value} (rv : Vals ys its) (hr : ReadsAll s.heap its.toArray.toList (ps.map siP) as) (hl : PyData.canLayAll0 (ps.map siP) = true) (hv : its.toArray[i]? = some v)
    (hrd : Reads h' v (siP q) bs) (hk : ∀ b o, s.heap.get? b = some o → h'.get? b = some o) : ∃ x, AtS ys ps q x ∧ RelV x v := by
  have hv' : its[i]? = some v := by simpa using hv
  obtain ⟨x, hx, rx⟩ := vals_atS rv hv'
  obtain ⟨cs, r1, r2, r3, _⟩ := PySem.W.readsAll_atA hr i v hv
  rw [List.length_map] at r2
  have e := (Reads.unique (PySem.W.reads_keeps hk r1) _ _ hrd).1
  rw [List.getD_eq_getElem?_getD, List.getElem?_map, List.getElem?_eq_getElem r2] at e
  have e2 : ps[i] = q := siP_inj e
  exact ⟨x, ⟨i, hx, by rw [List.getElem?_eq_getElem r2, e2]⟩, rx⟩
theorem cr_minS (hu : X.A.units + 1 + 1 < cLine) (hc : X.calm = true) : CallR X (.builtin "min") (rMinS X.K) := by
  intro pins s σ H vs us Q I r h
  obtain ⟨a, ys, p, ps, rfl, hs, hd, hl, q⟩ := h
  obtain ⟨its, rv, hi, _⟩ := I.list hs
  rw [Vals.ref1 r]
  obtain ⟨as, hr⟩ := Dp.readsAll I _ ys its hd rv
  have hdep := depth_si (p :: ps)
  refine PySem.W.min_list_data (I.ok.hd hc) hi.isList (x := siP p) (xs := ps.map siP) hr (alike_si (p :: ps)) (by rw [List.map_cons] at hdep; omega) fun i v h' tk bs hv hrd hk => ?_
  rw [minD_si] at hrd
  obtain ⟨x, hx, rx⟩ := at_min (ps := p :: ps) rv hr hl hv hrd hk
  exact ⟨x, H, I.kept hk, rx, q x hx⟩
theorem cr_minSD (hu : X.A.units + 1 + 1 < cLine) (hc : X.calm = true) : CallRK X (.builtin "min") [Str.ofString "default"] (rMinSD X.K) := by
  intro pins s σ H vs zs us ws Q I r rz h
  obtain ⟨a, ys, ps, z, rfl, rfl, hs, hd, hl, q0, q⟩ := h
  obtain ⟨its, rv, hi, _⟩ := I.list hs
  rw [Vals.ref1 r]
  cases rz with
  | cons rz1 rz2 =>
    cases rz2
    obtain ⟨as, hr⟩ := Dp.readsAll I _ ys its hd rv
    have hdep := depth_si ps
    refine PySem.W.min_list_default (I.ok.hd hc) hi.isList (xs := ps.map siP) hr (alike_si ps) (by omega) (fun he h' tk hk => ?_) fun y r i v h' tk bs he hv hrd hk => ?_
    · exact ⟨z, H, I.kept hk, rz1, q0 (List.map_eq_nil_iff.mp he)⟩
    · cases ps with
      | nil => cases he
      | cons p qs =>
        rw [List.map_cons] at he
        cases he
        rw [minD_si] at hrd
        obtain ⟨x, hx, rx⟩ := at_min (ps := p :: qs) rv hr hl hv hrd hk
        exact ⟨x, H, I.kept hk, rx, q p qs x rfl hx⟩
def rMinA (K : PySem.W.Frag) : List V → Hp → VK → Prop := fun vs H Q => rMin K vs H Q ∨ rMinS K vs H Q
theorem cr_minA (hu : X.A.units + 1 + 1 < cLine) (hc : X.calm = true) : CallR X (.builtin "min") (rMinA X.K) := by
  intro pins s σ H vs us Q I r h
  rcases h with h | h
  · exact cr_min hc pins s σ H vs us Q I r h
  · exact cr_minS hu hc pins s σ H vs us Q I r h
def fMinA : Wl → List D → Option D := fun w ds => match ds with
  | [.lst xs] => match sis? xs with
    | some (p :: ps) => if PyData.canLayAll0 ((p :: ps).map siP) = true then some (siD (minS p ps)) else none
    | _ => fMinL w [.lst xs]
  | _ => none
theorem si_at {wa : Addr} {Hf : Hp} {vs : List V} {ps : List TxI} {p : TxI} {x : V} (r : Reps wa Hf vs (ps.map siD)) (h : AtS vs ps p x) : Rep wa Hf x (siD p) := by
  obtain ⟨i, h1, h2⟩ := h
  obtain ⟨d, e, rd⟩ := r.getV h1
  rw [List.getElem?_map, h2] at e
  cases e
  exact rd
theorem cd_minA {K : PySem.W.Frag} : CaD (rMinA K) fMinA := by
  intro wa Hf H w ds us z Q hb rs h q
  unfold fMinA at h
  split at h
  · rename_i xs
    split at h
    · rename_i p ps e
      split at h
      · rename_i hl
        cases h
        right
        have e2 := sis?_some e
        subst e2
        cases rs with
        | cons r1 r2 =>
          cases r2
          cases r1 with
          | lst h1 r1 =>
            have hd := Reps.dp (K := K) hb r1 (by rw [toPDs_si]; exact hl)
            rw [toPDs_si] at hd
            exact ⟨_, _, p, ps, rfl, SqL.of (hb.ex _ _ h1), hd, hl, fun x hx => q _ _ Go.refl hb _ (si_at r1 hx)⟩
      · cases h
    · exact .inl (cd_minL wa Hf H w _ us z Q hb rs h q)
  · cases h
@[simp] theorem v_minA {w : Wl} {ns : List Int} : fMinA w [.lst (ns.map .int)] = (minI ns).map .int := by
  cases ns with
  | nil => exact v_minL (w := w) (ns := [])
  | cons n ns => exact v_minL (w := w) (ns := n :: ns)
@[simp] theorem v_minAS {w : Wl} {p : TxI} {ps : List TxI} : fMinA w [.lst ((p :: ps).map siD)] = if PyData.canLayAll0 ((p :: ps).map siP) = true then some (siD (minS p ps)) else none := by
  unfold fMinA
  dsimp only
  rw [sis?_map]
variable {mg : Str → Option Value} {W : WX}
/-- min(x, default = z) -/
def eMinD (As Ks : DA) : DE := fun s w => (As s w).bind fun xs w1 => (Ks s w1).bind fun zs w2 => match xs, zs with
  | [.lst ds], [z] => match sis? ds with
    | some ps => if PyData.canLayAll0 (ps.map siP) = true then match ps with
      | [] => .ok z w2
      | p :: qs => .ok (siD (minS p qs)) w2
      else .no
    | none => .no
  | _, _ => .no
theorem pd_minD {p pos : Pos} {e : Expr} {kws : List Keyword} {As Ks : DA} (hu : X.A.units + 1 + 1 < cLine) (hc : X.calm = true) (hg : Gl X "min") (hm : X.mg "min" = none) (ha : PA X [e] (lA mg W As)) (hk : PK X kws (lA mg W Ks))
    (he : backTo pos (starEach [e] X.env) = (false, eval e X.env) :: backTo pos (starEach [] X.env) := by rfl) (hpl : (backTo pos (starEach [e] X.env)).any (·.1) = false := by rfl)
    (hall : (backToKw pos (keywordEach kws X.env)).all (·.1.isSome) = true := by rfl) (hnone : (backToKw pos (keywordEach kws X.env)).any (·.1.isNone) = false := by rfl) (hks : (backToKw pos (keywordEach kws X.env)).filterMap (·.1) = [Str.ofString "default"] := by rfl) :
    PE X (.Call (.Name "min" p) [e] kws pos) (lE mg W (eMinD As Ks)) := weakE (pe_callBK (cr_minSD hu hc) hg hm (by decide +kernel) ha hk (by decide) (by decide) he hpl hall hnone hks) fun σ H Q h => by
  obtain ⟨wa, Hf, sD, w, hb, hs, h⟩ := h
  refine ⟨wa, Hf, sD, w, hb, hs, h.bind.mono (fun xs w1 H1 Hf1 g1 b1 q vs rvs => ?_) (fun _ _ _ _ _ _ q => q)⟩
  refine ⟨wa, Hf1, sD, w1, b1, hs.go g1, q.bind.mono (fun zs w2 H2 Hf2 g2 b2 q2 us rus => ?_) (fun _ _ _ _ _ _ q => q)⟩
  split at q2
  · rename_i ds z
    split at q2
    · rename_i ps e
      split at q2
      · rename_i hl
        have e2 := sis?_some e
        subst e2
        cases rvs with
        | cons r1 r2 =>
          cases r2
          cases rus with
          | cons u1 u2 =>
            cases u2
            cases r1 with
            | lst h1 r1 =>
              have r3 := r1.mono g2.ex
              have hd := Reps.dp (K := X.K) b2 r3 (by rw [toPDs_si]; exact hl)
              rw [toPDs_si] at hd
              refine ⟨_, _, ps, _, rfl, rfl, SqL.of (b2.ex _ _ (g2.ex _ _ h1)), hd, hl, fun hn => ?_, fun p qs x hq hx => ?_⟩
              · subst hn
                exact q2.here b2 _ u1
              · subst hq
                exact q2.here b2 _ (si_at r3 hx)
      · exact q2.elim
    · exact q2.elim
  · exact q2.elim
end
end DL

set_option maxHeartbeats 2000000
namespace DL
open PySem PySem.Spec PyProof.Rows L2
variable [TabT] [OldT]
open Evl (Ex)
/-! ### try where nothing is raised; setdefault of a dict that only its slot knows -/
section
variable {X : Cx} {mg : Str → Option Value} {W : WX} {st : Stmt} {A E : DE} {i : Nat}
def sTryN (S : DS) : DS := fun s w => match S s w with
  | .er _ _ _ => .no
  | o => o
theorem sd_tryN {S : DS} {body : List Stmt} {h₀ : ExceptHandler} {hds : List ExceptHandler} {pos : Pos} (hb : PSs X.nox body (lS mg W0 S)) : PS X (.Try body (h₀ :: hds) [] [] pos) (lS mg W (sTryN S)) := weakS (ps_try_thru0 hb) fun D σ H h => by
  obtain ⟨wa, Hf, sD, w, H0, Hf0, g, b, hs, ho, h⟩ := h
  refine ⟨wa, Hf, sD, w, H0, Hf0, g, b, hs, ho, ?_⟩
  unfold sTryN at h
  cases e : S sD w with
  | er x s1 w1 => rw [e] at h; exact h.elim
  | nx s1 w1 => rw [e] at h; exact h
  | rt d w1 => rw [e] at h; exact h
  | bk s1 w1 => rw [e] at h; exact h
  | ct s1 w1 => rw [e] at h; exact h
  | no => rw [e] at h; exact h
/-- x.setdefault(k, v): the keys are ints or texts -/
def sSetd (i : Nat) (A E : DE) : DS := fun s w => match A s w with
  | .ok kd w1 => match E s w1 with
    | .ok d w2 => match s[i]? with
      | some (some (.dct (.k ks) xs)) => match getD (.k ks) xs kd, putD (.k ks) xs kd d with
        | some none, some r => if ks.length < lim then .nx (s.set i (some (.dct r.1 r.2))) w2 else .no
        | some (some _), _ => if ks.length < lim then .nx s w2 else .no
        | _, _ => .no
      | _ => .no
    | _ => .no
  | _ => .no
theorem sd_setd (h : PS X st (tDrop (tDSetd (tVar i) (lE mg W A) (lE mg W E)))) : PS X st (lS mg W (sSetd i A E)) := weakS h fun D σ H h => by
  obtain ⟨wa, Hf, sD, w, H0, Hf0, g, b, hs, ho, h⟩ := h
  unfold sSetd at h
  cases ea : A sD w with
  | no => rw [ea] at h; exact h.elim
  | er x w1 => rw [ea] at h; exact h.elim
  | ok kd w1 =>
    rw [ea] at h
    dsimp only at h
    cases e : E sD w1 with
    | no => rw [e] at h; exact h.elim
    | er x w2 => rw [e] at h; exact h.elim
    | ok d w2 =>
      rw [e] at h
      dsimp only at h
      split at h
      · rename_i ks xs hi
        obtain ⟨p, o, k1, k2, k3, k4, k5⟩ := hs.dic i (.k ks) xs hi
        refine ⟨.ref p, k1, p, rfl, ?_, wa, Hf, sD, w, b, hs, ?_⟩
        · cases k5 with
          | k hk r => exact .inl ⟨_, .inl k2⟩
        rw [ea]
        intro H1 Hf1 g1 b1 u ru
        refine ⟨wa, Hf1, sD, w1, b1, hs.go g1, ?_⟩
        rw [e]
        intro H2 Hf2 g2 b2 v rv
        have g12 := g1.trans g2
        have kp : H2 p = some o := g12.keepN p _ k4 k5.nt k2
        have kf : Hf2 p = none := (g12.newN p _ k5.nu k2).trans k3
        have h0 : Fr H0 p := ho i _ p hi isO_dct k1
        have k6 : DicR wa Hf2 o (.k ks) xs := k5.mono g12.ex
        cases k6 with
        | k hk r =>
          rename_i kvs
          have hl2 : ks.length < lim → kvs.length < sizeLine := fun hl => Nat.lt_of_lt_of_le (by have := congrArg List.length hk; simp only [List.length_map] at this; rw [this]; exact hl) (lim_le (Nat.le_refl _))
          have ru2 := ru.mono g2.ex
          unfold getD putD at h
          cases hkd : keyK? kd with
          | none => rw [hkd] at h; exact h.elim
          | some k =>
            rw [hkd] at h
            have eu := keyK?_rep ru2 hkd
            have hg := getG_rep (f := fun x : Key => x) (fun a b e => e) (hk.trans (List.map_id' _).symm) r k
            dsimp only [Option.map] at h
            rcases hg with ⟨q1, q2⟩ | ⟨v1, d1, q1, q2, q3⟩
            · rw [q2] at h
              dsimp only at h
              split at h
              · rename_i hl
                refine ⟨kvs, k, kp, eu, hl2 hl, fun v hv => (by rw [q1] at hv; cases hv), fun _ => ?_⟩
                obtain ⟨p1, p2⟩ := putG_rep (f := fun x : Key => x) (fun a b e => e) (j := k) (hk.trans (List.map_id' _).symm) r rv
                refine h σ _ Hf2 ((g.trans g12).appF h0) g12.ex (b2.appD kf k4 kp (k5.mono g12.ex)) ((hs.go g12).writeD hi k1 (.k (p1.trans (List.map_id' _)) p2)) (ho.sub fun j ye hj io => ?_)
                by_cases hji : j = i
                · subst hji
                  exact ⟨_, hi, isO_dct⟩
                · rw [List.getElem?_set_ne (Ne.symm hji)] at hj
                  exact ⟨ye, hj, io⟩
              · exact h.elim
            · rw [q2] at h
              dsimp only at h
              split at h
              · rename_i hl
                refine ⟨kvs, k, kp, eu, hl2 hl, fun v hv => ?_, fun hn => (by rw [q1] at hn; cases hn)⟩
                exact h σ _ Hf2 (g.trans g12) g12.ex b2 (hs.go g12) ho
              · exact h.elim
      · exact h.elim
/-- what stands at a key then, and the dict -/
def setdD (o : Option (Option D)) (kd d : D) : Option (D × DKs × List D) := match o with
  | some (some (.dct (.k ks) xs)) => match getD (.k ks) xs kd, putD (.k ks) xs kd d with
    | some none, some r => if ks.length < lim then some (d, r.1, r.2) else none
    | some (some y), _ => if ks.length < lim then some (y, .k ks, xs) else none
    | _, _ => none
  | _ => none
/-- if not f(x.setdefault(k, v), y): .. -/
def sIfSetd (i : Nat) (A E B : DE) (F : DF) (S T : DS) : DS := fun s w => match A s w with
  | .ok kd w1 => match E s w1 with
    | .ok d w2 => match setdD s[i]? kd d with
      | some r => match B (s.set i (some (.dct r.2.1 r.2.2))) w2 with
        | .ok e w3 => match F [r.1, e] w3 with
          | .ok (.bl k) w4 => if k then T (s.set i (some (.dct r.2.1 r.2.2))) w4 else S (s.set i (some (.dct r.2.1 r.2.2))) w4
          | _ => .no
        | _ => .no
      | none => .no
    | _ => .no
  | _ => .no
theorem setdD_in {wa : Addr} {H0 Hf0 H Hf H2 Hf2 : Hp} {σ : L2.St} {sD : Sl} {o : Option (Option D)} {w2 : Wl} {kd d : D} {u v : V} {r : D × DKs × List D} (hi : o = sD[i]?) (h : setdD o kd d = some r) (g : Go wa H0 Hf0 H Hf) (hs : Slots wa Hf H σ sD) (ho : OwnNew H0 σ sD)
    (g12 : Go wa H Hf H2 Hf2) (b2 : Base wa Hf2 H2 w2) (ru : Rep wa Hf2 u kd) (rv : Rep wa Hf2 v d) :
    ∃ (p : Addr) (kvs : List (Key × V)) (k : Key), σ[i]? = some (some (.ref p)) ∧ H2 p = some (.dK kvs) ∧ u = kV k ∧ kvs.length < sizeLine ∧
      (∀ y, valV kvs k = some y → Rep wa Hf2 y r.1 ∧ Go wa H0 Hf0 H2 Hf2 ∧ Base wa Hf2 H2 w2 ∧ Slots wa Hf2 H2 σ (sD.set i (some (.dct r.2.1 r.2.2))) ∧ OwnNew H0 σ (sD.set i (some (.dct r.2.1 r.2.2)))) ∧
      (valV kvs k = none → Rep wa Hf2 v r.1 ∧ Go wa H0 Hf0 (upd H2 p (.dK (putK kvs k v))) Hf2 ∧ Base wa Hf2 (upd H2 p (.dK (putK kvs k v))) w2 ∧ Slots wa Hf2 (upd H2 p (.dK (putK kvs k v))) σ (sD.set i (some (.dct r.2.1 r.2.2))) ∧ OwnNew H0 σ (sD.set i (some (.dct r.2.1 r.2.2)))) := by
  unfold setdD at h
  split at h
  · rename_i ks xs
    have hi := hi.symm
    obtain ⟨p, o, k1, k2, k3, k4, k5⟩ := hs.dic i (.k ks) xs hi
    have kp : H2 p = some o := g12.keepN p _ k4 k5.nt k2
    have kf : Hf2 p = none := (g12.newN p _ k5.nu k2).trans k3
    have h0 : Fr H0 p := ho i _ p hi isO_dct k1
    have k6 : DicR wa Hf2 o (.k ks) xs := k5.mono g12.ex
    have hown : ∀ z : DKs × List D, OwnNew H0 σ (sD.set i (some (.dct z.1 z.2))) := fun z => ho.sub fun j ye hj io => by
      by_cases hji : j = i
      · subst hji
        exact ⟨_, hi, isO_dct⟩
      · rw [List.getElem?_set_ne (Ne.symm hji)] at hj
        exact ⟨ye, hj, io⟩
    cases k6 with
    | k hk r0 =>
      rename_i kvs
      have hl2 : ks.length < lim → kvs.length < sizeLine := fun hl => Nat.lt_of_lt_of_le (by have := congrArg List.length hk; simp only [List.length_map] at this; rw [this]; exact hl) (lim_le (Nat.le_refl _))
      unfold getD putD at h
      cases hkd : keyK? kd with
      | none => rw [hkd] at h; cases h
      | some k =>
        rw [hkd] at h
        have eu := keyK?_rep ru hkd
        have hg := getG_rep (f := fun x : Key => x) (fun a b e => e) (hk.trans (List.map_id' _).symm) r0 k
        dsimp only [Option.map] at h
        refine ⟨p, kvs, k, k1, kp, eu, ?_⟩
        rcases hg with ⟨q1, q2⟩ | ⟨v1, d1, q1, q2, q3⟩
        · rw [q2] at h
          dsimp only at h
          split at h
          · rename_i hl
            cases h
            refine ⟨hl2 hl, fun y hy => (by rw [q1] at hy; cases hy), fun _ => ?_⟩
            obtain ⟨p1, p2⟩ := putG_rep (f := fun x : Key => x) (fun a b e => e) (j := k) (hk.trans (List.map_id' _).symm) r0 rv
            exact ⟨rv, (g.trans g12).appF h0, b2.appD kf k4 kp (k5.mono g12.ex), (hs.go g12).writeD hi k1 (.k (p1.trans (List.map_id' _)) p2), hown _⟩
          · cases h
        · rw [q2] at h
          dsimp only at h
          split at h
          · rename_i hl
            cases h
            refine ⟨hl2 hl, fun y hy => ?_, fun hn => (by rw [q1] at hn; cases hn)⟩
            rw [q1] at hy
            cases hy
            have e : sD.set i (some (.dct (.k ks) xs)) = sD := by
              apply List.ext_getElem?
              intro j
              by_cases hji : j = i
              · subst hji
                rw [hi, List.getElem?_set_self]
                exact (List.getElem?_eq_some_iff.mp hi).1
              · rw [List.getElem?_set_ne (Ne.symm hji)]
            dsimp only
            rw [e]
            exact ⟨q3, g.trans g12, b2, hs.go g12, ho⟩
          · cases h
  · cases h
theorem sd_ifSetd {S T : DS} {k0 : Nat} {f : Addr} {fd : FuncData} {ps : List Str} {F : DF} {B : DE} {x : Str} {o ek ev eb : Expr} {apos cpos p pos pn pos' : Pos} {sa sb : List Stmt} (G : FnD X.prog X.w X.K X.mg X.base k0 f fd ps F) (hr : Room k0 X.A) (hg : Gl X x) (hm : X.mg x = some (.ref f)) (hk : PySem.W.keepIn X.K (.ref f) = true) (hb : Binds X.K fd ps []) (hx : Wok X W) (hp : ps.length = 2)
    (hO : PE X o (tVar i)) (hA : PE X ek (lE X.mg W A)) (hE : PE X ev (lE X.mg W E)) (m : M2 X o "setdefault" apos ek ev cpos) (hB : PE X eb (lE X.mg W B)) (ha : PSs X sa (lS X.mg W S)) (hb2 : PSs X sb (lS X.mg W T))
    (hs1 : starEach [.Call (.Attribute o "setdefault" apos) [ek, ev] [] cpos, eb] X.env = (false, eval (.Call (.Attribute o "setdefault" apos) [ek, ev] [] cpos) X.env) :: starEach [eb] X.env := by rfl) (hs2 : starEach [eb] X.env = (false, eval eb X.env) :: starEach [] X.env := by rfl)
    (hdb : (x == ("__debug__" : Str)) = false := by decide) (hpl : (backTo pos (starEach [eb] X.env)).any (·.1) = false := by rfl)
    (he : ∀ whole, isTrue (.Call (.Name x p) [.Call (.Attribute o "setdefault" apos) [ek, ev] [] cpos, eb] [] pos) X.env whole = (do let v ← whole; standAt (Expr.pos (.Call (.Name x p) [.Call (.Attribute o "setdefault" apos) [ek, ev] [] cpos, eb] [] pos)); holding [v] (truthy v)) := by intro _; rfl) :
    PS X (.If (.UnaryOp .Not (.Call (.Name x p) [.Call (.Attribute o "setdefault" apos) [ek, ev] [] cpos, eb] [] pos) pn) sa sb pos') (lS X.mg W (sIfSetd i A E B F S T)) :=
  weakS (ps_if (pt_not (pt_truth (pe_callS G hr hg hm hk hb hx (pa_cons (pe_dsetd hO hA hE m) (pa_cons hB pa_nil hs2) hs1) hdb hs1 hpl) he)) ha hb2) fun D σ H h => by
  obtain ⟨wa, Hf, sD, w, H0, Hf0, g, b, hs, ho, h⟩ := h
  unfold sIfSetd at h
  cases ea : A sD w with
  | no => rw [ea] at h; exact h.elim
  | er x w1 => rw [ea] at h; exact h.elim
  | ok kd w1 =>
    rw [ea] at h
    dsimp only at h
    cases e : E sD w1 with
    | no => rw [e] at h; exact h.elim
    | er x w2 => rw [e] at h; exact h.elim
    | ok d w2 =>
      rw [e] at h
      dsimp only at h
      cases er : setdD sD[i]? kd d with
      | none => rw [er] at h; exact h.elim
      | some r =>
        rw [er] at h
        dsimp only at h
        have hi : ∃ ks xs, sD[i]? = some (some (.dct (.k ks) xs)) := by
          unfold setdD at er
          split at er
          · rename_i ks xs hh
            exact ⟨ks, xs, hh⟩
          · cases er
        obtain ⟨ks, xs, hi⟩ := hi
        obtain ⟨q, o, k1, k2, k3, k4, k5⟩ := hs.dic i (.k ks) xs hi
        generalize hs' : sD.set i (some (.dct r.2.1 r.2.2)) = s' at h
        have tail : ∀ (y : V) (H2 Hf2 : Hp), Ex Hf Hf2 → Rep wa Hf2 y r.1 ∧ Go wa H0 Hf0 H2 Hf2 ∧ Base wa Hf2 H2 w2 ∧ Slots wa Hf2 H2 σ s' ∧ OwnNew H0 σ s' →
            lE X.mg W B σ H2 fun z H3 => spD X.mg ps.length F [y, z] H3 (fun v H4 => ∃ k, TruV X.K v H4 k ∧ (if (!k) = true then lS X.mg W S D σ H4 else lS X.mg W T D σ H4)) (WE W σ) := by
          intro y H2 Hf2 xf ⟨ry, g2, b2, s2, o2⟩
          cases eb : B s' w2 with
          | no => rw [eb] at h; exact h.elim
          | er x w3 => rw [eb] at h; exact h.elim
          | ok z w3 =>
            rw [eb] at h
            dsimp only at h
            refine ⟨wa, Hf2, s', w2, b2, s2, ?_⟩
            rw [eb]
            intro H3 Hf3 g3 b3 vz rz
            refine ⟨wa, Hf3, [r.1, z], w3, b3, .cons (ry.mono g3.ex) (.cons rz .nil), hp.symm, ?_⟩
            cases ef : F [r.1, z] w3 with
            | no => rw [ef] at h; exact h.elim
            | er x w4 => rw [ef] at h; exact h.elim
            | ok kb w4 =>
              rw [ef] at h
              intro H4 Hf4 g4 b4 v rv
              have g34 := g3.trans g4
              cases kb with
              | bl k =>
                cases rv
                refine ⟨k, rfl, ?_⟩
                cases k with
                | true => exact ⟨wa, Hf4, s', w4, H0, Hf0, g2.trans g34, b4, s2.go g34, o2, FinS.shift h (xf.trans g34.ex)⟩
                | false => exact ⟨wa, Hf4, s', w4, H0, Hf0, g2.trans g34, b4, s2.go g34, o2, FinS.shift h (xf.trans g34.ex)⟩
              | _ => exact h.elim
        refine ⟨.ref q, k1, q, rfl, ?_, wa, Hf, sD, w, b, hs, ?_⟩
        · cases k5 with
          | k hk r => exact .inl ⟨_, .inl k2⟩
        rw [ea]
        intro H1 Hf1 g1 b1 u ru
        refine ⟨wa, Hf1, sD, w1, b1, hs.go g1, ?_⟩
        rw [e]
        intro H2 Hf2 g2 b2 v rv
        have g12 := g1.trans g2
        obtain ⟨q', kvs, k, j1, j2, j3, j4, j5, j6⟩ := setdD_in rfl er g hs ho g12 b2 (ru.mono g2.ex) rv
        have eq : q' = q := by
          have := j1.symm.trans k1
          cases this
          rfl
        subst eq
        rw [hs'] at j5 j6
        refine ⟨kvs, k, j2, j3, j4, fun y hy => ?_, fun hn => ?_⟩
        · exact tail y H2 Hf2 g12.ex (j5 y hy)
        · exact tail v _ Hf2 g12.ex (j6 hn)
end
end DL

set_option maxHeartbeats 2000000
namespace DL
open PySem PySem.Spec PyProof.Rows L2
variable [TabT] [OldT]
open Evl (Ex)
/-! ### texts sign by sign; x.get(k, d) -/
section
variable {X : Cx} {mg : Str → Option Value} {W : WX} {a b tg e : Expr} {pos : Pos} {A B : DE} {i : Nat} {wa : Addr} {Hf : Hp}
theorem pd_globS {x : Str} {i : Str} {t : Tok} (hg : Gl X x) (hm : X.mg x = some (.str i t)) (hd : (x == ("__debug__" : Str)) = false := by decide) : PE X (.Name x pos) (lE mg W (eC (.str i))) := pd_c (pe_glob hg hm (v := .str i) ⟨t, rfl⟩ hd) fun _ _ => .str i
/-- powers of any size -/
def CPowW (i j : Int) : Prop := 0 ≤ j ∧ (Builtin.Int.intBits i : Int) * j ≤ 2 ^ 27
theorem op_powW : OpR X (binaryOp .Pow) (rI CPowW fun i j => .int (i ^ j.toNat)) := opI fun _ _ _ _ _ _ _ hc q => pow_int hc.1 hc.2 q
def fPowW : Wl → D → D → Option D := fun _ x y => match x, y with
  | .int i, .int j => if 0 ≤ j ∧ (Builtin.Int.intBits i : Int) * j ≤ 2 ^ 27 then some (.int (i ^ j.toNat)) else none
  | _, _ => none
theorem pd_powW (ha : PE X a (lE mg W A)) (hb : PE X b (lE mg W B)) : PE X (.BinOp a .Pow b pos) (lE mg W (eBin fPowW A B)) := pd_bin op_powW (fun wa Hf H w x y u v z Q hb ru rv h q => by
  unfold fPowW at h
  split at h
  · split at h
    · rename_i hm
      cases h
      cases ru
      cases rv
      exact ⟨_, _, rfl, rfl, ⟨hm.1, hm.2⟩, q _ _ Go.refl hb _ (.int _)⟩
    · cases h
  · cases h) ha hb
def sg (c : Nat) : D := .str ⟨#[c]⟩
def signs (x : Str) : List D := x.cps.toList.map sg
theorem walkD_str {x : Str} : WalkD wa Hf (Its x) (signs x) :=
  ⟨fun i H hi _ => by
    have h : i < x.cps.size := by simpa [signs] using hi
    exact h, fun H _ => by
    have h : x.cps.size ≤ (signs x).length := by simp [signs]
    exact h, fun i H Hf1 w y H' d hd hx b q => by
    obtain ⟨rfl, c, hc, rfl⟩ := q
    unfold signs at hd
    rw [List.getElem?_map, Array.getElem?_toList, hc] at hd
    cases hd
    exact ⟨Hf1, Go.refl, b, .str _⟩⟩
def iStrD (A : DE) : DI := fun s w => (A s w).bind fun x w1 => match x with
  | .str x => .ok (signs x) w1
  | _ => .no
theorem id_str (ha : PE X a (lE mg W A)) : PI X tg a (lI mg W (iStrD A)) := weakI (pi_str ha) fun σ H Q h => by
  obtain ⟨wa, Hf, sD, w, hb, hs, h⟩ := h
  refine ⟨wa, Hf, sD, w, hb, hs, h.bind.mono (fun x w1 H1 Hf1 g1 b1 q v rv => ?_) (fun _ _ _ _ _ _ q => q)⟩
  split at q
  · cases rv
    exact ⟨_, rfl, q.here b1 _ walkD_str⟩
  · exact q.elim
/-- one sign in a text -/
def fInC : Wl → D → D → Option D := fun _ x y => match x, y with
  | .str x, .str z => match x.cps.toList with
    | [c] => some (.bl (decide (c ∈ z.cps.toList)))
    | _ => none
  | _, _ => none
theorem one_sign {x : Str} {c : Nat} (h : x.cps.toList = [c]) : x = ⟨#[c]⟩ := by
  obtain ⟨⟨l⟩⟩ := x
  have h : l = [c] := h
  rw [h]
theorem opd_inC : OpD rInS fInC := by
  intro wa Hf H w x y u v z Q hb ru rv h q
  unfold fInC at h
  split at h
  · split at h
    · rename_i c hc
      cases h
      cases ru
      cases rv
      rw [one_sign hc]
      exact ⟨c, _, rfl, rfl, q _ _ Go.refl hb _ (.bl _)⟩
    · cases h
  · cases h
theorem pd_inC (ha : PE X a (lE mg W A)) (hb : PE X b (lE mg W B)) (hm : behindInMarks .In b = false := by first | rfl | exact nomark _) : PE X (.Compare a [.In] [b] pos) (lE mg W (eBin fInC A B)) := pd_cmp op_inS opd_inC ha hb hm
theorem qd_inC (ha : PE X a (lE mg W A)) (hb : PE X b (lE mg W B)) (hm : behindInMarks .In b = false := by first | rfl | exact nomark _) : PT X (.Compare a [.In] [b] pos) (lT mg W (tE (eBin fInC A B))) := qd_cmp op_inS opd_inC ha hb hm
@[simp] theorem v_inC {w : Wl} {c : Nat} {z : Str} : fInC w (sg c) (.str z) = some (.bl (decide (c ∈ z.cps.toList))) := rfl
/-- x.get(k, d), of an own dict -/
def eGet2 (i : Nat) (A B : DE) : DE := fun s w => match s[i]? with
  | some (some (.dct ks xs)) => match A s w with
    | .ok kd w1 => match B s w1 with
      | .ok z w2 => match getD ks xs kd with
        | some (some d) => .ok d w2
        | some none => .ok z w2
        | none => .no
      | _ => .no
    | _ => .no
  | _ => .no
theorem pd_get2 (h : PE X e (tDGet2 (tVar i) (lE mg W A) (lE mg W B))) : PE X e (lE mg W (eGet2 i A B)) := weakE h fun σ H Q h => by
  obtain ⟨wa, Hf, sD, w, hb, hs, h⟩ := h
  unfold eGet2 at h
  split at h
  · rename_i ks xs hi
    obtain ⟨p, o, k1, k2, k3, k4, k5⟩ := hs.dic i ks xs hi
    have isd : ∀ {H1 : Hp}, (∃ o, H1 p = some o ∧ DicR wa Hf o ks xs) → IsD H1 p := fun {H1} ⟨o, e, r⟩ => by
      cases r with
      | k hk r => exact .inl ⟨_, .inl e⟩
      | t hk r => exact .inr ⟨_, .inl e⟩
    refine ⟨.ref p, k1, p, rfl, isd ⟨o, k2, k5⟩, wa, Hf, sD, w, hb, hs, ?_⟩
    cases ea : A sD w with
    | no => rw [ea] at h; exact h.elim
    | er x w2 => rw [ea] at h; exact h.elim
    | ok kd w1 =>
      rw [ea] at h
      dsimp only at h
      intro H1 Hf1 g1 b1 u ru
      refine ⟨wa, Hf1, sD, w1, b1, hs.go g1, ?_⟩
      cases e : B sD w1 with
      | no => rw [e] at h; exact h.elim
      | er x w2 => rw [e] at h; exact h.elim
      | ok z w2 =>
        rw [e] at h
        dsimp only at h
        intro H2 Hf2 g2 b2 v rv
        have g12 := g1.trans g2
        split at h
        · rename_i d hd
          obtain ⟨z', hg, hz⟩ := dic_get b2 (k5.mono g12.ex) (.inl (g12.keepN p _ k4 k5.nt k2)) (ru.mono g2.ex) hd
          cases z' with
          | none => exact hz.elim
          | some u' => exact ⟨some u', hg, h H2 Hf2 g12 b2 _ hz⟩
        · rename_i hd
          obtain ⟨z', hg, hz⟩ := dic_get b2 (k5.mono g12.ex) (.inl (g12.keepN p _ k4 k5.nt k2)) (ru.mono g2.ex) hd
          cases z' with
          | none => exact ⟨none, hg, h H2 Hf2 g12 b2 _ rv⟩
          | some u' => exact hz.elim
        · exact h.elim
  · exact h.elim
end
end DL

set_option maxHeartbeats 2000000
namespace DL
open PySem PySem.Spec PyProof.Rows L2
variable [TabT] [OldT]
open Evl (Ex)
/-! ### name = {k: v for .. in ..} on one line, the name a local -/
section
variable {X : Cx} {mg : Str → Option Value} {W : WX}
theorem ps_setDc {i : Nat} {y : Str} {py : Pos} {kx vx tg iter : Expr} {ifs : List Expr} {scope : Scope} {own : List (Str × Nat)} {pos spos : Pos} {wi : TI} {g : TG} {tt : TT} {tk tv : TE} (hc : X.calm = true) (hN : X.N.Nodup) (hy : X.N[i]? = some y) (hl : X.env.scope.names.lookup y = some .local)
    (hsw : swapsWith (.DictComp kx vx [⟨tg, iter, ifs, 0⟩] scope pos) (some (.Name y py)) spos.line X.env = pure true) (hi : PI X tg iter wi) (ok : BlkOk X.N X.env.scope scope own)
    (hg : ∀ (s : Shared) (H : Hp) (C : Addr) (cl : List (Str × Addr)) (fp : List Addr), PG (X.blk s H scope (compEnvC scope cl C X.env) fp) tg g) (ht : ∀ (s : Shared) (H : Hp) (C : Addr) (cl : List (Str × Addr)) (fp : List Addr), PTs (X.blk s H scope (compEnvC scope cl C X.env) fp) ifs tt)
    (hk : ∀ (s : Shared) (H : Hp) (C : Addr) (cl : List (Str × Addr)) (fp : List Addr), PE (X.blk s H scope (compEnvC scope cl C X.env) fp) kx tk)
    (he : ∀ (s : Shared) (H : Hp) (C : Addr) (cl : List (Str × Addr)) (fp : List Addr), PE (X.blk s H scope (compEnvC scope cl C X.env) fp) vx tv) (hs : ∀ x, foldedSetIterable iter X.env x = pure x := by intro _; rfl) :
    PS X (.Assign [.Name y py] (.DictComp kx vx [⟨tg, iter, ifs, 0⟩] scope pos) spos) (tAsg (tFrzD (tDc wi g tt tk tv (own.map (·.2)))) (gName i)) := by
  refine ⟨fun pins s σ H D I h => ?_⟩
  rewrite [exec_Assign_Name_used _ _ _ _ hsw]
  refine wpAny_bind (wpAny_standAt (wpAny_bind ?_))
  have h0 : tDc wi g tt tk tv (own.map (·.2)) σ H (fun x H1 => ∃ d u, x = V.ref d ∧ H1 d = some u ∧ Mut (some u) ∧ ∀ od, gName i x σ (upd H1 d (.frz od u)) D.nx) := h
  show wpAny _ X.A (do let _ ← comprehension (.DictComp kx vx [⟨tg, iter, ifs, 0⟩] scope pos) scope X.env (firstIterPos [⟨tg, iter, ifs, 0⟩] pos) newDict false (eval iter X.env) (some (assign (.Name y py) X.env))) _ _ s
  refine wpAny_bind (thn (dc_core (Qf := fun _ s' => SP X pins D .next s') hc hN I hi ok hg ht hk he hs h0 fun L C s' m H' I' q hn f => ?_) fun _ s' hq => wpAny_pure (wpAny_pure hq))
  obtain ⟨f0, f1, f2, f3, f4, f5⟩ := f
  show wpAny _ _ (assign (.Name y py) X.env (.ref L)) _ _ _
  refine wpAny_assign_Name (store_ok2 (v := V.ref L) I' hN hy (.inl hl) rfl (fun s2 I2 ⟨a, sb, ha⟩ => ?_) (.inr hl))
  have far : C ≠ a := ha.elim (fun z => z ▸ f1) fun z e => f4 y a z e.symm
  refine ⟨m, hn.sameBut sb far, fun h3 sb3 => ?_⟩
  obtain ⟨d, u, ed, hd, mu, q1⟩ := q
  cases ed
  obtain ⟨od, I4⟩ := (I2.turned (t' := s2.toks) (fun b o hb e => (sb3.2 b hb).trans e) f0 f1 f3 f4 f5).lock hd mu
  exact ⟨_, _, I4, q1 od⟩
theorem dE_ok {E : Sl → Wl → R (DKs × List D)} {σ : L2.St} {H : Hp} {Q : VK} (q : lE mg W (eDc E) σ H Q) : tFrzD (lfD mg W E) σ H Q := by
  obtain ⟨wa, Hf, sD, w, hb, hs, q⟩ := q
  refine ⟨wa, Hf, sD, w, hb, hs, ?_⟩
  unfold eDc at q
  cases ea : E sD w with
  | ok r w1 =>
    rw [ea] at q
    obtain ⟨ks, xs⟩ := r
    intro H1 Hf1 g1 b1 p o n e1 dr e2 e3
    refine ⟨p, o, rfl, e1, by cases dr <;> exact True.intro, fun od => ?_⟩
    have ex : Ex Hf1 (upd Hf1 p (.frz od o)) := Ex.new e2
    have g2 : Go wa H Hf (upd H1 p (.frz od o)) (upd Hf1 p (.frz od o)) := ⟨fun a u nw t h => by rw [upd_ne (ne_of_fr h t n)]; exact g1.keepN a u nw t h, g1.ex.trans ex, fun a o t h => by rw [upd_ne (ne_of_fr h t.1 n)]; exact g1.newN a o t h, fun a o t h => by rw [upd_ne (ne_of_fr h t n)]; exact g1.thereN a o t h⟩
    have b2 : Base wa (upd Hf1 p (.frz od o)) (upd H1 p (.frz od o)) w1 := ⟨ex_upd2 b1.ex, by rw [upd_ne (Ne.symm e3)]; exact b1.well, by rw [upd_ne (Ne.symm e3)]; exact b1.nw, tabs_updD b1.tb e1 dr, nt_upd b1.nt nt_frz, b1.od.trans ex⟩
    refine q _ _ g2 b2 (.ref p) ?_
    cases dr with
    | t k r => exact .dft upd_same k (r.mono ex)
    | k k r => exact .dfk upd_same k (r.mono ex)
  | er x w1 => rw [ea] at q; exact q
  | no => rw [ea] at q; exact q
end
end DL

set_option maxHeartbeats 2000000
namespace L2
open PySem PySem.Spec PyProof.Rows
/-! ### a range of long ints -/
theorem turn_longrange {P : Program} {w : World} {K : PySem.W.Frag} {tg : Expr} (it : Addr) (lo : Int) (n : Nat) : Turn P w K tg (Itr lo n) [it] it (fun i h => IsLongIter h it (lo + (i : Nat) * 1) ((n : Int) - (i : Nat)) 1) where
  mem := by simp
  obj := fun i h st b hb => by
    have e : b = it := by simpa using hb
    subst e
    exact ⟨_, st, fun v z => by
      have z' : Data.fields _ = Data.cell v := z
      cases z'⟩
  keep := fun i h h' st k => k it (by simp) _ st
  item := by
    intro X hP hw hK hc i pins s σ H E I hf st hg
    subst hP hw hK
    obtain ⟨f0, f1, f2, f3, f4, f5⟩ := hf it (by simp)
    have W := Walks.longrange (prog := X.prog) (w := X.w) (I.ok.hd hc) it lo 1 n
    refine W.item i s _ _ hg st fun v h' tk hv st' kk => ?_
    obtain ⟨t, rfl⟩ := hv
    have I1 : Inv X pins σ H { s with heap := h', toks := tk } := I.turned (fun b o hb e => kk b o (by simpa using hb) e) f0 f1 f3 f4 f5
    refine ⟨_, rfl, go_of (s := { s with heap := h', toks := tk }) (n := "longrange_iterator") st' rfl rfl (by decide) ⟨.int (lo + i), H, I1, ⟨t, ?_⟩, ⟨rfl, rfl⟩, st', fun b hb => (hf b hb).1⟩⟩
    rw [Int.mul_one]
  done := by
    intro X hP hw hK hc i pins s σ H E I hf st hg
    subst hP hw hK
    obtain ⟨f0, f1, f2, f3, f4, f5⟩ := hf it (by simp)
    exact wpAny_pyNext_long_end (I.ok.hd hc) st (by have : n ≤ i := hg; omega) fun h' eb => ⟨rfl, I.turned (t' := s.toks) (fun b o hb e => eb b o hb e) f0 f1 f3 f4 f5⟩
  self := fun _ _ _ _ _ st h => wpAny_pyIter_longiter st h
section
variable {X : Cx} {tg : Expr}
theorem range_itL {pins : List (Addr × Obj)} {σ : St} {H : Hp} {s : Shared} {R : It → Hp → Prop} {E : Value → Shared → Prop} {lo hi : Int} {t u v : Tok} {tk : Nat} (I : Inv X pins σ H s)
    (q : R (Itr lo (hi - lo).toNat) H) : wpAny (model X.prog X.w) X.A (pyIter (.ref s.heap.objs.size)) (PIE X pins σ tg R) E { s with heap := s.heap.push { cls := .type "range", data := .fields #[.int lo t, .int hi u, .int 1 v] }, toks := tk } := by
  have I1 : Inv X pins σ H { s with heap := s.heap.push { cls := .type "range", data := .fields #[.int lo t, .int hi u, .int 1 v] }, toks := tk } := I.kept fun b o e => Heap.get?_push_of_some _ e
  have e1 : lo + ((0 : Nat) : Int) * 1 = lo := by simp
  have e2 : (((hi - lo).toNat : Nat) : Int) - ((0 : Nat) : Int) = Builtin.Range.rangeSize lo hi 1 := by rw [rangeSize_one]; split <;> omega
  cases hs : Builtin.Range.small lo hi 1 with
  | true =>
    refine wpAny_pyIter_range (IsRange.new ..) hs ?_
    refine ⟨(s.heap.push { cls := .type "range", data := .fields #[.int lo t, .int hi u, .int 1 v] }).objs.size, [(s.heap.push { cls := .type "range", data := .fields #[.int lo t, .int hi u, .int 1 v] }).objs.size], _, _, H, rfl,
      I1.kept (t' := tk) fun b o e => Heap.get?_push_of_some _ e, turn_range _ lo (hi - lo).toNat, ?_, fun b hb => ?_, q⟩
    · show IsRangeIter _ _ (lo + ((0 : Nat) : Int) * 1) ((((hi - lo).toNat : Nat) : Int) - ((0 : Nat) : Int)) 1
      rw [e1, e2]
      exact Heap.get?_push_size _ rfl
    · have e : b = (s.heap.push { cls := .type "range", data := .fields #[.int lo t, .int hi u, .int 1 v] }).objs.size := by simpa using hb
      subst e
      exact I1.fpOk (Nat.le_refl _) (I1.hok.fresh (Nat.le_refl _))
  | false =>
    refine wpAny_pyIter_longrange (IsRange.new ..) hs ?_
    refine ⟨(s.heap.push { cls := .type "range", data := .fields #[.int lo t, .int hi u, .int 1 v] }).objs.size, [(s.heap.push { cls := .type "range", data := .fields #[.int lo t, .int hi u, .int 1 v] }).objs.size], _, _, H, rfl,
      I1.kept (t' := tk) fun b o e => Heap.get?_push_of_some _ e, turn_longrange _ lo (hi - lo).toNat, ?_, fun b hb => ?_, q⟩
    · show IsLongIter _ _ (lo + ((0 : Nat) : Int) * 1) ((((hi - lo).toNat : Nat) : Int) - ((0 : Nat) : Int)) 1
      rw [e1, e2]
      exact Heap.get?_push_size _ rfl
    · have e : b = (s.heap.push { cls := .type "range", data := .fields #[.int lo t, .int hi u, .int 1 v] }).objs.size := by simpa using hb
      subst e
      exact I1.fpOk (Nat.le_refl _) (I1.hok.fresh (Nat.le_refl _))
def iRng2L (ta : TA) : TI := fun σ H R => ta σ H fun vs H1 => ∃ i j : Int, vs = [.int i, .int j] ∧ R (Itr i (j - i).toNat) H1
theorem pi_range2L {a b : Expr} {ta : TA} {p pos : Pos} (hg : Gl X "range") (hm : X.mg "range" = none) (ha : PA X [a, b] ta) (hs : starEach [a, b] X.env = [(false, eval a X.env), (false, eval b X.env)] := by rfl) (hs2 : starEach [b] X.env = [(false, eval b X.env)] := by rfl) :
    PI X tg (.Call (.Name "range" p) [a, b] [] pos) (iRng2L ta) := by
  refine ⟨fun pins s σ H R I h => ?_⟩
  refine Call_ (ld_blt I hg hm boot_range (PyProof.Rows.callWith_type1 (thn (ha.run pos pins s σ H _ I h) fun us s1 ⟨vs, H1, I1, r1, q1⟩ => ?_) (by rw [hs, hs2]) (by rw [hs2]; rfl)))
  obtain ⟨i, j, e, q⟩ := q1
  subst e
  cases r1 with
  | cons r rr =>
    cases rr with
    | cons r' rr =>
      cases rr
      obtain ⟨t, rfl⟩ := r
      obtain ⟨t', rfl⟩ := r'
      exact call_range_2 (range_itL I1 q)
end
end L2
namespace DL
open PySem PySem.Spec PyProof.Rows L2
variable [TabT] [OldT]
open Evl (Ex)
section
variable {X : Cx} {mg : Str → Option Value} {W : WX} {a b tg : Expr} {pos : Pos}
def iRng2L (As : DA) : DI := fun s w => (As s w).bind fun xs w1 => match xs with
  | [.int i, .int j] => .ok (upTo i (j - i).toNat) w1
  | _ => .no
theorem id_rng2L {As : DA} {p : Pos} (hg : Gl X "range") (hm : X.mg "range" = none) (ha : PA X [a, b] (lA mg W As)) (hs : starEach [a, b] X.env = [(false, eval a X.env), (false, eval b X.env)] := by rfl) (hs2 : starEach [b] X.env = [(false, eval b X.env)] := by rfl) : PI X tg (.Call (.Name "range" p) [a, b] [] pos) (lI mg W (iRng2L As)) := weakI (pi_range2L hg hm ha hs hs2) fun σ H Q h => by
  obtain ⟨wa, Hf, sD, w, hb, hs, h⟩ := h
  refine ⟨wa, Hf, sD, w, hb, hs, h.bind.mono (fun x w1 H1 Hf1 g1 b1 q v rv => ?_) (fun _ _ _ _ _ _ q => q)⟩
  split at q
  · cases rv with
    | cons r1 r2 =>
      cases r1
      cases r2 with
      | cons r1 r2 =>
        cases r1
        cases r2
        exact ⟨_, _, rfl, q.here b1 _ walkD_range⟩
  · exact q.elim
def okR2 (xs : List D) (P : List D → Prop) : Prop := match xs with
  | [.int i, .int j] => P (upTo i (j - i).toNat)
  | _ => False
@[simp] theorem okR2_int {i j : Int} {P : List D → Prop} : okR2 [.int i, .int j] P = P (upTo i (j - i).toNat) := rfl
@[simp] theorem okI_rng2L {As : DA} {s : Sl} {w : Wl} {Q : List D → Wl → Prop} : okE (iRng2L As s w) Q = okE (As s w) fun xs w1 => okR2 xs fun ds => Q ds w1 := by
  unfold iRng2L
  simp only [okE_bind]
  congr
  funext xs w1
  unfold okR2
  split <;> rfl
end
end DL

set_option maxHeartbeats 2000000
namespace DL
open PySem PySem.Spec PyProof.Rows L2
variable [TabT] [OldT]
open Evl (Ex)
/-! ### a, b = [..] -/
section
variable {X : Cx} {es : List Expr} {pos : Pos}
def gTL (Gs : List D → Sl → Option Sl) (n : Nat) : DG := fun d s => match d with
  | .lst ds => if ds.length = n then Gs ds s else none
  | _ => none
theorem gd_lst {k : Nat} {Gs : List D → Sl → Option Sl} {n : Nat} {vs : List Nat} (hc : X.calm = true) (h : PGs X es (lGs vs Gs)) (hn : (assignEach es X.env).length = n := by rfl) (hst : (assignEach es X.env).findIdx? (·.1) = none := by rfl) : PG X (.Tuple es k pos) (lG vs (gTL Gs n)) := weakG (pg_lst hc h hn hst) fun v σ H Q h => by
  obtain ⟨wa, Hf, H0, w, sD, d, s', hb, rv, hs, ho, e, q⟩ := h
  unfold gTL at e
  split at e
  · split at e
    · rename_i hl
      cases rv with
      | lst h1 r1 => exact ⟨_, _, rfl, SqL.of (hb.ex _ _ h1), by rw [r1.length]; exact hl, wa, Hf, H0, w, sD, _, s', hb, r1, hs, ho, e, q⟩
    · cases e
  · cases e
@[simp] theorem v_gTL {Gs : List D → Sl → Option Sl} {n : Nat} {xs : List D} {s : Sl} {P : Sl → Prop} : okO (gTL Gs n (.lst xs) s) P = (xs.length = n ∧ okO (Gs xs s) P) := by
  show okO (if xs.length = n then Gs xs s else none) P = _
  by_cases h : xs.length = n
  · rw [if_pos h]; simp [h]
  · rw [if_neg h]; simp [h]
end
end DL

set_option maxHeartbeats 2000000
namespace DL
open PySem PySem.Spec PyProof.Rows L2
variable [TabT] [OldT]
open Evl (Ex)
/-! ### len(set(xs)) of texts that are all unlike -/
section
variable {P : Program} {w : World} {A : Around} {R : Result → Shared → Prop} {I : Addr} {fp wr : List Addr} {G : Array GenState → Array GenState → Prop} {n : Nat} {Pv : Nat → Value → Prop} {St : Nat → Shared → Prop}
def inTk (xs : List Str) (i : Nat) (k : Str) : Bool := decide (k ∈ xs.take i)
theorem inTk_succ {xs : List Str} {i : Nat} (hi : i < xs.length) (k : Str) : (inTk xs i k || decide (k = xs.getD i Str.empty)) = inTk xs (i + 1) k := by
  unfold inTk
  have e : xs.take (i + 1) = xs.take i ++ [xs[i]] := by rw [List.take_add_one, List.getElem?_eq_getElem hi]; rfl
  rw [e, List.getD_eq_getElem?_getD, List.getElem?_eq_getElem hi, Bool.eq_iff_iff, Bool.or_eq_true, decide_eq_true_eq, decide_eq_true_eq, decide_eq_true_eq, List.mem_append, List.mem_singleton]
  rfl
theorem inTk_new {xs : List Str} (hu : xs.Nodup) {i : Nat} (hi : i < xs.length) : inTk xs i (xs.getD i Str.empty) = false := by
  unfold inTk
  rw [List.getD_eq_getElem?_getD, List.getElem?_eq_getElem hi, decide_eq_false_iff_not]
  intro h
  obtain ⟨j, hj, e⟩ := List.mem_iff_getElem.mp h
  rw [List.length_take] at hj
  rw [List.getElem_take] at e
  exact (List.pairwise_iff_getElem.mp hu) j i (by omega) hi (by omega) e
theorem strs_loop (W : WalksS P w A.in1 I fp wr G n Pv St) {D : Addr} (hD : D ∉ fp) {xs : List Str} (hn : xs.length = n) (hu : xs.Nodup) (h60 : n ≤ 60) (hv : ∀ i v, Pv i v → ∃ t, v = .str (xs.getD i Str.empty) t) (m : Nat) :
    ∀ (i : Nat) (s : Shared), n = i + m → St i s → s.heap.SetOf (PySem.strKind P w) D (inTk xs i) i →
      (∀ s', Moved (D :: wr) G s s' → s'.heap.SetOf (PySem.strKind P w) D (inTk xs n) n → R (.ok (.ret .none)) s') → codeAny (model P w) A (.builtin "set.update.loop" ⟨[.ref D, .ref I], []⟩) R s := by
  have hDw : D ∉ wr := fun h => hD (W.sub _ h)
  have keep : ∀ {s s' : Shared} {S : Str → Bool} {j : Nat}, Moved wr G s s' → s.heap.SetOf (PySem.strKind P w) D S j → s'.heap.SetOf (PySem.strKind P w) D S j := fun mv h => by
    obtain ⟨o, es, ep, t, ho, more⟩ := h
    exact ⟨o, es, ep, t, mv.heap D _ hDw ho, more⟩
  have wide : ∀ b ∈ wr, b ∈ D :: wr := fun b => List.mem_cons_of_mem _
  induction m with
  | zero =>
    intro i s hi st hS fin
    have e : n = i := hi
    subst e
    refine codeAny_builtin F.entry_set_update_loop ?_
    rewrite [Around.under_plainId F.plain_set_update_loop]
    show wpAny _ A.in1 (pyNext (.ref I) >>= _) _ _ s
    exact wpAny_bind (W.done s _ _ st fun s' mv => by
      show wpAny _ A.in1 (ret Value.none) _ _ s'
      exact wpAny_pure (fin s' (mv.mono wide) (keep mv hS)))
  | succ m ih =>
    intro i s hi st hS fin
    have hin : i < n := by omega
    have hix : i < xs.length := by omega
    refine codeAny_builtin F.entry_set_update_loop ?_
    rewrite [Around.under_plainId F.plain_set_update_loop]
    show wpAny _ A.in1 (pyNext (.ref I) >>= _) _ _ s
    refine wpAny_bind (W.item i s _ _ hin st fun v s' hp st' mv => ?_)
    obtain ⟨t, e⟩ := hv i v hp
    subst e
    have hS1 := keep mv hS
    show wpAny _ A.in1 (holding [Value.str (xs.getD i Str.empty) t] (setAdd D (.str (xs.getD i Str.empty) t)) >>= _) _ _ s'
    refine wpAny_bind (wpAny_holding ?_)
    unfold setAdd
    refine wpAny_holding (wpAny_bind ((PySem.strKind P w).pyHash (k := xs.getD i Str.empty) (strKind_is _ _ _ _) ?_))
    refine wpAny_setAddHashed_of (knd := PySem.strKind P w) (s := { s' with toks := s'.toks + 1 }) (strKind_is _ _ _ _) rfl hS1 (by unfold scanBound; omega) fun h' same hS2 => ?_
    have hS3 : h'.SetOf (PySem.strKind P w) D (inTk xs (i + 1)) (i + 1) := SetOf_congr hS2 (fun k => inTk_succ hix k) (by rw [inTk_new hu hix]; rfl)
    have far : ∀ b o, b ≠ D → s'.heap.get? b = some o → h'.get? b = some o := fun b o hb e => (same.2 b hb).trans e
    refine wpAny_pure ⟨plainId_quiet F.plain_set_update_loop _, ih (i + 1) _ (by omega) (W.frame _ s' _ _ st' (Nat.le_succ _) fun b hb o e => far b o (fun z => hD (z ▸ hb)) e) hS3 fun s2 mv2 hS4 => fin s2 (Moved.trans W.gtrans ((mv.mono wide).then_heap (Nat.le_succ _) fun b o hb e => far b o (fun z => hb (z ▸ List.mem_cons_self)) e) mv2) hS4⟩
end
section
variable {P : Program} {w : World} {A : Around} {E : Value → Shared → Prop} {s : Shared}
/-- a new set of the texts of a list, all unlike -/
theorem call_set_txts {l : Addr} {items : Array Value} {xs : List Str} {Q : Value → Shared → Prop} (hA : A.handled = none) (hl : s.heap.IsList l items) (hx : StrsAre items.toList xs) (hu : xs.Nodup) (h60 : xs.length ≤ 60)
    (q : ∀ (h' : Heap) (tk : Nat), h'.SetOf (PySem.strKind P w) s.heap.objs.size (inTk xs items.size) items.size → (∀ b o, b < s.heap.objs.size → s.heap.get? b = some o → h'.get? b = some o) → Q (.ref s.heap.objs.size) { s with heap := h', toks := tk }) :
    wpAny (model P w) A (call (.type "set") [.ref l]) Q E s := by
  obtain ⟨c, tl, mro⟩ := PySem.F.called_set.mro
  have f1 := PySem.F.called_set.made
  have f2 := PySem.F.called_set.sub
  have f3 := PySem.F.called_set.notType
  have f4 := PySem.F.called_set.canCreate
  have f5 := PySem.F.typeCall_set_1 (.ref l)
  refine wpAny_call (codeAny_of_tree ?_)
  show wpAny _ _ (callAny (.type "set") _) _ _ _
  refine wpAny_pure ⟨Code.quiet_builtin _ (by decide +kernel), codeAny_builtin PySem.F.entry_type_call ?_⟩
  rewrite [Around.under_plain (weight_type_call_type "set" [.ref l] []) rfl]
  repeat (any_goals (first | assumption | wp_step))
  -- the new one, empty
  let emp : Bool → Obj := fun led => { cls := .type "set", dict := none, data := .set #[] 0 (.fresh 0 0 led) }
  refine codeAny_mono (code_set_new_1 (.ref l) (E := E) (Q₁ := fun obj s₁ => ∃ led : Bool, obj = .ref s.heap.objs.size ∧ s₁ = { s with heap := s.heap.push (emp led) }) fun led => ⟨led, rfl, rfl⟩) fun r s₁ hr => ?_
  cases r with
  | error e => exact hr
  | ok fl =>
    cases fl with
    | ret obj =>
      obtain ⟨led, rfl, rfl⟩ := hr
      have hS : (s.heap.push (emp led)).get? s.heap.objs.size = some (emp led) := Heap.get?_push_size _ rfl
      have hT : Shared.TypeIs { s with heap := s.heap.push (emp led) } (.ref s.heap.objs.size) "set" := ⟨_, hS, rfl⟩
      have f6 := PySem.F.called_set.init.lookup
      have f7 := PySem.F.called_set.init.bind (.ref s.heap.objs.size)
      repeat (any_goals (first | assumption | wp_step))
      refine codeAny_mono (codeAny_call_builtin (R := wants (fun r s₂ => r = .none ∧ ∃ h' tk, s₂ = { s with heap := h', toks := tk } ∧ h'.SetOf (PySem.strKind P w) s.heap.objs.size (inTk xs items.size) items.size ∧
        ∀ b o, b < s.heap.objs.size → s.heap.get? b = some o → h'.get? b = some o) E) PySem.F.called_set.init.plain PySem.F.entry_set_init (check_set_init_1 hT ?_)) fun r₂ s₂ h₂ => ?_
      · obtain ⟨ol, hol, hcl, nl, hdl⟩ := hl
        obtain ⟨ocls, odict, odata, oslots⟩ := ol
        simp only at hcl hdl
        subst hcl hdl
        have lS : l < s.heap.objs.size := Heap.lt_size hol
        have isl : (s.heap.push (emp led)).IsList l items := ⟨_, Heap.get?_push_of_some _ hol, rfl, nl, rfl⟩
        have getl : (s.heap.push (emp led)).get? l = some { cls := .type "list", dict := odict, data := .seq items nl, slots := oslots } := Heap.get?_push_of_some _ hol
        have g1 := PySem.F.sub_list_set
        have g2 := PySem.F.sub_list_frozenset
        have g3 : (Value.type "list" == Value.type "dict") = false := by decide
        unfold Builtin.«set.__init__» noKeywords Builtin.Frozenset.updateFrom
        generalize ePI : pyIter = PI
        wp_walk
        subst ePI
        refine wpAny_pyIter_list isl ?_
        refine wpAny_bind (wpAny_runValue ?_)
        have sz : (s.heap.push (emp led)).objs.size = s.heap.objs.size + 1 := Heap.size_push _ _
        have hA3 : A.in1.in1.in1.handled = none := by simp [hA]
        have len : xs.length = items.size := by rw [← StrsAre.len_eq hx, Array.length_toList]
        refine strs_loop ((Walks.list hA3 _ l (by rw [sz]; exact Nat.ne_of_lt (Nat.lt_succ_of_lt lS)) items).toS) (D := s.heap.objs.size) (by rw [sz]; simp only [List.mem_cons, List.not_mem_nil, or_false, not_or]; exact ⟨Nat.ne_of_lt (Nat.lt_succ_self _), Nat.ne_of_gt lS⟩) len hu (by omega) (fun i v hv => SS.strs_at hx i v (by rw [Array.getElem?_toList]; exact hv)) items.size 0 _ (by omega) ⟨⟨_, Heap.get?_push_size _ rfl, rfl, rfl⟩, (isl.push _)⟩ ?_ fun s' mv hS' => ?_
        · exact SetOf_congr ((setObjOf_fresh (knd := PySem.strKind P w) led).setOf (Heap.get?_push_of_some _ hS) (by unfold scanBound; omega)) (fun _ => rfl) rfl
        · obtain ⟨h', g', d', tk', os'⟩ := s'
          have eg : g' = s.gens := mv.gens
          have ed : d' = s.drawn := mv.drawn
          have eo : os' = s.os := mv.os
          subst eg ed eo
          show wpAny _ _ _ _ _ _
          refine wpAny_pure ?_
          show wpAny _ _ (ret Value.none) _ _ _
          refine wpAny_pure ⟨rfl, h', tk', rfl, hS', fun b o hb e => mv.heap b o ?_ (Heap.get?_push_of_some _ (Heap.get?_push_of_some _ e))⟩
          simp only [List.mem_cons, List.not_mem_nil, or_false, not_or]
          exact ⟨Nat.ne_of_lt hb, by rw [sz]; exact Nat.ne_of_lt (Nat.lt_succ_of_lt hb)⟩
      · cases r₂ with
        | error e => exact h₂
        | ok fl₂ =>
          cases fl₂ with
          | ret r =>
            obtain ⟨rfl, h', tk, rfl, k1, k2⟩ := h₂
            repeat (any_goals (first | assumption | wp_step))
            exact q _ _ k1 k2
          | _ => exact h₂.elim
    | _ => exact hr.elim
end
section
variable {X : Cx} {mg : Str → Option Value} {W : WX}
theorem are_txts : ∀ {ys : List Str} {us : List Value}, Vals (ys.map V.str) us → StrsAre us ys
  | [], _, .nil => .nil
  | y :: ys, _, .cons ⟨t, e⟩ r => by
    subst e
    exact .cons y t (are_txts r)
def tLenSetS (K : PySem.W.Frag) (ta : TE) : TE := fun σ H Q => ta σ H fun x H1 => ∃ (l : Addr) (xs : List Str), x = .ref l ∧ SqL K H1 l (xs.map V.str) ∧ xs.Nodup ∧ xs.length ≤ 60 ∧ Q (.int xs.length) H1
theorem pe_lenSetS {a : Expr} {ta : TE} {p p2 p3 pos : Pos} (hg : Gl X "len") (hm : X.mg "len" = none) (hg2 : Gl X "set") (hm2 : X.mg "set" = none) (ha : PE X a ta) (hc : X.calm = true := by rfl)
    (na : starEach [a] X.env = (false, eval a X.env) :: starEach [] X.env := by rfl) : PE X (.Call (.Name "len" p) [.Call (.Name "set" p2) [a] [] p3] [] pos) (tLenSetS X.K ta) := by
  refine ⟨fun pins s σ H Q I h => Call_ (ld_blt I hg hm boot_len (callWith_builtin1 (args_cons (Call_ (ld_blt I hg2 hm2 boot_set (callWith_type1 (args_cons (thn (ha.run pins s σ H _ I h) fun v s1 ⟨x, H1, I1, r1, q1⟩ => args_nil ?_) na) na rfl))) rfl) rfl rfl))⟩
  obtain ⟨l, xs, rfl, hq, hu, h60, q⟩ := q1
  cases r1
  obtain ⟨its, rv, pl, _⟩ := I1.list hq
  have len : its.toArray.size = xs.length := by rw [List.size_toArray, ← rv.length, List.length_map]
  refine call_set_txts (I1.ok.hd hc) pl.isList (by simpa using are_txts rv) hu h60 fun h' tk hS hk => args_nil ?_
  rewrite [len] at hS
  obtain ⟨o, es, ep, t, ho, hex, hd, _, _, _, hf, hn⟩ := hS
  have I2 : Inv X pins σ H1 { s1 with heap := h', toks := tk } := I1.kept fun b o e => hk b o (Heap.lt_size e) e
  exact call_len_set ho hex hd hf (by rw [hn] <;> omega) ⟨.int xs.length, H1, I2.tok _, ⟨_, by rw [hn] <;> rfl⟩, q⟩
def strs? : List D → Option (List Str)
  | [] => some []
  | .str x :: ds => (strs? ds).map fun xs => x :: xs
  | _ :: _ => none
theorem strs?_some : ∀ {ds : List D} {xs : List Str}, strs? ds = some xs → ds = xs.map D.str
  | [], _, h => by cases h; rfl
  | d :: ds, xs, h => by
    cases d with
    | str x =>
      obtain ⟨ys, hy, rfl⟩ := Option.map_eq_some_iff.mp (show (strs? ds).map (fun xs => x :: xs) = some xs from h)
      rw [strs?_some hy]
      rfl
    | _ => cases h
@[simp] theorem strs?_map : ∀ {xs : List Str}, strs? (xs.map D.str) = some xs
  | [] => rfl
  | x :: xs => by
    show (strs? (xs.map D.str)).map (fun xs => x :: xs) = _
    rw [strs?_map]
    rfl
theorem Reps.strs {wa : Addr} {Hf : Hp} : ∀ {xs : List Str} {vs : List V}, Reps wa Hf vs (xs.map D.str) → vs = xs.map V.str
  | [], _, .nil => rfl
  | x :: xs, _, .cons r t => by
    cases r
    rw [Reps.strs t]
    rfl
/-- len(set(xs)), texts -/
def fLenSetS : Wl → D → Option D := fun _ x => match x with
  | .lst ds => match strs? ds with
    | some xs => if xs.Nodup ∧ xs.length ≤ 60 then some (.int xs.length) else none
    | none => none
  | _ => none
theorem pd_lenSetS {a : Expr} {A : DE} {p p2 q pos : Pos} (hg : Gl X "len") (hm : X.mg "len" = none) (hg2 : Gl X "set") (hm2 : X.mg "set" = none) (ha : PE X a (lE mg W A)) (hc : X.calm = true := by rfl)
    (na : starEach [a] X.env = (false, eval a X.env) :: starEach [] X.env := by rfl) : PE X (.Call (.Name "len" p) [.Call (.Name "set" p2) [a] [] q] [] pos) (lE mg W (eUn fLenSetS A)) := weakE (pe_lenSetS hg hm hg2 hm2 ha hc na) fun σ H Q h => by
  obtain ⟨wa, Hf, sD, w, hb, hs, h⟩ := h
  refine ⟨wa, Hf, sD, w, hb, hs, h.bind.mono (fun x w1 H1 Hf1 g1 b1 q v rv => ?_) (fun _ _ _ _ _ _ q => q)⟩
  obtain ⟨z, e, q3⟩ := q.opt
  unfold fLenSetS at e
  split at e
  · split at e
    · rename_i ds xs hn
      split at e
      · rename_i hl
        cases e
        obtain ⟨a, vs, ev, h1, r1⟩ := one_lst (Reps.cons rv .nil)
        cases ev
        rw [strs?_some hn] at r1
        have e2 := r1.strs
        subst e2
        exact ⟨a, xs, rfl, SqL.of (b1.ex _ _ h1), hl.1, hl.2, q3 _ _ Go.refl b1 _ (.int _)⟩
      · cases e
    · cases e
  · cases e
@[simp] theorem v_lenSetS {w : Wl} {xs : List Str} : fLenSetS w (.lst (xs.map .str)) = if xs.Nodup ∧ xs.length ≤ 60 then some (.int xs.length) else none := by
  unfold fLenSetS
  dsimp only
  rw [strs?_map]
end
end DL

set_option maxHeartbeats 2000000
namespace DL
open PySem PySem.Spec PyProof.Rows L2
variable [TabT] [OldT]
open Evl (Ex)
/-! ### len({.. for .. in ..}), ints -/
def rLenSet (w : World) : List V → Hp → VK → Prop := fun vs H Q => ∃ (a : Addr) (S : Int → Bool) (n : Nat), vs = [V.ref a] ∧ H a = some (SetO w a S n) ∧ Q (.int n) H
theorem cr_lenSet {X : Cx} : CallR X (.builtin "len") (rLenSet X.w) := by
  intro pins s σ H vs us Q I r h
  obtain ⟨a, S, n, rfl, ha, q⟩ := h
  rw [Vals.ref1 r]
  obtain ⟨o, es, ep, t, ho, hex, hd, _, _, _, hb, hf, hn, _⟩ := setO_get I ha
  exact call_len_set ho hex hd hf (by unfold scanBound at hb; omega) ⟨.int n, H, I.tok _, ⟨_, by rw [hn] <;> rfl⟩, q⟩
def eLenSS (I : DI) (G : DG) (T : DT) (E : DE) (vs : List Nat) : DE := fun s w => (I s w).bind fun ds w1 => if ds.length ≤ lim then (lcD G T E ds (wipeS s vs) w1).noer.bind fun ys w2 => match ints? ys with
  | some ns => if ns.length < 1000 then .ok (.int (sset ns).length) w2 else .no
  | none => .no
  else .no
section
variable {X : Cx} {mg : Str → Option Value} {W : WX} {elt itr tgt a : Expr} {es tests : List Expr} {pos : Pos} {σ : L2.St} {H : Hp} {wa : Addr} {Hf : Hp}
theorem sl_ok {w0 : World} {I : DI} {G : DG} {T : DT} {E : DE} {vs : List Nat} {Q : VK} (h : lE mg W (eLenSS I G T E vs) σ H Q) : tCB (rLenSet w0) (tCons (tSci w0 (lI mg W I) (lG vs G) (lT mg W0 T) (lE mg W0 E) vs) tNil) σ H Q := by
  obtain ⟨wa, Hf, sD, w, hb, hs, h⟩ := h
  refine ⟨wa, Hf, sD, w, hb, hs, h.bind.mono (fun ds w1 H1 Hf1 g1 b1 q J wk D hD => ?_) (fun _ _ _ _ _ _ q => q)⟩
  have hs1 := (hs.go g1).wipe vs
  split at q
  · rename_i hz
    cases el : lcD G T E ds (wipeS sD vs) w1 with
    | er x w2 => rw [el] at q; exact q.elim
    | no => rw [el] at q; exact q.elim
    | ok total wF =>
      rw [el] at q
      simp only [R.noer, R.bind_ok] at q
      cases en : ints? total with
      | none => rw [en] at q; exact q.elim
      | some ns =>
      rw [en] at q
      dsimp only at q
      split at q
      · rename_i h64
        have etot := ints?_some en
        have hDw : D ≠ wa := fun z => by rw [z, b1.well] at hD; cases hD
        have hDf : Hf1 D = none := Evl.fresh_back b1.ex hD
        refine ⟨fun i m H2 => m = ds.length - i ∧ i ≤ ds.length ∧ ∃ Hf2 w2 S n, ∃ acc us : List Int, Go wa H1 Hf1 H2 Hf2 ∧ Base wa Hf2 H2 w2 ∧ H2 D = some (SetO w0 D S n) ∧ Hf2 D = none ∧ (∀ k, S k = true ↔ k ∈ acc) ∧ n = (sset acc).length ∧ acc.length + us.length = ns.length ∧ lcD G T E (ds.drop i) (wipeS sD vs) w2 = .ok (us.map .int) wF ∧ ∀ k, (k ∈ acc ∨ k ∈ us) ↔ k ∈ ns,
          ⟨ds.length, by simp, Nat.zero_le _, Hf1, w1, _, _, [], ns, Go.new1 hD, b1.new1 hD, upd_same, hDf, by simp, rfl, by simp, by rw [List.drop_zero, el, etot], by simp⟩, ?_⟩
        rintro i m H2 ⟨rfl, hi, Hf2, w2, S, n, acc, us, g2, b2, hD2, hDf2, hS, hn, hlen, e2, hk⟩
        by_cases hlt : i < ds.length
        · have ed : ds.drop i = ds[i] :: ds.drop (i + 1) := List.drop_eq_getElem_cons hlt
          rw [ed] at e2
          have gi : ds[i]? = some ds[i] := by simp [hlt]
          refine .inr ⟨wk.goes i H2 hlt (g2.ex.trans b2.ex), fun H' => ∃ Hf2 w2 S n, ∃ acc us : List Int, Go wa H1 Hf1 H' Hf2 ∧ Base wa Hf2 H' w2 ∧ H' D = some (SetO w0 D S n) ∧ Hf2 D = none ∧ (∀ k, S k = true ↔ k ∈ acc) ∧ n = (sset acc).length ∧ acc.length + us.length = ns.length ∧ lcD G T E (ds.drop (i + 1)) (wipeS sD vs) w2 = .ok (us.map .int) wF ∧ ∀ k, (k ∈ acc ∨ k ∈ us) ↔ k ∈ ns,
            fun H' hN => ⟨ds.length - (i + 1), by omega, rfl, hlt, hN⟩, fun x H3 hy => ?_⟩
          obtain ⟨Hf3, g3, b3, r3⟩ := wk.yields i H2 Hf2 w2 x H3 _ gi g2.ex b2 hy
          have hD3 := g3.keepN D _ hDw nt_setO hD2
          have hDf3 : Hf3 D = none := (g3.newN D _ nu_setO hD2).trans hDf2
          unfold lcD at e2
          cases eg : G ds[i] (wipeS sD vs) with
          | none => rw [eg] at e2; cases e2
          | some s1 =>
            rw [eg] at e2
            dsimp only at e2
            refine ⟨wa, Hf3, fun _ => none, w2, wipeS sD vs, ds[i], s1, b3, r3, (hs1.go g2).go g3, fun _ _ _ _ _ _ => .of rfl, eg, fun σ4 hs4 _ hw4 => ⟨hw4.trans (wipe_wipe vs), ?_⟩⟩
            cases et : T s1 w2 with
            | er y u => rw [et] at e2; cases e2
            | no => rw [et] at e2; cases e2
            | ok bb w5 =>
              rw [et] at e2
              refine ⟨wa, Hf3, s1, w2, b3, hs4, ?_⟩
              rw [et]
              intro H5 Hf5 g5 b5 v5 rv5
              have ev5 : v5 = bb := rv5
              subst ev5
              have hD5 := g5.keepN D _ hDw nt_setO hD3
              have hDf5 : Hf5 D = none := (g5.newN D _ nu_setO hD3).trans hDf3
              cases v5 with
              | false =>
                refine iteF ?_
                have e3 : lcD G T E (ds.drop (i + 1)) (wipeS sD vs) w5 = .ok (us.map .int) wF := by simpa [R.noer, R.bind] using e2
                exact ⟨Hf5, w5, S, n, acc, us, (g2.trans g3).trans g5, b5, hD5, hDf5, hS, hn, hlen, e3, hk⟩
              | true =>
                refine iteT ?_
                have e3 : ((E s1 w5).noer.bind fun y w2 => (lcD G T E (ds.drop (i + 1)) (wipeS sD vs) w2).bind fun ys w3 => .ok (y :: ys) w3) = R.ok (us.map .int) wF := by simpa [R.noer, R.bind] using e2
                cases ee : E s1 w5 with
                | er y u => rw [ee] at e3; cases e3
                | no => rw [ee] at e3; cases e3
                | ok y w6 =>
                  rw [ee] at e3
                  refine ⟨wa, Hf5, s1, w5, b5, hs4.go g5, ?_⟩
                  rw [ee]
                  intro H6 Hf6 g6 b6 v6 r6
                  have hD6 := g6.keepN D _ hDw nt_setO hD5
                  have hDf6 : Hf6 D = none := (g6.newN D _ nu_setO hD5).trans hDf5
                  have e4 : ((lcD G T E (ds.drop (i + 1)) (wipeS sD vs) w6).bind fun ys w3 => .ok (y :: ys) w3) = R.ok (us.map .int) wF := by simpa [R.noer, R.bind] using e3
                  cases er : lcD G T E (ds.drop (i + 1)) (wipeS sD vs) w6 with
                  | er y u => rw [er] at e4; cases e4
                  | no => rw [er] at e4; cases e4
                  | ok zs w7 =>
                    rw [er] at e4
                    simp only [R.bind_ok, R.ok.injEq] at e4
                    obtain ⟨e4, rfl⟩ := e4
                    obtain ⟨c, us', rfl, rfl, rfl⟩ := int_of e4
                    cases r6
                    have l1 := sset_len acc
                    simp only [List.length_cons] at hlen
                    refine ⟨c, S, n, rfl, hD6, by unfold scanBound; omega, Hf6, w6, _, _, c :: acc, us', ?_, ?_, upd_same, hDf6, fun k => ?_, ?_, by simp; omega, er, fun k => ?_⟩
                    · have gg := ((g2.trans g3).trans g5).trans g6
                      exact gg.appF (.of hD)
                    · exact ⟨Evl.Ex.mut b6.ex hDf6, by rw [upd_ne (Ne.symm hDw)]; exact b6.well, b6.nw, tabs_nil, b6.nt, b6.od⟩
                    · rw [Bool.or_eq_true, decide_eq_true_eq, hS, List.mem_cons, or_comm]
                    · show (if S c = true then n else n + 1) = (insS c (sset acc)).length
                      split
                      · rename_i hc
                        rcases mem_len (mem_sset.mpr ((hS c).mp hc)) with e | e
                        · rw [e, hn]
                        · exact absurd (lt_sset acc) e
                      · rename_i hc
                        rw [nmem_len fun z => hc ((hS c).mpr (mem_sset.mp z)), hn]
                    · rw [← hk k, List.mem_cons, List.mem_cons]
                      constructor
                      · rintro ((h | h) | h)
                        · exact .inr (.inl h)
                        · exact .inl h
                        · exact .inr (.inr h)
                      · rintro (h | h | h)
                        · exact .inl (.inr h)
                        · exact .inl (.inl h)
                        · exact .inr h
        · have ei : i = ds.length := by omega
          subst ei
          rw [List.drop_length] at e2
          have e5 : us = [] ∧ w2 = wF := by
            simp only [lcD, R.ok.injEq] at e2
            exact ⟨(by cases us with | nil => rfl | cons _ _ => cases e2.1), e2.2⟩
          obtain ⟨rfl, rfl⟩ := e5
          have l1 := sset_len acc
          simp only [List.length_nil, Nat.add_zero] at hlen
          have e6 : sset acc = sset ns := asc_ext (lt_sset acc) (lt_sset ns) fun k => by
            rw [mem_sset, mem_sset, ← hk k]
            simp
          refine .inl ⟨wk.stops H2 (g2.ex.trans b2.ex), D, S, n, rfl, hD2, ?_⟩
          rw [hn, e6]
          exact q _ Hf2 g2 b2 _ (.int _)
      · exact q.elim
  · exact q.elim
theorem pd_lenSS {scope : Scope} {own : List (Str × Nat)} {I : DI} {G : DG} {T : DT} {E : DE} {p pos2 : Pos} (hgs : Gl X "len") (hms : X.mg "len" = none) (hc : X.calm = true) (hN : X.N.Nodup) (hi : PI X tgt itr (lI mg W I)) (ok : BlkOk X.N X.env.scope scope own)
    (hg : ∀ (s : Shared) (H : Hp) (C : Addr) (cl : List (Str × Addr)) (fp : List Addr), PG (X.blk s H scope (compEnvC scope cl C X.env) fp) tgt (lG (own.map (·.2)) G)) (ht : ∀ (s : Shared) (H : Hp) (C : Addr) (cl : List (Str × Addr)) (fp : List Addr), PTs (X.blk s H scope (compEnvC scope cl C X.env) fp) tests (lT mg W0 T))
    (he : ∀ (s : Shared) (H : Hp) (C : Addr) (cl : List (Str × Addr)) (fp : List Addr), PE (X.blk s H scope (compEnvC scope cl C X.env) fp) elt (lE mg W0 E)) (hs : ∀ x, foldedSetIterable itr X.env x = pure x := by intro _; rfl) :
    PE X (.Call (.Name "len" p) [.SetComp elt [⟨tgt, itr, tests, 0⟩] scope pos] [] pos2) (lE mg W (eLenSS I G T E (own.map (·.2)))) := weakE (pe_callB cr_lenSet hgs hms (by decide +kernel) (pa_cons (pe_sci hc hN hi ok hg ht he hs) pa_nil)) fun _ _ _ q => sl_ok q
end
end DL

set_option maxHeartbeats 2000000
namespace DL
open PySem PySem.Spec PyProof.Rows L2
open Evl (Ex)

/-! ### the text -/
variable [TabT] [OldT]
def topS (i : Nat) : Stmt := PySem.Challenge.pw_sectionwise_k53_whole_great_variables.main.body.getD i (.Pass ⟨0, 0, 0, 0⟩)
abbrev s_is_number : Stmt := topS 7
abbrev s_is_far : Stmt := topS 8
abbrev s_is_name : Stmt := topS 9
abbrev s_many_of : Stmt := topS 10
abbrev s_subscript_of : Stmt := topS 11
abbrev s_last_of : Stmt := topS 12
abbrev s_upward : Stmt := topS 15
abbrev s_normal_of : Stmt := topS 13
abbrev s_divisor_and_factor : Stmt := topS 16
abbrev s_met_of : Stmt := topS 14
abbrev s_seats_apart : Stmt := topS 18
abbrev s_seats_behind : Stmt := topS 19
abbrev s_seats_by : Stmt := topS 20
abbrev s_all_extents : Stmt := topS 23
abbrev s_multiplied : Stmt := topS 24
abbrev s_size_of : Stmt := topS 25
abbrev s_weights : Stmt := topS 26
abbrev s_is_element : Stmt := topS 27
abbrev s_place_there : Stmt := topS 28
abbrev s_is_range : Stmt := topS 35
abbrev s_is_variable : Stmt := topS 36
abbrev s_names_of : Stmt := topS 37
abbrev s_are_variables : Stmt := topS 38
abbrev s_sizes_and_bounds : Stmt := topS 39
abbrev s_is_member : Stmt := topS 40
abbrev s_is_row : Stmt := topS 41
abbrev s_are_rows : Stmt := topS 42
abbrev s_check_variables : Stmt := topS 43
abbrev s_check_rows : Stmt := topS 44
abbrev s_check_layout : Stmt := topS 45
abbrev s_units_ahead : Stmt := topS 47
abbrev s_lines_of : Stmt := topS 46
abbrev s_stretches_of : Stmt := topS 48
abbrev s_end_of : Stmt := topS 49
abbrev s_shared_units : Stmt := topS 50
abbrev s_touched_by : Stmt := topS 51
abbrev s_begins_within : Stmt := topS 52
abbrev s_check_name : Stmt := topS 53
abbrev s_check_number : Stmt := topS 54
abbrev s_two_stretches : Stmt := topS 55
abbrev s_in_order : Stmt := topS 56
abbrev s_offsets : Stmt := topS 57
abbrev s_are_bases : Stmt := topS 58
abbrev s_shared : Stmt := topS 59
abbrev s_touched : Stmt := topS 60
abbrev s_pairs_number : Stmt := topS 61
abbrev s_twins_number : Stmt := topS 62
abbrev s_w_draw : Stmt := topS 65
abbrev s_w_pick : Stmt := topS 66
abbrev s_w_far : Stmt := topS 67
abbrev s_w_bounds : Stmt := topS 68
abbrev s_w_ahead : Stmt := topS 69
abbrev s_w_units : Stmt := topS 70
abbrev s_w_spot : Stmt := topS 71
abbrev s_w_cut : Stmt := topS 72
abbrev s_w_pairs : Stmt := topS 73
abbrev s_w_right : Stmt := topS 74
abbrev s_w_well : Stmt := topS 64
abbrev s_law : Stmt := topS 75
abbrev N_is_number : List Str := ["value"]
abbrev P_is_number : List Str := ["value"]
theorem sc_is_number : FnScope N_is_number P_is_number (defScope s_is_number) := ⟨rfl, rfl, rfl, by decide +kernel, rfl, by decide +kernel, by decide +kernel⟩
abbrev N_is_far : List Str := ["value"]
abbrev P_is_far : List Str := ["value"]
theorem sc_is_far : FnScope N_is_far P_is_far (defScope s_is_far) := ⟨rfl, rfl, rfl, by decide +kernel, rfl, by decide +kernel, by decide +kernel⟩
abbrev N_is_name : List Str := ["value", "most", "letter"]
abbrev P_is_name : List Str := ["value", "most"]
theorem sc_is_name : FnScope N_is_name P_is_name (defScope s_is_name) := ⟨rfl, rfl, rfl, by decide +kernel, rfl, by decide +kernel, by decide +kernel⟩
abbrev N_many_of : List Str := ["part", "first", "last", "step"]
abbrev P_many_of : List Str := ["part"]
theorem sc_many_of : FnScope N_many_of P_many_of (defScope s_many_of) := ⟨rfl, rfl, rfl, by decide +kernel, rfl, by decide +kernel, by decide +kernel⟩
abbrev N_subscript_of : List Str := ["part", "index"]
abbrev P_subscript_of : List Str := ["part", "index"]
theorem sc_subscript_of : FnScope N_subscript_of P_subscript_of (defScope s_subscript_of) := ⟨rfl, rfl, rfl, by decide +kernel, rfl, by decide +kernel, by decide +kernel⟩
abbrev N_last_of : List Str := ["part"]
abbrev P_last_of : List Str := ["part"]
theorem sc_last_of : FnScope N_last_of P_last_of (defScope s_last_of) := ⟨rfl, rfl, rfl, by decide +kernel, rfl, by decide +kernel, by decide +kernel⟩
abbrev N_upward : List Str := ["triplet"]
abbrev P_upward : List Str := ["triplet"]
theorem sc_upward : FnScope N_upward P_upward (defScope s_upward) := ⟨rfl, rfl, rfl, by decide +kernel, rfl, by decide +kernel, by decide +kernel⟩
abbrev N_normal_of : List Str := ["triplet", "many"]
abbrev P_normal_of : List Str := ["triplet"]
theorem sc_normal_of : FnScope N_normal_of P_normal_of (defScope s_normal_of) := ⟨rfl, rfl, rfl, by decide +kernel, rfl, by decide +kernel, by decide +kernel⟩
abbrev N_divisor_and_factor : List Str := ["number", "modulus", "divisor", "rest", "factor", "next_factor", "times"]
abbrev P_divisor_and_factor : List Str := ["number", "modulus"]
theorem sc_divisor_and_factor : FnScope N_divisor_and_factor P_divisor_and_factor (defScope s_divisor_and_factor) := ⟨rfl, rfl, rfl, by decide +kernel, rfl, by decide +kernel, by decide +kernel⟩
abbrev N_met_of : List Str := ["triplet", "other", "low", "high", "step", "other_low", "other_high", "other_step", "divisor", "factor", "turns", "period", "start", "least"]
abbrev P_met_of : List Str := ["triplet", "other"]
theorem sc_met_of : FnScope N_met_of P_met_of (defScope s_met_of) := ⟨rfl, rfl, rfl, by decide +kernel, rfl, by decide +kernel, by decide +kernel⟩
abbrev N_seats_apart : List Str := ["names", "name"]
abbrev P_seats_apart : List Str := ["names"]
theorem sc_seats_apart : FnScope N_seats_apart P_seats_apart (defScope s_seats_apart) := ⟨rfl, rfl, rfl, by decide +kernel, rfl, by decide +kernel, by decide +kernel⟩
abbrev N_seats_behind : List Str := ["seats", "members", "first", "ahead", "name", "its_ahead", "group", "base", "other", "its_base", "move", "key", "label", "at"]
abbrev P_seats_behind : List Str := ["seats", "members"]
theorem sc_seats_behind : FnScope N_seats_behind P_seats_behind (defScope s_seats_behind) := ⟨rfl, rfl, rfl, by decide +kernel, rfl, by decide +kernel, by decide +kernel⟩
abbrev N_seats_by : List Str := ["names", "lines", "seats", "_", "members"]
abbrev P_seats_by : List Str := ["names", "lines"]
theorem sc_seats_by : FnScope N_seats_by P_seats_by (defScope s_seats_by) := ⟨rfl, rfl, rfl, by decide +kernel, rfl, by decide +kernel, by decide +kernel⟩
abbrev N_all_extents : List Str := ["bounds", "low", "high"]
abbrev P_all_extents : List Str := ["bounds"]
theorem sc_all_extents : FnScope N_all_extents P_all_extents (defScope s_all_extents) := ⟨rfl, rfl, rfl, by decide +kernel, rfl, by decide +kernel, by decide +kernel⟩
abbrev N_multiplied : List Str := ["numbers", "made", "number"]
abbrev P_multiplied : List Str := ["numbers"]
theorem sc_multiplied : FnScope N_multiplied P_multiplied (defScope s_multiplied) := ⟨rfl, rfl, rfl, by decide +kernel, rfl, by decide +kernel, by decide +kernel⟩
abbrev N_size_of : List Str := ["bounds"]
abbrev P_size_of : List Str := ["bounds"]
theorem sc_size_of : FnScope N_size_of P_size_of (defScope s_size_of) := ⟨rfl, rfl, rfl, by decide +kernel, rfl, by decide +kernel, by decide +kernel⟩
abbrev N_weights : List Str := ["bounds", "told", "weight", "extent"]
abbrev P_weights : List Str := ["bounds"]
theorem sc_weights : FnScope N_weights P_weights (defScope s_weights) := ⟨rfl, rfl, rfl, by decide +kernel, rfl, by decide +kernel, by decide +kernel⟩
abbrev N_is_element : List Str := ["bounds", "value", "number", "low", "high"]
abbrev P_is_element : List Str := ["bounds", "value"]
theorem sc_is_element : FnScope N_is_element P_is_element (defScope s_is_element) := ⟨rfl, rfl, rfl, by decide +kernel, rfl, by decide +kernel, by decide +kernel⟩
abbrev N_place_there : List Str := ["bounds", "element", "number", "weight", "low", "_"]
abbrev P_place_there : List Str := ["bounds", "element"]
theorem sc_place_there : FnScope N_place_there P_place_there (defScope s_place_there) := ⟨rfl, rfl, rfl, by decide +kernel, rfl, by decide +kernel, by decide +kernel⟩
abbrev N_is_range : List Str := ["value"]
abbrev P_is_range : List Str := ["value"]
theorem sc_is_range : FnScope N_is_range P_is_range (defScope s_is_range) := ⟨rfl, rfl, rfl, by decide +kernel, rfl, by decide +kernel, by decide +kernel⟩
abbrev N_is_variable : List Str := ["value", "name", "size", "bounds", "pair"]
abbrev P_is_variable : List Str := ["value"]
theorem sc_is_variable : FnScope N_is_variable P_is_variable (defScope s_is_variable) := ⟨rfl, rfl, rfl, by decide +kernel, rfl, by decide +kernel, by decide +kernel⟩
abbrev N_names_of : List Str := ["variables", "name", "_"]
abbrev P_names_of : List Str := ["variables"]
theorem sc_names_of : FnScope N_names_of P_names_of (defScope s_names_of) := ⟨rfl, rfl, rfl, by decide +kernel, rfl, by decide +kernel, by decide +kernel⟩
abbrev N_are_variables : List Str := ["value", "variable"]
abbrev P_are_variables : List Str := ["value"]
theorem sc_are_variables : FnScope N_are_variables P_are_variables (defScope s_are_variables) := ⟨rfl, rfl, rfl, by decide +kernel, rfl, by decide +kernel, by decide +kernel⟩
abbrev N_sizes_and_bounds : List Str := ["variables", "name", "size", "bounds"]
abbrev P_sizes_and_bounds : List Str := ["variables"]
theorem sc_sizes_and_bounds : FnScope N_sizes_and_bounds P_sizes_and_bounds (defScope s_sizes_and_bounds) := ⟨rfl, rfl, rfl, by decide +kernel, rfl, by decide +kernel, by decide +kernel⟩
abbrev N_is_member : List Str := ["table", "value", "name", "subscripts"]
abbrev P_is_member : List Str := ["table", "value"]
theorem sc_is_member : FnScope N_is_member P_is_member (defScope s_is_member) := ⟨rfl, rfl, rfl, by decide +kernel, rfl, by decide +kernel, by decide +kernel⟩
abbrev N_is_row : List Str := ["table", "value", "member"]
abbrev P_is_row : List Str := ["table", "value"]
theorem sc_is_row : FnScope N_is_row P_is_row (defScope s_is_row) := ⟨rfl, rfl, rfl, by decide +kernel, rfl, by decide +kernel, by decide +kernel⟩
abbrev N_are_rows : List Str := ["variables", "value", "table", "row"]
abbrev P_are_rows : List Str := ["variables", "value"]
theorem sc_are_rows : FnScope N_are_rows P_are_rows (defScope s_are_rows) := ⟨rfl, rfl, rfl, by decide +kernel, rfl, by decide +kernel, by decide +kernel⟩
abbrev N_check_variables : List Str := ["variables"]
abbrev P_check_variables : List Str := ["variables"]
theorem sc_check_variables : FnScope N_check_variables P_check_variables (defScope s_check_variables) := ⟨rfl, rfl, rfl, by decide +kernel, rfl, by decide +kernel, by decide +kernel⟩
abbrev N_check_rows : List Str := ["variables", "rows"]
abbrev P_check_rows : List Str := ["variables", "rows"]
theorem sc_check_rows : FnScope N_check_rows P_check_rows (defScope s_check_rows) := ⟨rfl, rfl, rfl, by decide +kernel, rfl, by decide +kernel, by decide +kernel⟩
abbrev N_check_layout : List Str := ["variables", "rows"]
abbrev P_check_layout : List Str := ["variables", "rows"]
theorem sc_check_layout : FnScope N_check_layout P_check_layout (defScope s_check_layout) := ⟨rfl, rfl, rfl, by decide +kernel, rfl, by decide +kernel, by decide +kernel⟩
abbrev N_units_ahead : List Str := ["kind", "subscripts", "size", "bounds"]
abbrev P_units_ahead : List Str := ["kind", "subscripts"]
theorem sc_units_ahead : FnScope N_units_ahead P_units_ahead (defScope s_units_ahead) := ⟨rfl, rfl, rfl, by decide +kernel, rfl, by decide +kernel, by decide +kernel⟩
abbrev N_lines_of : List Str := ["variables", "rows", "table", "number", "row", "name", "at"]
abbrev P_lines_of : List Str := ["variables", "rows"]
theorem sc_lines_of : FnScope N_lines_of P_lines_of (defScope s_lines_of) := ⟨rfl, rfl, rfl, by decide +kernel, rfl, by decide +kernel, by decide +kernel⟩
abbrev N_stretches_of : List Str := ["variables", "seats", "name", "size", "bounds"]
abbrev P_stretches_of : List Str := ["variables", "seats"]
theorem sc_stretches_of : FnScope N_stretches_of P_stretches_of (defScope s_stretches_of) := ⟨rfl, rfl, rfl, by decide +kernel, rfl, by decide +kernel, by decide +kernel⟩
abbrev N_end_of : List Str := ["stretch", "_", "base", "size", "many"]
abbrev P_end_of : List Str := ["stretch"]
theorem sc_end_of : FnScope N_end_of P_end_of (defScope s_end_of) := ⟨rfl, rfl, rfl, by decide +kernel, rfl, by decide +kernel, by decide +kernel⟩
abbrev N_shared_units : List Str := ["stretch", "other", "start", "end"]
abbrev P_shared_units : List Str := ["stretch", "other"]
theorem sc_shared_units : FnScope N_shared_units P_shared_units (defScope s_shared_units) := ⟨rfl, rfl, rfl, by decide +kernel, rfl, by decide +kernel, by decide +kernel⟩
abbrev N_touched_by : List Str := ["stretch", "number", "other", "group", "base", "size", "_", "both", "its_base", "its_size"]
abbrev P_touched_by : List Str := ["stretch", "number", "other"]
theorem sc_touched_by : FnScope N_touched_by P_touched_by (defScope s_touched_by) := ⟨rfl, rfl, rfl, by decide +kernel, rfl, by decide +kernel, by decide +kernel⟩
abbrev N_begins_within : List Str := ["stretch", "both", "_", "base", "size", "start", "end"]
abbrev P_begins_within : List Str := ["stretch", "both"]
theorem sc_begins_within : FnScope N_begins_within P_begins_within (defScope s_begins_within) := ⟨rfl, rfl, rfl, by decide +kernel, rfl, by decide +kernel, by decide +kernel⟩
abbrev N_check_name : List Str := ["stretches", "value", "part"]
abbrev P_check_name : List Str := ["stretches", "value", "part"]
theorem sc_check_name : FnScope N_check_name P_check_name (defScope s_check_name) := ⟨rfl, rfl, rfl, by decide +kernel, rfl, by decide +kernel, by decide +kernel⟩
abbrev N_check_number : List Str := ["stretch", "value"]
abbrev P_check_number : List Str := ["stretch", "value"]
theorem sc_check_number : FnScope N_check_number P_check_number (defScope s_check_number) := ⟨rfl, rfl, rfl, by decide +kernel, rfl, by decide +kernel, by decide +kernel⟩
abbrev N_two_stretches : List Str := ["variables", "rows", "one", "other", "seats", "stretches"]
abbrev P_two_stretches : List Str := ["variables", "rows", "one", "other"]
theorem sc_two_stretches : FnScope N_two_stretches P_two_stretches (defScope s_two_stretches) := ⟨rfl, rfl, rfl, by decide +kernel, rfl, by decide +kernel, by decide +kernel⟩
abbrev N_in_order : List Str := ["names", "seats", "firsts", "lowest", "name", "group", "base"]
abbrev P_in_order : List Str := ["names", "seats"]
theorem sc_in_order : FnScope N_in_order P_in_order (defScope s_in_order) := ⟨rfl, rfl, rfl, by decide +kernel, rfl, by decide +kernel, by decide +kernel⟩
abbrev N_offsets : List Str := ["variables", "rows", "seats"]
abbrev P_offsets : List Str := ["variables", "rows"]
theorem sc_offsets : FnScope N_offsets P_offsets (defScope s_offsets) := ⟨rfl, rfl, rfl, by decide +kernel, rfl, by decide +kernel, by decide +kernel⟩
abbrev N_are_bases : List Str := ["variables", "rows", "thing", "bases", "_", "members", "name", "base", "ahead"]
abbrev P_are_bases : List Str := ["variables", "rows", "thing"]
theorem sc_are_bases : FnScope N_are_bases P_are_bases (defScope s_are_bases) := ⟨rfl, rfl, rfl, by decide +kernel, rfl, by decide +kernel, by decide +kernel⟩
abbrev N_shared : List Str := ["variables", "rows", "one", "other", "its", "others", "both"]
abbrev P_shared : List Str := ["variables", "rows", "one", "other"]
theorem sc_shared : FnScope N_shared P_shared (defScope s_shared) := ⟨rfl, rfl, rfl, by decide +kernel, rfl, by decide +kernel, by decide +kernel⟩
abbrev N_touched : List Str := ["variables", "rows", "one", "number", "other", "its", "others"]
abbrev P_touched : List Str := ["variables", "rows", "one", "number", "other"]
theorem sc_touched : FnScope N_touched P_touched (defScope s_touched) := ⟨rfl, rfl, rfl, by decide +kernel, rfl, by decide +kernel, by decide +kernel⟩
abbrev N_pairs_number : List Str := ["variables", "rows", "one", "other", "its", "others", "both", "begins", "others_begin"]
abbrev P_pairs_number : List Str := ["variables", "rows", "one", "other"]
theorem sc_pairs_number : FnScope N_pairs_number P_pairs_number (defScope s_pairs_number) := ⟨rfl, rfl, rfl, by decide +kernel, rfl, by decide +kernel, by decide +kernel⟩
abbrev N_twins_number : List Str := ["variables", "rows", "one", "other", "its", "others", "both"]
abbrev P_twins_number : List Str := ["variables", "rows", "one", "other"]
theorem sc_twins_number : FnScope N_twins_number P_twins_number (defScope s_twins_number) := ⟨rfl, rfl, rfl, by decide +kernel, rfl, by decide +kernel, by decide +kernel⟩
abbrev N_w_draw : List Str := ["_law_well_here", "_law_many", "_law_drawn", "_law_mixed"]
abbrev P_w_draw : List Str := ["_law_well_here", "_law_many"]
theorem sc_w_draw : FnScope N_w_draw P_w_draw (defScope s_w_draw) := ⟨rfl, rfl, rfl, by decide +kernel, rfl, by decide +kernel, by decide +kernel⟩
abbrev N_w_pick : List Str := ["_law_well_here", "_law_some"]
abbrev P_w_pick : List Str := ["_law_well_here", "_law_some"]
theorem sc_w_pick : FnScope N_w_pick P_w_pick (defScope s_w_pick) := ⟨rfl, rfl, rfl, by decide +kernel, rfl, by decide +kernel, by decide +kernel⟩
abbrev N_w_far : List Str := ["_law_well_here", "_law_found"]
abbrev P_w_far : List Str := ["_law_well_here"]
theorem sc_w_far : FnScope N_w_far P_w_far (defScope s_w_far) := ⟨rfl, rfl, rfl, by decide +kernel, rfl, by decide +kernel, by decide +kernel⟩
abbrev N_w_bounds : List Str := ["_law_well_here", "_law_found", "_law_turn", "_law_ends_so"]
abbrev P_w_bounds : List Str := ["_law_well_here"]
theorem sc_w_bounds : FnScope N_w_bounds P_w_bounds (defScope s_w_bounds) := ⟨rfl, rfl, rfl, by decide +kernel, rfl, by decide +kernel, by decide +kernel⟩
abbrev N_w_ahead : List Str := ["_law_part", "_law_subscripts", "_law_found", "_law_wide", "_law_k", "_law_at"]
abbrev P_w_ahead : List Str := ["_law_part", "_law_subscripts"]
theorem sc_w_ahead : FnScope N_w_ahead P_w_ahead (defScope s_w_ahead) := ⟨rfl, rfl, rfl, by decide +kernel, rfl, by decide +kernel, by decide +kernel⟩
abbrev N_w_units : List Str := ["_law_part", "_law_found", "_law_low", "_law_high"]
abbrev P_w_units : List Str := ["_law_part"]
theorem sc_w_units : FnScope N_w_units P_w_units (defScope s_w_units) := ⟨rfl, rfl, rfl, by decide +kernel, rfl, by decide +kernel, by decide +kernel⟩
abbrev N_w_spot : List Str := ["_law_well_here", "_law_part", "_law_found", "_law_low", "_law_high", "_law_some"]
abbrev P_w_spot : List Str := ["_law_well_here", "_law_part"]
theorem sc_w_spot : FnScope N_w_spot P_w_spot (defScope s_w_spot) := ⟨rfl, rfl, rfl, by decide +kernel, rfl, by decide +kernel, by decide +kernel⟩
abbrev N_w_cut : List Str := ["_law_begin", "_law_size", "_law_low", "_law_high", "_law_unit"]
abbrev P_w_cut : List Str := ["_law_begin", "_law_size", "_law_low", "_law_high"]
theorem sc_w_cut : FnScope N_w_cut P_w_cut (defScope s_w_cut) := ⟨rfl, rfl, rfl, by decide +kernel, rfl, by decide +kernel, by decide +kernel⟩
abbrev N_w_pairs : List Str := ["_law_mine", "_law_its", "_law_low", "_law_high", "_law_wheel", "_law_rounds_so", "_law_rest", "_law_either", "_law_first", "_law_last", "_law_many", "_law_some", "_law_both", "_law_unit"]
abbrev P_w_pairs : List Str := ["_law_mine", "_law_its", "_law_low", "_law_high"]
theorem sc_w_pairs : FnScope N_w_pairs P_w_pairs (defScope s_w_pairs) := ⟨rfl, rfl, rfl, by decide +kernel, rfl, by decide +kernel, by decide +kernel⟩
abbrev N_w_right : List Str := ["_law_well_here", "_law_sizes", "_law_one", "_law_two", "_law_spots", "_law_rows_so", "_law_far_here", "_law_due", "_law_mine", "_law_its", "_law_low", "_law_high", "_law_number", "_law_last", "_law_spot_here", "_law_many", "_law_twins", "_law_name", "_law_size"]
abbrev P_w_right : List Str := ["_law_well_here"]
theorem sc_w_right : FnScope N_w_right P_w_right (defScope s_w_right) := ⟨rfl, rfl, rfl, by decide +kernel, rfl, by decide +kernel, by decide +kernel⟩
/-- what the top has written -/
structure Txt (K : PySem.W.Frag) (mg : Str → Option Value) where
  a_is_number : Addr
  d_is_number : FuncData
  F_is_number : Fun K "is_number" "is_number" s_is_number a_is_number d_is_number
  g_is_number : mg "is_number" = some (.ref a_is_number)
  a_is_far : Addr
  d_is_far : FuncData
  F_is_far : Fun K "is_far" "is_far" s_is_far a_is_far d_is_far
  g_is_far : mg "is_far" = some (.ref a_is_far)
  a_is_name : Addr
  d_is_name : FuncData
  F_is_name : Fun K "is_name" "is_name" s_is_name a_is_name d_is_name
  g_is_name : mg "is_name" = some (.ref a_is_name)
  a_many_of : Addr
  d_many_of : FuncData
  F_many_of : Fun K "many_of" "many_of" s_many_of a_many_of d_many_of
  g_many_of : mg "many_of" = some (.ref a_many_of)
  a_subscript_of : Addr
  d_subscript_of : FuncData
  F_subscript_of : Fun K "subscript_of" "subscript_of" s_subscript_of a_subscript_of d_subscript_of
  g_subscript_of : mg "subscript_of" = some (.ref a_subscript_of)
  a_last_of : Addr
  d_last_of : FuncData
  F_last_of : Fun K "last_of" "last_of" s_last_of a_last_of d_last_of
  g_last_of : mg "last_of" = some (.ref a_last_of)
  a_upward : Addr
  d_upward : FuncData
  F_upward : Fun K "upward" "upward" s_upward a_upward d_upward
  g_upward : mg "upward" = some (.ref a_upward)
  a_normal_of : Addr
  d_normal_of : FuncData
  F_normal_of : Fun K "normal_of" "normal_of" s_normal_of a_normal_of d_normal_of
  g_normal_of : mg "normal_of" = some (.ref a_normal_of)
  a_divisor_and_factor : Addr
  d_divisor_and_factor : FuncData
  F_divisor_and_factor : Fun K "divisor_and_factor" "divisor_and_factor" s_divisor_and_factor a_divisor_and_factor d_divisor_and_factor
  g_divisor_and_factor : mg "divisor_and_factor" = some (.ref a_divisor_and_factor)
  a_met_of : Addr
  d_met_of : FuncData
  F_met_of : Fun K "met_of" "met_of" s_met_of a_met_of d_met_of
  g_met_of : mg "met_of" = some (.ref a_met_of)
  a_seats_apart : Addr
  d_seats_apart : FuncData
  F_seats_apart : Fun K "seats_apart" "seats_apart" s_seats_apart a_seats_apart d_seats_apart
  g_seats_apart : mg "seats_apart" = some (.ref a_seats_apart)
  a_seats_behind : Addr
  d_seats_behind : FuncData
  F_seats_behind : Fun K "seats_behind" "seats_behind" s_seats_behind a_seats_behind d_seats_behind
  g_seats_behind : mg "seats_behind" = some (.ref a_seats_behind)
  a_seats_by : Addr
  d_seats_by : FuncData
  F_seats_by : Fun K "seats_by" "seats_by" s_seats_by a_seats_by d_seats_by
  g_seats_by : mg "seats_by" = some (.ref a_seats_by)
  a_all_extents : Addr
  d_all_extents : FuncData
  F_all_extents : Fun K "all_extents" "all_extents" s_all_extents a_all_extents d_all_extents
  g_all_extents : mg "all_extents" = some (.ref a_all_extents)
  a_multiplied : Addr
  d_multiplied : FuncData
  F_multiplied : Fun K "multiplied" "multiplied" s_multiplied a_multiplied d_multiplied
  g_multiplied : mg "multiplied" = some (.ref a_multiplied)
  a_size_of : Addr
  d_size_of : FuncData
  F_size_of : Fun K "size_of" "size_of" s_size_of a_size_of d_size_of
  g_size_of : mg "size_of" = some (.ref a_size_of)
  a_weights : Addr
  d_weights : FuncData
  F_weights : Fun K "weights" "weights" s_weights a_weights d_weights
  g_weights : mg "weights" = some (.ref a_weights)
  a_is_element : Addr
  d_is_element : FuncData
  F_is_element : Fun K "is_element" "is_element" s_is_element a_is_element d_is_element
  g_is_element : mg "is_element" = some (.ref a_is_element)
  a_place_there : Addr
  d_place_there : FuncData
  F_place_there : Fun K "place_there" "place_there" s_place_there a_place_there d_place_there
  g_place_there : mg "place_there" = some (.ref a_place_there)
  a_is_range : Addr
  d_is_range : FuncData
  F_is_range : Fun K "is_range" "is_range" s_is_range a_is_range d_is_range
  g_is_range : mg "is_range" = some (.ref a_is_range)
  a_is_variable : Addr
  d_is_variable : FuncData
  F_is_variable : Fun K "is_variable" "is_variable" s_is_variable a_is_variable d_is_variable
  g_is_variable : mg "is_variable" = some (.ref a_is_variable)
  a_names_of : Addr
  d_names_of : FuncData
  F_names_of : Fun K "names_of" "names_of" s_names_of a_names_of d_names_of
  g_names_of : mg "names_of" = some (.ref a_names_of)
  a_are_variables : Addr
  d_are_variables : FuncData
  F_are_variables : Fun K "are_variables" "are_variables" s_are_variables a_are_variables d_are_variables
  g_are_variables : mg "are_variables" = some (.ref a_are_variables)
  a_sizes_and_bounds : Addr
  d_sizes_and_bounds : FuncData
  F_sizes_and_bounds : Fun K "sizes_and_bounds" "sizes_and_bounds" s_sizes_and_bounds a_sizes_and_bounds d_sizes_and_bounds
  g_sizes_and_bounds : mg "sizes_and_bounds" = some (.ref a_sizes_and_bounds)
  a_is_member : Addr
  d_is_member : FuncData
  F_is_member : Fun K "is_member" "is_member" s_is_member a_is_member d_is_member
  g_is_member : mg "is_member" = some (.ref a_is_member)
  a_is_row : Addr
  d_is_row : FuncData
  F_is_row : Fun K "is_row" "is_row" s_is_row a_is_row d_is_row
  g_is_row : mg "is_row" = some (.ref a_is_row)
  a_are_rows : Addr
  d_are_rows : FuncData
  F_are_rows : Fun K "are_rows" "are_rows" s_are_rows a_are_rows d_are_rows
  g_are_rows : mg "are_rows" = some (.ref a_are_rows)
  a_check_variables : Addr
  d_check_variables : FuncData
  F_check_variables : Fun K "check_variables" "check_variables" s_check_variables a_check_variables d_check_variables
  g_check_variables : mg "check_variables" = some (.ref a_check_variables)
  a_check_rows : Addr
  d_check_rows : FuncData
  F_check_rows : Fun K "check_rows" "check_rows" s_check_rows a_check_rows d_check_rows
  g_check_rows : mg "check_rows" = some (.ref a_check_rows)
  a_check_layout : Addr
  d_check_layout : FuncData
  F_check_layout : Fun K "check_layout" "check_layout" s_check_layout a_check_layout d_check_layout
  g_check_layout : mg "check_layout" = some (.ref a_check_layout)
  a_units_ahead : Addr
  d_units_ahead : FuncData
  F_units_ahead : Fun K "units_ahead" "units_ahead" s_units_ahead a_units_ahead d_units_ahead
  g_units_ahead : mg "units_ahead" = some (.ref a_units_ahead)
  a_lines_of : Addr
  d_lines_of : FuncData
  F_lines_of : Fun K "lines_of" "lines_of" s_lines_of a_lines_of d_lines_of
  g_lines_of : mg "lines_of" = some (.ref a_lines_of)
  a_stretches_of : Addr
  d_stretches_of : FuncData
  F_stretches_of : Fun K "stretches_of" "stretches_of" s_stretches_of a_stretches_of d_stretches_of
  g_stretches_of : mg "stretches_of" = some (.ref a_stretches_of)
  a_end_of : Addr
  d_end_of : FuncData
  F_end_of : Fun K "end_of" "end_of" s_end_of a_end_of d_end_of
  g_end_of : mg "end_of" = some (.ref a_end_of)
  a_shared_units : Addr
  d_shared_units : FuncData
  F_shared_units : Fun K "shared_units" "shared_units" s_shared_units a_shared_units d_shared_units
  g_shared_units : mg "shared_units" = some (.ref a_shared_units)
  a_touched_by : Addr
  d_touched_by : FuncData
  F_touched_by : Fun K "touched_by" "touched_by" s_touched_by a_touched_by d_touched_by
  g_touched_by : mg "touched_by" = some (.ref a_touched_by)
  a_begins_within : Addr
  d_begins_within : FuncData
  F_begins_within : Fun K "begins_within" "begins_within" s_begins_within a_begins_within d_begins_within
  g_begins_within : mg "begins_within" = some (.ref a_begins_within)
  a_check_name : Addr
  d_check_name : FuncData
  F_check_name : Fun K "check_name" "check_name" s_check_name a_check_name d_check_name
  g_check_name : mg "check_name" = some (.ref a_check_name)
  a_check_number : Addr
  d_check_number : FuncData
  F_check_number : Fun K "check_number" "check_number" s_check_number a_check_number d_check_number
  g_check_number : mg "check_number" = some (.ref a_check_number)
  a_two_stretches : Addr
  d_two_stretches : FuncData
  F_two_stretches : Fun K "two_stretches" "two_stretches" s_two_stretches a_two_stretches d_two_stretches
  g_two_stretches : mg "two_stretches" = some (.ref a_two_stretches)
  a_in_order : Addr
  d_in_order : FuncData
  F_in_order : Fun K "in_order" "in_order" s_in_order a_in_order d_in_order
  g_in_order : mg "in_order" = some (.ref a_in_order)
  a_offsets : Addr
  d_offsets : FuncData
  F_offsets : Fun K "offsets" "offsets" s_offsets a_offsets d_offsets
  g_offsets : mg "offsets" = some (.ref a_offsets)
  a_are_bases : Addr
  d_are_bases : FuncData
  F_are_bases : Fun K "are_bases" "are_bases" s_are_bases a_are_bases d_are_bases
  g_are_bases : mg "are_bases" = some (.ref a_are_bases)
  a_shared : Addr
  d_shared : FuncData
  F_shared : Fun K "shared" "shared" s_shared a_shared d_shared
  g_shared : mg "shared" = some (.ref a_shared)
  a_touched : Addr
  d_touched : FuncData
  F_touched : Fun K "touched" "touched" s_touched a_touched d_touched
  g_touched : mg "touched" = some (.ref a_touched)
  a_pairs_number : Addr
  d_pairs_number : FuncData
  F_pairs_number : Fun K "pairs_number" "pairs_number" s_pairs_number a_pairs_number d_pairs_number
  g_pairs_number : mg "pairs_number" = some (.ref a_pairs_number)
  a_twins_number : Addr
  d_twins_number : FuncData
  F_twins_number : Fun K "twins_number" "twins_number" s_twins_number a_twins_number d_twins_number
  g_twins_number : mg "twins_number" = some (.ref a_twins_number)
  a_w_draw : Addr
  d_w_draw : FuncData
  F_w_draw : Fun K "_law_draw" "_law_draw" s_w_draw a_w_draw d_w_draw
  g_w_draw : mg "_law_draw" = some (.ref a_w_draw)
  a_w_pick : Addr
  d_w_pick : FuncData
  F_w_pick : Fun K "_law_pick" "_law_pick" s_w_pick a_w_pick d_w_pick
  g_w_pick : mg "_law_pick" = some (.ref a_w_pick)
  a_w_far : Addr
  d_w_far : FuncData
  F_w_far : Fun K "_law_far" "_law_far" s_w_far a_w_far d_w_far
  g_w_far : mg "_law_far" = some (.ref a_w_far)
  a_w_bounds : Addr
  d_w_bounds : FuncData
  F_w_bounds : Fun K "_law_bounds" "_law_bounds" s_w_bounds a_w_bounds d_w_bounds
  g_w_bounds : mg "_law_bounds" = some (.ref a_w_bounds)
  a_w_ahead : Addr
  d_w_ahead : FuncData
  F_w_ahead : Fun K "_law_ahead" "_law_ahead" s_w_ahead a_w_ahead d_w_ahead
  g_w_ahead : mg "_law_ahead" = some (.ref a_w_ahead)
  a_w_units : Addr
  d_w_units : FuncData
  F_w_units : Fun K "_law_units" "_law_units" s_w_units a_w_units d_w_units
  g_w_units : mg "_law_units" = some (.ref a_w_units)
  a_w_spot : Addr
  d_w_spot : FuncData
  F_w_spot : Fun K "_law_spot" "_law_spot" s_w_spot a_w_spot d_w_spot
  g_w_spot : mg "_law_spot" = some (.ref a_w_spot)
  a_w_cut : Addr
  d_w_cut : FuncData
  F_w_cut : Fun K "_law_cut" "_law_cut" s_w_cut a_w_cut d_w_cut
  g_w_cut : mg "_law_cut" = some (.ref a_w_cut)
  a_w_pairs : Addr
  d_w_pairs : FuncData
  F_w_pairs : Fun K "_law_pairs" "_law_pairs" s_w_pairs a_w_pairs d_w_pairs
  g_w_pairs : mg "_law_pairs" = some (.ref a_w_pairs)
  a_w_right : Addr
  d_w_right : FuncData
  F_w_right : Fun K "_law_right" "_law_right" s_w_right a_w_right d_w_right
  g_w_right : mg "_law_right" = some (.ref a_w_right)
  a_w_well : Addr
  d_w_well : FuncData
  F_w_well : Fun K "_law_well" "_law_well" s_w_well a_w_well d_w_well
  g_w_well : mg "_law_well" = some (.ref a_w_well)
  a_law : Addr
  d_law : FuncData
  F_law : Fun K "law" "law" s_law a_law d_law
  g_law : mg "law" = some (.ref a_law)
  z_int : mg "int" = none
  z_isinstance : mg "isinstance" = none
  z_bool : mg "bool" = none
  z_str : mg "str" = none
  z_len : mg "len" = none
  z_all : mg "all" = none
  z_list : mg "list" = none
  z_tuple : mg "tuple" = none
  z_max : mg "max" = none
  z_min : mg "min" = none
  z_zip : mg "zip" = none
  z_sum : mg "sum" = none
  z_set : mg "set" = none
  z_enumerate : mg "enumerate" = none
  z_range : mg "range" = none
  z_sorted : mg "sorted" = none
  z_abs : mg "abs" = none
  t_FAR : Tok
  c_FAR : mg "FAR" = some (.int 1000000000000000000000000000000 t_FAR)
  t_LETTERS_parts : Tok
  c_LETTERS_parts : mg "LETTERS_parts" = some (.str "abcdefghijklmnopqrstuvwxyz" t_LETTERS_parts)
  t_LETTERS_sharing : Tok
  c_LETTERS_sharing : mg "LETTERS_sharing" = some (.int 8 t_LETTERS_sharing)
  t_UNITS : Tok
  c_UNITS : mg "UNITS" = some (.int 16 t_UNITS)
  t_DIMENSIONS : Tok
  c_DIMENSIONS : mg "DIMENSIONS" = some (.int 7 t_DIMENSIONS)
  t_VARIABLES : Tok
  c_VARIABLES : mg "VARIABLES" = some (.int 40 t_VARIABLES)
  t_MEMBERS : Tok
  c_MEMBERS : mg "MEMBERS" = some (.int 10 t_MEMBERS)
  t_ROWS : Tok
  c_ROWS : mg "ROWS" = some (.int 40 t_ROWS)
section
variable {P : Program} {w : World} {K : PySem.W.Frag} {mg : Str → Option Value} {base : Heap}
theorem b_is_number (T : Txt K mg) : Binds K T.d_is_number ["value"] [] := T.F_is_number.binds fun _ _ _ _ _ _ us hl => match us, hl with | [_], _ => rfl
theorem b_is_far (T : Txt K mg) : Binds K T.d_is_far ["value"] [] := T.F_is_far.binds fun _ _ _ _ _ _ us hl => match us, hl with | [_], _ => rfl
theorem b_is_name (T : Txt K mg) : Binds K T.d_is_name ["value", "most"] [] := T.F_is_name.binds fun _ _ _ _ _ _ us hl => match us, hl with | [_, _], _ => rfl
theorem b_many_of (T : Txt K mg) : Binds K T.d_many_of ["part"] [] := T.F_many_of.binds fun _ _ _ _ _ _ us hl => match us, hl with | [_], _ => rfl
theorem b_subscript_of (T : Txt K mg) : Binds K T.d_subscript_of ["part", "index"] [] := T.F_subscript_of.binds fun _ _ _ _ _ _ us hl => match us, hl with | [_, _], _ => rfl
theorem b_last_of (T : Txt K mg) : Binds K T.d_last_of ["part"] [] := T.F_last_of.binds fun _ _ _ _ _ _ us hl => match us, hl with | [_], _ => rfl
theorem b_upward (T : Txt K mg) : Binds K T.d_upward ["triplet"] [] := T.F_upward.binds fun _ _ _ _ _ _ us hl => match us, hl with | [_], _ => rfl
theorem b_normal_of (T : Txt K mg) : Binds K T.d_normal_of ["triplet"] [] := T.F_normal_of.binds fun _ _ _ _ _ _ us hl => match us, hl with | [_], _ => rfl
theorem b_divisor_and_factor (T : Txt K mg) : Binds K T.d_divisor_and_factor ["number", "modulus"] [] := T.F_divisor_and_factor.binds fun _ _ _ _ _ _ us hl => match us, hl with | [_, _], _ => rfl
theorem b_met_of (T : Txt K mg) : Binds K T.d_met_of ["triplet", "other"] [] := T.F_met_of.binds fun _ _ _ _ _ _ us hl => match us, hl with | [_, _], _ => rfl
theorem b_seats_apart (T : Txt K mg) : Binds K T.d_seats_apart ["names"] [] := T.F_seats_apart.binds fun _ _ _ _ _ _ us hl => match us, hl with | [_], _ => rfl
theorem b_seats_behind (T : Txt K mg) : Binds K T.d_seats_behind ["seats", "members"] [] := T.F_seats_behind.binds fun _ _ _ _ _ _ us hl => match us, hl with | [_, _], _ => rfl
theorem b_seats_by (T : Txt K mg) : Binds K T.d_seats_by ["names", "lines"] [] := T.F_seats_by.binds fun _ _ _ _ _ _ us hl => match us, hl with | [_, _], _ => rfl
theorem b_all_extents (T : Txt K mg) : Binds K T.d_all_extents ["bounds"] [] := T.F_all_extents.binds fun _ _ _ _ _ _ us hl => match us, hl with | [_], _ => rfl
theorem b_multiplied (T : Txt K mg) : Binds K T.d_multiplied ["numbers"] [] := T.F_multiplied.binds fun _ _ _ _ _ _ us hl => match us, hl with | [_], _ => rfl
theorem b_size_of (T : Txt K mg) : Binds K T.d_size_of ["bounds"] [] := T.F_size_of.binds fun _ _ _ _ _ _ us hl => match us, hl with | [_], _ => rfl
theorem b_weights (T : Txt K mg) : Binds K T.d_weights ["bounds"] [] := T.F_weights.binds fun _ _ _ _ _ _ us hl => match us, hl with | [_], _ => rfl
theorem b_is_element (T : Txt K mg) : Binds K T.d_is_element ["bounds", "value"] [] := T.F_is_element.binds fun _ _ _ _ _ _ us hl => match us, hl with | [_, _], _ => rfl
theorem b_place_there (T : Txt K mg) : Binds K T.d_place_there ["bounds", "element"] [] := T.F_place_there.binds fun _ _ _ _ _ _ us hl => match us, hl with | [_, _], _ => rfl
theorem b_is_range (T : Txt K mg) : Binds K T.d_is_range ["value"] [] := T.F_is_range.binds fun _ _ _ _ _ _ us hl => match us, hl with | [_], _ => rfl
theorem b_is_variable (T : Txt K mg) : Binds K T.d_is_variable ["value"] [] := T.F_is_variable.binds fun _ _ _ _ _ _ us hl => match us, hl with | [_], _ => rfl
theorem b_names_of (T : Txt K mg) : Binds K T.d_names_of ["variables"] [] := T.F_names_of.binds fun _ _ _ _ _ _ us hl => match us, hl with | [_], _ => rfl
theorem b_are_variables (T : Txt K mg) : Binds K T.d_are_variables ["value"] [] := T.F_are_variables.binds fun _ _ _ _ _ _ us hl => match us, hl with | [_], _ => rfl
theorem b_sizes_and_bounds (T : Txt K mg) : Binds K T.d_sizes_and_bounds ["variables"] [] := T.F_sizes_and_bounds.binds fun _ _ _ _ _ _ us hl => match us, hl with | [_], _ => rfl
theorem b_is_member (T : Txt K mg) : Binds K T.d_is_member ["table", "value"] [] := T.F_is_member.binds fun _ _ _ _ _ _ us hl => match us, hl with | [_, _], _ => rfl
theorem b_is_row (T : Txt K mg) : Binds K T.d_is_row ["table", "value"] [] := T.F_is_row.binds fun _ _ _ _ _ _ us hl => match us, hl with | [_, _], _ => rfl
theorem b_are_rows (T : Txt K mg) : Binds K T.d_are_rows ["variables", "value"] [] := T.F_are_rows.binds fun _ _ _ _ _ _ us hl => match us, hl with | [_, _], _ => rfl
theorem b_check_variables (T : Txt K mg) : Binds K T.d_check_variables ["variables"] [] := T.F_check_variables.binds fun _ _ _ _ _ _ us hl => match us, hl with | [_], _ => rfl
theorem b_check_rows (T : Txt K mg) : Binds K T.d_check_rows ["variables", "rows"] [] := T.F_check_rows.binds fun _ _ _ _ _ _ us hl => match us, hl with | [_, _], _ => rfl
theorem b_check_layout (T : Txt K mg) : Binds K T.d_check_layout ["variables", "rows"] [] := T.F_check_layout.binds fun _ _ _ _ _ _ us hl => match us, hl with | [_, _], _ => rfl
theorem b_units_ahead (T : Txt K mg) : Binds K T.d_units_ahead ["kind", "subscripts"] [] := T.F_units_ahead.binds fun _ _ _ _ _ _ us hl => match us, hl with | [_, _], _ => rfl
theorem b_lines_of (T : Txt K mg) : Binds K T.d_lines_of ["variables", "rows"] [] := T.F_lines_of.binds fun _ _ _ _ _ _ us hl => match us, hl with | [_, _], _ => rfl
theorem b_stretches_of (T : Txt K mg) : Binds K T.d_stretches_of ["variables", "seats"] [] := T.F_stretches_of.binds fun _ _ _ _ _ _ us hl => match us, hl with | [_, _], _ => rfl
theorem b_end_of (T : Txt K mg) : Binds K T.d_end_of ["stretch"] [] := T.F_end_of.binds fun _ _ _ _ _ _ us hl => match us, hl with | [_], _ => rfl
theorem b_shared_units (T : Txt K mg) : Binds K T.d_shared_units ["stretch", "other"] [] := T.F_shared_units.binds fun _ _ _ _ _ _ us hl => match us, hl with | [_, _], _ => rfl
theorem b_touched_by (T : Txt K mg) : Binds K T.d_touched_by ["stretch", "number", "other"] [] := T.F_touched_by.binds fun _ _ _ _ _ _ us hl => match us, hl with | [_, _, _], _ => rfl
theorem b_begins_within (T : Txt K mg) : Binds K T.d_begins_within ["stretch", "both"] [] := T.F_begins_within.binds fun _ _ _ _ _ _ us hl => match us, hl with | [_, _], _ => rfl
theorem b_check_name (T : Txt K mg) : Binds K T.d_check_name ["stretches", "value", "part"] [] := T.F_check_name.binds fun _ _ _ _ _ _ us hl => match us, hl with | [_, _, _], _ => rfl
theorem b_check_number (T : Txt K mg) : Binds K T.d_check_number ["stretch", "value"] [] := T.F_check_number.binds fun _ _ _ _ _ _ us hl => match us, hl with | [_, _], _ => rfl
theorem b_two_stretches (T : Txt K mg) : Binds K T.d_two_stretches ["variables", "rows", "one", "other"] [] := T.F_two_stretches.binds fun _ _ _ _ _ _ us hl => match us, hl with | [_, _, _, _], _ => rfl
theorem b_in_order (T : Txt K mg) : Binds K T.d_in_order ["names", "seats"] [] := T.F_in_order.binds fun _ _ _ _ _ _ us hl => match us, hl with | [_, _], _ => rfl
theorem b_offsets (T : Txt K mg) : Binds K T.d_offsets ["variables", "rows"] [] := T.F_offsets.binds fun _ _ _ _ _ _ us hl => match us, hl with | [_, _], _ => rfl
theorem b_are_bases (T : Txt K mg) : Binds K T.d_are_bases ["variables", "rows", "thing"] [] := T.F_are_bases.binds fun _ _ _ _ _ _ us hl => match us, hl with | [_, _, _], _ => rfl
theorem b_shared (T : Txt K mg) : Binds K T.d_shared ["variables", "rows", "one", "other"] [] := T.F_shared.binds fun _ _ _ _ _ _ us hl => match us, hl with | [_, _, _, _], _ => rfl
theorem b_touched (T : Txt K mg) : Binds K T.d_touched ["variables", "rows", "one", "number", "other"] [] := T.F_touched.binds fun _ _ _ _ _ _ us hl => match us, hl with | [_, _, _, _, _], _ => rfl
theorem b_pairs_number (T : Txt K mg) : Binds K T.d_pairs_number ["variables", "rows", "one", "other"] [] := T.F_pairs_number.binds fun _ _ _ _ _ _ us hl => match us, hl with | [_, _, _, _], _ => rfl
theorem b_twins_number (T : Txt K mg) : Binds K T.d_twins_number ["variables", "rows", "one", "other"] [] := T.F_twins_number.binds fun _ _ _ _ _ _ us hl => match us, hl with | [_, _, _, _], _ => rfl
theorem b_w_draw (T : Txt K mg) : Binds K T.d_w_draw ["_law_well_here", "_law_many"] [] := T.F_w_draw.binds fun _ _ _ _ _ _ us hl => match us, hl with | [_, _], _ => rfl
theorem b_w_pick (T : Txt K mg) : Binds K T.d_w_pick ["_law_well_here", "_law_some"] [] := T.F_w_pick.binds fun _ _ _ _ _ _ us hl => match us, hl with | [_, _], _ => rfl
theorem b_w_far (T : Txt K mg) : Binds K T.d_w_far ["_law_well_here"] [] := T.F_w_far.binds fun _ _ _ _ _ _ us hl => match us, hl with | [_], _ => rfl
theorem b_w_bounds (T : Txt K mg) : Binds K T.d_w_bounds ["_law_well_here"] [] := T.F_w_bounds.binds fun _ _ _ _ _ _ us hl => match us, hl with | [_], _ => rfl
theorem b_w_ahead (T : Txt K mg) : Binds K T.d_w_ahead ["_law_part", "_law_subscripts"] [] := T.F_w_ahead.binds fun _ _ _ _ _ _ us hl => match us, hl with | [_, _], _ => rfl
theorem b_w_units (T : Txt K mg) : Binds K T.d_w_units ["_law_part"] [] := T.F_w_units.binds fun _ _ _ _ _ _ us hl => match us, hl with | [_], _ => rfl
theorem b_w_spot (T : Txt K mg) : Binds K T.d_w_spot ["_law_well_here", "_law_part"] [] := T.F_w_spot.binds fun _ _ _ _ _ _ us hl => match us, hl with | [_, _], _ => rfl
theorem b_w_cut (T : Txt K mg) : Binds K T.d_w_cut ["_law_begin", "_law_size", "_law_low", "_law_high"] [] := T.F_w_cut.binds fun _ _ _ _ _ _ us hl => match us, hl with | [_, _, _, _], _ => rfl
theorem b_w_pairs (T : Txt K mg) : Binds K T.d_w_pairs ["_law_mine", "_law_its", "_law_low", "_law_high"] [] := T.F_w_pairs.binds fun _ _ _ _ _ _ us hl => match us, hl with | [_, _, _, _], _ => rfl
theorem b_w_right (T : Txt K mg) : Binds K T.d_w_right ["_law_well_here"] [] := T.F_w_right.binds fun _ _ _ _ _ _ us hl => match us, hl with | [_], _ => rfl
theorem b_w_well (T : Txt K mg) : Binds K T.d_w_well ["_law_cell"] [] := T.F_w_well.binds fun _ _ _ _ _ _ us hl => match us, hl with | [_], _ => rfl
theorem b_law (T : Txt K mg) : Binds K T.d_law ["_law_script"] [] := T.F_law.binds fun _ _ _ _ _ _ us hl => match us, hl with | [_], _ => rfl
def B_is_number : DS := (sRet (eAnd (eCB fIsi (aCons (eVar 0) (aCons (eC (.ty "int")) aNil))) (eNot (eCB fIsi (aCons (eVar 0) (aCons (eC (.ty "bool")) aNil))))))
def F_is_number : DF := runB 1 1 B_is_number
theorem d_is_number (T : Txt K mg) : FnD P w K mg base 1 T.a_is_number T.d_is_number P_is_number F_is_number := fnD T.F_is_number sc_is_number (by decide) B_is_number (fun cdv A outer s H E hr => (sd_one (sd_ret (pd_and (pd_cb call_isiA cd_isi (by rfl) T.z_isinstance (by decide +kernel) (ad_cons (pd_var 0) (ad_cons (pd_ty (by rfl) T.z_int (by decide +kernel)) ad_nil))) (pd_one (pd_not (pd_cb call_isiA cd_isi (by rfl) T.z_isinstance (by decide +kernel) (ad_cons (pd_var 0) (ad_cons (pd_ty (by rfl) T.z_bool (by decide +kernel)) ad_nil)))))))))
def B_is_far : DS := (sRet (eAnd (eCall 1 F_is_number (aCons (eVar 0) aNil)) (eChain fLe fLe (eUn fNeg (eC (.int 1000000000000000000000000000000))) (eVar 0) (eC (.int 1000000000000000000000000000000)))))
def F_is_far : DF := runB 1 1 B_is_far
theorem d_is_far (T : Txt K mg) : FnD P w K mg base 2 T.a_is_far T.d_is_far P_is_far F_is_far := fnD T.F_is_far sc_is_far (by decide) B_is_far (fun cdv A outer s H E hr => (sd_one (sd_ret (pd_and (by refine pd_call (k := 1) (f := T.a_is_number) (fd := T.d_is_number) (ps := P_is_number) (F := F_is_number) ?_ ?_ ?_ ?_ ?_ ?_ ?_ ?_; exact d_is_number T; exact hr.mono (by decide); exact rfl; exact T.g_is_number; exact T.F_is_number.kp; exact b_is_number T; exact (wok_takes (takes_of rfl rfl rfl rfl)); exact (ad_cons (pd_var 0) ad_nil)) (pd_one (pd_chain op_le op_le opd_cmp opd_cmp (pd_neg (pd_globI (by rfl) T.c_FAR)) (pd_var 0) (pd_globI (by rfl) T.c_FAR)))))))
def B_is_name : DS := (sSeq (sIf (tOn (tNo (tTr (eCB fIsi (aCons (eVar 0) (aCons (eC (.ty "str")) aNil))))) (tNo (tE (eChain fLe fLe (eC (.int 1)) (eCB fLen (aCons (eVar 0) aNil)) (eVar 1))))) (sRet (eC (.bl false))) sNx) (sRet (eCB fAll (aCons (eL (aLc (iStrD (eVar 0)) (gN 2) tYesD (eBin fInC (eVar 2) (eC (.str "abcdefghijklmnopqrstuvwxyz"))) [2])) aNil))))
def F_is_name : DF := runB 3 2 B_is_name
theorem d_is_name (T : Txt K mg) : FnD P w K mg base 1 T.a_is_name T.d_is_name P_is_name F_is_name := fnD T.F_is_name sc_is_name (by decide) B_is_name (fun cdv A outer s H E hr => (sd_cons (sd_if (qd_or (qd_not (qd_tr (pd_cb call_isiA cd_isi (by rfl) T.z_isinstance (by decide +kernel) (ad_cons (pd_var 0) (ad_cons (pd_ty (by rfl) T.z_str (by decide +kernel)) ad_nil))))) (qd_or1 (qd_not (qd_chain op_le op_le opd_cmp opd_cmp pd_int (pd_cb call_len cd_len (by rfl) T.z_len (by decide +kernel) (ad_cons (pd_var 0) ad_nil)) (pd_var 1))))).pt (sd_one (sd_ret pd_bl)) sd_nil) (sd_one (sd_ret (pd_cb (cr_all rfl) cd_all (by rfl) T.z_all (by decide +kernel) (ad_cons (pd_L (pl_lc (own := [("letter", 2)]) rfl sc_is_name.nd (id_str (pd_var 0)) (blkOk_by (own := [("letter", 2)]) (N := N_is_name) (sc := defScope s_is_name) (by decide +kernel)) (fun _ _ _ _ _ => (gd_name (i := 2) sc_is_name.nd rfl (Or.inl rfl) (by decide))) (fun _ _ _ _ _ => td_nil) (fun _ _ _ _ _ => (pd_inC (pd_var 2) (pd_globS (by rfl) T.c_LETTERS_parts))))) ad_nil))))))
def B_many_of : DS := (sSeq (sIf (tTr (eCB fIsi (aCons (eVar 0) (aCons (eC (.ty "list")) aNil)))) (sRet (eCB fLen (aCons (eVar 0) aNil))) sNx) (sSeq (sIf (tTr (eCB fIsi (aCons (eVar 0) (aCons (eC (.ty "tuple")) aNil)))) (sSeq (sTg (gT (gCons' (gN 1) (gCons' (gN 2) (gCons' (gN 3) gNil'))) 3) (eVar 0)) (sRet (eCB fMax2 (aCons (eC (.int 0)) (aCons (eBin fDiv (eBin fAdd (eBin fSub (eVar 2) (eVar 1)) (eVar 3)) (eVar 3)) aNil))))) sNx) (sRet (eC (.int 1)))))
def F_many_of : DF := runB 4 1 B_many_of
theorem d_many_of (T : Txt K mg) : FnD P w K mg base 1 T.a_many_of T.d_many_of P_many_of F_many_of := fnD T.F_many_of sc_many_of (by decide) B_many_of (fun cdv A outer s H E hr => (sd_cons (sd_if (qd_tr (pd_cb call_isiA cd_isi (by rfl) T.z_isinstance (by decide +kernel) (ad_cons (pd_var 0) (ad_cons (pd_ty (by rfl) T.z_list (by decide +kernel)) ad_nil)))) (sd_one (sd_ret (pd_cb call_len cd_len (by rfl) T.z_len (by decide +kernel) (ad_cons (pd_var 0) ad_nil)))) sd_nil) (sd_cons (sd_if (qd_tr (pd_cb call_isiA cd_isi (by rfl) T.z_isinstance (by decide +kernel) (ad_cons (pd_var 0) (ad_cons (pd_ty (by rfl) T.z_tuple (by decide +kernel)) ad_nil)))) (sd_cons (sd_tg (vs := [1, 2, 3]) (ps_asg (pd_var 0) (gd_tup rfl (gd_cons (gd_name (i := 1) sc_many_of.nd rfl (Or.inl rfl) (by decide)) (gd_cons (gd_name (i := 2) sc_many_of.nd rfl (Or.inl rfl) (by decide)) (gd_cons (gd_name (i := 3) sc_many_of.nd rfl (Or.inl rfl) (by decide)) gd_nil)))))) (sd_one (sd_ret (pd_cb (call_max2 rfl) cd_max2 (by rfl) T.z_max (by decide +kernel) (ad_cons pd_int (ad_cons (pd_div (pd_add (pd_sub (pd_var 2) (pd_var 1)) (pd_var 3)) (pd_var 3)) ad_nil)))))) sd_nil) (sd_one (sd_ret pd_int)))))
def B_subscript_of : DS := (sSeq (sIf (tTr (eCB fIsi (aCons (eVar 0) (aCons (eC (.ty "list")) aNil)))) (sRet (eBin fIx (eVar 0) (eVar 1))) sNx) (sSeq (sIf (tTr (eCB fIsi (aCons (eVar 0) (aCons (eC (.ty "tuple")) aNil)))) (sRet (eBin fAdd (eBin fIx (eVar 0) (eC (.int 0))) (eBin fMul (eVar 1) (eBin fIx (eVar 0) (eC (.int 2)))))) sNx) (sRet (eVar 0))))
def F_subscript_of : DF := runB 2 2 B_subscript_of
theorem d_subscript_of (T : Txt K mg) : FnD P w K mg base 1 T.a_subscript_of T.d_subscript_of P_subscript_of F_subscript_of := fnD T.F_subscript_of sc_subscript_of (by decide) B_subscript_of (fun cdv A outer s H E hr => (sd_cons (sd_if (qd_tr (pd_cb call_isiA cd_isi (by rfl) T.z_isinstance (by decide +kernel) (ad_cons (pd_var 0) (ad_cons (pd_ty (by rfl) T.z_list (by decide +kernel)) ad_nil)))) (sd_one (sd_ret (pd_ix (pd_var 0) (pd_var 1)))) sd_nil) (sd_cons (sd_if (qd_tr (pd_cb call_isiA cd_isi (by rfl) T.z_isinstance (by decide +kernel) (ad_cons (pd_var 0) (ad_cons (pd_ty (by rfl) T.z_tuple (by decide +kernel)) ad_nil)))) (sd_one (sd_ret (pd_add (pd_ix (pd_var 0) pd_int) (pd_mul (pd_var 1) (pd_ix (pd_var 0) pd_int))))) sd_nil) (sd_one (sd_ret (pd_var 0))))))
def B_last_of : DS := (sRet (eCall 2 F_subscript_of (aCons (eVar 0) (aCons (eBin fSub (eCall 1 F_many_of (aCons (eVar 0) aNil)) (eC (.int 1))) aNil))))
def F_last_of : DF := runB 1 1 B_last_of
theorem d_last_of (T : Txt K mg) : FnD P w K mg base 2 T.a_last_of T.d_last_of P_last_of F_last_of := fnD T.F_last_of sc_last_of (by decide) B_last_of (fun cdv A outer s H E hr => (sd_one (sd_ret (by refine pd_call (k := 1) (f := T.a_subscript_of) (fd := T.d_subscript_of) (ps := P_subscript_of) (F := F_subscript_of) ?_ ?_ ?_ ?_ ?_ ?_ ?_ ?_; exact d_subscript_of T; exact hr.mono (by decide); exact rfl; exact T.g_subscript_of; exact T.F_subscript_of.kp; exact b_subscript_of T; exact (wok_takes (takes_of rfl rfl rfl rfl)); exact (ad_cons (pd_var 0) (ad_cons (pd_sub (by refine pd_call (k := 1) (f := T.a_many_of) (fd := T.d_many_of) (ps := P_many_of) (F := F_many_of) ?_ ?_ ?_ ?_ ?_ ?_ ?_ ?_; exact d_many_of T; exact hr.mono (by decide); exact rfl; exact T.g_many_of; exact T.F_many_of.kp; exact b_many_of T; exact (wok_takes (takes_of rfl rfl rfl rfl)); exact (ad_cons (pd_var 0) ad_nil)) pd_int) ad_nil))))))
def B_upward : DS := (sSeq (sIf (tE (eBin fGt (eBin fIx (eVar 0) (eC (.int 2))) (eC (.int 0)))) (sRet (eTup (aCons (eBin fIx (eVar 0) (eC (.int 0))) (aCons (eCall 1 F_last_of (aCons (eVar 0) aNil)) (aCons (eBin fIx (eVar 0) (eC (.int 2))) aNil))))) sNx) (sRet (eTup (aCons (eCall 1 F_last_of (aCons (eVar 0) aNil)) (aCons (eBin fIx (eVar 0) (eC (.int 0))) (aCons (eUn fNeg (eBin fIx (eVar 0) (eC (.int 2)))) aNil))))))
def F_upward : DF := runB 1 1 B_upward
theorem d_upward (T : Txt K mg) : FnD P w K mg base 3 T.a_upward T.d_upward P_upward F_upward := fnD T.F_upward sc_upward (by decide) B_upward (fun cdv A outer s H E hr => (sd_cons (sd_if (qd_gt (pd_ix (pd_var 0) pd_int) pd_int) (sd_one (sd_ret (pd_tup (ad_cons (pd_ix (pd_var 0) pd_int) (ad_cons (by refine pd_call (k := 2) (f := T.a_last_of) (fd := T.d_last_of) (ps := P_last_of) (F := F_last_of) ?_ ?_ ?_ ?_ ?_ ?_ ?_ ?_; exact d_last_of T; exact hr.mono (by decide); exact rfl; exact T.g_last_of; exact T.F_last_of.kp; exact b_last_of T; exact (wok_takes (takes_of rfl rfl rfl rfl)); exact (ad_cons (pd_var 0) ad_nil)) (ad_cons (pd_ix (pd_var 0) pd_int) ad_nil)))))) sd_nil) (sd_one (sd_ret (pd_tup (ad_cons (by refine pd_call (k := 2) (f := T.a_last_of) (fd := T.d_last_of) (ps := P_last_of) (F := F_last_of) ?_ ?_ ?_ ?_ ?_ ?_ ?_ ?_; exact d_last_of T; exact hr.mono (by decide); exact rfl; exact T.g_last_of; exact T.F_last_of.kp; exact b_last_of T; exact (wok_takes (takes_of rfl rfl rfl rfl)); exact (ad_cons (pd_var 0) ad_nil)) (ad_cons (pd_ix (pd_var 0) pd_int) (ad_cons (pd_neg (pd_ix (pd_var 0) pd_int)) ad_nil))))))))
def B_normal_of : DS := (sSeq (sAsg 1 (eCall 1 F_many_of (aCons (eVar 0) aNil))) (sSeq (sIf (tE (eBin fEq (eVar 1) (eC (.int 0)))) (sRet (eTup (aCons (eC (.int 0)) (aCons (eUn fNeg (eC (.int 1))) (aCons (eC (.int 1)) aNil))))) sNx) (sSeq (sIf (tE (eBin fEq (eVar 1) (eC (.int 1)))) (sRet (eTup (aCons (eBin fIx (eVar 0) (eC (.int 0))) (aCons (eBin fIx (eVar 0) (eC (.int 0))) (aCons (eC (.int 1)) aNil))))) sNx) (sRet (eCall 1 F_upward (aCons (eVar 0) aNil))))))
def F_normal_of : DF := runB 2 1 B_normal_of
theorem d_normal_of (T : Txt K mg) : FnD P w K mg base 4 T.a_normal_of T.d_normal_of P_normal_of F_normal_of := fnD T.F_normal_of sc_normal_of (by decide) B_normal_of (fun cdv A outer s H E hr => (sd_cons (sd_asg (ps_set (i := 1) sc_normal_of.nd rfl (Or.inl rfl) (by refine pd_call (k := 1) (f := T.a_many_of) (fd := T.d_many_of) (ps := P_many_of) (F := F_many_of) ?_ ?_ ?_ ?_ ?_ ?_ ?_ ?_; exact d_many_of T; exact hr.mono (by decide); exact rfl; exact T.g_many_of; exact T.F_many_of.kp; exact b_many_of T; exact (wok_takes (takes_of rfl rfl rfl rfl)); exact (ad_cons (pd_var 0) ad_nil)))) (sd_cons (sd_if (qd_eq hr.units (pd_var 1) pd_int) (sd_one (sd_ret (pd_tup (ad_cons pd_int (ad_cons (pd_neg pd_int) (ad_cons pd_int ad_nil)))))) sd_nil) (sd_cons (sd_if (qd_eq hr.units (pd_var 1) pd_int) (sd_one (sd_ret (pd_tup (ad_cons (pd_ix (pd_var 0) pd_int) (ad_cons (pd_ix (pd_var 0) pd_int) (ad_cons pd_int ad_nil)))))) sd_nil) (sd_one (sd_ret (by refine pd_call (k := 3) (f := T.a_upward) (fd := T.d_upward) (ps := P_upward) (F := F_upward) ?_ ?_ ?_ ?_ ?_ ?_ ?_ ?_; exact d_upward T; exact hr.mono (by decide); exact rfl; exact T.g_upward; exact T.F_upward.kp; exact b_upward T; exact (wok_takes (takes_of rfl rfl rfl rfl)); exact (ad_cons (pd_var 0) ad_nil))))))))
def B_divisor_and_factor : DS := (sSeq (sMul [2, 3] (mVal (eVar 0) (mVal (eVar 1) aNil))) (sSeq (sMul [4, 5] (mVal (eC (.int 1)) (mVal (eC (.int 0)) aNil))) (sSeq (whileD (tE (eBin fNe (eVar 3) (eC (.int 0)))) (sSeq (sAsg 6 (eBin fDiv (eVar 2) (eVar 3))) (sSeq (sMul [2, 3] (mVal (eVar 3) (mVal (eBin fSub (eVar 2) (eBin fMul (eVar 6) (eVar 3))) aNil))) (sMul [4, 5] (mVal (eVar 5) (mVal (eBin fSub (eVar 4) (eBin fMul (eVar 6) (eVar 5))) aNil))))) 100000000) (sRet (eTup (aCons (eVar 2) (aCons (eVar 4) aNil)))))))
def F_divisor_and_factor : DF := runB 7 2 B_divisor_and_factor
theorem d_divisor_and_factor (T : Txt K mg) : FnD P w K mg base 1 T.a_divisor_and_factor T.d_divisor_and_factor P_divisor_and_factor F_divisor_and_factor := fnD T.F_divisor_and_factor sc_divisor_and_factor (by decide) B_divisor_and_factor (fun cdv A outer s H E hr => (sd_cons (sd_par2 (ps_par rfl sc_divisor_and_factor.nd rfl rfl (by decide) rfl rfl (md_val (pd_var 0) (md_val (pd_var 1) md_nil)) rfl)) (sd_cons (sd_multi (ps_asg (pe_tup (md_val pd_int (md_val pd_int md_nil))) (pg_tup rfl (pgs_cons (pg_name (i := 4) sc_divisor_and_factor.nd rfl (Or.inl rfl)) (pgs_cons (pg_name (i := 5) sc_divisor_and_factor.nd rfl (Or.inl rfl)) pgs_nil)))) rfl (by decide)) (sd_cons (sd_while 100000000 (passes_of rfl) (qd_ne hr.units (pd_var 3) pd_int) (sd_cons (sd_asg (ps_set (i := 6) sc_divisor_and_factor.nd rfl (Or.inl rfl) (pd_div (pd_var 2) (pd_var 3)))) (sd_cons (sd_par2 (ps_par rfl sc_divisor_and_factor.nd rfl rfl (by decide) rfl rfl (md_val (pd_var 3) (md_val (pd_sub (pd_var 2) (pd_mul (pd_var 6) (pd_var 3))) md_nil)) rfl)) (sd_one (sd_par2 (ps_par rfl sc_divisor_and_factor.nd rfl rfl (by decide) rfl rfl (md_val (pd_var 5) (md_val (pd_sub (pd_var 4) (pd_mul (pd_var 6) (pd_var 5))) md_nil)) rfl)))))) (sd_one (sd_ret (pd_tup (ad_cons (pd_var 2) (ad_cons (pd_var 4) ad_nil)))))))))
def B_met_of : DS := (sSeq (sTg (gT (gCons' (gN 2) (gCons' (gN 3) (gCons' (gN 4) gNil'))) 3) (eCall 1 F_upward (aCons (eVar 0) aNil))) (sSeq (sTg (gT (gCons' (gN 5) (gCons' (gN 6) (gCons' (gN 7) gNil'))) 3) (eCall 1 F_upward (aCons (eVar 1) aNil))) (sSeq (sTg (gT (gCons' (gN 8) (gCons' (gN 9) gNil')) 2) (eCall 2 F_divisor_and_factor (aCons (eVar 4) (aCons (eVar 7) aNil)))) (sSeq (sIf (tE (eBin fNe (eBin fMod (eBin fSub (eVar 5) (eVar 2)) (eVar 8)) (eC (.int 0)))) (sRet (eTup (aCons (eC (.int 0)) (aCons (eUn fNeg (eC (.int 1))) (aCons (eC (.int 1)) aNil))))) sNx) (sSeq (sAsg 10 (eBin fMul (eBin fDiv (eBin fSub (eVar 5) (eVar 2)) (eVar 8)) (eVar 9))) (sSeq (sAsg 11 (eBin fMul (eVar 4) (eBin fDiv (eVar 7) (eVar 8)))) (sSeq (sAsg 12 (eCB fMax2 (aCons (eVar 2) (aCons (eVar 5) aNil)))) (sSeq (sAsg 13 (eBin fAdd (eVar 12) (eBin fMod (eBin fSub (eBin fAdd (eVar 2) (eBin fMul (eVar 4) (eVar 10))) (eVar 12)) (eVar 11)))) (sRet (eCall 1 F_normal_of (aCons (eTup (aCons (eVar 13) (aCons (eCB fMin2 (aCons (eVar 3) (aCons (eVar 6) aNil))) (aCons (eVar 11) aNil)))) aNil)))))))))))
def F_met_of : DF := runB 14 2 B_met_of
theorem d_met_of (T : Txt K mg) : FnD P w K mg base 5 T.a_met_of T.d_met_of P_met_of F_met_of := fnD T.F_met_of sc_met_of (by decide) B_met_of (fun cdv A outer s H E hr => (sd_cons (sd_tg (vs := [2, 3, 4]) (ps_asg (by refine pd_call (k := 3) (f := T.a_upward) (fd := T.d_upward) (ps := P_upward) (F := F_upward) ?_ ?_ ?_ ?_ ?_ ?_ ?_ ?_; exact d_upward T; exact hr.mono (by decide); exact rfl; exact T.g_upward; exact T.F_upward.kp; exact b_upward T; exact (wok_takes (takes_of rfl rfl rfl rfl)); exact (ad_cons (pd_var 0) ad_nil)) (gd_tup rfl (gd_cons (gd_name (i := 2) sc_met_of.nd rfl (Or.inl rfl) (by decide)) (gd_cons (gd_name (i := 3) sc_met_of.nd rfl (Or.inl rfl) (by decide)) (gd_cons (gd_name (i := 4) sc_met_of.nd rfl (Or.inl rfl) (by decide)) gd_nil)))))) (sd_cons (sd_tg (vs := [5, 6, 7]) (ps_asg (by refine pd_call (k := 3) (f := T.a_upward) (fd := T.d_upward) (ps := P_upward) (F := F_upward) ?_ ?_ ?_ ?_ ?_ ?_ ?_ ?_; exact d_upward T; exact hr.mono (by decide); exact rfl; exact T.g_upward; exact T.F_upward.kp; exact b_upward T; exact (wok_takes (takes_of rfl rfl rfl rfl)); exact (ad_cons (pd_var 1) ad_nil)) (gd_tup rfl (gd_cons (gd_name (i := 5) sc_met_of.nd rfl (Or.inl rfl) (by decide)) (gd_cons (gd_name (i := 6) sc_met_of.nd rfl (Or.inl rfl) (by decide)) (gd_cons (gd_name (i := 7) sc_met_of.nd rfl (Or.inl rfl) (by decide)) gd_nil)))))) (sd_cons (sd_tg (vs := [8, 9]) (ps_asg (by refine pd_call (k := 1) (f := T.a_divisor_and_factor) (fd := T.d_divisor_and_factor) (ps := P_divisor_and_factor) (F := F_divisor_and_factor) ?_ ?_ ?_ ?_ ?_ ?_ ?_ ?_; exact d_divisor_and_factor T; exact hr.mono (by decide); exact rfl; exact T.g_divisor_and_factor; exact T.F_divisor_and_factor.kp; exact b_divisor_and_factor T; exact (wok_takes (takes_of rfl rfl rfl rfl)); exact (ad_cons (pd_var 4) (ad_cons (pd_var 7) ad_nil))) (gd_tup rfl (gd_cons (gd_name (i := 8) sc_met_of.nd rfl (Or.inl rfl) (by decide)) (gd_cons (gd_name (i := 9) sc_met_of.nd rfl (Or.inl rfl) (by decide)) gd_nil))))) (sd_cons (sd_if (qd_ne hr.units (pd_mod (pd_sub (pd_var 5) (pd_var 2)) (pd_var 8)) pd_int) (sd_one (sd_ret (pd_tup (ad_cons pd_int (ad_cons (pd_neg pd_int) (ad_cons pd_int ad_nil)))))) sd_nil) (sd_cons (sd_asg (ps_set (i := 10) sc_met_of.nd rfl (Or.inl rfl) (pd_mul (pd_div (pd_sub (pd_var 5) (pd_var 2)) (pd_var 8)) (pd_var 9)))) (sd_cons (sd_asg (ps_set (i := 11) sc_met_of.nd rfl (Or.inl rfl) (pd_mul (pd_var 4) (pd_div (pd_var 7) (pd_var 8))))) (sd_cons (sd_asg (ps_set (i := 12) sc_met_of.nd rfl (Or.inl rfl) (pd_cb (call_max2 rfl) cd_max2 (by rfl) T.z_max (by decide +kernel) (ad_cons (pd_var 2) (ad_cons (pd_var 5) ad_nil))))) (sd_cons (sd_asg (ps_set (i := 13) sc_met_of.nd rfl (Or.inl rfl) (pd_add (pd_var 12) (pd_mod (pd_sub (pd_add (pd_var 2) (pd_mul (pd_var 4) (pd_var 10))) (pd_var 12)) (pd_var 11))))) (sd_one (sd_ret (by refine pd_call (k := 4) (f := T.a_normal_of) (fd := T.d_normal_of) (ps := P_normal_of) (F := F_normal_of) ?_ ?_ ?_ ?_ ?_ ?_ ?_ ?_; exact d_normal_of T; exact hr.mono (by decide); exact rfl; exact T.g_normal_of; exact T.F_normal_of.kp; exact b_normal_of T; exact (wok_takes (takes_of rfl rfl rfl rfl)); exact (ad_cons (pd_tup (ad_cons (pd_var 13) (ad_cons (pd_cb (call_min2 rfl) cd_min2 (by rfl) T.z_min (by decide +kernel) (ad_cons (pd_var 3) (ad_cons (pd_var 6) ad_nil))) (ad_cons (pd_var 11) ad_nil)))) ad_nil)))))))))))))
def B_seats_apart : DS := (sRet (eDc (aDc (iSeq (eVar 0)) (gN 1) tYesD (eVar 1) (eTup (aCons (eVar 1) (aCons (eC (.int 0)) aNil))) [1])))
def F_seats_apart : DF := runB 2 1 B_seats_apart
theorem d_seats_apart (T : Txt K mg) : FnD P w K mg base 1 T.a_seats_apart T.d_seats_apart P_seats_apart F_seats_apart := fnD T.F_seats_apart sc_seats_apart (by decide) B_seats_apart (fun cdv A outer s H E hr => (sd_one (sd_ret (pd_D (pl_dc (own := [("name", 1)]) rfl sc_seats_apart.nd (id_seq (pd_var 0)) (blkOk_by (own := [("name", 1)]) (N := N_seats_apart) (sc := defScope s_seats_apart) (by decide +kernel)) (fun _ _ _ _ _ => (gd_name (i := 1) sc_seats_apart.nd rfl (Or.inl rfl) (by decide))) (fun _ _ _ _ _ => td_nil) (fun _ _ _ _ _ => (pd_var 1)) (fun _ _ _ _ _ => (pd_tup (ad_cons (pd_var 1) (ad_cons pd_int ad_nil)))))))))
def B_seats_behind : DS := (sSeq (sTg (gT (gCons' (gN 2) (gCons' (gN 3) gNil')) 2) (eBin fIx (eVar 1) (eC (.int 0)))) (sSeq (sFor (iSeq (eSl (eVar 1) (oSome (eC (.int 1))) oNone)) (gT (gCons' (gN 4) (gCons' (gN 5) gNil')) 2) (sSeq (sTg (gT (gCons' (gN 6) (gCons' (gN 7) gNil')) 2) (eGetF (eVar 0) (eVar 2))) (sSeq (sTg (gT (gCons' (gN 8) (gCons' (gN 9) gNil')) 2) (eGetF (eVar 0) (eVar 4))) (sSeq (sAsg 10 (eBin fSub (eBin fSub (eBin fAdd (eVar 7) (eVar 3)) (eVar 5)) (eVar 9))) (sIf (tE (eBin fNe (eVar 6) (eVar 8))) (sAsg 0 (eDc (aDc (iItems (eVar 0)) (gT (gCons' (gN 11) (gCons' (gT (gCons' (gN 12) (gCons' (gN 13) gNil')) 2) gNil')) 2) tYesD (eVar 11) (eIf (tE (eBin fEq (eVar 12) (eVar 8))) (eTup (aCons (eVar 6) (aCons (eBin fAdd (eVar 13) (eVar 10)) aNil))) (eTup (aCons (eVar 12) (aCons (eVar 13) aNil)))) [11, 12, 13]))) (sIf (tE (eBin fNe (eVar 10) (eC (.int 0)))) (sRet (eC .non)) sNx)))))) (sRet (eVar 0))))
def F_seats_behind : DF := runB 14 2 B_seats_behind
theorem d_seats_behind (T : Txt K mg) : FnD P w K mg base 1 T.a_seats_behind T.d_seats_behind P_seats_behind F_seats_behind := fnD T.F_seats_behind sc_seats_behind (by decide) B_seats_behind (fun cdv A outer s H E hr => (sd_cons (sd_tg (vs := [2, 3]) (ps_asg (pd_ix (pd_var 1) pd_int) (gd_tup rfl (gd_cons (gd_name (i := 2) sc_seats_behind.nd rfl (Or.inl rfl) (by decide)) (gd_cons (gd_name (i := 3) sc_seats_behind.nd rfl (Or.inl rfl) (by decide)) gd_nil))))) (sd_cons (sd_for (vs := [4, 5]) (passes_of rfl) rfl (id_seq (pd_sl (pd_var 1) (od_some pd_int) od_none)) (gd_tup rfl (gd_cons (gd_name (i := 4) sc_seats_behind.nd rfl (Or.inl rfl) (by decide)) (gd_cons (gd_name (i := 5) sc_seats_behind.nd rfl (Or.inl rfl) (by decide)) gd_nil))) (sd_cons (sd_tg (vs := [6, 7]) (ps_asg (pd_getF (units1 hr) (pd_var 0) (pd_var 2) (fun _ _ => rfl)) (gd_tup rfl (gd_cons (gd_name (i := 6) sc_seats_behind.nd rfl (Or.inr rfl) (by decide)) (gd_cons (gd_name (i := 7) sc_seats_behind.nd rfl (Or.inl rfl) (by decide)) gd_nil))))) (sd_cons (sd_tg (vs := [8, 9]) (ps_asg (pd_getF (units1 hr) (pd_var 0) (pd_var 4) (fun _ _ => rfl)) (gd_tup rfl (gd_cons (gd_name (i := 8) sc_seats_behind.nd rfl (Or.inr rfl) (by decide)) (gd_cons (gd_name (i := 9) sc_seats_behind.nd rfl (Or.inl rfl) (by decide)) gd_nil))))) (sd_cons (sd_asg (ps_set (i := 10) sc_seats_behind.nd rfl (Or.inr rfl) (pd_sub (pd_sub (pd_add (pd_var 7) (pd_var 3)) (pd_var 5)) (pd_var 9)))) (sd_one (sd_if (qd_ne hr.units (pd_var 6) (pd_var 8)) (sd_one (by first | exact sd_asg (asg_weak (ps_setDc (own := [("key", 11), ("label", 12), ("at", 13)]) (i := 0) rfl sc_seats_behind.nd rfl rfl rfl (id_items (pd_var 0)) (blkOk_by (own := [("key", 11), ("label", 12), ("at", 13)]) (N := N_seats_behind) (sc := defScope s_seats_behind) (by decide +kernel)) (fun _ _ _ _ _ => (gd_tup rfl (gd_cons (gd_name (i := 11) sc_seats_behind.nd rfl (Or.inl rfl) (by decide)) (gd_cons (gd_tup rfl (gd_cons (gd_name (i := 12) sc_seats_behind.nd rfl (Or.inl rfl) (by decide)) (gd_cons (gd_name (i := 13) sc_seats_behind.nd rfl (Or.inl rfl) (by decide)) gd_nil))) gd_nil)))) (fun _ _ _ _ _ => td_nil) (fun _ _ _ _ _ => (pd_var 11)) (fun _ _ _ _ _ => (pd_if (qd_eq hr.units (pd_var 12) (pd_var 8)) (pd_tup (ad_cons (pd_var 6) (ad_cons (pd_add (pd_var 13) (pd_var 10)) ad_nil))) (pd_tup (ad_cons (pd_var 12) (ad_cons (pd_var 13) ad_nil)))))) (fun _ _ _ h => dc_ok (dE_ok h))) | exact sd_asg (ps_set (i := 0) sc_seats_behind.nd rfl (Or.inl rfl) (pd_D (pl_dc (own := [("key", 11), ("label", 12), ("at", 13)]) rfl sc_seats_behind.nd (id_items (pd_var 0)) (blkOk_by (own := [("key", 11), ("label", 12), ("at", 13)]) (N := N_seats_behind) (sc := defScope s_seats_behind) (by decide +kernel)) (fun _ _ _ _ _ => (gd_tup rfl (gd_cons (gd_name (i := 11) sc_seats_behind.nd rfl (Or.inl rfl) (by decide)) (gd_cons (gd_tup rfl (gd_cons (gd_name (i := 12) sc_seats_behind.nd rfl (Or.inl rfl) (by decide)) (gd_cons (gd_name (i := 13) sc_seats_behind.nd rfl (Or.inl rfl) (by decide)) gd_nil))) gd_nil)))) (fun _ _ _ _ _ => td_nil) (fun _ _ _ _ _ => (pd_var 11)) (fun _ _ _ _ _ => (pd_if (qd_eq hr.units (pd_var 12) (pd_var 8)) (pd_tup (ad_cons (pd_var 6) (ad_cons (pd_add (pd_var 13) (pd_var 10)) ad_nil))) (pd_tup (ad_cons (pd_var 12) (ad_cons (pd_var 13) ad_nil)))))))))) (sd_one (sd_if (qd_ne hr.units (pd_var 10) pd_int) (sd_one (sd_ret pd_non)) sd_nil)))))))) (sd_one (sd_ret (pd_var 0))))))
def B_seats_by : DS := (sSeq (sAsg 2 (eCall 1 F_seats_apart (aCons (eVar 0) aNil))) (sSeq (sFor (iSeq (eVar 1)) (gT (gCons' (gN 3) (gCons' (gN 4) gNil')) 2) (sSeq (sAsg 2 (eCall 2 F_seats_behind (aCons (eVar 2) (aCons (eVar 4) aNil)))) (sIf (tE (eBin fIsN (eVar 2) (eC .non))) (sRet (eC .non)) sNx))) (sRet (eVar 2))))
def F_seats_by : DF := runB 5 2 B_seats_by
theorem d_seats_by (T : Txt K mg) : FnD P w K mg base 2 T.a_seats_by T.d_seats_by P_seats_by F_seats_by := fnD T.F_seats_by sc_seats_by (by decide) B_seats_by (fun cdv A outer s H E hr => (sd_cons (sd_asg (ps_set (i := 2) sc_seats_by.nd rfl (Or.inl rfl) (by refine pd_call (k := 1) (f := T.a_seats_apart) (fd := T.d_seats_apart) (ps := P_seats_apart) (F := F_seats_apart) ?_ ?_ ?_ ?_ ?_ ?_ ?_ ?_; exact d_seats_apart T; exact hr.mono (by decide); exact rfl; exact T.g_seats_apart; exact T.F_seats_apart.kp; exact b_seats_apart T; exact (wok_takes (takes_of rfl rfl rfl rfl)); exact (ad_cons (pd_var 0) ad_nil)))) (sd_cons (sd_for (vs := [3, 4]) (passes_of rfl) rfl (id_seq (pd_var 1)) (gd_tup rfl (gd_cons (gd_name (i := 3) sc_seats_by.nd rfl (Or.inl rfl) (by decide)) (gd_cons (gd_name (i := 4) sc_seats_by.nd rfl (Or.inl rfl) (by decide)) gd_nil))) (sd_cons (sd_asg (ps_set (i := 2) sc_seats_by.nd rfl (Or.inl rfl) (by refine pd_call (k := 1) (f := T.a_seats_behind) (fd := T.d_seats_behind) (ps := P_seats_behind) (F := F_seats_behind) ?_ ?_ ?_ ?_ ?_ ?_ ?_ ?_; exact d_seats_behind T; exact hr.mono (by decide); exact rfl; exact T.g_seats_behind; exact T.F_seats_behind.kp; exact b_seats_behind T; exact (wok_takes (takes_of rfl rfl rfl rfl)); exact (ad_cons (pd_var 2) (ad_cons (pd_var 4) ad_nil))))) (sd_one (sd_if (qd_isN (pd_var 2) pd_non) (sd_one (sd_ret pd_non)) sd_nil)))) (sd_one (sd_ret (pd_var 2))))))
def B_all_extents : DS := (sRet (eL (aLc (iSeq (eVar 0)) (gT (gCons' (gN 1) (gCons' (gN 2) gNil')) 2) tYesD (eCB fMax2 (aCons (eC (.int 0)) (aCons (eBin fAdd (eBin fSub (eVar 2) (eVar 1)) (eC (.int 1))) aNil))) [1, 2])))
def F_all_extents : DF := runB 3 1 B_all_extents
theorem d_all_extents (T : Txt K mg) : FnD P w K mg base 1 T.a_all_extents T.d_all_extents P_all_extents F_all_extents := fnD T.F_all_extents sc_all_extents (by decide) B_all_extents (fun cdv A outer s H E hr => (sd_one (sd_ret (pd_L (pl_lc (own := [("low", 1), ("high", 2)]) rfl sc_all_extents.nd (id_seq (pd_var 0)) (blkOk_by (own := [("low", 1), ("high", 2)]) (N := N_all_extents) (sc := defScope s_all_extents) (by decide +kernel)) (fun _ _ _ _ _ => (gd_tup rfl (gd_cons (gd_name (i := 1) sc_all_extents.nd rfl (Or.inl rfl) (by decide)) (gd_cons (gd_name (i := 2) sc_all_extents.nd rfl (Or.inl rfl) (by decide)) gd_nil)))) (fun _ _ _ _ _ => td_nil) (fun _ _ _ _ _ => (pd_cb (call_max2 rfl) cd_max2 (by rfl) T.z_max (by decide +kernel) (ad_cons pd_int (ad_cons (pd_add (pd_sub (pd_var 2) (pd_var 1)) pd_int) ad_nil)))))))))
def B_multiplied : DS := (sSeq (sAsg 1 (eC (.int 1))) (sSeq (sFor (iSeq (eVar 0)) (gN 2) (sAsg 1 (eBin fMul (eVar 1) (eVar 2)))) (sRet (eVar 1))))
def F_multiplied : DF := runB 3 1 B_multiplied
theorem d_multiplied (T : Txt K mg) : FnD P w K mg base 1 T.a_multiplied T.d_multiplied P_multiplied F_multiplied := fnD T.F_multiplied sc_multiplied (by decide) B_multiplied (fun cdv A outer s H E hr => (sd_cons (sd_asg (ps_set (i := 1) sc_multiplied.nd rfl (Or.inl rfl) pd_int)) (sd_cons (sd_for (vs := [2]) (passes_of rfl) rfl (id_seq (pd_var 0)) (gd_name (i := 2) sc_multiplied.nd rfl (Or.inl rfl) (by decide)) (sd_one (sd_asg (ps_set (i := 1) sc_multiplied.nd rfl (Or.inl rfl) (pd_mul (pd_var 1) (pd_var 2)))))) (sd_one (sd_ret (pd_var 1))))))
def B_size_of : DS := (sRet (eCall 1 F_multiplied (aCons (eCall 1 F_all_extents (aCons (eVar 0) aNil)) aNil)))
def F_size_of : DF := runB 1 1 B_size_of
theorem d_size_of (T : Txt K mg) : FnD P w K mg base 2 T.a_size_of T.d_size_of P_size_of F_size_of := fnD T.F_size_of sc_size_of (by decide) B_size_of (fun cdv A outer s H E hr => (sd_one (sd_ret (by refine pd_call (k := 1) (f := T.a_multiplied) (fd := T.d_multiplied) (ps := P_multiplied) (F := F_multiplied) ?_ ?_ ?_ ?_ ?_ ?_ ?_ ?_; exact d_multiplied T; exact hr.mono (by decide); exact rfl; exact T.g_multiplied; exact T.F_multiplied.kp; exact b_multiplied T; exact (wok_takes (takes_of rfl rfl rfl rfl)); exact (ad_cons (by refine pd_call (k := 1) (f := T.a_all_extents) (fd := T.d_all_extents) (ps := P_all_extents) (F := F_all_extents) ?_ ?_ ?_ ?_ ?_ ?_ ?_ ?_; exact d_all_extents T; exact hr.mono (by decide); exact rfl; exact T.g_all_extents; exact T.F_all_extents.kp; exact b_all_extents T; exact (wok_takes (takes_of rfl rfl rfl rfl)); exact (ad_cons (pd_var 0) ad_nil)) ad_nil)))))
def B_weights : DS := (sSeq (sNew 1 (aLst aNil)) (sSeq (sAsg 2 (eC (.int 1))) (sSeq (sFor (iSeq (eCall 1 F_all_extents (aCons (eVar 0) aNil))) (gN 3) (sSeq (sApp 1 (eVar 2)) (sAsg 2 (eBin fMul (eVar 2) (eVar 3))))) (sFrz 1 (sRet (eVar 1))))))
def F_weights : DF := runB 4 1 B_weights
theorem d_weights (T : Txt K mg) : FnD P w K mg base 2 T.a_weights T.d_weights P_weights F_weights := fnD T.F_weights sc_weights (by decide) B_weights (fun cdv A outer s H E hr => (sd_cons (sd_new (ps_set (i := 1) sc_weights.nd rfl (Or.inl rfl) (pl_lst ad_nil))) (sd_cons (sd_asg (ps_set (i := 2) sc_weights.nd rfl (Or.inl rfl) pd_int)) (sd_cons (sd_for (vs := [3]) (passes_of rfl) rfl (id_seq (by refine pd_call (k := 1) (f := T.a_all_extents) (fd := T.d_all_extents) (ps := P_all_extents) (F := F_all_extents) ?_ ?_ ?_ ?_ ?_ ?_ ?_ ?_; exact d_all_extents T; exact hr.mono (by decide); exact rfl; exact T.g_all_extents; exact T.F_all_extents.kp; exact b_all_extents T; exact (wok_takes (takes_of rfl rfl rfl rfl)); exact (ad_cons (pd_var 0) ad_nil))) (gd_name (i := 3) sc_weights.nd rfl (Or.inl rfl) (by decide)) (sd_cons (sd_app (ps_expr (pe_bm PySem.F.plainAttrs_list PySem.F.slot_list_append PySem.F.type_list_append mt_append (pv 1) (pa_cons (pd_var 2) pa_nil)))) (sd_one (sd_asg (ps_set (i := 2) sc_weights.nd rfl (Or.inl rfl) (pd_mul (pd_var 2) (pd_var 3))))))) (sd_frz 1 (sd_one (sd_ret (pd_var 1))))))))
def B_is_element : DS := (sSeq (sIf (tOn (tNo (tTr (eCB fIsi (aCons (eVar 1) (aCons (eC (.ty "tuple")) aNil))))) (tE (eBin fNe (eCB fLen (aCons (eVar 1) aNil)) (eCB fLen (aCons (eVar 0) aNil))))) (sRet (eC (.bl false))) sNx) (sRet (eCB fAll (aCons (eL (aLc (iZip (aCons (eVar 1) (aCons (eVar 0) aNil))) (gT (gCons' (gN 2) (gCons' (gT (gCons' (gN 3) (gCons' (gN 4) gNil')) 2) gNil')) 2) tYesD (eAnd (eCall 1 F_is_number (aCons (eVar 2) aNil)) (eChain fLe fLe (eVar 3) (eVar 2) (eVar 4))) [2, 3, 4])) aNil))))
def F_is_element : DF := runB 5 2 B_is_element
theorem d_is_element (T : Txt K mg) : FnD P w K mg base 2 T.a_is_element T.d_is_element P_is_element F_is_element := fnD T.F_is_element sc_is_element (by decide) B_is_element (fun cdv A outer s H E hr => (sd_cons (sd_if (qd_or (qd_not (qd_tr (pd_cb call_isiA cd_isi (by rfl) T.z_isinstance (by decide +kernel) (ad_cons (pd_var 1) (ad_cons (pd_ty (by rfl) T.z_tuple (by decide +kernel)) ad_nil))))) (qd_or1 (qd_ne hr.units (pd_cb call_len cd_len (by rfl) T.z_len (by decide +kernel) (ad_cons (pd_var 1) ad_nil)) (pd_cb call_len cd_len (by rfl) T.z_len (by decide +kernel) (ad_cons (pd_var 0) ad_nil))))).pt (sd_one (sd_ret pd_bl)) sd_nil) (sd_one (sd_ret (pd_cb (cr_all rfl) cd_all (by rfl) T.z_all (by decide +kernel) (ad_cons (pd_L (pl_lc (own := [("number", 2), ("low", 3), ("high", 4)]) rfl sc_is_element.nd (id_zip2 (by rfl) T.z_zip (ad_cons (pd_var 1) (ad_cons (pd_var 0) ad_nil)) (aCons_len (aCons_len (fun _ _ _ _ h => aNil_len h)))) (blkOk_by (own := [("number", 2), ("low", 3), ("high", 4)]) (N := N_is_element) (sc := defScope s_is_element) (by decide +kernel)) (fun _ _ _ _ _ => (gd_tup rfl (gd_cons (gd_name (i := 2) sc_is_element.nd rfl (Or.inl rfl) (by decide)) (gd_cons (gd_tup rfl (gd_cons (gd_name (i := 3) sc_is_element.nd rfl (Or.inl rfl) (by decide)) (gd_cons (gd_name (i := 4) sc_is_element.nd rfl (Or.inl rfl) (by decide)) gd_nil))) gd_nil)))) (fun _ _ _ _ _ => td_nil) (fun _ _ _ _ _ => (pd_and (by refine pd_call (k := 1) (f := T.a_is_number) (fd := T.d_is_number) (ps := P_is_number) (F := F_is_number) ?_ ?_ ?_ ?_ ?_ ?_ ?_ ?_; exact d_is_number T; exact hr.mono (by decide); exact rfl; exact T.g_is_number; exact T.F_is_number.kp; exact b_is_number T; exact wok0; exact (ad_cons (pd_var 2) ad_nil)) (pd_one (pd_chain op_le op_le opd_cmp opd_cmp (pd_var 3) (pd_var 2) (pd_var 4))))))) ad_nil))))))
def B_place_there : DS := (sRet (eCB fSum (aCons (eL (aLc (iZip (aCons (eVar 1) (aCons (eVar 0) (aCons (eCall 1 F_weights (aCons (eVar 0) aNil)) aNil)))) (gT (gCons' (gN 2) (gCons' (gT (gCons' (gN 4) (gCons' (gN 5) gNil')) 2) (gCons' (gN 3) gNil'))) 3) tYesD (eBin fMul (eBin fSub (eVar 2) (eVar 4)) (eVar 3)) [2, 3, 4, 5])) aNil)))
def F_place_there : DF := runB 6 2 B_place_there
theorem d_place_there (T : Txt K mg) : FnD P w K mg base 3 T.a_place_there T.d_place_there P_place_there F_place_there := fnD T.F_place_there sc_place_there (by decide) B_place_there (fun cdv A outer s H E hr => (sd_one (sd_ret (pd_cb (cr_sum rfl) cd_sum (by rfl) T.z_sum (by decide +kernel) (ad_cons (pd_L (pl_lc (own := [("number", 2), ("weight", 3), ("low", 4), ("_", 5)]) rfl sc_place_there.nd (id_zip3 (by rfl) T.z_zip (ad_cons (pd_var 1) (ad_cons (pd_var 0) (ad_cons (by refine pd_call (k := 2) (f := T.a_weights) (fd := T.d_weights) (ps := P_weights) (F := F_weights) ?_ ?_ ?_ ?_ ?_ ?_ ?_ ?_; exact d_weights T; exact hr.mono (by decide); exact rfl; exact T.g_weights; exact T.F_weights.kp; exact b_weights T; exact (wok_takes (takes_of rfl rfl rfl rfl)); exact (ad_cons (pd_var 0) ad_nil)) ad_nil))) (aCons_len (aCons_len (aCons_len (fun _ _ _ _ h => aNil_len h))))) (blkOk_by (own := [("number", 2), ("weight", 3), ("low", 4), ("_", 5)]) (N := N_place_there) (sc := defScope s_place_there) (by decide +kernel)) (fun _ _ _ _ _ => (gd_tup rfl (gd_cons (gd_name (i := 2) sc_place_there.nd rfl (Or.inl rfl) (by decide)) (gd_cons (gd_tup rfl (gd_cons (gd_name (i := 4) sc_place_there.nd rfl (Or.inl rfl) (by decide)) (gd_cons (gd_name (i := 5) sc_place_there.nd rfl (Or.inl rfl) (by decide)) gd_nil))) (gd_cons (gd_name (i := 3) sc_place_there.nd rfl (Or.inl rfl) (by decide)) gd_nil))))) (fun _ _ _ _ _ => td_nil) (fun _ _ _ _ _ => (pd_mul (pd_sub (pd_var 2) (pd_var 4)) (pd_var 3))))) ad_nil)))))
def B_is_range : DS := (sSeq (sIf (tOn (tNo (tTr (eCB fIsi (aCons (eVar 0) (aCons (eC (.ty "tuple")) aNil))))) (tE (eBin fNe (eCB fLen (aCons (eVar 0) aNil)) (eC (.int 2))))) (sRet (eC (.bl false))) sNx) (sRet (eAnd (eCall 1 F_is_far (aCons (eBin fIx (eVar 0) (eC (.int 0))) aNil)) (eAnd (eCall 1 F_is_far (aCons (eBin fIx (eVar 0) (eC (.int 1))) aNil)) (eBin fLe (eBin fIx (eVar 0) (eC (.int 0))) (eBin fIx (eVar 0) (eC (.int 1))))))))
def F_is_range : DF := runB 1 1 B_is_range
theorem d_is_range (T : Txt K mg) : FnD P w K mg base 3 T.a_is_range T.d_is_range P_is_range F_is_range := fnD T.F_is_range sc_is_range (by decide) B_is_range (fun cdv A outer s H E hr => (sd_cons (sd_if (qd_or (qd_not (qd_tr (pd_cb call_isiA cd_isi (by rfl) T.z_isinstance (by decide +kernel) (ad_cons (pd_var 0) (ad_cons (pd_ty (by rfl) T.z_tuple (by decide +kernel)) ad_nil))))) (qd_or1 (qd_ne hr.units (pd_cb call_len cd_len (by rfl) T.z_len (by decide +kernel) (ad_cons (pd_var 0) ad_nil)) pd_int))).pt (sd_one (sd_ret pd_bl)) sd_nil) (sd_one (sd_ret (pd_and (by refine pd_call (k := 2) (f := T.a_is_far) (fd := T.d_is_far) (ps := P_is_far) (F := F_is_far) ?_ ?_ ?_ ?_ ?_ ?_ ?_ ?_; exact d_is_far T; exact hr.mono (by decide); exact rfl; exact T.g_is_far; exact T.F_is_far.kp; exact b_is_far T; exact (wok_takes (takes_of rfl rfl rfl rfl)); exact (ad_cons (pd_ix (pd_var 0) pd_int) ad_nil)) (pd_and (by refine pd_call (k := 2) (f := T.a_is_far) (fd := T.d_is_far) (ps := P_is_far) (F := F_is_far) ?_ ?_ ?_ ?_ ?_ ?_ ?_ ?_; exact d_is_far T; exact hr.mono (by decide); exact rfl; exact T.g_is_far; exact T.F_is_far.kp; exact b_is_far T; exact (wok_takes (takes_of rfl rfl rfl rfl)); exact (ad_cons (pd_ix (pd_var 0) pd_int) ad_nil)) (pd_one (pd_le (pd_ix (pd_var 0) pd_int) (pd_ix (pd_var 0) pd_int)))))))))
def B_is_variable : DS := (sSeq (sIf (tOn (tNo (tTr (eCB fIsi (aCons (eVar 0) (aCons (eC (.ty "tuple")) aNil))))) (tE (eBin fNe (eCB fLen (aCons (eVar 0) aNil)) (eC (.int 3))))) (sRet (eC (.bl false))) sNx) (sSeq (sTg (gT (gCons' (gN 1) (gCons' (gN 2) (gCons' (gN 3) gNil'))) 3) (eVar 0)) (sSeq (sIf (tOn (tNo (tTr (eCall 2 F_is_name (aCons (eVar 1) (aCons (eC (.int 8)) aNil))))) (tOn (tNo (tTr (eCall 1 F_is_number (aCons (eVar 2) aNil)))) (tNo (tE (eChain fLe fLe (eC (.int 1)) (eVar 2) (eC (.int 16))))))) (sRet (eC (.bl false))) sNx) (sRet (eAnd (eCB fIsi (aCons (eVar 3) (aCons (eC (.ty "tuple")) aNil))) (eAnd (eBin fLe (eCB fLen (aCons (eVar 3) aNil)) (eC (.int 7))) (eCB fAll (aCons (eL (aLc (iSeq (eVar 3)) (gN 4) tYesD (eCall 1 F_is_range (aCons (eVar 4) aNil)) [4])) aNil))))))))
def F_is_variable : DF := runB 5 1 B_is_variable
theorem d_is_variable (T : Txt K mg) : FnD P w K mg base 4 T.a_is_variable T.d_is_variable P_is_variable F_is_variable := fnD T.F_is_variable sc_is_variable (by decide) B_is_variable (fun cdv A outer s H E hr => (sd_cons (sd_if (qd_or (qd_not (qd_tr (pd_cb call_isiA cd_isi (by rfl) T.z_isinstance (by decide +kernel) (ad_cons (pd_var 0) (ad_cons (pd_ty (by rfl) T.z_tuple (by decide +kernel)) ad_nil))))) (qd_or1 (qd_ne hr.units (pd_cb call_len cd_len (by rfl) T.z_len (by decide +kernel) (ad_cons (pd_var 0) ad_nil)) pd_int))).pt (sd_one (sd_ret pd_bl)) sd_nil) (sd_cons (sd_tg (vs := [1, 2, 3]) (ps_asg (pd_var 0) (gd_tup rfl (gd_cons (gd_name (i := 1) sc_is_variable.nd rfl (Or.inl rfl) (by decide)) (gd_cons (gd_name (i := 2) sc_is_variable.nd rfl (Or.inl rfl) (by decide)) (gd_cons (gd_name (i := 3) sc_is_variable.nd rfl (Or.inl rfl) (by decide)) gd_nil)))))) (sd_cons (sd_if (qd_or (qd_not (qd_tr (by refine pd_call (k := 1) (f := T.a_is_name) (fd := T.d_is_name) (ps := P_is_name) (F := F_is_name) ?_ ?_ ?_ ?_ ?_ ?_ ?_ ?_; exact d_is_name T; exact hr.mono (by decide); exact rfl; exact T.g_is_name; exact T.F_is_name.kp; exact b_is_name T; exact (wok_takes (takes_of rfl rfl rfl rfl)); exact (ad_cons (pd_var 1) (ad_cons (pd_globI (by rfl) T.c_LETTERS_sharing) ad_nil))))) (qd_or (qd_not (qd_tr (by refine pd_call (k := 1) (f := T.a_is_number) (fd := T.d_is_number) (ps := P_is_number) (F := F_is_number) ?_ ?_ ?_ ?_ ?_ ?_ ?_ ?_; exact d_is_number T; exact hr.mono (by decide); exact rfl; exact T.g_is_number; exact T.F_is_number.kp; exact b_is_number T; exact (wok_takes (takes_of rfl rfl rfl rfl)); exact (ad_cons (pd_var 2) ad_nil)))) (qd_or1 (qd_not (qd_chain op_le op_le opd_cmp opd_cmp pd_int (pd_var 2) (pd_globI (by rfl) T.c_UNITS)))))).pt (sd_one (sd_ret pd_bl)) sd_nil) (sd_one (sd_ret (pd_and (pd_cb call_isiA cd_isi (by rfl) T.z_isinstance (by decide +kernel) (ad_cons (pd_var 3) (ad_cons (pd_ty (by rfl) T.z_tuple (by decide +kernel)) ad_nil))) (pd_and (pd_le (pd_cb call_len cd_len (by rfl) T.z_len (by decide +kernel) (ad_cons (pd_var 3) ad_nil)) (pd_globI (by rfl) T.c_DIMENSIONS)) (pd_one (pd_cb (cr_all rfl) cd_all (by rfl) T.z_all (by decide +kernel) (ad_cons (pd_L (pl_lc (own := [("pair", 4)]) rfl sc_is_variable.nd (id_seq (pd_var 3)) (blkOk_by (own := [("pair", 4)]) (N := N_is_variable) (sc := defScope s_is_variable) (by decide +kernel)) (fun _ _ _ _ _ => (gd_name (i := 4) sc_is_variable.nd rfl (Or.inl rfl) (by decide))) (fun _ _ _ _ _ => td_nil) (fun _ _ _ _ _ => (by refine pd_call (k := 3) (f := T.a_is_range) (fd := T.d_is_range) (ps := P_is_range) (F := F_is_range) ?_ ?_ ?_ ?_ ?_ ?_ ?_ ?_; exact d_is_range T; exact hr.mono (by decide); exact rfl; exact T.g_is_range; exact T.F_is_range.kp; exact b_is_range T; exact wok0; exact (ad_cons (pd_var 4) ad_nil))))) ad_nil)))))))))))
def B_names_of : DS := (sRet (eL (aLc (iSeq (eVar 0)) (gT (gCons' (gN 1) (gCons' (gN 2) (gCons' (gN 2) gNil'))) 3) tYesD (eVar 1) [1, 2])))
def F_names_of : DF := runB 3 1 B_names_of
theorem d_names_of (T : Txt K mg) : FnD P w K mg base 1 T.a_names_of T.d_names_of P_names_of F_names_of := fnD T.F_names_of sc_names_of (by decide) B_names_of (fun cdv A outer s H E hr => (sd_one (sd_ret (pd_L (pl_lc (own := [("name", 1), ("_", 2)]) rfl sc_names_of.nd (id_seq (pd_var 0)) (blkOk_by (own := [("name", 1), ("_", 2)]) (N := N_names_of) (sc := defScope s_names_of) (by decide +kernel)) (fun _ _ _ _ _ => (gd_tup rfl (gd_cons (gd_name (i := 1) sc_names_of.nd rfl (Or.inl rfl) (by decide)) (gd_cons (gd_name (i := 2) sc_names_of.nd rfl (Or.inl rfl) (by decide)) (gd_cons (gd_name (i := 2) sc_names_of.nd rfl (Or.inl rfl) (by decide)) gd_nil))))) (fun _ _ _ _ _ => td_nil) (fun _ _ _ _ _ => (pd_var 1)))))))
def B_are_variables : DS := (sSeq (sIf (tOn (tNo (tTr (eCB fIsi (aCons (eVar 0) (aCons (eTup (aCons (eC (.ty "list")) (aCons (eC (.ty "tuple")) aNil))) aNil))))) (tNo (tE (eChain fLe fLe (eC (.int 1)) (eCB fLen (aCons (eVar 0) aNil)) (eC (.int 40)))))) (sRet (eC (.bl false))) sNx) (sSeq (sIf (tNo (tTr (eCB fAll (aCons (eL (aLc (iSeq (eVar 0)) (gN 1) tYesD (eCall 1 F_is_variable (aCons (eVar 1) aNil)) [1])) aNil)))) (sRet (eC (.bl false))) sNx) (sRet (eBin fEq (eUn fLenSetS (eCall 1 F_names_of (aCons (eVar 0) aNil))) (eCB fLen (aCons (eVar 0) aNil))))))
def F_are_variables : DF := runB 2 1 B_are_variables
theorem d_are_variables (T : Txt K mg) : FnD P w K mg base 5 T.a_are_variables T.d_are_variables P_are_variables F_are_variables := fnD T.F_are_variables sc_are_variables (by decide) B_are_variables (fun cdv A outer s H E hr => (sd_cons (sd_if (qd_or (qd_not (qd_tr (pd_cb call_isiA cd_isi (by rfl) T.z_isinstance (by decide +kernel) (ad_cons (pd_var 0) (ad_cons (pd_tup (ad_cons (pd_ty (by rfl) T.z_list (by decide +kernel)) (ad_cons (pd_ty (by rfl) T.z_tuple (by decide +kernel)) ad_nil))) ad_nil))))) (qd_or1 (qd_not (qd_chain op_le op_le opd_cmp opd_cmp pd_int (pd_cb call_len cd_len (by rfl) T.z_len (by decide +kernel) (ad_cons (pd_var 0) ad_nil)) (pd_globI (by rfl) T.c_VARIABLES))))).pt (sd_one (sd_ret pd_bl)) sd_nil) (sd_cons (sd_if (qd_not (qd_tr (pd_cb (cr_all rfl) cd_all (by rfl) T.z_all (by decide +kernel) (ad_cons (pd_L (pl_lc (own := [("variable", 1)]) rfl sc_are_variables.nd (id_seq (pd_var 0)) (blkOk_by (own := [("variable", 1)]) (N := N_are_variables) (sc := defScope s_are_variables) (by decide +kernel)) (fun _ _ _ _ _ => (gd_name (i := 1) sc_are_variables.nd rfl (Or.inl rfl) (by decide))) (fun _ _ _ _ _ => td_nil) (fun _ _ _ _ _ => (by refine pd_call (k := 4) (f := T.a_is_variable) (fd := T.d_is_variable) (ps := P_is_variable) (F := F_is_variable) ?_ ?_ ?_ ?_ ?_ ?_ ?_ ?_; exact d_is_variable T; exact hr.mono (by decide); exact rfl; exact T.g_is_variable; exact T.F_is_variable.kp; exact b_is_variable T; exact wok0; exact (ad_cons (pd_var 1) ad_nil))))) ad_nil)))) (sd_one (sd_ret pd_bl)) sd_nil) (sd_one (sd_ret (pd_eq hr.units (pd_lenSetS (by rfl) T.z_len (by rfl) T.z_set (by refine pd_call (k := 1) (f := T.a_names_of) (fd := T.d_names_of) (ps := P_names_of) (F := F_names_of) ?_ ?_ ?_ ?_ ?_ ?_ ?_ ?_; exact d_names_of T; exact hr.mono (by decide); exact rfl; exact T.g_names_of; exact T.F_names_of.kp; exact b_names_of T; exact (wok_takes (takes_of rfl rfl rfl rfl)); exact (ad_cons (pd_var 0) ad_nil))) (pd_cb call_len cd_len (by rfl) T.z_len (by decide +kernel) (ad_cons (pd_var 0) ad_nil))))))))
def B_sizes_and_bounds : DS := (sRet (eDc (aDc (iSeq (eVar 0)) (gT (gCons' (gN 1) (gCons' (gN 2) (gCons' (gN 3) gNil'))) 3) tYesD (eVar 1) (eTup (aCons (eVar 2) (aCons (eVar 3) aNil))) [1, 2, 3])))
def F_sizes_and_bounds : DF := runB 4 1 B_sizes_and_bounds
theorem d_sizes_and_bounds (T : Txt K mg) : FnD P w K mg base 1 T.a_sizes_and_bounds T.d_sizes_and_bounds P_sizes_and_bounds F_sizes_and_bounds := fnD T.F_sizes_and_bounds sc_sizes_and_bounds (by decide) B_sizes_and_bounds (fun cdv A outer s H E hr => (sd_one (sd_ret (pd_D (pl_dc (own := [("name", 1), ("size", 2), ("bounds", 3)]) rfl sc_sizes_and_bounds.nd (id_seq (pd_var 0)) (blkOk_by (own := [("name", 1), ("size", 2), ("bounds", 3)]) (N := N_sizes_and_bounds) (sc := defScope s_sizes_and_bounds) (by decide +kernel)) (fun _ _ _ _ _ => (gd_tup rfl (gd_cons (gd_name (i := 1) sc_sizes_and_bounds.nd rfl (Or.inl rfl) (by decide)) (gd_cons (gd_name (i := 2) sc_sizes_and_bounds.nd rfl (Or.inl rfl) (by decide)) (gd_cons (gd_name (i := 3) sc_sizes_and_bounds.nd rfl (Or.inl rfl) (by decide)) gd_nil))))) (fun _ _ _ _ _ => td_nil) (fun _ _ _ _ _ => (pd_var 1)) (fun _ _ _ _ _ => (pd_tup (ad_cons (pd_var 2) (ad_cons (pd_var 3) ad_nil)))))))))
def B_is_member : DS := (sSeq (sIf (tOn (tNo (tTr (eCB fIsi (aCons (eVar 1) (aCons (eC (.ty "tuple")) aNil))))) (tE (eBin fNe (eCB fLen (aCons (eVar 1) aNil)) (eC (.int 2))))) (sRet (eC (.bl false))) sNx) (sSeq (sTg (gT (gCons' (gN 2) (gCons' (gN 3) gNil')) 2) (eVar 1)) (sSeq (sIf (tOn (tNo (tTr (eCB fIsi (aCons (eVar 2) (aCons (eC (.ty "str")) aNil))))) (tOn (tE (eInF true (eVar 2) (eVar 0))) (tNo (tTr (eCB fIsi (aCons (eVar 3) (aCons (eC (.ty "tuple")) aNil))))))) (sRet (eC (.bl false))) sNx) (sRet (eOr (eBin fEq (eCB fLen (aCons (eVar 3) aNil)) (eC (.int 0))) (eCall 2 F_is_element (aCons (eBin fIx (eGetF (eVar 0) (eVar 2)) (eC (.int 1))) (aCons (eVar 3) aNil))))))))
def F_is_member : DF := runB 4 2 B_is_member
theorem d_is_member (T : Txt K mg) : FnD P w K mg base 3 T.a_is_member T.d_is_member P_is_member F_is_member := fnD T.F_is_member sc_is_member (by decide) B_is_member (fun cdv A outer s H E hr => (sd_cons (sd_if (qd_or (qd_not (qd_tr (pd_cb call_isiA cd_isi (by rfl) T.z_isinstance (by decide +kernel) (ad_cons (pd_var 1) (ad_cons (pd_ty (by rfl) T.z_tuple (by decide +kernel)) ad_nil))))) (qd_or1 (qd_ne hr.units (pd_cb call_len cd_len (by rfl) T.z_len (by decide +kernel) (ad_cons (pd_var 1) ad_nil)) pd_int))).pt (sd_one (sd_ret pd_bl)) sd_nil) (sd_cons (sd_tg (vs := [2, 3]) (ps_asg (pd_var 1) (gd_tup rfl (gd_cons (gd_name (i := 2) sc_is_member.nd rfl (Or.inl rfl) (by decide)) (gd_cons (gd_name (i := 3) sc_is_member.nd rfl (Or.inl rfl) (by decide)) gd_nil))))) (sd_cons (sd_if (qd_or (qd_not (qd_tr (pd_cb call_isiA cd_isi (by rfl) T.z_isinstance (by decide +kernel) (ad_cons (pd_var 2) (ad_cons (pd_ty (by rfl) T.z_str (by decide +kernel)) ad_nil))))) (qd_or (qd_ninF (units1 hr) (pd_var 2) (pd_var 0) (by rfl)) (qd_or1 (qd_not (qd_tr (pd_cb call_isiA cd_isi (by rfl) T.z_isinstance (by decide +kernel) (ad_cons (pd_var 3) (ad_cons (pd_ty (by rfl) T.z_tuple (by decide +kernel)) ad_nil)))))))).pt (sd_one (sd_ret pd_bl)) sd_nil) (sd_one (sd_ret (pd_or (pd_eq hr.units (pd_cb call_len cd_len (by rfl) T.z_len (by decide +kernel) (ad_cons (pd_var 3) ad_nil)) pd_int) (pd_one (by refine pd_call (k := 2) (f := T.a_is_element) (fd := T.d_is_element) (ps := P_is_element) (F := F_is_element) ?_ ?_ ?_ ?_ ?_ ?_ ?_ ?_; exact d_is_element T; exact hr.mono (by decide); exact rfl; exact T.g_is_element; exact T.F_is_element.kp; exact b_is_element T; exact (wok_takes (takes_of rfl rfl rfl rfl)); exact (ad_cons (pd_ix (pd_getF (units1 hr) (pd_var 0) (pd_var 2) (fun _ _ => rfl)) pd_int) (ad_cons (pd_var 3) ad_nil)))))))))))
def B_is_row : DS := (sSeq (sIf (tOn (tNo (tTr (eCB fIsi (aCons (eVar 1) (aCons (eTup (aCons (eC (.ty "list")) (aCons (eC (.ty "tuple")) aNil))) aNil))))) (tNo (tE (eChain fLe fLe (eC (.int 2)) (eCB fLen (aCons (eVar 1) aNil)) (eC (.int 10)))))) (sRet (eC (.bl false))) sNx) (sRet (eCB fAll (aCons (eL (aLc (iSeq (eVar 1)) (gN 2) tYesD (eCall 2 F_is_member (aCons (eVar 0) (aCons (eVar 2) aNil))) [2])) aNil))))
def F_is_row : DF := runB 3 2 B_is_row
theorem d_is_row (T : Txt K mg) : FnD P w K mg base 4 T.a_is_row T.d_is_row P_is_row F_is_row := fnD T.F_is_row sc_is_row (by decide) B_is_row (fun cdv A outer s H E hr => (sd_cons (sd_if (qd_or (qd_not (qd_tr (pd_cb call_isiA cd_isi (by rfl) T.z_isinstance (by decide +kernel) (ad_cons (pd_var 1) (ad_cons (pd_tup (ad_cons (pd_ty (by rfl) T.z_list (by decide +kernel)) (ad_cons (pd_ty (by rfl) T.z_tuple (by decide +kernel)) ad_nil))) ad_nil))))) (qd_or1 (qd_not (qd_chain op_le op_le opd_cmp opd_cmp pd_int (pd_cb call_len cd_len (by rfl) T.z_len (by decide +kernel) (ad_cons (pd_var 1) ad_nil)) (pd_globI (by rfl) T.c_MEMBERS))))).pt (sd_one (sd_ret pd_bl)) sd_nil) (sd_one (sd_ret (pd_cb (cr_all rfl) cd_all (by rfl) T.z_all (by decide +kernel) (ad_cons (pd_L (pl_lc (own := [("member", 2)]) rfl sc_is_row.nd (id_seq (pd_var 1)) (blkOk_by (own := [("member", 2)]) (N := N_is_row) (sc := defScope s_is_row) (by decide +kernel)) (fun _ _ _ _ _ => (gd_name (i := 2) sc_is_row.nd rfl (Or.inl rfl) (by decide))) (fun _ _ _ _ _ => td_nil) (fun _ _ _ _ _ => (by refine pd_call (k := 3) (f := T.a_is_member) (fd := T.d_is_member) (ps := P_is_member) (F := F_is_member) ?_ ?_ ?_ ?_ ?_ ?_ ?_ ?_; exact d_is_member T; exact hr.mono (by decide); exact rfl; exact T.g_is_member; exact T.F_is_member.kp; exact b_is_member T; exact wok0; exact (ad_cons (pd_var 0) (ad_cons (pd_var 2) ad_nil)))))) ad_nil))))))
def B_are_rows : DS := (sSeq (sIf (tOn (tNo (tTr (eCB fIsi (aCons (eVar 1) (aCons (eTup (aCons (eC (.ty "list")) (aCons (eC (.ty "tuple")) aNil))) aNil))))) (tE (eBin fGt (eCB fLen (aCons (eVar 1) aNil)) (eC (.int 40))))) (sRet (eC (.bl false))) sNx) (sSeq (sAsg 2 (eCall 1 F_sizes_and_bounds (aCons (eVar 0) aNil))) (sRet (eCB fAll (aCons (eL (aLc (iSeq (eVar 1)) (gN 3) tYesD (eCall 2 F_is_row (aCons (eVar 2) (aCons (eVar 3) aNil))) [3])) aNil)))))
def F_are_rows : DF := runB 4 2 B_are_rows
theorem d_are_rows (T : Txt K mg) : FnD P w K mg base 5 T.a_are_rows T.d_are_rows P_are_rows F_are_rows := fnD T.F_are_rows sc_are_rows (by decide) B_are_rows (fun cdv A outer s H E hr => (sd_cons (sd_if (qd_or (qd_not (qd_tr (pd_cb call_isiA cd_isi (by rfl) T.z_isinstance (by decide +kernel) (ad_cons (pd_var 1) (ad_cons (pd_tup (ad_cons (pd_ty (by rfl) T.z_list (by decide +kernel)) (ad_cons (pd_ty (by rfl) T.z_tuple (by decide +kernel)) ad_nil))) ad_nil))))) (qd_or1 (qd_gt (pd_cb call_len cd_len (by rfl) T.z_len (by decide +kernel) (ad_cons (pd_var 1) ad_nil)) (pd_globI (by rfl) T.c_ROWS)))).pt (sd_one (sd_ret pd_bl)) sd_nil) (sd_cons (sd_asg (ps_set (i := 2) sc_are_rows.nd rfl (Or.inr rfl) (by refine pd_call (k := 1) (f := T.a_sizes_and_bounds) (fd := T.d_sizes_and_bounds) (ps := P_sizes_and_bounds) (F := F_sizes_and_bounds) ?_ ?_ ?_ ?_ ?_ ?_ ?_ ?_; exact d_sizes_and_bounds T; exact hr.mono (by decide); exact rfl; exact T.g_sizes_and_bounds; exact T.F_sizes_and_bounds.kp; exact b_sizes_and_bounds T; exact (wok_takes (takes_of rfl rfl rfl rfl)); exact (ad_cons (pd_var 0) ad_nil)))) (sd_one (sd_ret (pd_cb (cr_all rfl) cd_all (by rfl) T.z_all (by decide +kernel) (ad_cons (pd_L (pl_lc (own := [("row", 3)]) rfl sc_are_rows.nd (id_seq (pd_var 1)) (blkOk_by (own := [("row", 3)]) (N := N_are_rows) (sc := defScope s_are_rows) (by decide +kernel)) (fun _ _ _ _ _ => (gd_name (i := 3) sc_are_rows.nd rfl (Or.inl rfl) (by decide))) (fun _ _ _ _ _ => td_nil) (fun _ _ _ _ _ => (by refine pd_call (k := 4) (f := T.a_is_row) (fd := T.d_is_row) (ps := P_is_row) (F := F_is_row) ?_ ?_ ?_ ?_ ?_ ?_ ?_ ?_; exact d_is_row T; exact hr.mono (by decide); exact rfl; exact T.g_is_row; exact T.F_is_row.kp; exact b_is_row T; exact wok0; exact (ad_cons (pd_var 2) (ad_cons (pd_var 3) ad_nil)))))) ad_nil)))))))
def B_check_variables : DS := (sIf (tNo (tTr (eCall 1 F_are_variables (aCons (eVar 0) aNil)))) sNever sNx)
def F_check_variables : DF := runB 1 1 B_check_variables
theorem d_check_variables (T : Txt K mg) : FnD P w K mg base 6 T.a_check_variables T.d_check_variables P_check_variables F_check_variables := fnD T.F_check_variables sc_check_variables (by decide) B_check_variables (fun cdv A outer s H E hr => (sd_one (sd_if (qd_not (qd_tr (by refine pd_call (k := 5) (f := T.a_are_variables) (fd := T.d_are_variables) (ps := P_are_variables) (F := F_are_variables) ?_ ?_ ?_ ?_ ?_ ?_ ?_ ?_; exact d_are_variables T; exact hr.mono (by decide); exact rfl; exact T.g_are_variables; exact T.F_are_variables.kp; exact b_are_variables T; exact (wok_takes (takes_of rfl rfl rfl rfl)); exact (ad_cons (pd_var 0) ad_nil)))) (sd_one sd_never) sd_nil)))
def B_check_rows : DS := (sIf (tNo (tTr (eCall 2 F_are_rows (aCons (eVar 0) (aCons (eVar 1) aNil))))) sNever sNx)
def F_check_rows : DF := runB 2 2 B_check_rows
theorem d_check_rows (T : Txt K mg) : FnD P w K mg base 6 T.a_check_rows T.d_check_rows P_check_rows F_check_rows := fnD T.F_check_rows sc_check_rows (by decide) B_check_rows (fun cdv A outer s H E hr => (sd_one (sd_if (qd_not (qd_tr (by refine pd_call (k := 5) (f := T.a_are_rows) (fd := T.d_are_rows) (ps := P_are_rows) (F := F_are_rows) ?_ ?_ ?_ ?_ ?_ ?_ ?_ ?_; exact d_are_rows T; exact hr.mono (by decide); exact rfl; exact T.g_are_rows; exact T.F_are_rows.kp; exact b_are_rows T; exact (wok_takes (takes_of rfl rfl rfl rfl)); exact (ad_cons (pd_var 0) (ad_cons (pd_var 1) ad_nil))))) (sd_one sd_never) sd_nil)))
def B_check_layout : DS := (sSeq (sDrop (eCall 1 F_check_variables (aCons (eVar 0) aNil))) (sDrop (eCall 2 F_check_rows (aCons (eVar 0) (aCons (eVar 1) aNil)))))
def F_check_layout : DF := runB 2 2 B_check_layout
theorem d_check_layout (T : Txt K mg) : FnD P w K mg base 7 T.a_check_layout T.d_check_layout P_check_layout F_check_layout := fnD T.F_check_layout sc_check_layout (by decide) B_check_layout (fun cdv A outer s H E hr => (sd_cons (sd_expr (by refine pd_call (k := 6) (f := T.a_check_variables) (fd := T.d_check_variables) (ps := P_check_variables) (F := F_check_variables) ?_ ?_ ?_ ?_ ?_ ?_ ?_ ?_; exact d_check_variables T; exact hr.mono (by decide); exact rfl; exact T.g_check_variables; exact T.F_check_variables.kp; exact b_check_variables T; exact (wok_takes (takes_of rfl rfl rfl rfl)); exact (ad_cons (pd_var 0) ad_nil))) (sd_one (sd_expr (by refine pd_call (k := 6) (f := T.a_check_rows) (fd := T.d_check_rows) (ps := P_check_rows) (F := F_check_rows) ?_ ?_ ?_ ?_ ?_ ?_ ?_ ?_; exact d_check_rows T; exact hr.mono (by decide); exact rfl; exact T.g_check_rows; exact T.F_check_rows.kp; exact b_check_rows T; exact (wok_takes (takes_of rfl rfl rfl rfl)); exact (ad_cons (pd_var 0) (ad_cons (pd_var 1) ad_nil)))))))
def B_units_ahead : DS := (sSeq (sTg (gT (gCons' (gN 2) (gCons' (gN 3) gNil')) 2) (eVar 0)) (sRet (eBin fMul (eVar 2) (eCall 2 F_place_there (aCons (eVar 3) (aCons (eVar 1) aNil))))))
def F_units_ahead : DF := runB 4 2 B_units_ahead
theorem d_units_ahead (T : Txt K mg) : FnD P w K mg base 4 T.a_units_ahead T.d_units_ahead P_units_ahead F_units_ahead := fnD T.F_units_ahead sc_units_ahead (by decide) B_units_ahead (fun cdv A outer s H E hr => (sd_cons (sd_tg (vs := [2, 3]) (ps_asg (pd_var 0) (gd_tup rfl (gd_cons (gd_name (i := 2) sc_units_ahead.nd rfl (Or.inl rfl) (by decide)) (gd_cons (gd_name (i := 3) sc_units_ahead.nd rfl (Or.inl rfl) (by decide)) gd_nil))))) (sd_one (sd_ret (pd_mul (pd_var 2) (by refine pd_call (k := 3) (f := T.a_place_there) (fd := T.d_place_there) (ps := P_place_there) (F := F_place_there) ?_ ?_ ?_ ?_ ?_ ?_ ?_ ?_; exact d_place_there T; exact hr.mono (by decide); exact rfl; exact T.g_place_there; exact T.F_place_there.kp; exact b_place_there T; exact (wok_takes (takes_of rfl rfl rfl rfl)); exact (ad_cons (pd_var 3) (ad_cons (pd_var 1) ad_nil))))))))
def B_lines_of : DS := (sSeq (sAsg 2 (eCall 1 F_sizes_and_bounds (aCons (eVar 0) aNil))) (sRet (eL (aLc (iEnumS (aCons (eVar 1) aNil)) (gT (gCons' (gN 3) (gCons' (gN 4) gNil')) 2) tYesD (eTup (aCons (eVar 3) (aCons (eL (aLc (iSeq (eVar 4)) (gT (gCons' (gN 5) (gCons' (gN 6) gNil')) 2) tYesD (eTup (aCons (eVar 5) (aCons (eCall 2 F_units_ahead (aCons (eGetF (eVar 2) (eVar 5)) (aCons (eVar 6) aNil))) aNil))) [5, 6])) aNil))) [3, 4]))))
def F_lines_of : DF := runB 7 2 B_lines_of
theorem d_lines_of (T : Txt K mg) : FnD P w K mg base 5 T.a_lines_of T.d_lines_of P_lines_of F_lines_of := fnD T.F_lines_of sc_lines_of (by decide) B_lines_of (fun cdv A outer s H E hr => (sd_cons (sd_asg (ps_set (i := 2) sc_lines_of.nd rfl (Or.inr rfl) (by refine pd_call (k := 1) (f := T.a_sizes_and_bounds) (fd := T.d_sizes_and_bounds) (ps := P_sizes_and_bounds) (F := F_sizes_and_bounds) ?_ ?_ ?_ ?_ ?_ ?_ ?_ ?_; exact d_sizes_and_bounds T; exact hr.mono (by decide); exact rfl; exact T.g_sizes_and_bounds; exact T.F_sizes_and_bounds.kp; exact b_sizes_and_bounds T; exact (wok_takes (takes_of rfl rfl rfl rfl)); exact (ad_cons (pd_var 0) ad_nil)))) (sd_one (sd_ret (pd_L (pl_lc (own := [("number", 3), ("row", 4)]) rfl sc_lines_of.nd (id_enumS (by rfl) T.z_enumerate (ad_cons (pd_var 1) ad_nil)) (blkOk_by (own := [("number", 3), ("row", 4)]) (N := N_lines_of) (sc := defScope s_lines_of) (by decide +kernel)) (fun _ _ _ _ _ => (gd_tup rfl (gd_cons (gd_name (i := 3) sc_lines_of.nd rfl (Or.inl rfl) (by decide)) (gd_cons (gd_name (i := 4) sc_lines_of.nd rfl (Or.inl rfl) (by decide)) gd_nil)))) (fun _ _ _ _ _ => td_nil) (fun _ _ _ _ _ => (pd_tup (ad_cons (pd_var 3) (ad_cons (pd_L (pl_lc (own := [("name", 5), ("at", 6)]) rfl sc_lines_of.nd (id_seq (pd_var 4)) (blkOk_by (own := [("name", 5), ("at", 6)]) (N := N_lines_of) (sc := (compEnvC _ _ _ _).scope) (by first | exact (rfl : blkC _ _ _ _ = true) | (simp only [compEnvC, relabel, List.map]; rfl) | (simp [compEnvC, relabel]; decide +kernel))) (fun _ _ _ _ _ => (gd_tup rfl (gd_cons (gd_name (i := 5) sc_lines_of.nd rfl (Or.inl rfl) (by decide)) (gd_cons (gd_name (i := 6) sc_lines_of.nd rfl (Or.inl rfl) (by decide)) gd_nil)))) (fun _ _ _ _ _ => td_nil) (fun _ _ _ _ _ => (pd_tup (ad_cons (pd_var 5) (ad_cons (by refine pd_call (k := 4) (f := T.a_units_ahead) (fd := T.d_units_ahead) (ps := P_units_ahead) (F := F_units_ahead) ?_ ?_ ?_ ?_ ?_ ?_ ?_ ?_; exact d_units_ahead T; exact hr.mono (by decide); exact rfl; exact T.g_units_ahead; exact T.F_units_ahead.kp; exact b_units_ahead T; exact wok0; exact (ad_cons (pd_getF (units1 hr) (pd_var 2) (pd_var 5) (fun _ _ => rfl)) (ad_cons (pd_var 6) ad_nil))) ad_nil)))))) ad_nil))))))))))
def B_stretches_of : DS := (sRet (eDc (aDc (iSeq (eVar 0)) (gT (gCons' (gN 2) (gCons' (gN 3) (gCons' (gN 4) gNil'))) 3) tYesD (eVar 2) (eBin fAdd (eGetF (eVar 1) (eVar 2)) (eTup (aCons (eVar 3) (aCons (eCall 1 F_size_of (aCons (eVar 4) aNil)) aNil)))) [2, 3, 4])))
def F_stretches_of : DF := runB 5 2 B_stretches_of
theorem d_stretches_of (T : Txt K mg) : FnD P w K mg base 3 T.a_stretches_of T.d_stretches_of P_stretches_of F_stretches_of := fnD T.F_stretches_of sc_stretches_of (by decide) B_stretches_of (fun cdv A outer s H E hr => (sd_one (sd_ret (pd_D (pl_dc (own := [("name", 2), ("size", 3), ("bounds", 4)]) rfl sc_stretches_of.nd (id_seq (pd_var 0)) (blkOk_by (own := [("name", 2), ("size", 3), ("bounds", 4)]) (N := N_stretches_of) (sc := defScope s_stretches_of) (by decide +kernel)) (fun _ _ _ _ _ => (gd_tup rfl (gd_cons (gd_name (i := 2) sc_stretches_of.nd rfl (Or.inl rfl) (by decide)) (gd_cons (gd_name (i := 3) sc_stretches_of.nd rfl (Or.inl rfl) (by decide)) (gd_cons (gd_name (i := 4) sc_stretches_of.nd rfl (Or.inl rfl) (by decide)) gd_nil))))) (fun _ _ _ _ _ => td_nil) (fun _ _ _ _ _ => (pd_var 2)) (fun _ _ _ _ _ => (pd_add (pd_getF (units1 hr) (pd_var 1) (pd_var 2) (fun _ _ => rfl)) (pd_tup (ad_cons (pd_var 3) (ad_cons (by refine pd_call (k := 2) (f := T.a_size_of) (fd := T.d_size_of) (ps := P_size_of) (F := F_size_of) ?_ ?_ ?_ ?_ ?_ ?_ ?_ ?_; exact d_size_of T; exact hr.mono (by decide); exact rfl; exact T.g_size_of; exact T.F_size_of.kp; exact b_size_of T; exact wok0; exact (ad_cons (pd_var 4) ad_nil)) ad_nil))))))))))
def B_end_of : DS := (sSeq (sTg (gT (gCons' (gN 1) (gCons' (gN 2) (gCons' (gN 3) (gCons' (gN 4) gNil')))) 4) (eVar 0)) (sRet (eBin fAdd (eVar 2) (eBin fMul (eVar 3) (eVar 4)))))
def F_end_of : DF := runB 5 1 B_end_of
theorem d_end_of (T : Txt K mg) : FnD P w K mg base 1 T.a_end_of T.d_end_of P_end_of F_end_of := fnD T.F_end_of sc_end_of (by decide) B_end_of (fun cdv A outer s H E hr => (sd_cons (sd_tg (vs := [1, 2, 3, 4]) (ps_asg (pd_var 0) (gd_tup rfl (gd_cons (gd_name (i := 1) sc_end_of.nd rfl (Or.inl rfl) (by decide)) (gd_cons (gd_name (i := 2) sc_end_of.nd rfl (Or.inl rfl) (by decide)) (gd_cons (gd_name (i := 3) sc_end_of.nd rfl (Or.inl rfl) (by decide)) (gd_cons (gd_name (i := 4) sc_end_of.nd rfl (Or.inl rfl) (by decide)) gd_nil))))))) (sd_one (sd_ret (pd_add (pd_var 2) (pd_mul (pd_var 3) (pd_var 4)))))))
def B_shared_units : DS := (sSeq (sIf (tE (eBin fNe (eBin fIx (eVar 0) (eC (.int 0))) (eBin fIx (eVar 1) (eC (.int 0))))) (sRet (eC .non)) sNx) (sSeq (sMul [2, 3] (mVal (eCB fMax2 (aCons (eBin fIx (eVar 0) (eC (.int 1))) (aCons (eBin fIx (eVar 1) (eC (.int 1))) aNil))) (mVal (eCB fMin2 (aCons (eCall 1 F_end_of (aCons (eVar 0) aNil)) (aCons (eCall 1 F_end_of (aCons (eVar 1) aNil)) aNil))) aNil))) (sRet (eIf (tE (eBin fLt (eVar 2) (eVar 3))) (eTup (aCons (eVar 2) (aCons (eVar 3) aNil))) (eC .non)))))
def F_shared_units : DF := runB 4 2 B_shared_units
theorem d_shared_units (T : Txt K mg) : FnD P w K mg base 2 T.a_shared_units T.d_shared_units P_shared_units F_shared_units := fnD T.F_shared_units sc_shared_units (by decide) B_shared_units (fun cdv A outer s H E hr => (sd_cons (sd_if (qd_ne hr.units (pd_ix (pd_var 0) pd_int) (pd_ix (pd_var 1) pd_int)) (sd_one (sd_ret pd_non)) sd_nil) (sd_cons (sd_par2 (ps_par rfl sc_shared_units.nd rfl rfl (by decide) rfl rfl (md_val (pd_cb (call_max2 rfl) cd_max2 (by rfl) T.z_max (by decide +kernel) (ad_cons (pd_ix (pd_var 0) pd_int) (ad_cons (pd_ix (pd_var 1) pd_int) ad_nil))) (md_val (pd_cb (call_min2 rfl) cd_min2 (by rfl) T.z_min (by decide +kernel) (ad_cons (by refine pd_call (k := 1) (f := T.a_end_of) (fd := T.d_end_of) (ps := P_end_of) (F := F_end_of) ?_ ?_ ?_ ?_ ?_ ?_ ?_ ?_; exact d_end_of T; exact hr.mono (by decide); exact rfl; exact T.g_end_of; exact T.F_end_of.kp; exact b_end_of T; exact (wok_takes (takes_of rfl rfl rfl rfl)); exact (ad_cons (pd_var 0) ad_nil)) (ad_cons (by refine pd_call (k := 1) (f := T.a_end_of) (fd := T.d_end_of) (ps := P_end_of) (F := F_end_of) ?_ ?_ ?_ ?_ ?_ ?_ ?_ ?_; exact d_end_of T; exact hr.mono (by decide); exact rfl; exact T.g_end_of; exact T.F_end_of.kp; exact b_end_of T; exact (wok_takes (takes_of rfl rfl rfl rfl)); exact (ad_cons (pd_var 1) ad_nil)) ad_nil))) md_nil)) rfl)) (sd_one (sd_ret (pd_if (qd_lt (pd_var 2) (pd_var 3)) (pd_tup (ad_cons (pd_var 2) (ad_cons (pd_var 3) ad_nil))) pd_non))))))
def B_touched_by : DS := (sSeq (sTg (gT (gCons' (gN 3) (gCons' (gN 4) (gCons' (gN 5) (gCons' (gN 6) gNil')))) 4) (eVar 0)) (sSeq (sAsg 7 (eCall 2 F_shared_units (aCons (eTup (aCons (eVar 3) (aCons (eBin fAdd (eVar 4) (eBin fMul (eVar 1) (eVar 5))) (aCons (eVar 5) (aCons (eC (.int 1)) aNil))))) (aCons (eVar 2) aNil)))) (sSeq (sIf (tE (eBin fIsN (eVar 7) (eC .non))) (sRet (eC .non)) sNx) (sSeq (sTg (gT (gCons' (gN 6) (gCons' (gN 8) (gCons' (gN 9) (gCons' (gN 6) gNil')))) 4) (eVar 2)) (sRet (eTup (aCons (eBin fDiv (eBin fSub (eBin fIx (eVar 7) (eC (.int 0))) (eVar 8)) (eVar 9)) (aCons (eBin fDiv (eBin fSub (eBin fSub (eBin fIx (eVar 7) (eC (.int 1))) (eC (.int 1))) (eVar 8)) (eVar 9)) aNil))))))))
def F_touched_by : DF := runB 10 3 B_touched_by
theorem d_touched_by (T : Txt K mg) : FnD P w K mg base 3 T.a_touched_by T.d_touched_by P_touched_by F_touched_by := fnD T.F_touched_by sc_touched_by (by decide) B_touched_by (fun cdv A outer s H E hr => (sd_cons (sd_tg (vs := [3, 4, 5, 6]) (ps_asg (pd_var 0) (gd_tup rfl (gd_cons (gd_name (i := 3) sc_touched_by.nd rfl (Or.inl rfl) (by decide)) (gd_cons (gd_name (i := 4) sc_touched_by.nd rfl (Or.inl rfl) (by decide)) (gd_cons (gd_name (i := 5) sc_touched_by.nd rfl (Or.inl rfl) (by decide)) (gd_cons (gd_name (i := 6) sc_touched_by.nd rfl (Or.inl rfl) (by decide)) gd_nil))))))) (sd_cons (sd_asg (ps_set (i := 7) sc_touched_by.nd rfl (Or.inl rfl) (by refine pd_call (k := 2) (f := T.a_shared_units) (fd := T.d_shared_units) (ps := P_shared_units) (F := F_shared_units) ?_ ?_ ?_ ?_ ?_ ?_ ?_ ?_; exact d_shared_units T; exact hr.mono (by decide); exact rfl; exact T.g_shared_units; exact T.F_shared_units.kp; exact b_shared_units T; exact (wok_takes (takes_of rfl rfl rfl rfl)); exact (ad_cons (pd_tup (ad_cons (pd_var 3) (ad_cons (pd_add (pd_var 4) (pd_mul (pd_var 1) (pd_var 5))) (ad_cons (pd_var 5) (ad_cons pd_int ad_nil))))) (ad_cons (pd_var 2) ad_nil))))) (sd_cons (sd_if (qd_isN (pd_var 7) pd_non) (sd_one (sd_ret pd_non)) sd_nil) (sd_cons (sd_tg (vs := [6, 8, 9]) (ps_asg (pd_var 2) (gd_tup rfl (gd_cons (gd_name (i := 6) sc_touched_by.nd rfl (Or.inl rfl) (by decide)) (gd_cons (gd_name (i := 8) sc_touched_by.nd rfl (Or.inl rfl) (by decide)) (gd_cons (gd_name (i := 9) sc_touched_by.nd rfl (Or.inl rfl) (by decide)) (gd_cons (gd_name (i := 6) sc_touched_by.nd rfl (Or.inl rfl) (by decide)) gd_nil))))))) (sd_one (sd_ret (pd_tup (ad_cons (pd_div (pd_sub (pd_ix (pd_var 7) pd_int) (pd_var 8)) (pd_var 9)) (ad_cons (pd_div (pd_sub (pd_sub (pd_ix (pd_var 7) pd_int) pd_int) (pd_var 8)) (pd_var 9)) ad_nil))))))))))
def B_begins_within : DS := (sSeq (sTg (gT (gCons' (gN 2) (gCons' (gN 3) (gCons' (gN 4) (gCons' (gN 2) gNil')))) 4) (eVar 0)) (sSeq (sTg (gT (gCons' (gN 5) (gCons' (gN 6) gNil')) 2) (eVar 1)) (sRet (eTup (aCons (eBin fAdd (eVar 3) (eBin fMul (eBin fAdd (eBin fDiv (eBin fSub (eVar 5) (eVar 3)) (eVar 4)) (eC (.int 1))) (eVar 4))) (aCons (eBin fSub (eVar 6) (eC (.int 1))) (aCons (eVar 4) aNil)))))))
def F_begins_within : DF := runB 7 2 B_begins_within
theorem d_begins_within (T : Txt K mg) : FnD P w K mg base 1 T.a_begins_within T.d_begins_within P_begins_within F_begins_within := fnD T.F_begins_within sc_begins_within (by decide) B_begins_within (fun cdv A outer s H E hr => (sd_cons (sd_tg (vs := [2, 3, 4]) (ps_asg (pd_var 0) (gd_tup rfl (gd_cons (gd_name (i := 2) sc_begins_within.nd rfl (Or.inl rfl) (by decide)) (gd_cons (gd_name (i := 3) sc_begins_within.nd rfl (Or.inl rfl) (by decide)) (gd_cons (gd_name (i := 4) sc_begins_within.nd rfl (Or.inl rfl) (by decide)) (gd_cons (gd_name (i := 2) sc_begins_within.nd rfl (Or.inl rfl) (by decide)) gd_nil))))))) (sd_cons (sd_tg (vs := [5, 6]) (ps_asg (pd_var 1) (gd_tup rfl (gd_cons (gd_name (i := 5) sc_begins_within.nd rfl (Or.inl rfl) (by decide)) (gd_cons (gd_name (i := 6) sc_begins_within.nd rfl (Or.inl rfl) (by decide)) gd_nil))))) (sd_one (sd_ret (pd_tup (ad_cons (pd_add (pd_var 3) (pd_mul (pd_add (pd_div (pd_sub (pd_var 5) (pd_var 3)) (pd_var 4)) pd_int) (pd_var 4))) (ad_cons (pd_sub (pd_var 6) pd_int) (ad_cons (pd_var 4) ad_nil)))))))))
def B_check_name : DS := (sIf (tOn (tNo (tTr (eCB fIsi (aCons (eVar 1) (aCons (eC (.ty "str")) aNil))))) (tE (eInF true (eVar 1) (eVar 0)))) sNever sNx)
def F_check_name : DF := runB 3 3 B_check_name
theorem d_check_name (T : Txt K mg) : FnD P w K mg base 1 T.a_check_name T.d_check_name P_check_name F_check_name := fnD T.F_check_name sc_check_name (by decide) B_check_name (fun cdv A outer s H E hr => (sd_one (sd_if (qd_or (qd_not (qd_tr (pd_cb call_isiA cd_isi (by rfl) T.z_isinstance (by decide +kernel) (ad_cons (pd_var 1) (ad_cons (pd_ty (by rfl) T.z_str (by decide +kernel)) ad_nil))))) (qd_or1 (qd_ninF (units1 hr) (pd_var 1) (pd_var 0) (by rfl)))).pt (sd_one sd_never) sd_nil)))
def B_check_number : DS := (sIf (tOn (tNo (tTr (eCall 1 F_is_number (aCons (eVar 1) aNil)))) (tNo (tE (eChain fLe fLt (eC (.int 0)) (eVar 1) (eBin fIx (eVar 0) (eC (.int 3))))))) sNever sNx)
def F_check_number : DF := runB 2 2 B_check_number
theorem d_check_number (T : Txt K mg) : FnD P w K mg base 2 T.a_check_number T.d_check_number P_check_number F_check_number := fnD T.F_check_number sc_check_number (by decide) B_check_number (fun cdv A outer s H E hr => (sd_one (sd_if (qd_or (qd_not (qd_tr (by refine pd_call (k := 1) (f := T.a_is_number) (fd := T.d_is_number) (ps := P_is_number) (F := F_is_number) ?_ ?_ ?_ ?_ ?_ ?_ ?_ ?_; exact d_is_number T; exact hr.mono (by decide); exact rfl; exact T.g_is_number; exact T.F_is_number.kp; exact b_is_number T; exact (wok_takes (takes_of rfl rfl rfl rfl)); exact (ad_cons (pd_var 1) ad_nil)))) (qd_or1 (qd_not (qd_chain op_le op_lt opd_cmp opd_cmp pd_int (pd_var 1) (pd_ix (pd_var 0) pd_int))))).pt (sd_one sd_never) sd_nil)))
def B_two_stretches : DS := (sSeq (sDrop (eCall 2 F_check_layout (aCons (eVar 0) (aCons (eVar 1) aNil)))) (sSeq (sAsg 4 (eCall 2 F_seats_by (aCons (eCall 1 F_names_of (aCons (eVar 0) aNil)) (aCons (eCall 2 F_lines_of (aCons (eVar 0) (aCons (eVar 1) aNil))) aNil)))) (sSeq (sIf (tE (eBin fIsN (eVar 4) (eC .non))) sNever sNx) (sSeq (sAsg 5 (eCall 2 F_stretches_of (aCons (eVar 0) (aCons (eVar 4) aNil)))) (sSeq (sDrop (eCall 3 F_check_name (aCons (eVar 5) (aCons (eVar 2) (aCons (eC (.str "one")) aNil))))) (sSeq (sDrop (eCall 3 F_check_name (aCons (eVar 5) (aCons (eVar 3) (aCons (eC (.str "other")) aNil))))) (sRet (eTup (aCons (eGetF (eVar 5) (eVar 2)) (aCons (eGetF (eVar 5) (eVar 3)) aNil))))))))))
def F_two_stretches : DF := runB 6 4 B_two_stretches
theorem d_two_stretches (T : Txt K mg) : FnD P w K mg base 8 T.a_two_stretches T.d_two_stretches P_two_stretches F_two_stretches := fnD T.F_two_stretches sc_two_stretches (by decide) B_two_stretches (fun cdv A outer s H E hr => (sd_cons (sd_expr (by refine pd_call (k := 7) (f := T.a_check_layout) (fd := T.d_check_layout) (ps := P_check_layout) (F := F_check_layout) ?_ ?_ ?_ ?_ ?_ ?_ ?_ ?_; exact d_check_layout T; exact hr.mono (by decide); exact rfl; exact T.g_check_layout; exact T.F_check_layout.kp; exact b_check_layout T; exact (wok_takes (takes_of rfl rfl rfl rfl)); exact (ad_cons (pd_var 0) (ad_cons (pd_var 1) ad_nil)))) (sd_cons (sd_asg (ps_set (i := 4) sc_two_stretches.nd rfl (Or.inl rfl) (by refine pd_call (k := 2) (f := T.a_seats_by) (fd := T.d_seats_by) (ps := P_seats_by) (F := F_seats_by) ?_ ?_ ?_ ?_ ?_ ?_ ?_ ?_; exact d_seats_by T; exact hr.mono (by decide); exact rfl; exact T.g_seats_by; exact T.F_seats_by.kp; exact b_seats_by T; exact (wok_takes (takes_of rfl rfl rfl rfl)); exact (ad_cons (by refine pd_call (k := 1) (f := T.a_names_of) (fd := T.d_names_of) (ps := P_names_of) (F := F_names_of) ?_ ?_ ?_ ?_ ?_ ?_ ?_ ?_; exact d_names_of T; exact hr.mono (by decide); exact rfl; exact T.g_names_of; exact T.F_names_of.kp; exact b_names_of T; exact (wok_takes (takes_of rfl rfl rfl rfl)); exact (ad_cons (pd_var 0) ad_nil)) (ad_cons (by refine pd_call (k := 5) (f := T.a_lines_of) (fd := T.d_lines_of) (ps := P_lines_of) (F := F_lines_of) ?_ ?_ ?_ ?_ ?_ ?_ ?_ ?_; exact d_lines_of T; exact hr.mono (by decide); exact rfl; exact T.g_lines_of; exact T.F_lines_of.kp; exact b_lines_of T; exact (wok_takes (takes_of rfl rfl rfl rfl)); exact (ad_cons (pd_var 0) (ad_cons (pd_var 1) ad_nil))) ad_nil))))) (sd_cons (sd_if (qd_isN (pd_var 4) pd_non) (sd_one sd_never) sd_nil) (sd_cons (sd_asg (ps_set (i := 5) sc_two_stretches.nd rfl (Or.inl rfl) (by refine pd_call (k := 3) (f := T.a_stretches_of) (fd := T.d_stretches_of) (ps := P_stretches_of) (F := F_stretches_of) ?_ ?_ ?_ ?_ ?_ ?_ ?_ ?_; exact d_stretches_of T; exact hr.mono (by decide); exact rfl; exact T.g_stretches_of; exact T.F_stretches_of.kp; exact b_stretches_of T; exact (wok_takes (takes_of rfl rfl rfl rfl)); exact (ad_cons (pd_var 0) (ad_cons (pd_var 4) ad_nil))))) (sd_cons (sd_expr (by refine pd_call (k := 1) (f := T.a_check_name) (fd := T.d_check_name) (ps := P_check_name) (F := F_check_name) ?_ ?_ ?_ ?_ ?_ ?_ ?_ ?_; exact d_check_name T; exact hr.mono (by decide); exact rfl; exact T.g_check_name; exact T.F_check_name.kp; exact b_check_name T; exact (wok_takes (takes_of rfl rfl rfl rfl)); exact (ad_cons (pd_var 5) (ad_cons (pd_var 2) (ad_cons pd_str ad_nil))))) (sd_cons (sd_expr (by refine pd_call (k := 1) (f := T.a_check_name) (fd := T.d_check_name) (ps := P_check_name) (F := F_check_name) ?_ ?_ ?_ ?_ ?_ ?_ ?_ ?_; exact d_check_name T; exact hr.mono (by decide); exact rfl; exact T.g_check_name; exact T.F_check_name.kp; exact b_check_name T; exact (wok_takes (takes_of rfl rfl rfl rfl)); exact (ad_cons (pd_var 5) (ad_cons (pd_var 3) (ad_cons pd_str ad_nil))))) (sd_one (sd_ret (pd_tup (ad_cons (pd_getF (units1 hr) (pd_var 5) (pd_var 2) (fun _ _ => rfl)) (ad_cons (pd_getF (units1 hr) (pd_var 5) (pd_var 3) (fun _ _ => rfl)) ad_nil))))))))))))
def B_in_order : DS := (sSeq (sMul [2, 3] (mDct false (mDct false aNil))) (sSeq (sFor (iSeq (eVar 0)) (gN 4) (sSeq (sTg (gT (gCons' (gN 5) (gCons' (gN 6) gNil')) 2) (eGetF (eVar 1) (eVar 4))) (sSeq (sSetd 2 (eVar 5) (eVar 4)) (sPutD 3 (eVar 5) (eCB fMin2 (aCons (eVar 6) (aCons (eGet2 3 (eVar 5) (eVar 6)) aNil))))))) (sRet (eL (aLc (iSeq (eVar 0)) (gN 4) tYesD (eTup (aCons (eVar 4) (aCons (eGetD 2 (eBin fIx (eGetF (eVar 1) (eVar 4)) (eC (.int 0)))) (aCons (eBin fSub (eBin fIx (eGetF (eVar 1) (eVar 4)) (eC (.int 1))) (eGetD 3 (eBin fIx (eGetF (eVar 1) (eVar 4)) (eC (.int 0))))) aNil)))) [4])))))
def F_in_order : DF := runB 7 2 B_in_order
theorem d_in_order (T : Txt K mg) : FnD P w K mg base 1 T.a_in_order T.d_in_order P_in_order F_in_order := fnD T.F_in_order sc_in_order (by decide) B_in_order (fun cdv A outer s H E hr => (sd_cons (sd_multi (ps_asg (pe_tup (md_dctK pe_dnewK (md_dctK pe_dnewK md_nil))) (pg_tup rfl (pgs_cons (pg_name (i := 2) sc_in_order.nd rfl (Or.inr rfl)) (pgs_cons (pg_name (i := 3) sc_in_order.nd rfl (Or.inr rfl)) pgs_nil)))) rfl (by decide)) (sd_cons (sd_for (vs := [4]) (passes_of rfl) rfl (id_seq (pd_var 0)) (gd_name (i := 4) sc_in_order.nd rfl (Or.inl rfl) (by decide)) (sd_cons (sd_tg (vs := [5, 6]) (ps_asg (pd_getF (units1 hr) (pd_var 1) (pd_var 4) (fun _ _ => rfl)) (gd_tup rfl (gd_cons (gd_name (i := 5) sc_in_order.nd rfl (Or.inl rfl) (by decide)) (gd_cons (gd_name (i := 6) sc_in_order.nd rfl (Or.inl rfl) (by decide)) gd_nil))))) (sd_cons (sd_setd (i := 2) (ps_expr (pe_dsetd (pv 2) (pd_var 5) (pd_var 4) ⟨rfl, rfl, rfl, rfl⟩))) (sd_one (sd_putD (i := 3) (ps_dput (units1 hr) (pv 3) (pd_var 5) (pd_cb (call_min2 rfl) cd_min2 (by rfl) T.z_min (by decide +kernel) (ad_cons (pd_var 6) (ad_cons (pd_get2 (i := 3) (pe_dget2 (units1 hr) (pv 3) (pd_var 5) (pd_var 6) ⟨rfl, rfl, rfl, rfl⟩)) ad_nil))) rfl)))))) (sd_one (sd_ret (pd_L (pl_lc (own := [("name", 4)]) rfl sc_in_order.nd (id_seq (pd_var 0)) (blkOk_by (own := [("name", 4)]) (N := N_in_order) (sc := defScope s_in_order) (by decide +kernel)) (fun _ _ _ _ _ => (gd_name (i := 4) sc_in_order.nd rfl (Or.inl rfl) (by decide))) (fun _ _ _ _ _ => td_nil) (fun _ _ _ _ _ => (pd_tup (ad_cons (pd_var 4) (ad_cons (pd_getD (i := 2) (pe_dget (units1 hr) (pv 2) (pd_ix (pd_getF (units1 hr) (pd_var 1) (pd_var 4) (fun _ _ => rfl)) pd_int) (fun _ _ => rfl))) (ad_cons (pd_sub (pd_ix (pd_getF (units1 hr) (pd_var 1) (pd_var 4) (fun _ _ => rfl)) pd_int) (pd_getD (i := 3) (pe_dget (units1 hr) (pv 3) (pd_ix (pd_getF (units1 hr) (pd_var 1) (pd_var 4) (fun _ _ => rfl)) pd_int) (fun _ _ => rfl)))) ad_nil))))))))))))
def B_offsets : DS := (sSeq (sDrop (eCall 2 F_check_layout (aCons (eVar 0) (aCons (eVar 1) aNil)))) (sSeq (sAsg 2 (eCall 2 F_seats_by (aCons (eCall 1 F_names_of (aCons (eVar 0) aNil)) (aCons (eCall 2 F_lines_of (aCons (eVar 0) (aCons (eVar 1) aNil))) aNil)))) (sRet (eIf (tE (eBin fIsN (eVar 2) (eC .non))) (eC .non) (eCall 2 F_in_order (aCons (eCall 1 F_names_of (aCons (eVar 0) aNil)) (aCons (eVar 2) aNil)))))))
def F_offsets : DF := runB 3 2 B_offsets
theorem d_offsets (T : Txt K mg) : FnD P w K mg base 8 T.a_offsets T.d_offsets P_offsets F_offsets := fnD T.F_offsets sc_offsets (by decide) B_offsets (fun cdv A outer s H E hr => (sd_cons (sd_expr (by refine pd_call (k := 7) (f := T.a_check_layout) (fd := T.d_check_layout) (ps := P_check_layout) (F := F_check_layout) ?_ ?_ ?_ ?_ ?_ ?_ ?_ ?_; exact d_check_layout T; exact hr.mono (by decide); exact rfl; exact T.g_check_layout; exact T.F_check_layout.kp; exact b_check_layout T; exact (wok_takes (takes_of rfl rfl rfl rfl)); exact (ad_cons (pd_var 0) (ad_cons (pd_var 1) ad_nil)))) (sd_cons (sd_asg (ps_set (i := 2) sc_offsets.nd rfl (Or.inl rfl) (by refine pd_call (k := 2) (f := T.a_seats_by) (fd := T.d_seats_by) (ps := P_seats_by) (F := F_seats_by) ?_ ?_ ?_ ?_ ?_ ?_ ?_ ?_; exact d_seats_by T; exact hr.mono (by decide); exact rfl; exact T.g_seats_by; exact T.F_seats_by.kp; exact b_seats_by T; exact (wok_takes (takes_of rfl rfl rfl rfl)); exact (ad_cons (by refine pd_call (k := 1) (f := T.a_names_of) (fd := T.d_names_of) (ps := P_names_of) (F := F_names_of) ?_ ?_ ?_ ?_ ?_ ?_ ?_ ?_; exact d_names_of T; exact hr.mono (by decide); exact rfl; exact T.g_names_of; exact T.F_names_of.kp; exact b_names_of T; exact (wok_takes (takes_of rfl rfl rfl rfl)); exact (ad_cons (pd_var 0) ad_nil)) (ad_cons (by refine pd_call (k := 5) (f := T.a_lines_of) (fd := T.d_lines_of) (ps := P_lines_of) (F := F_lines_of) ?_ ?_ ?_ ?_ ?_ ?_ ?_ ?_; exact d_lines_of T; exact hr.mono (by decide); exact rfl; exact T.g_lines_of; exact T.F_lines_of.kp; exact b_lines_of T; exact (wok_takes (takes_of rfl rfl rfl rfl)); exact (ad_cons (pd_var 0) (ad_cons (pd_var 1) ad_nil))) ad_nil))))) (sd_one (sd_ret (pd_if (qd_isN (pd_var 2) pd_non) pd_non (by refine pd_call (k := 1) (f := T.a_in_order) (fd := T.d_in_order) (ps := P_in_order) (F := F_in_order) ?_ ?_ ?_ ?_ ?_ ?_ ?_ ?_; exact d_in_order T; exact hr.mono (by decide); exact rfl; exact T.g_in_order; exact T.F_in_order.kp; exact b_in_order T; exact (wok_takes (takes_of rfl rfl rfl rfl)); exact (ad_cons (by refine pd_call (k := 1) (f := T.a_names_of) (fd := T.d_names_of) (ps := P_names_of) (F := F_names_of) ?_ ?_ ?_ ?_ ?_ ?_ ?_ ?_; exact d_names_of T; exact hr.mono (by decide); exact rfl; exact T.g_names_of; exact T.F_names_of.kp; exact b_names_of T; exact (wok_takes (takes_of rfl rfl rfl rfl)); exact (ad_cons (pd_var 0) ad_nil)) (ad_cons (pd_var 2) ad_nil)))))))))
def B_are_bases : DS := (sSeq (sDrop (eCall 2 F_check_layout (aCons (eVar 0) (aCons (eVar 1) aNil)))) (sSeq (sIf (tOn (tNo (tTr (eCB fIsi (aCons (eVar 2) (aCons (eTup (aCons (eC (.ty "list")) (aCons (eC (.ty "tuple")) aNil))) aNil))))) (tE (eBin fNe (eCB fLen (aCons (eVar 2) aNil)) (eCB fLen (aCons (eVar 0) aNil))))) (sRet (eC (.bl false))) sNx) (sSeq (sIf (tNo (tTr (eCB fAll (aCons (eL (aLc (iSeq (eVar 2)) (gN 7) tYesD (eCall 1 F_is_number (aCons (eVar 7) aNil)) [7])) aNil)))) (sRet (eC (.bl false))) sNx) (sSeq (sAsg 3 (eDc (aDc (iZip (aCons (eCall 1 F_names_of (aCons (eVar 0) aNil)) (aCons (eVar 2) aNil))) (gT (gCons' (gN 6) (gCons' (gN 7) gNil')) 2) tYesD (eVar 6) (eVar 7) [6, 7]))) (sSeq (sFor (iSeq (eCall 2 F_lines_of (aCons (eVar 0) (aCons (eVar 1) aNil)))) (gT (gCons' (gN 4) (gCons' (gN 5) gNil')) 2) (sIf (tE (eBin fGt (eLenSS (iSeq (eVar 5)) (gT (gCons' (gN 6) (gCons' (gN 8) gNil')) 2) tYesD (eBin fAdd (eGetF (eVar 3) (eVar 6)) (eVar 8)) [6, 8]) (eC (.int 1)))) (sRet (eC (.bl false))) sNx)) (sRet (eC (.bl true))))))))
def F_are_bases : DF := runB 9 3 B_are_bases
theorem d_are_bases (T : Txt K mg) : FnD P w K mg base 8 T.a_are_bases T.d_are_bases P_are_bases F_are_bases := fnD T.F_are_bases sc_are_bases (by decide) B_are_bases (fun cdv A outer s H E hr => (sd_cons (sd_expr (by refine pd_call (k := 7) (f := T.a_check_layout) (fd := T.d_check_layout) (ps := P_check_layout) (F := F_check_layout) ?_ ?_ ?_ ?_ ?_ ?_ ?_ ?_; exact d_check_layout T; exact hr.mono (by decide); exact rfl; exact T.g_check_layout; exact T.F_check_layout.kp; exact b_check_layout T; exact (wok_takes (takes_of rfl rfl rfl rfl)); exact (ad_cons (pd_var 0) (ad_cons (pd_var 1) ad_nil)))) (sd_cons (sd_if (qd_or (qd_not (qd_tr (pd_cb call_isiA cd_isi (by rfl) T.z_isinstance (by decide +kernel) (ad_cons (pd_var 2) (ad_cons (pd_tup (ad_cons (pd_ty (by rfl) T.z_list (by decide +kernel)) (ad_cons (pd_ty (by rfl) T.z_tuple (by decide +kernel)) ad_nil))) ad_nil))))) (qd_or1 (qd_ne hr.units (pd_cb call_len cd_len (by rfl) T.z_len (by decide +kernel) (ad_cons (pd_var 2) ad_nil)) (pd_cb call_len cd_len (by rfl) T.z_len (by decide +kernel) (ad_cons (pd_var 0) ad_nil))))).pt (sd_one (sd_ret pd_bl)) sd_nil) (sd_cons (sd_if (qd_not (qd_tr (pd_cb (cr_all rfl) cd_all (by rfl) T.z_all (by decide +kernel) (ad_cons (pd_L (pl_lc (own := [("base", 7)]) rfl sc_are_bases.nd (id_seq (pd_var 2)) (blkOk_by (own := [("base", 7)]) (N := N_are_bases) (sc := defScope s_are_bases) (by decide +kernel)) (fun _ _ _ _ _ => (gd_name (i := 7) sc_are_bases.nd rfl (Or.inl rfl) (by decide))) (fun _ _ _ _ _ => td_nil) (fun _ _ _ _ _ => (by refine pd_call (k := 1) (f := T.a_is_number) (fd := T.d_is_number) (ps := P_is_number) (F := F_is_number) ?_ ?_ ?_ ?_ ?_ ?_ ?_ ?_; exact d_is_number T; exact hr.mono (by decide); exact rfl; exact T.g_is_number; exact T.F_is_number.kp; exact b_is_number T; exact wok0; exact (ad_cons (pd_var 7) ad_nil))))) ad_nil)))) (sd_one (sd_ret pd_bl)) sd_nil) (sd_cons (by first | exact sd_asg (asg_weak (ps_setDc (own := [("name", 6), ("base", 7)]) (i := 3) rfl sc_are_bases.nd rfl rfl rfl (id_zip2 (by rfl) T.z_zip (ad_cons (by refine pd_call (k := 1) (f := T.a_names_of) (fd := T.d_names_of) (ps := P_names_of) (F := F_names_of) ?_ ?_ ?_ ?_ ?_ ?_ ?_ ?_; exact d_names_of T; exact hr.mono (by decide); exact rfl; exact T.g_names_of; exact T.F_names_of.kp; exact b_names_of T; exact (wok_takes (takes_of rfl rfl rfl rfl)); exact (ad_cons (pd_var 0) ad_nil)) (ad_cons (pd_var 2) ad_nil)) (aCons_len (aCons_len (fun _ _ _ _ h => aNil_len h)))) (blkOk_by (own := [("name", 6), ("base", 7)]) (N := N_are_bases) (sc := defScope s_are_bases) (by decide +kernel)) (fun _ _ _ _ _ => (gd_tup rfl (gd_cons (gd_name (i := 6) sc_are_bases.nd rfl (Or.inl rfl) (by decide)) (gd_cons (gd_name (i := 7) sc_are_bases.nd rfl (Or.inl rfl) (by decide)) gd_nil)))) (fun _ _ _ _ _ => td_nil) (fun _ _ _ _ _ => (pd_var 6)) (fun _ _ _ _ _ => (pd_var 7))) (fun _ _ _ h => dc_ok (dE_ok h))) | exact sd_asg (ps_set (i := 3) sc_are_bases.nd rfl (Or.inr rfl) (pd_D (pl_dc (own := [("name", 6), ("base", 7)]) rfl sc_are_bases.nd (id_zip2 (by rfl) T.z_zip (ad_cons (by refine pd_call (k := 1) (f := T.a_names_of) (fd := T.d_names_of) (ps := P_names_of) (F := F_names_of) ?_ ?_ ?_ ?_ ?_ ?_ ?_ ?_; exact d_names_of T; exact hr.mono (by decide); exact rfl; exact T.g_names_of; exact T.F_names_of.kp; exact b_names_of T; exact (wok_takes (takes_of rfl rfl rfl rfl)); exact (ad_cons (pd_var 0) ad_nil)) (ad_cons (pd_var 2) ad_nil)) (aCons_len (aCons_len (fun _ _ _ _ h => aNil_len h)))) (blkOk_by (own := [("name", 6), ("base", 7)]) (N := N_are_bases) (sc := defScope s_are_bases) (by decide +kernel)) (fun _ _ _ _ _ => (gd_tup rfl (gd_cons (gd_name (i := 6) sc_are_bases.nd rfl (Or.inl rfl) (by decide)) (gd_cons (gd_name (i := 7) sc_are_bases.nd rfl (Or.inl rfl) (by decide)) gd_nil)))) (fun _ _ _ _ _ => td_nil) (fun _ _ _ _ _ => (pd_var 6)) (fun _ _ _ _ _ => (pd_var 7)))))) (sd_cons (sd_for (vs := [4, 5]) (passes_of rfl) rfl (id_seq (by refine pd_call (k := 5) (f := T.a_lines_of) (fd := T.d_lines_of) (ps := P_lines_of) (F := F_lines_of) ?_ ?_ ?_ ?_ ?_ ?_ ?_ ?_; exact d_lines_of T; exact hr.mono (by decide); exact rfl; exact T.g_lines_of; exact T.F_lines_of.kp; exact b_lines_of T; exact (wok_takes (takes_of rfl rfl rfl rfl)); exact (ad_cons (pd_var 0) (ad_cons (pd_var 1) ad_nil)))) (gd_tup rfl (gd_cons (gd_name (i := 4) sc_are_bases.nd rfl (Or.inl rfl) (by decide)) (gd_cons (gd_name (i := 5) sc_are_bases.nd rfl (Or.inl rfl) (by decide)) gd_nil))) (sd_one (sd_if (qd_gt (pd_lenSS (own := [("name", 6), ("ahead", 8)]) (by rfl) T.z_len rfl sc_are_bases.nd (id_seq (pd_var 5)) (blkOk_by (own := [("name", 6), ("ahead", 8)]) (N := N_are_bases) (sc := defScope s_are_bases) (by decide +kernel)) (fun _ _ _ _ _ => (gd_tup rfl (gd_cons (gd_name (i := 6) sc_are_bases.nd rfl (Or.inl rfl) (by decide)) (gd_cons (gd_name (i := 8) sc_are_bases.nd rfl (Or.inl rfl) (by decide)) gd_nil)))) (fun _ _ _ _ _ => td_nil) (fun _ _ _ _ _ => (pd_add (pd_getF (units1 hr) (pd_var 3) (pd_var 6) (fun _ _ => rfl)) (pd_var 8)))) pd_int) (sd_one (sd_ret pd_bl)) sd_nil))) (sd_one (sd_ret pd_bl))))))))
def B_shared : DS := (sSeq (sTg (gT (gCons' (gN 4) (gCons' (gN 5) gNil')) 2) (eCall 4 F_two_stretches (aCons (eVar 0) (aCons (eVar 1) (aCons (eVar 2) (aCons (eVar 3) aNil)))))) (sSeq (sAsg 6 (eCall 2 F_shared_units (aCons (eVar 4) (aCons (eVar 5) aNil)))) (sRet (eIf (tE (eBin fIsN (eVar 6) (eC .non))) (eC .non) (eTup (aCons (eBin fSub (eBin fIx (eVar 6) (eC (.int 0))) (eBin fIx (eVar 4) (eC (.int 1)))) (aCons (eBin fSub (eBin fIx (eVar 6) (eC (.int 1))) (eBin fIx (eVar 6) (eC (.int 0)))) aNil)))))))
def F_shared : DF := runB 7 4 B_shared
theorem d_shared (T : Txt K mg) : FnD P w K mg base 9 T.a_shared T.d_shared P_shared F_shared := fnD T.F_shared sc_shared (by decide) B_shared (fun cdv A outer s H E hr => (sd_cons (sd_tg (vs := [4, 5]) (ps_asg (by refine pd_call (k := 8) (f := T.a_two_stretches) (fd := T.d_two_stretches) (ps := P_two_stretches) (F := F_two_stretches) ?_ ?_ ?_ ?_ ?_ ?_ ?_ ?_; exact d_two_stretches T; exact hr.mono (by decide); exact rfl; exact T.g_two_stretches; exact T.F_two_stretches.kp; exact b_two_stretches T; exact (wok_takes (takes_of rfl rfl rfl rfl)); exact (ad_cons (pd_var 0) (ad_cons (pd_var 1) (ad_cons (pd_var 2) (ad_cons (pd_var 3) ad_nil))))) (gd_tup rfl (gd_cons (gd_name (i := 4) sc_shared.nd rfl (Or.inl rfl) (by decide)) (gd_cons (gd_name (i := 5) sc_shared.nd rfl (Or.inl rfl) (by decide)) gd_nil))))) (sd_cons (sd_asg (ps_set (i := 6) sc_shared.nd rfl (Or.inl rfl) (by refine pd_call (k := 2) (f := T.a_shared_units) (fd := T.d_shared_units) (ps := P_shared_units) (F := F_shared_units) ?_ ?_ ?_ ?_ ?_ ?_ ?_ ?_; exact d_shared_units T; exact hr.mono (by decide); exact rfl; exact T.g_shared_units; exact T.F_shared_units.kp; exact b_shared_units T; exact (wok_takes (takes_of rfl rfl rfl rfl)); exact (ad_cons (pd_var 4) (ad_cons (pd_var 5) ad_nil))))) (sd_one (sd_ret (pd_if (qd_isN (pd_var 6) pd_non) pd_non (pd_tup (ad_cons (pd_sub (pd_ix (pd_var 6) pd_int) (pd_ix (pd_var 4) pd_int)) (ad_cons (pd_sub (pd_ix (pd_var 6) pd_int) (pd_ix (pd_var 6) pd_int)) ad_nil)))))))))
def B_touched : DS := (sSeq (sTg (gT (gCons' (gN 5) (gCons' (gN 6) gNil')) 2) (eCall 4 F_two_stretches (aCons (eVar 0) (aCons (eVar 1) (aCons (eVar 2) (aCons (eVar 4) aNil)))))) (sSeq (sDrop (eCall 2 F_check_number (aCons (eVar 5) (aCons (eVar 3) aNil)))) (sRet (eCall 3 F_touched_by (aCons (eVar 5) (aCons (eVar 3) (aCons (eVar 6) aNil)))))))
def F_touched : DF := runB 7 5 B_touched
theorem d_touched (T : Txt K mg) : FnD P w K mg base 9 T.a_touched T.d_touched P_touched F_touched := fnD T.F_touched sc_touched (by decide) B_touched (fun cdv A outer s H E hr => (sd_cons (sd_tg (vs := [5, 6]) (ps_asg (by refine pd_call (k := 8) (f := T.a_two_stretches) (fd := T.d_two_stretches) (ps := P_two_stretches) (F := F_two_stretches) ?_ ?_ ?_ ?_ ?_ ?_ ?_ ?_; exact d_two_stretches T; exact hr.mono (by decide); exact rfl; exact T.g_two_stretches; exact T.F_two_stretches.kp; exact b_two_stretches T; exact (wok_takes (takes_of rfl rfl rfl rfl)); exact (ad_cons (pd_var 0) (ad_cons (pd_var 1) (ad_cons (pd_var 2) (ad_cons (pd_var 4) ad_nil))))) (gd_tup rfl (gd_cons (gd_name (i := 5) sc_touched.nd rfl (Or.inl rfl) (by decide)) (gd_cons (gd_name (i := 6) sc_touched.nd rfl (Or.inl rfl) (by decide)) gd_nil))))) (sd_cons (sd_expr (by refine pd_call (k := 2) (f := T.a_check_number) (fd := T.d_check_number) (ps := P_check_number) (F := F_check_number) ?_ ?_ ?_ ?_ ?_ ?_ ?_ ?_; exact d_check_number T; exact hr.mono (by decide); exact rfl; exact T.g_check_number; exact T.F_check_number.kp; exact b_check_number T; exact (wok_takes (takes_of rfl rfl rfl rfl)); exact (ad_cons (pd_var 5) (ad_cons (pd_var 3) ad_nil)))) (sd_one (sd_ret (by refine pd_call (k := 3) (f := T.a_touched_by) (fd := T.d_touched_by) (ps := P_touched_by) (F := F_touched_by) ?_ ?_ ?_ ?_ ?_ ?_ ?_ ?_; exact d_touched_by T; exact hr.mono (by decide); exact rfl; exact T.g_touched_by; exact T.F_touched_by.kp; exact b_touched_by T; exact (wok_takes (takes_of rfl rfl rfl rfl)); exact (ad_cons (pd_var 5) (ad_cons (pd_var 3) (ad_cons (pd_var 6) ad_nil)))))))))
def B_pairs_number : DS := (sSeq (sTg (gT (gCons' (gN 4) (gCons' (gN 5) gNil')) 2) (eCall 4 F_two_stretches (aCons (eVar 0) (aCons (eVar 1) (aCons (eVar 2) (aCons (eVar 3) aNil)))))) (sSeq (sAsg 6 (eCall 2 F_shared_units (aCons (eVar 4) (aCons (eVar 5) aNil)))) (sSeq (sIf (tE (eBin fIsN (eVar 6) (eC .non))) (sRet (eC (.int 0))) sNx) (sSeq (sMul [7, 8] (mVal (eCall 2 F_begins_within (aCons (eVar 4) (aCons (eVar 6) aNil))) (mVal (eCall 2 F_begins_within (aCons (eVar 5) (aCons (eVar 6) aNil))) aNil))) (sRet (eBin fSub (eBin fAdd (eBin fAdd (eC (.int 1)) (eCall 1 F_many_of (aCons (eVar 7) aNil))) (eCall 1 F_many_of (aCons (eVar 8) aNil))) (eCall 1 F_many_of (aCons (eCall 2 F_met_of (aCons (eVar 7) (aCons (eVar 8) aNil))) aNil))))))))
def F_pairs_number : DF := runB 9 4 B_pairs_number
theorem d_pairs_number (T : Txt K mg) : FnD P w K mg base 9 T.a_pairs_number T.d_pairs_number P_pairs_number F_pairs_number := fnD T.F_pairs_number sc_pairs_number (by decide) B_pairs_number (fun cdv A outer s H E hr => (sd_cons (sd_tg (vs := [4, 5]) (ps_asg (by refine pd_call (k := 8) (f := T.a_two_stretches) (fd := T.d_two_stretches) (ps := P_two_stretches) (F := F_two_stretches) ?_ ?_ ?_ ?_ ?_ ?_ ?_ ?_; exact d_two_stretches T; exact hr.mono (by decide); exact rfl; exact T.g_two_stretches; exact T.F_two_stretches.kp; exact b_two_stretches T; exact (wok_takes (takes_of rfl rfl rfl rfl)); exact (ad_cons (pd_var 0) (ad_cons (pd_var 1) (ad_cons (pd_var 2) (ad_cons (pd_var 3) ad_nil))))) (gd_tup rfl (gd_cons (gd_name (i := 4) sc_pairs_number.nd rfl (Or.inl rfl) (by decide)) (gd_cons (gd_name (i := 5) sc_pairs_number.nd rfl (Or.inl rfl) (by decide)) gd_nil))))) (sd_cons (sd_asg (ps_set (i := 6) sc_pairs_number.nd rfl (Or.inl rfl) (by refine pd_call (k := 2) (f := T.a_shared_units) (fd := T.d_shared_units) (ps := P_shared_units) (F := F_shared_units) ?_ ?_ ?_ ?_ ?_ ?_ ?_ ?_; exact d_shared_units T; exact hr.mono (by decide); exact rfl; exact T.g_shared_units; exact T.F_shared_units.kp; exact b_shared_units T; exact (wok_takes (takes_of rfl rfl rfl rfl)); exact (ad_cons (pd_var 4) (ad_cons (pd_var 5) ad_nil))))) (sd_cons (sd_if (qd_isN (pd_var 6) pd_non) (sd_one (sd_ret pd_int)) sd_nil) (sd_cons (sd_par2 (ps_par rfl sc_pairs_number.nd rfl rfl (by decide) rfl rfl (md_val (by refine pd_call (k := 1) (f := T.a_begins_within) (fd := T.d_begins_within) (ps := P_begins_within) (F := F_begins_within) ?_ ?_ ?_ ?_ ?_ ?_ ?_ ?_; exact d_begins_within T; exact hr.mono (by decide); exact rfl; exact T.g_begins_within; exact T.F_begins_within.kp; exact b_begins_within T; exact (wok_takes (takes_of rfl rfl rfl rfl)); exact (ad_cons (pd_var 4) (ad_cons (pd_var 6) ad_nil))) (md_val (by refine pd_call (k := 1) (f := T.a_begins_within) (fd := T.d_begins_within) (ps := P_begins_within) (F := F_begins_within) ?_ ?_ ?_ ?_ ?_ ?_ ?_ ?_; exact d_begins_within T; exact hr.mono (by decide); exact rfl; exact T.g_begins_within; exact T.F_begins_within.kp; exact b_begins_within T; exact (wok_takes (takes_of rfl rfl rfl rfl)); exact (ad_cons (pd_var 5) (ad_cons (pd_var 6) ad_nil))) md_nil)) rfl)) (sd_one (sd_ret (pd_sub (pd_add (pd_add pd_int (by refine pd_call (k := 1) (f := T.a_many_of) (fd := T.d_many_of) (ps := P_many_of) (F := F_many_of) ?_ ?_ ?_ ?_ ?_ ?_ ?_ ?_; exact d_many_of T; exact hr.mono (by decide); exact rfl; exact T.g_many_of; exact T.F_many_of.kp; exact b_many_of T; exact (wok_takes (takes_of rfl rfl rfl rfl)); exact (ad_cons (pd_var 7) ad_nil))) (by refine pd_call (k := 1) (f := T.a_many_of) (fd := T.d_many_of) (ps := P_many_of) (F := F_many_of) ?_ ?_ ?_ ?_ ?_ ?_ ?_ ?_; exact d_many_of T; exact hr.mono (by decide); exact rfl; exact T.g_many_of; exact T.F_many_of.kp; exact b_many_of T; exact (wok_takes (takes_of rfl rfl rfl rfl)); exact (ad_cons (pd_var 8) ad_nil))) (by refine pd_call (k := 1) (f := T.a_many_of) (fd := T.d_many_of) (ps := P_many_of) (F := F_many_of) ?_ ?_ ?_ ?_ ?_ ?_ ?_ ?_; exact d_many_of T; exact hr.mono (by decide); exact rfl; exact T.g_many_of; exact T.F_many_of.kp; exact b_many_of T; exact (wok_takes (takes_of rfl rfl rfl rfl)); exact (ad_cons (by refine pd_call (k := 5) (f := T.a_met_of) (fd := T.d_met_of) (ps := P_met_of) (F := F_met_of) ?_ ?_ ?_ ?_ ?_ ?_ ?_ ?_; exact d_met_of T; exact hr.mono (by decide); exact rfl; exact T.g_met_of; exact T.F_met_of.kp; exact b_met_of T; exact (wok_takes (takes_of rfl rfl rfl rfl)); exact (ad_cons (pd_var 7) (ad_cons (pd_var 8) ad_nil))) ad_nil))))))))))
def B_twins_number : DS := (sSeq (sTg (gT (gCons' (gN 4) (gCons' (gN 5) gNil')) 2) (eCall 4 F_two_stretches (aCons (eVar 0) (aCons (eVar 1) (aCons (eVar 2) (aCons (eVar 3) aNil)))))) (sSeq (sAsg 6 (eCall 2 F_shared_units (aCons (eVar 4) (aCons (eVar 5) aNil)))) (sSeq (sIf (tOn (tE (eBin fIsN (eVar 6) (eC .non))) (tOn (tE (eBin fNe (eBin fIx (eVar 4) (eC (.int 2))) (eBin fIx (eVar 5) (eC (.int 2))))) (tE (eBin fNe (eBin fMod (eBin fSub (eBin fIx (eVar 4) (eC (.int 1))) (eBin fIx (eVar 5) (eC (.int 1)))) (eBin fIx (eVar 4) (eC (.int 2)))) (eC (.int 0)))))) (sRet (eC (.int 0))) sNx) (sRet (eBin fDiv (eBin fSub (eBin fIx (eVar 6) (eC (.int 1))) (eBin fIx (eVar 6) (eC (.int 0)))) (eBin fIx (eVar 4) (eC (.int 2))))))))
def F_twins_number : DF := runB 7 4 B_twins_number
theorem d_twins_number (T : Txt K mg) : FnD P w K mg base 9 T.a_twins_number T.d_twins_number P_twins_number F_twins_number := fnD T.F_twins_number sc_twins_number (by decide) B_twins_number (fun cdv A outer s H E hr => (sd_cons (sd_tg (vs := [4, 5]) (ps_asg (by refine pd_call (k := 8) (f := T.a_two_stretches) (fd := T.d_two_stretches) (ps := P_two_stretches) (F := F_two_stretches) ?_ ?_ ?_ ?_ ?_ ?_ ?_ ?_; exact d_two_stretches T; exact hr.mono (by decide); exact rfl; exact T.g_two_stretches; exact T.F_two_stretches.kp; exact b_two_stretches T; exact (wok_takes (takes_of rfl rfl rfl rfl)); exact (ad_cons (pd_var 0) (ad_cons (pd_var 1) (ad_cons (pd_var 2) (ad_cons (pd_var 3) ad_nil))))) (gd_tup rfl (gd_cons (gd_name (i := 4) sc_twins_number.nd rfl (Or.inl rfl) (by decide)) (gd_cons (gd_name (i := 5) sc_twins_number.nd rfl (Or.inl rfl) (by decide)) gd_nil))))) (sd_cons (sd_asg (ps_set (i := 6) sc_twins_number.nd rfl (Or.inl rfl) (by refine pd_call (k := 2) (f := T.a_shared_units) (fd := T.d_shared_units) (ps := P_shared_units) (F := F_shared_units) ?_ ?_ ?_ ?_ ?_ ?_ ?_ ?_; exact d_shared_units T; exact hr.mono (by decide); exact rfl; exact T.g_shared_units; exact T.F_shared_units.kp; exact b_shared_units T; exact (wok_takes (takes_of rfl rfl rfl rfl)); exact (ad_cons (pd_var 4) (ad_cons (pd_var 5) ad_nil))))) (sd_cons (sd_if (qd_or (qd_isN (pd_var 6) pd_non) (qd_or (qd_ne hr.units (pd_ix (pd_var 4) pd_int) (pd_ix (pd_var 5) pd_int)) (qd_or1 (qd_ne hr.units (pd_mod (pd_sub (pd_ix (pd_var 4) pd_int) (pd_ix (pd_var 5) pd_int)) (pd_ix (pd_var 4) pd_int)) pd_int)))).pt (sd_one (sd_ret pd_int)) sd_nil) (sd_one (sd_ret (pd_div (pd_sub (pd_ix (pd_var 6) pd_int) (pd_ix (pd_var 6) pd_int)) (pd_ix (pd_var 4) pd_int))))))))
def B_w_draw : DS := (sSeq (sIf (tE (eBin fGt (eBin fIx (eVar 0) (eC (.int 0))) (eC (.int 0)))) (sSeq (sAsg 2 (eBin fMod (eCB fInt (aCons (eBin fIx (eVar 0) (eC (.int 0))) aNil)) (eVar 1))) (sSeq (sSetW (eVar 0) (eC (.int 0)) (eBin fDiv (eBin fIx (eVar 0) (eC (.int 0))) (eVar 1))) (sRet (eVar 2)))) sNx) (sSeq (sSetW (eVar 0) (eC (.int 2)) (eBin fAdd (eBin fIx (eVar 0) (eC (.int 2))) (eC (.int 1)))) (sSeq (sAsg 3 (eBin fMod (eCB fInt (aCons (eBin fMul (eBin fAdd (eBin fAdd (eBin fIx (eVar 0) (eC (.int 1))) (eBin fMul (eC (.int 70001)) (eBin fIx (eVar 0) (eC (.int 2))))) (eC (.int 37))) (eC (.int 69621))) aNil)) (eC (.int 2147483647)))) (sSeq (sAsg 3 (eBin fMod (eCB fInt (aCons (eBin fMul (eVar 3) (eBin fAdd (eBin fDiv (eVar 3) (eC (.int 1021))) (eC (.int 48271)))) aNil)) (eC (.int 2147483587)))) (sRet (eBin fMod (eCB fInt (aCons (eBin fDiv (eBin fMod (eCB fInt (aCons (eBin fMul (eVar 3) (eBin fAdd (eBin fDiv (eVar 3) (eC (.int 2011))) (eC (.int 40692)))) aNil)) (eC (.int 2147483563))) (eC (.int 11))) aNil)) (eVar 1)))))))
def F_w_draw : DF := runB 4 2 B_w_draw
theorem d_w_draw (T : Txt K mg) : FnD P w K mg base 1 T.a_w_draw T.d_w_draw P_w_draw F_w_draw := fnD T.F_w_draw sc_w_draw (by decide) B_w_draw (fun cdv A outer s H E hr => (sd_cons (sd_if (qd_gt (pd_ix (pd_var 0) pd_int) pd_int) (sd_cons (sd_asg (ps_set (i := 2) sc_w_draw.nd rfl (Or.inl rfl) (pd_mod (pd_ct call_int1 cd_int (by rfl) T.z_int (by decide +kernel) (ad_cons (pd_ix (pd_var 0) pd_int) ad_nil)) (pd_var 1)))) (sd_cons (sd_setW (ps_asg (pd_div (pd_ix (pd_var 0) pd_int) (pd_var 1)) (pg_sub (pd_var 0) pd_int set_list))) (sd_one (sd_ret (pd_var 2))))) sd_nil) (sd_cons (sd_setW (ps_asg (pd_add (pd_ix (pd_var 0) pd_int) pd_int) (pg_sub (pd_var 0) pd_int set_list))) (sd_cons (sd_asg (ps_set (i := 3) sc_w_draw.nd rfl (Or.inl rfl) (pd_mod (pd_ct call_int1 cd_int (by rfl) T.z_int (by decide +kernel) (ad_cons (pd_mul (pd_add (pd_add (pd_ix (pd_var 0) pd_int) (pd_mul pd_int (pd_ix (pd_var 0) pd_int))) pd_int) pd_int) ad_nil)) pd_int))) (sd_cons (sd_asg (ps_set (i := 3) sc_w_draw.nd rfl (Or.inl rfl) (pd_mod (pd_ct call_int1 cd_int (by rfl) T.z_int (by decide +kernel) (ad_cons (pd_mul (pd_var 3) (pd_add (pd_div (pd_var 3) pd_int) pd_int)) ad_nil)) pd_int))) (sd_one (sd_ret (pd_mod (pd_ct call_int1 cd_int (by rfl) T.z_int (by decide +kernel) (ad_cons (pd_div (pd_mod (pd_ct call_int1 cd_int (by rfl) T.z_int (by decide +kernel) (ad_cons (pd_mul (pd_var 3) (pd_add (pd_div (pd_var 3) pd_int) pd_int)) ad_nil)) pd_int) pd_int) ad_nil)) (pd_var 1)))))))))
def B_w_pick : DS := (sRet (eBin fIx (eVar 1) (eCall 2 F_w_draw (aCons (eVar 0) (aCons (eCB fLen (aCons (eVar 1) aNil)) aNil)))))
def F_w_pick : DF := runB 2 2 B_w_pick
theorem d_w_pick (T : Txt K mg) : FnD P w K mg base 2 T.a_w_pick T.d_w_pick P_w_pick F_w_pick := fnD T.F_w_pick sc_w_pick (by decide) B_w_pick (fun cdv A outer s H E hr => (sd_one (sd_ret (pd_ix (pd_var 1) (by refine pd_call (k := 1) (f := T.a_w_draw) (fd := T.d_w_draw) (ps := P_w_draw) (F := F_w_draw) ?_ ?_ ?_ ?_ ?_ ?_ ?_ ?_; exact d_w_draw T; exact hr.mono (by decide); exact rfl; exact T.g_w_draw; exact T.F_w_draw.kp; exact b_w_draw T; exact (wok_takes (takes_of rfl rfl rfl rfl)); exact (ad_cons (pd_var 0) (ad_cons (pd_cb call_len cd_len (by rfl) T.z_len (by decide +kernel) (ad_cons (pd_var 1) ad_nil)) ad_nil)))))))
def B_w_far : DS := (sSeq (sAsg 1 (eBin fAdd (eBin fAdd (eBin fMul (eCall 2 F_w_draw (aCons (eVar 0) (aCons (eBin fPow (eC (.int 10)) (eC (.int 9))) aNil))) (eBin fPow (eC (.int 10)) (eC (.int 21)))) (eBin fMul (eCall 2 F_w_draw (aCons (eVar 0) (aCons (eBin fPow (eC (.int 10)) (eC (.int 9))) aNil))) (eBin fPow (eC (.int 10)) (eC (.int 12))))) (eCall 2 F_w_draw (aCons (eVar 0) (aCons (eBin fPow (eC (.int 10)) (eC (.int 9))) aNil))))) (sRet (eBin fMul (eCall 2 F_w_pick (aCons (eVar 0) (aCons (eL (aLst (aCons (eC (.int 1)) (aCons (eUn fNeg (eC (.int 1))) aNil)))) aNil))) (eBin fDiv (eVar 1) (eCall 2 F_w_pick (aCons (eVar 0) (aCons (eL (aLst (aCons (eC (.int 1)) (aCons (eBin fPow (eC (.int 10)) (eC (.int 9))) (aCons (eBin fPow (eC (.int 10)) (eC (.int 18))) (aCons (eBin fPow (eC (.int 10)) (eC (.int 26))) aNil)))))) aNil)))))))
def F_w_far : DF := runB 2 1 B_w_far
theorem d_w_far (T : Txt K mg) : FnD P w K mg base 3 T.a_w_far T.d_w_far P_w_far F_w_far := fnD T.F_w_far sc_w_far (by decide) B_w_far (fun cdv A outer s H E hr => (sd_cons (sd_asg (ps_set (i := 1) sc_w_far.nd rfl (Or.inl rfl) (pd_add (pd_add (pd_mul (by refine pd_call (k := 1) (f := T.a_w_draw) (fd := T.d_w_draw) (ps := P_w_draw) (F := F_w_draw) ?_ ?_ ?_ ?_ ?_ ?_ ?_ ?_; exact d_w_draw T; exact hr.mono (by decide); exact rfl; exact T.g_w_draw; exact T.F_w_draw.kp; exact b_w_draw T; exact (wok_takes (takes_of rfl rfl rfl rfl)); exact (ad_cons (pd_var 0) (ad_cons (pd_pow pd_int pd_int) ad_nil))) (pd_pow pd_int pd_int)) (pd_mul (by refine pd_call (k := 1) (f := T.a_w_draw) (fd := T.d_w_draw) (ps := P_w_draw) (F := F_w_draw) ?_ ?_ ?_ ?_ ?_ ?_ ?_ ?_; exact d_w_draw T; exact hr.mono (by decide); exact rfl; exact T.g_w_draw; exact T.F_w_draw.kp; exact b_w_draw T; exact (wok_takes (takes_of rfl rfl rfl rfl)); exact (ad_cons (pd_var 0) (ad_cons (pd_pow pd_int pd_int) ad_nil))) (pd_pow pd_int pd_int))) (by refine pd_call (k := 1) (f := T.a_w_draw) (fd := T.d_w_draw) (ps := P_w_draw) (F := F_w_draw) ?_ ?_ ?_ ?_ ?_ ?_ ?_ ?_; exact d_w_draw T; exact hr.mono (by decide); exact rfl; exact T.g_w_draw; exact T.F_w_draw.kp; exact b_w_draw T; exact (wok_takes (takes_of rfl rfl rfl rfl)); exact (ad_cons (pd_var 0) (ad_cons (pd_pow pd_int pd_int) ad_nil)))))) (sd_one (sd_ret (pd_mul (by refine pd_call (k := 2) (f := T.a_w_pick) (fd := T.d_w_pick) (ps := P_w_pick) (F := F_w_pick) ?_ ?_ ?_ ?_ ?_ ?_ ?_ ?_; exact d_w_pick T; exact hr.mono (by decide); exact rfl; exact T.g_w_pick; exact T.F_w_pick.kp; exact b_w_pick T; exact (wok_takes (takes_of rfl rfl rfl rfl)); exact (ad_cons (pd_var 0) (ad_cons (pd_L (pl_lst (ad_cons pd_int (ad_cons (pd_neg pd_int) ad_nil)))) ad_nil))) (pd_div (pd_var 1) (by refine pd_call (k := 2) (f := T.a_w_pick) (fd := T.d_w_pick) (ps := P_w_pick) (F := F_w_pick) ?_ ?_ ?_ ?_ ?_ ?_ ?_ ?_; exact d_w_pick T; exact hr.mono (by decide); exact rfl; exact T.g_w_pick; exact T.F_w_pick.kp; exact b_w_pick T; exact (wok_takes (takes_of rfl rfl rfl rfl)); exact (ad_cons (pd_var 0) (ad_cons (pd_L (pl_lst (ad_cons pd_int (ad_cons (pd_pow pd_int pd_int) (ad_cons (pd_pow pd_int pd_int) (ad_cons (pd_pow pd_int pd_int) ad_nil)))))) ad_nil)))))))))
def B_w_bounds : DS := (sSeq (sNew 1 (aLst aNil)) (sSeq (sFor (iRng1 (aCons (eBin fAdd (eC (.int 1)) (eCall 2 F_w_draw (aCons (eVar 0) (aCons (eC (.int 3)) aNil)))) aNil)) (gN 2) (sSeq (sAsg 3 (eL (eCBL fSorted (aCons (eL (aLst (aCons (eCall 1 F_w_far (aCons (eVar 0) aNil)) (aCons (eCall 1 F_w_far (aCons (eVar 0) aNil)) aNil)))) aNil)))) (sApp 1 (eTup (aCons (eBin fIx (eVar 3) (eC (.int 0))) (aCons (eBin fIx (eVar 3) (eC (.int 1))) aNil)))))) (sFrz 1 (sRet (eCB fTuple (aCons (eVar 1) aNil))))))
def F_w_bounds : DF := runB 4 1 B_w_bounds
theorem d_w_bounds (T : Txt K mg) : FnD P w K mg base 4 T.a_w_bounds T.d_w_bounds P_w_bounds F_w_bounds := fnD T.F_w_bounds sc_w_bounds (by decide) B_w_bounds (fun cdv A outer s H E hr => (sd_cons (sd_new (ps_set (i := 1) sc_w_bounds.nd rfl (Or.inl rfl) (pl_lst ad_nil))) (sd_cons (sd_for (vs := [2]) (passes_of rfl) rfl (id_rng1 (by rfl) T.z_range (ad_cons (pd_add pd_int (by refine pd_call (k := 1) (f := T.a_w_draw) (fd := T.d_w_draw) (ps := P_w_draw) (F := F_w_draw) ?_ ?_ ?_ ?_ ?_ ?_ ?_ ?_; exact d_w_draw T; exact hr.mono (by decide); exact rfl; exact T.g_w_draw; exact T.F_w_draw.kp; exact b_w_draw T; exact (wok_takes (takes_of rfl rfl rfl rfl)); exact (ad_cons (pd_var 0) (ad_cons pd_int ad_nil)))) ad_nil)) (gd_name (i := 2) sc_w_bounds.nd rfl (Or.inl rfl) (by decide)) (sd_cons (sd_asg (ps_set (i := 3) sc_w_bounds.nd rfl (Or.inl rfl) (pd_L (pl_cb cr_sortedI cl_sorted (by rfl) T.z_sorted (by decide +kernel) (ad_cons (pd_L (pl_lst (ad_cons (by refine pd_call (k := 3) (f := T.a_w_far) (fd := T.d_w_far) (ps := P_w_far) (F := F_w_far) ?_ ?_ ?_ ?_ ?_ ?_ ?_ ?_; exact d_w_far T; exact hr.mono (by decide); exact rfl; exact T.g_w_far; exact T.F_w_far.kp; exact b_w_far T; exact (wok_takes (takes_of rfl rfl rfl rfl)); exact (ad_cons (pd_var 0) ad_nil)) (ad_cons (by refine pd_call (k := 3) (f := T.a_w_far) (fd := T.d_w_far) (ps := P_w_far) (F := F_w_far) ?_ ?_ ?_ ?_ ?_ ?_ ?_ ?_; exact d_w_far T; exact hr.mono (by decide); exact rfl; exact T.g_w_far; exact T.F_w_far.kp; exact b_w_far T; exact (wok_takes (takes_of rfl rfl rfl rfl)); exact (ad_cons (pd_var 0) ad_nil)) ad_nil)))) ad_nil))))) (sd_one (sd_app (ps_expr (pe_bm PySem.F.plainAttrs_list PySem.F.slot_list_append PySem.F.type_list_append mt_append (pv 1) (pa_cons (pd_tup (ad_cons (pd_ix (pd_var 3) pd_int) (ad_cons (pd_ix (pd_var 3) pd_int) ad_nil))) pa_nil))))))) (sd_frz 1 (sd_one (sd_ret (pd_ct call_tuple_of cd_tuple (by rfl) T.z_tuple (by decide +kernel) (ad_cons (pd_var 1) ad_nil))))))))
def B_w_ahead : DS := (sSeq (sMul [2, 3] (mVal (eC (.int 0)) (mVal (eBin fIx (eVar 0) (eC (.int 1))) aNil))) (sSeq (sFor (iEnumS (aCons (eVar 1) aNil)) (gT (gCons' (gN 4) (gCons' (gN 5) gNil')) 2) (sSeq (sAsg 2 (eBin fAdd (eVar 2) (eBin fMul (eVar 3) (eBin fSub (eVar 5) (eBin fIx (eBin fIx (eBin fIx (eVar 0) (eC (.int 2))) (eVar 4)) (eC (.int 0))))))) (sAsg 3 (eBin fMul (eVar 3) (eBin fAdd (eBin fSub (eBin fIx (eBin fIx (eBin fIx (eVar 0) (eC (.int 2))) (eVar 4)) (eC (.int 1))) (eBin fIx (eBin fIx (eBin fIx (eVar 0) (eC (.int 2))) (eVar 4)) (eC (.int 0)))) (eC (.int 1))))))) (sRet (eVar 2))))
def F_w_ahead : DF := runB 6 2 B_w_ahead
theorem d_w_ahead (T : Txt K mg) : FnD P w K mg base 1 T.a_w_ahead T.d_w_ahead P_w_ahead F_w_ahead := fnD T.F_w_ahead sc_w_ahead (by decide) B_w_ahead (fun cdv A outer s H E hr => (sd_cons (sd_par2 (ps_par rfl sc_w_ahead.nd rfl rfl (by decide) rfl rfl (md_val pd_int (md_val (pd_ix (pd_var 0) pd_int) md_nil)) rfl)) (sd_cons (sd_for (vs := [4, 5]) (passes_of rfl) rfl (id_enumS (by rfl) T.z_enumerate (ad_cons (pd_var 1) ad_nil)) (gd_tup rfl (gd_cons (gd_name (i := 4) sc_w_ahead.nd rfl (Or.inl rfl) (by decide)) (gd_cons (gd_name (i := 5) sc_w_ahead.nd rfl (Or.inl rfl) (by decide)) gd_nil))) (sd_cons (sd_asg (ps_set (i := 2) sc_w_ahead.nd rfl (Or.inl rfl) (pd_add (pd_var 2) (pd_mul (pd_var 3) (pd_sub (pd_var 5) (pd_ix (pd_ix (pd_ix (pd_var 0) pd_int) (pd_var 4)) pd_int)))))) (sd_one (sd_asg (ps_set (i := 3) sc_w_ahead.nd rfl (Or.inl rfl) (pd_mul (pd_var 3) (pd_add (pd_sub (pd_ix (pd_ix (pd_ix (pd_var 0) pd_int) (pd_var 4)) pd_int) (pd_ix (pd_ix (pd_ix (pd_var 0) pd_int) (pd_var 4)) pd_int)) pd_int))))))) (sd_one (sd_ret (pd_var 2))))))
def B_w_units : DS := (sSeq (sAsg 1 (eBin fIx (eVar 0) (eC (.int 1)))) (sSeq (sFor (iSeq (eBin fIx (eVar 0) (eC (.int 2)))) (gT (gCons' (gN 2) (gCons' (gN 3) gNil')) 2) (sAsg 1 (eBin fMul (eVar 1) (eBin fAdd (eBin fSub (eVar 3) (eVar 2)) (eC (.int 1)))))) (sRet (eVar 1))))
def F_w_units : DF := runB 4 1 B_w_units
theorem d_w_units (T : Txt K mg) : FnD P w K mg base 1 T.a_w_units T.d_w_units P_w_units F_w_units := fnD T.F_w_units sc_w_units (by decide) B_w_units (fun cdv A outer s H E hr => (sd_cons (sd_asg (ps_set (i := 1) sc_w_units.nd rfl (Or.inl rfl) (pd_ix (pd_var 0) pd_int))) (sd_cons (sd_for (vs := [2, 3]) (passes_of rfl) rfl (id_seq (pd_ix (pd_var 0) pd_int)) (gd_tup rfl (gd_cons (gd_name (i := 2) sc_w_units.nd rfl (Or.inl rfl) (by decide)) (gd_cons (gd_name (i := 3) sc_w_units.nd rfl (Or.inl rfl) (by decide)) gd_nil))) (sd_one (sd_asg (ps_set (i := 1) sc_w_units.nd rfl (Or.inl rfl) (pd_mul (pd_var 1) (pd_add (pd_sub (pd_var 3) (pd_var 2)) pd_int)))))) (sd_one (sd_ret (pd_var 1))))))
def B_w_spot : DS := (sSeq (sNew 2 (aLst aNil)) (sSeq (sFor (iSeq (eBin fIx (eVar 1) (eC (.int 2)))) (gT (gCons' (gN 3) (gCons' (gN 4) gNil')) 2) (sSeq (sAsg 5 (eL (aLst (aCons (eVar 3) (aCons (eVar 4) (aCons (eCB fMin2 (aCons (eVar 4) (aCons (eBin fAdd (eVar 3) (eCall 2 F_w_draw (aCons (eVar 0) (aCons (eC (.int 9)) aNil)))) aNil))) (aCons (eBin fDiv (eBin fAdd (eVar 3) (eVar 4)) (eC (.int 2))) aNil))))))) (sApp 2 (eCall 2 F_w_pick (aCons (eVar 0) (aCons (eVar 5) aNil)))))) (sFrz 2 (sRet (eCB fTuple (aCons (eVar 2) aNil))))))
def F_w_spot : DF := runB 6 2 B_w_spot
theorem d_w_spot (T : Txt K mg) : FnD P w K mg base 3 T.a_w_spot T.d_w_spot P_w_spot F_w_spot := fnD T.F_w_spot sc_w_spot (by decide) B_w_spot (fun cdv A outer s H E hr => (sd_cons (sd_new (ps_set (i := 2) sc_w_spot.nd rfl (Or.inl rfl) (pl_lst ad_nil))) (sd_cons (sd_for (vs := [3, 4]) (passes_of rfl) rfl (id_seq (pd_ix (pd_var 1) pd_int)) (gd_tup rfl (gd_cons (gd_name (i := 3) sc_w_spot.nd rfl (Or.inl rfl) (by decide)) (gd_cons (gd_name (i := 4) sc_w_spot.nd rfl (Or.inl rfl) (by decide)) gd_nil))) (sd_cons (sd_asg (ps_set (i := 5) sc_w_spot.nd rfl (Or.inl rfl) (pd_L (pl_lst (ad_cons (pd_var 3) (ad_cons (pd_var 4) (ad_cons (pd_cb (call_min2 rfl) cd_min2 (by rfl) T.z_min (by decide +kernel) (ad_cons (pd_var 4) (ad_cons (pd_add (pd_var 3) (by refine pd_call (k := 1) (f := T.a_w_draw) (fd := T.d_w_draw) (ps := P_w_draw) (F := F_w_draw) ?_ ?_ ?_ ?_ ?_ ?_ ?_ ?_; exact d_w_draw T; exact hr.mono (by decide); exact rfl; exact T.g_w_draw; exact T.F_w_draw.kp; exact b_w_draw T; exact (wok_takes (takes_of rfl rfl rfl rfl)); exact (ad_cons (pd_var 0) (ad_cons pd_int ad_nil)))) ad_nil))) (ad_cons (pd_div (pd_add (pd_var 3) (pd_var 4)) pd_int) ad_nil)))))))) (sd_one (sd_app (ps_expr (pe_bm PySem.F.plainAttrs_list PySem.F.slot_list_append PySem.F.type_list_append mt_append (pv 2) (pa_cons (by refine pd_call (k := 2) (f := T.a_w_pick) (fd := T.d_w_pick) (ps := P_w_pick) (F := F_w_pick) ?_ ?_ ?_ ?_ ?_ ?_ ?_ ?_; exact d_w_pick T; exact hr.mono (by decide); exact rfl; exact T.g_w_pick; exact T.F_w_pick.kp; exact b_w_pick T; exact (wok_takes (takes_of rfl rfl rfl rfl)); exact (ad_cons (pd_var 0) (ad_cons (pd_var 5) ad_nil))) pa_nil))))))) (sd_frz 2 (sd_one (sd_ret (pd_ct call_tuple_of cd_tuple (by rfl) T.z_tuple (by decide +kernel) (ad_cons (pd_var 2) ad_nil))))))))
def B_w_cut : DS := (sRet (eCB fLen (aCons (eL (aLc (iRng2L (aCons (eBin fAdd (eVar 2) (eC (.int 1))) (aCons (eVar 3) aNil))) (gN 4) (tE (eBin fEq (eBin fMod (eCB fInt (aCons (eBin fSub (eVar 4) (eVar 0)) aNil)) (eVar 1)) (eC (.int 0)))) (eVar 4) [4])) aNil)))
def F_w_cut : DF := runB 5 4 B_w_cut
theorem d_w_cut (T : Txt K mg) : FnD P w K mg base 1 T.a_w_cut T.d_w_cut P_w_cut F_w_cut := fnD T.F_w_cut sc_w_cut (by decide) B_w_cut (fun cdv A outer s H E hr => (sd_one (sd_ret (pd_cb call_len cd_len (by rfl) T.z_len (by decide +kernel) (ad_cons (pd_L (pl_lc (own := [("_law_unit", 4)]) rfl sc_w_cut.nd (id_rng2L (by rfl) T.z_range (ad_cons (pd_add (pd_var 2) pd_int) (ad_cons (pd_var 3) ad_nil))) (blkOk_by (own := [("_law_unit", 4)]) (N := N_w_cut) (sc := defScope s_w_cut) (by decide +kernel)) (fun _ _ _ _ _ => (gd_name (i := 4) sc_w_cut.nd rfl (Or.inl rfl) (by decide))) (fun _ _ _ _ _ => (td_one (qd_eq hr.units (pd_mod (pd_ct call_int1 cd_int (by rfl) T.z_int (by decide +kernel) (ad_cons (pd_sub (pd_var 4) (pd_var 0)) ad_nil)) (pd_var 1)) pd_int))) (fun _ _ _ _ _ => (pd_var 4)))) ad_nil)))))
def B_w_pairs : DS := (sSeq (sIf (tE (eBin fGe (eVar 2) (eVar 3))) (sRet (eC (.int 0))) sNx) (sSeq (sAsg 4 (eBin fMul (eBin fIx (eVar 0) (eC (.int 1))) (eBin fIx (eVar 1) (eC (.int 1))))) (sSeq (sAsg 5 (eBin fDiv (eCB fMax2 (aCons (eC (.int 0)) (aCons (eBin fSub (eBin fSub (eVar 3) (eVar 2)) (eC (.int 1))) aNil))) (eVar 4))) (sSeq (sAsg 6 (eBin fSub (eVar 3) (eBin fMul (eVar 5) (eVar 4)))) (sSeq (sAsg 7 (eC (.int 1))) (sSeq (sFor (iSeq (eTup (aCons (eTup (aCons (eVar 2) (aCons (eBin fAdd (eBin fAdd (eVar 2) (eVar 4)) (eC (.int 1))) (aCons (eVar 5) aNil)))) (aCons (eTup (aCons (eVar 2) (aCons (eVar 6) (aCons (eC (.int 1)) aNil)))) aNil)))) (gT (gCons' (gN 8) (gCons' (gN 9) (gCons' (gN 10) gNil'))) 3) (sSeq (sAsg 11 (eBin fAdd (eCall 4 F_w_cut (aCons (eBin fIx (eVar 0) (eC (.int 0))) (aCons (eBin fIx (eVar 0) (eC (.int 1))) (aCons (eVar 8) (aCons (eVar 9) aNil))))) (eCall 4 F_w_cut (aCons (eBin fIx (eVar 1) (eC (.int 0))) (aCons (eBin fIx (eVar 1) (eC (.int 1))) (aCons (eVar 8) (aCons (eVar 9) aNil))))))) (sSeq (sAsg 12 (eL (aLc (iRng2L (aCons (eBin fAdd (eVar 8) (eC (.int 1))) (aCons (eVar 9) aNil))) (gN 13) (tE (eBin fEq (eBin fMod (eCB fInt (aCons (eBin fSub (eVar 13) (eBin fIx (eVar 0) (eC (.int 0)))) aNil)) (eBin fIx (eVar 0) (eC (.int 1)))) (eC (.int 0)))) (eVar 13) [13]))) (sSeq (sAsg 12 (eL (aLc (iSeq (eVar 12)) (gN 13) (tE (eBin fEq (eBin fMod (eCB fInt (aCons (eBin fSub (eVar 13) (eBin fIx (eVar 1) (eC (.int 0)))) aNil)) (eBin fIx (eVar 1) (eC (.int 1)))) (eC (.int 0)))) (eVar 13) [13]))) (sAsg 7 (eBin fAdd (eVar 7) (eBin fMul (eVar 10) (eBin fSub (eVar 11) (eCB fLen (aCons (eVar 12) aNil)))))))))) (sRet (eVar 7))))))))
def F_w_pairs : DF := runB 14 4 B_w_pairs
theorem d_w_pairs (T : Txt K mg) : FnD P w K mg base 2 T.a_w_pairs T.d_w_pairs P_w_pairs F_w_pairs := fnD T.F_w_pairs sc_w_pairs (by decide) B_w_pairs (fun cdv A outer s H E hr => (sd_cons (sd_if (qd_ge (pd_var 2) (pd_var 3)) (sd_one (sd_ret pd_int)) sd_nil) (sd_cons (sd_asg (ps_set (i := 4) sc_w_pairs.nd rfl (Or.inl rfl) (pd_mul (pd_ix (pd_var 0) pd_int) (pd_ix (pd_var 1) pd_int)))) (sd_cons (sd_asg (ps_set (i := 5) sc_w_pairs.nd rfl (Or.inl rfl) (pd_div (pd_cb (call_max2 rfl) cd_max2 (by rfl) T.z_max (by decide +kernel) (ad_cons pd_int (ad_cons (pd_sub (pd_sub (pd_var 3) (pd_var 2)) pd_int) ad_nil))) (pd_var 4)))) (sd_cons (sd_asg (ps_set (i := 6) sc_w_pairs.nd rfl (Or.inl rfl) (pd_sub (pd_var 3) (pd_mul (pd_var 5) (pd_var 4))))) (sd_cons (sd_asg (ps_set (i := 7) sc_w_pairs.nd rfl (Or.inl rfl) pd_int)) (sd_cons (sd_for (vs := [8, 9, 10]) (passes_of rfl) rfl (id_seq (pd_tup (ad_cons (pd_tup (ad_cons (pd_var 2) (ad_cons (pd_add (pd_add (pd_var 2) (pd_var 4)) pd_int) (ad_cons (pd_var 5) ad_nil)))) (ad_cons (pd_tup (ad_cons (pd_var 2) (ad_cons (pd_var 6) (ad_cons pd_int ad_nil)))) ad_nil)))) (gd_tup rfl (gd_cons (gd_name (i := 8) sc_w_pairs.nd rfl (Or.inl rfl) (by decide)) (gd_cons (gd_name (i := 9) sc_w_pairs.nd rfl (Or.inl rfl) (by decide)) (gd_cons (gd_name (i := 10) sc_w_pairs.nd rfl (Or.inl rfl) (by decide)) gd_nil)))) (sd_cons (sd_asg (ps_set (i := 11) sc_w_pairs.nd rfl (Or.inl rfl) (pd_add (by refine pd_call (k := 1) (f := T.a_w_cut) (fd := T.d_w_cut) (ps := P_w_cut) (F := F_w_cut) ?_ ?_ ?_ ?_ ?_ ?_ ?_ ?_; exact d_w_cut T; exact hr.mono (by decide); exact rfl; exact T.g_w_cut; exact T.F_w_cut.kp; exact b_w_cut T; exact (wok_takes (takes_of rfl rfl rfl rfl)); exact (ad_cons (pd_ix (pd_var 0) pd_int) (ad_cons (pd_ix (pd_var 0) pd_int) (ad_cons (pd_var 8) (ad_cons (pd_var 9) ad_nil))))) (by refine pd_call (k := 1) (f := T.a_w_cut) (fd := T.d_w_cut) (ps := P_w_cut) (F := F_w_cut) ?_ ?_ ?_ ?_ ?_ ?_ ?_ ?_; exact d_w_cut T; exact hr.mono (by decide); exact rfl; exact T.g_w_cut; exact T.F_w_cut.kp; exact b_w_cut T; exact (wok_takes (takes_of rfl rfl rfl rfl)); exact (ad_cons (pd_ix (pd_var 1) pd_int) (ad_cons (pd_ix (pd_var 1) pd_int) (ad_cons (pd_var 8) (ad_cons (pd_var 9) ad_nil)))))))) (sd_cons (by first | exact sd_asg (asg_weak (ps_setLc (own := [("_law_unit", 13)]) (i := 12) rfl sc_w_pairs.nd rfl rfl rfl (id_rng2L (by rfl) T.z_range (ad_cons (pd_add (pd_var 8) pd_int) (ad_cons (pd_var 9) ad_nil))) (blkOk_by (own := [("_law_unit", 13)]) (N := N_w_pairs) (sc := defScope s_w_pairs) (by decide +kernel)) (fun _ _ _ _ _ => (gd_name (i := 13) sc_w_pairs.nd rfl (Or.inl rfl) (by decide))) (fun _ _ _ _ _ => (td_one (qd_eq hr.units (pd_mod (pd_ct call_int1 cd_int (by rfl) T.z_int (by decide +kernel) (ad_cons (pd_sub (pd_var 13) (pd_ix (pd_var 0) pd_int)) ad_nil)) (pd_ix (pd_var 0) pd_int)) pd_int))) (fun _ _ _ _ _ => (pd_var 13))) (fun _ _ _ h => lc_ok (eL_ok h))) | exact sd_asg (ps_set (i := 12) sc_w_pairs.nd rfl (Or.inl rfl) (pd_L (pl_lc (own := [("_law_unit", 13)]) rfl sc_w_pairs.nd (id_rng2L (by rfl) T.z_range (ad_cons (pd_add (pd_var 8) pd_int) (ad_cons (pd_var 9) ad_nil))) (blkOk_by (own := [("_law_unit", 13)]) (N := N_w_pairs) (sc := defScope s_w_pairs) (by decide +kernel)) (fun _ _ _ _ _ => (gd_name (i := 13) sc_w_pairs.nd rfl (Or.inl rfl) (by decide))) (fun _ _ _ _ _ => (td_one (qd_eq hr.units (pd_mod (pd_ct call_int1 cd_int (by rfl) T.z_int (by decide +kernel) (ad_cons (pd_sub (pd_var 13) (pd_ix (pd_var 0) pd_int)) ad_nil)) (pd_ix (pd_var 0) pd_int)) pd_int))) (fun _ _ _ _ _ => (pd_var 13)))))) (sd_cons (by first | exact sd_asg (asg_weak (ps_setLc (own := [("_law_unit", 13)]) (i := 12) rfl sc_w_pairs.nd rfl rfl rfl (id_seq (pd_var 12)) (blkOk_by (own := [("_law_unit", 13)]) (N := N_w_pairs) (sc := defScope s_w_pairs) (by decide +kernel)) (fun _ _ _ _ _ => (gd_name (i := 13) sc_w_pairs.nd rfl (Or.inl rfl) (by decide))) (fun _ _ _ _ _ => (td_one (qd_eq hr.units (pd_mod (pd_ct call_int1 cd_int (by rfl) T.z_int (by decide +kernel) (ad_cons (pd_sub (pd_var 13) (pd_ix (pd_var 1) pd_int)) ad_nil)) (pd_ix (pd_var 1) pd_int)) pd_int))) (fun _ _ _ _ _ => (pd_var 13))) (fun _ _ _ h => lc_ok (eL_ok h))) | exact sd_asg (ps_set (i := 12) sc_w_pairs.nd rfl (Or.inl rfl) (pd_L (pl_lc (own := [("_law_unit", 13)]) rfl sc_w_pairs.nd (id_seq (pd_var 12)) (blkOk_by (own := [("_law_unit", 13)]) (N := N_w_pairs) (sc := defScope s_w_pairs) (by decide +kernel)) (fun _ _ _ _ _ => (gd_name (i := 13) sc_w_pairs.nd rfl (Or.inl rfl) (by decide))) (fun _ _ _ _ _ => (td_one (qd_eq hr.units (pd_mod (pd_ct call_int1 cd_int (by rfl) T.z_int (by decide +kernel) (ad_cons (pd_sub (pd_var 13) (pd_ix (pd_var 1) pd_int)) ad_nil)) (pd_ix (pd_var 1) pd_int)) pd_int))) (fun _ _ _ _ _ => (pd_var 13)))))) (sd_one (sd_asg (ps_set (i := 7) sc_w_pairs.nd rfl (Or.inl rfl) (pd_add (pd_var 7) (pd_mul (pd_var 10) (pd_sub (pd_var 11) (pd_cb call_len cd_len (by rfl) T.z_len (by decide +kernel) (ad_cons (pd_var 12) ad_nil)))))))))))) (sd_one (sd_ret (pd_var 7))))))))))
def B_w_right : DS := (sSeq (sAsg 1 (eL (aLst (aCons (eBin fAdd (eC (.int 1)) (eCall 2 F_w_draw (aCons (eVar 0) (aCons (eC (.int 16)) aNil)))) (aCons (eBin fAdd (eC (.int 1)) (eCall 2 F_w_draw (aCons (eVar 0) (aCons (eC (.int 16)) aNil)))) aNil))))) (sSeq (sTg (gTL (gCons' (gN 2) (gCons' (gN 3) gNil')) 2) (eL (aLc (iZip (aCons (eTup (aCons (eC (.str "a")) (aCons (eC (.str "b")) aNil))) (aCons (eVar 1) aNil))) (gT (gCons' (gN 17) (gCons' (gN 18) gNil')) 2) tYesD (eTup (aCons (eVar 17) (aCons (eVar 18) (aCons (eCall 1 F_w_bounds (aCons (eVar 0) aNil)) aNil)))) [17, 18]))) (sSeq (sAsg 4 (eL (aLst (aCons (eCall 2 F_w_spot (aCons (eVar 0) (aCons (eVar 2) aNil))) (aCons (eCall 2 F_w_spot (aCons (eVar 0) (aCons (eVar 3) aNil))) aNil))))) (sSeq (sAsg 5 (eL (aLst (aCons (eTup (aCons (eTup (aCons (eC (.str "a")) (aCons (eBin fIx (eVar 4) (eC (.int 0))) aNil))) (aCons (eTup (aCons (eC (.str "b")) (aCons (eBin fIx (eVar 4) (eC (.int 1))) aNil))) aNil))) aNil)))) (sSeq (sAsg 6 (eBin fSub (eCall 2 F_w_ahead (aCons (eVar 2) (aCons (eBin fIx (eVar 4) (eC (.int 0))) aNil))) (eCall 2 F_w_ahead (aCons (eVar 3) (aCons (eBin fIx (eVar 4) (eC (.int 1))) aNil))))) (sSeq (sAsg 7 (eL (aLst (aCons (eTup (aCons (eC (.str "a")) (aCons (eC (.str "a")) (aCons (eCB fMax2 (aCons (eC (.int 0)) (aCons (eUn fNeg (eVar 6)) aNil))) aNil)))) (aCons (eTup (aCons (eC (.str "b")) (aCons (eC (.str "a")) (aCons (eCB fMax2 (aCons (eC (.int 0)) (aCons (eVar 6) aNil))) aNil)))) aNil))))) (sSeq (sIf (tOn (tE (eBin fNe (eCall 2 F_offsets (aCons (eL (aLst (aCons (eVar 2) (aCons (eVar 3) aNil)))) (aCons (eVar 5) aNil))) (eVar 7))) (tNo (tTr (eCall 3 F_are_bases (aCons (eL (aLst (aCons (eVar 2) (aCons (eVar 3) aNil)))) (aCons (eVar 5) (aCons (eTup (aCons (eC (.int 5)) (aCons (eBin fAdd (eC (.int 5)) (eVar 6)) aNil))) aNil))))))) (sRet (eC (.bl false))) sNx) (sSeq (sMul [8, 9] (mVal (eTup (aCons (eBin fIx (eBin fIx (eVar 7) (eC (.int 0))) (eC (.int 2))) (aCons (eBin fIx (eVar 1) (eC (.int 0))) (aCons (eBin fAdd (eBin fIx (eBin fIx (eVar 7) (eC (.int 0))) (eC (.int 2))) (eCall 1 F_w_units (aCons (eVar 2) aNil))) aNil)))) (mVal (eTup (aCons (eBin fIx (eBin fIx (eVar 7) (eC (.int 1))) (eC (.int 2))) (aCons (eBin fIx (eVar 1) (eC (.int 1))) (aCons (eBin fAdd (eBin fIx (eBin fIx (eVar 7) (eC (.int 1))) (eC (.int 2))) (eCall 1 F_w_units (aCons (eVar 3) aNil))) aNil)))) aNil))) (sSeq (sMul [10, 11] (mVal (eCB fMax2 (aCons (eBin fIx (eVar 8) (eC (.int 0))) (aCons (eBin fIx (eVar 9) (eC (.int 0))) aNil))) (mVal (eCB fMin2 (aCons (eBin fIx (eVar 8) (eC (.int 2))) (aCons (eBin fIx (eVar 9) (eC (.int 2))) aNil))) aNil))) (sSeq (sIf (tE (eBin fNe (eCall 4 F_shared (aCons (eL (aLst (aCons (eVar 2) (aCons (eVar 3) aNil)))) (aCons (eVar 5) (aCons (eC (.str "a")) (aCons (eC (.str "b")) aNil))))) (eIf (tE (eBin fLt (eVar 10) (eVar 11))) (eTup (aCons (eBin fSub (eVar 10) (eBin fIx (eVar 8) (eC (.int 0)))) (aCons (eBin fSub (eVar 11) (eVar 10)) aNil))) (eC .non)))) (sRet (eC (.bl false))) sNx) (sSeq (sAsg 12 (eBin fDiv (eCall 2 F_w_ahead (aCons (eVar 2) (aCons (eBin fIx (eVar 4) (eC (.int 0))) aNil))) (eBin fIx (eVar 1) (eC (.int 0))))) (sSeq (sAsg 13 (eBin fSub (eCB fMin2 (aCons (eBin fAdd (eBin fIx (eVar 8) (eC (.int 0))) (eBin fMul (eBin fAdd (eVar 12) (eC (.int 1))) (eBin fIx (eVar 1) (eC (.int 0))))) (aCons (eBin fIx (eVar 9) (eC (.int 2))) aNil))) (eC (.int 1)))) (sSeq (sAsg 14 (eBin fDiv (eCall 2 F_w_ahead (aCons (eVar 3) (aCons (eBin fIx (eVar 4) (eC (.int 1))) aNil))) (eBin fIx (eVar 1) (eC (.int 1))))) (sSeq (sIf (tE (eBin fNe (eCall 5 F_touched (aCons (eL (aLst (aCons (eVar 2) (aCons (eVar 3) aNil)))) (aCons (eVar 5) (aCons (eC (.str "a")) (aCons (eVar 12) (aCons (eC (.str "b")) aNil)))))) (eTup (aCons (eVar 14) (aCons (eBin fDiv (eBin fSub (eVar 13) (eBin fIx (eVar 9) (eC (.int 0)))) (eBin fIx (eVar 1) (eC (.int 1)))) aNil))))) (sRet (eC (.bl false))) sNx) (sSeq (sAsg 15 (eCall 4 F_w_pairs (aCons (eVar 8) (aCons (eVar 9) (aCons (eVar 10) (aCons (eVar 11) aNil)))))) (sSeq (sIf (tOn (tE (eBin fNe (eCall 4 F_pairs_number (aCons (eL (aLst (aCons (eVar 2) (aCons (eVar 3) aNil)))) (aCons (eVar 5) (aCons (eC (.str "a")) (aCons (eC (.str "b")) aNil))))) (eVar 15))) (tE (eBin fNe (eCall 4 F_pairs_number (aCons (eL (aLst (aCons (eVar 2) (aCons (eVar 3) aNil)))) (aCons (eVar 5) (aCons (eC (.str "b")) (aCons (eC (.str "a")) aNil))))) (eVar 15)))) (sRet (eC (.bl false))) sNx) (sSeq (sAsg 16 (eIf (tAn (tE (eBin fEq (eBin fIx (eVar 1) (eC (.int 0))) (eBin fIx (eVar 1) (eC (.int 1))))) (tE (eBin fEq (eBin fMod (eCB fInt (aCons (eVar 6) aNil)) (eBin fIx (eVar 1) (eC (.int 0)))) (eC (.int 0))))) (eBin fDiv (eBin fSub (eVar 11) (eVar 10)) (eBin fIx (eVar 1) (eC (.int 0)))) (eC (.int 0)))) (sRet (eBin fEq (eCall 4 F_twins_number (aCons (eL (aLst (aCons (eVar 2) (aCons (eVar 3) aNil)))) (aCons (eVar 5) (aCons (eC (.str "a")) (aCons (eC (.str "b")) aNil))))) (eVar 16))))))))))))))))))))
def F_w_right : DF := runB 19 1 B_w_right
theorem d_w_right (T : Txt K mg) : FnD P w K mg base 10 T.a_w_right T.d_w_right P_w_right F_w_right := fnD T.F_w_right sc_w_right (by decide) B_w_right (fun cdv A outer s H E hr => (sd_cons (sd_asg (ps_set (i := 1) sc_w_right.nd rfl (Or.inl rfl) (pd_L (pl_lst (ad_cons (pd_add pd_int (by refine pd_call (k := 1) (f := T.a_w_draw) (fd := T.d_w_draw) (ps := P_w_draw) (F := F_w_draw) ?_ ?_ ?_ ?_ ?_ ?_ ?_ ?_; exact d_w_draw T; exact hr.mono (by decide); exact rfl; exact T.g_w_draw; exact T.F_w_draw.kp; exact b_w_draw T; exact (wok_takes (takes_of rfl rfl rfl rfl)); exact (ad_cons (pd_var 0) (ad_cons pd_int ad_nil)))) (ad_cons (pd_add pd_int (by refine pd_call (k := 1) (f := T.a_w_draw) (fd := T.d_w_draw) (ps := P_w_draw) (F := F_w_draw) ?_ ?_ ?_ ?_ ?_ ?_ ?_ ?_; exact d_w_draw T; exact hr.mono (by decide); exact rfl; exact T.g_w_draw; exact T.F_w_draw.kp; exact b_w_draw T; exact (wok_takes (takes_of rfl rfl rfl rfl)); exact (ad_cons (pd_var 0) (ad_cons pd_int ad_nil)))) ad_nil)))))) (sd_cons (sd_tg (vs := [2, 3]) (ps_asg (pd_L (pl_lc (own := [("_law_name", 17), ("_law_size", 18)]) rfl sc_w_right.nd (id_zip2 (by rfl) T.z_zip (ad_cons (pd_tup (ad_cons pd_str (ad_cons pd_str ad_nil))) (ad_cons (pd_var 1) ad_nil)) (aCons_len (aCons_len (fun _ _ _ _ h => aNil_len h)))) (blkOk_by (own := [("_law_name", 17), ("_law_size", 18)]) (N := N_w_right) (sc := defScope s_w_right) (by decide +kernel)) (fun _ _ _ _ _ => (gd_tup rfl (gd_cons (gd_name (i := 17) sc_w_right.nd rfl (Or.inl rfl) (by decide)) (gd_cons (gd_name (i := 18) sc_w_right.nd rfl (Or.inl rfl) (by decide)) gd_nil)))) (fun _ _ _ _ _ => td_nil) (fun _ _ _ _ _ => (pd_tup (ad_cons (pd_var 17) (ad_cons (pd_var 18) (ad_cons (by refine pd_call (k := 4) (f := T.a_w_bounds) (fd := T.d_w_bounds) (ps := P_w_bounds) (F := F_w_bounds) ?_ ?_ ?_ ?_ ?_ ?_ ?_ ?_; exact d_w_bounds T; exact hr.mono (by decide); exact rfl; exact T.g_w_bounds; exact T.F_w_bounds.kp; exact b_w_bounds T; exact wok0; exact (ad_cons (pd_var 0) ad_nil)) ad_nil))))))) (gd_lst rfl (gd_cons (gd_name (i := 2) sc_w_right.nd rfl (Or.inl rfl) (by decide)) (gd_cons (gd_name (i := 3) sc_w_right.nd rfl (Or.inl rfl) (by decide)) gd_nil))))) (sd_cons (sd_asg (ps_set (i := 4) sc_w_right.nd rfl (Or.inl rfl) (pd_L (pl_lst (ad_cons (by refine pd_call (k := 3) (f := T.a_w_spot) (fd := T.d_w_spot) (ps := P_w_spot) (F := F_w_spot) ?_ ?_ ?_ ?_ ?_ ?_ ?_ ?_; exact d_w_spot T; exact hr.mono (by decide); exact rfl; exact T.g_w_spot; exact T.F_w_spot.kp; exact b_w_spot T; exact (wok_takes (takes_of rfl rfl rfl rfl)); exact (ad_cons (pd_var 0) (ad_cons (pd_var 2) ad_nil))) (ad_cons (by refine pd_call (k := 3) (f := T.a_w_spot) (fd := T.d_w_spot) (ps := P_w_spot) (F := F_w_spot) ?_ ?_ ?_ ?_ ?_ ?_ ?_ ?_; exact d_w_spot T; exact hr.mono (by decide); exact rfl; exact T.g_w_spot; exact T.F_w_spot.kp; exact b_w_spot T; exact (wok_takes (takes_of rfl rfl rfl rfl)); exact (ad_cons (pd_var 0) (ad_cons (pd_var 3) ad_nil))) ad_nil)))))) (sd_cons (sd_asg (ps_set (i := 5) sc_w_right.nd rfl (Or.inl rfl) (pd_L (pl_lst (ad_cons (pd_tup (ad_cons (pd_tup (ad_cons pd_str (ad_cons (pd_ix (pd_var 4) pd_int) ad_nil))) (ad_cons (pd_tup (ad_cons pd_str (ad_cons (pd_ix (pd_var 4) pd_int) ad_nil))) ad_nil))) ad_nil))))) (sd_cons (sd_asg (ps_set (i := 6) sc_w_right.nd rfl (Or.inl rfl) (pd_sub (by refine pd_call (k := 1) (f := T.a_w_ahead) (fd := T.d_w_ahead) (ps := P_w_ahead) (F := F_w_ahead) ?_ ?_ ?_ ?_ ?_ ?_ ?_ ?_; exact d_w_ahead T; exact hr.mono (by decide); exact rfl; exact T.g_w_ahead; exact T.F_w_ahead.kp; exact b_w_ahead T; exact (wok_takes (takes_of rfl rfl rfl rfl)); exact (ad_cons (pd_var 2) (ad_cons (pd_ix (pd_var 4) pd_int) ad_nil))) (by refine pd_call (k := 1) (f := T.a_w_ahead) (fd := T.d_w_ahead) (ps := P_w_ahead) (F := F_w_ahead) ?_ ?_ ?_ ?_ ?_ ?_ ?_ ?_; exact d_w_ahead T; exact hr.mono (by decide); exact rfl; exact T.g_w_ahead; exact T.F_w_ahead.kp; exact b_w_ahead T; exact (wok_takes (takes_of rfl rfl rfl rfl)); exact (ad_cons (pd_var 3) (ad_cons (pd_ix (pd_var 4) pd_int) ad_nil)))))) (sd_cons (sd_asg (ps_set (i := 7) sc_w_right.nd rfl (Or.inl rfl) (pd_L (pl_lst (ad_cons (pd_tup (ad_cons pd_str (ad_cons pd_str (ad_cons (pd_cb (call_max2 rfl) cd_max2 (by rfl) T.z_max (by decide +kernel) (ad_cons pd_int (ad_cons (pd_neg (pd_var 6)) ad_nil))) ad_nil)))) (ad_cons (pd_tup (ad_cons pd_str (ad_cons pd_str (ad_cons (pd_cb (call_max2 rfl) cd_max2 (by rfl) T.z_max (by decide +kernel) (ad_cons pd_int (ad_cons (pd_var 6) ad_nil))) ad_nil)))) ad_nil)))))) (sd_cons (sd_if (qd_or (qd_ne hr.units (by refine pd_call (k := 8) (f := T.a_offsets) (fd := T.d_offsets) (ps := P_offsets) (F := F_offsets) ?_ ?_ ?_ ?_ ?_ ?_ ?_ ?_; exact d_offsets T; exact hr.mono (by decide); exact rfl; exact T.g_offsets; exact T.F_offsets.kp; exact b_offsets T; exact (wok_takes (takes_of rfl rfl rfl rfl)); exact (ad_cons (pd_L (pl_lst (ad_cons (pd_var 2) (ad_cons (pd_var 3) ad_nil)))) (ad_cons (pd_var 5) ad_nil))) (pd_var 7)) (qd_or1 (qd_not (qd_tr (by refine pd_call (k := 8) (f := T.a_are_bases) (fd := T.d_are_bases) (ps := P_are_bases) (F := F_are_bases) ?_ ?_ ?_ ?_ ?_ ?_ ?_ ?_; exact d_are_bases T; exact hr.mono (by decide); exact rfl; exact T.g_are_bases; exact T.F_are_bases.kp; exact b_are_bases T; exact (wok_takes (takes_of rfl rfl rfl rfl)); exact (ad_cons (pd_L (pl_lst (ad_cons (pd_var 2) (ad_cons (pd_var 3) ad_nil)))) (ad_cons (pd_var 5) (ad_cons (pd_tup (ad_cons pd_int (ad_cons (pd_add pd_int (pd_var 6)) ad_nil))) ad_nil)))))))).pt (sd_one (sd_ret pd_bl)) sd_nil) (sd_cons (sd_par2 (ps_par rfl sc_w_right.nd rfl rfl (by decide) rfl rfl (md_val (pd_tup (ad_cons (pd_ix (pd_ix (pd_var 7) pd_int) pd_int) (ad_cons (pd_ix (pd_var 1) pd_int) (ad_cons (pd_add (pd_ix (pd_ix (pd_var 7) pd_int) pd_int) (by refine pd_call (k := 1) (f := T.a_w_units) (fd := T.d_w_units) (ps := P_w_units) (F := F_w_units) ?_ ?_ ?_ ?_ ?_ ?_ ?_ ?_; exact d_w_units T; exact hr.mono (by decide); exact rfl; exact T.g_w_units; exact T.F_w_units.kp; exact b_w_units T; exact (wok_takes (takes_of rfl rfl rfl rfl)); exact (ad_cons (pd_var 2) ad_nil))) ad_nil)))) (md_val (pd_tup (ad_cons (pd_ix (pd_ix (pd_var 7) pd_int) pd_int) (ad_cons (pd_ix (pd_var 1) pd_int) (ad_cons (pd_add (pd_ix (pd_ix (pd_var 7) pd_int) pd_int) (by refine pd_call (k := 1) (f := T.a_w_units) (fd := T.d_w_units) (ps := P_w_units) (F := F_w_units) ?_ ?_ ?_ ?_ ?_ ?_ ?_ ?_; exact d_w_units T; exact hr.mono (by decide); exact rfl; exact T.g_w_units; exact T.F_w_units.kp; exact b_w_units T; exact (wok_takes (takes_of rfl rfl rfl rfl)); exact (ad_cons (pd_var 3) ad_nil))) ad_nil)))) md_nil)) rfl)) (sd_cons (sd_par2 (ps_par rfl sc_w_right.nd rfl rfl (by decide) rfl rfl (md_val (pd_cb (call_max2 rfl) cd_max2 (by rfl) T.z_max (by decide +kernel) (ad_cons (pd_ix (pd_var 8) pd_int) (ad_cons (pd_ix (pd_var 9) pd_int) ad_nil))) (md_val (pd_cb (call_min2 rfl) cd_min2 (by rfl) T.z_min (by decide +kernel) (ad_cons (pd_ix (pd_var 8) pd_int) (ad_cons (pd_ix (pd_var 9) pd_int) ad_nil))) md_nil)) rfl)) (sd_cons (sd_if (qd_ne hr.units (by refine pd_call (k := 9) (f := T.a_shared) (fd := T.d_shared) (ps := P_shared) (F := F_shared) ?_ ?_ ?_ ?_ ?_ ?_ ?_ ?_; exact d_shared T; exact hr.mono (by decide); exact rfl; exact T.g_shared; exact T.F_shared.kp; exact b_shared T; exact (wok_takes (takes_of rfl rfl rfl rfl)); exact (ad_cons (pd_L (pl_lst (ad_cons (pd_var 2) (ad_cons (pd_var 3) ad_nil)))) (ad_cons (pd_var 5) (ad_cons pd_str (ad_cons pd_str ad_nil))))) (pd_if (qd_lt (pd_var 10) (pd_var 11)) (pd_tup (ad_cons (pd_sub (pd_var 10) (pd_ix (pd_var 8) pd_int)) (ad_cons (pd_sub (pd_var 11) (pd_var 10)) ad_nil))) pd_non)) (sd_one (sd_ret pd_bl)) sd_nil) (sd_cons (sd_asg (ps_set (i := 12) sc_w_right.nd rfl (Or.inl rfl) (pd_div (by refine pd_call (k := 1) (f := T.a_w_ahead) (fd := T.d_w_ahead) (ps := P_w_ahead) (F := F_w_ahead) ?_ ?_ ?_ ?_ ?_ ?_ ?_ ?_; exact d_w_ahead T; exact hr.mono (by decide); exact rfl; exact T.g_w_ahead; exact T.F_w_ahead.kp; exact b_w_ahead T; exact (wok_takes (takes_of rfl rfl rfl rfl)); exact (ad_cons (pd_var 2) (ad_cons (pd_ix (pd_var 4) pd_int) ad_nil))) (pd_ix (pd_var 1) pd_int)))) (sd_cons (sd_asg (ps_set (i := 13) sc_w_right.nd rfl (Or.inl rfl) (pd_sub (pd_cb (call_min2 rfl) cd_min2 (by rfl) T.z_min (by decide +kernel) (ad_cons (pd_add (pd_ix (pd_var 8) pd_int) (pd_mul (pd_add (pd_var 12) pd_int) (pd_ix (pd_var 1) pd_int))) (ad_cons (pd_ix (pd_var 9) pd_int) ad_nil))) pd_int))) (sd_cons (sd_asg (ps_set (i := 14) sc_w_right.nd rfl (Or.inl rfl) (pd_div (by refine pd_call (k := 1) (f := T.a_w_ahead) (fd := T.d_w_ahead) (ps := P_w_ahead) (F := F_w_ahead) ?_ ?_ ?_ ?_ ?_ ?_ ?_ ?_; exact d_w_ahead T; exact hr.mono (by decide); exact rfl; exact T.g_w_ahead; exact T.F_w_ahead.kp; exact b_w_ahead T; exact (wok_takes (takes_of rfl rfl rfl rfl)); exact (ad_cons (pd_var 3) (ad_cons (pd_ix (pd_var 4) pd_int) ad_nil))) (pd_ix (pd_var 1) pd_int)))) (sd_cons (sd_if (qd_ne hr.units (by refine pd_call (k := 9) (f := T.a_touched) (fd := T.d_touched) (ps := P_touched) (F := F_touched) ?_ ?_ ?_ ?_ ?_ ?_ ?_ ?_; exact d_touched T; exact hr.mono (by decide); exact rfl; exact T.g_touched; exact T.F_touched.kp; exact b_touched T; exact (wok_takes (takes_of rfl rfl rfl rfl)); exact (ad_cons (pd_L (pl_lst (ad_cons (pd_var 2) (ad_cons (pd_var 3) ad_nil)))) (ad_cons (pd_var 5) (ad_cons pd_str (ad_cons (pd_var 12) (ad_cons pd_str ad_nil)))))) (pd_tup (ad_cons (pd_var 14) (ad_cons (pd_div (pd_sub (pd_var 13) (pd_ix (pd_var 9) pd_int)) (pd_ix (pd_var 1) pd_int)) ad_nil)))) (sd_one (sd_ret pd_bl)) sd_nil) (sd_cons (sd_asg (ps_set (i := 15) sc_w_right.nd rfl (Or.inl rfl) (by refine pd_call (k := 2) (f := T.a_w_pairs) (fd := T.d_w_pairs) (ps := P_w_pairs) (F := F_w_pairs) ?_ ?_ ?_ ?_ ?_ ?_ ?_ ?_; exact d_w_pairs T; exact hr.mono (by decide); exact rfl; exact T.g_w_pairs; exact T.F_w_pairs.kp; exact b_w_pairs T; exact (wok_takes (takes_of rfl rfl rfl rfl)); exact (ad_cons (pd_var 8) (ad_cons (pd_var 9) (ad_cons (pd_var 10) (ad_cons (pd_var 11) ad_nil))))))) (sd_cons (sd_if (qd_or (qd_ne hr.units (by refine pd_call (k := 9) (f := T.a_pairs_number) (fd := T.d_pairs_number) (ps := P_pairs_number) (F := F_pairs_number) ?_ ?_ ?_ ?_ ?_ ?_ ?_ ?_; exact d_pairs_number T; exact hr.mono (by decide); exact rfl; exact T.g_pairs_number; exact T.F_pairs_number.kp; exact b_pairs_number T; exact (wok_takes (takes_of rfl rfl rfl rfl)); exact (ad_cons (pd_L (pl_lst (ad_cons (pd_var 2) (ad_cons (pd_var 3) ad_nil)))) (ad_cons (pd_var 5) (ad_cons pd_str (ad_cons pd_str ad_nil))))) (pd_var 15)) (qd_or1 (qd_ne hr.units (by refine pd_call (k := 9) (f := T.a_pairs_number) (fd := T.d_pairs_number) (ps := P_pairs_number) (F := F_pairs_number) ?_ ?_ ?_ ?_ ?_ ?_ ?_ ?_; exact d_pairs_number T; exact hr.mono (by decide); exact rfl; exact T.g_pairs_number; exact T.F_pairs_number.kp; exact b_pairs_number T; exact (wok_takes (takes_of rfl rfl rfl rfl)); exact (ad_cons (pd_L (pl_lst (ad_cons (pd_var 2) (ad_cons (pd_var 3) ad_nil)))) (ad_cons (pd_var 5) (ad_cons pd_str (ad_cons pd_str ad_nil))))) (pd_var 15)))).pt (sd_one (sd_ret pd_bl)) sd_nil) (sd_cons (sd_asg (ps_set (i := 16) sc_w_right.nd rfl (Or.inl rfl) (pd_if (qd_and (qd_eq hr.units (pd_ix (pd_var 1) pd_int) (pd_ix (pd_var 1) pd_int)) (qd_and1 (qd_eq hr.units (pd_mod (pd_ct call_int1 cd_int (by rfl) T.z_int (by decide +kernel) (ad_cons (pd_var 6) ad_nil)) (pd_ix (pd_var 1) pd_int)) pd_int))).pt (pd_div (pd_sub (pd_var 11) (pd_var 10)) (pd_ix (pd_var 1) pd_int)) pd_int))) (sd_one (sd_ret (pd_eq hr.units (by refine pd_call (k := 9) (f := T.a_twins_number) (fd := T.d_twins_number) (ps := P_twins_number) (F := F_twins_number) ?_ ?_ ?_ ?_ ?_ ?_ ?_ ?_; exact d_twins_number T; exact hr.mono (by decide); exact rfl; exact T.g_twins_number; exact T.F_twins_number.kp; exact b_twins_number T; exact (wok_takes (takes_of rfl rfl rfl rfl)); exact (ad_cons (pd_L (pl_lst (ad_cons (pd_var 2) (ad_cons (pd_var 3) ad_nil)))) (ad_cons (pd_var 5) (ad_cons pd_str (ad_cons pd_str ad_nil))))) (pd_var 16))))))))))))))))))))))
end

end DL

set_option maxHeartbeats 2000000
namespace DL
open PySem PySem.Spec PyProof.Rows L2
open Evl (Ex)
instance noTab : TabT := ⟨[], rfl⟩
instance noOld : OldT := ⟨fun _ => none⟩

/-! ### the law's own shell: the source of wells, the turns -/
section
variable {X : Cx}
/-- list + list, whatever the first one is -/
theorem op_catS : OpR X (binaryOp .Add) (fun x y H Q => ∃ l b xs zs, x = V.ref l ∧ y = V.ref b ∧ SqL X.K H l xs ∧ SqL X.K H b zs ∧ xs.length + zs.length ≤ sizeLine ∧ ∀ p, H p = none → Q (.ref p) (upd H p (.lst (xs ++ zs)))) := by
  intro pins s σ H x y v u Q I rx ry h
  obtain ⟨l, b, xs, zs, rfl, rfl, hH, hB, hz, q⟩ := h
  cases rx
  cases ry
  obtain ⟨its, r, ⟨⟨cls, dd, data, sl⟩, n, ho, hc, hdn, hd⟩, hl⟩ := I.list hH
  obtain ⟨its2, r2, ⟨⟨cls2, dd2, data2, sl2⟩, n2, ho2, hc2, hdn2, hd2⟩, hl2⟩ := I.list hB
  simp only at hc hd hc2 hd2
  subst hc hd hc2 hd2
  have e : its.toArray ++ its2.toArray = (its ++ its2).toArray := by simp
  refine concat_meets ⟨_, ho, rfl⟩ ⟨_, ho2, rfl⟩ noFill_list_add seq_list_add PySem.F.slot_list_add PySem.F.entry_list_add (PySem.F.args_list_add_2 _ _) (list_addW l b its.toArray its2.toArray n n2 dd dd2 sl sl2 (by rw [List.size_toArray, List.size_toArray, ← r.length, ← r2.length]; exact hz)) ⟨ho, ho2, ?_⟩
  rw [e]
  exact ⟨.ref _, _, I.lnew (t' := s.toks) (r.append r2) (by rw [List.length_append]; exact hz), rfl, q _ I.fresh⟩
end
theorem Rd.keep {H H' : Hp} {a : Addr} {u : HO} (h : Rd H a u) (k : ∀ o, H a = some o → H' a = some o) : Rd H' a u := h.elim (fun e => .inl (k _ e)) fun ⟨o, e⟩ => .inr ⟨o, k _ e⟩
theorem SqL.keep {K : PySem.W.Frag} {H H' : Hp} {a : Addr} {xs : List V} (h : SqL K H a xs) (k : ∀ o, H a = some o → H' a = some o) : SqL K H' a xs := h.elim (fun e => .inl (Rd.keep e k)) .inr
theorem SqL.keepN {K : PySem.W.Frag} {H H' : Hp} {a : Addr} {xs : List V} (h : SqL K H a xs) (k : ∀ o, NT o → H a = some o → H' a = some o) : SqL K H' a xs := h.elim (fun e => .inl (e.elim (fun e => .inl (k _ nt_lst e)) fun ⟨o, e⟩ => .inr ⟨o, k _ (fun _ z => nomatch z) e⟩)) .inr
theorem same_upd {H : Hp} {p : Addr} {o : HO} (h : H p = none) : Same H (upd H p o) := fun b x e => by
  rw [upd_ne (ne_of_none e h)]
  exact e
section
variable {P : Program} {w : World} {K : PySem.W.Frag} {mg : Str → Option Value} {base : Heap}
abbrev N_w_well : List Str := ["_law_cell"]
abbrev P_w_well : List Str := ["_law_cell"]
theorem sc_w_well : FnScope N_w_well P_w_well (defScope s_w_well) := ⟨rfl, rfl, rfl, by decide +kernel, rfl, by decide +kernel, by decide +kernel⟩
def spWell : Sp := fun vs H Q _ => ∃ (c : Int), vs = [.int c] ∧
  ∀ H' p (c' d : Int), 0 ≤ d ∧ d < 2147483629 → Same H H' → H p = none → H' p = some (.lst (wl (c', d, 0))) → Q (.ref p) H'
theorem mod_rng {a n : Int} (h : 0 < n) : 0 ≤ a.fmod n ∧ a.fmod n < n := by
  rw [Int.fmod_eq_emod_of_nonneg _ (by omega)]
  exact ⟨Int.emod_nonneg _ (by omega), Int.emod_lt_of_pos _ h⟩
theorem ok_well (T : Txt K mg) : FnOk P w K mg base (L2.CX P w) 1 T.a_w_well T.d_w_well P_w_well spWell := by
  refine T.F_w_well.okX sc_w_well (fun vs H Q E h => ?_) (fun cdv A outer s H vs Q E hr h => ?_)
  · obtain ⟨c, rfl, _⟩ := h
    rfl
  · obtain ⟨c, rfl, q⟩ := h
    refine ⟨_, pss_one (ps_ret (pe_lst (pa_cons (pe_op op_mul (pv 0) (pe_callTy call_int1 (by rfl) T.z_int (by decide +kernel) (pa_cons (pe_cmpR op_ge (pv 0) (pe_op op_pow pe_int pe_int) (nomark _)) pa_nil)))
      (pa_cons (pe_op op_modN (pe_callTy call_int1 (by rfl) T.z_int (by decide +kernel) (pa_cons (pv 0) pa_nil)) pe_int)
      (pa_cons pe_int pa_nil))))), ?_⟩
    refine ⟨.int c, rfl, .int c, rfl, 10, 18, rfl, rfl, ⟨by decide, by decide, by decide⟩, _, _, rfl, rfl, .inr ⟨_, rfl, _, _, rfl, rfl, .inr ?_, ?_⟩⟩
    · split <;> exact ⟨by decide, by decide⟩
    refine ⟨.int c, rfl, .inl ⟨_, rfl, _, _, rfl, rfl, (show (2147483629 : Int) ≠ 0 by decide), (show 3 ≤ sizeLine by decide), fun p hp => ?_⟩⟩
    exact q _ p _ (c.fmod 2147483629) (mod_rng (by omega)) (same_upd hp) hp upd_same
abbrev N_law : List Str := ["_law_script", "_law_cell", "_law_well_here", "_law_turn", "_law_far_here", "_law_whole"]
abbrev P_law : List Str := ["_law_script"]
theorem sc_law : FnScope N_law P_law (defScope s_law) := ⟨rfl, rfl, rfl, by decide +kernel, rfl, by decide +kernel, by decide +kernel⟩
def spLaw (K : PySem.W.Frag) : Sp := fun vs H Q _ => ∃ (a : Addr) (ns : List Int), vs = [.ref a] ∧ SqL K H a (ns.map V.int) ∧ ns.length ≤ 63 ∧ ∀ H', Q (.bl true) H'
/-- how far the well's own count has come -/
def Lap (b : Nat) (w : Wl) : Prop := 0 ≤ w.2.2 ∧ w.2.2 ≤ b ∧ 0 ≤ w.2.1 ∧ w.2.1 < 2147483629
def T_tail : DS := (sSeq (sAsg 4 (eBin fPowW (eC (.int 10)) (eC (.int 30)))) (sSeq (sAsg 5 (eTup (aCons (eC (.str "a")) (aCons (eC (.int 3)) (aCons (eBin fMul (eTup (aCons (eTup (aCons (eUn fNeg (eVar 4)) (aCons (eVar 4) aNil))) aNil)) (eC (.int 7))) aNil))))) (sRet (eChain fEq fEq (eCall 4 F_pairs_number (aCons (eL (aLst (aCons (eVar 5) aNil))) (aCons (eL (aLst aNil)) (aCons (eC (.str "a")) (aCons (eC (.str "a")) aNil))))) (eBin fPowW (eBin fAdd (eBin fMul (eC (.int 2)) (eVar 4)) (eC (.int 1))) (eC (.int 7))) (eCall 4 F_twins_number (aCons (eL (aLst (aCons (eVar 5) aNil))) (aCons (eTup aNil) (aCons (eC (.str "a")) (aCons (eC (.str "a")) aNil)))))))))
theorem none_slots {wa : Addr} {Hf H : Hp} {σ : L2.St} : Slots wa Hf H σ (List.replicate σ.length none) := by
  have no : ∀ {i : Nat} {d : D}, (List.replicate σ.length (none : Option D))[i]? = some (some d) → False := fun {i d} e => by
    rw [List.getElem?_replicate] at e
    split at e <;> cases e
  exact ⟨by rw [List.length_replicate], fun i d e => (no e).elim, fun i xs e => (no e).elim, fun i ks xs e => (no e).elim, fun i j d e p h => (no h).elim⟩
theorem ok_law (T : Txt K mg) (hR : ∀ (b : Nat) (w : Wl), b < 100000 → Lap b w → ∃ w', F_w_right [.well] w = .ok (.bl true) w' ∧ Lap (b + 4000) w') (hT : ∀ w : Wl, T_tail [none, none, none, none, none, none] w = .rt (.bl true) w) : FnOk P w K mg base (L2.CX P w) (10 + 1) T.a_law T.d_law P_law (spLaw K) := by
  refine T.F_law.okX sc_law (fun vs H Q E h => ?_) (fun cdv A outer s H vs Q E hr h => ?_)
  · obtain ⟨a, ns, rfl, _⟩ := h
    rfl
  · obtain ⟨a, ns, rfl, hS, hlen, q⟩ := h
    refine ⟨_, pss_cons (ps_for (passes_of rfl) rfl (pi_list (pe_op op_catS (pe_slice sl_list (pv 0) po_none (po_some pe_int)) (pe_lst (pa_cons pe_int pa_nil))))
        (pg_name (i := 1) sc_law.nd rfl (.inl rfl))
        (pss_cons (ps_set (i := 2) sc_law.nd rfl (.inl rfl) (by refine pe_callS (CX := L2.CX P w) (k := 1) (f := T.a_w_well) (fd := T.d_w_well) (ps := P_w_well) (sp := spWell) (E := WE W0) (t := tCons (tVar 1) tNil) ?_ ?_ ?_ ?_ ?_ ?_ ?_ ?_; exact ok_well T; exact hr.mono (by decide); exact rfl; exact T.g_w_well; exact T.F_w_well.kp; exact b_w_well T; exact wok0; exact pa_cons (pv 1) pa_nil))
          (pss_one (ps_for (passes_of rfl) rfl (pi_range1 (by rfl) T.z_range (pa_cons pe_int pa_nil)) (pg_name (i := 3) sc_law.nd rfl (.inl rfl))
            (pss_one (ps_if (pt_not (pt_truth (by refine pe_callS (CX := L2.CX P w) (k := 10) (f := T.a_w_right) (fd := T.d_w_right) (ps := P_w_right) (sp := spD mg 1 F_w_right) (E := WE W0) (t := tCons (tVar 2) tNil) ?_ ?_ ?_ ?_ ?_ ?_ ?_ ?_; exact d_w_right T; exact hr; exact rfl; exact T.g_w_right; exact T.F_w_right.kp; exact b_w_right T; exact wok0; exact pa_cons (pv 2) pa_nil) (by intro _; rfl)))
              (pss_one (ps_ret pe_bl)) pss_nil))))))
      (show PSs _ _ (lS mg W0 T_tail) from (sd_cons (sd_asg (ps_set (i := 4) sc_law.nd rfl (Or.inl rfl) (pd_powW pd_int pd_int))) (sd_cons (sd_asg (ps_set (i := 5) sc_law.nd rfl (Or.inl rfl) (pd_tup (ad_cons pd_str (ad_cons pd_int (ad_cons (pd_mul (pd_tup (ad_cons (pd_tup (ad_cons (pd_neg (pd_var 4)) (ad_cons (pd_var 4) ad_nil))) ad_nil)) pd_int) ad_nil)))))) (sd_one (sd_ret (pd_chain (op_eqD hr.units) (op_eqD hr.units) opd_eq opd_eq (by refine pd_call (k := 9) (f := T.a_pairs_number) (fd := T.d_pairs_number) (ps := P_pairs_number) (F := F_pairs_number) ?_ ?_ ?_ ?_ ?_ ?_ ?_ ?_; exact d_pairs_number T; exact hr.mono (by decide); exact rfl; exact T.g_pairs_number; exact T.F_pairs_number.kp; exact b_pairs_number T; exact wok0; exact (ad_cons (pd_L (pl_lst (ad_cons (pd_var 5) ad_nil))) (ad_cons (pd_L (pl_lst ad_nil)) (ad_cons pd_str (ad_cons pd_str ad_nil))))) (pd_powW (pd_add (pd_mul pd_int (pd_var 4)) pd_int) pd_int) (by refine pd_call (k := 9) (f := T.a_twins_number) (fd := T.d_twins_number) (ps := P_twins_number) (F := F_twins_number) ?_ ?_ ?_ ?_ ?_ ?_ ?_ ?_; exact d_twins_number T; exact hr.mono (by decide); exact rfl; exact T.g_twins_number; exact T.F_twins_number.kp; exact b_twins_number T; exact wok0; exact (ad_cons (pd_L (pl_lst (ad_cons (pd_var 5) ad_nil))) (ad_cons (pd_tup ad_nil) (ad_cons pd_str (ad_cons pd_str ad_nil))))))))))), ?_⟩
    obtain ⟨ms, hms, hml⟩ : ∃ ms : List Int, cutV (ns.map V.int) none (some 4) = ms.map V.int ∧ ms.length ≤ 63 := by
      refine ⟨(ns.drop (HT.sIx (ns.map V.int).length 0 none)).take (HT.sIx (ns.map V.int).length (ns.map V.int).length (some 4) - HT.sIx (ns.map V.int).length 0 none), ?_, ?_⟩
      · unfold cutV
        rw [List.map_take, List.map_drop]
      · rw [List.length_take, List.length_drop]
        omega
    obtain ⟨L, hL⟩ : ∃ L : List Int, L = ms ++ [0] := ⟨_, rfl⟩
    have hLl : L.length ≤ 64 ∧ 1 ≤ L.length := by rw [hL]; simp; omega
    have eL : ms.map V.int ++ [V.int 0] = L.map V.int := by rw [hL, List.map_append]; rfl
    refine ⟨.ref a, rfl, 4, rfl, a, ns.map V.int, rfl, hS, fun p1 n1 => ⟨(show 1 ≤ sizeLine by decide), fun p2 n2 => ?_⟩⟩
    rw [hms]
    have np12 : p1 ≠ p2 := fun z => by rw [← z, upd_same] at n2; cases n2
    refine ⟨p1, p2, ms.map V.int, [.int 0], rfl, rfl, SqL.of (by rw [upd_ne np12]; exact upd_same), SqL.of upd_same, ?_, fun p3 n3 => ?_⟩
    · rw [List.length_map]
      exact Nat.le_trans (Nat.add_le_add_right hml 1) (by decide)
    rw [eL]
    refine ⟨p3, rfl, ⟨_, SqL.of upd_same⟩, ?_⟩
    generalize hn : L.length = n at hLl
    refine ⟨fun i m σ H1 => m = n - i ∧ i ≤ n ∧ H1 p3 = some (.lst (L.map V.int)) ∧ ∃ y1 y2 y3, σ = [some (.ref a), y1, y2, y3, none, none] ∧ (i = 0 ∨ ∃ p w, y2 = some (.ref p) ∧ H1 p = some (.lst (wl w))), ⟨n, rfl, Nat.zero_le _, upd_same, none, none, none, rfl, .inl rfl⟩, ?_⟩
    rintro i m σ H1 ⟨rfl, hi, k1, y1, y2, y3, rfl, hy2⟩
    by_cases hlt : i < n
    · have hiL : i < L.length := by omega
      refine .inr ⟨⟨L.map V.int, .int L[i], SqL.of k1, by rw [List.getElem?_map, List.getElem?_eq_getElem hiL]; rfl⟩, fun σ' H' => H' p3 = some (.lst (L.map V.int)) ∧ ∃ y1 y2 y3, σ' = [some (.ref a), y1, y2, y3, none, none] ∧ ∃ p w, y2 = some (.ref p) ∧ H' p = some (.lst (wl w)),
        fun σ' H' hN => ⟨n - (i + 1), by omega, rfl, hlt, hN.1, hN.2.choose, hN.2.choose_spec.choose, hN.2.choose_spec.choose_spec.choose, hN.2.choose_spec.choose_spec.choose_spec.1, .inr hN.2.choose_spec.choose_spec.choose_spec.2⟩, fun x H2 hy => ?_⟩
      obtain ⟨rfl, hy⟩ := hy
      have ex := hy _ (SqL.of k1)
      rw [List.getElem?_map, List.getElem?_eq_getElem hiL] at ex
      cases ex
      refine ⟨.int L[i], rfl, L[i], rfl, fun H3 p c d hd sm np hp => ?_⟩
      have k3 : H3 p3 = some (.lst (L.map V.int)) := sm _ _ k1
      have hap : p3 ≠ p := fun z => by
        rw [← z, k1] at np
        cases np
      refine ⟨8, rfl, by decide, by decide, fun t m σ H4 => m = 8 - t ∧ t ≤ 8 ∧ H4 p3 = some (.lst (L.map V.int)) ∧ ∃ y3 w4, σ = [some (.ref a), some (.int L[i]), some (.ref p), y3, none, none] ∧ Lap (4000 * t) w4 ∧ H4 p = some (.lst (wl w4)), ⟨8, rfl, by decide, k3, _, (c, d, 0), rfl, ⟨Int.le_refl 0, Int.le_refl 0, hd⟩, hp⟩, ?_⟩
      rintro t m σ H4 ⟨rfl, ht, k4, y3, w4, rfl, l4, hp4⟩
      by_cases ht3 : t < 8
      · refine .inr ⟨ht3, fun σ' H' => H' p3 = some (.lst (L.map V.int)) ∧ ∃ y3 w4, σ' = [some (.ref a), some (.int L[i]), some (.ref p), y3, none, none] ∧ Lap (4000 * (t + 1)) w4 ∧ H' p = some (.lst (wl w4)), fun σ' H' hN => ⟨8 - (t + 1), by omega, rfl, ht3, hN⟩, fun x H5 hy => ?_⟩
        obtain ⟨rfl, rfl⟩ := hy
        obtain ⟨w6, e6, l6⟩ := hR (4000 * t) w4 (by omega) l4
        refine ⟨.ref p, rfl, p, fun _ => none, [.well], w4, ⟨fun _ _ z => (by cases z), hp4, rfl, tabs_nil, fun _ _ z => (by cases z), fun _ _ z => (by cases z)⟩, .cons .well .nil, rfl, ?_⟩
        rw [e6]
        intro H6 Hf6 g6 b6 v rv
        cases rv
        refine ⟨true, rfl, iteF ?_⟩
        exact ⟨g6.keepN p3 _ hap nt_lst k4, _, w6, rfl, l6, b6.well⟩
      · exact .inl ⟨show 8 ≤ t from by omega, k4, _, _, _, rfl, p, w4, rfl, hp4⟩
    · refine .inl ⟨⟨L.map V.int, SqL.of k1, by rw [List.length_map]; omega⟩, ?_⟩
      rcases hy2 with h0 | ⟨p, w4, rfl, hp⟩
      · omega
      refine ⟨p, fun _ => none, List.replicate N_law.length none, w4, H1, fun _ => none, Go.refl, ⟨fun _ _ z => (by cases z), hp, rfl, tabs_nil, fun _ _ z => (by cases z), fun _ _ z => (by cases z)⟩, none_slots (σ := [some (.ref a), y1, some (.ref p), y3, none, none]), fun i d p e => ?_, ?_⟩
      · rw [List.getElem?_replicate] at e
        split at e <;> cases e
      · rw [show T_tail (List.replicate N_law.length none) w4 = .rt (.bl true) w4 from hT w4]
        intro H' Hf' v g b r
        cases r
        exact q H'
end
end DL

set_option maxHeartbeats 2000000
namespace DL
open PySem PySem.Spec PyProof.Rows L2
/-! ### draws -/
section
variable {w : Wl} {b : Nat}
theorem seq_nx {U V : DS} {s s1 : Sl} {w w1 : Wl} (h : U s w = .nx s1 w1) : sSeq U V s w = V s1 w1 := by unfold sSeq; rw [h]
abbrev mX1 (k1 k2 k3 k4 : Int) : DE := eBin fMod (eCB fInt (aCons (eBin fMul (eBin fAdd (eBin fAdd (eBin fIx (eVar 0) (eC (.int 1))) (eBin fMul (eC (.int k1)) (eBin fIx (eVar 0) (eC (.int 2))))) (eC (.int k2))) (eC (.int k3))) aNil)) (eC (.int k4))
abbrev mX2 (k1 k2 k3 : Int) : DE := eBin fMod (eCB fInt (aCons (eBin fMul (eVar 3) (eBin fAdd (eBin fDiv (eVar 3) (eC (.int k1))) (eC (.int k2)))) aNil)) (eC (.int k3))
abbrev mX3 (k1 k2 k3 k4 : Int) : DE := eBin fMod (eCB fInt (aCons (eBin fDiv (eBin fMod (eCB fInt (aCons (eBin fMul (eVar 3) (eBin fAdd (eBin fDiv (eVar 3) (eC (.int k1))) (eC (.int k2)))) aNil)) (eC (.int k3))) (eC (.int k4))) aNil)) (eVar 1)
theorem mX1_ok {k1 k2 k3 k4 n : Int} {t2 t3 : Option D} (m1 : mulOk k1 w.2.2) (m2 : mulOk (w.2.1 + k1 * w.2.2 + k2) k3) (n4 : k4 ≠ 0) : mX1 k1 k2 k3 k4 [some .well, some (.int n), t2, t3] w = .ok (.int (((w.2.1 + k1 * w.2.2 + k2) * k3).fmod k4)) w := by
  apply okE_eq
  simp [mX1, m1, m2, n4]
theorem mX2_ok {k1 k2 k3 n z : Int} {t2 : Option D} (d1 : divOk k1) (m : mulOk z (z.fdiv k1 + k2)) (n3 : k3 ≠ 0) : mX2 k1 k2 k3 [some .well, some (.int n), t2, some (.int z)] w = .ok (.int ((z * (z.fdiv k1 + k2)).fmod k3)) w := by
  apply okE_eq
  simp [mX2, d1, m, n3]
theorem mX3_ok {k1 k2 k3 k4 n z : Int} {t2 : Option D} (d1 : divOk k1) (m : mulOk z (z.fdiv k1 + k2)) (n3 : k3 ≠ 0) (d4 : divOk k4) (nn : n ≠ 0) : mX3 k1 k2 k3 k4 [some .well, some (.int n), t2, some (.int z)] w = .ok (.int ((((z * (z.fdiv k1 + k2)).fmod k3).fdiv k4).fmod n)) w := by
  apply okE_eq
  simp [mX3, d1, m, n3, d4, nn]
theorem mix_run {k1 k2 k3 k4 k5 k6 k7 k8 k9 k10 k11 n z1 z2 : Int} {t2 : Option D} (hz1 : z1 = ((w.2.1 + k1 * w.2.2 + k2) * k3).fmod k4) (hz2 : z2 = (z1 * (z1.fdiv k5 + k6)).fmod k7)
    (m1 : mulOk k1 w.2.2) (m2 : mulOk (w.2.1 + k1 * w.2.2 + k2) k3) (n4 : k4 ≠ 0) (d5 : divOk k5) (m3 : mulOk z1 (z1.fdiv k5 + k6)) (n7 : k7 ≠ 0) (d8 : divOk k8) (m4 : mulOk z2 (z2.fdiv k8 + k9)) (n10 : k10 ≠ 0) (d11 : divOk k11) (nn : n ≠ 0) :
    sSeq (sAsg 3 (mX1 k1 k2 k3 k4)) (sSeq (sAsg 3 (mX2 k5 k6 k7)) (sRet (mX3 k8 k9 k10 k11))) [some .well, some (.int n), t2, none] w = .rt (.int ((((z2 * (z2.fdiv k8 + k9)).fmod k10).fdiv k11).fmod n)) w := by
  have e1 : sAsg 3 (mX1 k1 k2 k3 k4) [some .well, some (.int n), t2, none] w = .nx [some .well, some (.int n), t2, some (.int z1)] w := by
    unfold sAsg
    rw [mX1_ok m1 m2 n4, ← hz1]
    rfl
  have e2 : sAsg 3 (mX2 k5 k6 k7) [some .well, some (.int n), t2, some (.int z1)] w = .nx [some .well, some (.int n), t2, some (.int z2)] w := by
    unfold sAsg
    rw [mX2_ok d5 m3 n7, ← hz2]
    rfl
  have e3 : sRet (mX3 k8 k9 k10 k11) [some .well, some (.int n), t2, some (.int z2)] w = .rt (.int ((((z2 * (z2.fdiv k8 + k9)).fmod k10).fdiv k11).fmod n)) w := by
    unfold sRet
    rw [mX3_ok d8 m4 n10 d11 nn]
  exact (seq_nx e1).trans ((seq_nx e2).trans e3)
theorem btn {a : Int} {k : Nat} (h0 : 0 ≤ a) (h : a < 2 ^ k) : Bt k a := bt_of (by
  have : (0 : Int) < 2 ^ k := Int.pow_pos (by decide)
  omega) h
theorem bt50 {a : Int} (h0 : 0 ≤ a) (h : a < 1125899906842624) : Bt 50 a := btn h0 (by
  have : (2 : Int) ^ 50 = 1125899906842624 := by decide
  omega)
theorem mix_ok {n : Int} {t2 : Option D} (hw : 0 ≤ w.2.2 ∧ w.2.2 ≤ 2000000 ∧ 0 ≤ w.2.1 ∧ w.2.1 < 2147483629) (hn : 0 < n) {k1 k2 k3 k4 k5 k6 k7 k8 k9 k10 k11 : Int}
    (b1 : 0 ≤ k1 ∧ k1 ≤ 100000) (b2 : 0 ≤ k2 ∧ k2 ≤ 100000) (b3 : 0 ≤ k3 ∧ k3 ≤ 100000) (b4 : 0 < k4 ∧ k4 ≤ 4294967296) (b5 : 0 < k5 ∧ k5 ≤ 100000) (b6 : 0 ≤ k6 ∧ k6 ≤ 100000) (b7 : 0 < k7 ∧ k7 ≤ 4294967296) (b8 : 0 < k8 ∧ k8 ≤ 100000) (b9 : 0 ≤ k9 ∧ k9 ≤ 100000) (b10 : 0 < k10 ∧ k10 ≤ 4294967296) (b11 : 0 < k11 ∧ k11 ≤ 100000) :
    ∃ m : Int, (0 ≤ m ∧ m < n) ∧ sSeq (sAsg 3 (mX1 k1 k2 k3 k4)) (sSeq (sAsg 3 (mX2 k5 k6 k7)) (sRet (mX3 k8 k9 k10 k11))) [some .well, some (.int n), t2, none] w = .rt (.int m) w := by
  obtain ⟨z1, hz1⟩ : ∃ z, z = ((w.2.1 + k1 * w.2.2 + k2) * k3).fmod k4 := ⟨_, rfl⟩
  obtain ⟨z2, hz2⟩ : ∃ z, z = (z1 * (z1.fdiv k5 + k6)).fmod k7 := ⟨_, rfl⟩
  have a1 := fmod_range (a := (w.2.1 + k1 * w.2.2 + k2) * k3) b4.1
  rw [← hz1] at a1
  have a2 := fmod_range (a := z1 * (z1.fdiv k5 + k6)) b7.1
  rw [← hz2] at a2
  have a3 := fdiv_range (a := z1) b5.1 a1.1
  have a4 := fdiv_range (a := z2) b8.1 a2.1
  have p1 : 0 ≤ k1 * w.2.2 ∧ k1 * w.2.2 ≤ 200000000000 := ⟨Int.mul_nonneg b1.1 hw.1, Int.le_trans (Int.mul_le_mul b1.2 hw.2.1 hw.1 (by omega)) (by omega)⟩
  obtain ⟨y, hy⟩ : ∃ y, y = k1 * w.2.2 := ⟨_, rfl⟩
  rw [← hy] at p1
  refine ⟨_, fmod_range hn, mix_run hz1 hz2 ?_ ?_ (by omega) ?_ ?_ (by omega) ?_ ?_ (by omega) ?_ (by omega)⟩
  · exact mul_bt (bt50 b1.1 (by omega)) (bt50 hw.1 (by omega)) (by omega)
  · rw [← hy]
    exact mul_bt (bt50 (by omega) (by omega)) (bt50 b3.1 (by omega)) (by omega)
  · exact div_bt (by omega) (bt50 (by omega) (by omega)) (by omega)
  · exact mul_bt (bt50 a1.1 (by omega)) (bt50 (by omega) (by omega)) (by omega)
  · exact div_bt (by omega) (bt50 (by omega) (by omega)) (by omega)
  · exact mul_bt (bt50 a2.1 (by omega)) (bt50 (by omega) (by omega)) (by omega)
  · exact div_bt (by omega) (bt50 (by omega) (by omega)) (by omega)
theorem pp110 : (2 : Int) ^ 110 = 1298074214633706907132624082305024 := by decide
theorem divOk_small {n : Int} (h0 : 0 < n) (h1 : n ≤ 2 ^ 110) : divOk n :=
  div_bt (i := 111) (by omega) (nat_lt_pow (by omega) h1) (by omega)
def drawB (R : DS) : DS := (sSeq (sIf (tE (eBin fGt (eBin fIx (eVar 0) (eC (.int 0))) (eC (.int 0)))) (sSeq (sAsg 2 (eBin fMod (eCB fInt (aCons (eBin fIx (eVar 0) (eC (.int 0))) aNil)) (eVar 1))) (sSeq (sSetW (eVar 0) (eC (.int 0)) (eBin fDiv (eBin fIx (eVar 0) (eC (.int 0))) (eVar 1))) (sRet (eVar 2)))) sNx) (sSeq (sSetW (eVar 0) (eC (.int 2)) (eBin fAdd (eBin fIx (eVar 0) (eC (.int 2))) (eC (.int 1)))) R))
theorem draw_shape : F_w_draw = runB 4 2 (drawB (sSeq (sAsg 3 (mX1 70001 37 69621 2147483647)) (sSeq (sAsg 3 (mX2 1021 48271 2147483587)) (sRet (mX3 2011 40692 2147483563 11))))) := rfl
theorem drawB_run {n : Int} {R : DS} {Q : D → Wl → Prop} (hn : n ≠ 0) (dn : divOk n) (h1 : 0 < w.1 → Q (.int (w.1.fmod n)) (w.1.fdiv n, w.2.1, w.2.2)) (h2 : ¬ 0 < w.1 → ∃ d, R [some .well, some (.int n), none, none] (w.1, w.2.1, w.2.2 + 1) = .rt d (w.1, w.2.1, w.2.2 + 1) ∧ Q d (w.1, w.2.1, w.2.2 + 1)) :
    okE (runB 4 2 (drawB R) [.well, .int n] w) Q := by
  by_cases hp : 0 < w.1
  · simp [drawB, okE_run, List.replicate, hp, hn, dn]
    exact h1 hp
  · obtain ⟨d, e, q⟩ := h2 hp
    simp [drawB, okE_run, List.replicate, hp, e]
    exact q
theorem e_draw {n : Int} (h0 : 0 < n) (h1 : n ≤ 2 ^ 110) (hb : b < 1010000) (hw : Lap b w) : okE (F_w_draw [.well, .int n] w) fun d w' => ∃ k : Int, d = .int k ∧ (0 ≤ k ∧ k < n) ∧ Lap (b + 1) w' := by
  obtain ⟨l0, l1, l2, l3⟩ := hw
  rw [draw_shape]
  refine drawB_run (by omega) (divOk_small h0 h1) (fun hp => ⟨_, rfl, fmod_range h0, l0, by show w.2.2 ≤ _; omega, l2, l3⟩) fun hp => ?_
  obtain ⟨m, hm, e⟩ := mix_ok (w := (w.1, w.2.1, w.2.2 + 1)) (t2 := none) (n := n) (k1 := 70001) (k2 := 37) (k3 := 69621) (k4 := 2147483647) (k5 := 1021) (k6 := 48271) (k7 := 2147483587) (k8 := 2011) (k9 := 40692) (k10 := 2147483563) (k11 := 11) ⟨by show 0 ≤ w.2.2 + 1; omega, by show w.2.2 + 1 ≤ _; omega, l2, l3⟩ h0 ⟨by omega, by omega⟩ ⟨by omega, by omega⟩ ⟨by omega, by omega⟩ ⟨by omega, by omega⟩ ⟨by omega, by omega⟩ ⟨by omega, by omega⟩ ⟨by omega, by omega⟩ ⟨by omega, by omega⟩ ⟨by omega, by omega⟩ ⟨by omega, by omega⟩ ⟨by omega, by omega⟩
  exact ⟨_, e, _, rfl, hm, by show 0 ≤ w.2.2 + 1; omega, by show w.2.2 + 1 ≤ _; omega, l2, l3⟩
/-- a draw, and then on -/
theorem draw {n : Int} {Q : D → Wl → Prop} (hw : Lap b w) (h0 : 0 < n) (h1 : n ≤ 2 ^ 110) (hb : b < 1010000) (q : ∀ (k : Int) (w' : Wl), 0 ≤ k → k < n → Lap (b + 1) w' → Q (.int k) w') : okE (F_w_draw [.well, .int n] w) Q :=
  okE_mono (e_draw h0 h1 hb hw) fun d w' ⟨k, e, h, l⟩ => by subst e; exact q k w' h.1 h.2 l
/-- one of some -/
theorem pick {l : List D} {Q : D → Wl → Prop} (hw : Lap b w) (h0 : l ≠ []) (h1 : l.length ≤ 1000) (hb : b < 1010000) (q : ∀ x ∈ l, ∀ (w' : Wl), Lap (b + 1) w' → Q x w') : okE (F_w_pick [.well, .lst l] w) Q := by
  have hl : 0 < l.length := List.length_pos_iff.mpr h0
  have e100 := pp110
  simp [F_w_pick, B_w_pick, okE_run, List.replicate]
  refine draw hw (by omega) (by omega) hb fun k w' k0 k1 l1 => ?_
  obtain ⟨x, hx, hm⟩ := atI_of k0 k1
  simp [hx]
  exact q x hm w' l1
theorem lap_le {c : Nat} (h : Lap b w) (h1 : b ≤ c) : Lap c w := ⟨h.1, by have := h.2.1; omega, h.2.2⟩
end
end DL

set_option maxHeartbeats 2000000
namespace DL
open PySem PySem.Spec PyProof.Rows L2
/-! ### equality of plain values -/
/-! ### the program's functions on bounds, elements, places -/
abbrev FAR : Int := 500000000000000000000000000000
def pD (p : Int × Int) : D := .tup [.int p.1, .int p.2]
def bD (bs : List (Int × Int)) : D := .tup (bs.map pD)
def ext (p : Int × Int) : Int := if p.2 - p.1 + 1 > 0 then p.2 - p.1 + 1 else 0
def inR (n : Int) : Bool := decide (-FAR ≤ n) && decide (n ≤ FAR)
structure Bds (bs : List (Int × Int)) : Prop where
  one : 1 ≤ bs.length
  few : bs.length ≤ 7
  near : ∀ p ∈ bs, inR p.1 = true ∧ inR p.2 = true
section
variable {w : Wl} {bs : List (Int × Int)} {xs : List Int}
theorem lim7q {n : Nat} (h : n ≤ 7) : n ≤ lim := Nat.le_trans h (by decide)
theorem e_is_number {n : Int} : F_is_number [.int n] w = .ok (.bl true) w := rfl
theorem e_all_extents (h7 : bs.length ≤ 7) : F_all_extents [bD bs] w = .ok (.lst (bs.map fun p => .int (ext p))) w := by
  apply okE_eq
  simp [F_all_extents, B_all_extents, okE_run, bD, List.replicate]
  refine ⟨lim7q h7, okE_lcall pD (fun p => .int (ext p)) (fun x _ => ?_) (by simp)⟩
  simp [pD, ext]
/-- what the numbers come to, multiplied -/
def prod : List Int → Int
  | [] => 1
  | n :: r => n * prod r
def small (n : Int) : Prop := 0 ≤ n ∧ n ≤ 2 ^ 110
theorem prod_append {ms ns : List Int} : prod (ms ++ ns) = prod ms * prod ns := by
  induction ms with
  | nil => simp [prod]
  | cons m r ih => simp [prod, ih, Int.mul_assoc]
theorem prod_small : ∀ {ns : List Int}, (∀ n ∈ ns, small n) → 0 ≤ prod ns ∧ prod ns ≤ 2 ^ (110 * ns.length)
  | [], _ => ⟨by decide, by decide⟩
  | n :: r, h => by
    have ih := prod_small fun m hm => h m (List.mem_cons_of_mem _ hm)
    have hn := h n List.mem_cons_self
    refine ⟨Int.mul_nonneg hn.1 ih.1, ?_⟩
    have : n * prod r ≤ 2 ^ 110 * 2 ^ (110 * r.length) := Int.mul_le_mul hn.2 ih.2 ih.1 (by decide)
    rw [← Int.pow_add] at this
    rw [List.length_cons, show 110 * (r.length + 1) = 110 + 110 * r.length by omega]
    exact this
theorem mul_small {a b : Int} {i j : Nat} (ha : 0 ≤ a) (ha2 : a ≤ 2 ^ i) (hb : 0 ≤ b) (hb2 : b ≤ 2 ^ j) (h : i + j ≤ 900000) : mulOk a b :=
  mulOk_of (nat_lt_pow ha ha2) (nat_lt_pow hb hb2) (by omega) (by omega) (by omega)
theorem e_multiplied {ns : List Int} (h7 : ns.length ≤ 7) (hs : ∀ n ∈ ns, small n) : F_multiplied [.lst (ns.map .int)] w = .ok (.int (prod ns)) w := by
  apply okE_eq
  simp [F_multiplied, B_multiplied, okE_run, List.replicate]
  refine okS_loop (fun i s w' => w' = w ∧ ∃ t, s = [some (.lst (ns.map .int)), some (.int (prod (ns.take i))), t]) 0 ⟨rfl, none, by simp [prod]⟩ ?_ ?_
  · rintro i d s w' hd ⟨rfl, t, rfl⟩
    rw [List.getElem?_map] at hd
    obtain ⟨n, hn, rfl⟩ := Option.map_eq_some_iff.mp hd
    have hi : i < ns.length := (List.getElem?_eq_some_iff.mp hn).1
    have ps := prod_small (ns := ns.take i) fun m hm => hs m (List.mem_of_mem_take hm)
    have hns := hs n (List.mem_of_getElem? hn)
    simp
    refine ⟨mul_small ps.1 ps.2 hns.1 hns.2 (by rw [List.length_take]; omega), ?_⟩
    rw [List.take_add_one, hn]
    simp [prod_append, prod]
  · rintro s w' ⟨rfl, t, rfl⟩
    simp
/-- wide bounds: none of them beyond some 33 figures -/
structure Bw (bs : List (Int × Int)) : Prop where
  few : bs.length ≤ 7
  near : ∀ p ∈ bs, (-40564819207303340847894502572032 ≤ p.1 ∧ p.1 ≤ 40564819207303340847894502572032) ∧ -40564819207303340847894502572032 ≤ p.2 ∧ p.2 ≤ 40564819207303340847894502572032
theorem inR_iff {n : Int} : inR n = true ↔ -FAR ≤ n ∧ n ≤ FAR := by simp [inR]
theorem Bds.wide {bs : List (Int × Int)} (h : Bds bs) : Bw bs := ⟨h.few, fun p hp => by
  obtain ⟨h1, h2⟩ := h.near p hp
  rw [inR_iff] at h1 h2
  simp only [FAR] at h1 h2
  omega⟩
theorem ext_small {p : Int × Int} (h : (-40564819207303340847894502572032 ≤ p.1 ∧ p.1 ≤ 40564819207303340847894502572032) ∧ -40564819207303340847894502572032 ≤ p.2 ∧ p.2 ≤ 40564819207303340847894502572032) : small (ext p) := by
  obtain ⟨h1, h2⟩ := h
  unfold ext small
  have : (2 : Int) ^ 110 = 1298074214633706907132624082305024 := by decide
  rw [this]
  split <;> omega
theorem exts_small (h : Bw bs) : ∀ n ∈ bs.map ext, small n := fun n hn => by
  obtain ⟨p, hp, rfl⟩ := List.mem_map.mp hn
  exact ext_small (h.near p hp)
theorem e_size_of (h : Bw bs) : F_size_of [bD bs] w = .ok (.int (prod (bs.map ext))) w := by
  apply okE_eq
  simp [F_size_of, B_size_of, okE_run, bD, List.replicate]
  rw [show D.tup (bs.map pD) = bD bs from rfl, e_all_extents h.few]
  simp
  have := e_multiplied (w := w) (ns := bs.map ext) (by simpa using h.few) (exts_small h)
  rw [List.map_map] at this
  rw [show (bs.map fun p => D.int (ext p)) = bs.map (D.int ∘ ext) from rfl, this]
  simp
def wts : Int → List Int → List Int
  | _, [] => []
  | a, n :: r => a :: wts (a * n) r
theorem wts_get : ∀ {ns : List Int} {a : Int} {i : Nat}, i < ns.length → (wts a ns)[i]? = some (a * prod (ns.take i))
  | n :: r, a, 0, _ => by simp [wts, prod]
  | n :: r, a, i + 1, h => by
    have := wts_get (ns := r) (a := a * n) (i := i) (by simpa using h)
    simp [wts, this, prod, Int.mul_assoc]
theorem wts_len : ∀ {ns : List Int} {a : Int}, (wts a ns).length = ns.length
  | [], _ => rfl
  | n :: r, a => by simp [wts, wts_len (ns := r)]
theorem e_weights (h : Bw bs) : F_weights [bD bs] w = .ok (.lst ((wts 1 (bs.map ext)).map .int)) w := by
  apply okE_eq
  have h7 := h.few
  simp [F_weights, B_weights, okE_run, bD, List.replicate]
  rw [show D.tup (bs.map pD) = bD bs from rfl, e_all_extents h.few]
  simp
  refine okS_loop (fun i s w' => w' = w ∧ ∃ t, s = [some (bD bs), some (.own (((wts 1 (bs.map ext)).take i).map .int)), some (.int (prod ((bs.map ext).take i))), t]) 0 ⟨rfl, none, by simp [prod, bD]⟩ ?_ ?_
  · rintro i d s w' hd ⟨rfl, t, rfl⟩
    rw [List.getElem?_map] at hd
    obtain ⟨p, hp, rfl⟩ := Option.map_eq_some_iff.mp hd
    have hi : i < bs.length := (List.getElem?_eq_some_iff.mp hp).1
    have ps := prod_small (ns := (bs.map ext).take i) fun m hm => exts_small h m (List.mem_of_mem_take hm)
    have hns := exts_small h (ext p) (List.mem_map_of_mem (List.mem_of_getElem? hp))
    have hg := wts_get (ns := bs.map ext) (a := 1) (i := i) (by simpa using hi)
    have hl : lim = 16000000 := rfl
    simp
    refine ⟨by omega, mul_small ps.1 ps.2 hns.1 hns.2 (by rw [List.length_take]; omega), ?_, ?_⟩
    · rw [List.take_add_one, List.getElem?_map, hg]
      simp
    · rw [List.take_add_one, List.getElem?_map, hp]
      simp [prod_append, prod]
  · rintro s w' ⟨rfl, t, rfl⟩
    simp
    rw [List.take_of_length_le (by rw [List.length_map, wts_len]; simp)]
/-- an element of the array -/
def El : List (Int × Int) → List Int → Prop
  | [], [] => True
  | p :: bs, x :: xs => (p.1 ≤ x ∧ x ≤ p.2) ∧ El bs xs
  | _, _ => False
theorem El.len : ∀ {bs : List (Int × Int)} {xs : List Int}, El bs xs → xs.length = bs.length
  | [], [], _ => rfl
  | p :: bs, x :: xs, h => by simp [El.len h.2]
  | [], _ :: _, h => h.elim
  | _ :: _, [], h => h.elim
theorem El.zip : ∀ {bs : List (Int × Int)} {xs : List Int}, El bs xs → ∀ t ∈ xs.zip bs, t.2.1 ≤ t.1 ∧ t.1 ≤ t.2.2
  | [], [], _, t, ht => by simp at ht
  | p :: bs, x :: xs, h, t, ht => by
    rcases List.mem_cons.mp ht with e | e
    · subst e; exact h.1
    · exact El.zip h.2 t e
  | [], _ :: _, h, _, _ => h.elim
  | _ :: _, [], h, _, _ => h.elim
theorem e_is_element (h : Bw bs) (he : El bs xs) : F_is_element [bD bs, eD xs] w = .ok (.bl true) w := by
  apply okE_eq
  have h7 := h.few
  have hl := he.len
  have hlim : lim = 16000000 := rfl
  simp [F_is_element, B_is_element, okE_run, bD, eD, List.replicate, hl]
  rw [zipD_maps]
  refine ⟨by simp; omega, okE_lcall _ (fun t => .bl (decide (t.2.1 ≤ t.1) && decide (t.1 ≤ t.2.2))) (fun t _ => ?_) ?_⟩
  · simp [pD, e_is_number]
    by_cases h : t.2.1 ≤ t.1 <;> simp [h]
  · simp
    intro a b c ht
    exact El.zip he _ ht
/-- the place, the first subscript running fastest -/
def place : List (Int × Int) → List Int → Int
  | p :: bs, x :: xs => (x - p.1) + ext p * place bs xs
  | _, _ => 0
theorem sum_place : ∀ {bs : List (Int × Int)} {xs : List Int} {a : Int}, El bs xs → ((xs.zip (bs.zip (wts a (bs.map ext)))).map fun t => (t.1 - t.2.1.1) * t.2.2).sum = a * place bs xs
  | [], [], a, _ => by simp [place]
  | p :: bs, x :: xs, a, h => by
    have ih := sum_place (a := a * ext p) h.2
    simp only [List.map_cons, wts, List.zip_cons_cons, List.sum_cons, ih, place]
    rw [Int.mul_add, Int.mul_comm a (x - p.1), Int.mul_assoc]
  | [], _ :: _, _, h => h.elim
  | _ :: _, [], _, h => h.elim
theorem near_diff {p : Int × Int} {x : Int} (h : (-40564819207303340847894502572032 ≤ p.1 ∧ p.1 ≤ 40564819207303340847894502572032) ∧ -40564819207303340847894502572032 ≤ p.2 ∧ p.2 ≤ 40564819207303340847894502572032) (hx : p.1 ≤ x ∧ x ≤ p.2) : 0 ≤ x - p.1 ∧ x - p.1 ≤ 2 ^ 110 := by
  obtain ⟨h1, h2⟩ := h
  have : (2 : Int) ^ 110 = 1298074214633706907132624082305024 := by decide
  rw [this]
  omega
theorem wts_small : ∀ {ns : List Int} {a : Int} {k : Nat}, (0 ≤ a ∧ a ≤ 2 ^ k) → (∀ n ∈ ns, small n) → ∀ m ∈ wts a ns, 0 ≤ m ∧ m ≤ 2 ^ (k + 110 * ns.length)
  | [], _, _, _, _, m, hm => by simp [wts] at hm
  | n :: r, a, k, ha, hs, m, hm => by
    rcases List.mem_cons.mp hm with e | e
    · subst e
      exact ⟨ha.1, Int.le_trans ha.2 (by exact_mod_cast Nat.pow_le_pow_right (by decide) (by omega))⟩
    · have hn := hs n List.mem_cons_self
      have h1 : 0 ≤ a * n := Int.mul_nonneg ha.1 hn.1
      have h2 : a * n ≤ 2 ^ (k + 110) := by
        rw [Int.pow_add]
        exact Int.mul_le_mul ha.2 hn.2 hn.1 (Int.le_trans ha.1 ha.2)
      have := wts_small (k := k + 110) ⟨h1, h2⟩ (fun q hq => hs q (List.mem_cons_of_mem _ hq)) m e
      rw [List.length_cons, show k + 110 * (r.length + 1) = k + 110 + 110 * r.length by omega]
      exact this
theorem mem_zip3 {α β γ : Type} {l : List α} {m : List β} {n : List γ} {t : α × β × γ} (h : t ∈ l.zip (m.zip n)) : (t.1, t.2.1) ∈ l.zip m ∧ t.2.2 ∈ n := by
  induction l generalizing m n with
  | nil => simp at h
  | cons x l ih =>
    cases m with
    | nil => simp at h
    | cons y m =>
      cases n with
      | nil => simp at h
      | cons z n =>
        simp only [List.zip_cons_cons, List.mem_cons] at h ⊢
        rcases h with e | e
        · subst e; simp
        · exact ⟨.inr (ih e).1, .inr (ih e).2⟩
theorem e_place_there (h : Bw bs) (he : El bs xs) : F_place_there [bD bs, eD xs] w = .ok (.int (place bs xs)) w := by
  apply okE_eq
  have h7 := h.few
  have hl := he.len
  have hlim : lim = 16000000 := rfl
  simp [F_place_there, B_place_there, okE_run, List.replicate]
  unfold bD eD
  simp
  rw [show D.tup (bs.map pD) = bD bs from rfl, e_weights h]
  simp only [R.bind_ok, okE_ok]
  simp only [show bD bs = D.tup (bs.map pD) from rfl]
  simp
  rw [zip3D_maps]
  refine ⟨by simp; omega, okE_lcall _ (fun t => .int ((t.1 - t.2.1.1) * t.2.2)) (fun t ht => ?_) ?_⟩
  · obtain ⟨m1, m2⟩ := mem_zip3 ht
    have hz := El.zip he _ m1
    have hb := h.near t.2.1 (List.of_mem_zip m1).2
    have hd := near_diff hb hz
    have hw := wts_small (k := 0) ⟨by decide, by decide⟩ (exts_small h) _ m2
    simp [pD]
    exact mul_small hd.1 hd.2 hw.1 hw.2 (by simp; omega)
  · rw [v_sum]
    simp
    rw [sum_place he]
    omega
/-- the element at a place -/
def elem : List (Int × Int) → Int → List Int
  | [], _ => []
  | p :: bs, n => (p.1 + n.fmod (ext p)) :: elem bs (n.fdiv (ext p))
def rest : List (Int × Int) → Int → Int
  | [], n => n
  | p :: bs, n => rest bs (n.fdiv (ext p))
theorem elem_append {as bs : List (Int × Int)} {n : Int} : elem (as ++ bs) n = elem as n ++ elem bs (rest as n) := by
  induction as generalizing n with
  | nil => rfl
  | cons p r ih => simp [elem, rest, ih]
theorem rest_append {as bs : List (Int × Int)} {n : Int} : rest (as ++ bs) n = rest bs (rest as n) := by
  induction as generalizing n with
  | nil => rfl
  | cons p r ih => simp [rest, ih]
theorem elem_len : ∀ {bs : List (Int × Int)} {n : Int}, (elem bs n).length = bs.length
  | [], _ => rfl
  | p :: bs, n => by simp [elem, elem_len (bs := bs)]
end
end DL

set_option maxHeartbeats 2000000
namespace DL
open PySem PySem.Spec PyProof.Rows L2
/-! ### places and elements, there and back -/
section
variable {w : Wl} {bs : List (Int × Int)} {xs : List Int}
theorem ext_of {p : Int × Int} {x : Int} (h : p.1 ≤ x ∧ x ≤ p.2) : ext p = p.2 - p.1 + 1 ∧ 0 ≤ x - p.1 ∧ x - p.1 < ext p := by
  unfold ext
  split <;> omega
theorem fmod_at {x e q : Int} (h0 : 0 ≤ x) (h1 : x < e) : (x + e * q).fmod e = x ∧ (x + e * q).fdiv e = q := by
  have he : 0 ≤ e := by omega
  rw [Int.fmod_eq_emod_of_nonneg _ he, Int.fdiv_eq_ediv_of_nonneg _ he]
  exact ⟨by rw [Int.add_mul_emod_self_left, Int.emod_eq_of_lt h0 h1], by rw [Int.add_mul_ediv_left _ _ (by omega), Int.ediv_eq_zero_of_lt h0 h1, Int.zero_add]⟩
theorem elem_place : ∀ {bs : List (Int × Int)} {xs : List Int}, El bs xs → elem bs (place bs xs) = xs
  | [], [], _ => rfl
  | p :: bs, x :: xs, h => by
    have hx := ext_of h.1
    have hf := fmod_at (q := place bs xs) hx.2.1 hx.2.2
    simp only [place, elem, hf.1, hf.2, elem_place h.2]
    congr 1
    omega
  | [], _ :: _, h => h.elim
  | _ :: _, [], h => h.elim
theorem place_range : ∀ {bs : List (Int × Int)} {xs : List Int}, El bs xs → 0 ≤ place bs xs ∧ place bs xs < prod (bs.map ext)
  | [], [], _ => by simp [place, prod]
  | p :: bs, x :: xs, h => by
    have hx := ext_of h.1
    have ih := place_range h.2
    simp only [place, List.map_cons, prod]
    have h1 : 0 ≤ ext p * place bs xs := Int.mul_nonneg (by omega) ih.1
    have h2 : ext p * (place bs xs + 1) ≤ ext p * prod (bs.map ext) := Int.mul_le_mul_of_nonneg_left (by omega) (by omega)
    rw [Int.mul_add, Int.mul_one] at h2
    omega
  | [], _ :: _, h => h.elim
  | _ :: _, [], h => h.elim
theorem El.ext0 : ∀ {bs : List (Int × Int)} {xs : List Int}, El bs xs → ∀ p ∈ bs, ext p ≠ 0
  | [], [], _, p, hp => by simp at hp
  | p :: bs, x :: xs, h, q, hq => by
    rcases List.mem_cons.mp hq with e | e
    · subst e
      have := ext_of h.1
      omega
    · exact El.ext0 h.2 q e
  | [], _ :: _, h, _, _ => h.elim
  | _ :: _, [], h, _, _ => h.elim
end
end DL

set_option maxHeartbeats 2000000
namespace DL
open PySem PySem.Spec PyProof.Rows L2
/-! ### dicts by value: keys all unlike -/
section
theorem getG_map {γ κ : Type} [DecidableEq κ] {key : γ → κ} {val : γ → D} : ∀ {L : List γ} {x : γ}, (L.map key).Nodup → x ∈ L → getG (L.map key) (L.map val) (key x) = some (val x)
  | [], x, _, h => by cases h
  | a :: L, x, hn, h => by
    rw [List.map_cons, List.map_cons]
    unfold getG
    rw [List.map_cons, List.nodup_cons] at hn
    by_cases e : key a = key x
    · rw [if_pos e]
      rcases List.mem_cons.mp h with rfl | h
      · rfl
      · exact absurd (e ▸ List.mem_map_of_mem h) hn.1
    · rw [if_neg e]
      rcases List.mem_cons.mp h with rfl | h
      · exact absurd rfl e
      · exact getG_map hn.2 h
theorem dc_nodup {γ : Type} {G : DG} {T : DT} {EK EV : DE} {s : Sl} {w : Wl} {g : γ → D} {key : γ → Key} {val : γ → D} : ∀ (L : List γ) (ks : List Key) (xs : List D), (ks ++ L.map key).Nodup → (∀ x ∈ L, okO (G (g x) s) fun s1 => okE (T s1 w) (fun k w1 => k = true ∧ w1 = w) ∧ okE (EK s1 w) (fun d w1 => d = keyD (key x) ∧ w1 = w) ∧ okE (EV s1 w) (fun d w1 => d = val x ∧ w1 = w)) →
    dcD G T EK EV (L.map g) s w ks xs = .ok (.k (ks ++ L.map key), xs ++ L.map val) w
  | [], ks, xs, _, _ => by simp [dcD]
  | x :: L, ks, xs, hn, hx => by
    have h0 := hx x List.mem_cons_self
    have hk : key x ∉ ks := fun h => by
      rw [List.nodup_append] at hn
      exact hn.2.2 _ h _ (by simp) rfl
    have ih := dc_nodup (G := G) (T := T) (EK := EK) (EV := EV) (s := s) (w := w) (g := g) (key := key) (val := val) L (ks ++ [key x]) (xs ++ [val x]) (by simpa using hn) fun y hy => hx y (List.mem_cons_of_mem _ hy)
    have kk : keyK? (keyD (key x)) = some (key x) := by cases key x <;> rfl
    rw [List.map_cons]
    unfold dcD
    cases e : G (g x) s with
    | none => rw [e] at h0; exact h0.elim
    | some s1 =>
      rw [e] at h0
      simp only [okO_some] at h0
      obtain ⟨a1, a2, a3⟩ := h0
      obtain ⟨k, w1, e1, rfl, rfl⟩ := okE_ex a1
      dsimp only
      rw [e1]
      show ((EK s1 w1).noer.bind _) = _
      rw [okE_eq a2]
      show ((EV s1 w1).noer.bind _) = _
      rw [okE_eq a3]
      show (match keyK? (keyD (key x)) with
        | some k => dcD G T EK EV (L.map g) s w1 (putG ks xs k (val x)).1 (putG ks xs k (val x)).2
        | none => .no) = _
      rw [kk]
      have hp : putG ks xs (key x) (val x) = (ks ++ [key x], xs ++ [val x]) := by unfold putG; rw [if_neg hk]
      dsimp only
      rw [hp, ih]
      simp
/-- a frozen dict by a list -/
def tbl {γ : Type} (key : γ → Key) (val : γ → D) (L : List γ) : D := .dcf (.k (L.map key)) (L.map val)
theorem okE_dcT {γ : Type} {I : DI} {G : DG} {T : DT} {EK EV : DE} {vs : List Nat} {s : Sl} {w : Wl} {Q : D → Wl → Prop} (L : List γ) (g : γ → D) (key : γ → Key) (val : γ → D) (hi : okE (I s w) fun ds w1 => ds = L.map g ∧ w1 = w) (hl : L.length < lim) (hn : (L.map key).Nodup)
    (hx : ∀ x ∈ L, okO (G (g x) (wipeS s vs)) fun s1 => okE (T s1 w) (fun k w1 => k = true ∧ w1 = w) ∧ okE (EK s1 w) (fun d w1 => d = keyD (key x) ∧ w1 = w) ∧ okE (EV s1 w) (fun d w1 => d = val x ∧ w1 = w)) (q : Q (tbl key val L) w) : okE (eDc (aDc I G T EK EV vs) s w) Q := by
  have e := dc_nodup (G := G) (T := T) (EK := EK) (EV := EV) (s := wipeS s vs) (w := w) L [] [] (by simpa using hn) hx
  obtain ⟨ds, w1, e1, rfl, rfl⟩ := okE_ex hi
  unfold eDc aDc
  rw [e1]
  simp only [R.bind_ok, List.length_map, hl, if_true]
  rw [e]
  exact q
theorem okE_getF {A B : DE} {s : Sl} {w : Wl} {Q : D → Wl → Prop} : okE (eGetF A B s w) Q = okE (A s w) fun x w1 => okE (B s w1) fun k w2 => match x with
    | .dcf ks xs => match getD ks xs k with
      | some (some d) => Q d w2
      | _ => False
    | _ => False := by
  unfold eGetF
  cases A s w with
  | ok x w1 =>
    simp only [R.bind_ok, okE_ok]
    cases B s w1 with
    | ok k w2 =>
      simp only [R.bind_ok, okE_ok]
      cases x with
      | dcf ks xs =>
        dsimp only
        cases getD ks xs k with
        | none => rfl
        | some z => cases z <;> rfl
      | _ => rfl
    | er x w1 => rfl
    | no => rfl
  | er x w1 => rfl
  | no => rfl
end
def okT (x k : D) (P : D → Prop) : Prop := match x with
  | .dcf ks xs => match getD ks xs k with
    | some (some d) => P d
    | _ => False
  | _ => False
theorem okE_getT {A B : DE} {s : Sl} {w : Wl} {Q : D → Wl → Prop} : okE (eGetF A B s w) Q = okE (A s w) fun x w1 => okE (B s w1) fun k w2 => okT x k fun d => Q d w2 := okE_getF
theorem okT_tbl {γ : Type} {key : γ → Key} {val : γ → D} {L : List γ} {x : γ} {k : D} {P : D → Prop} (hn : (L.map key).Nodup) (hx : x ∈ L) (hk : k = keyD (key x)) : okT (tbl key val L) k P = P (val x) := by
  subst hk
  have e : getD (.k (L.map key)) (L.map val) (keyD (key x)) = some (getG (L.map key) (L.map val) (key x)) := by
    cases key x <;> rfl
  unfold okT tbl
  dsimp only
  rw [e, getG_map hn hx]
def okHsT (x k : D) (P : Bool → Prop) : Prop := match x with
  | .dcf ks xs => okO (getD ks xs k) fun z => P z.isSome
  | _ => False
theorem okE_inFT {n : Bool} {A B : DE} {s : Sl} {w : Wl} {Q : D → Wl → Prop} : okE (eInF n A B s w) Q = okE (A s w) fun k w1 => okE (B s w1) fun x w2 => okHsT x k fun z => Q (.bl (z != n)) w2 := by
  unfold eInF
  cases A s w with
  | ok k w1 =>
    simp only [R.bind_ok, okE_ok]
    cases B s w1 with
    | ok x w2 =>
      simp only [R.bind_ok, okE_ok]
      cases x with
      | dcf ks xs =>
        unfold okHsT
        dsimp only
        cases getD ks xs k <;> rfl
      | _ => rfl
    | er x w1 => rfl
    | no => rfl
  | er x w1 => rfl
  | no => rfl
theorem okHs_tbl {γ : Type} {key : γ → Key} {val : γ → D} {L : List γ} {x : γ} {k : D} {P : Bool → Prop} (hn : (L.map key).Nodup) (hx : x ∈ L) (hk : k = keyD (key x)) : okHsT (tbl key val L) k P = P true := by
  subst hk
  have e : getD (.k (L.map key)) (L.map val) (keyD (key x)) = some (getG (L.map key) (L.map val) (key x)) := by
    cases key x <;> rfl
  unfold okHsT tbl
  dsimp only
  rw [e, getG_map hn hx]
  rfl
theorem okE_lcallW {γ : Type} {A : DE} {G : DG} (g f : γ → D) {s : Sl} {w : Wl} {xs : List γ} {ds : List D} {Q : List D → Wl → Prop} (e : ds = xs.map g) (h : ∀ x ∈ xs, okO (G (g x) s) fun s1 => okE (A s1 w) fun d w1 => d = f x ∧ w1 = w) (q : Q (xs.map f) w) : okE (lcD G tYesD A ds s w) Q := by
  subst e
  exact okE_lcall g f h q
/-! ### variables -/
structure Vr where
  n : Str
  s : Int
  b : List (Int × Int)
def vD (v : Vr) : D := .tup [.str v.n, .int v.s, bD v.b]
def vk (v : Vr) : Key := .inr v.n
structure Bf (bs : List (Int × Int)) : Prop where
  few : bs.length ≤ 7
  dim : ∀ p ∈ bs, (-1000000000000000000000000000000 ≤ p.1 ∧ p.1 ≤ 1000000000000000000000000000000) ∧ (-1000000000000000000000000000000 ≤ p.2 ∧ p.2 ≤ 1000000000000000000000000000000) ∧ p.1 ≤ p.2
theorem Bf.bw {bs : List (Int × Int)} (h : Bf bs) : Bw bs := ⟨h.few, fun p hp => by
  have := h.dim p hp
  omega⟩
structure VrOk (v : Vr) : Prop where
  nm : ∀ w, F_is_name [.str v.n, .int 8] w = .ok (.bl true) w
  s : 1 ≤ v.s ∧ v.s ≤ 16
  b : Bf v.b
structure VsOk (L : List Vr) : Prop where
  one : 1 ≤ L.length
  few : L.length ≤ 40
  ok : ∀ v ∈ L, VrOk v
  nd : (L.map Vr.n).Nodup
theorem VsOk.key {L : List Vr} (h : VsOk L) : (L.map vk).Nodup := by
  have e : L.map vk = (L.map Vr.n).map Sum.inr := by rw [List.map_map]; rfl
  rw [e]
  unfold List.Nodup
  rw [List.pairwise_map]
  exact h.nd.imp fun h e => h (Sum.inr.inj e)
section
variable {w : Wl} {v : Vr} {L : List Vr} {n : Int}
theorem e_is_far (h : -1000000000000000000000000000000 ≤ n ∧ n ≤ 1000000000000000000000000000000) : F_is_far [.int n] w = .ok (.bl true) w := by
  apply okE_eq
  simp -implicitDefEqProofs [F_is_far, B_is_far, okE_run, e_is_number, h.1, h.2]
theorem e_is_range {p : Int × Int} (h : (-1000000000000000000000000000000 ≤ p.1 ∧ p.1 ≤ 1000000000000000000000000000000) ∧ (-1000000000000000000000000000000 ≤ p.2 ∧ p.2 ≤ 1000000000000000000000000000000) ∧ p.1 ≤ p.2) : F_is_range [pD p] w = .ok (.bl true) w := by
  apply okE_eq
  have h1 := e_is_far (w := w) h.1
  have h2 := e_is_far (w := w) h.2.1
  unfold pD
  simp -implicitDefEqProofs [F_is_range, B_is_range, okE_run, List.replicate, h1, h2, h.2.2]
theorem e_is_variable (h : VrOk v) : F_is_variable [vD v] w = .ok (.bl true) w := by
  apply okE_eq
  have h7 := h.b.few
  have hlim : lim = 16000000 := rfl
  have hs := h.s
  have hb : ∀ s : Sl, getS (some (bD v.b) :: s) 0 = some (bD v.b) := fun s => rfl
  have hi : fIsi w [bD v.b, .ty "tuple"] = some (.bl true) := rfl
  have hl : fLen w [bD v.b] = some (.int v.b.length) := by show some (D.int (v.b.map pD).length) = _; rw [List.length_map]
  have hsq : seqD (bD v.b) = some (true, v.b.map pD) := rfl
  unfold vD
  simp -implicitDefEqProofs [F_is_variable, B_is_variable, okE_run, List.replicate, h.nm, e_is_number, hs.1, hs.2, hb, hi, hl, hsq]
  refine ⟨by omega, by omega, okE_lcallW pD (fun p => .bl true) rfl (fun p hp => ?_) ?_⟩
  · have := e_is_range (w := w) (h.b.dim p hp)
    unfold pD at this ⊢
    simp -implicitDefEqProofs [this]
  · have ha : fAll w [.lst (v.b.map fun _ => D.bl true)] = some (.bl (v.b.all fun _ => true)) := v_all (f := fun _ => true)
    have hall : (v.b.all fun _ => true) = true := by simp
    rw [ha, hall]
    exact ⟨rfl, rfl⟩
theorem all_true {γ : Type} {l : List γ} : fAll w [.lst (l.map fun _ => D.bl true)] = some (.bl true) := by
  have ha : fAll w [.lst (l.map fun _ => D.bl true)] = some (.bl (l.all fun _ => true)) := v_all (f := fun _ => true)
  rw [ha]
  have hall : (l.all fun _ => true) = true := by simp
  rw [hall]
theorem e_names_of (h : L.length ≤ 40) : F_names_of [.lst (L.map vD)] w = .ok (.lst ((L.map Vr.n).map .str)) w := by
  apply okE_eq
  have hlim : lim = 16000000 := rfl
  simp -implicitDefEqProofs [F_names_of, B_names_of, okE_run, List.replicate]
  refine ⟨by omega, okE_lcallW vD (fun v => .str v.n) rfl (fun v hv => ?_) ?_⟩
  · have hb : ∀ s : Sl, getS (some (bD v.b) :: s) 0 = some (bD v.b) := fun s => rfl
    unfold vD
    simp -implicitDefEqProofs [wipeS]
  · simp
theorem e_are_variables (h : VsOk L) : F_are_variables [.lst (L.map vD)] w = .ok (.bl true) w := by
  apply okE_eq
  have hlim : lim = 16000000 := rfl
  have h1 := h.one
  have h40 := h.few
  have hi : fIsi w [.lst (L.map vD), .tup [.ty "list", .ty "tuple"]] = some (.bl true) := rfl
  have hn := e_names_of (w := w) (L := L) h40
  simp -implicitDefEqProofs [F_are_variables, B_are_variables, okE_run, List.replicate, hi]
  refine ⟨by omega, by omega, by omega, by omega, okE_lcallW vD (fun _ => .bl true) rfl (fun v hv => ?_) ?_⟩
  · have hg : ∀ s : Sl, getS (some (vD v) :: s) 0 = some (vD v) := fun s => rfl
    simp -implicitDefEqProofs [wipeS, hg, e_is_variable (h.ok v hv)]
  · rw [all_true]
    simp -implicitDefEqProofs [hn, h.nd]
    have hls : fLenSetS w (.lst (L.map (D.str ∘ Vr.n))) = some (.int L.length) := by
      rw [← List.map_map, v_lenSetS, if_pos ⟨h.nd, by rw [List.length_map]; omega⟩, List.length_map]
    rw [hls, okO_some]
    exact ⟨rfl, by simp⟩
theorem e_sizes (h : VsOk L) : F_sizes_and_bounds [.lst (L.map vD)] w = .ok (tbl vk (fun v => .tup [.int v.s, bD v.b]) L) w := by
  apply okE_eq
  have hlim : lim = 16000000 := rfl
  have h40 := h.few
  simp -implicitDefEqProofs [F_sizes_and_bounds, B_sizes_and_bounds, okE_run, List.replicate]
  refine okE_dcT L vD vk (fun v => .tup [.int v.s, bD v.b]) ?_ (by omega) h.key (fun v hv => ?_) ⟨rfl, rfl⟩
  · simp -implicitDefEqProofs
  · have hb : ∀ s : Sl, getS (some (bD v.b) :: s) 0 = some (bD v.b) := fun s => rfl
    have hl2 : (2 : Nat) ≤ lim := by decide
    unfold vD
    simp -implicitDefEqProofs [wipeS, hb, hl2]
    rfl
end
end DL

set_option maxHeartbeats 2000000
namespace DL
open PySem PySem.Spec PyProof.Rows L2
/-! ### rows -/
section
variable {w : Wl} {v : Vr} {L : List Vr} {n : Int}
abbrev Mb := Vr × List Int
def mD (m : Mb) : D := .tup [.str m.1.n, eD m.2]
structure MbOk (L : List Vr) (m : Mb) : Prop where
  mem : m.1 ∈ L
  el : El m.1.b m.2
def rwD (r : List Mb) : D := .tup (r.map mD)
structure RwK (L : List Vr) (r : List Mb) : Prop where
  two : 2 ≤ r.length
  ten : r.length ≤ 10
  ok : ∀ m ∈ r, MbOk L m
structure RsK (L : List Vr) (Rs : List (List Mb)) : Prop where
  few : Rs.length ≤ 40
  ok : ∀ r ∈ Rs, RwK L r
def tSz (L : List Vr) : D := tbl vk (fun v => .tup [.int v.s, bD v.b]) L
theorem getS_tbl {γ : Type} {key : γ → Key} {val : γ → D} {L : List γ} {s : Sl} : getS (some (tbl key val L) :: s) 0 = some (tbl key val L) := rfl
theorem e_is_member {m : Mb} (h : VsOk L) (hm : MbOk L m) : F_is_member [tSz L, mD m] w = .ok (.bl true) w := by
  apply okE_eq
  have hlim : lim = 16000000 := rfl
  have hv := h.ok m.1 hm.mem
  have hl := hm.el.len
  have h7 := hv.b.few
  have gt : ∀ s : Sl, getS (some (tSz L) :: s) 0 = some (tSz L) := fun s => rfl
  have ge : ∀ s : Sl, getS (some (eD m.2) :: s) 0 = some (eD m.2) := fun s => rfl
  have hi : fIsi w [eD m.2, .ty "tuple"] = some (.bl true) := rfl
  have hs : fIsi w [.str m.1.n, .ty "str"] = some (.bl true) := rfl
  have hn : fLen w [eD m.2] = some (.int m.2.length) := by show some (D.int (m.2.map D.int).length) = _; rw [List.length_map]
  have h1 : ∀ P : Bool → Prop, okHsT (tSz L) (.str m.1.n) P = P true := fun P => okHs_tbl (x := m.1) h.key hm.mem rfl
  have h2 : ∀ P : D → Prop, okT (tSz L) (.str m.1.n) P = P (.tup [.int m.1.s, bD m.1.b]) := fun P => okT_tbl (x := m.1) h.key hm.mem rfl
  have he := e_is_element (w := w) hv.b.bw hm.el
  have hx : ∀ w, fIx w (.tup [.int m.1.s, bD m.1.b]) (.int 1) = some (bD m.1.b) := fun w => rfl
  unfold mD
  show okE (runB 4 2 B_is_member [tSz L, .tup [.str m.1.n, eD m.2]] w) _
  simp -implicitDefEqProofs [B_is_member, okE_run, List.replicate, gt, ge, hi, hs, hn, okE_inFT, h1, okE_getT, h2, hx, he]
  
theorem e_is_row {r : List Mb} (h : VsOk L) (hr : RwK L r) : F_is_row [tSz L, rwD r] w = .ok (.bl true) w := by
  apply okE_eq
  have hlim : lim = 16000000 := rfl
  have h2 := hr.two
  have h10 := hr.ten
  have gt : ∀ s : Sl, getS (some (tSz L) :: s) 0 = some (tSz L) := fun s => rfl
  have gr : ∀ s : Sl, getS (some (rwD r) :: s) 0 = some (rwD r) := fun s => rfl
  have hi : fIsi w [rwD r, .tup [.ty "list", .ty "tuple"]] = some (.bl true) := rfl
  have hn : fLen w [rwD r] = some (.int r.length) := by show some (D.int (r.map mD).length) = _; rw [List.length_map]
  have hsq : seqD (rwD r) = some (true, r.map mD) := rfl
  simp -implicitDefEqProofs [F_is_row, B_is_row, okE_run, List.replicate, gt, gr, hi, hn, hsq]
  refine ⟨by omega, by omega, by omega, by omega, okE_lcallW mD (fun _ => .bl true) rfl (fun m hm => ?_) ?_⟩
  · have hg : ∀ s : Sl, getS (some (mD m) :: s) 0 = some (mD m) := fun s => rfl
    simp -implicitDefEqProofs [wipeS, hg, gt, e_is_member h (hr.ok m hm)]
  · rw [all_true]
    exact ⟨rfl, rfl⟩
section
variable {X : D} {k : Bool} {Rs : List (List Mb)}
/-- what tells rows -/
structure RsX (L : List Vr) (Rs : List (List Mb)) (X : D) : Prop where
  ok : RsK L Rs
  sq : ∃ k, seqD X = some (k, Rs.map rwD)
  isi : ∀ w, fIsi w [X, .tup [.ty "list", .ty "tuple"]] = some (.bl true)
  len : ∀ w, fLen w [X] = some (.int Rs.length)
  get : ∀ s : Sl, getS (some X :: s) 0 = some X
theorem e_check_layout (h : VsOk L) (hX : RsX L Rs X) : F_check_layout [.lst (L.map vD), X] w = .ok .non w := by
  have hlim : lim = 16000000 := rfl
  have h40 := hX.ok.few
  obtain ⟨k, hsq⟩ := hX.sq
  have gt : ∀ s : Sl, getS (some (tSz L) :: s) 0 = some (tSz L) := fun s => rfl
  have gX := hX.get
  have e1 : F_check_variables [.lst (L.map vD)] w = .ok .non w := by
    apply okE_eq
    have ev := e_are_variables (w := w) h
    generalize L.map vD = LD at ev ⊢
    simp -implicitDefEqProofs [F_check_variables, B_check_variables, okE_run, List.replicate, ev]
  have e2 : F_are_rows [.lst (L.map vD), X] w = .ok (.bl true) w := by
    apply okE_eq
    have es : F_sizes_and_bounds [.lst (L.map vD)] w = .ok (tSz L) w := e_sizes h
    generalize L.map vD = LD at es ⊢
    simp -implicitDefEqProofs [F_are_rows, B_are_rows, okE_run, List.replicate, gX, hX.isi, hX.len, hsq, es]
    refine ⟨by omega, by omega, by omega, okE_lcallW rwD (fun _ => .bl true) rfl (fun r hr => ?_) ?_⟩
    · have hg : ∀ s : Sl, getS (some (rwD r) :: s) 0 = some (rwD r) := fun s => rfl
      simp -implicitDefEqProofs [wipeS, hg, gt, e_is_row h (hX.ok.ok r hr)]
    · rw [all_true]
      exact ⟨rfl, rfl⟩
  have e3 : F_check_rows [.lst (L.map vD), X] w = .ok .non w := by
    apply okE_eq
    generalize L.map vD = LD at e2 ⊢
    simp -implicitDefEqProofs [F_check_rows, B_check_rows, okE_run, List.replicate, gX, e2]
  apply okE_eq
  generalize L.map vD = LD at e1 e3 ⊢
  simp -implicitDefEqProofs [F_check_layout, B_check_layout, okE_run, List.replicate, gX, e1, e3]
/-- how many units lie ahead of a member -/
def ahd (m : Mb) : Int := m.1.s * place m.1.b m.2
def lnD (r : List Mb) : D := .lst (r.map fun m => .tup [.str m.1.n, .int (ahd m)])
def lnsD (Rs : List (List Mb)) : D := .lst (Rs.zipIdx.map fun p => .tup [.int (p.2 : Nat), lnD p.1])
theorem place_bt {bs : List (Int × Int)} {xs : List Int} (hb : Bf bs) (he : El bs xs) : 0 ≤ place bs xs ∧ place bs xs < 2 ^ 770 := by
  have h1 := place_range he
  have h2 := prod_small (exts_small hb.bw)
  have h3 := hb.few
  have h4 : (2 : Int) ^ (110 * (bs.map ext).length) ≤ 2 ^ 770 := by
    have := Nat.pow_le_pow_right (n := 2) (by decide) (show 110 * (bs.map ext).length ≤ 770 by rw [List.length_map]; omega)
    exact_mod_cast this
  omega
theorem e_units_ahead {m : Mb} (hv : VrOk m.1) (he : El m.1.b m.2) : F_units_ahead [.tup [.int m.1.s, bD m.1.b], eD m.2] w = .ok (.int (ahd m)) w := by
  apply okE_eq
  have hp := e_place_there (w := w) hv.b.bw he
  have hb := place_bt hv.b he
  have hs := hv.s
  have gb : ∀ s : Sl, getS (some (bD m.1.b) :: s) 0 = some (bD m.1.b) := fun s => rfl
  have ge : ∀ s : Sl, getS (some (eD m.2) :: s) 0 = some (eD m.2) := fun s => rfl
  have h32 : (2 : Int) ^ 5 = 32 := by decide
  have hm : mulOk m.1.s (place m.1.b m.2) := mul_small (i := 5) (j := 770) (by omega) (by omega) hb.1 (Int.le_of_lt hb.2) (by decide)
  simp -implicitDefEqProofs [F_units_ahead, B_units_ahead, okE_run, List.replicate, gb, ge, hp, hm, ahd]
theorem e_lines_of (h : VsOk L) (hX : RsX L Rs X) : F_lines_of [.lst (L.map vD), X] w = .ok (lnsD Rs) w := by
  apply okE_eq
  have hlim : lim = 16000000 := rfl
  have h40 := hX.ok.few
  obtain ⟨k, hsq⟩ := hX.sq
  have gt : ∀ s : Sl, getS (some (tSz L) :: s) 0 = some (tSz L) := fun s => rfl
  have gX := hX.get
  have hl2 : (2 : Nat) ≤ lim := by decide
  have es : F_sizes_and_bounds [.lst (L.map vD)] w = .ok (tSz L) w := e_sizes h
  generalize L.map vD = LD at es ⊢
  have en : enmSD [X] = some (Rs.zipIdx.map fun p => .tup [.int (p.2 : Nat), rwD p.1]) := by
    show (seqD X).map (fun p => enumD p.2) = _
    rw [hsq]
    show some (enumD (Rs.map rwD)) = _
    unfold enumD
    rw [List.zipIdx_map, List.map_map]
    rfl
  simp -implicitDefEqProofs [F_lines_of, B_lines_of, okE_run, List.replicate, gX, es, en]
  refine ⟨by omega, okE_lcallW (γ := List Mb × Nat) (fun p => .tup [.int (p.2 : Nat), rwD p.1]) (fun p => .tup [.int (p.2 : Nat), lnD p.1]) rfl (fun p hp => ?_) ⟨rfl, rfl⟩⟩
  have hr : RwK L p.1 := hX.ok.ok _ (List.mem_of_getElem? (List.mem_zipIdx_iff_getElem?.mp hp))
  have h10 := hr.ten
  have gr : ∀ s : Sl, getS (some (rwD p.1) :: s) 0 = some (rwD p.1) := fun s => rfl
  have hsr : seqD (rwD p.1) = some (true, p.1.map mD) := rfl
  simp -implicitDefEqProofs [wipeS, gr, hsr, gt]
  refine ⟨by omega, okE_lcallW mD (fun m => .tup [.str m.1.n, .int (ahd m)]) rfl (fun m hm => ?_) ?_⟩
  · have hmb := hr.ok m hm
    have h2 : ∀ P : D → Prop, okT (tSz L) (.str m.1.n) P = P (.tup [.int m.1.s, bD m.1.b]) := fun P => okT_tbl (x := m.1) h.key hmb.mem rfl
    have hu := e_units_ahead (w := w) (h.ok m.1 hmb.mem) hmb.el
    have ge : ∀ s : Sl, getS (some (eD m.2) :: s) 0 = some (eD m.2) := fun s => rfl
    unfold mD
    simp -implicitDefEqProofs [wipeS, gt, ge, okE_getT, h2, hu, hl2]
  · simp -implicitDefEqProofs [hl2]
    rfl
end
end
end DL

set_option maxHeartbeats 2000000
namespace DL
open PySem PySem.Spec PyProof.Rows L2
/-! ### seats and stretches -/
theorem okD_strW (c : Str) (h : (PyData.str c).canLay0 = true) : okD (.str c) = true := by
  unfold okD toPD SeqAt.shaped
  rw [h]
  rfl
theorem eq_strW {a b : Str} : eqD (.str a) (.str b) = decide (a = b) := by
  show PyData.eqv (.str a) (.str b) = _
  unfold PyData.eqv
  by_cases h : a = b
  · rw [h]; simp
  · simp [h]
@[simp] theorem okS_nil {w : Wl} {G : DG} {U : DS} {s : Sl} {N : Sl → Wl → Prop} {Z : D → Wl → Prop} : okS (loopD G U [] s w) N Z = N s w := rfl
theorem okS_cons {w : Wl} {G : DG} {U : DS} {r : List D} {x : D} {s : Sl} {N : Sl → Wl → Prop} {Z : D → Wl → Prop} (h : okO (G x s) fun s1 => okS (U s1 w) (fun s2 w2 => okS (loopD G U r s2 w2) N Z) Z) : okS (loopD G U (x :: r) s w) N Z := by
  unfold loopD
  cases e : G x s with
  | none => rw [e] at h; exact h.elim
  | some s1 =>
    rw [e] at h
    simp only [okO_some] at h
    dsimp only
    cases e2 : U s1 w <;> (rw [e2] at h; first | exact h | exact h.elim)
section
variable {w : Wl} {L : List Vr} {Rs : List (List Mb)} {X : D}
abbrev Se := Vr × Str × Int
def sk (p : Se) : Key := .inr p.1.n
def sv (p : Se) : D := .tup [.str p.2.1, .int p.2.2]
def seD (S : List Se) : D := tbl sk sv S
def stD (p : Se) : D := .tup [.str p.2.1, .int p.2.2, .int p.1.s, .int (prod (p.1.b.map ext))]
def apart (L : List Vr) : List Se := L.map fun v => (v, v.n, 0)
structure SeOk (L : List Vr) (S : List Se) : Prop where
  vs : VsOk L
  eq : S.map (·.1) = L
theorem SeOk.key {S : List Se} (h : SeOk L S) : (S.map sk).Nodup := by
  have e : S.map sk = L.map vk := by rw [← h.eq, List.map_map]; rfl
  rw [e]
  exact h.vs.key
theorem SeOk.mem {S : List Se} (h : SeOk L S) {p : Se} (hp : p ∈ S) : p.1 ∈ L := by
  rw [← h.eq]
  exact List.mem_map_of_mem hp
theorem apart_ok (h : VsOk L) : SeOk L (apart L) := ⟨h, by unfold apart; rw [List.map_map]; exact List.map_id L⟩
theorem e_seats_apart (h : VsOk L) : F_seats_apart [.lst ((L.map Vr.n).map .str)] w = .ok (seD (apart L)) w := by
  apply okE_eq
  have hlim : lim = 16000000 := rfl
  have h40 := h.few
  have hl2 : (2 : Nat) ≤ lim := by decide
  simp -implicitDefEqProofs [F_seats_apart, B_seats_apart, okE_run, List.replicate]
  refine okE_dcT (apart L) (fun p => .str p.1.n) sk sv ?_ (by unfold apart; rw [List.length_map]; omega) (apart_ok h).key (fun p hp => ?_) ⟨rfl, rfl⟩
  · simp -implicitDefEqProofs [apart]
  · unfold apart at hp
    obtain ⟨v, hv, rfl⟩ := List.mem_map.mp hp
    simp -implicitDefEqProofs [wipeS, hl2]
    exact ⟨rfl, rfl⟩
theorem e_stretches {S : List Se} (h : SeOk L S) : F_stretches_of [.lst (L.map vD), seD S] w = .ok (tbl sk stD S) w := by
  apply okE_eq
  have hlim : lim = 16000000 := rfl
  have h40 := h.vs.few
  have hl2 : (2 : Nat) ≤ lim := by decide
  have hSl : S.length = L.length := by rw [← h.eq, List.length_map]
  have hLD : L.map vD = S.map fun p => vD p.1 := by rw [← h.eq, List.map_map]; rfl
  have gs : ∀ s : Sl, getS (some (seD S) :: s) 0 = some (seD S) := fun s => rfl
  rw [hLD]
  simp -implicitDefEqProofs [F_stretches_of, B_stretches_of, okE_run, List.replicate]
  refine okE_dcT S (fun p => vD p.1) sk stD ?_ (by omega) h.key (fun p hp => ?_) ⟨rfl, rfl⟩
  · simp -implicitDefEqProofs
  · have h2 : ∀ P : D → Prop, okT (seD S) (.str p.1.n) P = P (sv p) := fun P => okT_tbl (x := p) h.key hp rfl
    have hv := h.vs.ok p.1 (h.mem hp)
    have hz := e_size_of (w := w) hv.b.bw
    have gb : ∀ s : Sl, getS (some (bD p.1.b) :: s) 0 = some (bD p.1.b) := fun s => rfl
    unfold vD
    simp -implicitDefEqProofs [wipeS, gs, gb, okE_getT, h2, hz, hl2]
    unfold sv stD
    simp -implicitDefEqProofs [hl2]
    exact ⟨rfl, by decide⟩
theorem e_check_name {S : List Se} {c : Str} (h : SeOk L S) {p : Se} (hp : p ∈ S) : F_check_name [tbl sk stD S, .str p.1.n, .str c] w = .ok .non w := by
  apply okE_eq
  have gs : ∀ s : Sl, getS (some (tbl sk stD S) :: s) 0 = some (tbl sk stD S) := fun s => rfl
  have h1 : ∀ P : Bool → Prop, okHsT (tbl sk stD S) (.str p.1.n) P = P true := fun P => okHs_tbl (x := p) h.key hp rfl
  have hs : fIsi w [.str p.1.n, .ty "str"] = some (.bl true) := rfl
  simp -implicitDefEqProofs [F_check_name, B_check_name, okE_run, List.replicate, gs, okE_inFT, h1, hs]
theorem e_two {S : List Se} (h : SeOk L S) (hX : RsX L Rs X) (hse : ∀ w, F_seats_by [.lst ((L.map Vr.n).map .str), lnsD Rs] w = .ok (seD S) w) {p q : Se} (hp : p ∈ S) (hq : q ∈ S) :
    F_two_stretches [.lst (L.map vD), X, .str p.1.n, .str q.1.n] w = .ok (.tup [stD p, stD q]) w := by
  apply okE_eq
  have hlim : lim = 16000000 := rfl
  have hl2 : (2 : Nat) ≤ lim := by decide
  have gX := hX.get
  have gs : ∀ s : Sl, getS (some (seD S) :: s) 0 = some (seD S) := fun s => rfl
  have gt : ∀ s : Sl, getS (some (tbl sk stD S) :: s) 0 = some (tbl sk stD S) := fun s => rfl
  have gn : fIsN w (seD S) .non = some (.bl false) := rfl
  have e1 := e_check_layout (w := w) h.vs hX
  have e2 := e_names_of (w := w) (L := L) h.vs.few
  have e3 := e_lines_of (w := w) h.vs hX
  have e4 := hse w
  have e5 := e_stretches (w := w) h
  have e6 := fun c => e_check_name (w := w) (c := c) h hp
  have e7 := fun c => e_check_name (w := w) (c := c) h hq
  have t1 : ∀ P : D → Prop, okT (tbl sk stD S) (.str p.1.n) P = P (stD p) := fun P => okT_tbl (x := p) h.key hp rfl
  have t2 : ∀ P : D → Prop, okT (tbl sk stD S) (.str q.1.n) P = P (stD q) := fun P => okT_tbl (x := q) h.key hq rfl
  generalize (L.map Vr.n).map D.str = NM at *
  generalize L.map vD = LD at *
  simp -implicitDefEqProofs [F_two_stretches, B_two_stretches, okE_run, List.replicate, gX, gs, gt, gn, e1, e2, e3, e4, e5, e6, e7, okE_getT, t1, t2, hl2]
/-- a row that links two groups -/
def mv (p q : Se) (x y : Int) : Int := p.2.2 + x - y - q.2.2
def linked (p q : Se) (x y : Int) (S : List Se) : List Se := S.map fun z => if z.2.1 = q.2.1 then (z.1, p.2.1, z.2.2 + mv p q x y) else z
theorem linked_ok {S : List Se} {p q : Se} {x y : Int} (h : SeOk L S) : SeOk L (linked p q x y S) := ⟨h.vs, by
  unfold linked
  rw [List.map_map, ← h.eq]
  apply List.map_congr_left
  intro z _
  show (if z.2.1 = q.2.1 then _ else z).1 = z.1
  split <;> rfl⟩
theorem e_behind {S : List Se} (h : SeOk L S) (hst : ∀ p ∈ S, (PyData.str p.2.1).canLay0 = true) {m0 m1 : Mb} {p q : Se} (hp : p ∈ S) (hq : q ∈ S) (e0 : p.1 = m0.1) (e1 : q.1 = m1.1) (hne : p.2.1 ≠ q.2.1) :
    F_seats_behind [seD S, lnD [m0, m1]] w = .ok (seD (linked p q (ahd m0) (ahd m1) S)) w := by
  apply okE_eq
  have hlim : lim = 16000000 := rfl
  have hl2 : (2 : Nat) ≤ lim := by decide
  have h40 := h.vs.few
  have hSl : S.length = L.length := by rw [← h.eq, List.length_map]
  have gs : ∀ s : Sl, getS (some (seD S) :: s) 0 = some (seD S) := fun s => rfl
  have gl : ∀ s : Sl, getS (some (lnD [m0, m1]) :: s) 0 = some (lnD [m0, m1]) := fun s => rfl
  have t1 : ∀ P : D → Prop, okT (seD S) (.str m0.1.n) P = P (sv p) := fun P => by
    rw [← e0]
    exact okT_tbl (x := p) h.key hp rfl
  have t2 : ∀ P : D → Prop, okT (seD S) (.str m1.1.n) P = P (sv q) := fun P => by
    rw [← e1]
    exact okT_tbl (x := q) h.key hq rfl
  have d1 : okD (.str p.2.1) = true := okD_strW _ (hst p hp)
  have d2 : okD (.str q.2.1) = true := okD_strW _ (hst q hq)
  have es : ∀ a b : Str, eqD (.str a) (.str b) = decide (a = b) := fun a b => eq_strW
  have x0 : ∀ w, fIx w (lnD [m0, m1]) (.int 0) = some (.tup [.str m0.1.n, .int (ahd m0)]) := fun w => rfl
  have xs : eSl (eVar 1) (oSome (eC (.int 1))) oNone [some (seD S), some (lnD [m0, m1]), some (.str m0.1.n), some (.int (ahd m0)), none, none, none, none, none, none, none, none, none, none] w = .ok (.lst [.tup [.str m1.1.n, .int (ahd m1)]]) w := rfl
  simp -implicitDefEqProofs [F_seats_behind, B_seats_behind, okE_run, List.replicate, gs, gl, x0, xs]
  refine okS_cons ?_
  simp -implicitDefEqProofs [gs, okE_getT, t1, t2, sv, d1, d2, es, hne]
  refine okE_dcT S (fun z => .tup [.str z.1.n, sv z]) sk (fun z => if z.2.1 = q.2.1 then .tup [.str p.2.1, .int (z.2.2 + mv p q (ahd m0) (ahd m1))] else sv z) ?_ (by omega) h.key (fun z hz => ?_) ?_
  · have e : iItems (eVar 0) [some (seD S), some (lnD [m0, m1]), some (.str m0.1.n), some (.int (ahd m0)), some (.str m1.1.n), some (.int (ahd m1)), some (.str p.2.1), some (.int p.2.2), some (.str q.2.1), some (.int q.2.2), some (.int (p.2.2 + ahd m0 - ahd m1 - q.2.2)), none, none, none] w = .ok (((S.map sk).zip (S.map sv)).map fun z => .tup [keyD z.1, z.2]) w := rfl
    rw [e, List.zip_map', List.map_map]
    exact ⟨rfl, rfl⟩
  · have d3 : okD (.str z.2.1) = true := okD_strW _ (hst z hz)
    unfold sv
    simp -implicitDefEqProofs [wipeS, d2, d3, es, hl2]
    by_cases c : z.2.1 = q.2.1
    · simp -implicitDefEqProofs [c, hl2]
      exact ⟨rfl, rfl⟩
    · simp -implicitDefEqProofs [c, hl2]
      exact rfl
  · have e : tbl sk (fun z : Se => if z.2.1 = q.2.1 then D.tup [.str p.2.1, .int (z.2.2 + mv p q (ahd m0) (ahd m1))] else sv z) S = seD (linked p q (ahd m0) (ahd m1) S) := by
      unfold seD tbl linked
      rw [List.map_map, List.map_map]
      have e1 : S.map sk = S.map (sk ∘ fun z => if z.2.1 = q.2.1 then (z.1, p.2.1, z.2.2 + mv p q (ahd m0) (ahd m1)) else z) := List.map_congr_left fun z _ => by
        show sk z = sk (if z.2.1 = q.2.1 then _ else z)
        split <;> rfl
      have e2 : S.map (fun z : Se => if z.2.1 = q.2.1 then D.tup [.str p.2.1, .int (z.2.2 + mv p q (ahd m0) (ahd m1))] else sv z) = S.map (sv ∘ fun z => if z.2.1 = q.2.1 then (z.1, p.2.1, z.2.2 + mv p q (ahd m0) (ahd m1)) else z) := List.map_congr_left fun z _ => by
        show (if z.2.1 = q.2.1 then D.tup [.str p.2.1, .int (z.2.2 + mv p q (ahd m0) (ahd m1))] else sv z) = sv (if z.2.1 = q.2.1 then _ else z)
        split <;> rfl
      rw [← e1, ← e2]
    rw [e]
    exact ⟨rfl, rfl⟩
theorem e_by_none (h : VsOk L) : F_seats_by [.lst ((L.map Vr.n).map .str), lnsD []] w = .ok (seD (apart L)) w := by
  apply okE_eq
  have e1 := e_seats_apart (w := w) h
  have gs : ∀ s : Sl, getS (some (seD (apart L)) :: s) 0 = some (seD (apart L)) := fun s => rfl
  have gl : ∀ s : Sl, getS (some (lnsD []) :: s) 0 = some (lnsD []) := fun s => rfl
  have hsq : seqD (lnsD []) = some (false, []) := rfl
  generalize (L.map Vr.n).map D.str = NM at *
  simp -implicitDefEqProofs [F_seats_by, B_seats_by, okE_run, List.replicate, e1, gs, gl, hsq]
theorem e_by_one (h : VsOk L) {r : List Mb} {S : List Se} (hb : F_seats_behind [seD (apart L), lnD r] w = .ok (seD S) w) : F_seats_by [.lst ((L.map Vr.n).map .str), lnsD [r]] w = .ok (seD S) w := by
  apply okE_eq
  have e1 := e_seats_apart (w := w) h
  have gs : ∀ (S : List Se) (s : Sl), getS (some (seD S) :: s) 0 = some (seD S) := fun S s => rfl
  have gl : ∀ s : Sl, getS (some (lnsD [r]) :: s) 0 = some (lnsD [r]) := fun s => rfl
  have gr : ∀ s : Sl, getS (some (lnD r) :: s) 0 = some (lnD r) := fun s => rfl
  have hsq : seqD (lnsD [r]) = some (false, [.tup [.int 0, lnD r]]) := rfl
  have gn : ∀ S, fIsN w (seD S) .non = some (.bl false) := fun S => rfl
  generalize (L.map Vr.n).map D.str = NM at *
  simp -implicitDefEqProofs [F_seats_by, B_seats_by, okE_run, List.replicate, e1, gs, gl, hsq]
  refine okS_cons ?_
  simp -implicitDefEqProofs [gr, gs, hb, gn]
end
end DL

set_option maxHeartbeats 2000000
namespace DL
namespace TT
open PySem PySem.Spec PyProof.Rows L2
/-! ### triplets by value -/
abbrev Tr := Int × Int × Int
def tD (t : Tr) : D := .tup [.int t.1, .int t.2.1, .int t.2.2]
theorem tD_e {a b c : Int} : D.tup [.int a, .int b, .int c] = tD (a, b, c) := rfl
def cnt (t : Tr) : Int := if (t.2.1 - t.1 + t.2.2).fdiv t.2.2 > 0 then (t.2.1 - t.1 + t.2.2).fdiv t.2.2 else 0
def at1 (t : Tr) (i : Int) : Int := t.1 + i * t.2.2
abbrev FARn : Int := 1000000000000000000000000000000
def inF (n : Int) : Bool := decide (-FARn ≤ n) && decide (n ≤ FARn)
theorem inF_iff {n : Int} : inF n = true ↔ -FARn ≤ n ∧ n ≤ FARn := by simp [inF]
/-- a triplet -/
structure Tri (t : Tr) : Prop where
  a : inF t.1 = true
  b : inF t.2.1 = true
  c : inF t.2.2 = true
  s : t.2.2 ≠ 0
theorem bt100 {n : Int} (h : inF n = true) : Bt 100 n := by
  rw [inF_iff] at h
  exact bt_of (Int.lt_of_lt_of_le (by decide) h.1) (Int.lt_of_le_of_lt h.2 (by decide))
section
variable {w : Wl} {t : Tr} {i n : Int}
@[simp] theorem getS_tD {s : Sl} : getS (some (tD t) :: s) 0 = some (tD t) := rfl
@[simp] theorem v_ixtD0 : fIx w (tD t) (.int 0) = some (.int t.1) := (v_ixT (xs := [.int t.1, .int t.2.1, .int t.2.2]) (a := 0)).trans atI_0
@[simp] theorem v_ixtD1 : fIx w (tD t) (.int 1) = some (.int t.2.1) := (v_ixT (xs := [.int t.1, .int t.2.1, .int t.2.2]) (a := 1)).trans atI_1
@[simp] theorem v_ixtD2 : fIx w (tD t) (.int 2) = some (.int t.2.2) := (v_ixT (xs := [.int t.1, .int t.2.1, .int t.2.2]) (a := 2)).trans atI_2
theorem e_many (h0 : t.2.2 ≠ 0) (h1 : Bt 8000 t.2.2) : F_many_of [tD t] w = .ok (.int (cnt t)) w := by
  apply okE_eq
  have hd := div_bt h0 h1 (by omega)
  simp [F_many_of, B_many_of, okE_run, tD, List.replicate, hd, cnt]
theorem e_sub (h1 : Bt 8000 i) (h2 : Bt 8000 t.2.2) : F_subscript_of [tD t, .int i] w = .ok (.int (at1 t i)) w := by
  apply okE_eq
  have hd := mul_bt h1 h2 (by omega)
  simp [F_subscript_of, B_subscript_of, okE_run, tD, List.replicate, hd, at1]
/-- the number of an element -/
def idx (t : Tr) (n : Int) : Option Int := if (n - t.1).fmod t.2.2 = 0 ∧ 0 ≤ (n - t.1).fdiv t.2.2 ∧ (n - t.1).fdiv t.2.2 < cnt t then some ((n - t.1).fdiv t.2.2) else none
def oD : Option Int → D
  | none => .non
  | some i => .int i
@[simp] theorem v_isNi {x : Int} : fIsN w (.int x) .non = some (.bl false) := rfl
@[simp] theorem v_isNn : fIsN w .non .non = some (.bl true) := rfl
@[simp] theorem v_notNi {x : Int} : fNotN w (.int x) .non = some (.bl true) := rfl
@[simp] theorem v_notNn : fNotN w .non .non = some (.bl false) := rfl
end

/-! ### how many elements a triplet has -/
theorem fdiv_neg2 (a b : Int) : (-a).fdiv (-b) = a.fdiv b := by
  exact Int.neg_fdiv_neg a b
theorem cnt_iff {t : Tr} (h : t.2.2 ≠ 0) {i : Int} (hi : 0 ≤ i) : i < cnt t ↔ (0 < t.2.2 ∧ at1 t i ≤ t.2.1) ∨ (t.2.2 < 0 ∧ t.2.1 ≤ at1 t i) := by
  obtain ⟨a, b, s⟩ := t
  unfold cnt at1
  simp only at h ⊢
  have hq : (i < if (b - a + s).fdiv s > 0 then (b - a + s).fdiv s else 0) ↔ i + 1 ≤ (b - a + s).fdiv s := by
    split <;> omega
  rw [hq]
  rcases Int.lt_or_gt_of_ne h with hs | hs
  · rw [← fdiv_neg2, Int.fdiv_eq_ediv_of_nonneg _ (by omega), Int.le_ediv_iff_mul_le (by omega)]
    have : (i + 1) * -s = -(i * s) - s := by rw [Int.add_mul, Int.mul_neg]; omega
    rw [this]
    omega
  · rw [Int.fdiv_eq_ediv_of_nonneg _ (by omega), Int.le_ediv_iff_mul_le (by omega)]
    have : (i + 1) * s = i * s + s := by rw [Int.add_mul]; omega
    rw [this]
    omega
theorem cnt_nonneg {t : Tr} : 0 ≤ cnt t := by
  unfold cnt
  split <;> omega
theorem mul_ge {i s : Int} (hi : 0 ≤ i) (hs : 0 < s) : i ≤ i * s := by
  have := Int.mul_le_mul_of_nonneg_left (show 1 ≤ s by omega) hi
  omega
/-- no more elements than numbers between the bounds -/
theorem cnt_le {t : Tr} (h : t.2.2 ≠ 0) {n : Int} (hn : 0 ≤ n) (h1 : 0 < t.2.2 → t.2.1 - t.1 < n) (h2 : t.2.2 < 0 → t.1 - t.2.1 < n) : cnt t ≤ n := by
  by_cases hc : cnt t ≤ n
  · exact hc
  · have := (cnt_iff h hn).mp (by omega)
    unfold at1 at this
    rcases this with ⟨hs, h3⟩ | ⟨hs, h3⟩
    · have := mul_ge hn hs
      have := h1 hs
      omega
    · have := mul_ge hn (show 0 < -t.2.2 by omega)
      rw [Int.mul_neg] at this
      have := h2 hs
      omega
/-- an element lies between the bounds -/
theorem at1_in {t : Tr} (h : t.2.2 ≠ 0) {i : Int} (hi : 0 ≤ i) (hc : i < cnt t) : (t.1 ≤ at1 t i ∧ at1 t i ≤ t.2.1) ∨ (t.2.1 ≤ at1 t i ∧ at1 t i ≤ t.1) := by
  rcases (cnt_iff h hi).mp hc with ⟨hs, h3⟩ | ⟨hs, h3⟩
  · left
    have : 0 ≤ i * t.2.2 := Int.mul_nonneg hi (by omega)
    unfold at1 at *
    omega
  · right
    have : 0 ≤ i * -t.2.2 := Int.mul_nonneg hi (by omega)
    rw [Int.mul_neg] at this
    unfold at1 at *
    omega
theorem at1_far {t : Tr} (h : Tri t) {i : Int} (hi : 0 ≤ i) (hc : i < cnt t) : inF (at1 t i) = true := by
  have ha := h.a
  have hb := h.b
  rw [inF_iff] at *
  rcases at1_in h.s hi hc with h1 | h1 <;> omega
theorem at1_inj {t : Tr} (h : t.2.2 ≠ 0) {i j : Int} (e : at1 t i = at1 t j) : i = j := by
  unfold at1 at e
  exact Int.eq_of_mul_eq_mul_right h (by omega)
theorem idx_at {t : Tr} (h : t.2.2 ≠ 0) {i : Int} (hi : 0 ≤ i) (hc : i < cnt t) : idx t (at1 t i) = some i := by
  unfold idx
  have e : at1 t i - t.1 = i * t.2.2 := by unfold at1; omega
  rw [e, Int.mul_fdiv_cancel _ h, Int.mul_fmod_left, if_pos ⟨rfl, hi, hc⟩]
theorem idx_some {t : Tr} (h : t.2.2 ≠ 0) {n j : Int} (e : idx t n = some j) : 0 ≤ j ∧ j < cnt t ∧ at1 t j = n := by
  unfold idx at e
  split at e
  · rename_i hc
    cases e
    refine ⟨hc.2.1, hc.2.2, ?_⟩
    have := Int.fmod_def (n - t.1) t.2.2
    unfold at1
    rw [hc.1] at this
    rw [Int.mul_comm] at this
    omega
  · cases e
theorem cnt_bt {t : Tr} (h : Tri t) : cnt t ≤ 2000000000000000000000000000001 := by
  have ha := h.a
  have hb := h.b
  rw [inF_iff] at ha hb
  exact cnt_le h.s (by omega) (fun _ => by simp only [FARn] at ha hb; omega) (fun _ => by simp only [FARn] at ha hb; omega)
theorem p110 : (2 : Int) ^ 110 = 1298074214633706907132624082305024 := by decide
section
variable {w : Wl} {t : Tr} {i n : Int}
end

/-! ### what the law draws -/
def mem (t : Tr) : List Int := (List.range (cnt t).toNat).map fun k => at1 t (k : Nat)
section
variable {w : Wl} {b : Nat} {t : Tr}
theorem mem_len : (mem t).length = (cnt t).toNat := by simp [mem]
/-! far ones -/
theorem i30 : (10 : Int) ^ 30 = 1000000000000000000000000000000 := by decide
end

/-! ### the law's own -/
section
variable {w : Wl} {b : Nat} {t : Tr}
theorem upTo_get {lo : Int} {n i : Nat} {d : D} (h : (upTo lo n)[i]? = some d) : i < n ∧ d = .int (lo + (i : Nat)) := by
  unfold upTo at h
  rw [List.getElem?_map] at h
  obtain ⟨j, hj, rfl⟩ := Option.map_eq_some_iff.mp h
  have hi : i < n := by
    have := (List.getElem?_eq_some_iff.mp hj).1
    simpa using this
  rw [List.getElem?_range hi] at hj
  cases hj
  exact ⟨hi, rfl⟩
theorem mem_get {j : Nat} : (mem t)[j]? = if j < (cnt t).toNat then some (at1 t (j : Nat)) else none := by
  unfold mem
  rw [List.getElem?_map]
  split
  · rename_i h
    rw [List.getElem?_range h]
    rfl
  · rename_i h
    rw [List.getElem?_eq_none (by simpa using h)]
    rfl
theorem mem_iff {n : Int} (h : t.2.2 ≠ 0) : n ∈ mem t ↔ ∃ j, idx t n = some j := by
  constructor
  · intro hm
    unfold mem at hm
    obtain ⟨k, hk, rfl⟩ := List.mem_map.mp hm
    have hk := List.mem_range.mp hk
    exact ⟨_, idx_at h (by omega) (by omega)⟩
  · rintro ⟨j, hj⟩
    obtain ⟨h0, h1, h2⟩ := idx_some h hj
    unfold mem
    exact List.mem_map.mpr ⟨j.toNat, List.mem_range.mpr (by omega), by rw [← h2, Int.toNat_of_nonneg h0]⟩
theorem find_mem {n j : Int} (h : t.2.2 ≠ 0) (hj : idx t n = some j) : ((mem t).findIdx? fun b => decide (b = n)) = some j.toNat := by
  obtain ⟨h0, h1, h2⟩ := idx_some h hj
  rw [List.findIdx?_eq_some_iff_getElem]
  have hl := mem_len (t := t)
  have hlt : j.toNat < (mem t).length := by omega
  have ge : ∀ (k : Nat) (hk : k < (mem t).length), (mem t)[k] = at1 t (k : Nat) := fun k hk => by
    have := mem_get (t := t) (j := k)
    rw [if_pos (by omega), List.getElem?_eq_getElem hk] at this
    exact Option.some.inj this
  refine ⟨hlt, ?_, fun k hk => ?_⟩
  · rw [ge _ hlt, Int.toNat_of_nonneg h0, h2]
    simp
  · rw [ge _ (by omega), ← h2]
    simp only [decide_eq_true_eq, Bool.not_eq_true', decide_eq_false_iff_not]
    intro e
    have := at1_inj h e
    omega
theorem okS_then {U V : DS} {s : Sl} {w : Wl} {N : Sl → Wl → Prop} {Z : D → Wl → Prop} (M : Sl → Wl → Prop) (h : okS (U s w) M Z) (q : ∀ s1 w1, M s1 w1 → okS (V s1 w1) N Z) : okS (sSeq U V s w) N Z := by
  rw [okS_seq]
  exact okS_mono h q fun _ _ z => z
end

/-! ### normal and turned triplets -/
section
variable {w : Wl} {b : Nat} {t u : Tr}
def up (t : Tr) : Tr := if 0 < t.2.2 then (t.1, at1 t (cnt t - 1), t.2.2) else (at1 t (cnt t - 1), t.1, -t.2.2)
def nrm (t : Tr) : Tr := if cnt t = 0 then (0, -1, 1) else if cnt t = 1 then (t.1, t.1, 1) else up t
/-- wide: what is reckoned with -/
structure Wd (t : Tr) : Prop where
  s : t.2.2 ≠ 0
  bs : Bt 4000 t.2.2
  bc : Bt 4000 (cnt t)
theorem Tri.wd (h : Tri t) : Wd t := ⟨h.s, (bt100 h.c).mono (by omega), by
  have := cnt_bt h
  have := cnt_nonneg (t := t)
  exact (bt_of (i := 110) (by omega) (by have := p110; omega)).mono (by omega)⟩
theorem bt1 {n : Nat} (h : 1 ≤ n) : Bt n 1 := by
  unfold Bt
  exact Nat.lt_of_lt_of_le (by decide) (Nat.pow_le_pow_right (by decide) h)
theorem e_last (h : Wd t) : F_last_of [tD t] w = .ok (.int (at1 t (cnt t - 1))) w := by
  apply okE_eq
  have hm := e_many (w := w) h.s (h.bs.mono (by omega))
  have hs := e_sub (w := w) (t := t) (i := cnt t - 1) ((bt_sub h.bc (bt1 (by omega))).mono (by omega)) (h.bs.mono (by omega))
  simp -implicitDefEqProofs [F_last_of, B_last_of, okE_run, hm, hs]
theorem e_upward (h : Wd t) : F_upward [tD t] w = .ok (tD (up t)) w := by
  apply okE_eq
  have hl : (3 : Nat) ≤ lim := by decide
  simp -implicitDefEqProofs [F_upward, B_upward, okE_run, e_last h, hl, up]
  split <;> rfl
theorem e_normal_of (h : Wd t) : F_normal_of [tD t] w = .ok (tD (nrm t)) w := by
  apply okE_eq
  have hm := e_many (w := w) h.s (h.bs.mono (by omega))
  have hl : (3 : Nat) ≤ lim := by decide
  simp -implicitDefEqProofs [F_normal_of, B_normal_of, okE_run, List.replicate, hm, hl, e_upward h, nrm]
  by_cases h0 : cnt t = 0
  · simp -implicitDefEqProofs [h0, tD]
  · by_cases h1 : cnt t = 1
    · simp -implicitDefEqProofs [h1, tD]
    · simp -implicitDefEqProofs [h0, h1]
/-- the same elements in the same order, as the program tells it -/
def runB2 (t u : Tr) : Bool := if cnt t ≠ cnt u then false else if 1 < cnt t then decide (t.1 = u.1) && decide (t.2.2 = u.2.2) else decide (mem t = mem u)
end

/-! ### what normal triplets are -/
section
variable {t u : Tr}
theorem cnt_uniq {t : Tr} {c : Int} (h : t.2.2 ≠ 0) (h0 : 0 ≤ c) (hc : ∀ i : Int, 0 ≤ i → (i < c ↔ (0 < t.2.2 ∧ at1 t i ≤ t.2.1) ∨ (t.2.2 < 0 ∧ t.2.1 ≤ at1 t i))) : cnt t = c := by
  have h1 := hc c h0
  have h2 := hc (cnt t) cnt_nonneg
  rw [← cnt_iff h h0] at h1
  rw [← cnt_iff h cnt_nonneg] at h2
  omega
/-- a triplet by its first element, its step and how many -/
def mk3 (a s c : Int) : Tr := (a, a + (c - 1) * s, s)
theorem cnt_mk3 {a s c : Int} (hs : s ≠ 0) (hc : 0 ≤ c) : cnt (mk3 a s c) = c := by
  refine cnt_uniq hs hc fun i hi => ?_
  show i < c ↔ (0 < s ∧ a + i * s ≤ a + (c - 1) * s) ∨ (s < 0 ∧ a + (c - 1) * s ≤ a + i * s)
  have e : a + (c - 1) * s - (a + i * s) = (c - 1 - i) * s := by rw [Int.sub_mul (c - 1) i s]; omega
  rcases Int.lt_or_gt_of_ne hs with hs | hs
  · by_cases hlt : i < c
    · have : 0 ≤ (c - 1 - i) * -s := Int.mul_nonneg (by omega) (by omega)
      rw [Int.mul_neg] at this
      omega
    · have : 0 < (i - (c - 1)) * -s := Int.mul_pos (by omega) (by omega)
      have e2 : (i - (c - 1)) * -s = (c - 1 - i) * s := by rw [← Int.neg_mul_neg]; congr 1 <;> omega
      omega
  · by_cases hlt : i < c
    · have : 0 ≤ (c - 1 - i) * s := Int.mul_nonneg (by omega) (by omega)
      omega
    · have : 0 < (i - (c - 1)) * s := Int.mul_pos (by omega) (by omega)
      have e2 : (i - (c - 1)) * s = -((c - 1 - i) * s) := by rw [← Int.neg_mul]; congr 1; omega
      omega
theorem mem_mk3 {a s c : Int} (hs : s ≠ 0) (hc : 0 ≤ c) : mem (mk3 a s c) = (List.range c.toNat).map fun k => a + (k : Nat) * s := by
  unfold mem
  rw [cnt_mk3 hs hc]
  rfl
/-- the same elements, told by how many -/
theorem mem_same (h : t.2.2 ≠ 0) : mem t = mem (mk3 t.1 t.2.2 (cnt t)) := by
  rw [mem_mk3 h cnt_nonneg]
  rfl
theorem mem_rev {a s c : Int} (hs : s ≠ 0) (hc : 0 ≤ c) : (mem (mk3 a s c)).reverse = mem (mk3 (a + (c - 1) * s) (-s) c) := by
  rw [mem_mk3 hs hc, mem_mk3 (by omega) hc]
  apply List.ext_getElem?
  intro i
  by_cases hi : i < c.toNat
  · rw [List.getElem?_reverse (by simpa using hi)]
    simp only [List.length_map, List.length_range]
    rw [List.getElem?_map, List.getElem?_map, List.getElem?_range hi, List.getElem?_range (by omega)]
    simp only [Option.map_some, Option.some.injEq]
    have e : ((c.toNat - 1 - i : Nat) : Int) = c - 1 - i := by omega
    rw [e, Int.sub_mul (c - 1) i s, Int.mul_neg]
    omega
  · rw [List.getElem?_eq_none (by simpa using hi), List.getElem?_eq_none (by simpa using hi)]
/-- ascending: the least one, the step, how many -/
def lo (t : Tr) : Int := if 0 < t.2.2 then t.1 else at1 t (cnt t - 1)
def stp (t : Tr) : Int := if 0 < t.2.2 then t.2.2 else -t.2.2
theorem up_mk3 : up t = mk3 (lo t) (stp t) (cnt t) := by
  unfold up lo stp mk3
  split
  · rfl
  · congr 1
    congr 1
    unfold at1
    rw [Int.mul_neg]
    omega
theorem stp_pos (h : t.2.2 ≠ 0) : 0 < stp t := by
  unfold stp
  split <;> omega
theorem cnt_up (h : t.2.2 ≠ 0) : cnt (up t) = cnt t := by
  rw [up_mk3, cnt_mk3 (by have := stp_pos h; omega) cnt_nonneg]
theorem mem_up (h : t.2.2 ≠ 0) : mem (up t) = if 0 < t.2.2 then mem t else (mem t).reverse := by
  rw [up_mk3, mem_same h]
  split
  · rename_i hp
    unfold lo stp
    rw [if_pos hp, if_pos hp]
  · rename_i hp
    unfold lo stp
    rw [if_neg hp, if_neg hp, mem_rev h cnt_nonneg]
    rfl
theorem nrm_s (h : t.2.2 ≠ 0) : 0 < (nrm t).2.2 := by
  unfold nrm
  split
  · decide
  · split
    · show (0 : Int) < 1
      decide
    · rw [up_mk3]
      exact stp_pos h
theorem at1_zero : at1 t 0 = t.1 := by unfold at1; omega
theorem cnt_nrm (h : t.2.2 ≠ 0) : cnt (nrm t) = cnt t := by
  unfold nrm
  split
  · rename_i h0
    rw [h0]
    decide
  · split
    · rename_i h1
      rw [h1]
      have := cnt_mk3 (a := t.1) (s := 1) (c := 1) (by omega) (by omega)
      simpa [mk3] using this
    · exact cnt_up h
theorem mem_zero (h : cnt t = 0) : mem t = [] := by unfold mem; rw [h]; rfl
theorem mem_one (h : cnt t = 1) : mem t = [t.1] := by
  unfold mem
  rw [h]
  show [at1 t 0] = _
  rw [at1_zero]
theorem mem_nrm (h : t.2.2 ≠ 0) : mem (nrm t) = if 0 < t.2.2 then mem t else (mem t).reverse := by
  have hc := cnt_nrm h
  by_cases h0 : cnt t = 0
  · rw [mem_zero (hc.trans h0), mem_zero h0]
    simp
  · by_cases h1 : cnt t = 1
    · rw [mem_one (hc.trans h1), mem_one h1]
      have : (nrm t).1 = t.1 := by unfold nrm; rw [if_neg h0, if_pos h1]
      rw [this]
      simp
    · have : nrm t = up t := by unfold nrm; rw [if_neg h0, if_neg h1]
      rw [this, mem_up h]
theorem mem_up_le {a s c : Int} (hs : 0 < s) (hc : 0 ≤ c) : (mem (mk3 a s c)).Pairwise (· ≤ ·) := by
  rw [mem_mk3 (by omega) hc, List.pairwise_map]
  refine List.Pairwise.imp ?_ (List.pairwise_lt_range (n := c.toNat))
  intro i j hij
  have : 0 ≤ ((j : Int) - i) * s := Int.mul_nonneg (by omega) (by omega)
  rw [Int.sub_mul] at this
  omega
theorem nrm_le (h : t.2.2 ≠ 0) : (mem (nrm t)).Pairwise (· ≤ ·) := by
  have hs := nrm_s h
  rw [mem_same (by omega)]
  exact mem_up_le hs cnt_nonneg
theorem sort_mem (h : t.2.2 ≠ 0) : sortI (mem t) = mem (nrm t) := by
  refine sorted_unique ((sortI_perm _).trans ?_) (sortI_le _) (nrm_le h)
  rw [mem_nrm h]
  split
  · exact List.Perm.refl _
  · exact (List.reverse_perm _).symm
theorem sort_rev (l : List Int) : sortI l.reverse = sortI l := sorted_unique ((sortI_perm _).trans ((List.reverse_perm l).trans (sortI_perm l).symm)) (sortI_le _) (sortI_le _)
/-- the triplet that ascending numbers by equal steps make -/
def shown : List Int → Tr
  | [] => (0, -1, 1)
  | [a] => (a, a, 1)
  | a :: b :: r => (a, (a :: b :: r).getLast?.getD 0, b - a)
theorem shown_nrm (h : t.2.2 ≠ 0) : shown (mem (nrm t)) = nrm t := by
  by_cases h0 : cnt t = 0
  · rw [mem_zero ((cnt_nrm h).trans h0)]
    unfold nrm
    rw [if_pos h0]
    rfl
  · by_cases h1 : cnt t = 1
    · rw [mem_one ((cnt_nrm h).trans h1)]
      unfold nrm
      rw [if_neg h0, if_pos h1]
      rfl
    · have hn := cnt_nonneg (t := t)
      have e : nrm t = mk3 (lo t) (stp t) (cnt t) := by rw [← up_mk3]; unfold nrm; rw [if_neg h0, if_neg h1]
      have hs := stp_pos h
      rw [e]
      generalize lo t = a
      generalize stp t = s at *
      obtain ⟨n, hc⟩ : ∃ n : Nat, cnt t = (n : Int) + 2 := ⟨(cnt t - 2).toNat, by omega⟩
      rw [hc, mem_mk3 (by omega) (by omega)]
      have hr : ((n : Int) + 2).toNat = n + 2 := by omega
      rw [hr]
      have hl : ((List.range (n + 2)).map fun k => a + (k : Nat) * s).getLast? = some (a + ((n : Int) + 1) * s) := by
        rw [List.getLast?_eq_getElem?]
        simp
      have h2 : ((List.range (n + 2)).map fun k => a + (k : Nat) * s) = a :: (a + s) :: ((List.range n).map fun k => a + ((k + 2 : Nat) : Int) * s) := by
        rw [List.range_succ_eq_map, List.range_succ_eq_map]
        simp
        intro k _
        congr 1
      rw [h2] at hl ⊢
      show (a, Option.getD (List.getLast? (a :: (a + s) :: _)) 0, a + s - a) = mk3 a s _
      rw [hl]
      unfold mk3
      simp
      constructor
      · congr 1
        omega
      · omega
/-- triplets with the same normal one have the same elements, and the other way about -/
theorem nrm_iff (h : t.2.2 ≠ 0) (h2 : u.2.2 ≠ 0) : nrm t = nrm u ↔ sortI (mem t) = sortI (mem u) := by
  rw [sort_mem h, sort_mem h2]
  constructor
  · intro e
    rw [e]
  · intro e
    rw [← shown_nrm h, ← shown_nrm h2, e]
end

/-! ### membership -/
section
variable {w : Wl} {b : Nat} {t u : Tr}
/-- an element -/
def In (t : Tr) (x : Int) : Prop := ∃ i : Int, 0 ≤ i ∧ i < cnt t ∧ at1 t i = x
theorem in_mem {x : Int} : x ∈ mem t ↔ In t x := by
  unfold mem In
  rw [List.mem_map]
  constructor
  · rintro ⟨k, hk, rfl⟩
    have hk := List.mem_range.mp hk
    exact ⟨k, by omega, by omega, rfl⟩
  · rintro ⟨i, h0, h1, rfl⟩
    exact ⟨i.toNat, List.mem_range.mpr (by omega), by rw [Int.toNat_of_nonneg h0]⟩
theorem in_idx {x : Int} (h : t.2.2 ≠ 0) : In t x ↔ ∃ j, idx t x = some j := by rw [← in_mem, mem_iff h]
theorem in_mk3 {a s c x : Int} (hs : 0 < s) (hc : 0 ≤ c) : In (mk3 a s c) x ↔ a ≤ x ∧ x ≤ a + (c - 1) * s ∧ s ∣ x - a := by
  unfold In
  rw [cnt_mk3 (by omega) hc]
  constructor
  · rintro ⟨i, h0, h1, rfl⟩
    have e : at1 (mk3 a s c) i = a + i * s := rfl
    have p1 : 0 ≤ i * s := Int.mul_nonneg h0 (by omega)
    have p2 : 0 ≤ (c - 1 - i) * s := Int.mul_nonneg (by omega) (by omega)
    rw [Int.sub_mul (c - 1) i s] at p2
    rw [e]
    exact ⟨by omega, by omega, ⟨i, by rw [Int.mul_comm]; omega⟩⟩
  · rintro ⟨h1, h2, i, hi⟩
    have e : at1 (mk3 a s c) i = x := by
      show a + i * s = x
      rw [Int.mul_comm]
      omega
    refine ⟨i, ?_, ?_, e⟩
    · apply Int.not_lt.mp
      intro hn
      have := Int.mul_pos_of_neg_of_neg hn (show -s < 0 by omega)
      rw [Int.mul_neg, Int.mul_comm] at this
      omega
    · apply Int.not_le.mp
      intro hn
      have : 0 < (i - (c - 1)) * s := Int.mul_pos (by omega) hs
      rw [Int.sub_mul, Int.mul_comm i] at this
      omega
theorem in_up {x : Int} (h : t.2.2 ≠ 0) : In t x ↔ (up t).1 ≤ x ∧ x ≤ (up t).2.1 ∧ (up t).2.2 ∣ x - (up t).1 := by
  have e : In t x ↔ In (up t) x := by
    rw [← in_mem, ← in_mem, mem_up h]
    split
    · exact Iff.rfl
    · rw [List.mem_reverse]
  rw [e, up_mk3, in_mk3 (stp_pos h) cnt_nonneg]
  rfl
theorem in_nrm {x : Int} (h : t.2.2 ≠ 0) : In (nrm t) x ↔ In t x := by
  rw [← in_mem, ← in_mem, mem_nrm h]
  split
  · exact Iff.rfl
  · rw [List.mem_reverse]
theorem nodup_mem (h : t.2.2 ≠ 0) : (mem t).Nodup := by
  unfold mem
  rw [List.Nodup, List.pairwise_map]
  refine List.Pairwise.imp ?_ (List.pairwise_lt_range (n := (cnt t).toNat))
  intro i j hij e
  have := at1_inj h e
  omega
/-- normal triplets of the same elements are the same -/
theorem nrm_ext (h : t.2.2 ≠ 0) (h2 : u.2.2 ≠ 0) (e : ∀ x, In t x ↔ In u x) : nrm t = nrm u := by
  rw [nrm_iff h h2]
  refine sorted_unique ((sortI_perm _).trans ?_) (sortI_le _) (sortI_le _)
  refine List.Perm.trans ?_ (sortI_perm _).symm
  rw [List.perm_ext_iff_of_nodup (nodup_mem h) (nodup_mem h2)]
  intro x
  rw [in_mem, in_mem]
  exact e x
/-- ascending by a period, from a number to a number -/
theorem in_asc {a z s x : Int} (hs : 0 < s) : In (a, z, s) x ↔ a ≤ x ∧ x ≤ z ∧ s ∣ x - a := by
  have hs0 : s ≠ 0 := by omega
  unfold In
  constructor
  · rintro ⟨i, h0, h1, rfl⟩
    have := (cnt_iff (t := (a, z, s)) hs0 h0).mp h1
    have p1 : 0 ≤ i * s := Int.mul_nonneg h0 (by omega)
    have e : at1 (a, z, s) i = a + i * s := rfl
    rw [e] at this ⊢
    simp only at this
    exact ⟨by omega, by omega, ⟨i, by rw [Int.mul_comm]; omega⟩⟩
  · rintro ⟨h1, h2, i, hi⟩
    have e : at1 (a, z, s) i = x := by
      show a + i * s = x
      rw [Int.mul_comm]
      omega
    have h0 : 0 ≤ i := by
      apply Int.not_lt.mp
      intro hn
      have := Int.mul_pos_of_neg_of_neg hn (show -s < 0 by omega)
      rw [Int.mul_neg, Int.mul_comm] at this
      omega
    refine ⟨i, h0, ?_, e⟩
    rw [cnt_iff (t := (a, z, s)) hs0 h0, e]
    exact .inl ⟨hs, h2⟩
end
/-! ### the greatest common divisor, and a factor -/
section
variable {w : Wl}
/-- what the loop keeps -/
structure Gc (N M a r f g : Int) : Prop where
  a0 : 0 < a
  r0 : 0 ≤ r
  ca : M ∣ N * f - a
  cr : M ∣ N * g - r
  dv : ∀ d : Int, d ∣ a → d ∣ r → d ∣ N ∧ d ∣ M
  sg : (0 ≤ f ∧ g ≤ 0 ∧ f * r - g * a = M) ∨ (f ≤ 0 ∧ 0 ≤ g ∧ g * a - f * r = M)
  fb : -M ≤ f ∧ f ≤ M
  ab : a ≤ N + M
theorem Gc.first {N M : Int} (hN : 0 < N) (hM : 0 < M) : Gc N M N M 1 0 :=
  ⟨hN, by omega, ⟨0, by omega⟩, ⟨-1, by omega⟩, fun d h1 h2 => ⟨h1, h2⟩, .inl ⟨by omega, by omega, by omega⟩, ⟨by omega, by omega⟩, by omega⟩
theorem Gc.gb {N M a r f g : Int} (h : Gc N M a r f g) : -M ≤ g ∧ g ≤ M := by
  have ha := h.a0
  have hr := h.r0
  rcases h.sg with ⟨h1, h2, h3⟩ | ⟨h1, h2, h3⟩
  · have p1 : 0 ≤ f * r := Int.mul_nonneg h1 hr
    have p2 : -g ≤ -g * a := mul_ge (by omega) ha
    rw [Int.neg_mul] at p2
    omega
  · have p1 : 0 ≤ -f * r := Int.mul_nonneg (by omega) hr
    have p2 : g ≤ g * a := mul_ge (by omega) ha
    rw [Int.neg_mul] at p1
    omega
theorem Gc.next {N M a r f g : Int} (h : Gc N M a r f g) (hr : r ≠ 0) (hN : 0 < N) (hM : 0 < M) (hrb : r ≤ N + M) : Gc N M r (a - a.fdiv r * r) g (f - a.fdiv r * g) := by
  have ha := h.a0
  have hr0 := h.r0
  have hq := fdiv_range (a := a) (n := r) (by omega) (by omega)
  have hm := fmod_range (a := a) (n := r) (by omega)
  have hmd := Int.fmod_def a r
  rw [Int.mul_comm] at hmd
  generalize a.fdiv r = q at *
  rw [hmd] at hm
  refine ⟨by omega, hm.1, h.cr, ?_, ?_, ?_, h.gb, hrb⟩
  · have := Int.dvd_sub h.ca (Int.dvd_mul_of_dvd_right (b := q) h.cr)
    have e : N * f - a - q * (N * g - r) = N * (f - q * g) - (a - q * r) := by
      rw [Int.mul_sub, Int.mul_sub, Int.mul_left_comm q N g]
      omega
    rw [e] at this
    exact this
  · intro d h1 h2
    refine h.dv d ?_ h1
    have := Int.dvd_add h2 (Int.dvd_mul_of_dvd_right (b := q) h1)
    have e : a - q * r + q * r = a := by omega
    rwa [e] at this
  · have e1 : g * (a - q * r) = g * a - q * (g * r) := by rw [Int.mul_sub, Int.mul_left_comm g q r]
    have e2 : (f - q * g) * r = f * r - q * (g * r) := by rw [Int.sub_mul, Int.mul_assoc]
    rcases h.sg with ⟨h1, h2, h3⟩ | ⟨h1, h2, h3⟩
    · right
      have : 0 ≤ q * -g := Int.mul_nonneg hq.1 (by omega)
      rw [Int.mul_neg] at this
      refine ⟨h2, by omega, ?_⟩
      rw [e1, e2]
      omega
    · left
      have : 0 ≤ q * g := Int.mul_nonneg hq.1 h2
      refine ⟨h2, by omega, ?_⟩
      rw [e1, e2]
      omega
end

/-! ### the loop -/
section
variable {w : Wl}
def GS (N M : Int) (m : Nat) (s : Sl) : Prop := ∃ a r f g : Int, ∃ t, s = [some (.int N), some (.int M), some (.int a), some (.int r), some (.int f), some (.int g), t] ∧ Gc N M a r f g ∧ r ≤ N + M ∧ ((r ≤ a ∧ a * r < 2 ^ m) ∨ (a < r ∧ 1 ≤ m ∧ a * r < 2 ^ (m - 1)))
def GE (N M : Int) (s : Sl) : Prop := ∃ g f h : Int, ∃ t, s = [some (.int N), some (.int M), some (.int g), some (.int 0), some (.int f), some (.int h), t] ∧ Gc N M g 0 f h
def GD (N M : Int) (d : D) : Prop := ∃ g f h : Int, d = .tup [.int g, .int f] ∧ Gc N M g 0 f h
theorem pow_up {i j : Nat} (h : i ≤ j) : (2 : Int) ^ i ≤ 2 ^ j := by
  have := Nat.pow_le_pow_right (n := 2) (by decide) h
  exact_mod_cast this
theorem e_gcd {N M : Int} (hN : 0 < N) (hM : 0 < M) (bN : Bt 4000 N) (bM : Bt 4000 M) : ∃ g f : Int, F_divisor_and_factor [.int N, .int M] w = .ok (.tup [.int g, .int f]) w ∧ 0 < g ∧ g ∣ N ∧ g ∣ M ∧ M ∣ N * f - g ∧ -M ≤ f ∧ f ≤ M := by
  have hl2 : (2 : Nat) ≤ lim := by decide
  have bNM : ∀ x : Int, 0 ≤ x → x ≤ N + M → Bt 4001 x := fun x h0 h1 => by
    have := bt_iff.mp (bt_add bN bM)
    exact bt_iff.mpr ⟨by omega, by omega⟩
  have bMM : ∀ x : Int, -M ≤ x → x ≤ M → Bt 4000 x := fun x h0 h1 => by
    have := bt_iff.mp bM
    exact bt_iff.mpr ⟨by omega, by omega⟩
  have key : okE (F_divisor_and_factor [.int N, .int M] w) fun d w' => w' = w ∧ GD N M d := by
    unfold F_divisor_and_factor
    rw [okE_run]
    refine ⟨rfl, ?_⟩
    show okS (B_divisor_and_factor [some (.int N), some (.int M), none, none, none, none, none] w) _ _
    unfold B_divisor_and_factor
    refine okS_then (fun s1 w1 => w1 = w ∧ s1 = [some (.int N), some (.int M), some (.int N), some (.int M), none, none, none]) ?_ ?_
    · simp -implicitDefEqProofs
    rintro _ w1 ⟨rfl, rfl⟩
    refine okS_then (fun s1 w2 => w2 = w1 ∧ s1 = [some (.int N), some (.int M), some (.int N), some (.int M), some (.int 1), some (.int 0), none]) ?_ ?_
    · simp -implicitDefEqProofs
    rintro _ w1 ⟨rfl, rfl⟩
    refine okS_then (fun s1 w2 => w2 = w1 ∧ GE N M s1) ?_ ?_
    · refine okS_while (fun m s w' => w' = w1 ∧ GS N M m s) 100000000 8001 (by decide) ?_ ?_
      · refine ⟨rfl, N, M, 1, 0, none, rfl, Gc.first hN hM, by omega, ?_⟩
        have hp := (bt_iff.mp (bt_mul bN bM)).2
        by_cases hc : M ≤ N
        · left
          refine ⟨hc, Int.lt_of_lt_of_le hp (pow_up (by omega))⟩
        · right
          exact ⟨by omega, by omega, hp⟩
      · rintro m s w' ⟨rfl, a, r, f, g, t, rfl, G, hrb, hm⟩
        have ha := G.a0
        have hr0 := G.r0
        simp -implicitDefEqProofs
        by_cases hr : r = 0
        · rw [if_pos hr]
          subst hr
          exact ⟨a, f, g, t, rfl, G⟩
        · rw [if_neg hr]
          have hrp : 0 < r := by omega
          have hq := fdiv_range (a := a) (n := r) hrp (by omega)
          have hmd := Int.fmod_def a r
          have hmr := fmod_range (a := a) (n := r) hrp
          rw [Int.mul_comm] at hmd
          rw [hmd] at hmr
          have G2 := G.next hr hN hM hrb
          have ar1 : 1 ≤ a * r := Int.mul_pos ha hrp
          have d1 : divOk r := div_bt hr (bNM r hr0 hrb) (by omega)
          have hgb := G.gb
          have hab := G.ab
          have m1 : mulOk (a.fdiv r) r := mul_bt (bNM _ hq.1 (by omega)) (bNM _ hr0 hrb) (by omega)
          have m2 : mulOk (a.fdiv r) g := mul_bt (bNM _ hq.1 (by omega)) (bMM _ hgb.1 hgb.2) (by omega)
          have q1 : r ≤ a → 1 ≤ a.fdiv r := fun h => by
            rw [Int.fdiv_eq_ediv_of_nonneg _ (by omega)]
            exact (Int.le_ediv_iff_mul_le hrp).mpr (by omega)
          have q0 : a < r → a.fdiv r = 0 := fun h => by
            rw [Int.fdiv_eq_ediv_of_nonneg _ (by omega)]
            exact Int.ediv_eq_zero_of_lt (by omega) h
          generalize a.fdiv r = q at *
          simp -implicitDefEqProofs [d1, m1, m2]
          have m0 : m ≠ 0 := by
            rintro rfl
            rcases hm with ⟨_, h⟩ | ⟨_, h, _⟩
            · simp at h
              omega
            · omega
          obtain ⟨j, rfl⟩ : ∃ j, m = j + 1 := ⟨m - 1, by omega⟩
          refine ⟨j, rfl, r, a - q * r, g, f - q * g, _, rfl, G2, by omega, .inl ⟨by omega, ?_⟩⟩
          rcases hm with ⟨h1, h2⟩ | ⟨h1, _, h2⟩
          · have hq1 := q1 h1
            have hqr : r ≤ q * r := by
              have := Int.mul_le_mul_of_nonneg_right hq1 (show 0 ≤ r by omega)
              omega
            have e2 : 2 * (a - q * r) ≤ a := by omega
            have e3 := Int.mul_le_mul_of_nonneg_left e2 (show 0 ≤ r by omega)
            rw [Int.pow_succ, Int.mul_comm a r] at h2
            rw [Int.mul_left_comm r 2] at e3
            omega
          · have := q0 h1
            rw [this]
            have e : r * (a - 0 * r) = a * r := by rw [Int.zero_mul, Int.sub_zero, Int.mul_comm]
            rw [e]
            exact h2
    rintro s1 w2 ⟨rfl, g, f, h, t, rfl, G⟩
    simp -implicitDefEqProofs [hl2]
    exact ⟨g, f, h, rfl, G⟩
  obtain ⟨d, w', e, rfl, g, f, h, rfl, G⟩ := okE_ex key
  have fin : ∀ g f h : Int, Gc N M g 0 f h → 0 < g ∧ g ∣ N ∧ g ∣ M ∧ M ∣ N * f - g ∧ -M ≤ f ∧ f ≤ M := fun g f h G =>
    ⟨G.a0, (G.dv g (Int.dvd_refl g) (Int.dvd_zero g)).1, (G.dv g (Int.dvd_refl g) (Int.dvd_zero g)).2, G.ca, G.fb.1, G.fb.2⟩
  exact ⟨g, f, e, fin _ _ _ G⟩
end

/-! ### what two triplets share -/
theorem crt_no {lo s l2 s2 g x : Int} (gs : g ∣ s) (gs2 : g ∣ s2) (h : ¬ g ∣ l2 - lo) : ¬ (s ∣ x - lo ∧ s2 ∣ x - l2) := by
  rintro ⟨h1, h2⟩
  apply h
  have := Int.dvd_sub (Int.dvd_trans gs h1) (Int.dvd_trans gs2 h2)
  have e : x - lo - (x - l2) = l2 - lo := by omega
  rwa [e] at this
theorem crt_yes {lo s l2 s2 g f x : Int} (g0 : 0 < g) (gs : g ∣ s) (gs2 : g ∣ s2) (hf : s2 ∣ s * f - g) (h : g ∣ l2 - lo) :
    (s ∣ x - lo ∧ s2 ∣ x - l2) ↔ s * (s2 / g) ∣ x - (lo + s * ((l2 - lo) / g * f)) := by
  obtain ⟨a, rfl⟩ := gs
  obtain ⟨b, rfl⟩ := gs2
  obtain ⟨d, hd⟩ := h
  have g1 : g ≠ 0 := by omega
  rw [hd, Int.mul_ediv_cancel_left _ g1, Int.mul_ediv_cancel_left _ g1]
  have hb : b ∣ a * f - 1 := by
    have e : g * a * f - g = g * (a * f - 1) := by rw [Int.mul_sub, Int.mul_one, Int.mul_assoc]
    rw [e] at hf
    exact Int.dvd_of_mul_dvd_mul_left g1 hf
  have x0 : g * b ∣ lo + g * a * (d * f) - l2 := by
    have e : lo + g * a * (d * f) - l2 = (g * a * f - g) * d := by
      rw [Int.sub_mul, ← hd, Int.mul_assoc (g * a) f d, Int.mul_comm f d]
      omega
    rw [e]
    exact Int.dvd_mul_of_dvd_left hf
  constructor
  · rintro ⟨h1, h2⟩
    have y1 : g * a ∣ x - (lo + g * a * (d * f)) := by
      have := Int.dvd_sub h1 (Int.dvd_mul_right (g * a) (d * f))
      have e : x - lo - g * a * (d * f) = x - (lo + g * a * (d * f)) := by omega
      rwa [e] at this
    have y2 : g * b ∣ x - (lo + g * a * (d * f)) := by
      have := Int.dvd_sub h2 x0
      have e : x - l2 - (lo + g * a * (d * f) - l2) = x - (lo + g * a * (d * f)) := by omega
      rwa [e] at this
    obtain ⟨m, hm⟩ := y1
    rw [hm] at y2 ⊢
    have h3 : b ∣ a * m := by
      rw [Int.mul_assoc] at y2
      exact Int.dvd_of_mul_dvd_mul_left g1 y2
    have h4 : b ∣ m := by
      have := Int.dvd_sub (Int.dvd_mul_of_dvd_right (b := f) h3) (Int.dvd_mul_of_dvd_left (c := m) hb)
      have e : f * (a * m) - (a * f - 1) * m = m := by
        rw [Int.sub_mul, Int.one_mul, Int.mul_comm f, Int.mul_assoc a m f, Int.mul_assoc a f m, Int.mul_comm m f]
        omega
      rwa [e] at this
    exact Int.mul_dvd_mul (Int.dvd_refl _) h4
  · intro h1
    have y1 := Int.dvd_trans (Int.dvd_mul_right (g * a) b) h1
    have y2 : g * b ∣ x - (lo + g * a * (d * f)) := by
      refine Int.dvd_trans ⟨a, ?_⟩ h1
      rw [Int.mul_assoc, Int.mul_assoc, Int.mul_comm a b]
    refine ⟨?_, ?_⟩
    · have := Int.dvd_add y1 (Int.dvd_mul_right (g * a) (d * f))
      have e : x - (lo + g * a * (d * f)) + g * a * (d * f) = x - lo := by omega
      rwa [e] at this
    · have := Int.dvd_add y2 x0
      have e : x - (lo + g * a * (d * f)) + (lo + g * a * (d * f) - l2) = x - l2 := by omega
      rwa [e] at this
section
variable {w : Wl} {t u : Tr}
structure WD (t : Tr) : Prop where
  s : t.2.2 ≠ 0
  ba : Bt 1000 t.1
  bs : Bt 1000 t.2.2
  bc : Bt 1000 (cnt t)
theorem WD.wd (h : WD t) : Wd t := ⟨h.s, h.bs.mono (by omega), h.bc.mono (by omega)⟩
theorem Tri.WD (h : Tri t) : WD t := ⟨h.s, (bt100 h.a).mono (by omega), (bt100 h.c).mono (by omega), by
  have := cnt_bt h
  have := cnt_nonneg (t := t)
  exact (bt_of (i := 110) (by omega) (by have := p110; omega)).mono (by omega)⟩
theorem WD.ends (h : WD t) : Bt 2002 (up t).1 ∧ Bt 2002 (up t).2.1 ∧ 0 < (up t).2.2 ∧ Bt 1000 (up t).2.2 := by
  have hl : Bt 2002 (at1 t (cnt t - 1)) := by
    unfold at1
    exact bt_add (i := 2001) (h.ba.mono (by omega)) ((bt_mul (bt_sub h.bc (bt1 (by omega))) h.bs).mono (by omega))
  have hs := h.s
  unfold up
  split
  · rename_i hp
    exact ⟨h.ba.mono (by omega), hl, hp, h.bs⟩
  · exact ⟨hl, h.ba.mono (by omega), by show 0 < -t.2.2; omega, bt_neg h.bs⟩
theorem in_empty {x : Int} : ¬ In (0, -1, 1) x := by
  rw [in_asc (by decide)]
  omega
theorem nrm_empty : nrm (0, -1, 1) = (0, -1, 1) := rfl
theorem fmod_dvd {a g : Int} (hg : 0 < g) : a.fmod g = 0 ↔ g ∣ a := by
  rw [Int.fmod_eq_emod_of_nonneg _ (by omega)]
  exact ⟨Int.dvd_of_emod_eq_zero, Int.emod_eq_zero_of_dvd⟩
theorem e_met_w (h : WD t) (h2 : WD u) (w : Wl) : ∃ v : Tr, v.2.2 ≠ 0 ∧ (∀ x, In v x ↔ In t x ∧ In u x) ∧ F_met_of [tD t, tD u] w = .ok (tD (nrm v)) w := by
  have hl3 : (3 : Nat) ≤ lim := by decide
  obtain ⟨b1, b2, s0, b3⟩ := h.ends
  obtain ⟨c1, c2, r0, c3⟩ := h2.ends
  have it := fun x => in_up (t := t) (x := x) h.s
  have iu := fun x => in_up (t := u) (x := x) h2.s
  have eu1 := e_upward (w := w) h.wd
  have eu2 := e_upward (w := w) h2.wd
  obtain ⟨g, f, eg, g0, gs, gs2, hf, f1, f2⟩ := e_gcd (w := w) s0 r0 (b3.mono (by omega)) (c3.mono (by omega))
  generalize up t = T at *
  generalize up u = U at *
  obtain ⟨lo, hi, s⟩ := T
  obtain ⟨l2, h2', r⟩ := U
  simp only at b1 b2 s0 b3 c1 c2 r0 c3 it iu eg gs gs2 hf f1 f2
  have hT : tD (lo, hi, s) = .tup [.int lo, .int hi, .int s] := rfl
  have hU : tD (l2, h2', r) = .tup [.int l2, .int h2', .int r] := rfl
  rw [hT] at eu1
  rw [hU] at eu2
  have bg : Bt 1000 g := by
    have := Int.le_of_dvd s0 gs
    have := bt_iff.mp b3
    exact bt_iff.mpr ⟨by omega, by omega⟩
  have bf : Bt 1000 f := by
    have := bt_iff.mp c3
    exact bt_iff.mpr ⟨by omega, by omega⟩
  have dg : divOk g := div_bt (by omega) bg (by omega)
  by_cases hd : g ∣ l2 - lo
  · have hd0 : (l2 - lo).fmod g = 0 := (fmod_dvd g0).mpr hd
    have crt := fun x => crt_yes (lo := lo) (s := s) (l2 := l2) (s2 := r) (x := x) g0 gs gs2 hf hd
    rw [← Int.fdiv_eq_ediv_of_nonneg _ (by omega), ← Int.fdiv_eq_ediv_of_nonneg _ (by omega)] at crt
    have hq2 : 0 < r.fdiv g ∧ r.fdiv g ≤ r := by
      refine ⟨?_, (fdiv_range g0 (by omega)).2⟩
      rw [Int.fdiv_eq_ediv_of_nonneg _ (by omega)]
      exact Int.ediv_pos_of_pos_of_dvd r0 (by omega) gs2
    have bq1 : Bt 2003 ((l2 - lo).fdiv g) := by
      obtain ⟨d, hd⟩ := hd
      rw [hd, Int.mul_comm, Int.mul_fdiv_cancel _ (by omega)]
      have hb := bt_sub c1 b1
      rw [hd] at hb
      unfold Bt at *
      rw [Int.natAbs_mul] at hb
      have : 1 ≤ g.natAbs := by omega
      have := Nat.mul_le_mul_right d.natAbs this
      omega
    generalize hq1 : (l2 - lo).fdiv g = q1 at *
    generalize hq2' : r.fdiv g = q2 at *
    have bq2 : Bt 1000 q2 := by
      have := bt_iff.mp c3
      exact bt_iff.mpr ⟨by omega, by omega⟩
    have m1 : mulOk q1 f := mul_bt bq1 bf (by omega)
    have m2 : mulOk s q2 := mul_bt b3 bq2 (by omega)
    have bT := bt_mul bq1 bf
    have m3 : mulOk s (q1 * f) := mul_bt b3 bT (by omega)
    have bP := bt_mul b3 bq2
    have hP : 0 < s * q2 := Int.mul_pos s0 hq2.1
    generalize hT0 : q1 * f = T0 at *
    generalize hPP : s * q2 = P at *
    have hst : (if l2 > lo then l2 else lo) = max lo l2 := by split <;> omega
    have hmn : (if h2' < hi then h2' else hi) = min hi h2' := by split <;> omega
    have hm := fmod_range (a := lo + s * T0 - max lo l2) hP
    have hmd := Int.fmod_def (lo + s * T0 - max lo l2) P
    generalize hx0 : lo + s * T0 = x0 at *
    have hls : P ∣ (x0 - max lo l2).fmod P - (x0 - max lo l2) := ⟨-(x0 - max lo l2).fdiv P, by rw [hmd, Int.mul_neg]; omega⟩
    generalize hy : (x0 - max lo l2).fmod P = y at *
    have bmax : Bt 2002 (max lo l2) := by
      rw [Int.max_def]
      split
      · exact c1
      · exact b1
    have bmin : Bt 2002 (min hi h2') := by
      rw [Int.min_def]
      split
      · exact b2
      · exact c2
    generalize hM : max lo l2 = M at *
    generalize hN : min hi h2' = N at *
    have hv : Wd (M + y, N, P) := by
      refine ⟨by show P ≠ 0; omega, bP.mono (by omega), ?_⟩
      have hn := cnt_nonneg (t := (M + y, N, P))
      have h3 := bt_iff.mp bmax
      have h4 := bt_iff.mp bmin
      have e2 : (2 : Int) ^ 2003 = 2 ^ 2002 * 2 := Int.pow_succ 2 2002
      generalize (2 : Int) ^ 2002 = Z at h3 h4 e2
      have hle := cnt_le (t := (M + y, N, P)) (n := 2 ^ 2003) (by show P ≠ 0; omega) (by omega) (fun _ => by show N - (M + y) < _; omega) (fun hp => by have hp : P < 0 := hp; omega)
      have e3 := pow_up (show 2004 ≤ 4000 by omega)
      have e4 : (2 : Int) ^ 2004 = 2 ^ 2003 * 2 := Int.pow_succ 2 2003
      exact bt_iff.mpr ⟨by omega, by omega⟩
    refine ⟨(M + y, N, P), hv.s, fun x => ?_, okE_eq ?_⟩
    · rw [in_asc hP, it, iu]
      have hcx := crt x
      constructor
      · rintro ⟨k1, k2, k3⟩
        have hk : P ∣ x - x0 := by
          have := Int.dvd_add k3 hls
          have e : x - (M + y) + (y - (x0 - M)) = x - x0 := by omega
          rwa [e] at this
        have := hcx.mpr hk
        exact ⟨⟨by omega, by omega, this.1⟩, by omega, by omega, this.2⟩
      · rintro ⟨⟨k1, k2, k3⟩, k4, k5, k6⟩
        have hk := hcx.mp ⟨k3, k6⟩
        have hk2 : P ∣ x - (M + y) := by
          have := Int.dvd_sub hk hls
          have e : x - x0 - (y - (x0 - M)) = x - (M + y) := by omega
          rwa [e] at this
        refine ⟨?_, by omega, hk2⟩
        apply Int.not_lt.mp
        intro hlt
        have := Int.le_of_dvd (show 0 < M + y - x by omega) (by
          have := Int.dvd_neg.mpr hk2
          have e : -(x - (M + y)) = M + y - x := by omega
          rwa [e] at this)
        omega
    · have en := e_normal_of (w := w) hv
      have g1 : g ≠ 0 := by omega
      have P1 : P ≠ 0 := by omega
      simp -implicitDefEqProofs [F_met_of, B_met_of, okE_run, List.replicate, eu1, eu2, eg, hd0, hl3, dg, m1, m2, m3, g1, P1, hPP, hst, hmn, hx0, hM, hN, hq1, hq2', hT0, hy]
      rw [tD_e, en]
      exact ⟨rfl, rfl⟩
  · have hd2 : (l2 - lo).fmod g ≠ 0 := fun e => hd ((fmod_dvd g0).mp e)
    refine ⟨(0, -1, 1), by decide, fun x => ⟨fun hx => (in_empty hx).elim, fun hx => ?_⟩, okE_eq ?_⟩
    · rw [it, iu] at hx
      exact (crt_no gs gs2 hd ⟨hx.1.2.2, hx.2.2.2⟩).elim
    · rw [nrm_empty]
      simp -implicitDefEqProofs [F_met_of, B_met_of, okE_run, List.replicate, eu1, eu2, eg, hd2, hl3]
      exact ⟨by omega, rfl⟩
theorem e_met_of (h : WD t) (h2 : WD u) : ∃ v : Tr, v.2.2 ≠ 0 ∧ (∀ x, In v x ↔ In t x ∧ In u x) ∧ ∀ w, F_met_of [tD t, tD u] w = .ok (tD (nrm v)) w := by
  obtain ⟨v, hv, hi, _⟩ := e_met_w h h2 (0, 0, 0)
  refine ⟨v, hv, hi, fun w => ?_⟩
  obtain ⟨v2, hv2, hi2, e⟩ := e_met_w h h2 w
  rw [e, nrm_ext hv2 hv fun x => (hi2 x).trans (hi x).symm]
end

end TT
end DL

set_option maxHeartbeats 2000000
namespace DL
open PySem PySem.Spec PyProof.Rows L2
/-! ### what two stretches share -/
theorem bdv {a s : Int} {i : Nat} (ha : Bt i a) (hs : 0 < s) : Bt (i + 2) (a.fdiv s + 1) := by
  refine (bt_add (i := i + 1) (bt_of ?_ ?_) ((show Bt 1 1 by unfold Bt; decide).mono (by omega)))
  · have h1 := (bt_iff.mp ha).1
    rw [Int.fdiv_eq_ediv_of_nonneg _ (by omega)]
    have h2 : -(2 ^ i : Int) ≤ a / s := (Int.le_ediv_iff_mul_le hs).mpr (by
      have h3 : (0 : Int) < 2 ^ i := Int.pow_pos (by decide)
      have : -(2 ^ i : Int) * s ≤ -(2 ^ i : Int) * 1 := Int.mul_le_mul_of_nonpos_left (by omega) (by omega)
      omega)
    have h4 : (2 : Int) ^ (i + 1) = 2 ^ i * 2 := Int.pow_succ 2 i
    have h3 : (0 : Int) < 2 ^ i := Int.pow_pos (by decide)
    omega
  · have h1 := (bt_iff.mp ha).2
    rw [Int.fdiv_eq_ediv_of_nonneg _ (by omega)]
    have h3 : (0 : Int) < 2 ^ i := Int.pow_pos (by decide)
    have h2 : a / s < 2 ^ i := Int.ediv_lt_of_lt_mul hs (by
      have : (2 : Int) ^ i * 1 ≤ 2 ^ i * s := Int.mul_le_mul_of_nonneg_left (by omega) (by omega)
      omega)
    have h4 : (2 : Int) ^ (i + 1) = 2 ^ i * 2 := Int.pow_succ 2 i
    omega
def mx2 (a b : Int) : Int := if a < b then b else a
def mn2 (a b : Int) : Int := if b < a then b else a
def sD (g : Str) (b s n : Int) : D := .tup [.str g, .int b, .int s, .int n]
/-- a stretch of any size -/
structure Sp (b s n : Int) : Prop where
  hs : 1 ≤ s ∧ s ≤ 16
  hn : 1 ≤ n
  bb : Bt 900 b
  bn : Bt 900 n
theorem Sp.bs {b s n : Int} (h : Sp b s n) : Bt 900 s := (bt50 (by have := h.hs; omega) (by have := h.hs; omega)).mono (by omega)
theorem Sp.mul {b s n : Int} (h : Sp b s n) : mulOk s n := mul_bt h.bs h.bn (by omega)
theorem Sp.pos {b s n : Int} (h : Sp b s n) : 0 < s * n := Int.mul_pos (by have := h.hs; omega) (by have := h.hn; omega)
theorem Sp.bm {b s n : Int} (h : Sp b s n) : Bt 950 (s * n) := (bt_mul (bt50 (by have := h.hs; omega) (by have := h.hs; omega)) h.bn).mono (by omega)
section
variable {w : Wl} {g : Str} {b s n b' s' n' : Int}
theorem e_end_of (h : Sp b s n) : F_end_of [sD g b s n] w = .ok (.int (b + s * n)) w := by
  apply okE_eq
  have hm := h.mul
  unfold sD
  simp -implicitDefEqProofs [F_end_of, B_end_of, okE_run, List.replicate, hm]
def shD (b e b' e' : Int) : D := if mx2 b b' < mn2 e e' then .tup [.int (mx2 b b'), .int (mn2 e e')] else .non
theorem e_shared_units (hg : (PyData.str g).canLay0 = true) (h : Sp b s n) (h' : Sp b' s' n') : F_shared_units [sD g b s n, sD g b' s' n'] w = .ok (shD b (b + s * n) b' (b' + s' * n')) w := by
  apply okE_eq
  have hl2 : (2 : Nat) ≤ lim := by decide
  have d1 : okD (.str g) = true := okD_strW _ hg
  have es : ∀ a b : Str, eqD (.str a) (.str b) = decide (a = b) := fun a b => eq_strW
  have g1 : ∀ s' : Sl, getS (some (sD g b s n) :: s') 0 = some (sD g b s n) := fun s => rfl
  have g2 : ∀ s0 : Sl, getS (some (sD g b' s' n') :: s0) 0 = some (sD g b' s' n') := fun s => rfl
  have x0 : ∀ (b s n : Int) w, fIx w (sD g b s n) (.int 0) = some (.str g) := fun b s n w => rfl
  have x1 : ∀ (b s n : Int) w, fIx w (sD g b s n) (.int 1) = some (.int b) := fun b s n w => rfl
  have e1 := e_end_of (w := w) (g := g) h
  have e2 := e_end_of (w := w) (g := g) h'
  simp -implicitDefEqProofs [F_shared_units, B_shared_units, okE_run, List.replicate, g1, g2, x0, x1, e1, e2, d1, es, hl2]
  unfold shD mx2 mn2
  generalize (if b < b' then b' else b) = S0
  generalize (if b' + s' * n' < b + s * n then b' + s' * n' else b + s * n) = E0
  by_cases hh : S0 < E0 <;> simp [hh]
/-- the begins of elements within, but not the first unit -/
def bgT (b s st en : Int) : TT.Tr := (b + ((st - b).fdiv s + 1) * s, en - 1, s)
theorem e_begins {st en : Int} (h : Sp b s n) (bs : Bt 1900 (st - b)) : F_begins_within [sD g b s n, .tup [.int st, .int en]] w = .ok (TT.tD (bgT b s st en)) w := by
  apply okE_eq
  have hl3 : (3 : Nat) ≤ lim := by decide
  have hs := h.hs
  have hd : divOk s := div_bt (by omega) h.bs (by omega)
  have hb2 := bdv (s := s) bs (by omega)
  have hm : mulOk ((st - b).fdiv s + 1) s := mul_bt hb2 h.bs (by omega)
  have hne : s ≠ 0 := by omega
  unfold sD bgT TT.tD
  simp -implicitDefEqProofs [F_begins_within, B_begins_within, okE_run, List.replicate, hd, hm, hne, hl3]
theorem e_touched_by {i : Int} (hg : (PyData.str g).canLay0 = true) (h : Sp b s n) (h' : Sp b' s' n') (hi : Bt 900 i) (hp : Sp (b + i * s) s 1) : F_touched_by [sD g b s n, .int i, sD g b' s' n'] w = .ok (if mx2 (b + i * s) b' < mn2 (b + i * s + s * 1) (b' + s' * n') then
    .tup [.int ((mx2 (b + i * s) b' - b').fdiv s'), .int ((mn2 (b + i * s + s * 1) (b' + s' * n') - 1 - b').fdiv s')] else .non) w := by
  apply okE_eq
  have hl2 : (2 : Nat) ≤ lim := by decide
  have hl4 : (4 : Nat) ≤ lim := by decide
  have hs := h.hs
  have hs' := h'.hs
  have hd : divOk s' := div_bt (by omega) h'.bs (by omega)
  have hne : s' ≠ 0 := by omega
  have hm : mulOk i s := mul_bt hi h.bs (by omega)
  have e1 := e_shared_units (w := w) hg hp h'
  have g2 : ∀ s0 : Sl, getS (some (sD g b' s' n') :: s0) 0 = some (sD g b' s' n') := fun s => rfl
  unfold shD at e1
  generalize mx2 (b + i * s) b' = S0 at *
  generalize mn2 (b + i * s + s * 1) (b' + s' * n') = E0 at *
  show okE (runB 10 3 B_touched_by [sD g b s n, .int i, sD g b' s' n'] w) _
  have hN : ∀ a b : Int, fIsN w (.tup [.int a, .int b]) .non = some (.bl false) := fun a b => rfl
  unfold sD at e1 g2 ⊢
  by_cases hh : S0 < E0
  · simp only [hh, if_true] at e1 ⊢
    simp -implicitDefEqProofs [B_touched_by, okE_run, List.replicate, hm, e1, hl4, hl2, hd, hne, g2, hN]
  · simp only [hh, if_false] at e1 ⊢
    simp -implicitDefEqProofs [B_touched_by, okE_run, List.replicate, hm, e1, hl4, g2]
end
end DL

set_option maxHeartbeats 2000000
namespace DL
open PySem PySem.Spec PyProof.Rows L2
/-! ### counting -/
def Cn (P : Int → Bool) (f : Int) (m : Nat) : Nat := ((List.range m).filter fun (i : Nat) => P (f + 1 + (i : Int))).length
theorem Cn_add {P : Int → Bool} {f : Int} {m k : Nat} : Cn P f (m + k) = Cn P f m + Cn P (f + m) k := by
  unfold Cn
  rw [List.range_add, List.filter_append, List.length_append, List.filter_map, List.length_map]
  congr 2
  apply List.filter_congr
  intro i _
  show P (f + 1 + ((m + i : Nat) : Int)) = P (f + (m : Int) + 1 + (i : Int))
  congr 1
  omega
theorem Cn_per {P : Int → Bool} {f : Int} {k L : Nat} (h : ∀ u, P (u + L) = P u) : Cn P (f + L) k = Cn P f k := by
  unfold Cn
  congr 1
  apply List.filter_congr
  intro i _
  rw [show f + (L : Int) + 1 + (i : Int) = (f + 1 + (i : Int)) + L by omega, h]
theorem Cn_rounds {P : Int → Bool} {f : Int} {L r : Nat} (h : ∀ u, P (u + L) = P u) : ∀ q : Nat, Cn P f (q * L + r) = q * Cn P f L + Cn P f r
  | 0 => by simp
  | q + 1 => by
    have ih := Cn_rounds (P := P) (f := f) (r := r) h q
    rw [show (q + 1) * L + r = L + (q * L + r) by rw [Nat.succ_mul]; omega, Cn_add, Cn_per h, ih, Nat.succ_mul]
    omega
theorem cnt_Cn {t : TT.Tr} {P : Int → Bool} {lo hi : Int} (ht : t.2.2 ≠ 0) (hle : lo < hi) (h : ∀ x, TT.In t x ↔ lo < x ∧ x < hi ∧ P x = true) : TT.cnt t = (Cn P lo (hi - lo - 1).toNat : Int) := by
  have h1 := TT.nodup_mem ht
  have h2 : (((List.range (hi - lo - 1).toNat).filter fun (i : Nat) => P (lo + 1 + (i : Int))).map fun (i : Nat) => lo + 1 + (i : Int)).Nodup := by
    unfold List.Nodup
    rw [List.pairwise_map]
    exact (List.nodup_range.filter _).imp fun {a b} hab e => hab (by omega)
  have hp := (List.perm_ext_iff_of_nodup h1 h2).mpr fun x => by
    rw [TT.in_mem, h x, List.mem_map]
    constructor
    · rintro ⟨a, b, c⟩
      refine ⟨(x - lo - 1).toNat, List.mem_filter.mpr ⟨List.mem_range.mpr (by omega), ?_⟩, by omega⟩
      rw [show lo + 1 + (((x - lo - 1).toNat : Nat) : Int) = x by omega]
      exact c
    · rintro ⟨i, hi', rfl⟩
      obtain ⟨a, b⟩ := List.mem_filter.mp hi'
      have := List.mem_range.mp a
      exact ⟨by omega, by omega, b⟩
  have hl := hp.length_eq
  rw [TT.mem_len, List.length_map] at hl
  have := TT.cnt_nonneg (t := t)
  show TT.cnt t = (((List.range (hi - lo - 1).toNat).filter fun (i : Nat) => P (lo + 1 + (i : Int))).length : Int)
  omega
/-- a begin of an element -/
def Pm (b s : Int) (x : Int) : Bool := decide ((x - b).fmod s = 0)
theorem Pm_iff {b s x : Int} (hs : 0 < s) : Pm b s x = true ↔ s ∣ x - b := by
  unfold Pm
  rw [decide_eq_true_eq, TT.fmod_dvd hs]
theorem Pm_per {b s : Int} {L : Nat} (hs : 0 < s) (hL : s ∣ (L : Int)) (u : Int) : Pm b s (u + L) = Pm b s u := by
  rw [Bool.eq_iff_iff, Pm_iff hs, Pm_iff hs, show u + (L : Int) - b = (u - b) + L by omega]
  exact ⟨fun h => (Int.dvd_add_left hL).mp h, fun h => Int.dvd_add h hL⟩
theorem in_bg {b s st en x : Int} (hs : 0 < s) (hb : b ≤ st) : TT.In (bgT b s st en) x ↔ st < x ∧ x < en ∧ Pm b s x = true := by
  unfold bgT
  rw [TT.in_asc hs, Pm_iff hs]
  have hk := Int.fmod_add_mul_fdiv (st - b) s
  have hr := fmod_range (a := st - b) hs
  generalize (st - b).fdiv s = k at *
  generalize (st - b).fmod s = r at *
  have e : x - (b + (k + 1) * s) = (x - b) - s * (k + 1) := by rw [Int.mul_comm (k + 1) s]; omega
  have hd : s ∣ x - (b + (k + 1) * s) ↔ s ∣ x - b := by
    rw [e]
    exact ⟨fun h => by have := Int.dvd_add h (Int.dvd_mul_right s (k + 1)); rwa [Int.sub_add_cancel] at this, fun h => Int.dvd_sub h (Int.dvd_mul_right s (k + 1))⟩
  rw [hd]
  have e2 : (k + 1) * s = s * k + s := by rw [Int.add_mul, Int.one_mul, Int.mul_comm]
  constructor
  · rintro ⟨h1, h2, h3⟩
    exact ⟨by omega, by omega, h3⟩
  · rintro ⟨h1, h2, h3⟩
    refine ⟨?_, by omega, h3⟩
    obtain ⟨m, hm⟩ := h3
    rw [e2]
    rcases Int.lt_or_le k m with hh | hh
    · have := Int.mul_le_mul_of_nonneg_left (show k + 1 ≤ m by omega) (show 0 ≤ s by omega)
      rw [Int.mul_add, Int.mul_one] at this
      omega
    · have := Int.mul_le_mul_of_nonneg_left hh (show 0 ≤ s by omega)
      omega
end DL

set_option maxHeartbeats 2000000
namespace DL
open PySem PySem.Spec PyProof.Rows L2
/-! ### shared, touched, pairs, twins -/
section
variable {w : Wl} {g : Str} {b s n b' s' n' : Int} {A X : D} {N1 N2 : Str}
def stU (b b' : Int) : Int := mx2 b b'
def enU (b s n b' s' n' : Int) : Int := mn2 (b + s * n) (b' + s' * n')
structure Ts (g : Str) (b s n b' s' n' : Int) (A X : D) (N1 N2 : Str) : Prop where
  lay : (PyData.str g).canLay0 = true
  p1 : Sp b s n
  p2 : Sp b' s' n'
  two : ∀ w, F_two_stretches [A, X, .str N1, .str N2] w = .ok (.tup [sD g b s n, sD g b' s' n']) w
  gA : ∀ s : Sl, getS (some A :: s) 0 = some A
  gX : ∀ s : Sl, getS (some X :: s) 0 = some X
theorem Cn_le {P : Int → Bool} {f : Int} {m : Nat} : Cn P f m ≤ m := by
  unfold Cn
  have := List.length_filter_le (fun (i : Nat) => P (f + 1 + (i : Int))) (List.range m)
  rw [List.length_range] at this
  exact this
theorem Ts.bst (h : Ts g b s n b' s' n' A X N1 N2) : Bt 960 (stU b b') ∧ Bt 960 (enU b s n b' s' n') ∧ b ≤ stU b b' ∧ b' ≤ stU b b' := by
  have e1 : Bt 960 (b + s * n) := (bt_add (h.p1.bb.mono (by omega)) h.p1.bm).mono (by omega)
  have e2 : Bt 960 (b' + s' * n') := (bt_add (h.p2.bb.mono (by omega)) h.p2.bm).mono (by omega)
  refine ⟨?_, ?_, ?_, ?_⟩
  · unfold stU mx2
    split
    · exact h.p2.bb.mono (by omega)
    · exact h.p1.bb.mono (by omega)
  · unfold enU mn2
    split
    · exact e2
    · exact e1
  · unfold stU mx2
    split <;> omega
  · unfold stU mx2
    split <;> omega
theorem bg_wd (hp : Sp b s n) {st en : Int} (h1 : Bt 960 st) (h2 : Bt 960 en) (hb : b ≤ st) (hlt : st < en) : TT.WD (bgT b s st en) ∧ TT.cnt (bgT b s st en) = (Cn (Pm b s) st (en - st - 1).toNat : Int) := by
  have hs := hp.hs
  have hne : (bgT b s st en).2.2 ≠ 0 := by show s ≠ 0; omega
  have hc := cnt_Cn (P := Pm b s) hne hlt fun x => in_bg (by omega) hb
  refine ⟨⟨hne, ?_, hp.bs.mono (by omega), ?_⟩, hc⟩
  · show Bt 1000 (b + ((st - b).fdiv s + 1) * s)
    have e1 : Bt 961 (st - b) := bt_sub h1 (hp.bb.mono (by omega))
    have e2 := bdv (s := s) e1 (by omega)
    have e3 : Bt 5 s := btn (by omega) (by have : (2 : Int) ^ 5 = 32 := by decide
                                           omega)
    have e4 := bt_mul e2 e3
    exact (bt_add (i := 968) (hp.bb.mono (by omega)) (e4.mono (by omega))).mono (by omega)
  · rw [hc]
    have hle := Cn_le (P := Pm b s) (f := st) (m := (en - st - 1).toNat)
    have e1 : Bt 961 (en - st) := bt_sub h2 h1
    have e2 := (bt_iff.mp e1).2
    refine (bt_of (i := 961) ?_ ?_).mono (by omega)
    · have : (0 : Int) < 2 ^ 961 := Int.pow_pos (by decide)
      omega
    · omega
theorem met_bt {v : TT.Tr} {lo hi : Int} {i : Nat} (hv : v.2.2 ≠ 0) (hb : Bt i (hi - lo)) (h : ∀ x, TT.In v x → lo < x ∧ x < hi) : Bt (i + 1) (TT.nrm v).2.2 := by
  have h1 : Bt (i + 1) 1 := TT.bt1 (by omega)
  unfold TT.nrm
  split
  · exact h1
  · split
    · exact h1
    · have hc := TT.cnt_nonneg (t := v)
      have a0 := h (TT.at1 v 0) ⟨0, Int.le_refl _, by omega, rfl⟩
      have a1 := h (TT.at1 v 1) ⟨1, by decide, by omega, rfl⟩
      have e0 : TT.at1 v 0 = v.1 := TT.at1_zero
      have e1 : TT.at1 v 1 = v.1 + v.2.2 := by unfold TT.at1; omega
      rw [e0] at a0
      rw [e1] at a1
      have hb2 := bt_iff.mp hb
      have h4 : (2 : Int) ^ (i + 1) = 2 ^ i * 2 := Int.pow_succ 2 i
      have h3 : (0 : Int) < 2 ^ i := Int.pow_pos (by decide)
      unfold TT.up
      split
      · exact bt_of (by show _ < v.2.2; omega) (by show v.2.2 < _; omega)
      · exact bt_of (by show _ < -v.2.2; omega) (by show -v.2.2 < _; omega)
theorem e_pairs (h : Ts g b s n b' s' n' A X N1 N2) (hlt : stU b b' < enU b s n b' s' n') : F_pairs_number [A, X, .str N1, .str N2] w = .ok (.int (1 + (Cn (Pm b s) (stU b b') (enU b s n b' s' n' - stU b b' - 1).toNat : Int) + (Cn (Pm b' s') (stU b b') (enU b s n b' s' n' - stU b b' - 1).toNat : Int) - (Cn (fun x => Pm b s x && Pm b' s' x) (stU b b') (enU b s n b' s' n' - stU b b' - 1).toNat : Int))) w := by
  apply okE_eq
  obtain ⟨h1, h2, h3, h4⟩ := h.bst
  obtain ⟨w1, c1⟩ := bg_wd h.p1 h1 h2 h3 hlt
  obtain ⟨w2, c2⟩ := bg_wd h.p2 h1 h2 h4 hlt
  obtain ⟨v, hv, hin, hm⟩ := TT.e_met_of w1 w2
  have hs := h.p1.hs
  have hs' := h.p2.hs
  have c3 : TT.cnt (TT.nrm v) = _ := (TT.cnt_nrm hv).trans (cnt_Cn (P := fun x => Pm b s x && Pm b' s' x) hv hlt fun x => by
    rw [hin, in_bg (by omega) h3, in_bg (by omega) h4, Bool.and_eq_true]
    constructor
    · rintro ⟨⟨a1, a2, a3⟩, _, _, a4⟩
      exact ⟨a1, a2, a3, a4⟩
    · rintro ⟨a1, a2, a3, a4⟩
      exact ⟨⟨a1, a2, a3⟩, a1, a2, a4⟩)
  have m1 := TT.e_many (w := w) w1.s (w1.bs.mono (by omega))
  have m2 := TT.e_many (w := w) w2.s (w2.bs.mono (by omega))
  have b1 : Bt 8000 (TT.nrm v).2.2 := (met_bt hv (bt_sub h2 h1) fun x hx => by
    have := ((in_bg (by omega) h3).mp ((hin x).mp hx).1)
    exact ⟨this.1, this.2.1⟩).mono (by omega)
  have m3 := TT.e_many (w := w) (Int.ne_of_gt (TT.nrm_s hv)) b1
  have mw := hm w
  rw [c1] at m1
  rw [c2] at m2
  rw [c3] at m3
  have es := e_shared_units (w := w) h.lay h.p1 h.p2
  have esh : shD b (b + s * n) b' (b' + s' * n') = .tup [.int (stU b b'), .int (enU b s n b' s' n')] := by
    exact if_pos hlt
  rw [esh] at es
  have eb1 := e_begins (w := w) (g := g) (st := stU b b') (en := enU b s n b' s' n') h.p1 ((bt_sub h1 (h.p1.bb.mono (by omega))).mono (by omega))
  have eb2 := e_begins (w := w) (g := g) (st := stU b b') (en := enU b s n b' s' n') h.p2 ((bt_sub h1 (h.p2.bb.mono (by omega))).mono (by omega))
  have e2 := h.two w
  have gA := h.gA
  have gX := h.gX
  have hN : ∀ a b : Int, fIsN w (.tup [.int a, .int b]) .non = some (.bl false) := fun a b => rfl
  have g1 : ∀ s0 : Sl, getS (some (sD g b s n) :: s0) 0 = some (sD g b s n) := fun s0 => rfl
  have g3 : ∀ s0 : Sl, getS (some (sD g b' s' n') :: s0) 0 = some (sD g b' s' n') := fun s0 => rfl
  have g2 : ∀ (t : TT.Tr) (s0 : Sl), getS (some (TT.tD t) :: s0) 0 = some (TT.tD t) := fun t s0 => rfl
  generalize (Cn (Pm b s) (stU b b') (enU b s n b' s' n' - stU b b' - 1).toNat : Int) = C1 at *
  generalize (Cn (Pm b' s') (stU b b') (enU b s n b' s' n' - stU b b' - 1).toNat : Int) = C2 at *
  generalize (Cn (fun x => Pm b s x && Pm b' s' x) (stU b b') (enU b s n b' s' n' - stU b b' - 1).toNat : Int) = C3 at *
  generalize stU b b' = S0 at *
  generalize enU b s n b' s' n' = E0 at *
  generalize bgT b s S0 E0 = T1 at *
  generalize bgT b' s' S0 E0 = T2 at *
  generalize TT.nrm v = T3 at *
  generalize sD g b s n = D1 at *
  generalize sD g b' s' n' = D2 at *
  simp -implicitDefEqProofs [F_pairs_number, B_pairs_number, okE_run, List.replicate, gA, gX, e2, es, hN, eb1, eb2, m1, m2, m3, mw, g1, g2, g3]
theorem e_twins (h : Ts g b s n b' s' n' A X N1 N2) (hlt : stU b b' < enU b s n b' s' n') : F_twins_number [A, X, .str N1, .str N2] w = .ok (.int (if s = s' ∧ (b - b').fmod s = 0 then (enU b s n b' s' n' - stU b b').fdiv s else 0)) w := by
  apply okE_eq
  have hs := h.p1.hs
  have hne : s ≠ 0 := by omega
  have hd : divOk s := div_bt hne h.p1.bs (by omega)
  have es := e_shared_units (w := w) h.lay h.p1 h.p2
  have esh : shD b (b + s * n) b' (b' + s' * n') = .tup [.int (stU b b'), .int (enU b s n b' s' n')] := by
    exact if_pos hlt
  rw [esh] at es
  have e2 := h.two w
  have gA := h.gA
  have gX := h.gX
  have hN : ∀ a b : Int, fIsN w (.tup [.int a, .int b]) .non = some (.bl false) := fun a b => rfl
  have g1 : ∀ s0 : Sl, getS (some (sD g b s n) :: s0) 0 = some (sD g b s n) := fun s0 => rfl
  have g3 : ∀ s0 : Sl, getS (some (sD g b' s' n') :: s0) 0 = some (sD g b' s' n') := fun s0 => rfl
  have x1 : ∀ (b s n : Int) w, fIx w (sD g b s n) (.int 1) = some (.int b) := fun b s n w => rfl
  have x2 : ∀ (b s n : Int) w, fIx w (sD g b s n) (.int 2) = some (.int s) := fun b s n w => rfl
  generalize stU b b' = S0 at *
  generalize enU b s n b' s' n' = E0 at *
  simp -implicitDefEqProofs [F_twins_number, B_twins_number, okE_run, List.replicate, gA, gX, e2, es, hN, g1, g3, x1, x2, hne, hd]
  by_cases c1 : s = s'
  · simp [c1]
    by_cases c2 : (b - b').fmod s' = 0
    · rw [if_pos c2]
      exact fun hh => absurd c2 hh
    · rw [if_neg c2]
      exact fun hh => absurd hh c2
  · simp [c1]
theorem e_shared (h : Ts g b s n b' s' n' A X N1 N2) (hlt : stU b b' < enU b s n b' s' n') : F_shared [A, X, .str N1, .str N2] w = .ok (.tup [.int (stU b b' - b), .int (enU b s n b' s' n' - stU b b')]) w := by
  apply okE_eq
  have hl2 : (2 : Nat) ≤ lim := by decide
  have es := e_shared_units (w := w) h.lay h.p1 h.p2
  have esh : shD b (b + s * n) b' (b' + s' * n') = .tup [.int (stU b b'), .int (enU b s n b' s' n')] := by
    exact if_pos hlt
  rw [esh] at es
  have e2 := h.two w
  have gA := h.gA
  have gX := h.gX
  have hN : ∀ a b : Int, fIsN w (.tup [.int a, .int b]) .non = some (.bl false) := fun a b => rfl
  have g1 : ∀ s0 : Sl, getS (some (sD g b s n) :: s0) 0 = some (sD g b s n) := fun s0 => rfl
  have g3 : ∀ s0 : Sl, getS (some (sD g b' s' n') :: s0) 0 = some (sD g b' s' n') := fun s0 => rfl
  have x1 : ∀ (b s n : Int) w, fIx w (sD g b s n) (.int 1) = some (.int b) := fun b s n w => rfl
  generalize stU b b' = S0 at *
  generalize enU b s n b' s' n' = E0 at *
  simp -implicitDefEqProofs [F_shared, B_shared, okE_run, List.replicate, gA, gX, e2, es, hN, g1, g3, x1, hl2]
theorem e_touched {i : Int} (h : Ts g b s n b' s' n' A X N1 N2) (hi : 0 ≤ i ∧ i < n) (hp : Sp (b + i * s) s 1) (hlt : mx2 (b + i * s) b' < mn2 (b + i * s + s * 1) (b' + s' * n')) :
    F_touched [A, X, .str N1, .int i, .str N2] w = .ok (.tup [.int ((mx2 (b + i * s) b' - b').fdiv s'), .int ((mn2 (b + i * s + s * 1) (b' + s' * n') - 1 - b').fdiv s')]) w := by
  apply okE_eq
  have hbi : Bt 900 i := by
    have := (bt_iff.mp h.p1.bn).2
    exact bt_of (by omega) (by omega)
  have et := e_touched_by (w := w) h.lay h.p1 h.p2 hbi hp
  rw [if_pos hlt] at et
  have e2 := h.two w
  have gA := h.gA
  have gX := h.gX
  have g1 : ∀ s0 : Sl, getS (some (sD g b s n) :: s0) 0 = some (sD g b s n) := fun s0 => rfl
  have g3 : ∀ s0 : Sl, getS (some (sD g b' s' n') :: s0) 0 = some (sD g b' s' n') := fun s0 => rfl
  have ec : F_check_number [sD g b s n, .int i] w = .ok .non w := by
    apply okE_eq
    have x3 : ∀ w, fIx w (sD g b s n) (.int 3) = some (.int n) := fun w => rfl
    simp -implicitDefEqProofs [F_check_number, B_check_number, okE_run, List.replicate, e_is_number, g1, x3, hi.1, hi.2]
  simp -implicitDefEqProofs [F_touched, B_touched, okE_run, List.replicate, gA, gX, e2, g1, g3, ec, et]
end
end DL

set_option maxHeartbeats 2000000
namespace DL
open PySem PySem.Spec PyProof.Rows L2
/-! ### two variables and one row -/
section
variable {w : Wl} {sa sb : Int} {Ba Bb : List (Int × Int)} {xa xb : List Int}
theorem nm_a : ∀ w, F_is_name [.str "a", .int 8] w = .ok (.bl true) w := fun w => rfl
theorem nm_b : ∀ w, F_is_name [.str "b", .int 8] w = .ok (.bl true) w := fun w => rfl
structure Two (sa sb : Int) (Ba Bb : List (Int × Int)) (xa xb : List Int) : Prop where
  s1 : 1 ≤ sa ∧ sa ≤ 16
  s2 : 1 ≤ sb ∧ sb ≤ 16
  b1 : Bf Ba
  b2 : Bf Bb
  e1 : El Ba xa
  e2 : El Bb xb
def va (s : Int) (b : List (Int × Int)) : Vr := ⟨"a", s, b⟩
def vb (s : Int) (b : List (Int × Int)) : Vr := ⟨"b", s, b⟩
def L2v (sa sb : Int) (Ba Bb : List (Int × Int)) : List Vr := [va sa Ba, vb sb Bb]
def A2v (sa sb : Int) (Ba Bb : List (Int × Int)) : D := .lst ((L2v sa sb Ba Bb).map vD)
def r2v (sa sb : Int) (Ba Bb : List (Int × Int)) (xa xb : List Int) : List Mb := [(va sa Ba, xa), (vb sb Bb, xb)]
def X2v (xa xb : List Int) : D := .lst [.tup [.tup [.str "a", eD xa], .tup [.str "b", eD xb]]]
def dl (sa sb : Int) (Ba Bb : List (Int × Int)) (xa xb : List Int) : Int := sa * place Ba xa - sb * place Bb xb
def S2v (sa sb : Int) (Ba Bb : List (Int × Int)) (d : Int) : List Se := [(va sa Ba, "a", 0), (vb sb Bb, "a", d)]
theorem Two.vs (h : Two sa sb Ba Bb xa xb) : VsOk (L2v sa sb Ba Bb) := by
  refine ⟨by unfold L2v; simp, by unfold L2v; simp, fun v hv => ?_, by show ([Str.ofString "a", Str.ofString "b"] : List Str).Nodup; decide⟩
  unfold L2v at hv
  rcases List.mem_cons.mp hv with rfl | hv
  · exact ⟨nm_a, h.s1, h.b1⟩
  · rcases List.mem_cons.mp hv with rfl | hv
    · exact ⟨nm_b, h.s2, h.b2⟩
    · cases hv
theorem Two.rs (h : Two sa sb Ba Bb xa xb) : RsX (L2v sa sb Ba Bb) [r2v sa sb Ba Bb xa xb] (X2v xa xb) := by
  refine ⟨⟨by simp, fun r hr => ?_⟩, ⟨false, rfl⟩, fun _ => rfl, fun _ => rfl, fun _ => rfl⟩
  cases List.mem_singleton.mp hr
  refine ⟨by unfold r2v; simp, by unfold r2v; simp, fun m hm => ?_⟩
  unfold r2v at hm
  rcases List.mem_cons.mp hm with rfl | hm
  · exact ⟨by unfold L2v; simp, h.e1⟩
  · rcases List.mem_cons.mp hm with rfl | hm
    · exact ⟨by unfold L2v; simp, h.e2⟩
    · cases hm
theorem lay_a : (PyData.str "a").canLay0 = true := by decide +kernel
theorem lay_b : (PyData.str "b").canLay0 = true := by decide +kernel
theorem ne_ab : Str.ofString "a" ≠ Str.ofString "b" := by decide
theorem Two.by (h : Two sa sb Ba Bb xa xb) : ∀ w, F_seats_by [.lst (((L2v sa sb Ba Bb).map Vr.n).map .str), lnsD [r2v sa sb Ba Bb xa xb]] w = .ok (seD (S2v sa sb Ba Bb (dl sa sb Ba Bb xa xb))) w := fun w => by
  refine e_by_one h.vs ?_
  have hb := e_behind (w := w) (apart_ok h.vs) (m0 := (va sa Ba, xa)) (m1 := (vb sb Bb, xb)) (p := (va sa Ba, "a", 0)) (q := (vb sb Bb, "b", 0)) (fun p hp => by
    unfold apart L2v at hp
    rcases List.mem_cons.mp hp with rfl | hp
    · exact lay_a
    · rcases List.mem_cons.mp hp with rfl | hp
      · exact lay_b
      · cases hp) (by unfold apart L2v; simp [va]) (by unfold apart L2v; simp [vb]) rfl rfl ne_ab
  have e : linked (va sa Ba, "a", 0) (vb sb Bb, "b", 0) (ahd (va sa Ba, xa)) (ahd (vb sb Bb, xb)) (apart (L2v sa sb Ba Bb)) = S2v sa sb Ba Bb (dl sa sb Ba Bb xa xb) := by
    have : (0 : Int) + (0 + sa * place Ba xa - sb * place Bb xb - 0) = sa * place Ba xa - sb * place Bb xb := by omega
    unfold linked apart L2v S2v mv ahd dl va vb
    simp [ne_ab]
  rw [e] at hb
  exact hb
theorem Two.se (h : Two sa sb Ba Bb xa xb) : SeOk (L2v sa sb Ba Bb) (S2v sa sb Ba Bb (dl sa sb Ba Bb xa xb)) := ⟨h.vs, rfl⟩
theorem prod_ok {bs : List (Int × Int)} {xs : List Int} (hb : Bf bs) (he : El bs xs) : 1 ≤ prod (bs.map ext) ∧ Bt 900 (prod (bs.map ext)) := by
  have h2 := prod_small (exts_small hb.bw)
  have h3 := hb.few
  have h4 : (2 : Int) ^ (110 * (bs.map ext).length) ≤ 2 ^ 770 := by
    have := Nat.pow_le_pow_right (n := 2) (by decide) (show 110 * (bs.map ext).length ≤ 770 by rw [List.length_map]; omega)
    exact_mod_cast this
  have h5 : (0 : Int) < 2 ^ 770 := Int.pow_pos (by decide)
  have h7 := place_range he
  have h6 : (2 : Int) ^ 771 = 2 ^ 770 * 2 := Int.pow_succ 2 770
  exact ⟨by omega, (bt_of (i := 771) (by omega) (by omega)).mono (by omega)⟩
theorem Two.bd (h : Two sa sb Ba Bb xa xb) : Bt 900 (dl sa sb Ba Bb xa xb) := by
  have one : ∀ {s : Int} {bs : List (Int × Int)} {xs : List Int}, 1 ≤ s ∧ s ≤ 16 → Bf bs → El bs xs → Bt 850 (s * place bs xs) := fun hs hb he => by
    have hp := place_bt hb he
    have h5 : (0 : Int) < 2 ^ 770 := Int.pow_pos (by decide)
    exact (bt_mul (bt50 (by omega) (by omega)) (bt_of (i := 770) (by omega) hp.2)).mono (by omega)
  exact (bt_sub (one h.s1 h.b1 h.e1) (one h.s2 h.b2 h.e2)).mono (by omega)
theorem Two.p1 (h : Two sa sb Ba Bb xa xb) : Sp 0 sa (prod (Ba.map ext)) := ⟨h.s1, (prod_ok h.b1 h.e1).1, (show Bt 1 0 by unfold Bt; decide).mono (by omega), (prod_ok h.b1 h.e1).2⟩
theorem Two.p2 (h : Two sa sb Ba Bb xa xb) : Sp (dl sa sb Ba Bb xa xb) sb (prod (Bb.map ext)) := ⟨h.s2, (prod_ok h.b2 h.e2).1, h.bd, (prod_ok h.b2 h.e2).2⟩
theorem Two.ts (h : Two sa sb Ba Bb xa xb) : Ts "a" 0 sa (prod (Ba.map ext)) (dl sa sb Ba Bb xa xb) sb (prod (Bb.map ext)) (A2v sa sb Ba Bb) (X2v xa xb) "a" "b" :=
  ⟨lay_a, h.p1, h.p2, fun w => e_two (w := w) h.se h.rs h.by (p := (va sa Ba, "a", 0)) (q := (vb sb Bb, "a", dl sa sb Ba Bb xa xb)) (by unfold S2v; simp) (by unfold S2v; simp), fun s => rfl, fun s => rfl⟩
theorem Two.ts' (h : Two sa sb Ba Bb xa xb) : Ts "a" (dl sa sb Ba Bb xa xb) sb (prod (Bb.map ext)) 0 sa (prod (Ba.map ext)) (A2v sa sb Ba Bb) (X2v xa xb) "b" "a" :=
  ⟨lay_a, h.p2, h.p1, fun w => e_two (w := w) h.se h.rs h.by (p := (vb sb Bb, "a", dl sa sb Ba Bb xa xb)) (q := (va sa Ba, "a", 0)) (by unfold S2v; simp) (by unfold S2v; simp), fun s => rfl, fun s => rfl⟩
def ofD (d : Int) : D := .lst [.tup [.str "a", .str "a", .int (0 - mn2 d 0)], .tup [.str "b", .str "a", .int (d - mn2 d 0)]]
theorem e_order {d : Int} : F_in_order [.lst [.str "a", .str "b"], seD (S2v sa sb Ba Bb d)] w = .ok (ofD d) w := rfl
theorem e_offsets (h : Two sa sb Ba Bb xa xb) : F_offsets [A2v sa sb Ba Bb, X2v xa xb] w = .ok (ofD (dl sa sb Ba Bb xa xb)) w := by
  apply okE_eq
  have e1 := e_check_layout (w := w) h.vs h.rs
  have e2 := e_names_of (w := w) (L := L2v sa sb Ba Bb) h.vs.few
  have e3 := e_lines_of (w := w) h.vs h.rs
  have e4 := h.by w
  have e5 := e_order (w := w) (sa := sa) (sb := sb) (Ba := Ba) (Bb := Bb) (d := dl sa sb Ba Bb xa xb)
  have gX := h.rs.get
  have gA : ∀ s : Sl, getS (some (A2v sa sb Ba Bb) :: s) 0 = some (A2v sa sb Ba Bb) := fun s => rfl
  have gs : ∀ s : Sl, getS (some (seD (S2v sa sb Ba Bb (dl sa sb Ba Bb xa xb))) :: s) 0 = some (seD (S2v sa sb Ba Bb (dl sa sb Ba Bb xa xb))) := fun s => rfl
  have gn : fIsN w (seD (S2v sa sb Ba Bb (dl sa sb Ba Bb xa xb))) .non = some (.bl false) := rfl
  have eN : ((L2v sa sb Ba Bb).map Vr.n).map D.str = [.str "a", .str "b"] := rfl
  rw [eN] at e2 e4
  rw [show D.lst ((L2v sa sb Ba Bb).map vD) = A2v sa sb Ba Bb from rfl] at e1 e2 e3
  generalize A2v sa sb Ba Bb = AA at *
  generalize X2v xa xb = XX at *
  simp -implicitDefEqProofs [F_offsets, B_offsets, okE_run, List.replicate, gX, gA, gs, gn, e1, e2, e3, e4, e5]
end
end DL

set_option maxHeartbeats 2000000
namespace DL
open PySem PySem.Spec PyProof.Rows L2
/-! ### what is drawn -/
section
variable {w : Wl} {b : Nat} {sa sb : Int} {Ba Bb : List (Int × Int)} {xa xb : List Int}
theorem okS_then {U V : DS} {s : Sl} {w : Wl} {N : Sl → Wl → Prop} {Z : D → Wl → Prop} (M : Sl → Wl → Prop) (h : okS (U s w) M Z) (q : ∀ s1 w1, M s1 w1 → okS (V s1 w1) N Z) : okS (sSeq U V s w) N Z := by
  rw [okS_seq]
  exact okS_mono h q fun _ _ z => z
theorem okS_to {U V : DS} {s : Sl} {w : Wl} {N : Sl → Wl → Prop} {Z : D → Wl → Prop} (M : Sl → Wl → Prop) (h : ∀ M' : Sl → Wl → Prop, (∀ s1 w1, M s1 w1 → M' s1 w1) → okS (U s w) M' Z) (q : ∀ s1 w1, M s1 w1 → okS (V s1 w1) N Z) : okS (sSeq U V s w) N Z := okS_then M (h M fun _ _ z => z) q
theorem w_far (hw : Lap b w) (hb : b < 1000000) {Q : D → Wl → Prop} (q : ∀ (z : Int) w', (-1000000000000000000000000000000 ≤ z ∧ z ≤ 1000000000000000000000000000000) → Lap (b + 5) w' → Q (.int z) w') : okE (F_w_far [.well] w) Q := by
  have hlim : lim = 16000000 := rfl
  have e100 := pp110
  have p9 : ∀ w, fPow w (.int 10) (.int 9) = some (.int 1000000000) := fun w => rfl
  have p12 : ∀ w, fPow w (.int 10) (.int 12) = some (.int 1000000000000) := fun w => rfl
  have p18 : ∀ w, fPow w (.int 10) (.int 18) = some (.int 1000000000000000000) := fun w => rfl
  have p21 : ∀ w, fPow w (.int 10) (.int 21) = some (.int 1000000000000000000000) := fun w => rfl
  have p26 : ∀ w, fPow w (.int 10) (.int 26) = some (.int 100000000000000000000000000) := fun w => rfl
  have mm : ∀ a c : Int, (0 ≤ a ∧ a < 1000000000) → (0 ≤ c ∧ c < 1298074214633706907132624082305024) → mulOk a c := fun a c ha hc => mul_small (i := 40) (j := 110) ha.1 (Int.le_of_lt (Int.lt_trans ha.2 (show (1000000000 : Int) < 2 ^ 40 by decide))) hc.1 (by omega) (by decide)
  unfold F_w_far
  rw [okE_run]
  refine ⟨rfl, ?_⟩
  show okS (B_w_far [some .well, none] w) _ _
  unfold B_w_far
  refine okS_then (fun s1 w1 => ∃ z : Int, (0 ≤ z ∧ z < 1000000000000000000000000000000) ∧ Lap (b + 3) w1 ∧ s1 = [some .well, some (.int z)]) ?_ ?_
  · simp -implicitDefEqProofs [p9, p12, p21]
    refine draw hw (by decide) (by omega) (by omega) fun k1 w1 a1 c1 l1 => ?_
    simp -implicitDefEqProofs [p9, p12, p21]
    refine ⟨mm _ _ ⟨a1, c1⟩ (by decide), draw l1 (by decide) (by omega) (by omega) fun k2 w2 a2 c2 l2 => ?_⟩
    simp -implicitDefEqProofs [p9, p12, p21]
    refine ⟨mm _ _ ⟨a2, c2⟩ (by decide), draw l2 (by decide) (by omega) (by omega) fun k3 w3 a3 c3 l3 => ?_⟩
    simp -implicitDefEqProofs
    exact ⟨by omega, l3⟩
  rintro _ w1 ⟨z, hz, l1, rfl⟩
  have hl2 : (2 : Nat) ≤ lim := by decide
  have hl4 : (4 : Nat) ≤ lim := by decide
  simp -implicitDefEqProofs [hl2]
  refine pick l1 (by simp) (by simp) (by omega) fun x hx w2 l2 => ?_
  simp -implicitDefEqProofs [p9, p18, p26, hl4]
  refine pick l2 (by simp) (by simp) (by omega) fun y hy w3 l3 => ?_
  obtain ⟨c, rfl, hc⟩ : ∃ c : Int, y = .int c ∧ 1 ≤ c ∧ c ≤ 100000000000000000000000000 := by
    simp at hy
    rcases hy with e | e | e | e <;> exact ⟨_, e, by decide, by decide⟩
  have hne : c ≠ 0 := by omega
  have hd := divOk_small (n := c) (by omega) (by omega)
  have hq : 0 ≤ z.fdiv c ∧ z.fdiv c ≤ z := by
    rw [Int.fdiv_eq_ediv_of_nonneg _ (by omega)]
    exact ⟨Int.ediv_nonneg hz.1 (by omega), Int.ediv_le_self _ hz.1⟩
  have hm1 : mulOk 1 (z.fdiv c) := mm _ _ (by decide) (by omega)
  have hm2 : mulOk (-1) (z.fdiv c) := by
    have := mm 1 (z.fdiv c) (by decide) (by omega)
    unfold mulOk at this ⊢
    rw [Int.natAbs_neg]
    exact this
  simp at hx
  rcases hx with rfl | rfl
  · simp -implicitDefEqProofs [hd, hne, hm1]
    exact q _ w3 (by omega) l3
  · simp -implicitDefEqProofs [hd, hne, hm2]
    exact q _ w3 (by omega) l3
theorem sort2 (a c : Int) : ∃ lo hi : Int, lo ≤ hi ∧ (lo = a ∧ hi = c ∨ lo = c ∧ hi = a) ∧ ∀ w, fSorted w [.lst [.int a, .int c]] = some [.int lo, .int hi] := by
  have h1 := sortI_perm [a, c]
  have h2 := sortI_le [a, c]
  have h3 : ∀ w, fSorted w [.lst [.int a, .int c]] = some ((sortI [a, c]).map .int) := fun w => v_sorted (ns := [a, c])
  by_cases h : a ≤ c
  · have e : [a, c] = sortI [a, c] := sorted_unique h1.symm (by simp [h]) h2
    refine ⟨a, c, h, .inl ⟨rfl, rfl⟩, fun w => ?_⟩
    rw [h3, ← e]
    rfl
  · have e : [c, a] = sortI [a, c] := sorted_unique ((List.Perm.swap a c []).trans h1.symm) (by simp; omega) h2
    refine ⟨c, a, by omega, .inr ⟨rfl, rfl⟩, fun w => ?_⟩
    rw [h3, ← e]
    rfl
structure Bf3 (bs : List (Int × Int)) : Prop where
  bf : Bf bs
  few : bs.length ≤ 3
theorem w_bounds (hb : b < 900000) (hw : Lap b w) {Q : D → Wl → Prop} (q : ∀ bs w', Bf3 bs → Lap (b + 50) w' → Q (bD bs) w') : okE (F_w_bounds [.well] w) Q := by
  have hlim : lim = 16000000 := rfl
  have e100 := pp110
  have hl2 : (2 : Nat) ≤ lim := by decide
  simp -implicitDefEqProofs [F_w_bounds, B_w_bounds, okE_run, List.replicate]
  refine draw hw (by omega) (by omega) (by omega) fun k w1 k0 k1 l1 => ?_
  simp -implicitDefEqProofs
  refine ⟨⟨by omega, by omega⟩, ?_⟩
  have hk : (1 + k).toNat ≤ 3 := by omega
  refine okS_loop0 (fun i s w' => Lap (b + 1 + 10 * i) w' ∧ ∃ bs t2 t3, s = [some .well, some (.own (bs.map pD)), t2, t3] ∧ bs.length = i ∧ ∀ p ∈ bs, (-1000000000000000000000000000000 ≤ p.1 ∧ p.1 ≤ 1000000000000000000000000000000) ∧ (-1000000000000000000000000000000 ≤ p.2 ∧ p.2 ≤ 1000000000000000000000000000000) ∧ p.1 ≤ p.2) ⟨l1, [], none, none, rfl, rfl, by simp⟩ ?_ ?_
  · rintro i d s w2 hd ⟨l2, bs, t2, t3, rfl, hbl, hbs⟩
    have hi : i < (1 + k).toNat := by
      have := (List.getElem?_eq_some_iff.mp hd).1
      simpa [upTo] using this
    simp -implicitDefEqProofs
    refine w_far l2 (by omega) fun z1 w3 h1 l3 => ?_
    refine w_far l3 (by omega) fun z2 w4 h2 l4 => ?_
    obtain ⟨lo, hi', hle, hor, hso⟩ := sort2 z1 z2
    have hr : (-1000000000000000000000000000000 ≤ lo ∧ lo ≤ 1000000000000000000000000000000) ∧ (-1000000000000000000000000000000 ≤ hi' ∧ hi' ≤ 1000000000000000000000000000000) := by
      rcases hor with ⟨rfl, rfl⟩ | ⟨rfl, rfl⟩
      · exact ⟨h1, h2⟩
      · exact ⟨h2, h1⟩
    simp -implicitDefEqProofs [hl2, hso]
    refine ⟨by omega, lap_le l4 (by omega), bs ++ [(lo, hi')], by simp [pD], by simp [hbl], ?_⟩
    intro a c hac
    rcases List.mem_append.mp hac with h | h
    · exact hbs _ h
    · have e := List.mem_singleton.mp h
      cases e
      exact ⟨hr.1, hr.2, hle⟩
  · rintro s w2 ⟨l2, bs, t2, t3, rfl, hbl, hbs⟩
    simp [upTo] at hbl l2
    simp -implicitDefEqProofs
    exact q bs w2 ⟨⟨by omega, hbs⟩, by omega⟩ (lap_le l2 (by omega))
theorem spot_loop {Q : Sl → Wl → Prop} {Z : D → Wl → Prop} {V : D} : ∀ (bs : List (Int × Int)) (acc : List Int) (c : Nat) (w : Wl) (t3 t4 t5 : Option D), Bf bs → acc.length + bs.length ≤ 7 → c + 2 * bs.length < 900000 → Lap c w → (∀ xs w' t3 t4 t5, El bs xs → Lap (c + 2 * bs.length) w' → Q [some .well, some V, some (.own ((acc ++ xs).map .int)), t3, t4, t5] w') →
    okS (loopD (gT (gCons' (gN 3) (gCons' (gN 4) gNil')) 2) (sSeq (sAsg 5 (eL (aLst (aCons (eVar 3) (aCons (eVar 4) (aCons (eCB fMin2 (aCons (eVar 4) (aCons (eBin fAdd (eVar 3) (eCall 2 F_w_draw (aCons (eVar 0) (aCons (eC (.int 9)) aNil)))) aNil))) (aCons (eBin fDiv (eBin fAdd (eVar 3) (eVar 4)) (eC (.int 2))) aNil))))))) (sApp 2 (eCall 2 F_w_pick (aCons (eVar 0) (aCons (eVar 5) aNil))))) (bs.map pD) [some .well, some V, some (.own (acc.map .int)), t3, t4, t5] w) Q Z
  | [], acc, c, w, t3, t4, t5, hB, hl, hc, hw, q => by
    have := q [] w t3 t4 t5 trivial hw
    rw [List.append_nil] at this
    exact this
  | p :: bs, acc, c, w, t3, t4, t5, hB, hl, hc, hw, q => by
    have hlim : lim = 16000000 := rfl
    have hl4 : (4 : Nat) ≤ lim := by decide
    have d2 : divOk 2 := divOk_small (by decide) (by decide)
    have hp := hB.dim p List.mem_cons_self
    simp only [List.length_cons] at hl hc q
    rw [List.map_cons, show pD p = D.tup [.int p.1, .int p.2] from rfl]
    refine okS_cons ?_
    simp -implicitDefEqProofs
    refine draw hw (by decide) (by decide) (by omega) fun k w1 k0 k1 l1 => ?_
    simp -implicitDefEqProofs [d2, hl4]
    refine pick l1 (by simp) (by simp) (by omega) fun x hx w2 l2 => ?_
    have hmid : p.1 ≤ (p.1 + p.2).fdiv 2 ∧ (p.1 + p.2).fdiv 2 ≤ p.2 := by
      rw [Int.fdiv_eq_ediv_of_nonneg _ (by omega)]
      omega
    obtain ⟨z, rfl, hz⟩ : ∃ z : Int, x = .int z ∧ p.1 ≤ z ∧ z ≤ p.2 := by
      simp at hx
      rcases hx with e | e | e | e
      · exact ⟨_, e, by omega, by omega⟩
      · exact ⟨_, e, by omega, by omega⟩
      · refine ⟨_, e, ?_, ?_⟩ <;> split <;> omega
      · exact ⟨_, e, hmid.1, hmid.2⟩
    refine ⟨by omega, ?_⟩
    have := spot_loop (Q := Q) (Z := Z) (V := V) bs (acc ++ [z]) (c + 2) w2 (some (.int p.1)) (some (.int p.2)) (some (.lst [.int p.1, .int p.2, .int (if p.1 + k < p.2 then p.1 + k else p.2), .int ((p.1 + p.2).fdiv 2)])) ⟨by have := hB.few; simp only [List.length_cons] at this; omega, fun r hr => hB.dim r (List.mem_cons_of_mem _ hr)⟩ (by simp; omega) (by omega) (lap_le l2 (by omega)) (fun xs w' t3 t4 t5 hE lw => by
      have := q (z :: xs) w' t3 t4 t5 ⟨hz, hE⟩ (lap_le lw (by omega))
      simpa using this)
    simpa using this
theorem w_spot {v : Vr} (hb : b < 800000) (hv : Bf3 v.b) (hw : Lap b w) {Q : D → Wl → Prop} (q : ∀ xs w', El v.b xs → Lap (b + 10) w' → Q (eD xs) w') : okE (F_w_spot [.well, vD v] w) Q := by
  have h3 := hv.few
  have hs : ∀ w, fIx w (vD v) (.int 2) = some (bD v.b) := fun w => rfl
  have gV : ∀ s : Sl, getS (some (vD v) :: s) 0 = some (vD v) := fun s => rfl
  have hsq : seqD (bD v.b) = some (true, v.b.map pD) := rfl
  simp -implicitDefEqProofs [F_w_spot, B_w_spot, okE_run, List.replicate, gV, hs, hsq]
  refine spot_loop (V := vD v) v.b [] b w none none none hv.bf (by simp; omega) (by omega) hw (fun xs w' t3 t4 t5 hE lw => ?_)
  simp -implicitDefEqProofs
  exact q xs w' hE (lap_le lw (by omega))
end
end DL

set_option maxHeartbeats 2000000
namespace DL
open PySem PySem.Spec PyProof.Rows L2
/-! ### the law's own counts -/
section
variable {w : Wl} {b : Nat} {v : Vr}
theorem bt_ext {p : Int × Int} (h : (-1000000000000000000000000000000 ≤ p.1 ∧ p.1 ≤ 1000000000000000000000000000000) ∧ (-1000000000000000000000000000000 ≤ p.2 ∧ p.2 ≤ 1000000000000000000000000000000) ∧ p.1 ≤ p.2) : ext p = p.2 - p.1 + 1 ∧ Bt 110 (p.2 - p.1 + 1) := by
  have e100 := pp110
  refine ⟨by unfold ext; rw [if_pos (by omega)], bt_of (by omega) (by omega)⟩
theorem ah_loop {E : D} {Q : Sl → Wl → Prop} {Z : D → Wl → Prop} : ∀ (bs : List (Int × Int)) (xs : List Int) (pre : List (Int × Int)) (acc m : Int) (t4 t5 : Option D), v.b = pre ++ bs → Bf v.b → El bs xs → Bt (10 + 110 * pre.length) m → (∀ m' t4 t5, Q [some (vD v), some E, some (.int (acc + m * place bs xs)), some (.int m'), t4, t5] w) →
    okS (loopD (gT (gCons' (gN 4) (gCons' (gN 5) gNil')) 2) (sSeq (sAsg 2 (eBin fAdd (eVar 2) (eBin fMul (eVar 3) (eBin fSub (eVar 5) (eBin fIx (eBin fIx (eBin fIx (eVar 0) (eC (.int 2))) (eVar 4)) (eC (.int 0))))))) (sAsg 3 (eBin fMul (eVar 3) (eBin fAdd (eBin fSub (eBin fIx (eBin fIx (eBin fIx (eVar 0) (eC (.int 2))) (eVar 4)) (eC (.int 1))) (eBin fIx (eBin fIx (eBin fIx (eVar 0) (eC (.int 2))) (eVar 4)) (eC (.int 0)))) (eC (.int 1)))))) ((xs.zipIdx pre.length).map fun q => .tup [.int (q.2 : Nat), .int q.1]) [some (vD v), some E, some (.int acc), some (.int m), t4, t5] w) Q Z
  | [], [], pre, acc, m, t4, t5, hv, hB, hE, hm, q => by
    have := q m t4 t5
    unfold place at this
    rw [Int.mul_zero, Int.add_zero] at this
    exact this
  | [], _ :: _, _, _, _, _, _, _, _, hE, _, _ => hE.elim
  | _ :: _, [], _, _, _, _, _, _, _, hE, _, _ => hE.elim
  | p :: bs, x :: xs, pre, acc, m, t4, t5, hv, hB, hE, hm, q => by
    have h7 := hB.few
    have hlen : pre.length ≤ 7 := by rw [hv] at h7; simp at h7; omega
    have hp := hB.dim p (by rw [hv]; simp)
    obtain ⟨ep, eb⟩ := bt_ext hp
    have hx := hE.1
    have e100 := pp110
    have bx : Bt 110 (x - p.1) := bt_of (by omega) (by omega)
    have m1 : mulOk m (x - p.1) := mul_bt hm bx (by omega)
    have m2 : mulOk m (p.2 - p.1 + 1) := mul_bt hm eb (by omega)
    have gV : ∀ s : Sl, getS (some (vD v) :: s) 0 = some (vD v) := fun s => rfl
    have h2 : ∀ w, fIx w (vD v) (.int 2) = some (bD v.b) := fun w => rfl
    have h3 : ∀ w, fIx w (bD v.b) (.int (pre.length : Nat)) = some (.tup [.int p.1, .int p.2]) := fun w => by
      show atI (v.b.map pD) (pre.length : Nat) = _
      refine atI_nat ?_
      rw [hv, List.getElem?_map, List.getElem?_append_right (by omega)]
      simp [pD]
    have h4 : ∀ w, fIx w (.tup [.int p.1, .int p.2]) (.int 0) = some (.int p.1) := fun w => rfl
    have h5 : ∀ w, fIx w (.tup [.int p.1, .int p.2]) (.int 1) = some (.int p.2) := fun w => rfl
    rw [List.zipIdx_cons, List.map_cons]
    refine okS_cons ?_
    simp -implicitDefEqProofs only [okO_some, v_gT, v_gN, gCons']
    simp -implicitDefEqProofs [gV, h2, h3, h4, h5, m1, m2]
    have := ah_loop (E := E) (Q := Q) (Z := Z) bs xs (pre ++ [p]) (acc + m * (x - p.1)) (m * (p.2 - p.1 + 1)) (some (.int (pre.length : Nat))) (some (.int x)) (by rw [hv]; simp) hB hE.2 ((bt_mul hm eb).mono (by simp; omega)) (fun m' t4 t5 => by
      have := q m' t4 t5
      have e : acc + m * place (p :: bs) (x :: xs) = acc + m * (x - p.1) + m * (p.2 - p.1 + 1) * place bs xs := by
        rw [show place (p :: bs) (x :: xs) = (x - p.1) + ext p * place bs xs from rfl, ep, Int.mul_add, Int.mul_assoc, Int.add_assoc]
      rw [e] at this
      exact this)
    rw [List.length_append, List.length_singleton] at this
    exact this
theorem w_ahead {xs : List Int} (hs : 1 ≤ v.s ∧ v.s ≤ 16) (hB : Bf v.b) (hE : El v.b xs) : F_w_ahead [vD v, eD xs] w = .ok (.int (v.s * place v.b xs)) w := by
  apply okE_eq
  have gV : ∀ s : Sl, getS (some (vD v) :: s) 0 = some (vD v) := fun s => rfl
  have h1 : ∀ w, fIx w (vD v) (.int 1) = some (.int v.s) := fun w => rfl
  have gE : ∀ s : Sl, getS (some (eD xs) :: s) 0 = some (eD xs) := fun s => rfl
  have en : enmSD [eD xs] = some ((xs.zipIdx ([] : List (Int × Int)).length).map fun q => .tup [.int (q.2 : Nat), .int q.1]) := by
    show some (enumD (xs.map .int)) = _
    unfold enumD
    rw [List.zipIdx_map, List.map_map]
    rfl
  have hm : Bt (10 + 110 * ([] : List (Int × Int)).length) v.s := show Bt 10 v.s from btn (by omega) (by
    have : (2 : Int) ^ 10 = 1024 := by decide
    omega)
  have := ah_loop (w := w) (v := v) (E := eD xs) (Q := fun s1 w1 => getS s1 2 = some (.int (v.s * place v.b xs)) ∧ w1 = w) (Z := fun d w' => d = .int (v.s * place v.b xs) ∧ w' = w) v.b xs [] 0 v.s none none rfl hB hE hm (fun m' t4 t5 => ⟨by rw [Int.zero_add]; rfl, rfl⟩)
  rw [F_w_ahead, okE_run]
  refine ⟨rfl, ?_⟩
  unfold B_w_ahead
  rw [okS_seq]
  simp -implicitDefEqProofs [List.replicate, gV, gE, h1, en]
  refine okS_mono this (fun s1 w1 h => ?_) fun _ _ h => h
  rw [h.1]
  exact ⟨rfl, h.2⟩
theorem un_loop {V : D} {Q : Sl → Wl → Prop} {Z : D → Wl → Prop} : ∀ (bs : List (Int × Int)) (i : Nat) (m : Int) (t2 t3 : Option D), Bf bs → i + bs.length ≤ 7 → Bt (10 + 110 * i) m → (∀ t2 t3, Q [some V, some (.int (m * prod (bs.map ext))), t2, t3] w) →
    okS (loopD (gT (gCons' (gN 2) (gCons' (gN 3) gNil')) 2) (sAsg 1 (eBin fMul (eVar 1) (eBin fAdd (eBin fSub (eVar 3) (eVar 2)) (eC (.int 1))))) (bs.map pD) [some V, some (.int m), t2, t3] w) Q Z
  | [], i, m, t2, t3, hB, hl, hm, q => by
    have := q t2 t3
    rw [List.map_nil, show prod [] = 1 from rfl, Int.mul_one] at this
    exact this
  | p :: bs, i, m, t2, t3, hB, hl, hm, q => by
    have hp := hB.dim p List.mem_cons_self
    obtain ⟨ep, eb⟩ := bt_ext hp
    simp only [List.length_cons] at hl
    have m2 : mulOk m (p.2 - p.1 + 1) := mul_bt hm eb (by omega)
    rw [List.map_cons, show pD p = D.tup [.int p.1, .int p.2] from rfl]
    refine okS_cons ?_
    simp -implicitDefEqProofs [m2]
    refine un_loop (V := V) (Q := Q) (Z := Z) bs (i + 1) (m * (p.2 - p.1 + 1)) (some (.int p.1)) (some (.int p.2)) ⟨by have := hB.few; simp only [List.length_cons] at this; omega, fun r hr => hB.dim r (List.mem_cons_of_mem _ hr)⟩ (by omega) ((bt_mul hm eb).mono (by omega)) (fun t2 t3 => ?_)
    have := q t2 t3
    rw [List.map_cons, show prod (ext p :: bs.map ext) = ext p * prod (bs.map ext) from rfl, ep, ← Int.mul_assoc] at this
    exact this
theorem w_units (hs : 1 ≤ v.s ∧ v.s ≤ 16) (hB : Bf v.b) : F_w_units [vD v] w = .ok (.int (v.s * prod (v.b.map ext))) w := by
  apply okE_eq
  have gV : ∀ s : Sl, getS (some (vD v) :: s) 0 = some (vD v) := fun s => rfl
  have h1 : ∀ w, fIx w (vD v) (.int 1) = some (.int v.s) := fun w => rfl
  have h2 : ∀ w, fIx w (vD v) (.int 2) = some (bD v.b) := fun w => rfl
  have hsq : seqD (bD v.b) = some (true, v.b.map pD) := rfl
  have hm : Bt (10 + 110 * 0) v.s := show Bt 10 v.s from btn (by omega) (by
    have : (2 : Int) ^ 10 = 1024 := by decide
    omega)
  have := un_loop (w := w) (V := vD v) (Q := fun s1 w1 => getS s1 1 = some (.int (v.s * prod (v.b.map ext))) ∧ w1 = w) (Z := fun d w' => d = .int (v.s * prod (v.b.map ext)) ∧ w' = w) v.b 0 v.s none none hB (by have := hB.few; omega) hm (fun t2 t3 => ⟨rfl, rfl⟩)
  rw [F_w_units, okE_run]
  refine ⟨rfl, ?_⟩
  unfold B_w_units
  rw [okS_seq]
  simp -implicitDefEqProofs [List.replicate, gV, h1, h2, hsq]
  refine okS_mono this (fun s1 w1 h => ?_) fun _ _ h => h
  rw [h.1]
  exact ⟨rfl, h.2⟩
end
section
variable {w : Wl}
theorem upTo_map {lo : Int} {n : Nat} : upTo lo n = (List.range n).map fun (i : Nat) => D.int (lo + (i : Int)) := rfl
theorem w_cut {bb s lo hi : Int} (hs : 1 ≤ s ∧ s ≤ 16) (hn : (hi - lo - 1).toNat ≤ 100000) : F_w_cut [.int bb, .int s, .int lo, .int hi] w = .ok (.int (Cn (Pm bb s) lo (hi - lo - 1).toNat)) w := by
  apply okE_eq
  have hlim : lim = 16000000 := rfl
  have hne : s ≠ 0 := by omega
  have hd : divOk s := divOk_small (by omega) (by have := pp110; omega)
  have en : (hi - (lo + 1)).toNat = (hi - lo - 1).toNat := by congr 1; omega
  generalize (hi - lo - 1).toNat = n at *
  simp -implicitDefEqProofs [F_w_cut, B_w_cut, okE_run, List.replicate, en]
  refine ⟨by simp [upTo]; omega, ?_⟩
  rw [upTo_map]
  have := lc_map (G := gN 4) (T := tE (eBin fEq (eBin fMod (eCB fInt (aCons (eBin fSub (eVar 4) (eVar 0)) aNil)) (eVar 1)) (eC (.int 0)))) (A := eVar 4) (fun (i : Nat) => D.int (lo + 1 + (i : Int))) (fun (i : Nat) => D.int (lo + 1 + (i : Int))) (fun (i : Nat) => Pm bb s (lo + 1 + (i : Int))) (s := [some (.int bb), some (.int s), some (.int lo), some (.int hi), none]) (w := w) (xs := List.range n) (fun i _ => by
    simp -implicitDefEqProofs only [v_gN, okO_some]
    refine ⟨okE_eq ?_, fun _ => okE_eq ?_⟩
    · simp -implicitDefEqProofs [hne, hd, Pm]
    · simp -implicitDefEqProofs)
  try simp -implicitDefEqProofs only [wipeS, List.foldl, List.set] at this ⊢
  rw [this]
  simp -implicitDefEqProofs
  unfold Cn
  rfl
theorem Pm_shift {bb s t x : Int} : Pm (bb + t) s (x + t) = Pm bb s x := by
  unfold Pm
  rw [show x + t - (bb + t) = x - bb by omega]
theorem Cn_congr {P P' : Int → Bool} {f f' : Int} {m : Nat} (h : ∀ i : Nat, P (f + 1 + (i : Int)) = P' (f' + 1 + (i : Int))) : Cn P f m = Cn P' f' m := by
  unfold Cn
  congr 1
  exact List.filter_congr fun i _ => h i
theorem Cn_shift {bb s t f : Int} {m : Nat} : Cn (Pm (bb + t) s) (f + t) m = Cn (Pm bb s) f m := Cn_congr fun i => by
  rw [show f + t + 1 + (i : Int) = f + 1 + (i : Int) + t by omega, Pm_shift]
theorem Cn_shift2 {bb s t f bb' s' : Int} {m : Nat} : Cn (fun x => Pm (bb + t) s x && Pm (bb' + t) s' x) (f + t) m = Cn (fun x => Pm bb s x && Pm bb' s' x) f m := Cn_congr fun i => by
  rw [show f + t + 1 + (i : Int) = f + 1 + (i : Int) + t by omega, Pm_shift, Pm_shift]
theorem Cn_comm {P P' : Int → Bool} {f : Int} {m : Nat} : Cn (fun x => P x && P' x) f m = Cn (fun x => P' x && P x) f m := Cn_congr fun i => Bool.and_comm ..
end
end DL

set_option maxHeartbeats 2000000
namespace DL
open PySem PySem.Spec PyProof.Rows L2
/-! ### the law's pairs -/
section
variable {w : Wl} {b1 s1 e1 b2 s2 e2 lo hi : Int}
def prU : DS := (sSeq (sAsg 11 (eBin fAdd (eCall 4 F_w_cut (aCons (eBin fIx (eVar 0) (eC (.int 0))) (aCons (eBin fIx (eVar 0) (eC (.int 1))) (aCons (eVar 8) (aCons (eVar 9) aNil))))) (eCall 4 F_w_cut (aCons (eBin fIx (eVar 1) (eC (.int 0))) (aCons (eBin fIx (eVar 1) (eC (.int 1))) (aCons (eVar 8) (aCons (eVar 9) aNil))))))) (sSeq (sAsg 12 (eL (aLc (iRng2L (aCons (eBin fAdd (eVar 8) (eC (.int 1))) (aCons (eVar 9) aNil))) (gN 13) (tE (eBin fEq (eBin fMod (eCB fInt (aCons (eBin fSub (eVar 13) (eBin fIx (eVar 0) (eC (.int 0)))) aNil)) (eBin fIx (eVar 0) (eC (.int 1)))) (eC (.int 0)))) (eVar 13) [13]))) (sSeq (sAsg 12 (eL (aLc (iSeq (eVar 12)) (gN 13) (tE (eBin fEq (eBin fMod (eCB fInt (aCons (eBin fSub (eVar 13) (eBin fIx (eVar 1) (eC (.int 0)))) aNil)) (eBin fIx (eVar 1) (eC (.int 1)))) (eC (.int 0)))) (eVar 13) [13]))) (sAsg 7 (eBin fAdd (eVar 7) (eBin fMul (eVar 10) (eBin fSub (eVar 11) (eCB fLen (aCons (eVar 12) aNil)))))))))
theorem pr_cut : B_w_pairs = (sSeq (sIf (tE (eBin fGe (eVar 2) (eVar 3))) (sRet (eC (.int 0))) sNx) (sSeq (sAsg 4 (eBin fMul (eBin fIx (eVar 0) (eC (.int 1))) (eBin fIx (eVar 1) (eC (.int 1))))) (sSeq (sAsg 5 (eBin fDiv (eCB fMax2 (aCons (eC (.int 0)) (aCons (eBin fSub (eBin fSub (eVar 3) (eVar 2)) (eC (.int 1))) aNil))) (eVar 4))) (sSeq (sAsg 6 (eBin fSub (eVar 3) (eBin fMul (eVar 5) (eVar 4)))) (sSeq (sAsg 7 (eC (.int 1))) (sSeq (sFor (iSeq (eTup (aCons (eTup (aCons (eVar 2) (aCons (eBin fAdd (eBin fAdd (eVar 2) (eVar 4)) (eC (.int 1))) (aCons (eVar 5) aNil)))) (aCons (eTup (aCons (eVar 2) (aCons (eVar 6) (aCons (eC (.int 1)) aNil)))) aNil)))) (gT (gCons' (gN 8) (gCons' (gN 9) (gCons' (gN 10) gNil'))) 3) prU) (sRet (eVar 7)))))))) := rfl
def tri3 (b s e : Int) : D := .tup [.int b, .int s, .int e]
theorem okO_imp {α : Type} {o : Option α} {P Q : α → Prop} (h : okO o P) (i : ∀ a, P a → Q a) : okO o Q := by
  cases o with
  | none => exact h
  | some a => exact i a h
theorem pr_turn {c k acc : Int} {o3 o4 o5 o6 t8 t9 t10 t11 t12 t13 : Option D} {Z : D → Wl → Prop} (h1 : 1 ≤ s1 ∧ s1 ≤ 16) (h2 : 1 ≤ s2 ∧ s2 ≤ 16) (hn : (c - lo - 1).toNat ≤ 1000) (hk : Bt 970 k) :
    okO ((gT (gCons' (gN 8) (gCons' (gN 9) (gCons' (gN 10) gNil'))) 3) (.tup [.int lo, .int c, .int k]) [some (tri3 b1 s1 e1), some (tri3 b2 s2 e2), some (.int lo), o3, o4, o5, o6, some (.int acc), t8, t9, t10, t11, t12, t13]) fun s => okS (prU s w) (fun s2' w' => w' = w ∧ ∃ t8 t9 t10 t11 t12 t13, s2' = [some (tri3 b1 s1 e1), some (tri3 b2 s2 e2), some (.int lo), o3, o4, o5, o6, some (.int (acc + k * ((Cn (Pm b1 s1) lo (c - lo - 1).toNat : Int) + (Cn (Pm b2 s2) lo (c - lo - 1).toNat : Int) - (Cn (fun x => Pm b1 s1 x && Pm b2 s2 x) lo (c - lo - 1).toNat : Int)))), t8, t9, t10, t11, t12, t13]) Z := by
  have hlim : lim = 16000000 := rfl
  have c1 := fun w => w_cut (w := w) (bb := b1) (s := s1) (lo := lo) (hi := c) h1 (by omega)
  have c2 := fun w => w_cut (w := w) (bb := b2) (s := s2) (lo := lo) (hi := c) h2 (by omega)
  have gT : ∀ (b s e : Int) (s' : Sl), getS (some (tri3 b s e) :: s') 0 = some (tri3 b s e) := fun b s e s' => rfl
  have x0 : ∀ (b s e : Int) w, fIx w (tri3 b s e) (.int 0) = some (.int b) := fun b s e w => rfl
  have x1 : ∀ (b s e : Int) w, fIx w (tri3 b s e) (.int 1) = some (.int s) := fun b s e w => rfl
  have n1 : s1 ≠ 0 := by omega
  have n2 : s2 ≠ 0 := by omega
  have d1 : divOk s1 := divOk_small (by omega) (by have := pp110; omega)
  have d2 : divOk s2 := divOk_small (by omega) (by have := pp110; omega)
  have en : (c - (lo + 1)).toNat = (c - lo - 1).toNat := by congr 1; omega
  have l1 : Cn (Pm b1 s1) lo (c - lo - 1).toNat ≤ 1000 := Nat.le_trans Cn_le hn
  have l2 : Cn (Pm b2 s2) lo (c - lo - 1).toNat ≤ 1000 := Nat.le_trans Cn_le hn
  have l3 : Cn (fun x => Pm b1 s1 x && Pm b2 s2 x) lo (c - lo - 1).toNat ≤ 1000 := Nat.le_trans Cn_le hn
  have l3' : (((List.range (c - lo - 1).toNat).filter fun (i : Nat) => Pm b1 s1 (lo + 1 + (i : Int))).filter fun (i : Nat) => Pm b2 s2 (lo + 1 + (i : Int))).length = Cn (fun x => Pm b1 s1 x && Pm b2 s2 x) lo (c - lo - 1).toNat := by
    unfold Cn
    rw [List.filter_filter]
    congr 1
    exact List.filter_congr fun i _ => Bool.and_comm ..
  have lr : ((List.range (c - lo - 1).toNat).filter fun (i : Nat) => Pm b1 s1 (lo + 1 + (i : Int))).length ≤ 1000 := by
    have := List.length_filter_le (fun (i : Nat) => Pm b1 s1 (lo + 1 + (i : Int))) (List.range (c - lo - 1).toNat)
    rw [List.length_range] at this
    omega
  rw [v_gT]
  refine ⟨rfl, ?_⟩
  show okS (prU [some (tri3 b1 s1 e1), some (tri3 b2 s2 e2), some (.int lo), o3, o4, o5, o6, some (.int acc), some (.int lo), some (.int c), some (.int k), t11, t12, t13] w) _ _
  unfold prU
  generalize (c - lo - 1).toNat = n at *
  refine okS_then (fun s w' => w' = w ∧ s = [some (tri3 b1 s1 e1), some (tri3 b2 s2 e2), some (.int lo), o3, o4, o5, o6, some (.int acc), some (.int lo), some (.int c), some (.int k), some (.int ((Cn (Pm b1 s1) lo n : Int) + (Cn (Pm b2 s2) lo n : Int))), t12, t13]) ?_ ?_
  · simp -implicitDefEqProofs [gT, x0, x1, c1, c2]
  rintro _ w' ⟨hw, rfl⟩
  rw [hw]
  refine okS_then (fun s w' => w' = w ∧ s = [some (tri3 b1 s1 e1), some (tri3 b2 s2 e2), some (.int lo), o3, o4, o5, o6, some (.int acc), some (.int lo), some (.int c), some (.int k), some (.int ((Cn (Pm b1 s1) lo n : Int) + (Cn (Pm b2 s2) lo n : Int))), some (.lst (((List.range n).filter fun (i : Nat) => Pm b1 s1 (lo + 1 + (i : Int))).map fun (i : Nat) => D.int (lo + 1 + (i : Int)))), t13]) ?_ ?_
  · simp -implicitDefEqProofs [gT, x0, x1, en]
    refine ⟨by simp [upTo]; omega, ?_⟩
    rw [upTo_map]
    have := lc_map (G := (gN 13)) (T := (tE (eBin fEq (eBin fMod (eCB fInt (aCons (eBin fSub (eVar 13) (eBin fIx (eVar 0) (eC (.int 0)))) aNil)) (eBin fIx (eVar 0) (eC (.int 1)))) (eC (.int 0))))) (A := (eVar 13)) (fun (i : Nat) => D.int (lo + 1 + (i : Int))) (fun (i : Nat) => D.int (lo + 1 + (i : Int))) (fun (i : Nat) => Pm b1 s1 (lo + 1 + (i : Int))) (s := [some (tri3 b1 s1 e1), some (tri3 b2 s2 e2), some (.int lo), o3, o4, o5, o6, some (.int acc), some (.int lo), some (.int c), some (.int k), some (.int ((Cn (Pm b1 s1) lo n : Int) + (Cn (Pm b2 s2) lo n : Int))), t12, none]) (w := w) (xs := List.range n) (fun i _ => by
      simp -implicitDefEqProofs only [v_gN, okO_some]
      refine ⟨okE_eq ?_, fun _ => okE_eq ?_⟩
      · simp -implicitDefEqProofs [gT, x0, x1, n1, d1, Pm]
      · simp -implicitDefEqProofs)
    try simp -implicitDefEqProofs only [wipeS, List.foldl, List.set] at this ⊢
    rw [this]
    simp -implicitDefEqProofs
  rintro _ w' ⟨hw, rfl⟩
  rw [hw]
  refine okS_then (fun s w' => w' = w ∧ s = [some (tri3 b1 s1 e1), some (tri3 b2 s2 e2), some (.int lo), o3, o4, o5, o6, some (.int acc), some (.int lo), some (.int c), some (.int k), some (.int ((Cn (Pm b1 s1) lo n : Int) + (Cn (Pm b2 s2) lo n : Int))), some (.lst ((((List.range n).filter fun (i : Nat) => Pm b1 s1 (lo + 1 + (i : Int))).filter fun (i : Nat) => Pm b2 s2 (lo + 1 + (i : Int))).map fun (i : Nat) => D.int (lo + 1 + (i : Int)))), t13]) ?_ ?_
  · generalize ((List.range n).filter fun (i : Nat) => Pm b1 s1 (lo + 1 + (i : Int))) = xs at *
    obtain ⟨Y, hY⟩ : ∃ Y : List D, Y = xs.map fun (i : Nat) => D.int (lo + 1 + (i : Int)) := ⟨_, rfl⟩
    have hYl : Y.length ≤ 1000 := by rw [hY, List.length_map]; exact lr
    have := lc_map (G := (gN 13)) (T := (tE (eBin fEq (eBin fMod (eCB fInt (aCons (eBin fSub (eVar 13) (eBin fIx (eVar 1) (eC (.int 0)))) aNil)) (eBin fIx (eVar 1) (eC (.int 1)))) (eC (.int 0))))) (A := (eVar 13)) (fun (i : Nat) => D.int (lo + 1 + (i : Int))) (fun (i : Nat) => D.int (lo + 1 + (i : Int))) (fun (i : Nat) => Pm b2 s2 (lo + 1 + (i : Int))) (s := [some (tri3 b1 s1 e1), some (tri3 b2 s2 e2), some (.int lo), o3, o4, o5, o6, some (.int acc), some (.int lo), some (.int c), some (.int k), some (.int ((Cn (Pm b1 s1) lo n : Int) + (Cn (Pm b2 s2) lo n : Int))), some (.lst Y), none]) (w := w) (xs := xs) (fun i _ => by
      simp -implicitDefEqProofs only [v_gN, okO_some]
      refine ⟨okE_eq ?_, fun _ => okE_eq ?_⟩
      · simp -implicitDefEqProofs [gT, x0, x1, n2, d2, Pm]
      · simp -implicitDefEqProofs)
    rw [← hY] at this ⊢
    simp -implicitDefEqProofs [gT, x0, x1]
    refine ⟨by omega, ?_⟩
    try simp -implicitDefEqProofs only [wipeS, List.foldl, List.set] at this ⊢
    rw [this]
    simp -implicitDefEqProofs
  rintro _ w' ⟨hw, rfl⟩
  rw [hw]
  generalize ((List.range n).filter fun (i : Nat) => Pm b1 s1 (lo + 1 + (i : Int))) = xs at *
  generalize (xs.filter fun (i : Nat) => Pm b2 s2 (lo + 1 + (i : Int))) = ys at *
  obtain ⟨Y, hY⟩ : ∃ Y : List D, Y = ys.map fun (i : Nat) => D.int (lo + 1 + (i : Int)) := ⟨_, rfl⟩
  have hYl : (Y.length : Int) = (Cn (fun x => Pm b1 s1 x && Pm b2 s2 x) lo n : Int) := by rw [hY, List.length_map, l3']
  rw [← hY]
  have hm : mulOk k ((Cn (Pm b1 s1) lo n : Int) + (Cn (Pm b2 s2) lo n : Int) - (Cn (fun x => Pm b1 s1 x && Pm b2 s2 x) lo n : Int)) := mul_bt hk (bt_of (i := 50) (by omega) (by omega)) (by omega)
  simp -implicitDefEqProofs [hYl, hm]
theorem w_pairs (h1 : 1 ≤ s1 ∧ s1 ≤ 16) (h2 : 1 ≤ s2 ∧ s2 ≤ 16) (hlt : lo < hi) (bl : Bt 965 lo) (bh : Bt 965 hi) : F_w_pairs [tri3 b1 s1 e1, tri3 b2 s2 e2, .int lo, .int hi] w = .ok (.int (1 + (Cn (Pm b1 s1) lo (hi - lo - 1).toNat : Int) + (Cn (Pm b2 s2) lo (hi - lo - 1).toNat : Int) - (Cn (fun x => Pm b1 s1 x && Pm b2 s2 x) lo (hi - lo - 1).toNat : Int))) w := by
  apply okE_eq
  have hl2 : (2 : Nat) ≤ lim := by decide
  have hl3 : (3 : Nat) ≤ lim := by decide
  have gT : ∀ (b s e : Int) (s' : Sl), getS (some (tri3 b s e) :: s') 0 = some (tri3 b s e) := fun b s e s' => rfl
  have x1 : ∀ (b s e : Int) w, fIx w (tri3 b s e) (.int 1) = some (.int s) := fun b s e w => rfl
  have hW : 1 ≤ s1 * s2 ∧ s1 * s2 ≤ 256 := by
    have a := Int.mul_le_mul h1.1 h2.1 (by decide) (by omega)
    have c := Int.mul_le_mul h1.2 h2.2 (by omega) (by decide)
    omega
  have mW : mulOk s1 s2 := mul_bt (bt50 (by omega) (by omega)) (bt50 (by omega) (by omega)) (by decide)
  have q1 : s1 ∣ s1 * s2 := Int.dvd_mul_right ..
  have q2 : s2 ∣ s1 * s2 := Int.dvd_mul_left ..
  obtain ⟨W, hW'⟩ : ∃ W : Int, s1 * s2 = W := ⟨_, rfl⟩
  rw [hW'] at hW q1 q2
  have dW : divOk W := divOk_small (by omega) (by have := pp110; omega)
  have nW : W ≠ 0 := by omega
  have bN : Bt 968 (hi - lo - 1) := (bt_sub (bt_sub bh bl) ((show Bt 1 1 by unfold Bt; decide).mono (by omega))).mono (by omega)
  have eN : (((hi - lo - 1).toNat : Nat) : Int) = hi - lo - 1 := by omega
  have hR : 0 ≤ (hi - lo - 1).fdiv W ∧ (hi - lo - 1).fdiv W ≤ hi - lo - 1 := by
    rw [Int.fdiv_eq_ediv_of_nonneg _ (by omega)]
    exact ⟨Int.ediv_nonneg (by omega) (by omega), Int.ediv_le_self _ (by omega)⟩
  have hr := fmod_range (a := hi - lo - 1) (show 0 < W by omega)
  have hk := Int.fmod_add_mul_fdiv (hi - lo - 1) W
  have bR : Bt 970 ((hi - lo - 1).fdiv W) := by
    have := (bt_iff.mp bN).2
    exact (bt_of (i := 968) (by have : (0 : Int) < 2 ^ 968 := Int.pow_pos (by decide)
                                omega) (by omega)).mono (by omega)
  have mR : mulOk ((hi - lo - 1).fdiv W) W := mul_bt bR (bt50 (by omega) (by omega)) (by omega)
  have emax : (if 1 < hi - lo then hi - lo - 1 else 0) = hi - lo - 1 := by split <;> omega
  have hcm : (hi - lo - 1).fdiv W * W = W * (hi - lo - 1).fdiv W := Int.mul_comm ..
  have key : ∀ (P : Int → Bool), (∀ u, P (u + (W.toNat : Nat)) = P u) → (Cn P lo (hi - lo - 1).toNat : Int) = (hi - lo - 1).fdiv W * (Cn P lo W.toNat : Int) + (Cn P lo ((hi - lo - 1).fmod W).toNat : Int) := fun P hP => by
    have e : (hi - lo - 1).toNat = ((hi - lo - 1).fdiv W).toNat * W.toNat + ((hi - lo - 1).fmod W).toNat := by
      have : (((hi - lo - 1).toNat : Nat) : Int) = (((((hi - lo - 1).fdiv W).toNat * W.toNat + ((hi - lo - 1).fmod W).toNat) : Nat) : Int) := by
        push_cast
        rw [Int.toNat_of_nonneg hR.1, Int.toNat_of_nonneg (show 0 ≤ W by omega), Int.toNat_of_nonneg hr.1, eN, hcm]
        omega
      exact_mod_cast this
    rw [e, Cn_rounds hP]
    push_cast
    rw [Int.toNat_of_nonneg hR.1]
  have p1 : ∀ u, Pm b1 s1 (u + (W.toNat : Nat)) = Pm b1 s1 u := fun u => Pm_per (by omega) (by rw [Int.toNat_of_nonneg (by omega)]; exact q1) u
  have p2 : ∀ u, Pm b2 s2 (u + (W.toNat : Nat)) = Pm b2 s2 u := fun u => Pm_per (by omega) (by rw [Int.toNat_of_nonneg (by omega)]; exact q2) u
  have k1 := key _ p1
  have k2 := key _ p2
  have k3 := key (fun x => Pm b1 s1 x && Pm b2 s2 x) (fun u => by simp only [p1, p2])
  have w1 : (lo + W + 1 - lo - 1).toNat = W.toNat := by congr 1; omega
  have w2 : (hi - (hi - lo - 1).fdiv W * W - lo - 1).toNat = ((hi - lo - 1).fmod W).toNat := by congr 1; rw [hcm]; omega
  have fin : (1 : Int) + (hi - lo - 1).fdiv W * ((Cn (Pm b1 s1) lo W.toNat : Int) + (Cn (Pm b2 s2) lo W.toNat : Int) - (Cn (fun x => Pm b1 s1 x && Pm b2 s2 x) lo W.toNat : Int)) + 1 * ((Cn (Pm b1 s1) lo ((hi - lo - 1).fmod W).toNat : Int) + (Cn (Pm b2 s2) lo ((hi - lo - 1).fmod W).toNat : Int) - (Cn (fun x => Pm b1 s1 x && Pm b2 s2 x) lo ((hi - lo - 1).fmod W).toNat : Int)) = 1 + (Cn (Pm b1 s1) lo (hi - lo - 1).toNat : Int) + (Cn (Pm b2 s2) lo (hi - lo - 1).toNat : Int) - (Cn (fun x => Pm b1 s1 x && Pm b2 s2 x) lo (hi - lo - 1).toNat : Int) := by
    rw [k1, k2, k3, Int.mul_sub, Int.mul_add, Int.one_mul]
    omega
  obtain ⟨X, hX⟩ : ∃ X : Int, X = 1 + (Cn (Pm b1 s1) lo (hi - lo - 1).toNat : Int) + (Cn (Pm b2 s2) lo (hi - lo - 1).toNat : Int) - (Cn (fun x => Pm b1 s1 x && Pm b2 s2 x) lo (hi - lo - 1).toNat : Int) := ⟨_, rfl⟩
  rw [← hX] at fin ⊢
  have t1 := fun (Z : D → Wl → Prop) acc t8 t9 t10 t11 t12 t13 o3 o4 o5 o6 => pr_turn (w := w) (Z := Z) (b1 := b1) (s1 := s1) (e1 := e1) (b2 := b2) (s2 := s2) (e2 := e2) (lo := lo) (c := lo + W + 1) (k := (hi - lo - 1).fdiv W) (acc := acc) (o3 := o3) (o4 := o4) (o5 := o5) (o6 := o6) (t8 := t8) (t9 := t9) (t10 := t10) (t11 := t11) (t12 := t12) (t13 := t13) h1 h2 (by omega) bR
  have t2 := fun (Z : D → Wl → Prop) acc t8 t9 t10 t11 t12 t13 o3 o4 o5 o6 => pr_turn (w := w) (Z := Z) (b1 := b1) (s1 := s1) (e1 := e1) (b2 := b2) (s2 := s2) (e2 := e2) (lo := lo) (c := hi - (hi - lo - 1).fdiv W * W) (k := 1) (acc := acc) (o3 := o3) (o4 := o4) (o5 := o5) (o6 := o6) (t8 := t8) (t9 := t9) (t10 := t10) (t11 := t11) (t12 := t12) (t13 := t13) h1 h2 (by omega) ((show Bt 1 1 by unfold Bt; decide).mono (by omega))
  rw [w1] at t1
  rw [w2] at t2
  have hnl : ¬ hi ≤ lo := by omega
  rw [F_w_pairs, okE_run]
  refine ⟨rfl, ?_⟩
  rw [pr_cut]
  obtain ⟨U, hU⟩ : ∃ U, U = prU := ⟨_, rfl⟩
  rw [← hU] at t1 t2 ⊢
  simp -implicitDefEqProofs [List.replicate, gT, x1, mW, dW, nW, emax, mR, hl2, hl3, hnl, hW']
  refine okS_cons ?_
  refine okO_imp (t1 _ _ _ _ _ _ _ _ _ _ _ _) fun s hs => okS_mono hs ?_ (fun _ _ h => h)
  rintro _ w' ⟨hw, t8, t9, t10, t11, t12, t13, rfl⟩
  rw [hw]
  refine okS_cons ?_
  refine okO_imp (t2 _ _ _ _ _ _ _ _ _ _ _ _) fun s hs => okS_mono hs ?_ (fun _ _ h => h)
  rintro _ w' ⟨hw, t8, t9, t10, t11, t12, t13, rfl⟩
  rw [hw]
  simp -implicitDefEqProofs
  rw [Int.one_mul] at fin
  exact fin
end
end DL

set_option maxHeartbeats 2000000
namespace DL
open PySem PySem.Spec PyProof.Rows L2
/-! ### right -/
section
theorem okE_lcC {G : DG} {T : DT} {A : DE} {d : D} {r : List D} {s : Sl} {w : Wl} {Q : List D → Wl → Prop} : okE (lcD G T A (d :: r) s w) Q = okO (G d s) fun s1 => okE (T s1 w).noer fun k w1 => if k = true then okE (A s1 w1).noer fun y w2 => okE (lcD G T A r s w2) fun ys w3 => Q (y :: ys) w3 else okE (lcD G T A r s w1) Q := by
  rw [lcD]
  cases G d s with
  | none => rfl
  | some s1 =>
    show okE ((T s1 w).noer.bind _) Q = okE (T s1 w).noer _
    rw [okE_bind]
    congr
    funext k w1
    cases k
    · rfl
    · show okE ((A s1 w1).noer.bind _) Q = okE (A s1 w1).noer _
      rw [okE_bind]
      congr
      funext y w2
      rw [okE_bind]
      rfl
theorem okE_lcN {G : DG} {T : DT} {A : DE} {s : Sl} {w : Wl} {Q : List D → Wl → Prop} : okE (lcD G T A [] s w) Q = Q [] w := rfl

def rtT : DS := (sSeq (sIf (tOn (tE (eBin fNe (eCall 2 F_offsets (aCons (eL (aLst (aCons (eVar 2) (aCons (eVar 3) aNil)))) (aCons (eVar 5) aNil))) (eVar 7))) (tNo (tTr (eCall 3 F_are_bases (aCons (eL (aLst (aCons (eVar 2) (aCons (eVar 3) aNil)))) (aCons (eVar 5) (aCons (eTup (aCons (eC (.int 5)) (aCons (eBin fAdd (eC (.int 5)) (eVar 6)) aNil))) aNil))))))) (sRet (eC (.bl false))) sNx) (sSeq (sMul [8, 9] (mVal (eTup (aCons (eBin fIx (eBin fIx (eVar 7) (eC (.int 0))) (eC (.int 2))) (aCons (eBin fIx (eVar 1) (eC (.int 0))) (aCons (eBin fAdd (eBin fIx (eBin fIx (eVar 7) (eC (.int 0))) (eC (.int 2))) (eCall 1 F_w_units (aCons (eVar 2) aNil))) aNil)))) (mVal (eTup (aCons (eBin fIx (eBin fIx (eVar 7) (eC (.int 1))) (eC (.int 2))) (aCons (eBin fIx (eVar 1) (eC (.int 1))) (aCons (eBin fAdd (eBin fIx (eBin fIx (eVar 7) (eC (.int 1))) (eC (.int 2))) (eCall 1 F_w_units (aCons (eVar 3) aNil))) aNil)))) aNil))) (sSeq (sMul [10, 11] (mVal (eCB fMax2 (aCons (eBin fIx (eVar 8) (eC (.int 0))) (aCons (eBin fIx (eVar 9) (eC (.int 0))) aNil))) (mVal (eCB fMin2 (aCons (eBin fIx (eVar 8) (eC (.int 2))) (aCons (eBin fIx (eVar 9) (eC (.int 2))) aNil))) aNil))) (sSeq (sIf (tE (eBin fNe (eCall 4 F_shared (aCons (eL (aLst (aCons (eVar 2) (aCons (eVar 3) aNil)))) (aCons (eVar 5) (aCons (eC (.str "a")) (aCons (eC (.str "b")) aNil))))) (eIf (tE (eBin fLt (eVar 10) (eVar 11))) (eTup (aCons (eBin fSub (eVar 10) (eBin fIx (eVar 8) (eC (.int 0)))) (aCons (eBin fSub (eVar 11) (eVar 10)) aNil))) (eC .non)))) (sRet (eC (.bl false))) sNx) (sSeq (sAsg 12 (eBin fDiv (eCall 2 F_w_ahead (aCons (eVar 2) (aCons (eBin fIx (eVar 4) (eC (.int 0))) aNil))) (eBin fIx (eVar 1) (eC (.int 0))))) (sSeq (sAsg 13 (eBin fSub (eCB fMin2 (aCons (eBin fAdd (eBin fIx (eVar 8) (eC (.int 0))) (eBin fMul (eBin fAdd (eVar 12) (eC (.int 1))) (eBin fIx (eVar 1) (eC (.int 0))))) (aCons (eBin fIx (eVar 9) (eC (.int 2))) aNil))) (eC (.int 1)))) (sSeq (sAsg 14 (eBin fDiv (eCall 2 F_w_ahead (aCons (eVar 3) (aCons (eBin fIx (eVar 4) (eC (.int 1))) aNil))) (eBin fIx (eVar 1) (eC (.int 1))))) (sSeq (sIf (tE (eBin fNe (eCall 5 F_touched (aCons (eL (aLst (aCons (eVar 2) (aCons (eVar 3) aNil)))) (aCons (eVar 5) (aCons (eC (.str "a")) (aCons (eVar 12) (aCons (eC (.str "b")) aNil)))))) (eTup (aCons (eVar 14) (aCons (eBin fDiv (eBin fSub (eVar 13) (eBin fIx (eVar 9) (eC (.int 0)))) (eBin fIx (eVar 1) (eC (.int 1)))) aNil))))) (sRet (eC (.bl false))) sNx) (sSeq (sAsg 15 (eCall 4 F_w_pairs (aCons (eVar 8) (aCons (eVar 9) (aCons (eVar 10) (aCons (eVar 11) aNil)))))) (sSeq (sIf (tOn (tE (eBin fNe (eCall 4 F_pairs_number (aCons (eL (aLst (aCons (eVar 2) (aCons (eVar 3) aNil)))) (aCons (eVar 5) (aCons (eC (.str "a")) (aCons (eC (.str "b")) aNil))))) (eVar 15))) (tE (eBin fNe (eCall 4 F_pairs_number (aCons (eL (aLst (aCons (eVar 2) (aCons (eVar 3) aNil)))) (aCons (eVar 5) (aCons (eC (.str "b")) (aCons (eC (.str "a")) aNil))))) (eVar 15)))) (sRet (eC (.bl false))) sNx) (sSeq (sAsg 16 (eIf (tAn (tE (eBin fEq (eBin fIx (eVar 1) (eC (.int 0))) (eBin fIx (eVar 1) (eC (.int 1))))) (tE (eBin fEq (eBin fMod (eCB fInt (aCons (eVar 6) aNil)) (eBin fIx (eVar 1) (eC (.int 0)))) (eC (.int 0))))) (eBin fDiv (eBin fSub (eVar 11) (eVar 10)) (eBin fIx (eVar 1) (eC (.int 0)))) (eC (.int 0)))) (sRet (eBin fEq (eCall 4 F_twins_number (aCons (eL (aLst (aCons (eVar 2) (aCons (eVar 3) aNil)))) (aCons (eVar 5) (aCons (eC (.str "a")) (aCons (eC (.str "b")) aNil))))) (eVar 16))))))))))))))
theorem rt_cut : B_w_right = (sSeq (sAsg 1 (eL (aLst (aCons (eBin fAdd (eC (.int 1)) (eCall 2 F_w_draw (aCons (eVar 0) (aCons (eC (.int 16)) aNil)))) (aCons (eBin fAdd (eC (.int 1)) (eCall 2 F_w_draw (aCons (eVar 0) (aCons (eC (.int 16)) aNil)))) aNil))))) (sSeq (sTg (gTL (gCons' (gN 2) (gCons' (gN 3) gNil')) 2) (eL (aLc (iZip (aCons (eTup (aCons (eC (.str "a")) (aCons (eC (.str "b")) aNil))) (aCons (eVar 1) aNil))) (gT (gCons' (gN 17) (gCons' (gN 18) gNil')) 2) tYesD (eTup (aCons (eVar 17) (aCons (eVar 18) (aCons (eCall 1 F_w_bounds (aCons (eVar 0) aNil)) aNil)))) [17, 18]))) (sSeq (sAsg 4 (eL (aLst (aCons (eCall 2 F_w_spot (aCons (eVar 0) (aCons (eVar 2) aNil))) (aCons (eCall 2 F_w_spot (aCons (eVar 0) (aCons (eVar 3) aNil))) aNil))))) (sSeq (sAsg 5 (eL (aLst (aCons (eTup (aCons (eTup (aCons (eC (.str "a")) (aCons (eBin fIx (eVar 4) (eC (.int 0))) aNil))) (aCons (eTup (aCons (eC (.str "b")) (aCons (eBin fIx (eVar 4) (eC (.int 1))) aNil))) aNil))) aNil)))) (sSeq (sAsg 6 (eBin fSub (eCall 2 F_w_ahead (aCons (eVar 2) (aCons (eBin fIx (eVar 4) (eC (.int 0))) aNil))) (eCall 2 F_w_ahead (aCons (eVar 3) (aCons (eBin fIx (eVar 4) (eC (.int 1))) aNil))))) (sSeq (sAsg 7 (eL (aLst (aCons (eTup (aCons (eC (.str "a")) (aCons (eC (.str "a")) (aCons (eCB fMax2 (aCons (eC (.int 0)) (aCons (eUn fNeg (eVar 6)) aNil))) aNil)))) (aCons (eTup (aCons (eC (.str "b")) (aCons (eC (.str "a")) (aCons (eCB fMax2 (aCons (eC (.int 0)) (aCons (eVar 6) aNil))) aNil)))) aNil))))) rtT)))))) := rfl
theorem okD2 {a b : Int} : okD (.tup [.int a, .int b]) = true := rfl
theorem eqD2 {a b : Int} : eqD (.tup [.int a, .int b]) (.tup [.int a, .int b]) = true := by simp [eqD, toPD, toPDs, PyData.eqv, PyData.eqvAll]
theorem okD_of {a b : Int} : okD (.lst [.tup [.str "a", .str "a", .int a], .tup [.str "b", .str "a", .int b]]) = true := by
  have h1 := lay_a
  have h2 := lay_b
  unfold okD SeqAt.shaped
  simp only [PyData.canLay0] at h1 h2
  simp [toPD, toPDs, PyData.canLay0, PyData.canLayAll0, PyData.depth, PyData.depthAll, h1, h2]
theorem eqD_of {a b : Int} : eqD (.lst [.tup [.str "a", .str "a", .int a], .tup [.str "b", .str "a", .int b]]) (.lst [.tup [.str "a", .str "a", .int a], .tup [.str "b", .str "a", .int b]]) = true := by simp [eqD, toPD, toPDs, PyData.eqv, PyData.eqvAll]
variable {w : Wl}
theorem rt_core {VA VB EA EB XX : D} {sa sb DL T U NA NB LO HI ia ib LA PX TW PA PB q0 q1 q2 : Int} {N : Sl → Wl → Prop}
    (gA : ∀ s : Sl, getS (some VA :: s) 0 = some VA) (gB : ∀ s : Sl, getS (some VB :: s) 0 = some VB) (gEA : ∀ s : Sl, getS (some EA :: s) 0 = some EA) (gEB : ∀ s : Sl, getS (some EB :: s) 0 = some EB) (gX : ∀ s : Sl, getS (some XX :: s) 0 = some XX)
    (hsa : 1 ≤ sa ∧ sa ≤ 16) (hsb : 1 ≤ sb ∧ sb ≤ 16)
    (e1 : ∀ w, F_offsets [.lst [VA, VB], XX] w = .ok (.lst [.tup [.str "a", .str "a", .int T], .tup [.str "b", .str "a", .int U]]) w)
    (e2 : ∀ w, F_are_bases [.lst [VA, VB], XX, .tup [.int 5, .int (5 + DL)]] w = .ok (.bl true) w)
    (e3 : ∀ w, F_shared [.lst [VA, VB], XX, .str "a", .str "b"] w = .ok (.tup [.int q0, .int q1]) w)
    (e4 : ∀ w, F_touched [.lst [VA, VB], XX, .str "a", .int ia, .str "b"] w = .ok (.tup [.int ib, .int q2]) w)
    (e5 : ∀ w, F_pairs_number [.lst [VA, VB], XX, .str "a", .str "b"] w = .ok (.int PX) w)
    (e6 : ∀ w, F_pairs_number [.lst [VA, VB], XX, .str "b", .str "a"] w = .ok (.int PX) w)
    (e7 : ∀ w, F_twins_number [.lst [VA, VB], XX, .str "a", .str "b"] w = .ok (.int TW) w)
    (e8 : ∀ w, F_w_ahead [VA, EA] w = .ok (.int PA) w) (e9 : ∀ w, F_w_ahead [VB, EB] w = .ok (.int PB) w)
    (e10 : ∀ w, F_w_units [VA] w = .ok (.int NA) w) (e11 : ∀ w, F_w_units [VB] w = .ok (.int NB) w)
    (e12 : ∀ w, F_w_pairs [.tup [.int T, .int sa, .int (T + NA)], .tup [.int U, .int sb, .int (U + NB)], .int LO, .int HI] w = .ok (.int PX) w)
    (hLO : (if T < U then U else T) = LO) (hHI : (if U + NB < T + NA then U + NB else T + NA) = HI) (hlt : LO < HI) (hq0 : LO - T = q0) (hq1 : HI - LO = q1)
    (hia : PA.fdiv sa = ia) (hib : PB.fdiv sb = ib) (hm : mulOk (ia + 1) sa) (hLA : (if U + NB < T + (ia + 1) * sa then U + NB else T + (ia + 1) * sa) - 1 = LA) (hq2 : (LA - U).fdiv sb = q2)
    (hTW : (if sa = sb ∧ DL.fmod sa = 0 then (HI - LO).fdiv sa else 0) = TW) : okS (rtT [some D.well, some (.lst [.int sa, .int sb]), some (VA), some (VB), some (.lst [EA, EB]), some (XX), some (.int DL), some (.lst [.tup [.str "a", .str "a", .int T], .tup [.str "b", .str "a", .int U]]), none, none, none, none, none, none, none, none, none, none, none] w) N (fun d w' => d = .bl true ∧ w' = w) := by
  have hl2 : (2 : Nat) ≤ lim := by decide
  have hl3 : (3 : Nat) ≤ lim := by decide
  have na : sa ≠ 0 := by omega
  have nb : sb ≠ 0 := by omega
  have da : divOk sa := divOk_small (by omega) (by have := pp110; omega)
  have db : divOk sb := divOk_small (by omega) (by have := pp110; omega)
  unfold rtT
  refine okS_then (fun s w' => w' = w ∧ s = [some D.well, some (.lst [.int sa, .int sb]), some (VA), some (VB), some (.lst [EA, EB]), some (XX), some (.int DL), some (.lst [.tup [.str "a", .str "a", .int T], .tup [.str "b", .str "a", .int U]]), none, none, none, none, none, none, none, none, none, none, none]) ?_ ?_
  · simp -implicitDefEqProofs [gA, gB, gEA, gEB, gX, hl2, hl3, na, nb, da, db, e1, e2, okD_of, eqD_of]
  rintro _ w' ⟨hw, rfl⟩
  rw [hw]
  refine okS_then (fun s w' => w' = w ∧ s = [some D.well, some (.lst [.int sa, .int sb]), some (VA), some (VB), some (.lst [EA, EB]), some (XX), some (.int DL), some (.lst [.tup [.str "a", .str "a", .int T], .tup [.str "b", .str "a", .int U]]), some (.tup [.int T, .int sa, .int (T + NA)]), some (.tup [.int U, .int sb, .int (U + NB)]), none, none, none, none, none, none, none, none, none]) ?_ ?_
  · simp -implicitDefEqProofs [gA, gB, gEA, gEB, gX, hl2, hl3, na, nb, da, db, e10, e11]
  rintro _ w' ⟨hw, rfl⟩
  rw [hw]
  refine okS_then (fun s w' => w' = w ∧ s = [some D.well, some (.lst [.int sa, .int sb]), some (VA), some (VB), some (.lst [EA, EB]), some (XX), some (.int DL), some (.lst [.tup [.str "a", .str "a", .int T], .tup [.str "b", .str "a", .int U]]), some (.tup [.int T, .int sa, .int (T + NA)]), some (.tup [.int U, .int sb, .int (U + NB)]), some (.int LO), some (.int HI), none, none, none, none, none, none, none]) ?_ ?_
  · simp -implicitDefEqProofs [gA, gB, gEA, gEB, gX, hl2, hl3, na, nb, da, db, hLO, hHI]
  rintro _ w' ⟨hw, rfl⟩
  rw [hw]
  refine okS_then (fun s w' => w' = w ∧ s = [some D.well, some (.lst [.int sa, .int sb]), some (VA), some (VB), some (.lst [EA, EB]), some (XX), some (.int DL), some (.lst [.tup [.str "a", .str "a", .int T], .tup [.str "b", .str "a", .int U]]), some (.tup [.int T, .int sa, .int (T + NA)]), some (.tup [.int U, .int sb, .int (U + NB)]), some (.int LO), some (.int HI), none, none, none, none, none, none, none]) ?_ ?_
  · simp -implicitDefEqProofs [gA, gB, gEA, gEB, gX, hl2, hl3, na, nb, da, db, e3, hlt, hq0, hq1, okD2, eqD2]
  rintro _ w' ⟨hw, rfl⟩
  rw [hw]
  refine okS_then (fun s w' => w' = w ∧ s = [some D.well, some (.lst [.int sa, .int sb]), some (VA), some (VB), some (.lst [EA, EB]), some (XX), some (.int DL), some (.lst [.tup [.str "a", .str "a", .int T], .tup [.str "b", .str "a", .int U]]), some (.tup [.int T, .int sa, .int (T + NA)]), some (.tup [.int U, .int sb, .int (U + NB)]), some (.int LO), some (.int HI), some (.int ia), none, none, none, none, none, none]) ?_ ?_
  · simp -implicitDefEqProofs [gA, gB, gEA, gEB, gX, hl2, hl3, na, nb, da, db, e8, hia]
  rintro _ w' ⟨hw, rfl⟩
  rw [hw]
  refine okS_then (fun s w' => w' = w ∧ s = [some D.well, some (.lst [.int sa, .int sb]), some (VA), some (VB), some (.lst [EA, EB]), some (XX), some (.int DL), some (.lst [.tup [.str "a", .str "a", .int T], .tup [.str "b", .str "a", .int U]]), some (.tup [.int T, .int sa, .int (T + NA)]), some (.tup [.int U, .int sb, .int (U + NB)]), some (.int LO), some (.int HI), some (.int ia), some (.int LA), none, none, none, none, none]) ?_ ?_
  · simp -implicitDefEqProofs [gA, gB, gEA, gEB, gX, hl2, hl3, na, nb, da, db, hm, hLA]
  rintro _ w' ⟨hw, rfl⟩
  rw [hw]
  refine okS_then (fun s w' => w' = w ∧ s = [some D.well, some (.lst [.int sa, .int sb]), some (VA), some (VB), some (.lst [EA, EB]), some (XX), some (.int DL), some (.lst [.tup [.str "a", .str "a", .int T], .tup [.str "b", .str "a", .int U]]), some (.tup [.int T, .int sa, .int (T + NA)]), some (.tup [.int U, .int sb, .int (U + NB)]), some (.int LO), some (.int HI), some (.int ia), some (.int LA), some (.int ib), none, none, none, none]) ?_ ?_
  · simp -implicitDefEqProofs [gA, gB, gEA, gEB, gX, hl2, hl3, na, nb, da, db, e9, hib]
  rintro _ w' ⟨hw, rfl⟩
  rw [hw]
  refine okS_then (fun s w' => w' = w ∧ s = [some D.well, some (.lst [.int sa, .int sb]), some (VA), some (VB), some (.lst [EA, EB]), some (XX), some (.int DL), some (.lst [.tup [.str "a", .str "a", .int T], .tup [.str "b", .str "a", .int U]]), some (.tup [.int T, .int sa, .int (T + NA)]), some (.tup [.int U, .int sb, .int (U + NB)]), some (.int LO), some (.int HI), some (.int ia), some (.int LA), some (.int ib), none, none, none, none]) ?_ ?_
  · simp -implicitDefEqProofs [gA, gB, gEA, gEB, gX, hl2, hl3, na, nb, da, db, e4, hq2, okD2, eqD2]
  rintro _ w' ⟨hw, rfl⟩
  rw [hw]
  refine okS_then (fun s w' => w' = w ∧ s = [some D.well, some (.lst [.int sa, .int sb]), some (VA), some (VB), some (.lst [EA, EB]), some (XX), some (.int DL), some (.lst [.tup [.str "a", .str "a", .int T], .tup [.str "b", .str "a", .int U]]), some (.tup [.int T, .int sa, .int (T + NA)]), some (.tup [.int U, .int sb, .int (U + NB)]), some (.int LO), some (.int HI), some (.int ia), some (.int LA), some (.int ib), some (.int PX), none, none, none]) ?_ ?_
  · simp -implicitDefEqProofs [gA, gB, gEA, gEB, gX, hl2, hl3, na, nb, da, db, e12]
  rintro _ w' ⟨hw, rfl⟩
  rw [hw]
  refine okS_then (fun s w' => w' = w ∧ s = [some D.well, some (.lst [.int sa, .int sb]), some (VA), some (VB), some (.lst [EA, EB]), some (XX), some (.int DL), some (.lst [.tup [.str "a", .str "a", .int T], .tup [.str "b", .str "a", .int U]]), some (.tup [.int T, .int sa, .int (T + NA)]), some (.tup [.int U, .int sb, .int (U + NB)]), some (.int LO), some (.int HI), some (.int ia), some (.int LA), some (.int ib), some (.int PX), none, none, none]) ?_ ?_
  · simp -implicitDefEqProofs [gA, gB, gEA, gEB, gX, hl2, hl3, na, nb, da, db, e5, e6]
  rintro _ w' ⟨hw, rfl⟩
  rw [hw]
  refine okS_then (fun s w' => w' = w ∧ s = [some D.well, some (.lst [.int sa, .int sb]), some (VA), some (VB), some (.lst [EA, EB]), some (XX), some (.int DL), some (.lst [.tup [.str "a", .str "a", .int T], .tup [.str "b", .str "a", .int U]]), some (.tup [.int T, .int sa, .int (T + NA)]), some (.tup [.int U, .int sb, .int (U + NB)]), some (.int LO), some (.int HI), some (.int ia), some (.int LA), some (.int ib), some (.int PX), some (.int TW), none, none]) ?_ ?_
  · subst hTW
    by_cases c1 : sa = sb
    · by_cases c2 : DL.fmod sa = 0
      · simp -implicitDefEqProofs [gA, gB, gEA, gEB, gX, hl2, hl3, na, nb, da, db, c1, c2]
        rw [c1] at c2
        rw [if_pos c2]
        exact fun hh => absurd c2 hh
      · simp -implicitDefEqProofs [gA, gB, gEA, gEB, gX, hl2, hl3, na, nb, da, db, c1, c2]
        rw [c1] at c2
        rw [if_neg c2]
        exact fun hh => absurd hh c2
    · simp -implicitDefEqProofs [gA, gB, gEA, gEB, gX, hl2, hl3, na, nb, da, db, c1]
  rintro _ w' ⟨hw, rfl⟩
  rw [hw]
  simp -implicitDefEqProofs [gA, gB, gEA, gEB, gX, hl2, hl3, na, nb, da, db, e7]
end
end DL

set_option maxHeartbeats 2000000
namespace DL
open PySem PySem.Spec PyProof.Rows L2
/-! ### bases -/
section
variable {w : Wl} {b : Nat} {sa sb : Int} {Ba Bb : List (Int × Int)} {xa xb : List Int}
def tBs (x y : Int) : D := .dcf (.k [.inr "a", .inr "b"]) [.int x, .int y]
theorem t_a {x y : Int} {P : D → Prop} : okT (tBs x y) (.str "a") P = P (.int x) := rfl
theorem t_b {x y : Int} {P : D → Prop} : okT (tBs x y) (.str "b") P = P (.int y) := rfl
theorem e_bases (h : Two sa sb Ba Bb xa xb) {k d : Int} (hd : d = dl sa sb Ba Bb xa xb) : F_are_bases [A2v sa sb Ba Bb, X2v xa xb, .tup [.int k, .int (k + d)]] w = .ok (.bl true) w := by
  apply okE_eq
  have hlim : lim = 16000000 := rfl
  have hl1 : (1 : Nat) ≤ lim := by decide
  have hl2 : (2 : Nat) ≤ lim := by decide
  have hl2' : (2 : Nat) < lim := by decide
  have e1 := e_check_layout (w := w) h.vs h.rs
  have e2 := e_names_of (w := w) (L := L2v sa sb Ba Bb) h.vs.few
  have e3 := e_lines_of (w := w) h.vs h.rs
  have gX := h.rs.get
  have gA : ∀ s : Sl, getS (some (A2v sa sb Ba Bb) :: s) 0 = some (A2v sa sb Ba Bb) := fun s => rfl
  have eN : ((L2v sa sb Ba Bb).map Vr.n).map D.str = [.str "a", .str "b"] := rfl
  have nA : ∀ w, fLen w [A2v sa sb Ba Bb] = some (.int 2) := fun w => rfl
  have i1 : fIsi w [.tup [.int k, .int (k + d)], .tup [.ty "list", .ty "tuple"]] = some (.bl true) := rfl
  rw [eN] at e2
  rw [show D.lst ((L2v sa sb Ba Bb).map vD) = A2v sa sb Ba Bb from rfl] at e1 e2 e3
  have e4 : lnsD [r2v sa sb Ba Bb xa xb] = .lst [.tup [.int 0, .lst [.tup [.str "a", .int (sa * place Ba xa)], .tup [.str "b", .int (sb * place Bb xb)]]]] := rfl
  rw [e4] at e3
  have hk : k + d + sb * place Bb xb = k + sa * place Ba xa := by rw [hd]; unfold dl; omega
  generalize sa * place Ba xa = p at *
  generalize sb * place Bb xb = q at *
  generalize A2v sa sb Ba Bb = AA at *
  generalize X2v xa xb = XX at *
  have hz : ∀ s : Sl, okE (eDc (aDc (iZip (aCons (eCall 1 F_names_of (aCons (eVar 0) aNil)) (aCons (eVar 2) aNil))) (gT (gCons' (gN 6) (gCons' (gN 7) gNil')) 2) tYesD (eVar 6) (eVar 7) [6, 7]) [some AA, some XX, some (.tup [.int k, .int (k + d)]), none, none, none, none, none, none] w) fun D w1 => D = tBs k (k + d) ∧ w1 = w := fun s => by
    unfold eDc aDc
    have ez : iZip (aCons (eCall 1 F_names_of (aCons (eVar 0) aNil)) (aCons (eVar 2) aNil)) [some AA, some XX, some (.tup [.int k, .int (k + d)]), none, none, none, none, none, none] w = .ok [.tup [.str "a", .int k], .tup [.str "b", .int (k + d)]] w := by
      unfold iZip
      have : aCons (eCall 1 F_names_of (aCons (eVar 0) aNil)) (aCons (eVar 2) aNil) [some AA, some XX, some (.tup [.int k, .int (k + d)]), none, none, none, none, none, none] w = .ok [.lst [.str "a", .str "b"], .tup [.int k, .int (k + d)]] w := by
        apply okE_eq
        simp -implicitDefEqProofs [gA, e2]
      rw [this]
      rfl
    rw [ez]
    exact ⟨rfl, rfl⟩
  have hz0 := hz []
  obtain ⟨Z0, hZ0⟩ : ∃ Z : DE, Z = eDc (aDc (iZip (aCons (eCall 1 F_names_of (aCons (eVar 0) aNil)) (aCons (eVar 2) aNil))) (gT (gCons' (gN 6) (gCons' (gN 7) gNil')) 2) tYesD (eVar 6) (eVar 7) [6, 7]) := ⟨_, rfl⟩
  rw [← hZ0] at hz0
  have hz1 := okE_eq hz0
  have gT : ∀ s : Sl, getS (some (tBs k (k + d)) :: s) 0 = some (tBs k (k + d)) := fun s => rfl
  have gl : ∀ (x : D) (s : Sl), getS (some (.lst [x]) :: s) 0 = some (.lst [x]) := fun x s => rfl
  rw [F_are_bases, okE_run]
  refine ⟨rfl, ?_⟩
  unfold B_are_bases
  rw [← hZ0]
  have hone : ∀ z : Int, (sset [z, z]).length = 1 := fun z => by simp [sset, insS]
  have hls : ∀ s : Sl, ∀ Q : D → Wl → Prop, Q (.int 1) w → okE (eLenSS (iSeq (eVar 5)) (DL.gT (gCons' (gN 6) (gCons' (gN 8) gNil')) 2) tYesD (eBin fAdd (eGetF (eVar 3) (eVar 6)) (eVar 8)) [6, 8] [some AA, some XX, some (.tup [.int k, .int (k + d)]), some (tBs k (k + d)), some (.int 0), some (.lst [.tup [.str "a", .int p], .tup [.str "b", .int q]]), none, none, none] w) Q := fun s Q hQ => by
    obtain ⟨SL, hSL⟩ : ∃ SL : Sl, SL = [some AA, some XX, some (.tup [.int k, .int (k + d)]), some (tBs k (k + d)), some (.int 0), some (.lst [.tup [.str "a", .int p], .tup [.str "b", .int q]]), none, none, none] := ⟨_, rfl⟩
    have hi : iSeq (eVar 5) SL w = .ok [.tup [.str "a", .int p], .tup [.str "b", .int q]] w := by rw [hSL]; rfl
    have hw : wipeS SL [6, 8] = SL := by rw [hSL]; rfl
    have hl : lcD (DL.gT (gCons' (gN 6) (gCons' (gN 8) gNil')) 2) tYesD (eBin fAdd (eGetF (eVar 3) (eVar 6)) (eVar 8)) [.tup [.str "a", .int p], .tup [.str "b", .int q]] SL w = .ok [.int (k + p), .int (k + p)] w := by
      refine lc_all (γ := Str × Int) (fun x => .tup [.str x.1, .int x.2]) (fun _ => .int (k + p)) (xs := [("a", p), ("b", q)]) (fun x hx => ?_)
      rw [hSL]
      rcases List.mem_cons.mp hx with rfl | hx
      · simp -implicitDefEqProofs [wipeS, okE_getT, t_a, gT]
      · rcases List.mem_cons.mp hx with rfl | hx
        · simp -implicitDefEqProofs [wipeS, okE_getT, t_b, gT, hk]
        · cases hx
    rw [← hSL]
    unfold eLenSS
    rw [hi]
    simp only [R.bind_ok]
    rw [if_pos (by exact hl2), hw, hl]
    have := hone (k + p)
    show okE (R.ok (D.int ((sset [k + p, k + p]).length : Nat)) w) Q
    rw [this]
    exact hQ
  simp -implicitDefEqProofs [gA, gX, e1, nA, i1, hl2, List.replicate]
  refine okE_lcallW (γ := Int) .int (fun _ => .bl true) (xs := [k, k + d]) rfl (fun x hx => ?_) ?_
  · simp -implicitDefEqProofs [e_is_number]
  rw [all_true]
  simp -implicitDefEqProofs [hz1, e3]
  refine okS_cons ?_
  simp -implicitDefEqProofs [hl2]
  refine hls [] _ ?_
  simp -implicitDefEqProofs
end
end DL

set_option maxHeartbeats 2000000
namespace DL
open PySem PySem.Spec PyProof.Rows L2
/-! ### right, drawn -/
section
variable {w : Wl} {sa sb : Int} {Ba Bb : List (Int × Int)} {xa xb : List Int}
theorem Two.arith (h : Two sa sb Ba Bb xa xb) : (sa * place Ba xa).fdiv sa = place Ba xa ∧ (sb * place Bb xb).fdiv sb = place Bb xb ∧ 0 ≤ place Ba xa ∧ place Ba xa < prod (Ba.map ext) ∧ 0 ≤ sa * place Ba xa ∧ sa * place Ba xa + sa ≤ sa * prod (Ba.map ext) ∧ 0 ≤ sb * place Bb xb ∧ sb * place Bb xb + sb ≤ sb * prod (Bb.map ext) := by
  have h1 := h.s1
  have h2 := h.s2
  have ka := place_range h.e1
  have kb := place_range h.e2
  have m1 := Int.mul_le_mul_of_nonneg_left (show place Ba xa + 1 ≤ prod (Ba.map ext) by omega) (show 0 ≤ sa by omega)
  have m2 := Int.mul_le_mul_of_nonneg_left (show place Bb xb + 1 ≤ prod (Bb.map ext) by omega) (show 0 ≤ sb by omega)
  rw [Int.mul_add, Int.mul_one] at m1 m2
  exact ⟨Int.mul_fdiv_cancel_left _ (by omega), Int.mul_fdiv_cancel_left _ (by omega), ka.1, ka.2, Int.mul_nonneg (by omega) ka.1, m1, Int.mul_nonneg (by omega) kb.1, m2⟩
theorem rt_end {N : Sl → Wl → Prop} {T U : Int} (h : Two sa sb Ba Bb xa xb) (hT : T = 0 - mn2 (dl sa sb Ba Bb xa xb) 0) (hU : U = dl sa sb Ba Bb xa xb - mn2 (dl sa sb Ba Bb xa xb) 0) : okS (rtT [some .well, some (.lst [.int sa, .int sb]), some (vD (va sa Ba)), some (vD (vb sb Bb)), some (.lst [eD xa, eD xb]), some (X2v xa xb), some (.int (dl sa sb Ba Bb xa xb)), some (.lst [.tup [.str "a", .str "a", .int T], .tup [.str "b", .str "a", .int U]]), none, none, none, none, none, none, none, none, none, none, none] w) N (fun d w' => d = .bl true ∧ w' = w) := by
  have h1 := h.s1
  have h2 := h.s2
  obtain ⟨f1, f2, a1, a2, a3, a4, a5, a6⟩ := h.arith
  have hdl : dl sa sb Ba Bb xa xb = sa * place Ba xa - sb * place Bb xb := rfl
  have e1 := fun w => e_offsets (w := w) h
  unfold ofD at e1
  rw [← hT, ← hU] at e1
  have e2 := fun w => e_bases (w := w) h (k := 5) rfl
  have bst := h.ts.bst
  have cm : place Ba xa * sa = sa * place Ba xa := Int.mul_comm ..
  have cm2 : (place Ba xa + 1) * sa = sa * place Ba xa + sa := by rw [Int.add_mul, Int.one_mul, cm]
  have lt : stU 0 (dl sa sb Ba Bb xa xb) < enU 0 sa (prod (Ba.map ext)) (dl sa sb Ba Bb xa xb) sb (prod (Bb.map ext)) := by
    unfold stU enU mx2 mn2
    rw [hdl]
    split <;> split <;> omega
  have sy1 : stU (dl sa sb Ba Bb xa xb) 0 = stU 0 (dl sa sb Ba Bb xa xb) := by
    unfold stU mx2
    split <;> split <;> omega
  have sy2 : enU (dl sa sb Ba Bb xa xb) sb (prod (Bb.map ext)) 0 sa (prod (Ba.map ext)) = enU 0 sa (prod (Ba.map ext)) (dl sa sb Ba Bb xa xb) sb (prod (Bb.map ext)) := by
    unfold enU mn2
    split <;> split <;> omega
  have e3 := fun w => e_shared (w := w) h.ts lt
  have bP : Bt 900 (0 + place Ba xa * sa) := by
    rw [Int.zero_add, cm]
    have hp := place_bt h.b1 h.e1
    exact (bt_mul (bt50 (by omega) (by omega)) (btn (k := 770) hp.1 hp.2)).mono (by omega)
  have e4 := fun w => e_touched (w := w) (i := place Ba xa) h.ts ⟨a1, a2⟩ ⟨h1, by decide, bP, (show Bt 1 1 by unfold Bt; decide).mono (by omega)⟩ (by
    unfold mx2 mn2
    rw [hdl, cm]
    split <;> split <;> omega)
  have e5 := fun w => e_pairs (w := w) h.ts lt
  have e6 := fun w => e_pairs (w := w) h.ts' (by rw [sy1, sy2]; exact lt)
  rw [sy1, sy2] at e6
  have e7 := fun w => e_twins (w := w) h.ts lt
  have e8 := fun w => w_ahead (w := w) (v := va sa Ba) h1 h.b1 h.e1
  have e9 := fun w => w_ahead (w := w) (v := vb sb Bb) h2 h.b2 h.e2
  have e10 := fun w => w_units (w := w) (v := va sa Ba) h1 h.b1
  have e11 := fun w => w_units (w := w) (v := vb sb Bb) h2 h.b2
  have bT : Bt 901 T := by
    have := h.bd
    rw [hT]
    refine bt_sub ((show Bt 1 0 by unfold Bt; decide).mono (by omega)) ?_
    unfold mn2
    split
    · exact (show Bt 1 0 by unfold Bt; decide).mono (by omega)
    · exact this
  have e12 := fun w => w_pairs (w := w) (b1 := T) (s1 := sa) (e1 := T + sa * prod (Ba.map ext)) (b2 := U) (s2 := sb) (e2 := U + sb * prod (Bb.map ext)) (lo := stU 0 (dl sa sb Ba Bb xa xb) + T) (hi := enU 0 sa (prod (Ba.map ext)) (dl sa sb Ba Bb xa xb) sb (prod (Bb.map ext)) + T) h1 h2 (by omega) ((bt_add bst.1 (bT.mono (by omega))).mono (by omega)) ((bt_add bst.2.1 (bT.mono (by omega))).mono (by omega))
  have hUT : U = dl sa sb Ba Bb xa xb + T := by omega
  have hTT : T = 0 + T := by omega
  have c1 : ∀ f n, Cn (Pm T sa) (f + T) n = Cn (Pm 0 sa) f n := fun f n => by
    have := Cn_shift (bb := 0) (s := sa) (t := T) (f := f) (m := n)
    rwa [Int.zero_add] at this
  have c2 : ∀ f n, Cn (Pm U sb) (f + T) n = Cn (Pm (dl sa sb Ba Bb xa xb) sb) f n := fun f n => by
    rw [hUT]
    exact Cn_shift
  have c3 : ∀ f n, Cn (fun x => Pm T sa x && Pm U sb x) (f + T) n = Cn (fun x => Pm 0 sa x && Pm (dl sa sb Ba Bb xa xb) sb x) f n := fun f n => by
    have := Cn_shift2 (bb := 0) (s := sa) (t := T) (f := f) (m := n) (bb' := dl sa sb Ba Bb xa xb) (s' := sb)
    rw [Int.zero_add, ← hUT] at this
    exact this
  have c4 : ∀ f n, Cn (fun x => Pm (dl sa sb Ba Bb xa xb) sb x && Pm 0 sa x) f n = Cn (fun x => Pm 0 sa x && Pm (dl sa sb Ba Bb xa xb) sb x) f n := fun f n => Cn_comm
  simp only [c1, c2, c3] at e12
  simp only [c4] at e6
  have en : (enU 0 sa (prod (Ba.map ext)) (dl sa sb Ba Bb xa xb) sb (prod (Bb.map ext)) + T - (stU 0 (dl sa sb Ba Bb xa xb) + T) - 1).toNat = (enU 0 sa (prod (Ba.map ext)) (dl sa sb Ba Bb xa xb) sb (prod (Bb.map ext)) - stU 0 (dl sa sb Ba Bb xa xb) - 1).toNat := by congr 1; omega
  rw [en] at e12
  have e6' : ∀ w, F_pairs_number [A2v sa sb Ba Bb, X2v xa xb, .str "b", .str "a"] w = .ok (.int (1 + (Cn (Pm 0 sa) (stU 0 (dl sa sb Ba Bb xa xb)) (enU 0 sa (prod (Ba.map ext)) (dl sa sb Ba Bb xa xb) sb (prod (Bb.map ext)) - stU 0 (dl sa sb Ba Bb xa xb) - 1).toNat : Int) + (Cn (Pm (dl sa sb Ba Bb xa xb) sb) (stU 0 (dl sa sb Ba Bb xa xb)) (enU 0 sa (prod (Ba.map ext)) (dl sa sb Ba Bb xa xb) sb (prod (Bb.map ext)) - stU 0 (dl sa sb Ba Bb xa xb) - 1).toNat : Int) - (Cn (fun x => Pm 0 sa x && Pm (dl sa sb Ba Bb xa xb) sb x) (stU 0 (dl sa sb Ba Bb xa xb)) (enU 0 sa (prod (Ba.map ext)) (dl sa sb Ba Bb xa xb) sb (prod (Bb.map ext)) - stU 0 (dl sa sb Ba Bb xa xb) - 1).toNat : Int))) w := fun w => by
    rw [e6 w]
    congr 2
    omega
  have t1 : (mx2 (0 + place Ba xa * sa) (dl sa sb Ba Bb xa xb) - dl sa sb Ba Bb xa xb).fdiv sb = place Bb xb := by
    have : mx2 (0 + place Ba xa * sa) (dl sa sb Ba Bb xa xb) - dl sa sb Ba Bb xa xb = sb * place Bb xb := by
      unfold mx2
      rw [hdl, cm]
      split <;> omega
    rw [this, f2]
  rw [t1] at e4
  refine rt_core (VA := vD (va sa Ba)) (VB := vD (vb sb Bb)) (EA := eD xa) (EB := eD xb) (XX := X2v xa xb) (LO := stU 0 (dl sa sb Ba Bb xa xb) + T) (HI := enU 0 sa (prod (Ba.map ext)) (dl sa sb Ba Bb xa xb) sb (prod (Bb.map ext)) + T) (ib := place Bb xb) (ia := place Ba xa) (fun s => rfl) (fun s => rfl) (fun s => rfl) (fun s => rfl) (fun s => rfl) h1 h2 e1 e2 e3 e4 e5 e6' e7 e8 e9 e10 e11 e12 ?_ ?_ (by omega) (by omega) (by omega) f1 f2 ?_ rfl ?_ ?_
  · unfold stU mx2
    split <;> split <;> omega
  · unfold enU mn2
    show (if U + sb * prod (Bb.map ext) < T + sa * prod (Ba.map ext) then U + sb * prod (Bb.map ext) else T + sa * prod (Ba.map ext)) = _
    split <;> split <;> omega
  · have hp := place_bt h.b1 h.e1
    have h5 : (2 : Int) ^ 771 = 2 ^ 770 * 2 := Int.pow_succ 2 770
    have h6 : (0 : Int) < 2 ^ 770 := Int.pow_pos (by decide)
    exact mul_bt (btn (k := 771) (by omega) (by omega)) (bt50 (by omega) (by omega)) (by omega)
  · congr 1
    show (if U + sb * prod (Bb.map ext) < T + (place Ba xa + 1) * sa then U + sb * prod (Bb.map ext) else T + (place Ba xa + 1) * sa) - 1 - U = _
    unfold mn2
    rw [cm2, cm]
    split <;> split <;> omega
  · have e : (0 - dl sa sb Ba Bb xa xb).fmod sa = 0 ↔ (dl sa sb Ba Bb xa xb).fmod sa = 0 := by
      rw [TT.fmod_dvd (by omega), TT.fmod_dvd (by omega), Int.zero_sub, Int.dvd_neg]
    rw [show enU 0 sa (prod (Ba.map ext)) (dl sa sb Ba Bb xa xb) sb (prod (Bb.map ext)) + T - (stU 0 (dl sa sb Ba Bb xa xb) + T) = enU 0 sa (prod (Ba.map ext)) (dl sa sb Ba Bb xa xb) sb (prod (Bb.map ext)) - stU 0 (dl sa sb Ba Bb xa xb) by omega]
    simp only [e]
end
end DL

set_option maxHeartbeats 2000000
namespace DL
open PySem PySem.Spec PyProof.Rows L2
section
variable {w : Wl} {b : Nat}
theorem right_all (hb : b < 100000) (hw : Lap b w) : okE (F_w_right [.well] w) fun d w' => d = .bl true ∧ Lap (b + 4000) w' := by
  have hlim : lim = 16000000 := rfl
  have e100 := pp110
  have hl2 : (2 : Nat) ≤ lim := by decide
  have hl3 : (3 : Nat) ≤ lim := by decide
  have hl1 : (1 : Nat) ≤ lim := by decide
  rw [F_w_right, okE_run]
  refine ⟨rfl, ?_⟩
  rw [rt_cut]
  obtain ⟨TT0, hTT⟩ : ∃ TT0 : DS, TT0 = rtT := ⟨_, rfl⟩
  rw [← hTT]
  refine okS_then (fun s w1 => ∃ sa sb : Int, (1 ≤ sa ∧ sa ≤ 16) ∧ (1 ≤ sb ∧ sb ≤ 16) ∧ Lap (b + 2) w1 ∧ s = [some .well, some (.lst [.int sa, .int sb]), none, none, none, none, none, none, none, none, none, none, none, none, none, none, none, none, none]) ?_ ?_
  · simp -implicitDefEqProofs [List.replicate]
    refine draw hw (by decide) (by omega) (by omega) fun k w1 k0 k1 l1 => ?_
    simp -implicitDefEqProofs
    refine draw l1 (by decide) (by omega) (by omega) fun k' w2 k0' k1' l2 => ?_
    simp -implicitDefEqProofs [hl2]
    exact ⟨1 + k, by omega, 1 + k', by omega, l2, rfl, rfl⟩
  rintro _ w1 ⟨sa, sb, hsa, hsb, l1, rfl⟩
  refine okS_then (fun s w1 => ∃ Ba Bb : List (Int × Int), Bf3 Ba ∧ Bf3 Bb ∧ Lap (b + 102) w1 ∧ s = [some .well, some (.lst [.int sa, .int sb]), some (vD (va sa Ba)), some (vD (vb sb Bb)), none, none, none, none, none, none, none, none, none, none, none, none, none, none, none]) ?_ ?_
  · have hz : zipD [.str "a", .str "b"] [.int sa, .int sb] = [.tup [.str "a", .int sa], .tup [.str "b", .int sb]] := rfl
    simp -implicitDefEqProofs [hl2, hz, wipeS, okE_lcC, okE_lcN]
    refine w_bounds (by omega) l1 fun Ba w2 hA l2 => ?_
    refine ⟨hl3, w_bounds (by omega) l2 fun Bb w3 hB l3 => ⟨hl3, ?_⟩⟩
    exact ⟨Ba, hA, Bb, hB, lap_le l3 (by omega), rfl, rfl⟩
  rintro _ w2 ⟨Ba, Bb, hA, hB, l2, rfl⟩
  refine okS_then (fun s w1 => ∃ xa xb : List Int, El Ba xa ∧ El Bb xb ∧ Lap (b + 122) w1 ∧ s = [some .well, some (.lst [.int sa, .int sb]), some (vD (va sa Ba)), some (vD (vb sb Bb)), some (.lst [eD xa, eD xb]), none, none, none, none, none, none, none, none, none, none, none, none, none, none]) ?_ ?_
  · have gA : ∀ s : Sl, getS (some (vD (va sa Ba)) :: s) 0 = some (vD (va sa Ba)) := fun s => rfl
    have gB : ∀ s : Sl, getS (some (vD (vb sb Bb)) :: s) 0 = some (vD (vb sb Bb)) := fun s => rfl
    simp -implicitDefEqProofs [gA, gB]
    refine w_spot (by omega) hA l2 fun xa w3 hxa l3 => ?_
    refine w_spot (by omega) hB l3 fun xb w4 hxb l4 => ?_
    simp -implicitDefEqProofs [hl2]
    exact ⟨xa, hxa, xb, hxb, lap_le l4 (by omega), rfl, rfl⟩
  rintro _ w3 ⟨xa, xb, hxa, hxb, l3, rfl⟩
  have h : Two sa sb Ba Bb xa xb := ⟨hsa, hsb, hA.bf, hB.bf, hxa, hxb⟩
  have gA : ∀ s : Sl, getS (some (vD (va sa Ba)) :: s) 0 = some (vD (va sa Ba)) := fun s => rfl
  have gB : ∀ s : Sl, getS (some (vD (vb sb Bb)) :: s) 0 = some (vD (vb sb Bb)) := fun s => rfl
  have gEA : ∀ s : Sl, getS (some (eD xa) :: s) 0 = some (eD xa) := fun s => rfl
  have gEB : ∀ s : Sl, getS (some (eD xb) :: s) 0 = some (eD xb) := fun s => rfl
  have e8 := fun w => w_ahead (w := w) (v := va sa Ba) h.s1 h.b1 h.e1
  have e9 := fun w => w_ahead (w := w) (v := vb sb Bb) h.s2 h.b2 h.e2
  refine okS_then (fun s w1 => w1 = w3 ∧ s = [some .well, some (.lst [.int sa, .int sb]), some (vD (va sa Ba)), some (vD (vb sb Bb)), some (.lst [eD xa, eD xb]), some (X2v xa xb), none, none, none, none, none, none, none, none, none, none, none, none, none]) ?_ ?_
  · simp -implicitDefEqProofs [gEA, gEB, hl1, hl2]
    rfl
  rintro _ w4 ⟨hw4, rfl⟩
  rw [hw4]
  refine okS_then (fun s w1 => w1 = w3 ∧ s = [some .well, some (.lst [.int sa, .int sb]), some (vD (va sa Ba)), some (vD (vb sb Bb)), some (.lst [eD xa, eD xb]), some (X2v xa xb), some (.int (dl sa sb Ba Bb xa xb)), none, none, none, none, none, none, none, none, none, none, none, none]) ?_ ?_
  · simp -implicitDefEqProofs [gA, gB, gEA, gEB, e8, e9]
    rfl
  rintro _ w4 ⟨hw4, rfl⟩
  rw [hw4]
  obtain ⟨T, hT⟩ : ∃ T, T = 0 - mn2 (dl sa sb Ba Bb xa xb) 0 := ⟨_, rfl⟩
  obtain ⟨U, hU⟩ : ∃ U, U = dl sa sb Ba Bb xa xb - mn2 (dl sa sb Ba Bb xa xb) 0 := ⟨_, rfl⟩
  refine okS_then (fun s w1 => w1 = w3 ∧ s = [some .well, some (.lst [.int sa, .int sb]), some (vD (va sa Ba)), some (vD (vb sb Bb)), some (.lst [eD xa, eD xb]), some (X2v xa xb), some (.int (dl sa sb Ba Bb xa xb)), some (.lst [.tup [.str "a", .str "a", .int T], .tup [.str "b", .str "a", .int U]]), none, none, none, none, none, none, none, none, none, none, none]) ?_ ?_
  · have t1 : (if dl sa sb Ba Bb xa xb < 0 then -dl sa sb Ba Bb xa xb else 0) = T := by
      rw [hT]
      unfold mn2
      split <;> split <;> omega
    have t2 : (if 0 < dl sa sb Ba Bb xa xb then dl sa sb Ba Bb xa xb else 0) = U := by
      rw [hU]
      unfold mn2
      split <;> omega
    simp -implicitDefEqProofs [hl2, hl3, t1, t2]
  rintro _ w4 ⟨hw4, rfl⟩
  rw [hw4, hTT]
  exact okS_mono (rt_end (N := fun _ _ => False) h hT hU) (fun _ _ h => h.elim) fun d w' ⟨h1, h2⟩ => ⟨h1, by rw [h2]; exact lap_le l3 (by omega)⟩
end
theorem right_ok (b : Nat) (w : Wl) (hb : b < 100000) (hw : Lap b w) : ∃ w', F_w_right [.well] w = .ok (.bl true) w' ∧ Lap (b + 4000) w' := by
  obtain ⟨d, w', e, h1, h2⟩ := okE_ex (right_all hb hw)
  rw [h1] at e
  exact ⟨w', e, h2⟩
/-! ### the tail -/
end DL

set_option maxHeartbeats 2000000
namespace DL
open PySem PySem.Spec PyProof.Rows L2
section
variable {w : Wl}
def v7 : Vr := ⟨"a", 3, List.replicate 7 (-1000000000000000000000000000000, 1000000000000000000000000000000)⟩
theorem v7_ok : VsOk [v7] := by
  refine ⟨by simp, by simp, fun v hv => ?_, by simp⟩
  cases List.mem_singleton.mp hv
  refine ⟨nm_a, by unfold v7; decide, ⟨by unfold v7; simp, fun p hp => ?_⟩⟩
  have := (List.mem_replicate.mp hp).2
  rw [this]
  decide
theorem none_rs {X : D} (hs : ∃ k, seqD X = some (k, [])) (hi : ∀ w, fIsi w [X, .tup [.ty "list", .ty "tuple"]] = some (.bl true)) (hl : ∀ w, fLen w [X] = some (.int 0)) (hg : ∀ s : Sl, getS (some X :: s) 0 = some X) : RsX [v7] [] X := ⟨⟨by simp, fun r hr => (by cases hr)⟩, hs, hi, hl, hg⟩
def n7 : Int := prod (v7.b.map ext)
theorem n7_eq : n7 = 2000000000000000000000000000001 ^ 7 := by decide +kernel
theorem n7_ok : 1 ≤ n7 ∧ Bt 900 n7 := by
  rw [n7_eq]
  constructor
  · decide +kernel
  · exact (show Bt 710 _ from by unfold Bt; decide +kernel).mono (by omega)
theorem ts7 {X : D} (hX : RsX [v7] [] X) : Ts "a" 0 3 n7 0 3 n7 (.lst [vD v7]) X "a" "a" :=
  have sp : Sp 0 3 n7 := ⟨by decide, n7_ok.1, (show Bt 1 0 by unfold Bt; decide).mono (by omega), n7_ok.2⟩
  ⟨lay_a, sp, sp, fun w => e_two (w := w) (apart_ok v7_ok) hX (fun w => e_by_none v7_ok) (p := (v7, v7.n, 0)) (q := (v7, v7.n, 0)) (by unfold apart; simp) (by unfold apart; simp), fun s => rfl, hX.get⟩
theorem lt7 : stU 0 0 < enU 0 3 n7 0 3 n7 := by
  have := n7_ok.1
  unfold stU enU mx2 mn2
  split <;> split <;> omega
theorem cn7 : (Cn (Pm 0 3) 0 (3 * n7 - 1).toNat : Int) = n7 - 1 := by
  have h := n7_ok.1
  have e : (3 * n7 - 1).toNat = (n7 - 1).toNat * 3 + 2 := by omega
  have hp : ∀ u, Pm 0 3 (u + ((3 : Nat) : Int)) = Pm 0 3 u := fun u => Pm_per (by decide) (by decide) u
  rw [e, Cn_rounds hp]
  have a1 : Cn (Pm 0 3) 0 3 = 1 := by decide +kernel
  have a2 : Cn (Pm 0 3) 0 2 = 0 := by decide +kernel
  rw [a1, a2]
  omega
theorem p7 {X : D} (hX : RsX [v7] [] X) : F_pairs_number [.lst [vD v7], X, .str "a", .str "a"] w = .ok (.int n7) w := by
  have h := e_pairs (w := w) (ts7 hX) lt7
  rw [h]
  have e1 : stU 0 0 = 0 := rfl
  have e2 : (enU 0 3 n7 0 3 n7 - 0 - 1).toNat = (3 * n7 - 1).toNat := by
    unfold enU mn2
    have : (if 0 + 3 * n7 < 0 + 3 * n7 then 0 + 3 * n7 else 0 + 3 * n7) = 3 * n7 := by split <;> omega
    rw [this, Int.sub_zero]
  have e3 : (fun x => Pm 0 3 x && Pm 0 3 x) = Pm 0 3 := funext fun x => Bool.and_self _
  rw [e1, e2, e3, cn7]
  have : (1 : Int) + (n7 - 1) + (n7 - 1) - (n7 - 1) = n7 := by omega
  rw [this]
theorem t7 {X : D} (hX : RsX [v7] [] X) : F_twins_number [.lst [vD v7], X, .str "a", .str "a"] w = .ok (.int n7) w := by
  have h := e_twins (w := w) (ts7 hX) lt7
  rw [h]
  have e1 : stU 0 0 = 0 := rfl
  have e2 : enU 0 3 n7 0 3 n7 - 0 = 3 * n7 := by
    unfold enU mn2
    split <;> omega
  rw [if_pos ⟨rfl, by decide⟩, e1, e2, Int.mul_fdiv_cancel_left _ (by decide)]
theorem tail_ok (w : Wl) : T_tail [none, none, none, none, none, none] w = .rt (.bl true) w := by
  have r1 : RsX [v7] [] (.lst []) := none_rs ⟨false, rfl⟩ (fun _ => rfl) (fun _ => rfl) fun _ => rfl
  have r2 : RsX [v7] [] (.tup []) := none_rs ⟨true, rfl⟩ (fun _ => rfl) (fun _ => rfl) fun _ => rfl
  have q1 := fun w => p7 (w := w) r1
  have q2 := fun w => t7 (w := w) r2
  have hl0 : (0 : Nat) ≤ lim := by decide
  have hl1 : (1 : Nat) ≤ lim := by decide
  have hl2 : (2 : Nat) ≤ lim := by decide
  have hl3 : (3 : Nat) ≤ lim := by decide
  have w1 : ∀ w, fPowW w (.int 10) (.int 30) = some (.int 1000000000000000000000000000000) := fun w => by
    unfold fPowW
    dsimp only
    rw [if_pos (by decide +kernel)]
    rfl
  have w2 : ∀ w, fPowW w (.int 2000000000000000000000000000001) (.int 7) = some (.int n7) := fun w => by
    unfold fPowW
    dsimp only
    rw [if_pos (by decide +kernel), n7_eq]
    rfl
  have w3 : ∀ w, fMul w (.tup [.tup [.int (-1000000000000000000000000000000), .int 1000000000000000000000000000000]]) (.int 7) = some (bD v7.b) := fun w => rfl
  have mm : mulOk 2 1000000000000000000000000000000 := by unfold mulOk; decide +kernel
  have gv : ∀ s : Sl, getS (some (vD v7) :: s) 0 = some (vD v7) := fun s => rfl
  have hv : D.tup [.str "a", .int 3, bD v7.b] = vD v7 := rfl
  have : okS (T_tail [none, none, none, none, none, none] w) (fun _ _ => False) (fun d w' => d = .bl true ∧ w' = w) := by
    unfold T_tail
    simp -implicitDefEqProofs only [okS_seq]
    simp -implicitDefEqProofs [w1, w2, w3, hl0, hl1, hl2, hl3, mm, hv, gv, q1, q2]
  cases e : T_tail [none, none, none, none, none, none] w with
  | rt d w' =>
    rw [e] at this
    obtain ⟨h1, h2⟩ : d = .bl true ∧ w' = w := this
    rw [h1, h2]
  | nx _ _ => rw [e] at this; exact this.elim
  | bk _ _ => rw [e] at this; exact this.elim
  | ct _ _ => rw [e] at this; exact this.elim
  | er _ _ _ => rw [e] at this; exact this.elim
  | no => rw [e] at this; exact this.elim
end
end DL

set_option maxHeartbeats 2000000
namespace DL
open PySem PySem.Spec PyProof.Rows L2
open Evl (Ex)

/-! ### what the top has written; the law's own head -/
theorem all_mk {l : PySem.W.OpenLaw} {w : World} {K : PySem.W.Frag} {h : Heap} {mg : Str → Option Value} {fa f0 f1 f2 f3 f4 f5 f6 f7 f8 f9 f10 f11 f12 f13 f14 f15 f16 f17 f18 f19 f20 f21 f22 f23 f24 f25 f26 f27 f28 f29 f30 f31 f32 f33 f34 f35 f36 f37 f38 f39 f40 f41 f42 f43 f44 f45 f46 f47 f48 f49 f50 f51 f52 f53 f54 f55 f56 f57 f58 : Addr} (X : K.In h) (G : h.Ns mainGlobals mg) (hfa : mg "law" = some (.ref fa))
    {od0 an0 od1 an1 od2 an2 od3 an3 od4 an4 od5 an5 od6 an6 od7 an7 od8 an8 od9 an9 od10 an10 od11 an11 od12 an12 od13 an13 od14 an14 od15 an15 od16 an16 od17 an17 od18 an18 od19 an19 od20 an20 od21 an21 od22 an22 od23 an23 od24 an24 od25 an25 od26 an26 od27 an27 od28 an28 od29 an29 od30 an30 od31 an31 od32 an32 od33 an33 od34 an34 od35 an35 od36 an36 od37 an37 od38 an38 od39 an39 od40 an40 od41 an41 od42 an42 od43 an43 od44 an44 od45 an45 od46 an46 od47 an47 od48 an48 od49 an49 od50 an50 od51 an51 od52 an52 od53 an53 od54 an54 od55 an55 od56 an56 od57 an57 od58 an58 : Option Addr} {sl0 sl1 sl2 sl3 sl4 sl5 sl6 sl7 sl8 sl9 sl10 sl11 sl12 sl13 sl14 sl15 sl16 sl17 sl18 sl19 sl20 sl21 sl22 sl23 sl24 sl25 sl26 sl27 sl28 sl29 sl30 sl31 sl32 sl33 sl34 sl35 sl36 sl37 sl38 sl39 sl40 sl41 sl42 sl43 sl44 sl45 sl46 sl47 sl48 sl49 sl50 sl51 sl52 sl53 sl54 sl55 sl56 sl57 sl58 : Array (Option Value)} {oc0 kV0 dc0 pm0 cd0 ct0 oc1 kV1 dc1 pm1 cd1 ct1 oc2 kV2 dc2 pm2 cd2 ct2 oc3 kV3 dc3 pm3 cd3 ct3 oc4 kV4 dc4 pm4 cd4 ct4 oc5 kV5 dc5 pm5 cd5 ct5 oc6 kV6 dc6 pm6 cd6 ct6 oc7 kV7 dc7 pm7 cd7 ct7 oc8 kV8 dc8 pm8 cd8 ct8 oc9 kV9 dc9 pm9 cd9 ct9 oc10 kV10 dc10 pm10 cd10 ct10 oc11 kV11 dc11 pm11 cd11 ct11 oc12 kV12 dc12 pm12 cd12 ct12 oc13 kV13 dc13 pm13 cd13 ct13 oc14 kV14 dc14 pm14 cd14 ct14 oc15 kV15 dc15 pm15 cd15 ct15 oc16 kV16 dc16 pm16 cd16 ct16 oc17 kV17 dc17 pm17 cd17 ct17 oc18 kV18 dc18 pm18 cd18 ct18 oc19 kV19 dc19 pm19 cd19 ct19 oc20 kV20 dc20 pm20 cd20 ct20 oc21 kV21 dc21 pm21 cd21 ct21 oc22 kV22 dc22 pm22 cd22 ct22 oc23 kV23 dc23 pm23 cd23 ct23 oc24 kV24 dc24 pm24 cd24 ct24 oc25 kV25 dc25 pm25 cd25 ct25 oc26 kV26 dc26 pm26 cd26 ct26 oc27 kV27 dc27 pm27 cd27 ct27 oc28 kV28 dc28 pm28 cd28 ct28 oc29 kV29 dc29 pm29 cd29 ct29 oc30 kV30 dc30 pm30 cd30 ct30 oc31 kV31 dc31 pm31 cd31 ct31 oc32 kV32 dc32 pm32 cd32 ct32 oc33 kV33 dc33 pm33 cd33 ct33 oc34 kV34 dc34 pm34 cd34 ct34 oc35 kV35 dc35 pm35 cd35 ct35 oc36 kV36 dc36 pm36 cd36 ct36 oc37 kV37 dc37 pm37 cd37 ct37 oc38 kV38 dc38 pm38 cd38 ct38 oc39 kV39 dc39 pm39 cd39 ct39 oc40 kV40 dc40 pm40 cd40 ct40 oc41 kV41 dc41 pm41 cd41 ct41 oc42 kV42 dc42 pm42 cd42 ct42 oc43 kV43 dc43 pm43 cd43 ct43 oc44 kV44 dc44 pm44 cd44 ct44 oc45 kV45 dc45 pm45 cd45 ct45 oc46 kV46 dc46 pm46 cd46 ct46 oc47 kV47 dc47 pm47 cd47 ct47 oc48 kV48 dc48 pm48 cd48 ct48 oc49 kV49 dc49 pm49 cd49 ct49 oc50 kV50 dc50 pm50 cd50 ct50 oc51 kV51 dc51 pm51 cd51 ct51 oc52 kV52 dc52 pm52 cd52 ct52 oc53 kV53 dc53 pm53 cd53 ct53 oc54 kV54 dc54 pm54 cd54 ct54 oc55 kV55 dc55 pm55 cd55 ct55 oc56 kV56 dc56 pm56 cd56 ct56 oc57 kV57 dc57 pm57 cd57 ct57 oc58 kV58 dc58 pm58 cd58 ct58 : Value} {t_FAR t_LETTERS_parts t_LETTERS_sharing t_UNITS t_DIMENSIONS t_VARIABLES t_MEMBERS t_ROWS : Tok}
    (a0 : PySem.W.nsIn K mainGlobals "is_number" = some (some (.ref f0)))
    (l0 : K.lookup f0 = some ⟨oc0, od0, .func (PySem.W.fnOf "is_number" "is_number" (defArgs s_is_number) (defBody s_is_number) (defScope s_is_number) .none kV0 dc0 pm0 an0 cd0 ct0), sl0⟩)
    (c0 : PySem.W.codeIn K cd0 "is_number" = true)
    (k0 : PySem.W.keepIn K (.ref f0) = true)
    (a1 : PySem.W.nsIn K mainGlobals "is_far" = some (some (.ref f1)))
    (l1 : K.lookup f1 = some ⟨oc1, od1, .func (PySem.W.fnOf "is_far" "is_far" (defArgs s_is_far) (defBody s_is_far) (defScope s_is_far) .none kV1 dc1 pm1 an1 cd1 ct1), sl1⟩)
    (c1 : PySem.W.codeIn K cd1 "is_far" = true)
    (k1 : PySem.W.keepIn K (.ref f1) = true)
    (a2 : PySem.W.nsIn K mainGlobals "is_name" = some (some (.ref f2)))
    (l2 : K.lookup f2 = some ⟨oc2, od2, .func (PySem.W.fnOf "is_name" "is_name" (defArgs s_is_name) (defBody s_is_name) (defScope s_is_name) .none kV2 dc2 pm2 an2 cd2 ct2), sl2⟩)
    (c2 : PySem.W.codeIn K cd2 "is_name" = true)
    (k2 : PySem.W.keepIn K (.ref f2) = true)
    (a3 : PySem.W.nsIn K mainGlobals "many_of" = some (some (.ref f3)))
    (l3 : K.lookup f3 = some ⟨oc3, od3, .func (PySem.W.fnOf "many_of" "many_of" (defArgs s_many_of) (defBody s_many_of) (defScope s_many_of) .none kV3 dc3 pm3 an3 cd3 ct3), sl3⟩)
    (c3 : PySem.W.codeIn K cd3 "many_of" = true)
    (k3 : PySem.W.keepIn K (.ref f3) = true)
    (a4 : PySem.W.nsIn K mainGlobals "subscript_of" = some (some (.ref f4)))
    (l4 : K.lookup f4 = some ⟨oc4, od4, .func (PySem.W.fnOf "subscript_of" "subscript_of" (defArgs s_subscript_of) (defBody s_subscript_of) (defScope s_subscript_of) .none kV4 dc4 pm4 an4 cd4 ct4), sl4⟩)
    (c4 : PySem.W.codeIn K cd4 "subscript_of" = true)
    (k4 : PySem.W.keepIn K (.ref f4) = true)
    (a5 : PySem.W.nsIn K mainGlobals "last_of" = some (some (.ref f5)))
    (l5 : K.lookup f5 = some ⟨oc5, od5, .func (PySem.W.fnOf "last_of" "last_of" (defArgs s_last_of) (defBody s_last_of) (defScope s_last_of) .none kV5 dc5 pm5 an5 cd5 ct5), sl5⟩)
    (c5 : PySem.W.codeIn K cd5 "last_of" = true)
    (k5 : PySem.W.keepIn K (.ref f5) = true)
    (a6 : PySem.W.nsIn K mainGlobals "upward" = some (some (.ref f6)))
    (l6 : K.lookup f6 = some ⟨oc6, od6, .func (PySem.W.fnOf "upward" "upward" (defArgs s_upward) (defBody s_upward) (defScope s_upward) .none kV6 dc6 pm6 an6 cd6 ct6), sl6⟩)
    (c6 : PySem.W.codeIn K cd6 "upward" = true)
    (k6 : PySem.W.keepIn K (.ref f6) = true)
    (a7 : PySem.W.nsIn K mainGlobals "normal_of" = some (some (.ref f7)))
    (l7 : K.lookup f7 = some ⟨oc7, od7, .func (PySem.W.fnOf "normal_of" "normal_of" (defArgs s_normal_of) (defBody s_normal_of) (defScope s_normal_of) .none kV7 dc7 pm7 an7 cd7 ct7), sl7⟩)
    (c7 : PySem.W.codeIn K cd7 "normal_of" = true)
    (k7 : PySem.W.keepIn K (.ref f7) = true)
    (a8 : PySem.W.nsIn K mainGlobals "divisor_and_factor" = some (some (.ref f8)))
    (l8 : K.lookup f8 = some ⟨oc8, od8, .func (PySem.W.fnOf "divisor_and_factor" "divisor_and_factor" (defArgs s_divisor_and_factor) (defBody s_divisor_and_factor) (defScope s_divisor_and_factor) .none kV8 dc8 pm8 an8 cd8 ct8), sl8⟩)
    (c8 : PySem.W.codeIn K cd8 "divisor_and_factor" = true)
    (k8 : PySem.W.keepIn K (.ref f8) = true)
    (a9 : PySem.W.nsIn K mainGlobals "met_of" = some (some (.ref f9)))
    (l9 : K.lookup f9 = some ⟨oc9, od9, .func (PySem.W.fnOf "met_of" "met_of" (defArgs s_met_of) (defBody s_met_of) (defScope s_met_of) .none kV9 dc9 pm9 an9 cd9 ct9), sl9⟩)
    (c9 : PySem.W.codeIn K cd9 "met_of" = true)
    (k9 : PySem.W.keepIn K (.ref f9) = true)
    (a10 : PySem.W.nsIn K mainGlobals "seats_apart" = some (some (.ref f10)))
    (l10 : K.lookup f10 = some ⟨oc10, od10, .func (PySem.W.fnOf "seats_apart" "seats_apart" (defArgs s_seats_apart) (defBody s_seats_apart) (defScope s_seats_apart) .none kV10 dc10 pm10 an10 cd10 ct10), sl10⟩)
    (c10 : PySem.W.codeIn K cd10 "seats_apart" = true)
    (k10 : PySem.W.keepIn K (.ref f10) = true)
    (a11 : PySem.W.nsIn K mainGlobals "seats_behind" = some (some (.ref f11)))
    (l11 : K.lookup f11 = some ⟨oc11, od11, .func (PySem.W.fnOf "seats_behind" "seats_behind" (defArgs s_seats_behind) (defBody s_seats_behind) (defScope s_seats_behind) .none kV11 dc11 pm11 an11 cd11 ct11), sl11⟩)
    (c11 : PySem.W.codeIn K cd11 "seats_behind" = true)
    (k11 : PySem.W.keepIn K (.ref f11) = true)
    (a12 : PySem.W.nsIn K mainGlobals "seats_by" = some (some (.ref f12)))
    (l12 : K.lookup f12 = some ⟨oc12, od12, .func (PySem.W.fnOf "seats_by" "seats_by" (defArgs s_seats_by) (defBody s_seats_by) (defScope s_seats_by) .none kV12 dc12 pm12 an12 cd12 ct12), sl12⟩)
    (c12 : PySem.W.codeIn K cd12 "seats_by" = true)
    (k12 : PySem.W.keepIn K (.ref f12) = true)
    (a13 : PySem.W.nsIn K mainGlobals "all_extents" = some (some (.ref f13)))
    (l13 : K.lookup f13 = some ⟨oc13, od13, .func (PySem.W.fnOf "all_extents" "all_extents" (defArgs s_all_extents) (defBody s_all_extents) (defScope s_all_extents) .none kV13 dc13 pm13 an13 cd13 ct13), sl13⟩)
    (c13 : PySem.W.codeIn K cd13 "all_extents" = true)
    (k13 : PySem.W.keepIn K (.ref f13) = true)
    (a14 : PySem.W.nsIn K mainGlobals "multiplied" = some (some (.ref f14)))
    (l14 : K.lookup f14 = some ⟨oc14, od14, .func (PySem.W.fnOf "multiplied" "multiplied" (defArgs s_multiplied) (defBody s_multiplied) (defScope s_multiplied) .none kV14 dc14 pm14 an14 cd14 ct14), sl14⟩)
    (c14 : PySem.W.codeIn K cd14 "multiplied" = true)
    (k14 : PySem.W.keepIn K (.ref f14) = true)
    (a15 : PySem.W.nsIn K mainGlobals "size_of" = some (some (.ref f15)))
    (l15 : K.lookup f15 = some ⟨oc15, od15, .func (PySem.W.fnOf "size_of" "size_of" (defArgs s_size_of) (defBody s_size_of) (defScope s_size_of) .none kV15 dc15 pm15 an15 cd15 ct15), sl15⟩)
    (c15 : PySem.W.codeIn K cd15 "size_of" = true)
    (k15 : PySem.W.keepIn K (.ref f15) = true)
    (a16 : PySem.W.nsIn K mainGlobals "weights" = some (some (.ref f16)))
    (l16 : K.lookup f16 = some ⟨oc16, od16, .func (PySem.W.fnOf "weights" "weights" (defArgs s_weights) (defBody s_weights) (defScope s_weights) .none kV16 dc16 pm16 an16 cd16 ct16), sl16⟩)
    (c16 : PySem.W.codeIn K cd16 "weights" = true)
    (k16 : PySem.W.keepIn K (.ref f16) = true)
    (a17 : PySem.W.nsIn K mainGlobals "is_element" = some (some (.ref f17)))
    (l17 : K.lookup f17 = some ⟨oc17, od17, .func (PySem.W.fnOf "is_element" "is_element" (defArgs s_is_element) (defBody s_is_element) (defScope s_is_element) .none kV17 dc17 pm17 an17 cd17 ct17), sl17⟩)
    (c17 : PySem.W.codeIn K cd17 "is_element" = true)
    (k17 : PySem.W.keepIn K (.ref f17) = true)
    (a18 : PySem.W.nsIn K mainGlobals "place_there" = some (some (.ref f18)))
    (l18 : K.lookup f18 = some ⟨oc18, od18, .func (PySem.W.fnOf "place_there" "place_there" (defArgs s_place_there) (defBody s_place_there) (defScope s_place_there) .none kV18 dc18 pm18 an18 cd18 ct18), sl18⟩)
    (c18 : PySem.W.codeIn K cd18 "place_there" = true)
    (k18 : PySem.W.keepIn K (.ref f18) = true)
    (a19 : PySem.W.nsIn K mainGlobals "is_range" = some (some (.ref f19)))
    (l19 : K.lookup f19 = some ⟨oc19, od19, .func (PySem.W.fnOf "is_range" "is_range" (defArgs s_is_range) (defBody s_is_range) (defScope s_is_range) .none kV19 dc19 pm19 an19 cd19 ct19), sl19⟩)
    (c19 : PySem.W.codeIn K cd19 "is_range" = true)
    (k19 : PySem.W.keepIn K (.ref f19) = true)
    (a20 : PySem.W.nsIn K mainGlobals "is_variable" = some (some (.ref f20)))
    (l20 : K.lookup f20 = some ⟨oc20, od20, .func (PySem.W.fnOf "is_variable" "is_variable" (defArgs s_is_variable) (defBody s_is_variable) (defScope s_is_variable) .none kV20 dc20 pm20 an20 cd20 ct20), sl20⟩)
    (c20 : PySem.W.codeIn K cd20 "is_variable" = true)
    (k20 : PySem.W.keepIn K (.ref f20) = true)
    (a21 : PySem.W.nsIn K mainGlobals "names_of" = some (some (.ref f21)))
    (l21 : K.lookup f21 = some ⟨oc21, od21, .func (PySem.W.fnOf "names_of" "names_of" (defArgs s_names_of) (defBody s_names_of) (defScope s_names_of) .none kV21 dc21 pm21 an21 cd21 ct21), sl21⟩)
    (c21 : PySem.W.codeIn K cd21 "names_of" = true)
    (k21 : PySem.W.keepIn K (.ref f21) = true)
    (a22 : PySem.W.nsIn K mainGlobals "are_variables" = some (some (.ref f22)))
    (l22 : K.lookup f22 = some ⟨oc22, od22, .func (PySem.W.fnOf "are_variables" "are_variables" (defArgs s_are_variables) (defBody s_are_variables) (defScope s_are_variables) .none kV22 dc22 pm22 an22 cd22 ct22), sl22⟩)
    (c22 : PySem.W.codeIn K cd22 "are_variables" = true)
    (k22 : PySem.W.keepIn K (.ref f22) = true)
    (a23 : PySem.W.nsIn K mainGlobals "sizes_and_bounds" = some (some (.ref f23)))
    (l23 : K.lookup f23 = some ⟨oc23, od23, .func (PySem.W.fnOf "sizes_and_bounds" "sizes_and_bounds" (defArgs s_sizes_and_bounds) (defBody s_sizes_and_bounds) (defScope s_sizes_and_bounds) .none kV23 dc23 pm23 an23 cd23 ct23), sl23⟩)
    (c23 : PySem.W.codeIn K cd23 "sizes_and_bounds" = true)
    (k23 : PySem.W.keepIn K (.ref f23) = true)
    (a24 : PySem.W.nsIn K mainGlobals "is_member" = some (some (.ref f24)))
    (l24 : K.lookup f24 = some ⟨oc24, od24, .func (PySem.W.fnOf "is_member" "is_member" (defArgs s_is_member) (defBody s_is_member) (defScope s_is_member) .none kV24 dc24 pm24 an24 cd24 ct24), sl24⟩)
    (c24 : PySem.W.codeIn K cd24 "is_member" = true)
    (k24 : PySem.W.keepIn K (.ref f24) = true)
    (a25 : PySem.W.nsIn K mainGlobals "is_row" = some (some (.ref f25)))
    (l25 : K.lookup f25 = some ⟨oc25, od25, .func (PySem.W.fnOf "is_row" "is_row" (defArgs s_is_row) (defBody s_is_row) (defScope s_is_row) .none kV25 dc25 pm25 an25 cd25 ct25), sl25⟩)
    (c25 : PySem.W.codeIn K cd25 "is_row" = true)
    (k25 : PySem.W.keepIn K (.ref f25) = true)
    (a26 : PySem.W.nsIn K mainGlobals "are_rows" = some (some (.ref f26)))
    (l26 : K.lookup f26 = some ⟨oc26, od26, .func (PySem.W.fnOf "are_rows" "are_rows" (defArgs s_are_rows) (defBody s_are_rows) (defScope s_are_rows) .none kV26 dc26 pm26 an26 cd26 ct26), sl26⟩)
    (c26 : PySem.W.codeIn K cd26 "are_rows" = true)
    (k26 : PySem.W.keepIn K (.ref f26) = true)
    (a27 : PySem.W.nsIn K mainGlobals "check_variables" = some (some (.ref f27)))
    (l27 : K.lookup f27 = some ⟨oc27, od27, .func (PySem.W.fnOf "check_variables" "check_variables" (defArgs s_check_variables) (defBody s_check_variables) (defScope s_check_variables) .none kV27 dc27 pm27 an27 cd27 ct27), sl27⟩)
    (c27 : PySem.W.codeIn K cd27 "check_variables" = true)
    (k27 : PySem.W.keepIn K (.ref f27) = true)
    (a28 : PySem.W.nsIn K mainGlobals "check_rows" = some (some (.ref f28)))
    (l28 : K.lookup f28 = some ⟨oc28, od28, .func (PySem.W.fnOf "check_rows" "check_rows" (defArgs s_check_rows) (defBody s_check_rows) (defScope s_check_rows) .none kV28 dc28 pm28 an28 cd28 ct28), sl28⟩)
    (c28 : PySem.W.codeIn K cd28 "check_rows" = true)
    (k28 : PySem.W.keepIn K (.ref f28) = true)
    (a29 : PySem.W.nsIn K mainGlobals "check_layout" = some (some (.ref f29)))
    (l29 : K.lookup f29 = some ⟨oc29, od29, .func (PySem.W.fnOf "check_layout" "check_layout" (defArgs s_check_layout) (defBody s_check_layout) (defScope s_check_layout) .none kV29 dc29 pm29 an29 cd29 ct29), sl29⟩)
    (c29 : PySem.W.codeIn K cd29 "check_layout" = true)
    (k29 : PySem.W.keepIn K (.ref f29) = true)
    (a30 : PySem.W.nsIn K mainGlobals "units_ahead" = some (some (.ref f30)))
    (l30 : K.lookup f30 = some ⟨oc30, od30, .func (PySem.W.fnOf "units_ahead" "units_ahead" (defArgs s_units_ahead) (defBody s_units_ahead) (defScope s_units_ahead) .none kV30 dc30 pm30 an30 cd30 ct30), sl30⟩)
    (c30 : PySem.W.codeIn K cd30 "units_ahead" = true)
    (k30 : PySem.W.keepIn K (.ref f30) = true)
    (a31 : PySem.W.nsIn K mainGlobals "lines_of" = some (some (.ref f31)))
    (l31 : K.lookup f31 = some ⟨oc31, od31, .func (PySem.W.fnOf "lines_of" "lines_of" (defArgs s_lines_of) (defBody s_lines_of) (defScope s_lines_of) .none kV31 dc31 pm31 an31 cd31 ct31), sl31⟩)
    (c31 : PySem.W.codeIn K cd31 "lines_of" = true)
    (k31 : PySem.W.keepIn K (.ref f31) = true)
    (a32 : PySem.W.nsIn K mainGlobals "stretches_of" = some (some (.ref f32)))
    (l32 : K.lookup f32 = some ⟨oc32, od32, .func (PySem.W.fnOf "stretches_of" "stretches_of" (defArgs s_stretches_of) (defBody s_stretches_of) (defScope s_stretches_of) .none kV32 dc32 pm32 an32 cd32 ct32), sl32⟩)
    (c32 : PySem.W.codeIn K cd32 "stretches_of" = true)
    (k32 : PySem.W.keepIn K (.ref f32) = true)
    (a33 : PySem.W.nsIn K mainGlobals "end_of" = some (some (.ref f33)))
    (l33 : K.lookup f33 = some ⟨oc33, od33, .func (PySem.W.fnOf "end_of" "end_of" (defArgs s_end_of) (defBody s_end_of) (defScope s_end_of) .none kV33 dc33 pm33 an33 cd33 ct33), sl33⟩)
    (c33 : PySem.W.codeIn K cd33 "end_of" = true)
    (k33 : PySem.W.keepIn K (.ref f33) = true)
    (a34 : PySem.W.nsIn K mainGlobals "shared_units" = some (some (.ref f34)))
    (l34 : K.lookup f34 = some ⟨oc34, od34, .func (PySem.W.fnOf "shared_units" "shared_units" (defArgs s_shared_units) (defBody s_shared_units) (defScope s_shared_units) .none kV34 dc34 pm34 an34 cd34 ct34), sl34⟩)
    (c34 : PySem.W.codeIn K cd34 "shared_units" = true)
    (k34 : PySem.W.keepIn K (.ref f34) = true)
    (a35 : PySem.W.nsIn K mainGlobals "touched_by" = some (some (.ref f35)))
    (l35 : K.lookup f35 = some ⟨oc35, od35, .func (PySem.W.fnOf "touched_by" "touched_by" (defArgs s_touched_by) (defBody s_touched_by) (defScope s_touched_by) .none kV35 dc35 pm35 an35 cd35 ct35), sl35⟩)
    (c35 : PySem.W.codeIn K cd35 "touched_by" = true)
    (k35 : PySem.W.keepIn K (.ref f35) = true)
    (a36 : PySem.W.nsIn K mainGlobals "begins_within" = some (some (.ref f36)))
    (l36 : K.lookup f36 = some ⟨oc36, od36, .func (PySem.W.fnOf "begins_within" "begins_within" (defArgs s_begins_within) (defBody s_begins_within) (defScope s_begins_within) .none kV36 dc36 pm36 an36 cd36 ct36), sl36⟩)
    (c36 : PySem.W.codeIn K cd36 "begins_within" = true)
    (k36 : PySem.W.keepIn K (.ref f36) = true)
    (a37 : PySem.W.nsIn K mainGlobals "check_name" = some (some (.ref f37)))
    (l37 : K.lookup f37 = some ⟨oc37, od37, .func (PySem.W.fnOf "check_name" "check_name" (defArgs s_check_name) (defBody s_check_name) (defScope s_check_name) .none kV37 dc37 pm37 an37 cd37 ct37), sl37⟩)
    (c37 : PySem.W.codeIn K cd37 "check_name" = true)
    (k37 : PySem.W.keepIn K (.ref f37) = true)
    (a38 : PySem.W.nsIn K mainGlobals "check_number" = some (some (.ref f38)))
    (l38 : K.lookup f38 = some ⟨oc38, od38, .func (PySem.W.fnOf "check_number" "check_number" (defArgs s_check_number) (defBody s_check_number) (defScope s_check_number) .none kV38 dc38 pm38 an38 cd38 ct38), sl38⟩)
    (c38 : PySem.W.codeIn K cd38 "check_number" = true)
    (k38 : PySem.W.keepIn K (.ref f38) = true)
    (a39 : PySem.W.nsIn K mainGlobals "two_stretches" = some (some (.ref f39)))
    (l39 : K.lookup f39 = some ⟨oc39, od39, .func (PySem.W.fnOf "two_stretches" "two_stretches" (defArgs s_two_stretches) (defBody s_two_stretches) (defScope s_two_stretches) .none kV39 dc39 pm39 an39 cd39 ct39), sl39⟩)
    (c39 : PySem.W.codeIn K cd39 "two_stretches" = true)
    (k39 : PySem.W.keepIn K (.ref f39) = true)
    (a40 : PySem.W.nsIn K mainGlobals "in_order" = some (some (.ref f40)))
    (l40 : K.lookup f40 = some ⟨oc40, od40, .func (PySem.W.fnOf "in_order" "in_order" (defArgs s_in_order) (defBody s_in_order) (defScope s_in_order) .none kV40 dc40 pm40 an40 cd40 ct40), sl40⟩)
    (c40 : PySem.W.codeIn K cd40 "in_order" = true)
    (k40 : PySem.W.keepIn K (.ref f40) = true)
    (a41 : PySem.W.nsIn K mainGlobals "offsets" = some (some (.ref f41)))
    (l41 : K.lookup f41 = some ⟨oc41, od41, .func (PySem.W.fnOf "offsets" "offsets" (defArgs s_offsets) (defBody s_offsets) (defScope s_offsets) .none kV41 dc41 pm41 an41 cd41 ct41), sl41⟩)
    (c41 : PySem.W.codeIn K cd41 "offsets" = true)
    (k41 : PySem.W.keepIn K (.ref f41) = true)
    (a42 : PySem.W.nsIn K mainGlobals "are_bases" = some (some (.ref f42)))
    (l42 : K.lookup f42 = some ⟨oc42, od42, .func (PySem.W.fnOf "are_bases" "are_bases" (defArgs s_are_bases) (defBody s_are_bases) (defScope s_are_bases) .none kV42 dc42 pm42 an42 cd42 ct42), sl42⟩)
    (c42 : PySem.W.codeIn K cd42 "are_bases" = true)
    (k42 : PySem.W.keepIn K (.ref f42) = true)
    (a43 : PySem.W.nsIn K mainGlobals "shared" = some (some (.ref f43)))
    (l43 : K.lookup f43 = some ⟨oc43, od43, .func (PySem.W.fnOf "shared" "shared" (defArgs s_shared) (defBody s_shared) (defScope s_shared) .none kV43 dc43 pm43 an43 cd43 ct43), sl43⟩)
    (c43 : PySem.W.codeIn K cd43 "shared" = true)
    (k43 : PySem.W.keepIn K (.ref f43) = true)
    (a44 : PySem.W.nsIn K mainGlobals "touched" = some (some (.ref f44)))
    (l44 : K.lookup f44 = some ⟨oc44, od44, .func (PySem.W.fnOf "touched" "touched" (defArgs s_touched) (defBody s_touched) (defScope s_touched) .none kV44 dc44 pm44 an44 cd44 ct44), sl44⟩)
    (c44 : PySem.W.codeIn K cd44 "touched" = true)
    (k44 : PySem.W.keepIn K (.ref f44) = true)
    (a45 : PySem.W.nsIn K mainGlobals "pairs_number" = some (some (.ref f45)))
    (l45 : K.lookup f45 = some ⟨oc45, od45, .func (PySem.W.fnOf "pairs_number" "pairs_number" (defArgs s_pairs_number) (defBody s_pairs_number) (defScope s_pairs_number) .none kV45 dc45 pm45 an45 cd45 ct45), sl45⟩)
    (c45 : PySem.W.codeIn K cd45 "pairs_number" = true)
    (k45 : PySem.W.keepIn K (.ref f45) = true)
    (a46 : PySem.W.nsIn K mainGlobals "twins_number" = some (some (.ref f46)))
    (l46 : K.lookup f46 = some ⟨oc46, od46, .func (PySem.W.fnOf "twins_number" "twins_number" (defArgs s_twins_number) (defBody s_twins_number) (defScope s_twins_number) .none kV46 dc46 pm46 an46 cd46 ct46), sl46⟩)
    (c46 : PySem.W.codeIn K cd46 "twins_number" = true)
    (k46 : PySem.W.keepIn K (.ref f46) = true)
    (a47 : PySem.W.nsIn K mainGlobals "_law_draw" = some (some (.ref f47)))
    (l47 : K.lookup f47 = some ⟨oc47, od47, .func (PySem.W.fnOf "_law_draw" "_law_draw" (defArgs s_w_draw) (defBody s_w_draw) (defScope s_w_draw) .none kV47 dc47 pm47 an47 cd47 ct47), sl47⟩)
    (c47 : PySem.W.codeIn K cd47 "_law_draw" = true)
    (k47 : PySem.W.keepIn K (.ref f47) = true)
    (a48 : PySem.W.nsIn K mainGlobals "_law_pick" = some (some (.ref f48)))
    (l48 : K.lookup f48 = some ⟨oc48, od48, .func (PySem.W.fnOf "_law_pick" "_law_pick" (defArgs s_w_pick) (defBody s_w_pick) (defScope s_w_pick) .none kV48 dc48 pm48 an48 cd48 ct48), sl48⟩)
    (c48 : PySem.W.codeIn K cd48 "_law_pick" = true)
    (k48 : PySem.W.keepIn K (.ref f48) = true)
    (a49 : PySem.W.nsIn K mainGlobals "_law_far" = some (some (.ref f49)))
    (l49 : K.lookup f49 = some ⟨oc49, od49, .func (PySem.W.fnOf "_law_far" "_law_far" (defArgs s_w_far) (defBody s_w_far) (defScope s_w_far) .none kV49 dc49 pm49 an49 cd49 ct49), sl49⟩)
    (c49 : PySem.W.codeIn K cd49 "_law_far" = true)
    (k49 : PySem.W.keepIn K (.ref f49) = true)
    (a50 : PySem.W.nsIn K mainGlobals "_law_bounds" = some (some (.ref f50)))
    (l50 : K.lookup f50 = some ⟨oc50, od50, .func (PySem.W.fnOf "_law_bounds" "_law_bounds" (defArgs s_w_bounds) (defBody s_w_bounds) (defScope s_w_bounds) .none kV50 dc50 pm50 an50 cd50 ct50), sl50⟩)
    (c50 : PySem.W.codeIn K cd50 "_law_bounds" = true)
    (k50 : PySem.W.keepIn K (.ref f50) = true)
    (a51 : PySem.W.nsIn K mainGlobals "_law_ahead" = some (some (.ref f51)))
    (l51 : K.lookup f51 = some ⟨oc51, od51, .func (PySem.W.fnOf "_law_ahead" "_law_ahead" (defArgs s_w_ahead) (defBody s_w_ahead) (defScope s_w_ahead) .none kV51 dc51 pm51 an51 cd51 ct51), sl51⟩)
    (c51 : PySem.W.codeIn K cd51 "_law_ahead" = true)
    (k51 : PySem.W.keepIn K (.ref f51) = true)
    (a52 : PySem.W.nsIn K mainGlobals "_law_units" = some (some (.ref f52)))
    (l52 : K.lookup f52 = some ⟨oc52, od52, .func (PySem.W.fnOf "_law_units" "_law_units" (defArgs s_w_units) (defBody s_w_units) (defScope s_w_units) .none kV52 dc52 pm52 an52 cd52 ct52), sl52⟩)
    (c52 : PySem.W.codeIn K cd52 "_law_units" = true)
    (k52 : PySem.W.keepIn K (.ref f52) = true)
    (a53 : PySem.W.nsIn K mainGlobals "_law_spot" = some (some (.ref f53)))
    (l53 : K.lookup f53 = some ⟨oc53, od53, .func (PySem.W.fnOf "_law_spot" "_law_spot" (defArgs s_w_spot) (defBody s_w_spot) (defScope s_w_spot) .none kV53 dc53 pm53 an53 cd53 ct53), sl53⟩)
    (c53 : PySem.W.codeIn K cd53 "_law_spot" = true)
    (k53 : PySem.W.keepIn K (.ref f53) = true)
    (a54 : PySem.W.nsIn K mainGlobals "_law_cut" = some (some (.ref f54)))
    (l54 : K.lookup f54 = some ⟨oc54, od54, .func (PySem.W.fnOf "_law_cut" "_law_cut" (defArgs s_w_cut) (defBody s_w_cut) (defScope s_w_cut) .none kV54 dc54 pm54 an54 cd54 ct54), sl54⟩)
    (c54 : PySem.W.codeIn K cd54 "_law_cut" = true)
    (k54 : PySem.W.keepIn K (.ref f54) = true)
    (a55 : PySem.W.nsIn K mainGlobals "_law_pairs" = some (some (.ref f55)))
    (l55 : K.lookup f55 = some ⟨oc55, od55, .func (PySem.W.fnOf "_law_pairs" "_law_pairs" (defArgs s_w_pairs) (defBody s_w_pairs) (defScope s_w_pairs) .none kV55 dc55 pm55 an55 cd55 ct55), sl55⟩)
    (c55 : PySem.W.codeIn K cd55 "_law_pairs" = true)
    (k55 : PySem.W.keepIn K (.ref f55) = true)
    (a56 : PySem.W.nsIn K mainGlobals "_law_right" = some (some (.ref f56)))
    (l56 : K.lookup f56 = some ⟨oc56, od56, .func (PySem.W.fnOf "_law_right" "_law_right" (defArgs s_w_right) (defBody s_w_right) (defScope s_w_right) .none kV56 dc56 pm56 an56 cd56 ct56), sl56⟩)
    (c56 : PySem.W.codeIn K cd56 "_law_right" = true)
    (k56 : PySem.W.keepIn K (.ref f56) = true)
    (a57 : PySem.W.nsIn K mainGlobals "_law_well" = some (some (.ref f57)))
    (l57 : K.lookup f57 = some ⟨oc57, od57, .func (PySem.W.fnOf "_law_well" "_law_well" (defArgs s_w_well) (defBody s_w_well) (defScope s_w_well) .none kV57 dc57 pm57 an57 cd57 ct57), sl57⟩)
    (c57 : PySem.W.codeIn K cd57 "_law_well" = true)
    (k57 : PySem.W.keepIn K (.ref f57) = true)
    (a58 : PySem.W.nsIn K mainGlobals "law" = some (some (.ref f58)))
    (l58 : K.lookup f58 = some ⟨oc58, od58, .func (PySem.W.fnOf "law" "law" (defArgs s_law) (defBody s_law) (defScope s_law) .none kV58 dc58 pm58 an58 cd58 ct58), sl58⟩)
    (c58 : PySem.W.codeIn K cd58 "law" = true)
    (k58 : PySem.W.keepIn K (.ref f58) = true)
    (z_int : PySem.W.nsIn K mainGlobals "int" = some none)
    (z_isinstance : PySem.W.nsIn K mainGlobals "isinstance" = some none)
    (z_bool : PySem.W.nsIn K mainGlobals "bool" = some none)
    (z_str : PySem.W.nsIn K mainGlobals "str" = some none)
    (z_len : PySem.W.nsIn K mainGlobals "len" = some none)
    (z_all : PySem.W.nsIn K mainGlobals "all" = some none)
    (z_list : PySem.W.nsIn K mainGlobals "list" = some none)
    (z_tuple : PySem.W.nsIn K mainGlobals "tuple" = some none)
    (z_max : PySem.W.nsIn K mainGlobals "max" = some none)
    (z_min : PySem.W.nsIn K mainGlobals "min" = some none)
    (z_zip : PySem.W.nsIn K mainGlobals "zip" = some none)
    (z_sum : PySem.W.nsIn K mainGlobals "sum" = some none)
    (z_set : PySem.W.nsIn K mainGlobals "set" = some none)
    (z_enumerate : PySem.W.nsIn K mainGlobals "enumerate" = some none)
    (z_range : PySem.W.nsIn K mainGlobals "range" = some none)
    (z_sorted : PySem.W.nsIn K mainGlobals "sorted" = some none)
    (z_abs : PySem.W.nsIn K mainGlobals "abs" = some none)
    (v_FAR : PySem.W.nsIn K mainGlobals "FAR" = some (some (.int 1000000000000000000000000000000 t_FAR)))
    (v_LETTERS_parts : PySem.W.nsIn K mainGlobals "LETTERS_parts" = some (some (.str "abcdefghijklmnopqrstuvwxyz" t_LETTERS_parts)))
    (v_LETTERS_sharing : PySem.W.nsIn K mainGlobals "LETTERS_sharing" = some (some (.int 8 t_LETTERS_sharing)))
    (v_UNITS : PySem.W.nsIn K mainGlobals "UNITS" = some (some (.int 16 t_UNITS)))
    (v_DIMENSIONS : PySem.W.nsIn K mainGlobals "DIMENSIONS" = some (some (.int 7 t_DIMENSIONS)))
    (v_VARIABLES : PySem.W.nsIn K mainGlobals "VARIABLES" = some (some (.int 40 t_VARIABLES)))
    (v_MEMBERS : PySem.W.nsIn K mainGlobals "MEMBERS" = some (some (.int 10 t_MEMBERS)))
    (v_ROWS : PySem.W.nsIn K mainGlobals "ROWS" = some (some (.int 40 t_ROWS)))
    : ∃ fd : FuncData, (∀ (s : Shared) (v : Value), BindsTo s fd ⟨[v], []⟩ [("_law_script", v)]) ∧ ∀ base : Heap, K.In base → base.Ns mainGlobals mg → FnOk l.prog w K mg base (L2.CX l.prog w) 11 fa fd ["_law_script"] (spLaw K) := by
  have e := hfa.symm.trans (PySem.W.mg_of X G a58)
  cases e
  exact ⟨PySem.W.fnOf "law" "law" (defArgs s_law) (defBody s_law) (defScope s_law) .none kV58 dc58 pm58 an58 cd58 ct58, fun s v => .of_eq rfl, fun base _ _ => ok_law (P := l.prog) (w := w) (K := K) (mg := mg) (base := base) {
      a_is_number := f0,
      d_is_number := _,
      F_is_number := fun_mk (st := s_is_number) l0 c0 k0,
      g_is_number := PySem.W.mg_of X G a0,
      a_is_far := f1,
      d_is_far := _,
      F_is_far := fun_mk (st := s_is_far) l1 c1 k1,
      g_is_far := PySem.W.mg_of X G a1,
      a_is_name := f2,
      d_is_name := _,
      F_is_name := fun_mk (st := s_is_name) l2 c2 k2,
      g_is_name := PySem.W.mg_of X G a2,
      a_many_of := f3,
      d_many_of := _,
      F_many_of := fun_mk (st := s_many_of) l3 c3 k3,
      g_many_of := PySem.W.mg_of X G a3,
      a_subscript_of := f4,
      d_subscript_of := _,
      F_subscript_of := fun_mk (st := s_subscript_of) l4 c4 k4,
      g_subscript_of := PySem.W.mg_of X G a4,
      a_last_of := f5,
      d_last_of := _,
      F_last_of := fun_mk (st := s_last_of) l5 c5 k5,
      g_last_of := PySem.W.mg_of X G a5,
      a_upward := f6,
      d_upward := _,
      F_upward := fun_mk (st := s_upward) l6 c6 k6,
      g_upward := PySem.W.mg_of X G a6,
      a_normal_of := f7,
      d_normal_of := _,
      F_normal_of := fun_mk (st := s_normal_of) l7 c7 k7,
      g_normal_of := PySem.W.mg_of X G a7,
      a_divisor_and_factor := f8,
      d_divisor_and_factor := _,
      F_divisor_and_factor := fun_mk (st := s_divisor_and_factor) l8 c8 k8,
      g_divisor_and_factor := PySem.W.mg_of X G a8,
      a_met_of := f9,
      d_met_of := _,
      F_met_of := fun_mk (st := s_met_of) l9 c9 k9,
      g_met_of := PySem.W.mg_of X G a9,
      a_seats_apart := f10,
      d_seats_apart := _,
      F_seats_apart := fun_mk (st := s_seats_apart) l10 c10 k10,
      g_seats_apart := PySem.W.mg_of X G a10,
      a_seats_behind := f11,
      d_seats_behind := _,
      F_seats_behind := fun_mk (st := s_seats_behind) l11 c11 k11,
      g_seats_behind := PySem.W.mg_of X G a11,
      a_seats_by := f12,
      d_seats_by := _,
      F_seats_by := fun_mk (st := s_seats_by) l12 c12 k12,
      g_seats_by := PySem.W.mg_of X G a12,
      a_all_extents := f13,
      d_all_extents := _,
      F_all_extents := fun_mk (st := s_all_extents) l13 c13 k13,
      g_all_extents := PySem.W.mg_of X G a13,
      a_multiplied := f14,
      d_multiplied := _,
      F_multiplied := fun_mk (st := s_multiplied) l14 c14 k14,
      g_multiplied := PySem.W.mg_of X G a14,
      a_size_of := f15,
      d_size_of := _,
      F_size_of := fun_mk (st := s_size_of) l15 c15 k15,
      g_size_of := PySem.W.mg_of X G a15,
      a_weights := f16,
      d_weights := _,
      F_weights := fun_mk (st := s_weights) l16 c16 k16,
      g_weights := PySem.W.mg_of X G a16,
      a_is_element := f17,
      d_is_element := _,
      F_is_element := fun_mk (st := s_is_element) l17 c17 k17,
      g_is_element := PySem.W.mg_of X G a17,
      a_place_there := f18,
      d_place_there := _,
      F_place_there := fun_mk (st := s_place_there) l18 c18 k18,
      g_place_there := PySem.W.mg_of X G a18,
      a_is_range := f19,
      d_is_range := _,
      F_is_range := fun_mk (st := s_is_range) l19 c19 k19,
      g_is_range := PySem.W.mg_of X G a19,
      a_is_variable := f20,
      d_is_variable := _,
      F_is_variable := fun_mk (st := s_is_variable) l20 c20 k20,
      g_is_variable := PySem.W.mg_of X G a20,
      a_names_of := f21,
      d_names_of := _,
      F_names_of := fun_mk (st := s_names_of) l21 c21 k21,
      g_names_of := PySem.W.mg_of X G a21,
      a_are_variables := f22,
      d_are_variables := _,
      F_are_variables := fun_mk (st := s_are_variables) l22 c22 k22,
      g_are_variables := PySem.W.mg_of X G a22,
      a_sizes_and_bounds := f23,
      d_sizes_and_bounds := _,
      F_sizes_and_bounds := fun_mk (st := s_sizes_and_bounds) l23 c23 k23,
      g_sizes_and_bounds := PySem.W.mg_of X G a23,
      a_is_member := f24,
      d_is_member := _,
      F_is_member := fun_mk (st := s_is_member) l24 c24 k24,
      g_is_member := PySem.W.mg_of X G a24,
      a_is_row := f25,
      d_is_row := _,
      F_is_row := fun_mk (st := s_is_row) l25 c25 k25,
      g_is_row := PySem.W.mg_of X G a25,
      a_are_rows := f26,
      d_are_rows := _,
      F_are_rows := fun_mk (st := s_are_rows) l26 c26 k26,
      g_are_rows := PySem.W.mg_of X G a26,
      a_check_variables := f27,
      d_check_variables := _,
      F_check_variables := fun_mk (st := s_check_variables) l27 c27 k27,
      g_check_variables := PySem.W.mg_of X G a27,
      a_check_rows := f28,
      d_check_rows := _,
      F_check_rows := fun_mk (st := s_check_rows) l28 c28 k28,
      g_check_rows := PySem.W.mg_of X G a28,
      a_check_layout := f29,
      d_check_layout := _,
      F_check_layout := fun_mk (st := s_check_layout) l29 c29 k29,
      g_check_layout := PySem.W.mg_of X G a29,
      a_units_ahead := f30,
      d_units_ahead := _,
      F_units_ahead := fun_mk (st := s_units_ahead) l30 c30 k30,
      g_units_ahead := PySem.W.mg_of X G a30,
      a_lines_of := f31,
      d_lines_of := _,
      F_lines_of := fun_mk (st := s_lines_of) l31 c31 k31,
      g_lines_of := PySem.W.mg_of X G a31,
      a_stretches_of := f32,
      d_stretches_of := _,
      F_stretches_of := fun_mk (st := s_stretches_of) l32 c32 k32,
      g_stretches_of := PySem.W.mg_of X G a32,
      a_end_of := f33,
      d_end_of := _,
      F_end_of := fun_mk (st := s_end_of) l33 c33 k33,
      g_end_of := PySem.W.mg_of X G a33,
      a_shared_units := f34,
      d_shared_units := _,
      F_shared_units := fun_mk (st := s_shared_units) l34 c34 k34,
      g_shared_units := PySem.W.mg_of X G a34,
      a_touched_by := f35,
      d_touched_by := _,
      F_touched_by := fun_mk (st := s_touched_by) l35 c35 k35,
      g_touched_by := PySem.W.mg_of X G a35,
      a_begins_within := f36,
      d_begins_within := _,
      F_begins_within := fun_mk (st := s_begins_within) l36 c36 k36,
      g_begins_within := PySem.W.mg_of X G a36,
      a_check_name := f37,
      d_check_name := _,
      F_check_name := fun_mk (st := s_check_name) l37 c37 k37,
      g_check_name := PySem.W.mg_of X G a37,
      a_check_number := f38,
      d_check_number := _,
      F_check_number := fun_mk (st := s_check_number) l38 c38 k38,
      g_check_number := PySem.W.mg_of X G a38,
      a_two_stretches := f39,
      d_two_stretches := _,
      F_two_stretches := fun_mk (st := s_two_stretches) l39 c39 k39,
      g_two_stretches := PySem.W.mg_of X G a39,
      a_in_order := f40,
      d_in_order := _,
      F_in_order := fun_mk (st := s_in_order) l40 c40 k40,
      g_in_order := PySem.W.mg_of X G a40,
      a_offsets := f41,
      d_offsets := _,
      F_offsets := fun_mk (st := s_offsets) l41 c41 k41,
      g_offsets := PySem.W.mg_of X G a41,
      a_are_bases := f42,
      d_are_bases := _,
      F_are_bases := fun_mk (st := s_are_bases) l42 c42 k42,
      g_are_bases := PySem.W.mg_of X G a42,
      a_shared := f43,
      d_shared := _,
      F_shared := fun_mk (st := s_shared) l43 c43 k43,
      g_shared := PySem.W.mg_of X G a43,
      a_touched := f44,
      d_touched := _,
      F_touched := fun_mk (st := s_touched) l44 c44 k44,
      g_touched := PySem.W.mg_of X G a44,
      a_pairs_number := f45,
      d_pairs_number := _,
      F_pairs_number := fun_mk (st := s_pairs_number) l45 c45 k45,
      g_pairs_number := PySem.W.mg_of X G a45,
      a_twins_number := f46,
      d_twins_number := _,
      F_twins_number := fun_mk (st := s_twins_number) l46 c46 k46,
      g_twins_number := PySem.W.mg_of X G a46,
      a_w_draw := f47,
      d_w_draw := _,
      F_w_draw := fun_mk (st := s_w_draw) l47 c47 k47,
      g_w_draw := PySem.W.mg_of X G a47,
      a_w_pick := f48,
      d_w_pick := _,
      F_w_pick := fun_mk (st := s_w_pick) l48 c48 k48,
      g_w_pick := PySem.W.mg_of X G a48,
      a_w_far := f49,
      d_w_far := _,
      F_w_far := fun_mk (st := s_w_far) l49 c49 k49,
      g_w_far := PySem.W.mg_of X G a49,
      a_w_bounds := f50,
      d_w_bounds := _,
      F_w_bounds := fun_mk (st := s_w_bounds) l50 c50 k50,
      g_w_bounds := PySem.W.mg_of X G a50,
      a_w_ahead := f51,
      d_w_ahead := _,
      F_w_ahead := fun_mk (st := s_w_ahead) l51 c51 k51,
      g_w_ahead := PySem.W.mg_of X G a51,
      a_w_units := f52,
      d_w_units := _,
      F_w_units := fun_mk (st := s_w_units) l52 c52 k52,
      g_w_units := PySem.W.mg_of X G a52,
      a_w_spot := f53,
      d_w_spot := _,
      F_w_spot := fun_mk (st := s_w_spot) l53 c53 k53,
      g_w_spot := PySem.W.mg_of X G a53,
      a_w_cut := f54,
      d_w_cut := _,
      F_w_cut := fun_mk (st := s_w_cut) l54 c54 k54,
      g_w_cut := PySem.W.mg_of X G a54,
      a_w_pairs := f55,
      d_w_pairs := _,
      F_w_pairs := fun_mk (st := s_w_pairs) l55 c55 k55,
      g_w_pairs := PySem.W.mg_of X G a55,
      a_w_right := f56,
      d_w_right := _,
      F_w_right := fun_mk (st := s_w_right) l56 c56 k56,
      g_w_right := PySem.W.mg_of X G a56,
      a_w_well := f57,
      d_w_well := _,
      F_w_well := fun_mk (st := s_w_well) l57 c57 k57,
      g_w_well := PySem.W.mg_of X G a57,
      a_law := fa,
      d_law := _,
      F_law := fun_mk (st := s_law) l58 c58 k58,
      g_law := PySem.W.mg_of X G a58,
      z_int := PySem.W.mg_none_of X G z_int,
      z_isinstance := PySem.W.mg_none_of X G z_isinstance,
      z_bool := PySem.W.mg_none_of X G z_bool,
      z_str := PySem.W.mg_none_of X G z_str,
      z_len := PySem.W.mg_none_of X G z_len,
      z_all := PySem.W.mg_none_of X G z_all,
      z_list := PySem.W.mg_none_of X G z_list,
      z_tuple := PySem.W.mg_none_of X G z_tuple,
      z_max := PySem.W.mg_none_of X G z_max,
      z_min := PySem.W.mg_none_of X G z_min,
      z_zip := PySem.W.mg_none_of X G z_zip,
      z_sum := PySem.W.mg_none_of X G z_sum,
      z_set := PySem.W.mg_none_of X G z_set,
      z_enumerate := PySem.W.mg_none_of X G z_enumerate,
      z_range := PySem.W.mg_none_of X G z_range,
      z_sorted := PySem.W.mg_none_of X G z_sorted,
      z_abs := PySem.W.mg_none_of X G z_abs,
      t_FAR := t_FAR,
      c_FAR := PySem.W.mg_of X G v_FAR,
      t_LETTERS_parts := t_LETTERS_parts,
      c_LETTERS_parts := PySem.W.mg_of X G v_LETTERS_parts,
      t_LETTERS_sharing := t_LETTERS_sharing,
      c_LETTERS_sharing := PySem.W.mg_of X G v_LETTERS_sharing,
      t_UNITS := t_UNITS,
      c_UNITS := PySem.W.mg_of X G v_UNITS,
      t_DIMENSIONS := t_DIMENSIONS,
      c_DIMENSIONS := PySem.W.mg_of X G v_DIMENSIONS,
      t_VARIABLES := t_VARIABLES,
      c_VARIABLES := PySem.W.mg_of X G v_VARIABLES,
      t_MEMBERS := t_MEMBERS,
      c_MEMBERS := PySem.W.mg_of X G v_MEMBERS,
      t_ROWS := t_ROWS,
      c_ROWS := PySem.W.mg_of X G v_ROWS } right_ok tail_ok⟩
end DL
open PySem PySem.W PyProof.Rows
set_option maxHeartbeats 0 in
theorem PySem.Challenge.cw_sectionwise_k53_whole_great_variables_holds : PySem.Challenge.rw_sectionwise_k53_whole_great_variables.Holds := by
  w_on; o_law; k_head; (case hw => w_witness2)
  k_fill
  refine L2.walk_of (l := PySem.Challenge.rw_sectionwise_k53_whole_great_variables) (n := 63) (k := 11) (x := "_law_script") (CX := fun w => L2.CX PySem.Challenge.pw_sectionwise_k53_whole_great_variables w) (sp := fun w => DL.spLaw _) rfl (by decide) rfl ⟨rfl, by decide, by decide⟩ (fun w h Y => PySem.W.kIn_of Y) ?F (fun _ _ a ns hl _ hS => ⟨a, ns, rfl, hS, hl, fun _ => rfl⟩) (fun _ _ _ _ _ h => by obtain ⟨_, _, _, _, _, _, _, _, _, _, _, _, z⟩ := h; exact z)
  case F =>
    intro w mg fa h KX G hmg
    refine' DL.all_mk KX G hmg ?a0 ?l0 ?c0 ?k0 ?a1 ?l1 ?c1 ?k1 ?a2 ?l2 ?c2 ?k2 ?a3 ?l3 ?c3 ?k3 ?a4 ?l4 ?c4 ?k4 ?a5 ?l5 ?c5 ?k5 ?a6 ?l6 ?c6 ?k6 ?a7 ?l7 ?c7 ?k7 ?a8 ?l8 ?c8 ?k8 ?a9 ?l9 ?c9 ?k9 ?a10 ?l10 ?c10 ?k10 ?a11 ?l11 ?c11 ?k11 ?a12 ?l12 ?c12 ?k12 ?a13 ?l13 ?c13 ?k13 ?a14 ?l14 ?c14 ?k14 ?a15 ?l15 ?c15 ?k15 ?a16 ?l16 ?c16 ?k16 ?a17 ?l17 ?c17 ?k17 ?a18 ?l18 ?c18 ?k18 ?a19 ?l19 ?c19 ?k19 ?a20 ?l20 ?c20 ?k20 ?a21 ?l21 ?c21 ?k21 ?a22 ?l22 ?c22 ?k22 ?a23 ?l23 ?c23 ?k23 ?a24 ?l24 ?c24 ?k24 ?a25 ?l25 ?c25 ?k25 ?a26 ?l26 ?c26 ?k26 ?a27 ?l27 ?c27 ?k27 ?a28 ?l28 ?c28 ?k28 ?a29 ?l29 ?c29 ?k29 ?a30 ?l30 ?c30 ?k30 ?a31 ?l31 ?c31 ?k31 ?a32 ?l32 ?c32 ?k32 ?a33 ?l33 ?c33 ?k33 ?a34 ?l34 ?c34 ?k34 ?a35 ?l35 ?c35 ?k35 ?a36 ?l36 ?c36 ?k36 ?a37 ?l37 ?c37 ?k37 ?a38 ?l38 ?c38 ?k38 ?a39 ?l39 ?c39 ?k39 ?a40 ?l40 ?c40 ?k40 ?a41 ?l41 ?c41 ?k41 ?a42 ?l42 ?c42 ?k42 ?a43 ?l43 ?c43 ?k43 ?a44 ?l44 ?c44 ?k44 ?a45 ?l45 ?c45 ?k45 ?a46 ?l46 ?c46 ?k46 ?a47 ?l47 ?c47 ?k47 ?a48 ?l48 ?c48 ?k48 ?a49 ?l49 ?c49 ?k49 ?a50 ?l50 ?c50 ?k50 ?a51 ?l51 ?c51 ?k51 ?a52 ?l52 ?c52 ?k52 ?a53 ?l53 ?c53 ?k53 ?a54 ?l54 ?c54 ?k54 ?a55 ?l55 ?c55 ?k55 ?a56 ?l56 ?c56 ?k56 ?a57 ?l57 ?c57 ?k57 ?a58 ?l58 ?c58 ?k58 ?z_int ?z_isinstance ?z_bool ?z_str ?z_len ?z_all ?z_list ?z_tuple ?z_max ?z_min ?z_zip ?z_sum ?z_set ?z_enumerate ?z_range ?z_sorted ?z_abs ?v_FAR ?v_LETTERS_parts ?v_LETTERS_sharing ?v_UNITS ?v_DIMENSIONS ?v_VARIABLES ?v_MEMBERS ?v_ROWS
    (case a0 => k_is); (case l0 => k_is); (case c0 => k_is); (case k0 => k_is); (case a1 => k_is); (case l1 => k_is); (case c1 => k_is); (case k1 => k_is); (case a2 => k_is); (case l2 => k_is); (case c2 => k_is); (case k2 => k_is); (case a3 => k_is); (case l3 => k_is); (case c3 => k_is); (case k3 => k_is); (case a4 => k_is); (case l4 => k_is); (case c4 => k_is); (case k4 => k_is); (case a5 => k_is); (case l5 => k_is); (case c5 => k_is); (case k5 => k_is); (case a6 => k_is); (case l6 => k_is); (case c6 => k_is); (case k6 => k_is); (case a7 => k_is); (case l7 => k_is); (case c7 => k_is); (case k7 => k_is); (case a8 => k_is); (case l8 => k_is); (case c8 => k_is); (case k8 => k_is); (case a9 => k_is); (case l9 => k_is); (case c9 => k_is); (case k9 => k_is); (case a10 => k_is); (case l10 => k_is); (case c10 => k_is); (case k10 => k_is); (case a11 => k_is); (case l11 => k_is); (case c11 => k_is); (case k11 => k_is); (case a12 => k_is); (case l12 => k_is); (case c12 => k_is); (case k12 => k_is); (case a13 => k_is); (case l13 => k_is); (case c13 => k_is); (case k13 => k_is); (case a14 => k_is); (case l14 => k_is); (case c14 => k_is); (case k14 => k_is); (case a15 => k_is); (case l15 => k_is); (case c15 => k_is); (case k15 => k_is); (case a16 => k_is); (case l16 => k_is); (case c16 => k_is); (case k16 => k_is); (case a17 => k_is); (case l17 => k_is); (case c17 => k_is); (case k17 => k_is); (case a18 => k_is); (case l18 => k_is); (case c18 => k_is); (case k18 => k_is); (case a19 => k_is); (case l19 => k_is); (case c19 => k_is); (case k19 => k_is); (case a20 => k_is); (case l20 => k_is); (case c20 => k_is); (case k20 => k_is); (case a21 => k_is); (case l21 => k_is); (case c21 => k_is); (case k21 => k_is); (case a22 => k_is); (case l22 => k_is); (case c22 => k_is); (case k22 => k_is); (case a23 => k_is); (case l23 => k_is); (case c23 => k_is); (case k23 => k_is); (case a24 => k_is); (case l24 => k_is); (case c24 => k_is); (case k24 => k_is); (case a25 => k_is); (case l25 => k_is); (case c25 => k_is); (case k25 => k_is); (case a26 => k_is); (case l26 => k_is); (case c26 => k_is); (case k26 => k_is); (case a27 => k_is); (case l27 => k_is); (case c27 => k_is); (case k27 => k_is); (case a28 => k_is); (case l28 => k_is); (case c28 => k_is); (case k28 => k_is); (case a29 => k_is); (case l29 => k_is); (case c29 => k_is); (case k29 => k_is); (case a30 => k_is); (case l30 => k_is); (case c30 => k_is); (case k30 => k_is); (case a31 => k_is); (case l31 => k_is); (case c31 => k_is); (case k31 => k_is); (case a32 => k_is); (case l32 => k_is); (case c32 => k_is); (case k32 => k_is); (case a33 => k_is); (case l33 => k_is); (case c33 => k_is); (case k33 => k_is); (case a34 => k_is); (case l34 => k_is); (case c34 => k_is); (case k34 => k_is); (case a35 => k_is); (case l35 => k_is); (case c35 => k_is); (case k35 => k_is); (case a36 => k_is); (case l36 => k_is); (case c36 => k_is); (case k36 => k_is); (case a37 => k_is); (case l37 => k_is); (case c37 => k_is); (case k37 => k_is); (case a38 => k_is); (case l38 => k_is); (case c38 => k_is); (case k38 => k_is); (case a39 => k_is); (case l39 => k_is); (case c39 => k_is); (case k39 => k_is); (case a40 => k_is); (case l40 => k_is); (case c40 => k_is); (case k40 => k_is); (case a41 => k_is); (case l41 => k_is); (case c41 => k_is); (case k41 => k_is); (case a42 => k_is); (case l42 => k_is); (case c42 => k_is); (case k42 => k_is); (case a43 => k_is); (case l43 => k_is); (case c43 => k_is); (case k43 => k_is); (case a44 => k_is); (case l44 => k_is); (case c44 => k_is); (case k44 => k_is); (case a45 => k_is); (case l45 => k_is); (case c45 => k_is); (case k45 => k_is); (case a46 => k_is); (case l46 => k_is); (case c46 => k_is); (case k46 => k_is); (case a47 => k_is); (case l47 => k_is); (case c47 => k_is); (case k47 => k_is); (case a48 => k_is); (case l48 => k_is); (case c48 => k_is); (case k48 => k_is); (case a49 => k_is); (case l49 => k_is); (case c49 => k_is); (case k49 => k_is); (case a50 => k_is); (case l50 => k_is); (case c50 => k_is); (case k50 => k_is); (case a51 => k_is); (case l51 => k_is); (case c51 => k_is); (case k51 => k_is); (case a52 => k_is); (case l52 => k_is); (case c52 => k_is); (case k52 => k_is); (case a53 => k_is); (case l53 => k_is); (case c53 => k_is); (case k53 => k_is); (case a54 => k_is); (case l54 => k_is); (case c54 => k_is); (case k54 => k_is); (case a55 => k_is); (case l55 => k_is); (case c55 => k_is); (case k55 => k_is); (case a56 => k_is); (case l56 => k_is); (case c56 => k_is); (case k56 => k_is); (case a57 => k_is); (case l57 => k_is); (case c57 => k_is); (case k57 => k_is); (case a58 => k_is); (case l58 => k_is); (case c58 => k_is); (case k58 => k_is); (case z_int => k_is); (case z_isinstance => k_is); (case z_bool => k_is); (case z_str => k_is); (case z_len => k_is); (case z_all => k_is); (case z_list => k_is); (case z_tuple => k_is); (case z_max => k_is); (case z_min => k_is); (case z_zip => k_is); (case z_sum => k_is); (case z_set => k_is); (case z_enumerate => k_is); (case z_range => k_is); (case z_sorted => k_is); (case z_abs => k_is); (case v_FAR => k_is); (case v_LETTERS_parts => k_is); (case v_LETTERS_sharing => k_is); (case v_UNITS => k_is); (case v_DIMENSIONS => k_is); (case v_VARIABLES => k_is); (case v_MEMBERS => k_is); (case v_ROWS => k_is)
