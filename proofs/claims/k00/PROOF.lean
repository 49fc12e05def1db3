import PyProof.Rows.All
import Wide.All
import OpenK.AllK
import Wide.FinOn
import HandS.ForMost
import HandS.Wide
import HandS.Zip
import HandS.Rev
import HandS.IsInst
import HandS.Walk
import HandS.TupAny
import HandS.Conv
import HandS.EndBits
import HandS.RaiseMore
import HandS.Flow
import HandS.Evl
import HandS.Style
import HandS.TupMul
import HandS.TupLe
import HandS.RevRange
import HandS.SortInts
import HandS.SetFor
import HandS.Strs
import KE.GoesMore
import KE.GoesEnum
import KE.GoesZip
import KE.KItemsList
import PyProof.ListNew
import HandS.List
import HandS.NamedTupSort
import KE.KSortTup
import PyProof.ListOps
import PyProof.Rows.SeqMore
import PySem.Challenge.RW_evencoins_k00_whole_numbers_of_a_field
set_option Elab.async false
set_option linter.all false
set_option maxRecDepth 100000
set_option maxHeartbeats 4000000
section
set_option Elab.async false
set_option linter.all false
set_option maxRecDepth 100000
set_option maxHeartbeats 2000000
set_option autoImplicit false
/-! EV: a mirror of plain functions over data, with its soundness over the hand layer's readings. -/
namespace EV
open PySem PySem.Spec PyProof.Rows L2
abbrev Da := PyData
abbrev Frag := PySem.W.Frag
/-! ### data that stands in a heap -/
mutual
inductive Rep (K : Frag) (H : Hp) : V → PyData → Prop
  | non : Rep K H .non .none
  | bl (b : Bool) : Rep K H (.bl b) (.bool b)
  | int (i : Int) : Rep K H (.int i) (.int i)
  | str (x : Str) : Rep K H (.str x) (.str x)
  | lst {a : Addr} {xs : List V} {ds : List PyData} : SqL K H a xs → RepAll K H xs ds → Rep K H (.ref a) (.list ds)
  | tup {a : Addr} {xs : List V} {ds : List PyData} : SqT K H a xs → RepAll K H xs ds → Rep K H (.ref a) (.tuple ds)
  | dk0 {a : Addr} : H a = some (.dK []) → Rep K H (.ref a) (.dict [])
inductive RepAll (K : Frag) (H : Hp) : List V → List PyData → Prop
  | nil : RepAll K H [] []
  | cons {v : V} {vs : List V} {d : PyData} {ds : List PyData} : Rep K H v d → RepAll K H vs ds → RepAll K H (v :: vs) (d :: ds)
end
section
variable {K : Frag} {H H' : Hp}
mutual
theorem Rep.mono (e : Evl.Ex H H') : ∀ {v : V} {d : PyData}, Rep K H v d → Rep K H' v d
  | _, _, .non => .non
  | _, _, .bl b => .bl b
  | _, _, .int i => .int i
  | _, _, .str x => .str x
  | _, _, .lst h r => .lst (Evl.ex_l e h) (RepAll.mono e r)
  | _, _, .tup h r => .tup (Evl.ex_t e h) (RepAll.mono e r)
  | _, _, .dk0 h => .dk0 (e _ _ h)
theorem RepAll.mono (e : Evl.Ex H H') : ∀ {vs : List V} {ds : List PyData}, RepAll K H vs ds → RepAll K H' vs ds
  | _, _, .nil => .nil
  | _, _, .cons a b => .cons (Rep.mono e a) (RepAll.mono e b)
end
theorem RepAll.length : ∀ {vs : List V} {ds : List PyData}, RepAll K H vs ds → vs.length = ds.length
  | _, _, .nil => rfl
  | _, _, .cons _ b => by rw [List.length_cons, List.length_cons, RepAll.length b]
theorem RepAll.append : ∀ {vs ws : List V} {ds es : List PyData}, RepAll K H vs ds → RepAll K H ws es → RepAll K H (vs ++ ws) (ds ++ es)
  | _, _, _, _, .nil, h => h
  | _, _, _, _, .cons a b, h => .cons a (RepAll.append b h)
theorem RepAll.get : ∀ {vs : List V} {ds : List PyData} {i : Nat} {d : PyData}, RepAll K H vs ds → ds[i]? = some d → ∃ v, vs[i]? = some v ∧ Rep K H v d
  | _, _, _, _, .nil, e => by simp at e
  | _, _, 0, _, .cons a _, e => by simp at e; subst e; exact ⟨_, rfl, a⟩
  | _, _, i + 1, d, .cons _ b, e => by
    obtain ⟨v, h1, h2⟩ := RepAll.get (i := i) (d := d) b (by simpa using e)
    exact ⟨v, by simpa using h1, h2⟩
theorem RepAll.set : ∀ {vs : List V} {ds : List PyData} {v : V} {d : PyData} (i : Nat), RepAll K H vs ds → Rep K H v d → RepAll K H (vs.set i v) (ds.set i d)
  | _, _, _, _, _, .nil, _ => .nil
  | _, _, _, _, 0, .cons _ b, r => .cons r b
  | _, _, _, _, i + 1, .cons a b, r => .cons a (RepAll.set i b r)
theorem RepAll.take : ∀ {vs : List V} {ds : List PyData} (n : Nat), RepAll K H vs ds → RepAll K H (vs.take n) (ds.take n)
  | _, _, 0, _ => .nil
  | _, _, _ + 1, .nil => .nil
  | _, _, n + 1, .cons a b => .cons a (RepAll.take n b)
theorem RepAll.drop : ∀ {vs : List V} {ds : List PyData} (n : Nat), RepAll K H vs ds → RepAll K H (vs.drop n) (ds.drop n)
  | _, _, 0, r => r
  | _, _, _ + 1, .nil => .nil
  | _, _, n + 1, .cons _ b => RepAll.drop n b
theorem RepAll.dropLast {vs : List V} {ds : List PyData} (r : RepAll K H vs ds) : RepAll K H vs.dropLast ds.dropLast := by
  rw [List.dropLast_eq_take, List.dropLast_eq_take, r.length]
  exact r.take _
theorem RepAll.reverse : ∀ {vs : List V} {ds : List PyData}, RepAll K H vs ds → RepAll K H vs.reverse ds.reverse
  | _, _, .nil => .nil
  | _, _, .cons a b => by
    rw [List.reverse_cons, List.reverse_cons]
    exact RepAll.append (RepAll.reverse b) (.cons a .nil)
theorem RepAll.ints : ∀ {vs : List V} {ns : List Int}, RepAll K H vs (ns.map PyData.int) → vs = ns.map V.int
  | _, [], .nil => rfl
  | _, _ :: _, .cons (.int _) b => by rw [List.map_cons, RepAll.ints b]
theorem RepAll.of_ints : ∀ (ns : List Int), RepAll K H (ns.map V.int) (ns.map PyData.int)
  | [] => .nil
  | n :: ns => .cons (.int n) (RepAll.of_ints ns)
mutual
def noDict : PyData → Bool
  | .dict _ => false
  | .list xs => noDictAll xs
  | .tuple xs => noDictAll xs
  | _ => true
def noDictAll : List PyData → Bool
  | [] => true
  | d :: ds => noDict d && noDictAll ds
end
mutual
theorem Rep.dp : ∀ {v : V} {d : PyData}, Rep K H v d → noDict d = true → Dp K H v d
  | _, _, .non, _ => .non
  | _, _, .bl b, _ => .bl b
  | _, _, .int i, _ => .int i
  | _, _, .str x, _ => .str x
  | _, _, .lst h r, n => .lst h (RepAll.dp r (by simpa [noDict] using n))
  | _, _, .tup h r, n => .tup h (RepAll.dp r (by simpa [noDict] using n))
  | _, _, .dk0 h, n => by simp [noDict] at n
theorem RepAll.dp : ∀ {vs : List V} {ds : List PyData}, RepAll K H vs ds → noDictAll ds = true → DpAll K H vs ds
  | _, _, .nil, _ => .nil
  | _, _, .cons a b, n => by
    simp only [noDictAll, Bool.and_eq_true] at n
    exact .cons (Rep.dp a n.1) (RepAll.dp b n.2)
end
end
/-! ### slots, values on the way -/
inductive Sl where
  | un | val (d : Da) | own (ds : List Da) | raw (v : V)
inductive Wv where
  | dat (d : Da) | fresh (ds : List Da) | slot (i : Nat) | raw (v : V)
abbrev Gh := List Sl
def SlotOk (K : Frag) (Hf H : Hp) (s : Sl) (v : V) : Prop :=
  match s with
  | .un => True
  | .val d => Rep K Hf v d
  | .own ds => ∃ p vs, v = .ref p ∧ Hf p = none ∧ H p = some (.lst vs) ∧ RepAll K Hf vs ds
  | .raw w => v = w
def Own (g : Gh) (σ : L2.St) (p : Addr) : Prop := ∃ (i : Nat) (ds : List Da), g[i]? = some (.own ds) ∧ σ[i]? = some (some (.ref p))
structure En (K : Frag) (pr : List Nat) (B : Addr → Prop) (Hf H : Hp) (g : Gh) (σ : L2.St) : Prop where
  ex : Evl.Ex Hf H
  len : g.length = σ.length
  ok : ∀ (i : Nat) (s : Sl), g[i]? = some s → s ≠ .un → ∃ v, σ[i]? = some (some v) ∧ SlotOk K Hf H s v
  dis : ∀ (i j : Nat) (ds es : List Da) (p : Addr), g[i]? = some (.own ds) → g[j]? = some (.own es) → σ[i]? = some (some (.ref p)) → σ[j]? = some (some (.ref p)) → i = j
  nb : ∀ p, H p = none → B p
  ob : ∀ (i : Nat) (ds : List Da) (p : Addr), g[i]? = some (.own ds) → σ[i]? = some (some (.ref p)) → i ∈ pr ∨ B p
structure Tr (O : Addr → Prop) (Hf H Hf' H' : Hp) : Prop where
  ex : Evl.Ex Hf Hf'
  keep : ∀ p o, H p = some o → ¬ O p → H' p = some o ∧ Hf' p = Hf p
  stay : ∀ p, H' p = none → H p = none
/-- a value on the way, as it stands -/
def WOk (K : Frag) (B : Addr → Prop) (Hf H : Hp) (g : Gh) (σ : L2.St) (w : Wv) (v : V) : Prop :=
  match w with
  | .dat d => Rep K Hf v d
  | .fresh ds => ∃ p vs, v = .ref p ∧ B p ∧ Hf p = none ∧ H p = some (.lst vs) ∧ RepAll K Hf vs ds ∧ ¬ Own g σ p
  | .slot i => σ[i]? = some (some v)
  | .raw x => v = x
section
variable {K : Frag} {pr : List Nat} {B : Addr → Prop} {Hf H Hf' H' Hf1 H1 Hf2 H2 : Hp} {g g' g1 g2 : Gh} {σ σ' : L2.St} {O O1 : Addr → Prop} {v : V} {w : Wv} {d : Da}
theorem upd_none {H : Hp} {p q : Addr} {o : HO} (h : upd H p o q = none) : H q = none := by
  by_cases e : q = p
  · subst e; rw [upd_same] at h; cases h
  · rw [upd_ne e] at h; exact h
theorem Tr.refl : Tr O Hf H Hf H := ⟨Evl.Ex.refl Hf, fun _ _ h _ => ⟨h, rfl⟩, fun _ h => h⟩
theorem Tr.trans (a : Tr O Hf H Hf1 H1) (b : Tr O1 Hf1 H1 Hf2 H2) (s : ∀ p, O1 p → O p ∨ H p = none) : Tr O Hf H Hf2 H2 :=
  ⟨a.ex.trans b.ex, fun p o h n => by
    obtain ⟨h1, e1⟩ := a.keep p o h n
    obtain ⟨h2, e2⟩ := b.keep p o h1 fun z => by
      rcases s p z with z | z
      · exact n z
      · rw [h] at z; cases z
    exact ⟨h2, e2.trans e1⟩, fun p h => a.stay p (b.stay p h)⟩
theorem Tr.trans' (a : Tr O Hf H Hf1 H1) (b : Tr O1 Hf1 H1 Hf2 H2) (s : ∀ p, O1 p → O p) : Tr O Hf H Hf2 H2 := a.trans b fun p h => .inl (s p h)
theorem Tr.wide (a : Tr O Hf H Hf1 H1) (s : ∀ p, O p → O1 p) : Tr O1 Hf H Hf1 H1 := ⟨a.ex, fun p o h n => a.keep p o h fun z => n (s p z), a.stay⟩
theorem En.frz (E : En K pr B Hf H g σ) {p : Addr} (h : H p = none) : Hf p = none := Evl.fresh_back E.ex h
theorem En.own_some (E : En K pr B Hf H g σ) {p : Addr} (h : Own g σ p) : ∃ vs ds, H p = some (.lst vs) ∧ Hf p = none ∧ RepAll K Hf vs ds := by
  obtain ⟨i, ds, e1, e2⟩ := h
  obtain ⟨v, e3, q, vs, rfl, h1, h2, h3⟩ := E.ok i _ e1 (by simp)
  rw [e2] at e3
  cases e3
  exact ⟨vs, ds, h2, h1, h3⟩
theorem En.own_none (E : En K pr B Hf H g σ) {p : Addr} (h : H p = none) : ¬ Own g σ p := fun z => by
  obtain ⟨vs, ds, h1, _⟩ := E.own_some z
  rw [h] at h1; cases h1
/-- a new object, frozen at once -/
theorem En.new (E : En K pr B Hf H g σ) {p : Addr} {o : HO} (h : H p = none) : En K pr B (upd Hf p o) (upd H p o) g σ where
  ex := fun a u e => by
    by_cases q : a = p
    · subst q; rw [upd_same] at e ⊢; exact e
    · rw [upd_ne q] at e ⊢; exact E.ex a u e
  len := E.len
  ok := fun i s e n => by
    obtain ⟨v, e1, s1⟩ := E.ok i s e n
    refine ⟨v, e1, ?_⟩
    have ex : Evl.Ex Hf (upd Hf p o) := Evl.Ex.new (E.frz h)
    cases s with
    | un => trivial
    | val d => exact Rep.mono ex s1
    | own ds =>
      obtain ⟨q, vs, rfl, h1, h2, h3⟩ := s1
      have ne : q ≠ p := ne_of_none h2 h
      exact ⟨q, vs, rfl, by rw [upd_ne ne]; exact h1, by rw [upd_ne ne]; exact h2, h3.mono ex⟩
    | raw w => exact s1
  dis := E.dis
  nb := fun q hq => by
    by_cases e : q = p
    · subst e; rw [upd_same] at hq; cases hq
    · rw [upd_ne e] at hq; exact E.nb q hq
  ob := E.ob
theorem Tr.new {p : Addr} {o : HO} (hf : Hf p = none) (h : H p = none) : Tr O Hf H (upd Hf p o) (upd H p o) :=
  ⟨Evl.Ex.new hf, fun q u e _ => by
    have ne : q ≠ p := ne_of_none e h
    exact ⟨by rw [upd_ne ne]; exact e, upd_ne ne⟩, fun q hq => upd_none hq⟩
/-- a new object that is not frozen -/
theorem En.mut (E : En K pr B Hf H g σ) {p : Addr} {o : HO} (h : H p = none) : En K pr B Hf (upd H p o) g σ where
  ex := Evl.Ex.mut E.ex (E.frz h)
  len := E.len
  ok := fun i s e n => by
    obtain ⟨v, e1, s1⟩ := E.ok i s e n
    refine ⟨v, e1, ?_⟩
    cases s with
    | un => trivial
    | val d => exact s1
    | own ds =>
      obtain ⟨q, vs, rfl, h1, h2, h3⟩ := s1
      exact ⟨q, vs, rfl, h1, by rw [upd_ne (ne_of_none h2 h)]; exact h2, h3⟩
    | raw w => exact s1
  dis := E.dis
  nb := fun q hq => by
    by_cases e : q = p
    · subst e; rw [upd_same] at hq; cases hq
    · rw [upd_ne e] at hq; exact E.nb q hq
  ob := E.ob
theorem Tr.mut {p : Addr} {o : HO} (h : H p = none) : Tr O Hf H Hf (upd H p o) :=
  ⟨Evl.Ex.refl _, fun q u e _ => ⟨by rw [upd_ne (ne_of_none e h)]; exact e, rfl⟩, fun q hq => upd_none hq⟩
/-- an object that no slot owns and that is not frozen, changed -/
theorem En.put (E : En K pr B Hf H g σ) {p : Addr} {o : HO} (hf : Hf p = none) (n : ¬ Own g σ p) : En K pr B Hf (upd H p o) g σ where
  ex := Evl.Ex.mut E.ex hf
  len := E.len
  ok := fun i s e m => by
    obtain ⟨v, e1, s1⟩ := E.ok i s e m
    refine ⟨v, e1, ?_⟩
    cases s with
    | un => trivial
    | val d => exact s1
    | own ds =>
      obtain ⟨q, vs, rfl, h1, h2, h3⟩ := s1
      have ne : q ≠ p := fun z => by subst z; exact n ⟨i, ds, e, e1⟩
      exact ⟨q, vs, rfl, h1, by rw [upd_ne ne]; exact h2, h3⟩
    | raw w => exact s1
  dis := E.dis
  nb := fun q hq => by
    by_cases e : q = p
    · subst e; rw [upd_same] at hq; cases hq
    · rw [upd_ne e] at hq; exact E.nb q hq
  ob := E.ob
/-- such an object is frozen as it stands -/
theorem En.freeze (E : En K pr B Hf H g σ) {p : Addr} {o : HO} (h : H p = some o) (hf : Hf p = none) (n : ¬ Own g σ p) : En K pr B (upd Hf p o) H g σ where
  ex := fun a u e => by
    by_cases q : a = p
    · subst q; rw [upd_same] at e; cases e; exact h
    · rw [upd_ne q] at e; exact E.ex a u e
  len := E.len
  ok := fun i s e m => by
    obtain ⟨v, e1, s1⟩ := E.ok i s e m
    refine ⟨v, e1, ?_⟩
    have ex : Evl.Ex Hf (upd Hf p o) := Evl.Ex.new hf
    cases s with
    | un => trivial
    | val d => exact Rep.mono ex s1
    | own ds =>
      obtain ⟨q, vs, rfl, h1, h2, h3⟩ := s1
      have ne : q ≠ p := fun z => by subst z; exact n ⟨i, ds, e, e1⟩
      exact ⟨q, vs, rfl, by rw [upd_ne ne]; exact h1, h2, h3.mono ex⟩
    | raw w => exact s1
  dis := E.dis
  nb := E.nb
  ob := E.ob
theorem get_set {α : Type} {l : List α} {i j : Nat} {a b : α} (h : (l.set i a)[j]? = some b) : (j = i ∧ b = a) ∨ (j ≠ i ∧ l[j]? = some b) := by
  by_cases e : i = j
  · subst e
    by_cases hl : i < l.length
    · rw [List.getElem?_set_self hl] at h
      cases h
      exact .inl ⟨rfl, rfl⟩
    · rw [List.getElem?_eq_none (by simpa using hl)] at h
      cases h
  · rw [List.getElem?_set_ne e] at h
    exact .inr ⟨fun z => e z.symm, h⟩
/-- a slot given up -/
theorem En.drop (E : En K pr B Hf H g σ) (i : Nat) : En K pr B Hf H (g.set i .un) σ where
  ex := E.ex
  len := by rw [List.length_set]; exact E.len
  ok := fun j s e n => by
    rcases get_set e with ⟨_, z⟩ | ⟨_, e⟩
    · exact absurd z n
    · exact E.ok j s e n
  dis := fun a b ds es p h1 h2 => by
    rcases get_set h1 with ⟨_, z⟩ | ⟨_, h1⟩
    · cases z
    rcases get_set h2 with ⟨_, z⟩ | ⟨_, h2⟩
    · cases z
    exact E.dis a b ds es p h1 h2
  nb := E.nb
  ob := fun a ds p h1 => by
    rcases get_set h1 with ⟨_, z⟩ | ⟨_, h1⟩
    · cases z
    exact E.ob a ds p h1
theorem own_drop {i : Nat} {p : Addr} (h : Own (g.set i .un) σ p) : Own g σ p := by
  obtain ⟨j, ds, e1, e2⟩ := h
  rcases get_set e1 with ⟨_, z⟩ | ⟨_, e1⟩
  · cases z
  exact ⟨j, ds, e1, e2⟩
/-- behind giving up, the object is nobody's -/
theorem En.not_own_drop (E : En K pr B Hf H g σ) {i : Nat} {ds : List Da} {p : Addr} (h : g[i]? = some (.own ds)) (e : σ[i]? = some (some (.ref p))) : ¬ Own (g.set i .un) σ p := fun z => by
  obtain ⟨j, es, e1, e2⟩ := z
  rcases get_set e1 with ⟨_, z⟩ | ⟨ne, e1⟩
  · cases z
  exact ne (E.dis j i es ds p e1 h e2 e)
/-- a slot's word replaced, the value as it stands -/
theorem En.put_slot (E : En K pr B Hf H g σ) {i : Nat} {s : Sl} {v : V} (hv : σ[i]? = some (some v)) (hs : SlotOk K Hf H s v) (ho : ∀ ds, s = .own ds → ∀ p, v = .ref p → ¬ Own (g.set i .un) σ p ∧ (i ∈ pr ∨ B p)) : En K pr B Hf H (g.set i s) σ where
  ex := E.ex
  len := by rw [List.length_set]; exact E.len
  ok := fun j t e n => by
    rcases get_set e with ⟨rfl, rfl⟩ | ⟨_, e⟩
    · exact ⟨v, hv, hs⟩
    · exact E.ok j t e n
  dis := fun a b ds es p h1 h2 e1 e2 => by
    rcases get_set h1 with ⟨rfl, z⟩ | ⟨na, h1'⟩
    · rcases get_set h2 with ⟨rfl, _⟩ | ⟨nb, h2'⟩
      · rfl
      · rw [e1] at hv; cases hv
        exact absurd ⟨b, es, by rw [List.getElem?_set_ne (Ne.symm nb)]; exact h2', e2⟩ (ho ds z.symm p rfl).1
    · rcases get_set h2 with ⟨rfl, z⟩ | ⟨nb, h2'⟩
      · rw [e2] at hv; cases hv
        exact absurd ⟨a, ds, by rw [List.getElem?_set_ne (Ne.symm na)]; exact h1', e1⟩ (ho es z.symm p rfl).1
      · exact E.dis a b ds es p h1' h2' e1 e2
  nb := E.nb
  ob := fun a ds p h1 e1 => by
    rcases get_set h1 with ⟨rfl, z⟩ | ⟨na, h1'⟩
    · rw [e1] at hv; cases hv
      exact (ho ds z.symm p rfl).2
    · exact E.ob a ds p h1' e1
theorem own_put {i : Nat} {s : Sl} {p : Addr} (h : Own (g.set i s) σ p) : Own (g.set i .un) σ p ∨ (∃ ds, s = .own ds ∧ σ[i]? = some (some (.ref p))) := by
  obtain ⟨j, ds, e1, e2⟩ := h
  rcases get_set e1 with ⟨rfl, z⟩ | ⟨n, e1⟩
  · exact .inr ⟨ds, z.symm, e2⟩
  · exact .inl ⟨j, ds, by rw [List.getElem?_set_ne (Ne.symm n)]; exact e1, e2⟩
/-- a slot's word weakened -/
theorem En.own_val (E : En K pr B Hf H g σ) {i : Nat} {ds : List Da} (h : g[i]? = some (.own ds)) :
    ∃ p vs, σ[i]? = some (some (.ref p)) ∧ H p = some (.lst vs) ∧ Hf p = none ∧ RepAll K Hf vs ds ∧ Own g σ p := by
  obtain ⟨v, e1, p, vs, rfl, h1, h2, h3⟩ := E.ok i _ h (by simp)
  exact ⟨p, vs, e1, h2, h1, h3, i, ds, h, e1⟩
theorem lt_of_get {α : Type} {l : List α} {i : Nat} {a : α} (h : l[i]? = some a) : i < l.length := by
  rcases Nat.lt_or_ge i l.length with q | q
  · exact q
  · rw [List.getElem?_eq_none q] at h; cases h
/-- a slot that owns is frozen -/
theorem En.freezeSlot (E : En K pr B Hf H g σ) {i : Nat} {ds : List Da} {p : Addr} {vs : List V} (h : g[i]? = some (.own ds)) (e : σ[i]? = some (some (.ref p))) (hp : H p = some (.lst vs)) :
    En K pr B (upd Hf p (.lst vs)) H (g.set i (.val (.list ds))) σ ∧ Rep K (upd Hf p (.lst vs)) (.ref p) (.list ds) ∧ Tr (Own g σ) Hf H (upd Hf p (.lst vs)) H ∧ (∀ q, Own (g.set i (.val (.list ds))) σ q → Own g σ q) := by
  obtain ⟨p', vs', e1, h1, h2, h3, ow⟩ := E.own_val h
  rw [e] at e1; cases e1
  rw [hp] at h1; cases h1
  have n := E.not_own_drop h e
  have E1 := (E.drop i).freeze hp h2 n
  have r : Rep K (upd Hf p (.lst vs)) (.ref p) (.list ds) := .lst (.inl (.inl upd_same)) (h3.mono (Evl.Ex.new h2))
  have E2 := E1.put_slot (i := i) (s := .val (.list ds)) e r (fun _ z => by cases z)
  rw [List.set_set] at E2
  refine ⟨E2, r, ⟨Evl.Ex.new h2, fun q o hq no => ⟨hq, upd_ne (fun z => no (z ▸ ow))⟩, fun _ h => h⟩, fun q hq => ?_⟩
  rcases own_put hq with z | ⟨_, z, _⟩
  · exact own_drop z
  · cases z
/-- the word of a value on the way, further on -/
theorem WOk.step (h : WOk K B Hf1 H1 g1 σ w v) (E1 : En K pr B Hf1 H1 g1 σ) (t : Tr (Own g1 σ) Hf1 H1 Hf2 H2) (s : ∀ p, Own g2 σ p → Own g1 σ p ∨ H1 p = none) : WOk K B Hf2 H2 g2 σ w v := by
  cases w with
  | dat d => exact Rep.mono t.ex h
  | fresh ds =>
    obtain ⟨p, vs, rfl, hb, hf, hp, r, n⟩ := h
    obtain ⟨k1, k2⟩ := t.keep p _ hp n
    refine ⟨p, vs, rfl, hb, k2.trans hf, k1, r.mono t.ex, fun z => ?_⟩
    rcases s p z with z | z
    · exact n z
    · rw [hp] at z; cases z
  | slot i => exact h
  | raw x => exact h
end
/-! ### from a value on the way to data -/
def toD : Wv → Gh → Option (Da × Gh)
  | .dat d, g => some (d, g)
  | .fresh ds, g => some (.list ds, g)
  | .slot i, g => match g[i]? with
    | some (.own ds) => some (.list ds, g.set i (.val (.list ds)))
    | some (.val d) => some (d, g)
    | _ => none
  | .raw _, _ => none
def look : Wv → Gh → Option Da
  | .dat d, _ => some d
  | .fresh ds, _ => some (.list ds)
  | .slot i, g => match g[i]? with
    | some (.own ds) => some (.list ds)
    | some (.val d) => some d
    | _ => none
  | .raw _, _ => none
section
variable {K : Frag} {pr : List Nat} {B : Addr → Prop} {Hf H Hf' H' Hf1 H1 Hf2 H2 : Hp} {g g' g1 g2 : Gh} {σ σ' : L2.St} {O O1 : Addr → Prop} {v : V} {w : Wv} {d : Da}
/-- the step: what an expression leaves -/
structure Stp (K : Frag) (pr : List Nat) (B : Addr → Prop) (Hf H : Hp) (g : Gh) (σ : L2.St) (Hf' H' : Hp) (g' : Gh) : Prop where
  tr : Tr (Own g σ) Hf H Hf' H'
  env : En K pr B Hf' H' g' σ
  sub : ∀ p, Own g' σ p → Own g σ p
theorem Stp.refl (E : En K pr B Hf H g σ) : Stp K pr B Hf H g σ Hf H g := ⟨Tr.refl, E, fun _ h => h⟩
theorem Stp.trans (a : Stp K pr B Hf H g σ Hf1 H1 g1) (b : Stp K pr B Hf1 H1 g1 σ Hf2 H2 g2) : Stp K pr B Hf H g σ Hf2 H2 g2 :=
  ⟨a.tr.trans' b.tr a.sub, b.env, fun p h => a.sub p (b.sub p h)⟩
theorem Stp.way (a : Stp K pr B Hf1 H1 g1 σ Hf2 H2 g2) (E : En K pr B Hf1 H1 g1 σ) (h : WOk K B Hf1 H1 g1 σ w v) : WOk K B Hf2 H2 g2 σ w v := h.step E a.tr fun p z => .inl (a.sub p z)
/-- freezing a fresh list: the step is from ahead of its making (B p: it is young) -/
theorem toD_ok (E : En K pr B Hf H g σ) (h : WOk K B Hf H g σ w v) (e : toD w g = some (d, g')) :
    ∃ Hf', En K pr B Hf' H g' σ ∧ Rep K Hf' v d ∧ Evl.Ex Hf Hf' ∧ (∀ p, Own g' σ p → Own g σ p) ∧ (∀ p o, H p = some o → ¬ Own g σ p → Hf' p = Hf p ∨ ((∃ ds, w = .fresh ds) ∧ v = .ref p)) := by
  cases w with
  | dat d' =>
    cases e
    exact ⟨Hf, E, h, Evl.Ex.refl _, fun _ h => h, fun _ _ _ _ => .inl rfl⟩
  | fresh ds =>
    cases e
    obtain ⟨p, vs, rfl, hb, hf, hp, r, n⟩ := h
    refine ⟨upd Hf p (.lst vs), E.freeze hp hf n, .lst (.inl (.inl upd_same)) (r.mono (Evl.Ex.new hf)), Evl.Ex.new hf, fun _ h => h, fun q o hq nq => ?_⟩
    by_cases z : q = p
    · subst z; exact .inr ⟨⟨ds, rfl⟩, rfl⟩
    · exact .inl (upd_ne z)
  | slot i =>
    have h : σ[i]? = some (some v) := h
    unfold toD at e
    dsimp only at e
    cases hg : g[i]? with
    | none => rw [hg] at e; cases e
    | some sl =>
      rw [hg] at e
      cases sl with
      | own ds =>
        cases e
        obtain ⟨p, vs, e1, h1, h2, h3, ow⟩ := E.own_val hg
        rw [h] at e1; cases e1
        obtain ⟨E2, r, t, s⟩ := E.freezeSlot hg h h1
        exact ⟨_, E2, r, t.ex, s, fun q o hq nq => .inl (t.keep q o hq nq).2⟩
      | val d' =>
        cases e
        obtain ⟨v', e1, r⟩ := E.ok i _ hg (by simp)
        rw [h] at e1; cases e1
        exact ⟨Hf, E, r, Evl.Ex.refl _, fun _ h => h, fun _ _ _ _ => .inl rfl⟩
      | un => cases e
      | raw x => cases e
  | raw x => cases e
/-- .. as a step from ahead, where the fresh list did not stand -/
theorem Stp.toD (a : Stp K pr B Hf H g σ Hf1 H1 g1) (hn : ∀ ds, w = .fresh ds → ∀ p, v = .ref p → H p = none) (h : WOk K B Hf1 H1 g1 σ w v) (e : toD w g1 = some (d, g')) :
    ∃ Hf', Stp K pr B Hf H g σ Hf' H1 g' ∧ Rep K Hf' v d := by
  obtain ⟨Hf', E', r, ex, s, k⟩ := toD_ok a.env h e
  refine ⟨Hf', ⟨⟨a.tr.ex.trans ex, fun p o hp no => ?_, a.tr.stay⟩, E', fun p z => a.sub p (s p z)⟩, r⟩
  obtain ⟨k1, k2⟩ := a.tr.keep p o hp no
  refine ⟨k1, ?_⟩
  rcases k p o k1 (fun z => no (a.sub p z)) with z | ⟨⟨ds, z⟩, z2⟩
  · exact z.trans k2
  · have := hn ds z p z2
    rw [hp] at this; cases this
theorem look_ok (E : En K pr B Hf H g σ) (h : WOk K B Hf H g σ w v) (e : look w g = some d) : Rep K H v d ∧ (Rep K Hf v d ∨ ∃ p vs ds, v = .ref p ∧ d = .list ds ∧ H p = some (.lst vs) ∧ RepAll K Hf vs ds) := by
  cases w with
  | dat d' => cases e; exact ⟨Rep.mono E.ex h, .inl h⟩
  | fresh ds =>
    cases e
    obtain ⟨p, vs, rfl, hb, hf, hp, r, n⟩ := h
    exact ⟨.lst (.inl (.inl hp)) (r.mono E.ex), .inr ⟨p, vs, ds, rfl, rfl, hp, r⟩⟩
  | slot i =>
    have h : σ[i]? = some (some v) := h
    unfold look at e
    dsimp only at e
    cases hg : g[i]? with
    | none => rw [hg] at e; cases e
    | some sl =>
      rw [hg] at e
      cases sl with
      | own ds =>
        cases e
        obtain ⟨p, vs, e1, h1, h2, h3, ow⟩ := E.own_val hg
        rw [h] at e1; cases e1
        exact ⟨.lst (.inl (.inl h1)) (h3.mono E.ex), .inr ⟨p, vs, ds, rfl, rfl, h1, h3⟩⟩
      | val d' =>
        cases e
        obtain ⟨v', e1, r⟩ := E.ok i _ hg (by simp)
        rw [h] at e1; cases e1
        exact ⟨Rep.mono E.ex r, .inl r⟩
      | un => cases e
      | raw x => cases e
  | raw x => cases e
end
end EV
end
section
set_option Elab.async false
set_option linter.all false
set_option maxRecDepth 100000
set_option maxHeartbeats 2000000
set_option autoImplicit false
namespace EV
open PySem PySem.Spec PyProof.Rows L2
/-! ### families of contexts -/
structure Fam where
  ι : Type
  X : ι → Cx
  K : Frag
  hK : ∀ i, (X i).K = K
def Fam.one (X : Cx) : Fam := ⟨Unit, fun _ => X, X.K, fun _ => rfl⟩
def Fam.blk (F : Fam) (scope : Scope) : Fam :=
  ⟨F.ι × Shared × Hp × Addr × List (Str × Addr) × List Addr, fun i => (F.X i.1).blk i.2.1 i.2.2.1 scope (compEnvC scope i.2.2.2.2.1 i.2.2.2.1 (F.X i.1).env) i.2.2.2.2.2, F.K, fun i => F.hK i.1⟩
section
variable (F : Fam)
def U (e : Expr) : TE := fun σ H Q => ∃ t : TE, (∀ i, PE (F.X i) e t) ∧ t σ H Q
def UT (e : Expr) : TT := fun σ H Q => ∃ t : TT, (∀ i, PT (F.X i) e t) ∧ t σ H Q
def UW (e : Expr) : TT := fun σ H Q => ∃ t : TT, (∀ i, PW (F.X i) e t) ∧ t σ H Q
def UTs (e : List Expr) : TT := fun σ H Q => ∃ t : TT, (∀ i, PTs (F.X i) e t) ∧ t σ H Q
def UA (es : List Expr) : TA := fun σ H Q => ∃ t : TA, (∀ i, PA (F.X i) es t) ∧ t σ H Q
def US (st : Stmt) : TS := fun D σ H => ∃ t : TS, (∀ i, PS (F.X i) st t) ∧ t D σ H
def USs (st : List Stmt) : TS := fun D σ H => ∃ t : TS, (∀ i, PSs (F.X i) st t) ∧ t D σ H
def UG (tg : Expr) : TG := fun v σ H Q => ∃ t : TG, (∀ i, PG (F.X i) tg t) ∧ t v σ H Q
def UI (tg it : Expr) : TI := fun σ H R => ∃ t : TI, (∀ i, PI (F.X i) tg it t) ∧ t σ H R
variable {F}
theorem pe_U {e : Expr} (i : F.ι) : PE (F.X i) e (U F e) := ⟨fun pins s σ H Q I ⟨t, ht, h⟩ => (ht i).run pins s σ H Q I h⟩
theorem pt_U {e : Expr} (i : F.ι) : PT (F.X i) e (UT F e) := ⟨fun pins s σ H Q I ⟨t, ht, h⟩ => (ht i).run pins s σ H Q I h⟩
theorem pw_U {e : Expr} (i : F.ι) : PW (F.X i) e (UW F e) := ⟨fun wh pins s σ H Q I ⟨t, ht, h⟩ => (ht i).run wh pins s σ H Q I h⟩
theorem pts_U {e : List Expr} (i : F.ι) : PTs (F.X i) e (UTs F e) := ⟨fun pins s σ H Q I ⟨t, ht, h⟩ => (ht i).run pins s σ H Q I h⟩
theorem pa_U {e : List Expr} (i : F.ι) : PA (F.X i) e (UA F e) := ⟨fun pos pins s σ H Q I ⟨t, ht, h⟩ => (ht i).run pos pins s σ H Q I h⟩
theorem ps_U {e : Stmt} (i : F.ι) : PS (F.X i) e (US F e) := ⟨fun pins s σ H D I ⟨t, ht, h⟩ => (ht i).run pins s σ H D I h⟩
theorem pss_U {e : List Stmt} (i : F.ι) : PSs (F.X i) e (USs F e) := ⟨fun pins s σ H D I ⟨t, ht, h⟩ => (ht i).run pins s σ H D I h⟩
theorem pg_U {e : Expr} (i : F.ι) : PG (F.X i) e (UG F e) := ⟨fun pins s σ H v u Q I r ⟨t, ht, h⟩ => (ht i).run pins s σ H v u Q I r h⟩
theorem pi_U {tg e : Expr} (i : F.ι) : PI (F.X i) tg e (UI F tg e) := ⟨fun pins s σ H Q I ⟨t, ht, h⟩ => (ht i).run pins s σ H Q I h⟩
end
/-! ### the judgements -/
abbrev ME := Gh → Option (Wv × Gh)
abbrev MT := Gh → Option (Bool × Gh)
abbrev MA := Gh → Option (List Wv × Gh)
abbrev MI := Gh → Option (List Da × Gh)
inductive Fl where
  | nx | rt (w : Wv) | bk | ct
abbrev MS := Gh → Option (Fl × Gh)
/-- a fresh list did not stand at H -/
def Yng (H : Hp) (w : Wv) (v : V) : Prop := ∀ ds, w = .fresh ds → ∀ p, v = .ref p → H p = none
def Apart (w : Wv) (v : V) (ws : List Wv) (vs : List V) : Prop := ∀ ds p, w = .fresh ds → v = .ref p → ∀ (i : Nat) es, ws[i]? = some (.fresh es) → vs[i]? = some (.ref p) → False
inductive WAll (K : Frag) (B : Addr → Prop) (Hf H : Hp) (g : Gh) (σ : L2.St) : List Wv → List V → Prop
  | nil : WAll K B Hf H g σ [] []
  | cons {w : Wv} {v : V} {ws : List Wv} {vs : List V} : WOk K B Hf H g σ w v → Apart w v ws vs → WAll K B Hf H g σ ws vs → WAll K B Hf H g σ (w :: ws) (v :: vs)
inductive YAll (H : Hp) : List Wv → List V → Prop
  | nil : YAll H [] []
  | cons {w : Wv} {v : V} {ws : List Wv} {vs : List V} : Yng H w v → YAll H ws vs → YAll H (w :: ws) (v :: vs)
section
variable (F : Fam) (pr : List Nat)
def Ev (e : Expr) (f : ME) : Prop := ∀ (B : Addr → Prop) (Hf H : Hp) (g : Gh) (σ : L2.St) (w : Wv) (g' : Gh) (Q : VK), En F.K pr B Hf H g σ → f g = some (w, g') →
  (∀ v Hf' H', Stp F.K pr B Hf H g σ Hf' H' g' → WOk F.K B Hf' H' g' σ w v → Yng H w v → Q v H') → U F e σ H Q
def EvT (e : Expr) (f : MT) : Prop := ∀ (B : Addr → Prop) (Hf H : Hp) (g : Gh) (σ : L2.St) (b : Bool) (g' : Gh) (Q : Bool → Hp → Prop), En F.K pr B Hf H g σ → f g = some (b, g') →
  (∀ Hf' H', Stp F.K pr B Hf H g σ Hf' H' g' → Q b H') → UT F e σ H Q
def EvW (e : Expr) (f : MT) : Prop := ∀ (B : Addr → Prop) (Hf H : Hp) (g : Gh) (σ : L2.St) (b : Bool) (g' : Gh) (Q : Bool → Hp → Prop), En F.K pr B Hf H g σ → f g = some (b, g') →
  (∀ Hf' H', Stp F.K pr B Hf H g σ Hf' H' g' → Q b H') → UW F e σ H Q
def EvTs (e : List Expr) (f : MT) : Prop := ∀ (B : Addr → Prop) (Hf H : Hp) (g : Gh) (σ : L2.St) (b : Bool) (g' : Gh) (Q : Bool → Hp → Prop), En F.K pr B Hf H g σ → f g = some (b, g') →
  (∀ Hf' H', Stp F.K pr B Hf H g σ Hf' H' g' → Q b H') → UTs F e σ H Q
def EvA (es : List Expr) (f : MA) : Prop := ∀ (B : Addr → Prop) (Hf H : Hp) (g : Gh) (σ : L2.St) (ws : List Wv) (g' : Gh) (Q : List V → Hp → Prop), En F.K pr B Hf H g σ → f g = some (ws, g') →
  (∀ vs Hf' H', Stp F.K pr B Hf H g σ Hf' H' g' → WAll F.K B Hf' H' g' σ ws vs → YAll H ws vs → Q vs H') → UA F es σ H Q
/-- how a walk goes over data -/
def WalkD (K : Frag) (J : It) (Hf : Hp) (ds : List Da) : Prop := ∀ Hf1 H1, Evl.Ex Hf Hf1 → Evl.Ex Hf1 H1 →
  (∀ i, i < ds.length → J.go i H1) ∧ J.stop ds.length H1 ∧ ∀ i d x H2, ds[i]? = some d → J.yld i H1 x H2 → ∃ Hf2, Tr (fun _ => False) Hf1 H1 Hf2 H2 ∧ (∀ pr B g σ, En K pr B Hf1 H1 g σ → En K pr B Hf2 H2 g σ) ∧ Rep K Hf2 x d
def EvI (tg e : Expr) (f : MI) : Prop := ∀ (B : Addr → Prop) (Hf H : Hp) (g : Gh) (σ : L2.St) (ds : List Da) (g' : Gh) (R : It → Hp → Prop), En F.K pr B Hf H g σ → f g = some (ds, g') →
  (∀ J Hf' H', Stp F.K pr B Hf H g σ Hf' H' g' → WalkD F.K J Hf' ds → R J H') → UI F tg e σ H R
/-- behind a statement -/
structure SStp (K : Frag) (pr : List Nat) (B : Addr → Prop) (Hf H : Hp) (g : Gh) (σ : L2.St) (Hf' H' : Hp) (g' : Gh) (σ' : L2.St) : Prop where
  tr : Tr (Own g σ) Hf H Hf' H'
  env : En K pr B Hf' H' g' σ'
  sub : ∀ p, Own g' σ' p → Own g σ p ∨ H p = none
  prk : ∀ i ∈ pr, σ'[i]? = σ[i]?
def FlOk (K : Frag) (B : Addr → Prop) (Hf H : Hp) (g : Gh) (σ : L2.St) (D : Ends) : Fl → Prop
  | .nx => D.nx σ H
  | .rt w => ∀ v, WOk K B Hf H g σ w v → (∀ i, w ≠ .slot i) → D.rt v H
  | .bk => D.bk σ H
  | .ct => D.ct σ H
def EvS (st : Stmt) (f : MS) : Prop := ∀ (B : Addr → Prop) (Hf H : Hp) (g : Gh) (σ : L2.St) (fl : Fl) (g' : Gh) (D : Ends), En F.K pr B Hf H g σ → f g = some (fl, g') →
  (∀ σ' Hf' H', SStp F.K pr B Hf H g σ Hf' H' g' σ' → FlOk F.K B Hf' H' g' σ' D fl) → US F st D σ H
def EvSs (st : List Stmt) (f : MS) : Prop := ∀ (B : Addr → Prop) (Hf H : Hp) (g : Gh) (σ : L2.St) (fl : Fl) (g' : Gh) (D : Ends), En F.K pr B Hf H g σ → f g = some (fl, g') →
  (∀ σ' Hf' H', SStp F.K pr B Hf H g σ Hf' H' g' σ' → FlOk F.K B Hf' H' g' σ' D fl) → USs F st D σ H
end
section
variable {F : Fam} {pr : List Nat} {B : Addr → Prop} {Hf H Hf' H' Hf1 H1 Hf2 H2 : Hp} {g g' g1 g2 : Gh} {σ σ' σ1 σ2 : L2.St} {K : Frag}
theorem SStp.refl (E : En K pr B Hf H g σ) : SStp K pr B Hf H g σ Hf H g σ := ⟨Tr.refl, E, fun _ h => .inl h, fun _ _ => rfl⟩
theorem SStp.trans (a : SStp K pr B Hf H g σ Hf1 H1 g1 σ1) (b : SStp K pr B Hf1 H1 g1 σ1 Hf2 H2 g2 σ2) : SStp K pr B Hf H g σ Hf2 H2 g2 σ2 :=
  ⟨a.tr.trans b.tr a.sub, b.env, fun p h => by
    rcases b.sub p h with z | z
    · exact a.sub p z
    · exact .inr (a.tr.stay p z), fun i hi => (b.prk i hi).trans (a.prk i hi)⟩
theorem Stp.s (a : Stp K pr B Hf H g σ Hf1 H1 g1) : SStp K pr B Hf H g σ Hf1 H1 g1 σ := ⟨a.tr, a.env, fun p h => .inl (a.sub p h), fun _ _ => rfl⟩
theorem WAll.step : ∀ {ws : List Wv} {vs : List V}, WAll K B Hf1 H1 g1 σ ws vs → En K pr B Hf1 H1 g1 σ → Stp K pr B Hf1 H1 g1 σ Hf2 H2 g2 → WAll K B Hf2 H2 g2 σ ws vs
  | _, _, .nil, _, _ => .nil
  | _, _, .cons a b c, E, s => .cons (s.way E a) b (WAll.step c E s)
theorem YAll.weak (t : ∀ p, H1 p = none → H p = none) : ∀ {ws : List Wv} {vs : List V}, YAll H1 ws vs → YAll H ws vs
  | _, _, .nil => .nil
  | _, _, .cons a b => .cons (fun ds e p e2 => t p (a ds e p e2)) (YAll.weak t b)
end
end EV
end
section
set_option Elab.async false
set_option linter.all false
set_option maxRecDepth 100000
set_option maxHeartbeats 2000000
set_option autoImplicit false
namespace EV
open PySem PySem.Spec PyProof.Rows L2
section
variable {F : Fam} {pr : List Nat} {B : Addr → Prop} {Hf H Hf' H' Hf1 H1 Hf2 H2 : Hp} {g g' g1 g2 : Gh} {σ σ' σ1 σ2 : L2.St} {K : Frag}
/-! ### names and constants -/
def mName (i : Nat) : ME := fun g => match g[i]? with
  | some (.val d) => some (.dat d, g)
  | some (.own _) => some (.slot i, g)
  | some (.raw v) => some (.raw v, g)
  | _ => none
theorem ev_name (i : Nat) {x : Str} {pos : Pos} (hN : ∀ j, (F.X j).N[i]? = some x := by intro _; rfl) (hv : ∀ j, Vis (F.X j).env.scope x := by intro _; first | exact Or.inl rfl | exact Or.inr (Or.inl rfl) | exact Or.inr (Or.inr rfl))
    (hd : (x == ("__debug__" : Str)) = false := by decide) (hcd : (x == ("__classdict__" : Str)) = false := by decide) : Ev F pr (.Name x pos) (mName i) := by
  intro B Hf H g σ w g' Q E e q
  unfold mName at e
  cases hg : g[i]? with
  | none => rw [hg] at e; cases e
  | some s =>
    rw [hg] at e
    have hs : s ≠ .un := fun z => by subst z; cases e
    obtain ⟨v, hv1, so⟩ := E.ok i s hg hs
    refine ⟨tVar i, fun j => pe_var (hN j) (hv j) hd hcd, v, hv1, ?_⟩
    cases s with
    | un => cases e
    | val d => cases e; exact q v Hf H (Stp.refl E) so (fun _ z => nomatch z)
    | own ds => cases e; exact q v Hf H (Stp.refl E) hv1 (fun _ z => nomatch z)
    | raw x => cases e; exact q v Hf H (Stp.refl E) so (fun _ z => nomatch z)
def mC (d : Da) : ME := fun g => some (.dat d, g)
theorem ev_c {e : Expr} {v : V} {d : Da} (h : ∀ i, PE (F.X i) e (tC v)) (r : ∀ Hf, Rep F.K Hf v d) : Ev F pr e (mC d) := by
  intro B Hf H g σ w g' Q E e q
  cases e
  exact ⟨_, h, q v Hf H (Stp.refl E) (r Hf) (fun _ z => nomatch z)⟩
theorem ev_int {i : Int} {j pos} : Ev F pr (.Constant (.int i) j pos) (mC (.int i)) := ev_c (fun _ => pe_int) fun _ => .int i
theorem ev_bl {b j pos} : Ev F pr (.Constant (.bool b) j pos) (mC (.bool b)) := ev_c (fun _ => pe_bl) fun _ => .bl b
theorem ev_non {j pos} : Ev F pr (.Constant .none j pos) (mC .none) := ev_c (fun _ => pe_non) fun _ => .non
theorem ev_str {x j pos} : Ev F pr (.Constant (.str x) j pos) (mC (.str x)) := ev_c (fun _ => pe_str) fun _ => .str x
/-- a constant of the module -/
theorem ev_glob {x : Str} {v : V} {u : Value} {d : Da} {pos : Pos} (hg : ∀ i, Gl (F.X i) x) (hm : ∀ i, (F.X i).mg x = some u) (r : RelV v u) (hr : ∀ Hf, Rep F.K Hf v d) (hd : (x == ("__debug__" : Str)) = false := by decide) : Ev F pr (.Name x pos) (mC d) :=
  ev_c (fun i => pe_glob (hg i) (hm i) r hd) hr
/-! ### argument lists -/
def mNil : MA := fun g => some ([], g)
def mCons (f : ME) (fs : MA) : MA := fun g => (f g).bind fun a => (fs a.2).bind fun b => some (a.1 :: b.1, b.2)
theorem ea_nil : EvA F pr [] mNil := by
  intro B Hf H g σ ws g' Q E e q
  cases e
  exact ⟨tNil, fun _ => pa_nil, q [] Hf H (Stp.refl E) .nil .nil⟩
theorem yall_apart {w : Wv} {v : V} (h : WOk K B Hf H g σ w v) : ∀ {ws : List Wv} {vs : List V}, YAll H ws vs → Apart w v ws vs
  | _, _, .nil => fun ds p _ _ i es h _ => by simp at h
  | _, _, .cons y ys => fun ds p e1 e2 i es h1 h2 => by
    cases i with
    | zero =>
      simp at h1 h2
      subst h1; subst h2; subst e1; subst e2
      obtain ⟨q, vs, e3, _, _, hp, _⟩ := h
      cases e3
      rw [y es rfl _ rfl] at hp; cases hp
    | succ i => exact yall_apart h ys ds p e1 e2 i es (by simpa using h1) (by simpa using h2)
theorem ea_cons {e : Expr} {es : List Expr} {f : ME} {fs : MA} (h : Ev F pr e f) (hs : EvA F pr es fs) (hst : ∀ i, starEach (e :: es) (F.X i).env = (false, eval e (F.X i).env) :: starEach es (F.X i).env := by intro _; rfl) : EvA F pr (e :: es) (mCons f fs) := by
  intro B Hf H g σ ws g' Q E eq q
  obtain ⟨⟨w, g1⟩, e1, eq⟩ := Option.bind_eq_some_iff.mp eq
  obtain ⟨⟨ws', g2⟩, e2, eq⟩ := Option.bind_eq_some_iff.mp eq
  cases eq
  refine ⟨tCons (U F e) (UA F es), fun i => pa_cons (pe_U i) (pa_U i) (hst i), ?_⟩
  refine h B Hf H g σ w g1 _ E e1 fun v Hf1 H1 s1 w1 y1 => ?_
  refine hs B Hf1 H1 g1 σ ws' g2 _ s1.env e2 fun vs Hf2 H2 s2 w2 y2 => ?_
  exact q _ Hf2 H2 (s1.trans s2) (.cons (s2.way s1.env w1) (yall_apart w1 y2 ) w2) (.cons y1 (YAll.weak s1.tr.stay y2))
/-! ### from values on the way to data -/
def toDs : List Wv → Gh → Option (List Da × Gh)
  | [], g => some ([], g)
  | w :: ws, g => (toD w g).bind fun a => (toDs ws a.2).bind fun b => some (a.1 :: b.1, b.2)
def lookAll : List Wv → Gh → Option (List Da)
  | [], _ => some []
  | w :: ws, g => (look w g).bind fun a => (lookAll ws g).bind fun b => some (a :: b)
theorem WOk.frz {w' : Wv} {v' : V} {w : Wv} {v : V} (h : WOk K B Hf H g σ w' v') (ex : Evl.Ex Hf Hf') (s : ∀ p, Own g' σ p → Own g σ p) (k : ∀ p o, H p = some o → ¬ Own g σ p → Hf' p = Hf p ∨ ((∃ ds, w = .fresh ds) ∧ v = .ref p))
    (a : ∀ ds es p, w = .fresh ds → w' = .fresh es → v = .ref p → v' = .ref p → False) : WOk K B Hf' H g' σ w' v' := by
  cases w' with
  | dat d => exact Rep.mono ex h
  | fresh es =>
    obtain ⟨p, vs, rfl, hb, hf, hp, r, n⟩ := h
    refine ⟨p, vs, rfl, hb, ?_, hp, r.mono ex, fun z => n (s p z)⟩
    rcases k p _ hp n with z | ⟨⟨ds, z⟩, z2⟩
    · exact z.trans hf
    · exact (a ds es p z rfl z2 rfl).elim
  | slot i => exact h
  | raw x => exact h
theorem WAll.frz {w : Wv} {v : V} (ex : Evl.Ex Hf Hf') (s : ∀ p, Own g' σ p → Own g σ p) (k : ∀ p o, H p = some o → ¬ Own g σ p → Hf' p = Hf p ∨ ((∃ ds, w = .fresh ds) ∧ v = .ref p)) :
    ∀ {ws : List Wv} {vs : List V}, WAll K B Hf H g σ ws vs → Apart w v ws vs → WAll K B Hf' H g' σ ws vs
  | _, _, .nil, _ => .nil
  | _, _, .cons a b c, ap => .cons (a.frz ex s k fun ds es p e1 e2 e3 e4 => ap ds p e1 e3 0 es (by simp [e2]) (by simp [e4])) b (WAll.frz ex s k c fun ds p e1 e2 i es h1 h2 => ap ds p e1 e2 (i + 1) es (by simpa using h1) (by simpa using h2))
theorem toDs_ok : ∀ {ws : List Wv} {vs : List V} {ds : List Da} {Hf1 : Hp} {g1 g' : Gh}, Stp K pr B Hf H g σ Hf1 H1 g1 → WAll K B Hf1 H1 g1 σ ws vs → YAll H ws vs → toDs ws g1 = some (ds, g') →
    ∃ Hf', Stp K pr B Hf H g σ Hf' H1 g' ∧ Evl.Ex Hf1 Hf' ∧ RepAll K Hf' vs ds
  | _, _, ds, Hf1, g1, g2, s, .nil, _, e => by cases e; exact ⟨Hf1, s, Evl.Ex.refl _, .nil⟩
  | _, _, ds, Hf1, g1, g3, s, .cons a b c, .cons y ys, e => by
    obtain ⟨⟨d, g2⟩, e1, e⟩ := Option.bind_eq_some_iff.mp e
    obtain ⟨⟨ds', g4⟩, e2, e⟩ := Option.bind_eq_some_iff.mp e
    cases e
    obtain ⟨Hf2, E2, r, ex, sb, k⟩ := toD_ok s.env a e1
    have s2 : Stp K pr B Hf H g σ Hf2 H1 g2 := by
      refine ⟨⟨s.tr.ex.trans ex, fun p o hp no => ?_, s.tr.stay⟩, E2, fun p z => s.sub p (sb p z)⟩
      obtain ⟨k1, k2⟩ := s.tr.keep p o hp no
      refine ⟨k1, ?_⟩
      rcases k p o k1 (fun z => no (s.sub p z)) with z | ⟨⟨es, z⟩, z2⟩
      · exact z.trans k2
      · have := y es z p z2
        rw [hp] at this; cases this
    obtain ⟨Hf', s3, ex3, r3⟩ := toDs_ok s2 (WAll.frz ex sb k c b) ys e2
    exact ⟨Hf', s3, ex.trans ex3, .cons (r.mono ex3) r3⟩
/-- what is looked at, as it stands -/
def RL (K : Frag) (Hf H : Hp) (v : V) (d : Da) : Prop := Rep K H v d ∧ (Rep K Hf v d ∨ ∃ p vs ds, v = .ref p ∧ d = .list ds ∧ H p = some (.lst vs) ∧ RepAll K Hf vs ds)
inductive RLs (K : Frag) (Hf H : Hp) : List V → List Da → Prop
  | nil : RLs K Hf H [] []
  | cons {v : V} {vs : List V} {d : Da} {ds : List Da} : RL K Hf H v d → RLs K Hf H vs ds → RLs K Hf H (v :: vs) (d :: ds)
theorem lookAll_ok (E : En K pr B Hf H g σ) : ∀ {ws : List Wv} {vs : List V} {ds : List Da}, WAll K B Hf H g σ ws vs → lookAll ws g = some ds → RLs K Hf H vs ds
  | _, _, ds, .nil, e => by cases e; exact .nil
  | _, _, ds, .cons a b c, e => by
    obtain ⟨d, e1, e⟩ := Option.bind_eq_some_iff.mp e
    obtain ⟨ds', e2, e⟩ := Option.bind_eq_some_iff.mp e
    cases e
    exact .cons (look_ok E a e1) (lookAll_ok E c e2)
theorem RL.seqL {v : V} {ds : List Da} (h : RL K Hf H v (.list ds)) (ex : Evl.Ex Hf H) : ∃ p xs, v = .ref p ∧ SqL K H p xs ∧ RepAll K Hf xs ds := by
  rcases h.2 with r | ⟨p, vs, es, rfl, e, hp, r⟩
  · cases r with
    | lst q r => exact ⟨_, _, rfl, Evl.ex_l ex q, r⟩
  · cases e
    exact ⟨p, vs, rfl, .inl (.inl hp), r⟩
theorem RL.seqT {v : V} {ds : List Da} (h : RL K Hf H v (.tuple ds)) (ex : Evl.Ex Hf H) : ∃ p xs, v = .ref p ∧ SqT K H p xs ∧ RepAll K Hf xs ds := by
  rcases h.2 with r | ⟨p, vs, es, rfl, e, hp, r⟩
  · cases r with
    | tup q r => exact ⟨_, _, rfl, Evl.ex_t ex q, r⟩
  · cases e
theorem RL.int {v : V} {i : Int} (h : RL K Hf H v (.int i)) : v = .int i := by
  cases h.1; rfl
theorem RL.bool {v : V} {i : Bool} (h : RL K Hf H v (.bool i)) : v = .bl i := by
  cases h.1; rfl
theorem RL.str {v : V} {i : Str} (h : RL K Hf H v (.str i)) : v = .str i := by
  cases h.1; rfl
theorem RL.none {v : V} (h : RL K Hf H v .none) : v = .non := by
  cases h.1; rfl
/-! ### displays -/
def mTup (fa : MA) : ME := fun g => (fa g).bind fun a => (toDs a.1 a.2).bind fun r => if r.1.length ≤ sizeLine then some (.dat (.tuple r.1), r.2) else none
def mLst (fa : MA) : ME := fun g => (fa g).bind fun a => (toDs a.1 a.2).bind fun r => if r.1.length ≤ sizeLine then some (.fresh r.1, r.2) else none
theorem ev_tup {es : List Expr} {fa : MA} {x1} {pos : Pos} (h : EvA F pr es fa) : Ev F pr (.Tuple es x1 pos) (mTup fa) := by
  intro B Hf H g σ w g' Q E eq q
  obtain ⟨⟨ws, g1⟩, e1, eq⟩ := Option.bind_eq_some_iff.mp eq
  obtain ⟨⟨ds, g2⟩, e2, eq⟩ := Option.bind_eq_some_iff.mp eq
  dsimp only at eq
  split at eq
  · rename_i hl
    cases eq
    refine ⟨tTup (UA F es), fun i => pe_tup (pa_U i), ?_⟩
    refine h B Hf H g σ ws g1 _ E e1 fun vs Hf1 H1 s1 w1 y1 => ?_
    obtain ⟨Hf2, s2, _, r2⟩ := toDs_ok s1 w1 y1 e2
    refine ⟨by rw [r2.length]; exact hl, fun p hp => ?_⟩
    have hf := s2.env.frz hp
    refine q _ (upd Hf2 p (.tup vs)) (upd H1 p (.tup vs)) (s2.trans ⟨Tr.new hf hp, s2.env.new hp, fun _ h => h⟩) ?_ (fun _ z => nomatch z)
    exact .tup (.inl (.inl upd_same)) (r2.mono (Evl.Ex.new hf))
  · cases eq
theorem ev_lst {es : List Expr} {fa : MA} {pos : Pos} (h : EvA F pr es fa) : Ev F pr (.List es pos) (mLst fa) := by
  intro B Hf H g σ w g' Q E eq q
  obtain ⟨⟨ws, g1⟩, e1, eq⟩ := Option.bind_eq_some_iff.mp eq
  obtain ⟨⟨ds, g2⟩, e2, eq⟩ := Option.bind_eq_some_iff.mp eq
  dsimp only at eq
  split at eq
  · rename_i hl
    cases eq
    refine ⟨tLst (UA F es), fun i => pe_lst (pa_U i), ?_⟩
    refine h B Hf H g σ ws g1 _ E e1 fun vs Hf1 H1 s1 w1 y1 => ?_
    obtain ⟨Hf2, s2, _, r2⟩ := toDs_ok s1 w1 y1 e2
    refine ⟨by rw [r2.length]; exact hl, fun p hp => ?_⟩
    have hf := s2.env.frz hp
    refine q _ Hf2 (upd H1 p (.lst vs)) (s2.trans ⟨Tr.mut hp, s2.env.mut hp, fun _ h => h⟩) ?_ (fun ds _ p' e => ?_)
    · exact ⟨p, vs, rfl, s2.env.nb p hp, hf, upd_same, r2, s2.env.own_none hp⟩
    · cases e; exact s2.tr.stay _ hp
  · cases eq
/-- an empty dict -/
def mDict0 : ME := fun g => some (.dat (.dict []), g)
/-! ### operators -/
/-- what a way's end hands over -/
def Cont (K : Frag) (pr : List Nat) (B : Addr → Prop) (Hf H : Hp) (g : Gh) (σ : L2.St) (w : Wv) (Q : VK) : Prop := ∀ v Hf' H', Stp K pr B Hf H g σ Hf' H' g → WOk K B Hf' H' g σ w v → Yng H w v → Q v H'
theorem Cont.dat {d : Da} {Q : VK} {v : V} (E : En K pr B Hf H g σ) (c : Cont K pr B Hf H g σ (.dat d) Q) (r : Rep K Hf v d) : Q v H := c v Hf H (Stp.refl E) r (fun _ z => nomatch z)
theorem Cont.newT {ds : List Da} {Q : VK} {vs : List V} {p : Addr} (E : En K pr B Hf H g σ) (c : Cont K pr B Hf H g σ (.dat (.tuple ds)) Q) (r : RepAll K Hf vs ds) (hp : H p = none) : Q (.ref p) (upd H p (.tup vs)) := by
  have hf := E.frz hp
  exact c _ (upd Hf p (.tup vs)) _ ⟨Tr.new hf hp, E.new hp, fun _ h => h⟩ (.tup (.inl (.inl upd_same)) (r.mono (Evl.Ex.new hf))) (fun _ z => nomatch z)
theorem Cont.newL {ds : List Da} {Q : VK} {vs : List V} {p : Addr} (E : En K pr B Hf H g σ) (c : Cont K pr B Hf H g σ (.fresh ds) Q) (r : RepAll K Hf vs ds) (hp : H p = none) : Q (.ref p) (upd H p (.lst vs)) := by
  have hf := E.frz hp
  exact c _ Hf _ ⟨Tr.mut hp, E.mut hp, fun _ h => h⟩ ⟨p, vs, rfl, E.nb p hp, hf, upd_same, r, E.own_none hp⟩ (fun ds _ p' e => by cases e; exact hp)
def OpD (F : Fam) (f : Value → Value → Sem Value) (Fn : Da → Da → Option Wv) : Prop := ∀ x y w, Fn x y = some w → ∃ r : R2, (∀ i, OpR (F.X i) f r) ∧
  ∀ pr B Hf H g σ vx vy (Q : VK), En F.K pr B Hf H g σ → RL F.K Hf H vx x → RL F.K Hf H vy y → Cont F.K pr B Hf H g σ w Q → r vx vy H Q
def mBin (Fn : Da → Da → Option Wv) (fa fb : ME) : ME := fun g => (fa g).bind fun a => (fb a.2).bind fun b => (look a.1 b.2).bind fun x => (look b.1 b.2).bind fun y => (Fn x y).bind fun w => some (w, b.2)
theorem bin_ok {a b : Expr} {fa fb : ME} {Fn : Da → Da → Option Wv} {f : Value → Value → Sem Value} (ha : Ev F pr a fa) (hb : Ev F pr b fb) (ho : OpD F f Fn) {w : Wv} {Q : VK} (E : En F.K pr B Hf H g σ) (eq : mBin Fn fa fb g = some (w, g'))
    (q : ∀ v Hf' H', Stp F.K pr B Hf H g σ Hf' H' g' → WOk F.K B Hf' H' g' σ w v → Yng H w v → Q v H') : ∃ r : R2, (∀ i, OpR (F.X i) f r) ∧ tOp r (U F a) (U F b) σ H Q := by
  obtain ⟨⟨wa, g1⟩, e1, eq⟩ := Option.bind_eq_some_iff.mp eq
  obtain ⟨⟨wb, g2⟩, e2, eq⟩ := Option.bind_eq_some_iff.mp eq
  obtain ⟨x, e3, eq⟩ := Option.bind_eq_some_iff.mp eq
  obtain ⟨y, e4, eq⟩ := Option.bind_eq_some_iff.mp eq
  obtain ⟨w', e5, eq⟩ := Option.bind_eq_some_iff.mp eq
  cases eq
  obtain ⟨r, hr, hk⟩ := ho x y w e5
  refine ⟨r, hr, ?_⟩
  refine ha B Hf H g σ wa g1 _ E e1 fun v Hf1 H1 s1 w1 y1 => ?_
  refine hb B Hf1 H1 g1 σ wb _ _ s1.env e2 fun u Hf2 H2 s2 w2 y2 => ?_
  refine hk pr B Hf2 H2 _ σ v u Q s2.env (look_ok s2.env (s2.way s1.env w1) e3) (look_ok s2.env w2 e4) fun z Hf3 H3 s3 w3 y3 => ?_
  exact q z Hf3 H3 ((s1.trans s2).trans s3) w3 fun ds e p e' => s1.tr.stay p (s2.tr.stay p (y3 ds e p e'))
theorem ev_bin {a b : Expr} {fa fb : ME} {Fn : Da → Da → Option Wv} {op : Operator} {pos : Pos} (ho : OpD F (binaryOp op) Fn) (ha : Ev F pr a fa) (hb : Ev F pr b fb) : Ev F pr (.BinOp a op b pos) (mBin Fn fa fb) := by
  intro B Hf H g σ w g' Q E eq q
  obtain ⟨r, hr, t⟩ := bin_ok ha hb ho E eq q
  exact ⟨_, fun i => pe_op (hr i) (pe_U i) (pe_U i), t⟩
/-- a comparison as a value -/
theorem ev_cmp {a b : Expr} {fa fb : ME} {Fn : Da → Da → Option Wv} {op : CmpOp} {pos : Pos} (ho : OpD F (compareOp op) Fn) (ha : Ev F pr a fa) (hb : Ev F pr b fb) (hm : behindInMarks op b = false := by first | exact nomark _ | rfl) : Ev F pr (.Compare a [op] [b] pos) (mBin Fn fa fb) := by
  intro B Hf H g σ w g' Q E eq q
  obtain ⟨r, hr, t⟩ := bin_ok ha hb ho E eq q
  exact ⟨_, fun i => pe_cmpR (hr i) (pe_U i) (pe_U i) hm, t⟩
/-- a comparison as a test -/
def asB : Option (Wv × Gh) → Option (Bool × Gh)
  | some (.dat (.bool b), g) => some (b, g)
  | _ => none
theorem asB_some {o : Option (Wv × Gh)} {b : Bool} (h : asB o = some (b, g)) : o = some (.dat (.bool b), g) := by
  unfold asB at h
  split at h
  · cases h; rfl
  · cases h
/-- a comparison as a test -/
def mCmp (Fn : Da → Da → Option Wv) (fa fb : ME) : MT := fun g => asB (mBin Fn fa fb g)
theorem et_cmp {a b : Expr} {fa fb : ME} {Fn : Da → Da → Option Wv} {op : CmpOp} {pos : Pos} (ho : OpD F (compareOp op) Fn) (ha : Ev F pr a fa) (hb : Ev F pr b fb) (hm : behindInMarks op b = false := by first | exact nomark _ | rfl) :
    EvT F pr (.Compare a [op] [b] pos) (mCmp Fn fa fb) := by
  intro B Hf H g σ k g' Q E eq q
  obtain ⟨r, hr, t⟩ := bin_ok (Q := fun x H' => ∃ k, x = .bl k ∧ Q k H') ha hb ho E (asB_some eq) fun v Hf' H' s w y => by
    cases w
    exact ⟨_, rfl, q Hf' H' s⟩
  exact ⟨_, fun i => pt_cmpR (hr i) (pe_U i) (pe_U i) hm, t⟩
end
end EV
end
section
set_option Elab.async false
set_option linter.all false
set_option maxRecDepth 100000
set_option maxHeartbeats 2000000
set_option autoImplicit false
namespace EV
open PySem PySem.Spec PyProof.Rows L2
section
variable {F : Fam} {pr : List Nat} {B : Addr → Prop} {Hf H Hf' H' Hf1 H1 Hf2 H2 : Hp} {g g' g1 g2 : Gh} {σ σ' σ1 σ2 : L2.St} {K : Frag}
/-! ### the operators over data -/
def dII (c : Int → Int → Bool) (h : Int → Int → Int) : Da → Da → Option Wv
  | .int a, .int b => if c a b = true then some (.dat (.int (h a b))) else none
  | _, _ => none
def dIB (h : Int → Int → Bool) : Da → Da → Option Wv
  | .int a, .int b => some (.dat (.bool (h a b)))
  | _, _ => none
theorem opd_II {f : Value → Value → Sem Value} {c : Int → Int → Bool} {h : Int → Int → Int} {C : Int → Int → Prop} (hr : ∀ i, OpR (F.X i) f (rI C fun i j => .int (h i j))) (hc : ∀ a b, c a b = true → C a b) : OpD F f (dII c h) := by
  intro x y w e
  unfold dII at e
  split at e
  · rename_i a b
    split at e
    · rename_i h1
      cases e
      exact ⟨_, hr, fun pr B Hf H g σ vx vy Q E hx hy c => ⟨a, b, hx.int, hy.int, hc a b h1, c.dat E (.int _)⟩⟩
    · cases e
  · cases e
theorem opd_IB {f : Value → Value → Sem Value} {h : Int → Int → Bool} (hr : ∀ i, OpR (F.X i) f (rI0 fun i j => .bl (h i j))) : OpD F f (dIB h) := by
  intro x y w e
  unfold dIB at e
  split at e
  · rename_i a b
    cases e
    exact ⟨_, hr, fun pr B Hf H g σ vx vy Q E hx hy c => ⟨a, b, hx.int, hy.int, c.dat E (.bl _)⟩⟩
  · cases e
def dSub := dII (fun _ _ => true) (fun a b => a - b)
theorem rI_of0 {g : Int → Int → V} {X : Cx} {f : Value → Value → Sem Value} (h : OpR X f (rI0 g)) : OpR X f (rI (fun _ _ => True) g) := fun pins s σ H x y v u Q I rx ry ⟨i, j, e1, e2, _, q⟩ => h pins s σ H x y v u Q I rx ry ⟨i, j, e1, e2, q⟩
theorem od_sub : OpD F (binaryOp .Sub) dSub := opd_II (fun _ => rI_of0 op_sub) (fun _ _ _ => trivial)
def dMod := dII (fun _ b => decide (0 < b)) (fun a b => a % b)
theorem od_mod : OpD F (binaryOp .Mod) dMod := opd_II (fun _ => op_mod) (fun _ _ h => of_decide_eq_true h)
def dFdiv := dII (fun _ b => decide (0 < b) && decide (b.natAbs.log2 < 9000)) (fun a b => a / b)
theorem od_fdiv : OpD F (binaryOp .FloorDiv) dFdiv := opd_II (fun _ => op_fdivW) (fun _ _ h => by
  rw [Bool.and_eq_true] at h
  exact ⟨of_decide_eq_true h.1, of_decide_eq_true h.2⟩)
def dPow := dII (fun a b => decide (0 ≤ b) && decide (b ≤ 1000000) && decide (a.natAbs < 2 ^ 64)) (fun a b => a ^ b.toNat)
theorem od_pow : OpD F (binaryOp .Pow) dPow := opd_II (fun _ => op_pow) (fun _ _ h => by
  rw [Bool.and_eq_true, Bool.and_eq_true] at h
  exact ⟨of_decide_eq_true h.1.1, of_decide_eq_true h.1.2, of_decide_eq_true h.2⟩)
def dLt := dIB fun a b => decide (a < b)
def dLe := dIB fun a b => decide (a ≤ b)
def dGt := dIB fun a b => decide (b < a)
def dGe := dIB fun a b => decide (b ≤ a)
theorem od_lt : OpD F (compareOp .Lt) dLt := opd_IB fun _ => op_lt
theorem od_le : OpD F (compareOp .LtE) dLe := opd_IB fun _ => op_le
theorem od_gt : OpD F (compareOp .Gt) dGt := opd_IB fun _ => op_gt
/-- a * b: ints; a tuple times an int -/
def dMul : Da → Da → Option Wv
  | .int a, .int b => if a.natAbs.log2 + b.natAbs.log2 < 1000000 then some (.dat (.int (a * b))) else none
  | _, _ => none
theorem od_mul : OpD F (binaryOp .Mult) dMul := by
  intro x y w e
  unfold dMul at e
  split at e
  · rename_i a b
    split at e
    · rename_i h1
      cases e
      exact ⟨_, fun i => op_mulW, fun pr B Hf H g σ vx vy Q E hx hy c => ⟨a, b, hx.int, hy.int, h1, c.dat E (.int _)⟩⟩
    · cases e
  · cases e
/-- a + b: ints, tuples, texts -/
def dAdd : Da → Da → Option Wv
  | .int a, .int b => some (.dat (.int (a + b)))
  | .tuple xs, .tuple ys => if xs.length + ys.length ≤ sizeLine then some (.dat (.tuple (xs ++ ys))) else none
  | .str a, .str b => if a.length + b.length ≤ sizeLine then some (.dat (.str (a ++ b))) else none
  | _, _ => none
theorem od_add : OpD F (binaryOp .Add) dAdd := by
  intro x y w e
  unfold dAdd at e
  split at e
  · rename_i a b
    cases e
    exact ⟨_, fun i => op_add, fun pr B Hf H g σ vx vy Q E hx hy c => ⟨a, b, hx.int, hy.int, c.dat E (.int _)⟩⟩
  · rename_i xs ys
    split at e
    · rename_i h1
      cases e
      refine ⟨rCatA F.K, fun i => by have h := @op_catA (F.X i); rw [F.hK i] at h; exact h, fun pr B Hf H g σ vx vy Q E hx hy c => ?_⟩
      obtain ⟨p, us, rfl, h2, r2⟩ := hx.seqT E.ex
      obtain ⟨q, ws, rfl, h3, r3⟩ := hy.seqT E.ex
      refine ⟨p, q, us, ws, rfl, rfl, h2, h3, by rw [r2.length, r3.length]; exact h1, fun z => ?_, fun _ z => ?_, fun _ _ a ha => c.newT E (r2.append r3) ha⟩
      · subst z
        cases r2
        rcases hy.2 with r | ⟨_, _, _, _, z, _⟩
        · exact c.dat E r
        · cases z
      · subst z
        cases r3
        rcases hx.2 with r | ⟨_, _, _, _, z, _⟩
        · exact c.dat E (by rw [List.append_nil]; exact r)
        · cases z
    · cases e
  · rename_i a b
    split at e
    · rename_i h1
      cases e
      exact ⟨_, fun i => op_add_str, fun pr B Hf H g σ vx vy Q E hx hy c => ⟨a, b, hx.str, hy.str, h1, c.dat E (.str _)⟩⟩
    · cases e
  · cases e
/-- == of data -/
def okEq (d : Da) : Bool := noDict d && SeqAt.shaped d
def eqB (x y : Da) : Option Bool := match x, y with
  | .int a, .int b => some (a == b)
  | x, y => if okEq x && okEq y then some (PyData.eqv x y) else none
def dEq (x y : Da) : Option Wv := (eqB x y).map fun b => .dat (.bool b)
def dNe (x y : Da) : Option Wv := (eqB x y).map fun b => .dat (.bool (!b))
theorem eqB_ok {x y : Da} {b : Bool} (e : eqB x y = some b) : (∃ i j, x = .int i ∧ y = .int j ∧ b = (i == j)) ∨ (okEq x = true ∧ okEq y = true ∧ b = PyData.eqv x y) := by
  unfold eqB at e
  split at e
  · cases e; exact .inl ⟨_, _, rfl, rfl, rfl⟩
  · split at e
    · rename_i h
      cases e
      rw [Bool.and_eq_true] at h
      exact .inr ⟨h.1, h.2, rfl⟩
    · cases e
theorem okEq_dp {v : V} {d : Da} (h : RL K Hf H v d) (o : okEq d = true) : Dp K H v d ∧ SeqAt.shaped d = true := by
  unfold okEq at o
  rw [Bool.and_eq_true] at o
  exact ⟨h.1.dp o.1, o.2⟩
theorem od_eq (hu : ∀ i, (F.X i).A.units + 64 < cLine) : OpD F (compareOp .Eq) dEq := by
  intro x y w e
  obtain ⟨b, e1, e2⟩ := Option.map_eq_some_iff.mp e
  subst e2
  rcases eqB_ok e1 with ⟨i, j, rfl, rfl, rfl⟩ | ⟨o1, o2, rfl⟩
  · refine ⟨rEq, fun i => op_eq, fun pr B Hf H g σ vx vy Q E hx hy c => ?_⟩
    cases hx.int
    cases hy.int
    exact ⟨rfl, by rw [dec_int]; exact c.dat E (.bl _)⟩
  · refine ⟨rEqD F.K, fun i => by have h := op_eqD (hu i); rw [F.hK i] at h; exact h, fun pr B Hf H g σ vx vy Q E hx hy c => ?_⟩
    exact ⟨x, y, (okEq_dp hx o1).1, (okEq_dp hy o2).1, (okEq_dp hx o1).2, (okEq_dp hy o2).2, c.dat E (.bl _)⟩
theorem od_ne (hu : ∀ i, (F.X i).A.units + 64 < cLine) : OpD F (compareOp .NotEq) dNe := by
  intro x y w e
  obtain ⟨b, e1, e2⟩ := Option.map_eq_some_iff.mp e
  subst e2
  rcases eqB_ok e1 with ⟨i, j, rfl, rfl, rfl⟩ | ⟨o1, o2, rfl⟩
  · refine ⟨rNe, fun i => op_ne, fun pr B Hf H g σ vx vy Q E hx hy c => ?_⟩
    cases hx.int
    cases hy.int
    exact ⟨rfl, by rw [dec_int]; exact c.dat E (.bl _)⟩
  · refine ⟨rNeD F.K, fun i => by have h := op_neD (hu i); rw [F.hK i] at h; exact h, fun pr B Hf H g σ vx vy Q E hx hy c => ?_⟩
    exact ⟨x, y, (okEq_dp hx o1).1, (okEq_dp hy o2).1, (okEq_dp hx o1).2, (okEq_dp hy o2).2, c.dat E (.bl _)⟩
def itemsD : Da → Option (List Da)
  | .list xs => some xs
  | .tuple xs => some xs
  | _ => none
/-- is None, is not None; is True, is False -/
def isNone : Da → Bool
  | .none => true
  | _ => false
def isBl (b : Bool) : Da → Bool
  | .bool a => if b then a else !a
  | _ => false
def dIs (neg : Bool) : Da → Da → Option Wv
  | x, .none => some (.dat (.bool (if neg then !isNone x else isNone x)))
  | x, .bool b => some (.dat (.bool (if neg then !isBl b x else isBl b x)))
  | _, _ => none
theorem op_isnotB {X : Cx} : OpR X (compareOp .IsNot) (fun x y H Q => ∃ b, y = .bl b ∧ Q (.bl (!decide (x = .bl b))) H) := by
  intro pins s σ H x y v u Q I rx ry h
  obtain ⟨b, rfl, q⟩ := h
  cases (show u = Value.bool b from ry)
  refine wpAny_isNot_plain ?_ (fin_bl I q ?_)
  · cases x <;> first
      | (cases rx; rfl)
      | (obtain ⟨t, rfl⟩ := rx; rfl)
  · cases x <;> first
      | (obtain ⟨t, rfl⟩ := rx; cases b <;> rfl)
      | (rename_i a; cases (show v = Value.bool a from rx); cases a <;> cases b <;> rfl)
      | (cases rx; cases b <;> rfl)
theorem isB_rep {v : V} {d : Da} {b : Bool} (h : Rep K H v d) : decide (v = .bl b) = isBl b d := by
  cases h <;> cases b <;> simp [isBl]
theorem isN_rep {v : V} {d : Da} (h : Rep K H v d) : decide (v = .non) = isNone d := by
  cases h <;> simp [isNone]
theorem od_isnot : OpD F (compareOp .IsNot) (dIs true) := by
  intro x y w e
  unfold dIs at e
  split at e
  · cases e
    refine ⟨_, fun i => op_notN, fun pr B Hf H g σ vx vy Q E hx hy c => ⟨hy.none, ?_⟩⟩
    rw [isN_rep hx.1]
    exact c.dat E (.bl _)
  · rename_i b
    cases e
    refine ⟨_, fun i => op_isnotB, fun pr B Hf H g σ vx vy Q E hx hy c => ⟨b, hy.bool, ?_⟩⟩
    rw [isB_rep hx.1]
    exact c.dat E (.bl _)
  · cases e
/-! ### -a -/
def mNeg (f : ME) : ME := fun g => (f g).bind fun a => (look a.1 a.2).bind fun x => match x with | .int i => some (.dat (.int (-i)), a.2) | _ => none
theorem ev_neg {a : Expr} {f : ME} {pos : Pos} (h : Ev F pr a f) : Ev F pr (.UnaryOp .USub a pos) (mNeg f) := by
  intro B Hf H g σ w g' Q E eq q
  obtain ⟨⟨wa, g1⟩, e1, eq⟩ := Option.bind_eq_some_iff.mp eq
  obtain ⟨x, e2, eq⟩ := Option.bind_eq_some_iff.mp eq
  dsimp only at eq
  split at eq
  · rename_i i
    cases eq
    refine ⟨_, fun j => pe_un un_neg (pe_U j), ?_⟩
    refine h B Hf H g σ wa _ _ E e1 fun v Hf1 H1 s1 w1 y1 => ?_
    have l := look_ok s1.env w1 e2
    exact ⟨i, RL.int (Hf := Hf1) l, q _ Hf1 H1 s1 (Rep.int _) (fun _ z => nomatch z)⟩
  · cases eq
/-! ### tests -/
def truthD : Da → Option Bool
  | .none => some false
  | .bool b => some b
  | .int i => some (i != 0)
  | .str y => if y.length ≤ sizeLine then some ((y.length : Int) != 0) else none
  | .list xs => some (!xs.isEmpty)
  | .tuple xs => some (!xs.isEmpty)
  | .dict _ => none
theorem isEmpty_rep {vs : List V} {ds : List Da} (r : RepAll K H vs ds) : (!vs.isEmpty) = !ds.isEmpty := by
  cases r <;> rfl
theorem truth_ok {v : V} {d : Da} {b : Bool} (E : En K pr B Hf H g σ) (h : RL K Hf H v d) (e : truthD d = some b) : TruV K v H b := by
  cases d with
  | none => cases e; cases h.none; rfl
  | bool c => cases e; cases h.bool; rfl
  | int i => cases e; cases h.int; rfl
  | str y =>
    have e : (if y.length ≤ sizeLine then some ((y.length : Int) != 0) else none) = some b := e
    split at e
    · rename_i hl
      cases e; cases h.str; exact ⟨hl, rfl⟩
    · cases e
  | list xs =>
    cases e
    obtain ⟨p, us, rfl, s, r⟩ := h.seqL E.ex
    exact .inl ⟨us, s, (isEmpty_rep r).symm⟩
  | tuple xs =>
    cases e
    obtain ⟨p, us, rfl, s, r⟩ := h.seqT E.ex
    exact .inr (.inl ⟨us, s, (isEmpty_rep r).symm⟩)
  | dict kvs => cases e
def mTru (f : ME) : MT := fun g => (f g).bind fun a => (look a.1 a.2).bind fun x => (truthD x).bind fun b => some (b, a.2)
theorem et_tru {a : Expr} {f : ME} (h : Ev F pr a f) (he : ∀ i, ∀ whole, isTrue a (F.X i).env whole = (do let v ← whole; standAt a.pos; holding [v] (truthy v)) := by intro _ _; rfl) : EvT F pr a (mTru f) := by
  intro B Hf H g σ b g' Q E eq q
  obtain ⟨⟨wa, g1⟩, e1, eq⟩ := Option.bind_eq_some_iff.mp eq
  obtain ⟨x, e2, eq⟩ := Option.bind_eq_some_iff.mp eq
  obtain ⟨b', e3, eq⟩ := Option.bind_eq_some_iff.mp eq
  cases eq
  refine ⟨fun σ H Q => U F a σ H fun x H' => ∃ k, TruV F.K x H' k ∧ Q k H', fun i => by have z := pt_truth (pe_U (F := F) (e := a) i) (he i); rw [F.hK i] at z; exact z, ?_⟩
  refine h B Hf H g σ wa _ _ E e1 fun v Hf1 H1 s1 w1 y1 => ?_
  exact ⟨b, truth_ok s1.env (look_ok s1.env w1 e2) e3, q Hf1 H1 s1⟩
def mNot (f : MT) : MT := fun g => (f g).bind fun a => some (!a.1, a.2)
theorem et_not {a : Expr} {f : MT} {pos : Pos} (h : EvT F pr a f) : EvT F pr (.UnaryOp .Not a pos) (mNot f) := by
  intro B Hf H g σ b g' Q E eq q
  obtain ⟨⟨c, g1⟩, e1, eq⟩ := Option.bind_eq_some_iff.mp eq
  cases eq
  exact ⟨tNot (UT F a), fun i => pt_not (pt_U i), h B Hf H g σ c _ _ E e1 fun Hf1 H1 s1 => q Hf1 H1 s1⟩
def mAnd (f h : MT) : MT := fun g => (f g).bind fun a => if a.1 = true then h a.2 else some (false, a.2)
def mOr (f h : MT) : MT := fun g => (f g).bind fun a => if a.1 = true then some (true, a.2) else h a.2
theorem et_w {a : Expr} {f : MT} (h : EvW F pr a f) : EvT F pr a f := by
  intro B Hf H g σ b g' Q E eq q
  exact ⟨UW F a, fun i => (pw_U i).pt, h B Hf H g σ b g' Q E eq q⟩
theorem ew_and1 {a : Expr} {f : MT} {pos : Pos} (h : EvT F pr a f) : EvW F pr (.BoolOp .And [a] pos) f := by
  intro B Hf H g σ b g' Q E eq q
  exact ⟨UT F a, fun i => pw_and1 (pt_U i), h B Hf H g σ b g' Q E eq q⟩
theorem ew_or1 {a : Expr} {f : MT} {pos : Pos} (h : EvT F pr a f) : EvW F pr (.BoolOp .Or [a] pos) f := by
  intro B Hf H g σ b g' Q E eq q
  exact ⟨UT F a, fun i => pw_or1 (pt_U i), h B Hf H g σ b g' Q E eq q⟩
theorem ew_and {a c : Expr} {r : List Expr} {f h : MT} {pos : Pos} (ha : EvT F pr a f) (hb : EvW F pr (.BoolOp .And (c :: r) pos) h) : EvW F pr (.BoolOp .And (a :: c :: r) pos) (mAnd f h) := by
  intro B Hf H g σ b g' Q E eq q
  obtain ⟨⟨k, g1⟩, e1, eq⟩ := Option.bind_eq_some_iff.mp eq
  refine ⟨tAnd (UT F a) (UW F (.BoolOp .And (c :: r) pos)), fun i => pw_and (pt_U i) (pw_U i), ?_⟩
  refine ha B Hf H g σ k g1 _ E e1 fun Hf1 H1 s1 => ?_
  cases k with
  | true => exact hb B Hf1 H1 g1 σ b g' Q s1.env eq fun Hf2 H2 s2 => q Hf2 H2 (s1.trans s2)
  | false => cases eq; exact q Hf1 H1 s1
theorem ew_or {a c : Expr} {r : List Expr} {f h : MT} {pos : Pos} (ha : EvT F pr a f) (hb : EvW F pr (.BoolOp .Or (c :: r) pos) h) : EvW F pr (.BoolOp .Or (a :: c :: r) pos) (mOr f h) := by
  intro B Hf H g σ b g' Q E eq q
  obtain ⟨⟨k, g1⟩, e1, eq⟩ := Option.bind_eq_some_iff.mp eq
  refine ⟨tOr (UT F a) (UW F (.BoolOp .Or (c :: r) pos)), fun i => pw_or (pt_U i) (pw_U i), ?_⟩
  refine ha B Hf H g σ k g1 _ E e1 fun Hf1 H1 s1 => ?_
  cases k with
  | false => exact hb B Hf1 H1 g1 σ b g' Q s1.env eq fun Hf2 H2 s2 => q Hf2 H2 (s1.trans s2)
  | true => cases eq; exact q Hf1 H1 s1
/-- a chain of two comparisons -/
def mChain (F1 F2 : Da → Da → Option Wv) (fa fb fc : ME) : MT := fun g => (fa g).bind fun a => (fb a.2).bind fun b => (look a.1 b.2).bind fun x => (look b.1 b.2).bind fun y => match F1 x y with
  | some (.dat (.bool true)) => (fc b.2).bind fun c => (look b.1 c.2).bind fun y' => (look c.1 c.2).bind fun z => match F2 y' z with | some (.dat (.bool k)) => some (k, c.2) | _ => none
  | some (.dat (.bool false)) => some (false, b.2)
  | _ => none
theorem chain_ok {a b c : Expr} {fa fb fc : ME} {F1 F2 : Da → Da → Option Wv} {f1 f2 : Value → Value → Sem Value} (ha : Ev F pr a fa) (hb : Ev F pr b fb) (hc : Ev F pr c fc) (h1 : OpD F f1 F1) (h2 : OpD F f2 F2) (d1 : ∃ r : R2, ∀ i, OpR (F.X i) f2 r) {k : Bool} {Q : VK} (E : En F.K pr B Hf H g σ)
    (eq : mChain F1 F2 fa fb fc g = some (k, g')) (q : ∀ Hf' H', Stp F.K pr B Hf H g σ Hf' H' g' → Q (.bl k) H') : ∃ r r' : R2, (∀ i, OpR (F.X i) f1 r) ∧ (∀ i, OpR (F.X i) f2 r') ∧ tChain r r' (U F a) (U F b) (U F c) σ H Q := by
  obtain ⟨⟨wa, g1⟩, e1, eq⟩ := Option.bind_eq_some_iff.mp eq
  obtain ⟨⟨wb, g2⟩, e2, eq⟩ := Option.bind_eq_some_iff.mp eq
  obtain ⟨x, e3, eq⟩ := Option.bind_eq_some_iff.mp eq
  obtain ⟨y, e4, eq⟩ := Option.bind_eq_some_iff.mp eq
  dsimp only at eq
  split at eq
  · rename_i e5
    obtain ⟨⟨wc, g3⟩, e6, eq⟩ := Option.bind_eq_some_iff.mp eq
    obtain ⟨y', e7, eq⟩ := Option.bind_eq_some_iff.mp eq
    obtain ⟨z, e8, eq⟩ := Option.bind_eq_some_iff.mp eq
    dsimp only at eq
    split at eq
    · rename_i k' e9
      cases eq
      obtain ⟨r, hr, hk⟩ := h1 x y _ e5
      obtain ⟨r', hr', hk'⟩ := h2 y' z _ e9
      refine ⟨r, r', hr, hr', ?_⟩
      refine ha B Hf H g σ wa g1 _ E e1 fun v Hf1 H1 s1 w1 y1 => ?_
      refine hb B Hf1 H1 g1 σ wb g2 _ s1.env e2 fun u Hf2 H2 s2 w2 y2 => ?_
      refine hk pr B Hf2 H2 g2 σ v u _ s2.env (look_ok s2.env (s2.way s1.env w1) e3) (look_ok s2.env w2 e4) fun t Hf3 H3 s3 w3 y3 => ?_
      have w3 : Rep F.K Hf3 t (.bool true) := w3
      cases w3
      refine ⟨true, rfl, ?_⟩
      rw [if_pos rfl]
      refine hc B Hf3 H3 g2 σ wc _ _ s3.env e6 fun s Hf4 H4 s4 w4 y4 => ?_
      refine hk' pr B Hf4 H4 _ σ u s _ s4.env (look_ok s4.env (s4.way s3.env (s3.way s2.env w2)) e7) (look_ok s4.env w4 e8) fun o Hf5 H5 s5 w5 y5 => ?_
      have w5 : Rep F.K Hf5 o (.bool _) := w5
      cases w5
      exact q Hf5 H5 ((((s1.trans s2).trans s3).trans s4).trans s5)
    · cases eq
  · rename_i e5
    cases eq
    obtain ⟨r, hr, hk⟩ := h1 x y _ e5
    obtain ⟨r', hr'⟩ := d1
    refine ⟨r, r', hr, hr', ?_⟩
    refine ha B Hf H g σ wa g1 _ E e1 fun v Hf1 H1 s1 w1 y1 => ?_
    refine hb B Hf1 H1 g1 σ wb _ _ s1.env e2 fun u Hf2 H2 s2 w2 y2 => ?_
    refine hk pr B Hf2 H2 _ σ v u _ s2.env (look_ok s2.env (s2.way s1.env w1) e3) (look_ok s2.env w2 e4) fun t Hf3 H3 s3 w3 y3 => ?_
    have w3 : Rep F.K Hf3 t (.bool false) := w3
    cases w3
    refine ⟨false, rfl, ?_⟩
    rw [if_neg Bool.false_ne_true]
    exact q Hf3 H3 ((s1.trans s2).trans s3)
  · cases eq
theorem et_chain {a b c : Expr} {fa fb fc : ME} {F1 F2 : Da → Da → Option Wv} {op op' : CmpOp} {pos : Pos} (h1 : OpD F (compareOp op) F1) (h2 : OpD F (compareOp op') F2) (d1 : ∃ r : R2, ∀ i, OpR (F.X i) (compareOp op') r) (ha : Ev F pr a fa) (hb : Ev F pr b fb) (hc : Ev F pr c fc)
    (hm : lastMarks [op, op'] [b, c] = false := by with_unfolding_all rfl) : EvT F pr (.Compare a [op, op'] [b, c] pos) (mChain F1 F2 fa fb fc) := by
  intro B Hf H g σ k g' Q E eq q
  obtain ⟨r, r', hr, hr', t⟩ := chain_ok (Q := fun x H' => ∃ k, x = .bl k ∧ Q k H') ha hb hc h1 h2 d1 E eq fun Hf' H' s => ⟨k, rfl, q Hf' H' s⟩
  exact ⟨_, fun i => pt_chain (hr i) (hr' i) (pe_U i) (pe_U i) (pe_U i) hm, t⟩
/-! ### tests as values -/
def mOfT (f : MT) : ME := fun g => (f g).bind fun a => some (.dat (.bool a.1), a.2)
theorem ev_chain {a b c : Expr} {fa fb fc : ME} {F1 F2 : Da → Da → Option Wv} {op op' : CmpOp} {pos : Pos} (h1 : OpD F (compareOp op) F1) (h2 : OpD F (compareOp op') F2) (d1 : ∃ r : R2, ∀ i, OpR (F.X i) (compareOp op') r) (ha : Ev F pr a fa) (hb : Ev F pr b fb) (hc : Ev F pr c fc)
    (hm : lastMarks [op, op'] [b, c] = false := by with_unfolding_all rfl) : Ev F pr (.Compare a [op, op'] [b, c] pos) (mOfT (mChain F1 F2 fa fb fc)) := by
  intro B Hf H g σ w g' Q E eq q
  obtain ⟨⟨k, g1⟩, e1, eq⟩ := Option.bind_eq_some_iff.mp eq
  cases eq
  obtain ⟨r, r', hr, hr', t⟩ := chain_ok ha hb hc h1 h2 d1 E e1 fun Hf' H' s => q _ Hf' H' s (.bl k) (fun _ z => nomatch z)
  exact ⟨_, fun i => pe_chain (hr i) (hr' i) (pe_U i) (pe_U i) (pe_U i) hm, t⟩
theorem d1_lt : ∃ r : R2, ∀ i, OpR (F.X i) (compareOp .Lt) r := ⟨_, fun _ => op_lt⟩
theorem d1_le : ∃ r : R2, ∀ i, OpR (F.X i) (compareOp .LtE) r := ⟨_, fun _ => op_le⟩
def mNotV (f : ME) : ME := fun g => (f g).bind fun a => match a.1 with | .dat (.bool b) => some (.dat (.bool (!b)), a.2) | _ => none
theorem ev_not {a : Expr} {f : ME} {pos : Pos} (h : Ev F pr a f) : Ev F pr (.UnaryOp .Not a pos) (mNotV f) := by
  intro B Hf H g σ w g' Q E eq q
  obtain ⟨⟨wa, g1⟩, e1, eq⟩ := Option.bind_eq_some_iff.mp eq
  dsimp only at eq
  split at eq
  · rename_i b
    cases eq
    refine ⟨tNotV (U F a), fun i => pe_not (pe_U i), ?_⟩
    refine h B Hf H g σ _ _ _ E e1 fun v Hf1 H1 s1 w1 y1 => ?_
    have w1 : Rep F.K Hf1 v (.bool b) := w1
    cases w1
    exact ⟨b, rfl, q _ Hf1 H1 s1 (.bl _) (fun _ z => nomatch z)⟩
  · cases eq
def mAndV (f h : ME) : ME := fun g => (f g).bind fun a => match a.1 with | .dat (.bool true) => h a.2 | .dat (.bool false) => some (.dat (.bool false), a.2) | _ => none
def mOrV (f h : ME) : ME := fun g => (f g).bind fun a => match a.1 with | .dat (.bool false) => h a.2 | .dat (.bool true) => some (.dat (.bool true), a.2) | _ => none
theorem ev_one {op} {a : Expr} {f : ME} {pos : Pos} (h : Ev F pr a f) : Ev F pr (.BoolOp op [a] pos) f := by
  intro B Hf H g σ w g' Q E eq q
  exact ⟨U F a, fun i => pe_one (pe_U i), h B Hf H g σ w g' Q E eq q⟩
theorem ev_and {a c : Expr} {r : List Expr} {f h : ME} {pos : Pos} (ha : Ev F pr a f) (hb : Ev F pr (.BoolOp .And (c :: r) pos) h) : Ev F pr (.BoolOp .And (a :: c :: r) pos) (mAndV f h) := by
  intro B Hf H g σ w g' Q E eq q
  obtain ⟨⟨wa, g1⟩, e1, eq⟩ := Option.bind_eq_some_iff.mp eq
  refine ⟨tAndV (U F a) (U F (.BoolOp .And (c :: r) pos)), fun i => pe_and (pe_U i) (pe_U i), ?_⟩
  refine ha B Hf H g σ wa g1 _ E e1 fun v Hf1 H1 s1 w1 y1 => ?_
  dsimp only at eq
  split at eq
  · have w1 : Rep F.K Hf1 v (.bool true) := w1
    cases w1
    exact ⟨true, rfl, hb B Hf1 H1 g1 σ w g' Q s1.env eq fun v Hf2 H2 s2 w2 y2 => q v Hf2 H2 (s1.trans s2) w2 fun ds e p e' => s1.tr.stay p (y2 ds e p e')⟩
  · cases eq
    have w1 : Rep F.K Hf1 v (.bool false) := w1
    cases w1
    exact ⟨false, rfl, q _ Hf1 H1 s1 (.bl _) (fun _ z => nomatch z)⟩
  · cases eq
/-- a if t else b -/
def mIf (t : MT) (f h : ME) : ME := fun g => (t g).bind fun a => if a.1 = true then f a.2 else h a.2
theorem ev_if {t a b : Expr} {ft : MT} {f h : ME} {pos : Pos} (ht : EvT F pr t ft) (ha : Ev F pr a f) (hb : Ev F pr b h) : Ev F pr (.IfExp t a b pos) (mIf ft f h) := by
  intro B Hf H g σ w g' Q E eq q
  obtain ⟨⟨k, g1⟩, e1, eq⟩ := Option.bind_eq_some_iff.mp eq
  refine ⟨tIf (UT F t) (U F a) (U F b), fun i => pe_ifExp (pt_U i) (pe_U i) (pe_U i), ?_⟩
  refine ht B Hf H g σ k g1 _ E e1 fun Hf1 H1 s1 => ?_
  cases k with
  | true => exact ha B Hf1 H1 g1 σ w g' Q s1.env eq fun v Hf2 H2 s2 w2 y2 => q v Hf2 H2 (s1.trans s2) w2 fun ds e p e' => s1.tr.stay p (y2 ds e p e')
  | false => exact hb B Hf1 H1 g1 σ w g' Q s1.env eq fun v Hf2 H2 s2 w2 y2 => q v Hf2 H2 (s1.trans s2) w2 fun ds e p e' => s1.tr.stay p (y2 ds e p e')
end
end EV
end
section
set_option Elab.async false
set_option linter.all false
set_option maxRecDepth 100000
set_option maxHeartbeats 2000000
set_option autoImplicit false
namespace EV
open PySem PySem.Spec PyProof.Rows L2
section
variable {F : Fam} {pr : List Nat} {B : Addr → Prop} {Hf H Hf' H' Hf1 H1 Hf2 H2 : Hp} {g g' g1 g2 : Gh} {σ σ' σ1 σ2 : L2.St} {K : Frag}
/-! ### subscripts -/
theorem atI_rep {vs : List V} {ds : List Da} {i : Int} {d : Da} (r : RepAll K H vs ds) (e : atI ds i = some d) : ∃ v, atI vs i = some v ∧ Rep K H v d := by
  unfold atI at e ⊢
  rw [r.length]
  cases h : ixN ds.length i with
  | none => rw [h] at e; cases e
  | some j =>
    rw [h] at e
    obtain ⟨v, e1, e2⟩ := r.get (i := j) (d := d) e
    exact ⟨v, e1, e2⟩
def dIx : Da → Da → Option Da
  | .list xs, .int i => atI xs i
  | .tuple xs, .int i => atI xs i
  | _, _ => none
theorem dIx_some {x y d : Da} (e : dIx x y = some d) : ∃ xs i, y = .int i ∧ ((x = .list xs ∧ atI xs i = some d) ∨ (x = .tuple xs ∧ atI xs i = some d)) := by
  unfold dIx at e
  split at e
  · exact ⟨_, _, rfl, .inl ⟨rfl, e⟩⟩
  · exact ⟨_, _, rfl, .inr ⟨rfl, e⟩⟩
  · cases e
def mIx (fa fb : ME) : ME := fun g => (fa g).bind fun a => (fb a.2).bind fun b => (look a.1 b.2).bind fun x => (look b.1 b.2).bind fun y => (dIx x y).bind fun d => some (.dat d, b.2)
theorem ev_ix {a b : Expr} {fa fb : ME} {pos : Pos} (ha : Ev F pr a fa) (hb : Ev F pr b fb) (hs : PlainIx b := by exact fun _ _ => rfl) : Ev F pr (.Subscript a b pos) (mIx fa fb) := by
  intro B Hf H g σ w g' Q E eq q
  obtain ⟨⟨wa, g1⟩, e1, eq⟩ := Option.bind_eq_some_iff.mp eq
  obtain ⟨⟨wb, g2⟩, e2, eq⟩ := Option.bind_eq_some_iff.mp eq
  obtain ⟨x, e3, eq⟩ := Option.bind_eq_some_iff.mp eq
  obtain ⟨y, e4, eq⟩ := Option.bind_eq_some_iff.mp eq
  obtain ⟨d, e5, eq⟩ := Option.bind_eq_some_iff.mp eq
  cases eq
  obtain ⟨xs, i, rfl, ⟨rfl, e5⟩ | ⟨rfl, e5⟩⟩ := dIx_some e5
  · refine ⟨tOp (rIxL F.K) (U F a) (U F b), fun j => pe_ix (by have h := @ix_list (F.X j); rw [F.hK j] at h; exact h) (pe_U j) (pe_U j) hs, ?_⟩
    refine ha B Hf H g σ wa g1 _ E e1 fun v Hf1 H1 s1 w1 y1 => ?_
    refine hb B Hf1 H1 g1 σ wb _ _ s1.env e2 fun u Hf2 H2 s2 w2 y2 => ?_
    have l1 : RL F.K Hf2 H2 v _ := look_ok s2.env (s2.way s1.env w1) e3
    have l2 : RL F.K Hf2 H2 u _ := look_ok s2.env w2 e4
    obtain ⟨p, us, rfl, hp, r⟩ := l1.seqL s2.env.ex
    obtain ⟨z, hz, rz⟩ := atI_rep r e5
    exact ⟨p, us, i, z, rfl, l2.int, hp, hz, q z Hf2 H2 (s1.trans s2) rz (fun _ z => nomatch z)⟩
  · refine ⟨tOp (rIxT F.K) (U F a) (U F b), fun j => pe_ix (by have h := @ix_tup (F.X j); rw [F.hK j] at h; exact h) (pe_U j) (pe_U j) hs, ?_⟩
    refine ha B Hf H g σ wa g1 _ E e1 fun v Hf1 H1 s1 w1 y1 => ?_
    refine hb B Hf1 H1 g1 σ wb _ _ s1.env e2 fun u Hf2 H2 s2 w2 y2 => ?_
    have l1 : RL F.K Hf2 H2 v _ := look_ok s2.env (s2.way s1.env w1) e3
    have l2 : RL F.K Hf2 H2 u _ := look_ok s2.env w2 e4
    obtain ⟨p, us, rfl, hp, r⟩ := l1.seqT s2.env.ex
    obtain ⟨z, hz, rz⟩ := atI_rep r e5
    exact ⟨p, us, i, z, rfl, l2.int, hp, hz, q z Hf2 H2 (s1.trans s2) rz (fun _ z => nomatch z)⟩
/-! ### slices -/
abbrev MO := Gh → Option (Option Int × Gh)
def mO0 : MO := fun g => some (none, g)
def mO1 (f : ME) : MO := fun g => (f g).bind fun a => (look a.1 a.2).bind fun x => match x with | .int i => some (some i, a.2) | _ => none
def cutD (xs : List Da) (lo hi : Option Int) : List Da := (xs.drop (HT.sIx xs.length 0 lo)).take (HT.sIx xs.length xs.length hi - HT.sIx xs.length 0 lo)
def mSl (fa : ME) (fl fh : MO) : ME := fun g => (fa g).bind fun a => (fl a.2).bind fun l => (fh l.2).bind fun h => (look a.1 h.2).bind fun x => match x with
  | .list xs => some (.fresh (cutD xs l.1 h.1), h.2)
  | .tuple xs => some (.dat (.tuple (cutD xs l.1 h.1)), h.2)
  | _ => none
/-- xs[::-1], a list -/
def mRev (fa : ME) : ME := fun g => (fa g).bind fun a => (look a.1 a.2).bind fun x => match x with | .list xs => some (.fresh xs.reverse, a.2) | _ => none
theorem ev_rev {a : Expr} {fa : ME} {k : Nat} {p1 p2 p3 pos : Pos} (ha : Ev F pr a fa) : Ev F pr (.Subscript a (.Slice none none (some (.UnaryOp .USub (.Constant (.int 1) k p1) p2)) p3) pos) (mRev fa) := by
  intro B Hf H g σ w g' Q E eq q
  obtain ⟨⟨wa, g1⟩, e1, eq1⟩ := Option.bind_eq_some_iff.mp eq
  obtain ⟨x, e2, eq2⟩ := Option.bind_eq_some_iff.mp eq1
  dsimp only at eq2
  split at eq2
  · rename_i xs
    cases eq2
    refine ⟨tRevL F.K (U F a), fun j => by have z := pe_revL (pe_U (F := F) (e := a) j) (k := k) (p1 := p1) (p2 := p2) (p3 := p3) (pos := pos); rw [F.hK j] at z; exact z, ?_⟩
    refine ha B Hf H g σ wa _ _ E e1 fun v Hf1 H1 s1 w1 y1 => ?_
    have l : RL F.K Hf1 H1 v (.list xs) := look_ok s1.env w1 e2
    obtain ⟨p, us, rfl, hp, r⟩ := l.seqL s1.env.ex
    have c : Cont F.K pr B Hf1 H1 _ σ (.fresh xs.reverse) Q := fun v Hf' H' s w y => q v Hf' H' (s1.trans s) w fun ds e p e' => s1.tr.stay p (y ds e p e')
    exact ⟨p, us, rfl, hp, fun z hz => c.newL s1.env r.reverse hz⟩
  · cases eq2
/-! ### built-in calls -/
def CallD (F : Fam) (f : Value) (Fn : List Da → Option Wv) : Prop := ∀ ds w, Fn ds = some w → ∃ r : List V → Hp → VK → Prop, (∀ i, CallR (F.X i) f r) ∧
  ∀ pr B Hf H g σ vs (Q : VK), En F.K pr B Hf H g σ → RLs F.K Hf H vs ds → Cont F.K pr B Hf H g σ w Q → r vs H Q
def mCall (Fn : List Da → Option Wv) (fa : MA) : ME := fun g => (fa g).bind fun a => (lookAll a.1 a.2).bind fun ds => (Fn ds).bind fun w => some (w, a.2)
theorem callD_ok {es : List Expr} {fa : MA} {f : Value} {Fn : List Da → Option Wv} (hc : CallD F f Fn) (ha : EvA F pr es fa) {w : Wv} {Q : VK} (E : En F.K pr B Hf H g σ) (eq : mCall Fn fa g = some (w, g'))
    (q : ∀ v Hf' H', Stp F.K pr B Hf H g σ Hf' H' g' → WOk F.K B Hf' H' g' σ w v → Yng H w v → Q v H') : ∃ r : List V → Hp → VK → Prop, (∀ i, CallR (F.X i) f r) ∧ tCB r (UA F es) σ H Q := by
  obtain ⟨⟨ws, g1⟩, e1, eq⟩ := Option.bind_eq_some_iff.mp eq
  obtain ⟨ds, e2, eq⟩ := Option.bind_eq_some_iff.mp eq
  obtain ⟨w', e3, eq⟩ := Option.bind_eq_some_iff.mp eq
  cases eq
  obtain ⟨r, hr, hk⟩ := hc ds w e3
  refine ⟨r, hr, ?_⟩
  refine ha B Hf H g σ ws _ _ E e1 fun vs Hf1 H1 s1 w1 y1 => ?_
  exact hk pr B Hf1 H1 _ σ vs Q s1.env (lookAll_ok s1.env w1 e2) fun v Hf' H' s w y => q v Hf' H' (s1.trans s) w fun ds e p e' => s1.tr.stay p (y ds e p e')
theorem ev_callB {x : Str} {p pos : Pos} {e : Expr} {es : List Expr} {id : String} {fa : MA} {Fn : List Da → Option Wv} (hc : CallD F (.builtin id) Fn) (hm : ∀ i, (F.X i).mg x = none) (ha : EvA F pr (e :: es) fa)
    (hg : ∀ i, Gl (F.X i) x := by intro _; rfl) (hv : bootBuiltins x = some (.builtin id) := by decide +kernel) (hn : x ≠ "__name__" := by decide) (hdb : (x == ("__debug__" : Str)) = false := by decide)
    (he : ∀ i, starEach (e :: es) (F.X i).env = (false, eval e (F.X i).env) :: starEach es (F.X i).env := by intro _; rfl) (hpl : ∀ i, (backTo pos (starEach es (F.X i).env)).any (·.1) = false := by intro _; rfl) : Ev F pr (.Call (.Name x p) (e :: es) [] pos) (mCall Fn fa) := by
  intro B Hf H g σ w g' Q E eq q
  obtain ⟨r, hr, t⟩ := callD_ok hc ha E eq q
  exact ⟨_, fun i => pe_callB (hr i) (hg i) (hm i) hv (pa_U i) hn hdb (he i) (hpl i), t⟩
theorem ev_callTy {x : Str} {p pos : Pos} {e : Expr} {es : List Expr} {T : String} {fa : MA} {Fn : List Da → Option Wv} (hc : CallD F (.type T) Fn) (hm : ∀ i, (F.X i).mg x = none) (ha : EvA F pr (e :: es) fa)
    (hg : ∀ i, Gl (F.X i) x := by intro _; rfl) (hv : bootBuiltins x = some (.type T) := by decide +kernel) (hn : x ≠ "__name__" := by decide) (hdb : (x == ("__debug__" : Str)) = false := by decide)
    (he : ∀ i, starEach (e :: es) (F.X i).env = (false, eval e (F.X i).env) :: starEach es (F.X i).env := by intro _; rfl) (hpl : ∀ i, (backTo pos (starEach es (F.X i).env)).any (·.1) = false := by intro _; rfl) : Ev F pr (.Call (.Name x p) (e :: es) [] pos) (mCall Fn fa) := by
  intro B Hf H g σ w g' Q E eq q
  obtain ⟨r, hr, t⟩ := callD_ok hc ha E eq q
  exact ⟨_, fun i => pe_callTy (hr i) (hg i) (hm i) hv (pa_U i) hn hdb (he i) (hpl i), t⟩
def dLen : List Da → Option Wv
  | [.list xs] => some (.dat (.int xs.length))
  | [.tuple xs] => some (.dat (.int xs.length))
  | [.str x] => if x.length ≤ sizeLine then some (.dat (.int x.length)) else none
  | _ => none
theorem RLs.one {vs : List V} {d : Da} (h : RLs K Hf H vs [d]) : ∃ v, vs = [v] ∧ RL K Hf H v d := by
  cases h with
  | cons a b => cases b; exact ⟨_, rfl, a⟩
theorem RLs.two {vs : List V} {d e : Da} (h : RLs K Hf H vs [d, e]) : ∃ v u, vs = [v, u] ∧ RL K Hf H v d ∧ RL K Hf H u e := by
  cases h with
  | cons a b => cases b with | cons b c => cases c; exact ⟨_, _, rfl, a, b⟩
theorem cd_len : CallD F (.builtin "len") dLen := by
  intro ds w e
  unfold dLen at e
  split at e
  · rename_i xs
    cases e
    refine ⟨fun vs H Q => ∃ p ys, vs = [.ref p] ∧ (SqL F.K H p ys ∨ SqT F.K H p ys) ∧ Q (.int ys.length) H, fun i => by have h := @call_len_seq (F.X i); rw [F.hK i] at h; exact h, fun pr B Hf H g σ vs Q E h c => ?_⟩
    obtain ⟨v, rfl, l⟩ := h.one
    obtain ⟨p, us, rfl, s, r⟩ := l.seqL E.ex
    exact ⟨p, us, rfl, .inl s, by rw [r.length]; exact c.dat E (.int _)⟩
  · rename_i xs
    cases e
    refine ⟨fun vs H Q => ∃ p ys, vs = [.ref p] ∧ (SqL F.K H p ys ∨ SqT F.K H p ys) ∧ Q (.int ys.length) H, fun i => by have h := @call_len_seq (F.X i); rw [F.hK i] at h; exact h, fun pr B Hf H g σ vs Q E h c => ?_⟩
    obtain ⟨v, rfl, l⟩ := h.one
    obtain ⟨p, us, rfl, s, r⟩ := l.seqT E.ex
    exact ⟨p, us, rfl, .inr s, by rw [r.length]; exact c.dat E (.int _)⟩
  · rename_i x
    split at e
    · rename_i hl
      cases e
      refine ⟨_, fun i => call_len_str, fun pr B Hf H g σ vs Q E h c => ?_⟩
      obtain ⟨v, rfl, l⟩ := h.one
      cases l.str
      exact ⟨x, rfl, hl, c.dat E (.int _)⟩
    · cases e
  · cases e
def dInt : List Da → Option Wv
  | [.int i] => some (.dat (.int i))
  | [.bool k] => some (.dat (.int (if k then 1 else 0)))
  | _ => none
theorem cd_int : CallD F (.type "int") dInt := by
  intro ds w e
  unfold dInt at e
  split at e
  · rename_i i
    cases e
    refine ⟨_, fun i => call_int1, fun pr B Hf H g σ vs Q E h c => ?_⟩
    obtain ⟨v, rfl, l⟩ := h.one
    cases l.int
    exact .inl ⟨i, rfl, c.dat E (.int _)⟩
  · rename_i k
    cases e
    refine ⟨_, fun i => call_int1, fun pr B Hf H g σ vs Q E h c => ?_⟩
    obtain ⟨v, rfl, l⟩ := h.one
    cases l.bool
    exact .inr ⟨k, rfl, c.dat E (.int _)⟩
  · cases e
def dAbs : List Da → Option Wv
  | [.int i] => some (.dat (.int (if i < 0 then -i else i)))
  | _ => none
theorem cd_abs : CallD F (.builtin "abs") dAbs := by
  intro ds w e
  unfold dAbs at e
  split at e
  · rename_i i
    cases e
    refine ⟨_, fun i => call_abs, fun pr B Hf H g σ vs Q E h c => ?_⟩
    obtain ⟨v, rfl, l⟩ := h.one
    cases l.int
    exact ⟨i, rfl, c.dat E (.int _)⟩
  · cases e
def intsOf : List Da → Option (List Int)
  | [] => some []
  | .int i :: r => (intsOf r).map fun s => i :: s
  | _ :: _ => none
theorem intsOf_some : ∀ {ds : List Da} {ns : List Int}, intsOf ds = some ns → ds = ns.map PyData.int
  | [], ns, e => by cases e; rfl
  | .int i :: r, ns, e => by
    obtain ⟨s, e1, e2⟩ := Option.map_eq_some_iff.mp (show (intsOf r).map (fun s => i :: s) = some ns from e)
    subst e2
    rw [List.map_cons, ← intsOf_some e1]
theorem intsOf_map : ∀ ns : List Int, intsOf (ns.map PyData.int) = some ns
  | [] => rfl
  | n :: ns => by
    show (intsOf (ns.map PyData.int)).map (fun s => n :: s) = _
    rw [intsOf_map ns]; rfl
/-- max, min: of two ints, of a list of ints -/
def maxL : List Int → Option Int
  | [] => none
  | [x] => some x
  | x :: y :: r => (maxL (y :: r)).map fun m => if m < x then x else m
def minL : List Int → Option Int
  | [] => none
  | [x] => some x
  | x :: y :: r => (minL (y :: r)).map fun m => if x < m then x else m
theorem maxL_is : ∀ {ns : List Int} {m : Int}, maxL ns = some m → m ∈ ns ∧ ∀ y ∈ ns, y ≤ m
  | [x], m, e => by cases e; simp
  | x :: y :: r, m, e => by
    obtain ⟨k, e1, e2⟩ := Option.map_eq_some_iff.mp (show (maxL (y :: r)).map _ = some m from e)
    obtain ⟨h1, h2⟩ := maxL_is e1
    subst e2
    split
    · refine ⟨List.mem_cons_self, fun z hz => ?_⟩
      rcases List.mem_cons.mp hz with q | q
      · omega
      · have := h2 z q; omega
    · refine ⟨List.mem_cons_of_mem _ h1, fun z hz => ?_⟩
      rcases List.mem_cons.mp hz with q | q
      · omega
      · exact h2 z q
theorem minL_is : ∀ {ns : List Int} {m : Int}, minL ns = some m → m ∈ ns ∧ ∀ y ∈ ns, m ≤ y
  | [x], m, e => by cases e; simp
  | x :: y :: r, m, e => by
    obtain ⟨k, e1, e2⟩ := Option.map_eq_some_iff.mp (show (minL (y :: r)).map _ = some m from e)
    obtain ⟨h1, h2⟩ := minL_is e1
    subst e2
    split
    · refine ⟨List.mem_cons_self, fun z hz => ?_⟩
      rcases List.mem_cons.mp hz with q | q
      · omega
      · have := h2 z q; omega
    · refine ⟨List.mem_cons_of_mem _ h1, fun z hz => ?_⟩
      rcases List.mem_cons.mp hz with q | q
      · omega
      · exact h2 z q
def dMax : List Da → Option Wv
  | [.int a, .int b] => some (.dat (.int (if b > a then b else a)))
  | [.list xs] => (intsOf xs).bind fun ns => (maxL ns).map fun m => .dat (.int m)
  | _ => none
def dMin : List Da → Option Wv
  | [.int a, .int b] => some (.dat (.int (if b < a then b else a)))
  | [.list xs] => (intsOf xs).bind fun ns => (minL ns).map fun m => .dat (.int m)
  | _ => none
theorem cd_max (hc : ∀ i, (F.X i).calm = true) : CallD F (.builtin "max") dMax := by
  intro ds w e
  unfold dMax at e
  split at e
  · rename_i a b
    cases e
    refine ⟨_, fun i => call_max2 (hc i), fun pr B Hf H g σ vs Q E h c => ?_⟩
    obtain ⟨v, u, rfl, l1, l2⟩ := h.two
    cases l1.int; cases l2.int
    exact ⟨a, b, rfl, c.dat E (.int _)⟩
  · rename_i xs
    obtain ⟨ns, e1, e⟩ := Option.bind_eq_some_iff.mp e
    obtain ⟨m, e2, e3⟩ := Option.map_eq_some_iff.mp e
    subst e3
    have e1 := intsOf_some e1
    subst e1
    obtain ⟨k1, k2⟩ := maxL_is e2
    refine ⟨rMax F.K, fun i => by have h := cr_max (hc i); rw [F.hK i] at h; exact h, fun pr B Hf H g σ vs Q E h c => ?_⟩
    obtain ⟨v, rfl, l⟩ := h.one
    obtain ⟨p, us, rfl, s, r⟩ := l.seqL E.ex
    have := r.ints
    subst this
    refine ⟨p, ns, rfl, s, ?_, fun z h1 h2 => ?_⟩
    · cases ns with
      | nil => cases e2
      | cons _ _ => simp
    · have e : z = m := Int.le_antisymm (k2 z h1) (h2 m k1)
      rw [e]; exact c.dat E (.int _)
  · cases e
theorem cd_min (hc : ∀ i, (F.X i).calm = true) : CallD F (.builtin "min") dMin := by
  intro ds w e
  unfold dMin at e
  split at e
  · rename_i a b
    cases e
    refine ⟨_, fun i => call_min2 (hc i), fun pr B Hf H g σ vs Q E h c => ?_⟩
    obtain ⟨v, u, rfl, l1, l2⟩ := h.two
    cases l1.int; cases l2.int
    exact ⟨a, b, rfl, c.dat E (.int _)⟩
  · rename_i xs
    obtain ⟨ns, e1, e⟩ := Option.bind_eq_some_iff.mp e
    obtain ⟨m, e2, e3⟩ := Option.map_eq_some_iff.mp e
    subst e3
    have e1 := intsOf_some e1
    subst e1
    obtain ⟨k1, k2⟩ := minL_is e2
    refine ⟨rMin F.K, fun i => by have h := cr_min (hc i); rw [F.hK i] at h; exact h, fun pr B Hf H g σ vs Q E h c => ?_⟩
    obtain ⟨v, rfl, l⟩ := h.one
    obtain ⟨p, us, rfl, s, r⟩ := l.seqL E.ex
    have := r.ints
    subst this
    refine ⟨p, ns, rfl, s, ?_, fun z h1 h2 => ?_⟩
    · cases ns with
      | nil => cases e2
      | cons _ _ => simp
    · have e : z = m := Int.le_antisymm (h2 m k1) (k2 z h1)
      rw [e]; exact c.dat E (.int _)
  · cases e
def dSum : List Da → Option Wv
  | [.list xs] => (intsOf xs).map fun ns => .dat (.int ns.sum)
  | _ => none
theorem cd_sum (hc : ∀ i, (F.X i).calm = true) : CallD F (.builtin "sum") dSum := by
  intro ds w e
  unfold dSum at e
  split at e
  · rename_i xs
    obtain ⟨ns, e1, e3⟩ := Option.map_eq_some_iff.mp e
    subst e3
    have e1 := intsOf_some e1
    subst e1
    refine ⟨rSum F.K, fun i => by have h := cr_sum (hc i); rw [F.hK i] at h; exact h, fun pr B Hf H g σ vs Q E h c => ?_⟩
    obtain ⟨v, rfl, l⟩ := h.one
    obtain ⟨p, us, rfl, s, r⟩ := l.seqL E.ex
    have := r.ints
    subst this
    exact ⟨p, ns, rfl, s, c.dat E (.int _)⟩
  · cases e
def dTuple : List Da → Option Wv
  | [.list xs] => some (.dat (.tuple xs))
  | [.tuple xs] => some (.dat (.tuple xs))
  | _ => none
def dList : List Da → Option Wv
  | [.list xs] => some (.fresh xs)
  | [.tuple xs] => some (.fresh xs)
  | _ => none
/-- isinstance(e, T), T a built-in class -/
def tyName : Da → String
  | .none => "NoneType" | .bool _ => "bool" | .int _ => "int" | .str _ => "str" | .list _ => "list" | .tuple _ => "tuple" | .dict _ => "dict"
theorem tyx_rep {v : V} {d : Da} (h : Rep K H v d) : TyX K H v (.type (tyName d)) := by
  cases h with
  | non => exact .base .non
  | bl b => exact .base (.bl b)
  | int i => exact .base (.int i)
  | str x => exact .base (.str x)
  | lst q r =>
    rcases q with (q | ⟨o, q⟩) | ⟨o, its, n, q, c, _⟩
    · exact .base (.lst q)
    · exact .base (.frz q)
    · exact .kList q c
  | tup q r =>
    rcases q with (q | ⟨o, q⟩) | ⟨o, its, n, q, c, _⟩
    · exact .base (.tup q)
    · exact .fTuple q
    · exact .kTuple q c
  | dk0 q => exact .base (.dK q)
def mIsi (T : String) (f : ME) : ME := fun g => (f g).bind fun a => (look a.1 a.2).bind fun x => (kitB (tyName x) T).bind fun b => some (.dat (.bool b), a.2)
theorem ev_isi {T : String} {x : Str} {e : Expr} {f : ME} {p p2 pos : Pos} (h : Ev F pr e f) (hm : ∀ i, (F.X i).mg "isinstance" = none) (hmT : ∀ i, (F.X i).mg x = none) (hg : ∀ i, Gl (F.X i) "isinstance" := by intro _; rfl) (hgT : ∀ i, Gl (F.X i) x := by intro _; rfl)
    (hvT : bootBuiltins x = some (.type T) := by decide +kernel) (hn : x ≠ "__name__" := by decide) (hd : (x == ("__debug__" : Str)) = false := by decide)
    (hv : bootBuiltins "isinstance" = some (.builtin "isinstance") := by decide +kernel)
    (he : ∀ i, starEach (e :: [.Name x p2]) (F.X i).env = (false, eval e (F.X i).env) :: starEach [.Name x p2] (F.X i).env := by intro _; rfl) (he2 : ∀ i, starEach [.Name x p2] (F.X i).env = (false, eval (.Name x p2) (F.X i).env) :: starEach [] (F.X i).env := by intro _; rfl) (hpl : ∀ i, (backTo pos (starEach [.Name x p2] (F.X i).env)).any (·.1) = false := by intro _; rfl) :
    Ev F pr (.Call (.Name "isinstance" p) [e, .Name x p2] [] pos) (mIsi T f) := by
  intro B Hf H g σ w g' Q E eq q
  obtain ⟨⟨wa, g1⟩, e1, eq⟩ := Option.bind_eq_some_iff.mp eq
  obtain ⟨d, e2, eq⟩ := Option.bind_eq_some_iff.mp eq
  obtain ⟨b, e3, eq⟩ := Option.bind_eq_some_iff.mp eq
  cases eq
  refine ⟨tCB (rIsi F.K) (tCons (U F e) (tCons (tC (.ty T)) tNil)), fun i => pe_callB (by have h := @call_isi (F.X i); rw [F.hK i] at h; exact h) (hg i) (hm i) hv (pa_cons (pe_U i) (pa_cons (pe_bltn (hgT i) (hmT i) hvT rfl hn hd) pa_nil (he2 i)) (he i)) (by decide) (by decide) (he i) (hpl i), ?_⟩
  refine h B Hf H g σ wa _ _ E e1 fun v Hf1 H1 s1 w1 y1 => ?_
  have l := look_ok s1.env w1 e2
  exact ⟨v, .ty T, _, _, b, rfl, .ty T, tyx_rep l.1, kit_ty e3, q _ Hf1 H1 s1 (.bl b) (fun _ z => nomatch z)⟩
/-- repr of what is flat -/
def dRepr : List Da → Option Wv
  | [.bool b] => some (.dat (.str (if b then "True" else "False")))
  | [.none] => some (.dat (.str "None"))
  | [.int i] => if i.natAbs.log2 < 1920 then some (.dat (.str (toString i))) else none
  | _ => none
theorem call_repr_bl {X : Cx} : CallR X (.builtin "repr") (fun xs H Q => ∃ b, xs = [.bl b] ∧ Q (.str (if b then "True" else "False")) H) := by
  intro pins s σ H xs us Q I r h
  obtain ⟨b, rfl, q⟩ := h
  obtain ⟨u, rfl, rx⟩ := vals1 r
  cases rx
  exact PySem.P.repr_of_bool ⟨.str _, H, I.tok _, ⟨_, rfl⟩, q⟩
theorem call_repr_non {X : Cx} : CallR X (.builtin "repr") (fun xs H Q => xs = [.non] ∧ Q (.str "None") H) := by
  intro pins s σ H xs us Q I r h
  obtain ⟨rfl, q⟩ := h
  obtain ⟨u, rfl, rx⟩ := vals1 r
  cases rx
  exact PySem.P.repr_of_none ⟨.str _, H, I.tok _, ⟨_, rfl⟩, q⟩
theorem cd_repr : CallD F (.builtin "repr") dRepr := by
  intro ds w e
  unfold dRepr at e
  split at e
  · rename_i b
    cases e
    refine ⟨_, fun i => call_repr_bl, fun pr B Hf H g σ vs Q E h c => ?_⟩
    obtain ⟨v, rfl, l⟩ := h.one
    cases l.bool
    exact ⟨b, rfl, c.dat E (.str _)⟩
  · cases e
    refine ⟨_, fun i => call_repr_non, fun pr B Hf H g σ vs Q E h c => ?_⟩
    obtain ⟨v, rfl, l⟩ := h.one
    cases l.none
    exact ⟨rfl, c.dat E (.str _)⟩
  · rename_i i
    split at e
    · rename_i hl
      cases e
      refine ⟨_, fun i => SkE.call_repr_int, fun pr B Hf H g σ vs Q E h c => ?_⟩
      obtain ⟨v, rfl, l⟩ := h.one
      cases l.int
      exact ⟨i, rfl, hl, c.dat E (.str _)⟩
    · cases e
  · cases e
/-- {} -/
theorem ev_dict0 {pos : Pos} : Ev F pr (.Dict [] [] pos) mDict0 := by
  intro B Hf H g σ w g' Q E eq q
  cases eq
  refine ⟨_, fun i => pe_dnewK, fun p hp => ?_⟩
  have hf := E.frz hp
  exact q _ (upd Hf p (.dK [])) (upd H p (.dK [])) ⟨Tr.new hf hp, E.new hp, fun _ h => h⟩ (.dk0 upd_same) (fun _ z => nomatch z)
end
end EV
end
section
set_option Elab.async false
set_option linter.all false
set_option maxRecDepth 100000
set_option maxHeartbeats 2000000
set_option autoImplicit false
namespace EV
open PySem PySem.Spec PyProof.Rows L2
section
variable {F : Fam} {pr : List Nat} {B : Addr → Prop} {Hf H Hf' H' Hf1 H1 Hf2 H2 : Hp} {g g' g1 g2 : Gh} {σ σ' σ1 σ2 : L2.St} {K : Frag}
/-! ### targets -/
structure GStp (K : Frag) (pr : List Nat) (B : Addr → Prop) (vs : List Nat) (w : Wv) (v : V) (Hf H : Hp) (g : Gh) (σ : L2.St) (Hf' H' : Hp) (g' : Gh) (σ' : L2.St) : Prop where
  tr : Tr (Own g σ) Hf H Hf' H'
  env : En K pr B Hf' H' g' σ'
  sub : ∀ p, Own g' σ' p → Own g σ p ∨ ((∃ ds, w = .fresh ds) ∧ v = .ref p)
  prk : ∀ i ∈ pr, σ'[i]? = σ[i]?
  oth : ∀ i, i ∉ vs → σ'[i]? = σ[i]?
  slen : σ'.length = σ.length
def EvG (F : Fam) (pr : List Nat) (vs : List Nat) (tg : Expr) (m : Wv → Gh → Option Gh) : Prop := ∀ (B : Addr → Prop) (Hf H : Hp) (g : Gh) (σ : L2.St) (w : Wv) (v : V) (g' : Gh) (Q : L2.St → Hp → Prop), En F.K pr B Hf H g σ → WOk F.K B Hf H g σ w v → m w g = some g' →
  (∀ σ' Hf' H', GStp F.K pr B vs w v Hf H g σ Hf' H' g' σ' → Q σ' H') → UG F tg v σ H Q
theorem own_store {i : Nat} {s : Sl} {v : V} {p : Addr} (h : Own (g.set i s) (σ.set i (some v)) p) : Own g σ p ∨ (∃ ds, s = .own ds ∧ v = .ref p) := by
  obtain ⟨j, ds, e1, e2⟩ := h
  rcases get_set e1 with ⟨rfl, z⟩ | ⟨n, e1⟩
  · rcases get_set e2 with ⟨_, z2⟩ | ⟨n, _⟩
    · cases z2; exact .inr ⟨ds, z.symm, rfl⟩
    · exact absurd rfl n
  · rw [List.getElem?_set_ne (Ne.symm n)] at e2
    exact .inl ⟨j, ds, e1, e2⟩
theorem En.store (E : En K pr B Hf H g σ) {i : Nat} {s : Sl} {v : V} (hi : i < g.length) (hs : SlotOk K Hf H s v) (ho : ∀ ds, s = .own ds → ∀ p, v = .ref p → ¬ Own g σ p ∧ B p) : En K pr B Hf H (g.set i s) (σ.set i (some v)) where
  ex := E.ex
  len := by rw [List.length_set, List.length_set]; exact E.len
  ok := fun j t e n => by
    rcases get_set e with ⟨rfl, rfl⟩ | ⟨ne, e⟩
    · exact ⟨v, List.getElem?_set_self (by rw [← E.len]; exact hi), hs⟩
    · obtain ⟨u, e1, h1⟩ := E.ok j t e n
      exact ⟨u, by rw [List.getElem?_set_ne (Ne.symm ne)]; exact e1, h1⟩
  dis := fun a b ds es p h1 h2 e1 e2 => by
    rcases get_set h1 with ⟨rfl, z⟩ | ⟨na, h1'⟩
    · rcases get_set h2 with ⟨rfl, _⟩ | ⟨nb, h2'⟩
      · rfl
      · rcases get_set e1 with ⟨_, z1⟩ | ⟨n, _⟩
        · cases z1
          rw [List.getElem?_set_ne (Ne.symm nb)] at e2
          exact absurd ⟨b, es, h2', e2⟩ (ho ds z.symm p rfl).1
        · exact absurd rfl n
    · rcases get_set h2 with ⟨rfl, z⟩ | ⟨nb, h2'⟩
      · rcases get_set e2 with ⟨_, z1⟩ | ⟨n, _⟩
        · cases z1
          rw [List.getElem?_set_ne (Ne.symm na)] at e1
          exact absurd ⟨a, ds, h1', e1⟩ (ho es z.symm p rfl).1
        · exact absurd rfl n
      · rw [List.getElem?_set_ne (Ne.symm na)] at e1
        rw [List.getElem?_set_ne (Ne.symm nb)] at e2
        exact E.dis a b ds es p h1' h2' e1 e2
  nb := E.nb
  ob := fun a ds p h1 e1 => by
    rcases get_set h1 with ⟨rfl, z⟩ | ⟨na, h1'⟩
    · rcases get_set e1 with ⟨_, z1⟩ | ⟨n, _⟩
      · cases z1; exact .inr (ho ds z.symm p rfl).2
      · exact absurd rfl n
    · rw [List.getElem?_set_ne (Ne.symm na)] at e1
      exact E.ob a ds p h1' e1
def setN (i : Nat) (w : Wv) (g : Gh) : Option Gh := if i < g.length then (match w with
  | .dat d => some (g.set i (.val d))
  | .fresh ds => some (g.set i (.own ds))
  | .raw v => some (g.set i (.raw v))
  | .slot j => (toD (.slot j) g).map fun r => r.2.set i (.val r.1)) else none
theorem toD_len : ∀ {w : Wv} {d : Da}, toD w g = some (d, g') → g'.length = g.length
  | .dat _, _, e => by cases e; rfl
  | .fresh _, _, e => by cases e; rfl
  | .raw _, _, e => by cases e
  | .slot i, d, e => by
    unfold toD at e
    dsimp only at e
    split at e
    · cases e; rw [List.length_set]
    · cases e; rfl
    · cases e
theorem setN_ok {i : Nat} {w : Wv} {v : V} (E : En K pr B Hf H g σ) (h : WOk K B Hf H g σ w v) (e : setN i w g = some g') (hp : i ∉ pr) : ∃ Hf', GStp K pr B [i] w v Hf H g σ Hf' H g' (σ.set i (some v)) := by
  unfold setN at e
  split at e
  · rename_i hi
    have prk : ∀ j ∈ pr, (σ.set i (some v))[j]? = σ[j]? := fun j hj => List.getElem?_set_ne (fun z => by subst z; exact hp hj)
    have oth : ∀ j, j ∉ [i] → (σ.set i (some v))[j]? = σ[j]? := fun j hj => List.getElem?_set_ne (fun z => hj (by simp [z]))
    cases w with
    | dat d =>
      cases e
      refine ⟨Hf, Tr.refl, E.store hi h (fun _ z => nomatch z), fun p z => ?_, prk, oth, List.length_set⟩
      rcases own_store z with z | ⟨_, z, _⟩
      · exact .inl z
      · cases z
    | fresh ds =>
      cases e
      obtain ⟨p, us, rfl, hb, hf, hq, r, n⟩ := h
      refine ⟨Hf, Tr.refl, E.store hi ⟨p, us, rfl, hf, hq, r⟩ (fun _ _ q z => by cases z; exact ⟨n, hb⟩), fun q z => ?_, prk, oth, List.length_set⟩
      rcases own_store z with z | ⟨_, z, z2⟩
      · exact .inl z
      · exact .inr ⟨⟨ds, rfl⟩, z2⟩
    | raw x =>
      cases e
      refine ⟨Hf, Tr.refl, E.store hi h (fun _ z => nomatch z), fun p z => ?_, prk, oth, List.length_set⟩
      rcases own_store z with z | ⟨_, z, _⟩
      · exact .inl z
      · cases z
    | slot j =>
      obtain ⟨⟨d, g1⟩, e1, e2⟩ := Option.map_eq_some_iff.mp e
      subst e2
      obtain ⟨Hf', E', r, ex, s, k⟩ := toD_ok E h e1
      refine ⟨Hf', ⟨ex, fun p o hp no => ⟨hp, ?_⟩, fun _ h => h⟩, E'.store (by rw [toD_len e1]; exact hi) r (fun _ z => nomatch z), fun p z => ?_, prk, oth, List.length_set⟩
      · rcases k p o hp no with z | ⟨⟨_, z⟩, _⟩
        · exact z
        · cases z
      · rcases own_store z with z | ⟨_, z, _⟩
        · exact .inl (s p z)
        · cases z
  · cases e
theorem eg_name (i : Nat) {x : Str} {pos : Pos} (hN : ∀ j, (F.X j).N.Nodup) (hi : ∀ j, (F.X j).N[i]? = some x := by intro _; rfl) (hx : ∀ j, Loc (F.X j).env.scope x := by intro _; first | exact Or.inl rfl | exact Or.inr rfl)
    (hf : ∀ j, (F.X j).fn x = true ∨ (F.X j).env.scope.names.lookup x = some .local := by intro _; first | exact .inl rfl | exact .inr rfl) (hp : i ∉ pr := by decide) : EvG F pr [i] (.Name x pos) (setN i) := by
  intro B Hf H g σ w v g' Q E h e q
  obtain ⟨Hf', s⟩ := setN_ok E h e hp
  exact ⟨gName i, fun j => pg_name (hN j) (hi j) (hx j) (hf j), q _ Hf' H s⟩
/-- names, from the left -/
def gNames : List Nat → TGs
  | [] => gNil
  | i :: is => gCons (gName i) (gNames is)
def slOf : Wv → Option Sl
  | .dat d => some (.val d)
  | .fresh ds => some (.own ds)
  | .raw v => some (.raw v)
  | .slot _ => none
def setNs : List Nat → List Wv → Gh → Option Gh
  | [], [], g => some g
  | i :: is, w :: ws, g => (slOf w).bind fun s => if i < g.length then setNs is ws (g.set i s) else none
  | _, _, _ => none
theorem slOf_store {i : Nat} {w : Wv} {v : V} {s : Sl} (E : En K pr B Hf H g σ) (h : WOk K B Hf H g σ w v) (e : slOf w = some s) (hi : i < g.length) : En K pr B Hf H (g.set i s) (σ.set i (some v)) ∧ ∀ p, Own (g.set i s) (σ.set i (some v)) p → Own g σ p ∨ ((∃ ds, w = .fresh ds) ∧ v = .ref p) := by
  cases w with
  | dat d =>
    cases e
    refine ⟨E.store hi h (fun _ z => nomatch z), fun p z => ?_⟩
    rcases own_store z with z | ⟨_, z, _⟩
    · exact .inl z
    · cases z
  | fresh ds =>
    cases e
    obtain ⟨p, us, rfl, hb, hf, hq, r, n⟩ := h
    refine ⟨E.store hi ⟨p, us, rfl, hf, hq, r⟩ (fun _ _ q z => by cases z; exact ⟨n, hb⟩), fun q z => ?_⟩
    rcases own_store z with z | ⟨_, z, z2⟩
    · exact .inl z
    · exact .inr ⟨⟨ds, rfl⟩, z2⟩
  | raw x =>
    cases e
    refine ⟨E.store hi h (fun _ z => nomatch z), fun p z => ?_⟩
    rcases own_store z with z | ⟨_, z, _⟩
    · exact .inl z
    · cases z
  | slot j => cases e
theorem WOk.by_own {w : Wv} {v : V} (h : WOk K B Hf H g σ w v) (e : (slOf w).isSome = true) (o : ∀ ds p, w = .fresh ds → v = .ref p → Own g1 σ1 p → Own g σ p) : WOk K B Hf H g1 σ1 w v := by
  cases w with
  | dat d => exact h
  | fresh ds =>
    obtain ⟨p, us, rfl, hb, hf, hq, r, n⟩ := h
    exact ⟨p, us, rfl, hb, hf, hq, r, fun z => n (o ds p rfl rfl z)⟩
  | raw x => exact h
  | slot j => cases e
theorem setNs_all : ∀ {is : List Nat} {ws : List Wv} {g g' : Gh}, setNs is ws g = some g' → ∀ w ∈ ws, (slOf w).isSome = true
  | [], [], _, _, _, _, h => by cases h
  | i :: is, w :: ws, g, g', e, u, h => by
    obtain ⟨s, e1, e⟩ := Option.bind_eq_some_iff.mp (show ((slOf w).bind fun s => if i < g.length then setNs is ws (g.set i s) else none) = some g' from e)
    split at e
    · rcases List.mem_cons.mp h with q | q
      · subst q; rw [e1]; rfl
      · exact setNs_all e u q
    · cases e
theorem WAll.by_own {w : Wv} {v : V} (o : ∀ p, Own g1 σ1 p → Own g σ p ∨ ((∃ ds, w = .fresh ds) ∧ v = .ref p)) : ∀ {ws : List Wv} {us : List V}, WAll K B Hf H g σ ws us → Apart w v ws us → (∀ w ∈ ws, (slOf w).isSome = true) → WAll K B Hf H g1 σ1 ws us
  | _, _, .nil, _, _ => .nil
  | _, _, .cons a b c, ap, n => by
    refine .cons (a.by_own (n _ List.mem_cons_self) fun ds p e1 e2 z => ?_) b (WAll.by_own o c (fun ds p e1 e2 i es h1 h2 => ap ds p e1 e2 (i + 1) es (by simpa using h1) (by simpa using h2)) fun w h => n w (List.mem_cons_of_mem _ h))
    rcases o p z with z | ⟨⟨es, z⟩, z2⟩
    · exact z
    · exact (ap es p z z2 0 ds (by simp [e1]) (by simp [e2])).elim
theorem setNs_ok : ∀ {is : List Nat} {ws : List Wv} {us : List V} {g g' : Gh} {σ : L2.St} {D : L2.St → Hp → Prop}, En K pr B Hf H g σ → WAll K B Hf H g σ ws us → setNs is ws g = some g' → (∀ i ∈ is, i ∉ pr) →
    (∀ σ', En K pr B Hf H g' σ' → (∀ p, Own g' σ' p → Own g σ p ∨ ∃ (i : Nat) (ds : List Da), ws[i]? = some (.fresh ds) ∧ us[i]? = some (.ref p)) → (∀ i ∈ pr, σ'[i]? = σ[i]?) → (∀ i, i ∉ is → σ'[i]? = σ[i]?) → σ'.length = σ.length → D σ' H) → gNames is us σ H D
  | [], _, _, g, g', σ, D, E, .nil, e, hp, k => by
    cases e
    exact ⟨rfl, k σ E (fun _ h => .inl h) (fun _ _ => rfl) (fun _ _ => rfl) rfl⟩
  | i :: is, _, _, g, g', σ, D, E, @WAll.cons _ _ _ _ _ _ w v ws us a b c, e, hp, k => by
    have all := setNs_all e
    obtain ⟨s, e1, e⟩ := Option.bind_eq_some_iff.mp (show ((slOf w).bind fun s => if i < g.length then setNs is ws (g.set i s) else none) = some g' from e)
    split at e
    · rename_i hi
      obtain ⟨E1, o1⟩ := slOf_store E a e1 hi
      have hip : i ∉ pr := hp i List.mem_cons_self
      refine ⟨v, us, rfl, setNs_ok E1 (WAll.by_own o1 c b fun w h => all w (List.mem_cons_of_mem _ h)) e (fun j hj => hp j (List.mem_cons_of_mem _ hj)) fun σ' E' o2 p2 t2 l2 => ?_⟩
      refine k σ' E' (fun p hq => ?_) (fun j hj => (p2 j hj).trans (List.getElem?_set_ne fun z => by subst z; exact hip hj)) (fun j hj => (t2 j fun z => hj (List.mem_cons_of_mem _ z)).trans (List.getElem?_set_ne fun z => by subst z; exact hj List.mem_cons_self)) (l2.trans List.length_set)
      rcases o2 p hq with z | ⟨j, ds, z, z2⟩
      · rcases o1 p z with z | ⟨⟨ds, z⟩, z2⟩
        · exact .inl z
        · exact .inr ⟨0, ds, by simp [z], by simp [z2]⟩
      · exact .inr ⟨j + 1, ds, by simpa using z, by simpa using z2⟩
    · cases e
  | _ :: _, _, _, _, _, _, _, _, .nil, e, _, _ => by cases e
/-- (a, b, ..), a tuple of data -/
def setT (is : List Nat) : Wv → Gh → Option Gh
  | .dat (.tuple ds), g => if ds.length = is.length then setNs is (ds.map Wv.dat) g else none
  | _, _ => none
end
end EV
end
section
set_option Elab.async false
set_option linter.all false
set_option maxRecDepth 100000
set_option maxHeartbeats 2000000
set_option autoImplicit false
namespace EV
open PySem PySem.Spec PyProof.Rows L2
section
variable {F : Fam} {pr : List Nat} {B : Addr → Prop} {Hf H Hf' H' Hf1 H1 Hf2 H2 : Hp} {g g' g1 g2 : Gh} {σ σ' σ1 σ2 : L2.St} {K : Frag}
/-! ### what is walked -/
theorem walkd_list {a : Addr} {xs : List V} {ds : List Da} (sq : SqL K Hf a xs) (r : RepAll K Hf xs ds) : WalkD K (Itl K a) Hf ds := by
  intro Hf1 H1 e1 e2
  have s1 : SqL K H1 a xs := Evl.ex_l (e1.trans e2) sq
  refine ⟨fun i hi => ⟨xs, xs[i]'(by rw [r.length]; exact hi), s1, by simp [r.length, hi]⟩, ⟨xs, s1, by rw [r.length]; exact Nat.le_refl _⟩, fun i d x H2 hd y => ?_⟩
  obtain ⟨rfl, y⟩ := y
  obtain ⟨v, hv, rv⟩ := r.get hd
  have := y xs s1
  rw [hv] at this; cases this
  exact ⟨Hf1, Tr.refl, fun _ _ _ _ E => E, rv.mono e1⟩
theorem walkd_tup {a : Addr} {xs : List V} {ds : List Da} (sq : SqT K Hf a xs) (r : RepAll K Hf xs ds) : WalkD K (Itt K a) Hf ds := by
  intro Hf1 H1 e1 e2
  have s1 : SqT K H1 a xs := Evl.ex_t (e1.trans e2) sq
  refine ⟨fun i hi => ⟨xs, xs[i]'(by rw [r.length]; exact hi), s1, by simp [r.length, hi]⟩, ⟨xs, s1, by rw [r.length]; exact Nat.le_refl _⟩, fun i d x H2 hd y => ?_⟩
  obtain ⟨rfl, y⟩ := y
  obtain ⟨v, hv, rv⟩ := r.get hd
  have := y xs s1
  rw [hv] at this; cases this
  exact ⟨Hf1, Tr.refl, fun _ _ _ _ E => E, rv.mono e1⟩
def mIt (f : ME) : MI := fun g => (f g).bind fun a => (toD a.1 a.2).bind fun r => (itemsD r.1).bind fun ds => some (ds, r.2)
theorem ei_val {tg e : Expr} {f : ME} (h : Ev F pr e f) : EvI F pr tg e (mIt f) := by
  intro B Hf H g σ ds g' R E eq q
  obtain ⟨⟨wa, g1⟩, e1, eq⟩ := Option.bind_eq_some_iff.mp eq
  obtain ⟨⟨d, g2⟩, e2, eq⟩ := Option.bind_eq_some_iff.mp eq
  obtain ⟨ds', e3, eq⟩ := Option.bind_eq_some_iff.mp eq
  cases eq
  cases d with
  | list xs =>
    cases e3
    refine ⟨iList F.K (U F e), fun i => by have z := pi_list (tg := tg) (pe_U (F := F) (e := e) i); rw [F.hK i] at z; exact z, ?_⟩
    refine h B Hf H g σ wa g1 _ E e1 fun v Hf1 H1 s1 w1 y1 => ?_
    obtain ⟨Hf2, s2, r⟩ := s1.toD y1 w1 e2
    cases r with
    | lst sq r => exact ⟨_, rfl, ⟨_, Evl.ex_l s2.env.ex sq⟩, q _ Hf2 H1 s2 (walkd_list sq r)⟩
  | tuple xs =>
    cases e3
    refine ⟨iTup F.K (U F e), fun i => by have z := pi_tup (tg := tg) (pe_U (F := F) (e := e) i); rw [F.hK i] at z; exact z, ?_⟩
    refine h B Hf H g σ wa g1 _ E e1 fun v Hf1 H1 s1 w1 y1 => ?_
    obtain ⟨Hf2, s2, r⟩ := s1.toD y1 w1 e2
    cases r with
    | tup sq r => exact ⟨_, rfl, ⟨_, Evl.ex_t s2.env.ex sq⟩, q _ Hf2 H1 s2 (walkd_tup sq r)⟩
  | _ => cases e3
def rgD (lo hi : Int) : List Da := (List.range (hi - lo).toNat).map fun k => .int (lo + (k : Nat))
theorem walkd_range {lo : Int} {n : Nat} : WalkD K (Itr lo n) Hf ((List.range n).map fun (k : Nat) => PyData.int (lo + k)) := by
  intro Hf1 H1 e1 e2
  refine ⟨fun i hi => by show i < n; simpa using hi, by show n ≤ _; simp, fun i d x H2 hd y => ?_⟩
  obtain ⟨rfl, rfl⟩ := y
  rw [List.getElem?_map] at hd
  by_cases hi : i < n
  · rw [List.getElem?_range hi] at hd
    cases hd
    exact ⟨Hf1, Tr.refl, fun _ _ _ _ E => E, .int _⟩
  · rw [List.getElem?_eq_none (by simpa using hi)] at hd; cases hd
def okRg (i : Int) : Bool := decide (-(2 ^ 62) ≤ i) && decide (i < 2 ^ 62)
theorem okRg_of {i : Int} (h : okRg i = true) : -(2 ^ 62) ≤ i ∧ i < 2 ^ 62 := by
  unfold okRg at h
  rw [Bool.and_eq_true] at h
  exact ⟨of_decide_eq_true h.1, of_decide_eq_true h.2⟩
def mRg1 (fa : MA) : MI := fun g => (fa g).bind fun a => (lookAll a.1 a.2).bind fun ds => match ds with
  | [.int j] => if okRg j = true then some (rgD 0 j, a.2) else none
  | _ => none
def mRg2 (fa : MA) : MI := fun g => (fa g).bind fun a => (lookAll a.1 a.2).bind fun ds => match ds with
  | [.int i, .int j] => if okRg i = true ∧ okRg j = true then some (rgD i j, a.2) else none
  | _ => none
theorem ei_range1 {tg a : Expr} {fa : MA} {p pos : Pos} (hm : ∀ i, (F.X i).mg "range" = none) (ha : EvA F pr [a] fa) (hg : ∀ i, Gl (F.X i) "range" := by intro _; rfl) (hs : ∀ i, starEach [a] (F.X i).env = [(false, eval a (F.X i).env)] := by intro _; rfl) :
    EvI F pr tg (.Call (.Name "range" p) [a] [] pos) (mRg1 fa) := by
  intro B Hf H g σ ds g' R E eq q
  obtain ⟨⟨ws, g1⟩, e1, eq1⟩ := Option.bind_eq_some_iff.mp eq
  obtain ⟨xs, e2, eq2⟩ := Option.bind_eq_some_iff.mp eq1
  refine ⟨iRng1 (UA F [a]), fun i => pi_range1 (hg i) (hm i) (pa_U i) (hs i), ?_⟩
  refine ha B Hf H g σ ws g1 _ E e1 fun vs Hf1 H1 s1 w1 y1 => ?_
  have l := lookAll_ok s1.env w1 e2
  dsimp only at eq2
  split at eq2
  · rename_i j
    split at eq2
    · rename_i hj
      cases eq2
      obtain ⟨v, rfl, l2⟩ := l.one
      cases l2.int
      obtain ⟨h1, h2⟩ := okRg_of hj
      refine ⟨j, rfl, h1, h2, q _ Hf1 H1 s1 ?_⟩
      unfold rgD
      rw [Int.sub_zero]
      exact walkd_range
    · cases eq2
  · cases eq2
theorem ei_range2 {tg a b : Expr} {fa : MA} {p pos : Pos} (hm : ∀ i, (F.X i).mg "range" = none) (ha : EvA F pr [a, b] fa) (hg : ∀ i, Gl (F.X i) "range" := by intro _; rfl) (hs : ∀ i, starEach [a, b] (F.X i).env = [(false, eval a (F.X i).env), (false, eval b (F.X i).env)] := by intro _; rfl)
    (hs2 : ∀ i, starEach [b] (F.X i).env = [(false, eval b (F.X i).env)] := by intro _; rfl) : EvI F pr tg (.Call (.Name "range" p) [a, b] [] pos) (mRg2 fa) := by
  intro B Hf H g σ ds g' R E eq q
  obtain ⟨⟨ws, g1⟩, e1, eq1⟩ := Option.bind_eq_some_iff.mp eq
  obtain ⟨xs, e2, eq2⟩ := Option.bind_eq_some_iff.mp eq1
  refine ⟨iRng2 (UA F [a, b]), fun i => pi_range2 (hg i) (hm i) (pa_U i) (hs i) (hs2 i), ?_⟩
  refine ha B Hf H g σ ws g1 _ E e1 fun vs Hf1 H1 s1 w1 y1 => ?_
  have l := lookAll_ok s1.env w1 e2
  dsimp only at eq2
  split at eq2
  · rename_i i j
    split at eq2
    · rename_i hj
      cases eq2
      obtain ⟨v, u, rfl, l1, l2⟩ := l.two
      cases l1.int; cases l2.int
      obtain ⟨h1, h2⟩ := okRg_of hj.1
      obtain ⟨h3, h4⟩ := okRg_of hj.2
      exact ⟨i, j, rfl, ⟨h1, h2, h3, h4⟩, q _ Hf1 H1 s1 walkd_range⟩
    · cases eq2
  · cases eq2
/-- pairs -/
def zipD : List Da → List Da → List Da := List.zipWith fun x y => .tuple [x, y]
def mZip (fa : MA) : MI := fun g => (fa g).bind fun a => (toDs a.1 a.2).bind fun r => match r.1 with
  | [.list ds, .list es] => some (zipD ds es, r.2)
  | [.tuple ds, .tuple es] => some (zipD ds es, r.2)
  | _ => none
def enumD : Nat → List Da → List Da
  | _, [] => []
  | n, d :: ds => .tuple [.int n, d] :: enumD (n + 1) ds
def mEnum (fa : MA) : MI := fun g => (fa g).bind fun a => (toDs a.1 a.2).bind fun r => match r.1 with
  | [.list ds] => some (enumD 0 ds, r.2)
  | _ => none
def mRevI (f : ME) : MI := fun g => (f g).bind fun a => (toD a.1 a.2).bind fun r => (itemsD r.1).bind fun ds => some (ds.reverse, r.2)
end
end EV
end
section
set_option Elab.async false
set_option linter.all false
set_option maxRecDepth 100000
set_option maxHeartbeats 2000000
set_option autoImplicit false
namespace EV
open PySem PySem.Spec PyProof.Rows L2
section
variable {F : Fam} {pr : List Nat} {B : Addr → Prop} {Hf H Hf' H' Hf1 H1 Hf2 H2 : Hp} {g g' g1 g2 : Gh} {σ σ' σ1 σ2 : L2.St} {K : Frag}
/-! ### list comprehensions -/
def wipeG (g : Gh) : List Nat → Gh
  | [] => g
  | v :: vs => (wipeG g vs).set v .un
def restore : List Nat → Gh → Gh → Gh
  | [], _, g => g
  | v :: vs, g0, g => match g0[v]? with
    | some s => (restore vs g0 g).set v s
    | none => restore vs g0 g
theorem wipeG_len (g : Gh) : ∀ vs, (wipeG g vs).length = g.length
  | [] => rfl
  | v :: vs => by unfold wipeG; rw [List.length_set, wipeG_len]
theorem wipeG_get {i : Nat} {s : Sl} : ∀ {vs : List Nat}, (wipeG g vs)[i]? = some s → s ≠ .un → g[i]? = some s ∧ i ∉ vs
  | [], h, _ => ⟨h, by simp⟩
  | v :: vs, h, n => by
    unfold wipeG at h
    rcases get_set h with ⟨_, z⟩ | ⟨ne, h⟩
    · exact absurd z n
    · obtain ⟨h1, h2⟩ := wipeG_get h n
      exact ⟨h1, by simp only [List.mem_cons, not_or]; exact ⟨ne, h2⟩⟩
theorem wipe_get {i : Nat} : ∀ {vs : List Nat}, i ∉ vs → (wipe σ vs)[i]? = σ[i]?
  | [], _ => rfl
  | v :: vs, h => by
    unfold wipe
    rw [List.getElem?_set_ne (fun z => h (by simp [z]))]
    exact wipe_get fun z => h (List.mem_cons_of_mem _ z)
theorem wipe_eq {vs : List Nat} (hl : σ1.length = σ2.length) (h : ∀ i, i ∉ vs → σ1[i]? = σ2[i]?) : wipe σ1 vs = wipe σ2 vs := by
  apply List.ext_getElem?
  intro i
  by_cases hi : i ∈ vs
  · have : ∀ (σ : L2.St) (vs : List Nat), i ∈ vs → (wipe σ vs)[i]? = if i < σ.length then some none else none := by
      intro σ vs hm
      induction vs with
      | nil => cases hm
      | cons v vs ih =>
        unfold wipe
        by_cases e : v = i
        · subst e
          by_cases hl : v < σ.length
          · rw [List.getElem?_set_self (by rw [wipe_length]; exact hl), if_pos hl]
          · rw [List.getElem?_eq_none (by rw [List.length_set, wipe_length]; omega), if_neg hl]
        · rw [List.getElem?_set_ne e]
          rcases List.mem_cons.mp hm with z | z
          · exact absurd z.symm e
          · exact ih z
    rw [this σ1 vs hi, this σ2 vs hi, hl]
  · rw [wipe_get hi, wipe_get hi]; exact h i hi
theorem En.wipe (E : En K pr B Hf H g σ) (vs : List Nat) : En K pr B Hf H (wipeG g vs) (wipe σ vs) where
  ex := E.ex
  len := by rw [wipeG_len, wipe_length]; exact E.len
  ok := fun i s e n => by
    obtain ⟨e1, h1⟩ := wipeG_get e n
    obtain ⟨v, e2, h2⟩ := E.ok i s e1 n
    exact ⟨v, by rw [wipe_get h1]; exact e2, h2⟩
  dis := fun i j ds es p h1 h2 e1 e2 => E.dis i j ds es p (wipeG_get h1 (by simp)).1 (wipeG_get h2 (by simp)).1 (wipe_some e1).1 (wipe_some e2).1
  nb := E.nb
  ob := fun i ds p h e => E.ob i ds p (wipeG_get h (by simp)).1 (wipe_some e).1
theorem own_wipe {vs : List Nat} {p : Addr} (h : Own (wipeG g vs) (wipe σ vs) p) : Own g σ p := by
  obtain ⟨i, ds, e1, e2⟩ := h
  exact ⟨i, ds, (wipeG_get e1 (by simp)).1, (wipe_some e2).1⟩
theorem restore_len (g0 : Gh) : ∀ vs, (restore vs g0 g).length = g.length
  | [] => rfl
  | v :: vs => by
    unfold restore
    split
    · rw [List.length_set, restore_len]
    · exact restore_len g0 vs
theorem restore_get (g0 : Gh) (hl : g0.length = g.length) {i : Nat} : ∀ vs, (restore vs g0 g)[i]? = if i ∈ vs then g0[i]? else g[i]?
  | [] => by simp [restore]
  | v :: vs => by
    unfold restore
    have ih := restore_get g0 hl vs (i := i)
    by_cases e : v = i
    · subst e
      cases h : g0[v]? with
      | none =>
        have : g[v]? = none := by
          rw [List.getElem?_eq_none_iff] at h ⊢; omega
        dsimp only
        rw [ih]
        simp [h, this]
      | some s =>
        dsimp only
        rw [List.getElem?_set_self (by rw [restore_len]; have := lt_of_get h; omega)]
        simp
    · have m : (i ∈ v :: vs) ↔ i ∈ vs := by simp [Ne.symm e]
      split
      · rw [List.getElem?_set_ne e, ih]; simp [m]
      · rw [ih]; simp [m]
def compL (vs : List Nat) (tg : Wv → Gh → Option Gh) (ts : MT) (el : ME) : List Da → Gh → Option (List Da × Gh)
  | [], g => some ([], g)
  | d :: ds, g => (tg (.dat d) g).bind fun g1 => (ts g1).bind fun b => if b.1 = true then
      (el b.2).bind fun w => (toD w.1 w.2).bind fun r => (compL vs tg ts el ds (wipeG r.2 vs)).bind fun q => some (r.1 :: q.1, q.2)
    else compL vs tg ts el ds (wipeG b.2 vs)
def mComp (vs : List Nat) (it : MI) (tg : Wv → Gh → Option Gh) (ts : MT) (el : ME) : ME := fun g => (it g).bind fun a => if a.1.length < sizeLine then (compL vs tg ts el a.1 (wipeG a.2 vs)).bind fun r => some (.fresh r.1, restore vs a.2 r.2) else none
def mYes : MT := fun g => some (true, g)
theorem ets_nil : EvTs F pr [] mYes := by
  intro B Hf H g σ b g' Q E eq q
  cases eq
  exact ⟨tYes, fun _ => pts_nil, q Hf H (Stp.refl E)⟩
theorem ets_one {c : Expr} {f : MT} (h : EvT F pr c f) : EvTs F pr [c] f := by
  intro B Hf H g σ b g' Q E eq q
  exact ⟨UT F c, fun i => pts_one (pt_U i), h B Hf H g σ b g' Q E eq q⟩
/-- the state between two turns -/
structure CInv (K : Frag) (pr : List Nat) (B : Addr → Prop) (Hf1 H1 : Hp) (g1 : Gh) (σ : L2.St) (vs : List Nat) (D : Addr) (Hf' H' : Hp) (g' : Gh) (acc : List Da) : Prop where
  env : En K pr B Hf' H' g' (wipe σ vs)
  tr : Tr (Own (wipeG g1 vs) (wipe σ vs)) Hf1 H1 Hf' H'
  sub : ∀ p, Own g' (wipe σ vs) p → Own (wipeG g1 vs) (wipe σ vs) p
  at_ : ∃ xs, H' D = some (.lst xs) ∧ RepAll K Hf' xs acc
  fz : Hf' D = none
  no : ¬ Own g' (wipe σ vs) D
theorem comp_ok {scope : Scope} {vs : List Nat} {tg iter elt : Expr} {ifs : List Expr} {it : MI} {tm : Wv → Gh → Option Gh} {ts : MT} {el : ME} (hi : EvI F pr tg iter it) (hg : EvG (F.blk scope) pr vs tg tm) (ht : EvTs (F.blk scope) pr ifs ts) (he : Ev (F.blk scope) pr elt el)
    {w : Wv} {Q : VK} (E : En F.K pr B Hf H g σ) (eq : mComp vs it tm ts el g = some (w, g')) (q : ∀ v Hf' H', Stp F.K pr B Hf H g σ Hf' H' g' → WOk F.K B Hf' H' g' σ w v → Yng H w v → Q v H') :
    tLc (UI F tg iter) (UG (F.blk scope) tg) (UTs (F.blk scope) ifs) (U (F.blk scope) elt) vs σ H Q := by
  obtain ⟨⟨ds, g1⟩, e1, eq1⟩ := Option.bind_eq_some_iff.mp eq
  dsimp only at eq1
  split at eq1
  · rename_i hlen
    obtain ⟨⟨out, g2⟩, e2, eq2⟩ := Option.bind_eq_some_iff.mp eq1
    cases eq2
    refine hi B Hf H g σ ds g1 _ E e1 fun J Hf1 H1 s1 wk D hD => ?_
    have hfD : Hf1 D = none := s1.env.frz hD
    -- the invariant by the turn
    let Pv : Nat → Hp → Prop := fun i H' => ∃ Hf' g' acc rest, CInv F.K pr B Hf1 H1 g1 σ vs D Hf' H' g' acc ∧ compL vs tm ts el (ds.drop i) g' = some (rest, g2) ∧ acc ++ rest = out ∧ acc.length ≤ i
    refine ⟨fun i m H' => m = ds.length - i ∧ i ≤ ds.length ∧ Pv i H', ⟨ds.length, by simp, Nat.zero_le _, Hf1, wipeG g1 vs, [], out, ⟨?_, ?_, fun _ h => h, ⟨[], upd_same, .nil⟩, hfD, ?_⟩, by rw [List.drop_zero]; exact e2, rfl, Nat.le_refl _⟩, ?_⟩
    · exact (s1.env.wipe vs).mut hD
    · exact Tr.mut hD
    · exact fun z => s1.env.own_none hD (own_wipe z)
    rintro i m H' ⟨rfl, hi, Hf', g', acc, rest, c, er, eo, ha⟩
    have ex1 : Evl.Ex Hf1 Hf' := c.tr.ex
    obtain ⟨go, stop, yld⟩ := wk Hf' H' ex1 c.env.ex
    by_cases hlt : i < ds.length
    · refine .inr ⟨go i hlt, Pv (i + 1), fun H'' p => ⟨ds.length - (i + 1), by omega, rfl, hlt, p⟩, fun x H'' y => ?_⟩
      have hd : ds[i]? = some ds[i] := by simp [hlt]
      rw [List.drop_eq_getElem_cons hlt] at er
      obtain ⟨Hf2, t2, en2, rx⟩ := yld i _ x H'' hd y
      have E2 := en2 pr B g' (wipe σ vs) c.env
      obtain ⟨gt, k1, er1⟩ := Option.bind_eq_some_iff.mp (show ((tm (.dat ds[i]) g').bind _) = some (rest, g2) from er)
      obtain ⟨⟨b, gb⟩, k2, er2⟩ := Option.bind_eq_some_iff.mp er1
      obtain ⟨xs, hxs, rxs⟩ := c.at_
      -- D through the yield
      obtain ⟨hD2, fD2⟩ := t2.keep D _ hxs (fun z => z)
      refine hg B Hf2 H'' g' (wipe σ vs) (.dat ds[i]) x gt _ E2 rx k1 fun σ3 Hf3 H3 s3 => ?_
      have nD3 : ¬ Own gt σ3 D := fun z => by
        rcases s3.sub D z with z | ⟨⟨_, z⟩, _⟩
        · exact c.no z
        · cases z
      obtain ⟨hD3, fD3⟩ := s3.tr.keep D _ hD2 c.no
      have wl : wipe σ3 vs = wipe σ vs := by
        rw [wipe_eq (σ1 := σ3) (σ2 := wipe σ vs) ?_ s3.oth]
        · rw [wipe_eq (σ1 := wipe σ vs) (σ2 := σ) (by rw [wipe_length]) fun i hi => wipe_get hi]
        · exact s3.slen
      refine ⟨wl, ?_⟩
      refine ht B Hf3 H3 gt σ3 b gb _ s3.env k2 fun Hf4 H4 s4 => ?_
      obtain ⟨hD4, fD4⟩ := s4.tr.keep D _ hD3 nD3
      have nD4 : ¬ Own gb σ3 D := fun z => nD3 (s4.sub D z)
      -- from the block's start to here
      have sub3 : ∀ p, Own gt σ3 p → Own (wipeG g1 vs) (wipe σ vs) p := fun p z => by
        rcases s3.sub p z with z | ⟨⟨_, z⟩, _⟩
        · exact c.sub p z
        · cases z
      have sub4 : ∀ p, Own gb σ3 p → Own (wipeG g1 vs) (wipe σ vs) p := fun p z => sub3 p (s4.sub p z)
      have T4 : Tr (Own (wipeG g1 vs) (wipe σ vs)) Hf1 H1 Hf4 H4 := ((c.tr.trans' t2 fun p z => z.elim).trans' s3.tr c.sub).trans' s4.tr sub3
      have e0 : ∀ {Hx : Hp}, Evl.Ex Hf2 Hx → Evl.Ex Hf' Hx := fun z => t2.ex.trans z
      cases b with
      | false =>
        dsimp only at er2
        rw [if_neg Bool.false_ne_true] at er2
        show if false = true then _ else Pv (i + 1) H4
        rw [if_neg Bool.false_ne_true]
        refine ⟨Hf4, wipeG gb vs, acc, rest, ⟨?_, T4, fun p z => ?_, ⟨xs, hD4, rxs.mono (e0 (s3.tr.ex.trans s4.tr.ex))⟩, ?_, fun z => ?_⟩, er2, eo, by omega⟩
        · have := s4.env.wipe vs
          rw [wl] at this; exact this
        · rw [← wl] at z; exact sub4 p (own_wipe z)
        · rw [fD4, fD3, fD2]; exact c.fz
        · rw [← wl] at z; exact nD4 (own_wipe z)
      | true =>
        dsimp only at er2
        rw [if_pos rfl] at er2
        rw [if_pos rfl]
        obtain ⟨⟨we, ge⟩, k3, er3⟩ := Option.bind_eq_some_iff.mp er2
        obtain ⟨⟨d, gr⟩, k4, er4⟩ := Option.bind_eq_some_iff.mp er3
        obtain ⟨⟨rest', g3⟩, k5, er5⟩ := Option.bind_eq_some_iff.mp er4
        cases er5
        refine he B Hf4 H4 gb σ3 we ge _ s4.env k3 fun y' Hf5 H5 s5 w5 y5 => ?_
        obtain ⟨Hf6, s6, r6⟩ := s5.toD y5 w5 k4
        obtain ⟨hD6, fD6⟩ := s6.tr.keep D _ hD4 nD4
        have nD6 : ¬ Own gr σ3 D := fun z => nD4 (s6.sub D z)
        have fD : Hf6 D = none := by rw [fD6, fD4, fD3, fD2]; exact c.fz
        have T6 := T4.trans' s6.tr sub4
        have la := rxs.length
        refine ⟨xs, hD6, by omega, Hf6, wipeG gr vs, acc ++ [d], rest', ⟨?_, ⟨T6.ex, fun p o hp no => ?_, fun p hp => T6.stay p (upd_none hp)⟩, fun p z => ?_, ⟨xs ++ [y'], upd_same, ?_⟩, fD, fun z => ?_⟩, k5, by rw [← eo]; simp, by simp; omega⟩
        · have := (s6.env.put (o := .lst (xs ++ [y'])) fD nD6).wipe vs
          rw [wl] at this; exact this
        · obtain ⟨k1, k2⟩ := T6.keep p o hp no
          exact ⟨by rw [upd_ne (ne_of_none hp hD)]; exact k1, k2⟩
        · rw [← wl] at z; exact sub4 p (s6.sub p (own_wipe z))
        · exact (rxs.mono (e0 (s3.tr.ex.trans (s4.tr.ex.trans s6.tr.ex)))).append (.cons r6 .nil)
        · rw [← wl] at z; exact nD6 (own_wipe z)
    · have e : i = ds.length := by omega
      subst e
      refine .inl ⟨stop, ?_⟩
      rw [List.drop_length] at er
      cases er
      rw [List.append_nil] at eo
      subst eo
      obtain ⟨xs, hxs, rxs⟩ := c.at_
      have gl : g1.length = g2.length := by
        have h1 := s1.env.len
        have h2 := c.env.len
        rw [wipe_length] at h2; omega
      have apart : ∀ (i : Nat) ds p, i ∈ vs → g1[i]? = some (.own ds) → σ[i]? = some (some (.ref p)) → ¬ Own (wipeG g1 vs) (wipe σ vs) p := fun i ds p hi h1 h2 z => by
        obtain ⟨j, es, e1, e2⟩ := z
        obtain ⟨e1, nj⟩ := wipeG_get e1 (by simp)
        have := s1.env.dis i j ds es p h1 e1 h2 (wipe_some e2).1
        exact nj (this ▸ hi)
      have own_r : ∀ p, Own (restore vs g1 g2) σ p → Own g1 σ p := fun p ⟨i, es, e1, e2⟩ => by
        rw [restore_get g1 gl] at e1
        split at e1
        · exact ⟨i, es, e1, e2⟩
        · rename_i hi
          exact own_wipe (c.sub p ⟨i, es, e1, by rw [wipe_get hi]; exact e2⟩)
      have er : En F.K pr B Hf' H' (restore vs g1 g2) σ := by
        refine ⟨c.env.ex, by rw [restore_len, ← gl]; exact s1.env.len, fun i s e n => ?_, fun i j es fs p h1 h2 e1 e2 => ?_, c.env.nb, fun i es p h1 e1 => ?_⟩
        · rw [restore_get g1 gl] at e
          split at e
          · rename_i hi
            obtain ⟨v, e1, so⟩ := s1.env.ok i s e n
            refine ⟨v, e1, ?_⟩
            cases s with
            | un => trivial
            | val d => exact Rep.mono c.tr.ex so
            | own es =>
              obtain ⟨p, us, rfl, h1, h2, h3⟩ := so
              obtain ⟨k1, k2⟩ := c.tr.keep p _ h2 (apart i es p hi e e1)
              exact ⟨p, us, rfl, k2.trans h1, k1, h3.mono c.tr.ex⟩
            | raw x => exact so
          · rename_i hi
            obtain ⟨v, e1, so⟩ := c.env.ok i s e n
            exact ⟨v, by rw [wipe_get hi] at e1; exact e1, so⟩
        · rw [restore_get g1 gl] at h1 h2
          split at h1
          · rename_i hi
            split at h2
            · exact s1.env.dis i j es fs p h1 h2 e1 e2
            · rename_i hj
              exact (apart i es p hi h1 e1 (c.sub p ⟨j, fs, h2, by rw [wipe_get hj]; exact e2⟩)).elim
          · rename_i hi
            split at h2
            · rename_i hj
              exact (apart j fs p hj h2 e2 (c.sub p ⟨i, es, h1, by rw [wipe_get hi]; exact e1⟩)).elim
            · rename_i hj
              exact c.env.dis i j es fs p h1 h2 (by rw [wipe_get hi]; exact e1) (by rw [wipe_get hj]; exact e2)
        · rw [restore_get g1 gl] at h1
          split at h1
          · exact s1.env.ob i es p h1 e1
          · rename_i hi
            exact c.env.ob i es p h1 (by rw [wipe_get hi]; exact e1)
      refine q _ Hf' H' ⟨s1.tr.trans' c.tr fun p z => s1.sub p (own_wipe z), er, fun p z => s1.sub p (own_r p z)⟩ ⟨D, xs, rfl, s1.env.nb D hD, c.fz, hxs, rxs, fun z => ?_⟩ (fun _ _ p e => by cases e; exact s1.tr.stay _ hD)
      exact s1.env.own_none hD (own_r D z)
  · cases eq1
theorem ev_comp {scope : Scope} {own : List (Str × Nat)} {tg iter elt : Expr} {ifs : List Expr} {it : MI} {tm : Wv → Gh → Option Gh} {ts : MT} {el : ME} {pos : Pos} (hc : ∀ i, (F.X i).calm = true) (hN : ∀ i, (F.X i).N.Nodup) (ok : ∀ i, BlkOk (F.X i).N (F.X i).env.scope scope own)
    (hi : EvI F pr tg iter it) (hg : EvG (F.blk scope) pr (own.map (·.2)) tg tm) (ht : EvTs (F.blk scope) pr ifs ts) (he : Ev (F.blk scope) pr elt el) (hs : ∀ i, ∀ x, foldedSetIterable iter (F.X i).env x = pure x := by intro _ _; rfl) :
    Ev F pr (.ListComp elt [⟨tg, iter, ifs, 0⟩] scope pos) (mComp (own.map (·.2)) it tm ts el) := by
  intro B Hf H g σ w g' Q E eq q
  exact ⟨_, fun i => pe_lc (hc i) (hN i) (pi_U i) (ok i) (fun s H C cl fp => pg_U (F := F.blk scope) (i, s, H, C, cl, fp)) (fun s H C cl fp => pts_U (F := F.blk scope) (i, s, H, C, cl, fp)) (fun s H C cl fp => pe_U (F := F.blk scope) (i, s, H, C, cl, fp)) (hs i), comp_ok hi hg ht he E eq q⟩
end
end EV
end
section
set_option Elab.async false
set_option linter.all false
set_option maxRecDepth 100000
set_option maxHeartbeats 2000000
set_option autoImplicit false
namespace EV
open PySem PySem.Spec PyProof.Rows L2
section
variable {F : Fam} {pr : List Nat} {B : Addr → Prop} {Hf H Hf' H' Hf1 H1 Hf2 H2 : Hp} {g g' g1 g2 : Gh} {σ σ' σ1 σ2 : L2.St} {K : Frag}
/-! ### statements -/
theorem FlOk.step {D : Ends} {fl : Fl} : FlOk K B Hf H g σ D fl → FlOk K B Hf H g σ D fl := id
def sNil : MS := fun g => some (.nx, g)
def sSeq (f h : MS) : MS := fun g => (f g).bind fun a => match a.1 with
  | .nx => h a.2
  | fl => some (fl, a.2)
theorem ss_nil : EvSs F pr [] sNil := by
  intro B Hf H g σ fl g' D E eq q
  cases eq
  exact ⟨tNext, fun _ => pss_nil, q σ Hf H (SStp.refl E)⟩
theorem ss_one {st : Stmt} {f : MS} (h : EvS F pr st f) : EvSs F pr [st] f := by
  intro B Hf H g σ fl g' D E eq q
  exact ⟨US F st, fun i => pss_one (ps_U i), h B Hf H g σ fl g' D E eq q⟩
theorem ss_cons {st : Stmt} {r : List Stmt} {f h : MS} (h1 : EvS F pr st f) (h2 : EvSs F pr r h) : EvSs F pr (st :: r) (sSeq f h) := by
  intro B Hf H g σ fl g' D E eq q
  obtain ⟨⟨fl1, g1⟩, e1, eq1⟩ := Option.bind_eq_some_iff.mp eq
  refine ⟨tSeq (US F st) (USs F r), fun i => pss_cons (ps_U i) (pss_U i), ?_⟩
  refine h1 B Hf H g σ fl1 g1 _ E e1 fun σ1 Hf1 H1 s1 => ?_
  cases fl1 with
  | nx => exact h2 B Hf1 H1 g1 σ1 fl g' D s1.env eq1 fun σ2 Hf2 H2 s2 => q σ2 Hf2 H2 (s1.trans s2)
  | rt w => cases eq1; exact q σ1 Hf1 H1 s1
  | bk => cases eq1; exact q σ1 Hf1 H1 s1
  | ct => cases eq1; exact q σ1 Hf1 H1 s1
def sBrk : MS := fun g => some (.bk, g)
def sCnt : MS := fun g => some (.ct, g)
/-- code that is never come to -/
def sNo : MS := fun _ => none
theorem s_never {st : Stmt} : EvS F pr st sNo := by
  intro B Hf H g σ fl g' D E eq q
  cases eq
def sDrop (f : ME) : MS := fun g => (f g).bind fun a => some (.nx, a.2)
theorem s_expr {e : Expr} {f : ME} {pos : Pos} (h : Ev F pr e f) (hs : ∀ i, swapsWith e none pos.line (F.X i).env = pure false := by intro _; rfl) : EvS F pr (.Expr e pos) (sDrop f) := by
  intro B Hf H g σ fl g' D E eq q
  obtain ⟨⟨w, g1⟩, e1, eq1⟩ := Option.bind_eq_some_iff.mp eq
  cases eq1
  refine ⟨tDrop (U F e), fun i => ps_expr (pe_U i) (hs i), ?_⟩
  exact h B Hf H g σ w _ _ E e1 fun v Hf1 H1 s1 w1 y1 => q σ Hf1 H1 s1.s
def sRet (pr : List Nat) (f : ME) : MS := fun g => (f g).bind fun a => match a.1 with
  | .slot i => if pr.contains i then (toD (.slot i) a.2).bind fun r => some (.rt (.dat r.1), r.2) else match a.2[i]? with
    | some (.own ds) => some (.rt (.fresh ds), a.2.set i .un)
    | some (.val d) => some (.rt (.dat d), a.2)
    | _ => none
  | w => some (.rt w, a.2)
theorem s_ret {e : Expr} {f : ME} {pos : Pos} (h : Ev F pr e f) : EvS F pr (.Return (some e) pos) (sRet pr f) := by
  intro B Hf H g σ fl g' D E eq q
  obtain ⟨⟨w, g1⟩, e1, eq1⟩ := Option.bind_eq_some_iff.mp eq
  refine ⟨tRet (U F e), fun i => ps_ret (pe_U i), ?_⟩
  refine h B Hf H g σ w g1 _ E e1 fun v Hf1 H1 s1 w1 y1 => ?_
  cases w with
  | dat d => cases eq1; exact q σ Hf1 H1 s1.s v w1 (fun _ z => nomatch z)
  | fresh ds => cases eq1; exact q σ Hf1 H1 s1.s v w1 (fun _ z => nomatch z)
  | raw x => cases eq1; exact q σ Hf1 H1 s1.s v w1 (fun _ z => nomatch z)
  | slot i =>
    dsimp only at eq1
    split at eq1
    · obtain ⟨⟨d, g2⟩, e2, eq2⟩ := Option.bind_eq_some_iff.mp eq1
      cases eq2
      obtain ⟨Hf2, s2, r⟩ := s1.toD y1 w1 e2
      exact q σ Hf2 H1 s2.s v r (fun _ z => nomatch z)
    · rename_i hp
      cases hg : g1[i]? with
      | none => rw [hg] at eq1; cases eq1
      | some sl =>
        rw [hg] at eq1
        have w1 : σ[i]? = some (some v) := w1
        cases sl with
        | own ds =>
          cases eq1
          obtain ⟨p, us, e3, k1, k2, k3, ow⟩ := s1.env.own_val hg
          rw [w1] at e3; cases e3
          have hb : B p := by
            rcases s1.env.ob i ds p hg w1 with z | z
            · exact absurd (List.contains_iff_mem.mpr z) hp
            · exact z
          refine q σ Hf1 H1 ⟨s1.tr, s1.env.drop i, fun p z => .inl (s1.sub p (own_drop z)), fun _ _ => rfl⟩ _ ⟨p, us, rfl, hb, k2, k1, k3, s1.env.not_own_drop hg w1⟩ (fun _ z => nomatch z)
        | val d =>
          cases eq1
          obtain ⟨v', e3, r⟩ := s1.env.ok i _ hg (by simp)
          rw [w1] at e3; cases e3
          exact q σ Hf1 H1 s1.s v r (fun _ z => nomatch z)
        | un => cases eq1
        | raw x => cases eq1
def sRetN : MS := fun g => some (.rt (.dat .none), g)
def sIf (t : MT) (f h : MS) : MS := fun g => (t g).bind fun a => if a.1 = true then f a.2 else h a.2
theorem s_if {t : Expr} {a b : List Stmt} {ft : MT} {f h : MS} {pos : Pos} (ht : EvT F pr t ft) (ha : EvSs F pr a f) (hb : EvSs F pr b h) : EvS F pr (.If t a b pos) (sIf ft f h) := by
  intro B Hf H g σ fl g' D E eq q
  obtain ⟨⟨k, g1⟩, e1, eq1⟩ := Option.bind_eq_some_iff.mp eq
  refine ⟨tIfS (UT F t) (USs F a) (USs F b), fun i => ps_if (pt_U i) (pss_U i) (pss_U i), ?_⟩
  refine ht B Hf H g σ k g1 _ E e1 fun Hf1 H1 s1 => ?_
  cases k with
  | true => exact ha B Hf1 H1 g1 σ fl g' D s1.env eq1 fun σ2 Hf2 H2 s2 => q σ2 Hf2 H2 (s1.s.trans s2)
  | false => exact hb B Hf1 H1 g1 σ fl g' D s1.env eq1 fun σ2 Hf2 H2 s2 => q σ2 Hf2 H2 (s1.s.trans s2)
/-- x = e -/
def sSet (i : Nat) (f : ME) : MS := fun g => (f g).bind fun a => (setN i a.1 a.2).bind fun g' => some (.nx, g')
theorem set_sstp {w : Wv} {v : V} {vs : List Nat} (s : Stp K pr B Hf H g σ Hf1 H1 g1) (y : Yng H w v) (t : GStp K pr B vs w v Hf1 H1 g1 σ Hf2 H2 g2 σ2) : SStp K pr B Hf H g σ Hf2 H2 g2 σ2 :=
  ⟨s.tr.trans' t.tr s.sub, t.env, fun p z => by
    rcases t.sub p z with z | ⟨⟨ds, z⟩, z2⟩
    · exact .inl (s.sub p z)
    · exact .inr (y ds z p z2), t.prk⟩
theorem s_set (i : Nat) {x : Str} {e : Expr} {f : ME} {pos pos' : Pos} (h : Ev F pr e f) (hN : ∀ j, (F.X j).N.Nodup) (hi : ∀ j, (F.X j).N[i]? = some x := by intro _; rfl) (hx : ∀ j, Loc (F.X j).env.scope x := by intro _; first | exact Or.inl rfl | exact Or.inr rfl)
    (hs : ∀ j, swapsWith e (some (.Name x pos')) pos.line (F.X j).env = pure false := by intro _; rfl) (hf : ∀ j, (F.X j).fn x = true ∨ (F.X j).env.scope.names.lookup x = some .local := by intro _; first | exact .inl rfl | exact .inr rfl) (hp : i ∉ pr := by decide) :
    EvS F pr (.Assign [.Name x pos'] e pos) (sSet i f) := by
  intro B Hf H g σ fl g' D E eq q
  obtain ⟨⟨w, g1⟩, e1, eq1⟩ := Option.bind_eq_some_iff.mp eq
  obtain ⟨g2, e2, eq2⟩ := Option.bind_eq_some_iff.mp eq1
  cases eq2
  refine ⟨tAsg (U F e) (gName i), fun j => ps_set (hN j) (hi j) (hx j) (pe_U j) (hs j) (hf j), ?_⟩
  refine h B Hf H g σ w g1 _ E e1 fun v Hf1 H1 s1 w1 y1 => ?_
  obtain ⟨Hf2, t⟩ := setN_ok s1.env w1 e2 hp
  exact q _ Hf2 H1 (set_sstp s1 y1 t)
/-- y = [.. for ..], y a local: stored within -/
theorem s_setLc (i : Nat) {y : Str} {scope : Scope} {own : List (Str × Nat)} {tg iter elt : Expr} {ifs : List Expr} {it : MI} {tm : Wv → Gh → Option Gh} {ts : MT} {el : ME} {pos spos py : Pos} (hc : ∀ i, (F.X i).calm = true) (hN : ∀ i, (F.X i).N.Nodup) (ok : ∀ i, BlkOk (F.X i).N (F.X i).env.scope scope own)
    (hi : EvI F pr tg iter it) (hg : EvG (F.blk scope) pr (own.map (·.2)) tg tm) (ht : EvTs (F.blk scope) pr ifs ts) (he : Ev (F.blk scope) pr elt el)
    (hy : ∀ j, (F.X j).N[i]? = some y := by intro _; rfl) (hyl : ∀ j, (F.X j).env.scope.names.lookup y = some .local := by intro _; rfl) (hsw : ∀ j, swapsWith (.ListComp elt [⟨tg, iter, ifs, 0⟩] scope pos) (some (.Name y py)) spos.line (F.X j).env = pure true := by intro _; exact sw_true rfl rfl rfl (by decide +kernel))
    (hs : ∀ i, ∀ x, foldedSetIterable iter (F.X i).env x = pure x := by intro _ _; rfl) (hp : i ∉ pr := by decide) :
    EvS F pr (.Assign [.Name y py] (.ListComp elt [⟨tg, iter, ifs, 0⟩] scope pos) spos) (sSet i (mComp (own.map (·.2)) it tm ts el)) := by
  intro B Hf H g σ fl g' D E eq q
  obtain ⟨⟨w, g1⟩, e1, eq1⟩ := Option.bind_eq_some_iff.mp eq
  obtain ⟨g2, e2, eq2⟩ := Option.bind_eq_some_iff.mp eq1
  cases eq2
  refine ⟨_, fun j => ps_setLc (hc j) (hN j) (hy j) (hyl j) (hsw j) (pi_U j) (ok j) (fun s H C cl fp => pg_U (F := F.blk scope) (j, s, H, C, cl, fp)) (fun s H C cl fp => pts_U (F := F.blk scope) (j, s, H, C, cl, fp)) (fun s H C cl fp => pe_U (F := F.blk scope) (j, s, H, C, cl, fp)) (hs j), ?_⟩
  refine comp_ok (Q := fun x H1 => gName i x σ H1 D.nx) hi hg ht he E e1 fun v Hf1 H1 s1 w1 y1 => ?_
  obtain ⟨Hf2, t⟩ := setN_ok s1.env w1 e2 hp
  exact q _ Hf2 H1 (set_sstp s1 y1 t)
/-- target = e, a target of names -/
def sAsg (f : ME) (m : Wv → Gh → Option Gh) : MS := fun g => (f g).bind fun a => (m a.1 a.2).bind fun g' => some (.nx, g')
/-- a, b, .. = x, y, .. -/
def sPar (is : List Nat) (fa : MA) : MS := fun g => (fa g).bind fun a => (setNs is a.1 a.2).bind fun g' => some (.nx, g')
theorem par_sstp {ws : List Wv} {us : List V} {is : List Nat} (s : Stp K pr B Hf H g σ Hf1 H1 g1) (y : YAll H ws us) (E2 : En K pr B Hf1 H1 g2 σ2) (o : ∀ p, Own g2 σ2 p → Own g1 σ p ∨ ∃ (i : Nat) (ds : List Da), ws[i]? = some (.fresh ds) ∧ us[i]? = some (.ref p)) (pk : ∀ i ∈ pr, σ2[i]? = σ[i]?) : SStp K pr B Hf H g σ Hf1 H1 g2 σ2 :=
  ⟨s.tr, E2, fun p z => by
    rcases o p z with z | ⟨i, ds, z, z2⟩
    · exact .inl (s.sub p z)
    · refine .inr ?_
      have go : ∀ {ws : List Wv} {us : List V} {i : Nat}, YAll H ws us → ws[i]? = some (.fresh ds) → us[i]? = some (.ref p) → H p = none := by
        intro ws us i y
        induction y generalizing i with
        | nil => intro h; simp at h
        | cons a b ih =>
          intro h h2
          cases i with
          | zero => simp at h h2; exact a ds h p h2
          | succ i => exact ih (by simpa using h) (by simpa using h2)
      exact go y z z2, pk⟩
theorem s_par2 (i j : Nat) {x y : Str} {a b : Expr} {fa : MA} {px py pt pos : Pos} {kt k2 pt2} (ha : EvA F pr [a, b] fa) (hc : ∀ q, (F.X q).calm = true) (hN : ∀ q, (F.X q).N.Nodup) (hi : ∀ q, (F.X q).N[i]? = some x := by intro _; rfl) (hj : ∀ q, (F.X q).N[j]? = some y := by intro _; rfl) (hij : i ≠ j := by decide)
    (hx : ∀ q, (F.X q).env.scope.names.lookup x = some .local := by intro _; rfl) (hy : ∀ q, (F.X q).env.scope.names.lookup y = some .local := by intro _; rfl)
    (hw : ∀ q, swappedStores [.Tuple [.Name x px, .Name y py] kt pt] (.Tuple [a, b] k2 pt2) (F.X q).env = pure (some [x, y]) := by intro _; rfl)
    (hs : ∀ q, swapsWithSole [.Tuple [.Name x px, .Name y py] kt pt] (.Tuple [a, b] k2 pt2) pos.line (F.X q).env = pure false := by intro _; rfl) (hp : ∀ q ∈ [i, j], q ∉ pr := by decide) :
    EvS F pr (.Assign [.Tuple [.Name x px, .Name y py] kt pt] (.Tuple [a, b] k2 pt2) pos) (sPar [i, j] fa) := by
  intro B Hf H g σ fl g' D E eq q
  obtain ⟨⟨ws, g1⟩, e1, eq1⟩ := Option.bind_eq_some_iff.mp eq
  obtain ⟨g2, e2, eq2⟩ := Option.bind_eq_some_iff.mp eq1
  cases eq2
  refine ⟨tPar i j (UA F [a, b]), fun q => ps_par (hc q) (hN q) (hi q) (hj q) hij (hx q) (hy q) (pa_U q) (hw q) (hs q), ?_⟩
  refine ha B Hf H g σ ws g1 _ E e1 fun vs Hf1 H1 s1 w1 y1 => ?_
  have k := setNs_ok (D := fun σ' H' => D.nx σ' H') s1.env w1 e2 hp fun σ' E' o p2 t2 l2 => q σ' Hf1 H1 (par_sstp (is := [i, j]) s1 y1 E' o p2)
  obtain ⟨v, r, rfl, v2, r2, rfl, rfl, k⟩ := k
  exact ⟨v, v2, rfl, k⟩
theorem s_parT (is : List Nat) {es : List Expr} {tes : List Expr} {fa : MA} {pt pos : Pos} {kt k2 pt2} (ha : EvA F pr es fa) (hc : ∀ q, (F.X q).calm = true) (h : ∀ i, PGs (F.X i) tes (gNames is)) (hn : ∀ i, (assignEach tes (F.X i).env).length = is.length := by intro _; rfl) (hst : ∀ i, (assignEach tes (F.X i).env).findIdx? (·.1) = none := by intro _; rfl)
    (hs : ∀ j, swapsWithSole [.Tuple tes kt pt] (.Tuple es k2 pt2) pos.line (F.X j).env = pure false := by intro _; rfl) (hw : ∀ j, swappedStores [.Tuple tes kt pt] (.Tuple es k2 pt2) (F.X j).env = pure none := by intro _; rfl)
    (h1 : ∀ j, (assignEach [.Tuple tes kt pt] (F.X j).env).map (·.2) = [assign (.Tuple tes kt pt) (F.X j).env] := by intro _; rfl) (hp : ∀ q ∈ is, q ∉ pr := by decide) (hlen : is.length ≤ 1000 := by decide) :
    EvS F pr (.Assign [.Tuple tes kt pt] (.Tuple es k2 pt2) pos) (sPar is fa) := by
  intro B Hf H g σ fl g' D E eq q
  obtain ⟨⟨ws, g1⟩, e1, eq1⟩ := Option.bind_eq_some_iff.mp eq
  obtain ⟨g2, e2, eq2⟩ := Option.bind_eq_some_iff.mp eq1
  cases eq2
  refine ⟨tAsg (tTup (UA F es)) (gTup F.K is.length (gNames is)), fun j => ps_asg (pe_tup (pa_U j)) (by have z := pg_tup (hc j) (h j) (hn j) (hst j) (k := kt) (pos := pt); rw [F.hK j] at z; exact z) (hs j) (hw j) (h1 j), ?_⟩
  refine ha B Hf H g σ ws g1 _ E e1 fun vs Hf1 H1 s1 w1 y1 => ?_
  have hl : vs.length = is.length := (wall_len w1).symm.trans (setNs_len e2)
  refine ⟨Nat.le_trans (by rw [hl]; exact hlen) (by decide : 1000 ≤ sizeLine), fun p hp1 => ⟨p, vs, rfl, .inl (.inl upd_same), hl, ?_⟩⟩
  have s2 : Stp F.K pr B Hf1 H1 g1 σ Hf1 (upd H1 p (.tup vs)) g1 := ⟨Tr.mut hp1, s1.env.mut hp1, fun _ h => h⟩
  exact setNs_ok (D := fun σ' H' => D.nx σ' H') s2.env (w1.step s1.env s2) e2 hp fun σ' E' o p2 t2 l2 => q σ' Hf1 _ (par_sstp (is := is) (s1.trans s2) y1 E' o p2)
where
  wall_len {B : Addr → Prop} {Hf H : Hp} {g : Gh} {σ : L2.St} {ws : List Wv} {vs : List V} (h : WAll F.K B Hf H g σ ws vs) : ws.length = vs.length := by
    induction h with
    | nil => rfl
    | cons a b c ih => simp [ih]
  setNs_len : ∀ {is : List Nat} {ws : List Wv} {g g' : Gh}, setNs is ws g = some g' → ws.length = is.length
    | [], [], _, _, _ => rfl
    | i :: is, w :: ws, g, g', e => by
      obtain ⟨s, e1, e⟩ := Option.bind_eq_some_iff.mp (show ((slOf w).bind fun s => if i < g.length then setNs is ws (g.set i s) else none) = some g' from e)
      split at e
      · simp [setNs_len e]
      · cases e
    | [], _ :: _, _, _, e => by cases e
    | _ :: _, [], _, _, e => by cases e
/-! ### lists that a name owns -/
/-- an owned list changed -/
theorem En.change (E : En K pr B Hf H g σ) {i : Nat} {ds es : List Da} {p : Addr} {us : List V} (h : g[i]? = some (.own ds)) (e : σ[i]? = some (some (.ref p))) (r : RepAll K Hf us es) : En K pr B Hf (upd H p (.lst us)) (g.set i (.own es)) σ := by
  obtain ⟨p', vs', e1, h1, h2, h3, ow⟩ := E.own_val h
  rw [e] at e1; cases e1
  have n := E.not_own_drop h e
  have E1 := (E.drop i).put (o := .lst us) h2 n
  have E2 := E1.put_slot (i := i) (s := .own es) e ⟨p, us, rfl, h2, upd_same, r⟩ (fun ds' _ q z => by cases z; exact ⟨by rw [List.set_set]; exact n, E.ob i ds p h e⟩)
  rw [List.set_set] at E2
  exact E2
theorem own_change {i : Nat} {ds es : List Da} {p q : Addr} (h : g[i]? = some (.own ds)) (e : σ[i]? = some (some (.ref p))) (z : Own (g.set i (.own es)) σ q) : Own g σ q := by
  rcases own_put z with z | ⟨_, _, z⟩
  · exact own_drop z
  · rw [e] at z; cases z; exact ⟨i, ds, h, e⟩
theorem Stp.change (s : Stp K pr B Hf H g σ Hf1 H1 g1) {i : Nat} {ds es : List Da} {p : Addr} {us : List V} (h : g1[i]? = some (.own ds)) (e : σ[i]? = some (some (.ref p))) (r : RepAll K Hf1 us es) : Stp K pr B Hf H g σ Hf1 (upd H1 p (.lst us)) (g1.set i (.own es)) := by
  have ow : Own g σ p := s.sub p ⟨i, ds, h, e⟩
  refine ⟨⟨s.tr.ex, fun q o hq no => ?_, fun q hq => s.tr.stay q (upd_none hq)⟩, s.env.change h e r, fun q z => s.sub q (own_change h e z)⟩
  obtain ⟨k1, k2⟩ := s.tr.keep q o hq no
  exact ⟨by rw [upd_ne (fun z => no (by subst z; exact ow))]; exact k1, k2⟩
/-- xs.append(e) -/
def sApp (i : Nat) (f : ME) : MS := fun g => match g[i]? with
  | some (.own _) => (f g).bind fun a => (toD a.1 a.2).bind fun r => match r.2[i]? with
    | some (.own ds) => if ds.length < sizeLine then some (.nx, r.2.set i (.own (ds ++ [r.1]))) else none
    | _ => none
  | _ => none
theorem s_app (i : Nat) {x : Str} {e : Expr} {f : ME} {p1 p2 pos pos' : Pos} (h : Ev F pr e f) (hN : ∀ j, (F.X j).N[i]? = some x := by intro _; rfl) (hv : ∀ j, Vis (F.X j).env.scope x := by intro _; first | exact Or.inl rfl | exact Or.inr (Or.inl rfl) | exact Or.inr (Or.inr rfl))
    (hpe : ∀ (t : TE), (∀ j, PE (F.X j) e t) → ∀ j, PE (F.X j) (.Call (.Attribute (.Name x p1) "append" p2) [e] [] pos) (tBM (F.X j).K "list" rAppend (tVar i) (tCons t tNil)) := by
      intro t ht j
      exact pe_bm PySem.F.plainAttrs_list PySem.F.slot_list_append PySem.F.type_list_append mt_append (pv _) (pa_cons (ht j) pa_nil))
    (hs : ∀ j, swapsWith (.Call (.Attribute (.Name x p1) "append" p2) [e] [] pos) none pos'.line (F.X j).env = pure false := by intro _; rfl) : EvS F pr (.Expr (.Call (.Attribute (.Name x p1) "append" p2) [e] [] pos) pos') (sApp i f) := by
  intro B Hf H g σ fl g' D E eq q
  unfold sApp at eq
  split at eq
  · rename_i ds0 hg0
    obtain ⟨⟨w, g1⟩, e1, eq1⟩ := Option.bind_eq_some_iff.mp eq
    obtain ⟨⟨d, g2⟩, e2, eq2⟩ := Option.bind_eq_some_iff.mp eq1
    dsimp only at eq2
    split at eq2
    · rename_i ds hg
      split at eq2
      · rename_i hl
        cases eq2
        obtain ⟨p, us0, k0, k1, k2, k3, _⟩ := E.own_val hg0
        refine ⟨tDrop (tBM F.K "list" rAppend (tVar i) (tCons (U F e) tNil)), fun j => ps_expr (by have z := hpe (U F e) (fun j => pe_U j) j; rw [F.hK j] at z; exact z) (hs j), ?_⟩
        refine ⟨.ref p, k0, .inl ⟨rfl, _, .inl (.inl k1)⟩, ?_⟩
        refine h B Hf H g σ w g1 _ E e1 fun v Hf1 H1 s1 w1 y1 => ?_
        obtain ⟨Hf2, s2, r⟩ := s1.toD y1 w1 e2
        obtain ⟨p', us, k4, k5, k6, k7, _⟩ := s2.env.own_val hg
        rw [k0] at k4; cases k4
        refine ⟨p, us, v, rfl, rfl, k5, by rw [k7.length]; exact hl, ?_⟩
        exact q σ Hf2 _ (s2.change hg k0 (k7.append (.cons r .nil))).s
      · cases eq2
    · cases eq2
  · cases eq
/-- xs.pop(), its value dropped or taken -/
def mPop (i : Nat) : ME := fun g => match g[i]? with
  | some (.own ds) => (ds.getLast?).bind fun d => some (.dat d, g.set i (.own ds.dropLast))
  | _ => none
/-- xs[j] = e -/
def sSetIx (i : Nat) (f fi : ME) : MS := fun g => (f g).bind fun a => (toD a.1 a.2).bind fun r => match r.2[i]? with
  | some (.own _) => (fi r.2).bind fun b => (look b.1 b.2).bind fun y => match y, b.2[i]? with
    | .int k, some (.own ds) => (ixN ds.length k).bind fun j => some (.nx, b.2.set i (.own (ds.set j r.1)))
    | _, _ => none
  | _ => none
theorem s_setix (i : Nat) {x : Str} {e ie : Expr} {f fi : ME} {p1 tpos pos : Pos} (h : Ev F pr e f) (hi : Ev F pr ie fi) (hN : ∀ j, (F.X j).N[i]? = some x := by intro _; rfl) (hv : ∀ j, Vis (F.X j).env.scope x := by intro _; first | exact Or.inl rfl | exact Or.inr (Or.inl rfl) | exact Or.inr (Or.inr rfl))
    (hps : ∀ (t ti : TE), (∀ j, PE (F.X j) e t) → (∀ j, PE (F.X j) ie ti) → ∀ j, PS (F.X j) (.Assign [.Subscript (.Name x p1) ie tpos] e pos) (tAsg t (gSub (tVar i) ti rSetL)) := by
      intro t ti ht hti j
      exact ps_asg (ht j) (pg_sub (pv _) (hti j) set_list)) : EvS F pr (.Assign [.Subscript (.Name x p1) ie tpos] e pos) (sSetIx i f fi) := by
  intro B Hf H g σ fl g' D E eq q
  obtain ⟨⟨w, g1⟩, e1, eq1⟩ := Option.bind_eq_some_iff.mp eq
  obtain ⟨⟨d, g2⟩, e2, eq2⟩ := Option.bind_eq_some_iff.mp eq1
  dsimp only at eq2
  split at eq2
  · rename_i ds0 hg0
    obtain ⟨⟨wb, g3⟩, e3, eq3⟩ := Option.bind_eq_some_iff.mp eq2
    obtain ⟨y, e4, eq4⟩ := Option.bind_eq_some_iff.mp eq3
    dsimp only at eq4
    split at eq4
    · rename_i k ds hg
      obtain ⟨j, e5, eq5⟩ := Option.bind_eq_some_iff.mp eq4
      cases eq5
      refine ⟨tAsg (U F e) (gSub (tVar i) (U F ie) rSetL), fun q => hps _ _ (fun q => pe_U q) (fun q => pe_U q) q, ?_⟩
      refine h B Hf H g σ w g1 _ E e1 fun v Hf1 H1 s1 w1 y1 => ?_
      obtain ⟨Hf2, s2, r⟩ := s1.toD y1 w1 e2
      obtain ⟨p, us0, k0, k1, k2, k3, _⟩ := s2.env.own_val hg0
      refine ⟨.ref p, k0, ?_⟩
      refine hi B Hf2 H1 g2 σ wb _ _ s2.env e3 fun u Hf3 H3 s3 w3 y3 => ?_
      obtain ⟨p', us, k4, k5, k6, k7, _⟩ := s3.env.own_val hg
      rw [k0] at k4; cases k4
      have l := look_ok s3.env w3 e4
      have hu := RL.int (Hf := Hf3) l
      subst hu
      refine ⟨p, us, k, j, rfl, rfl, k5, by rw [k7.length]; exact e5, ?_⟩
      exact q σ Hf3 _ ((s2.trans s3).change hg k0 (k7.set j (r.mono s3.tr.ex))).s
    · cases eq4
  · cases eq2
/-- x += e, x -= e: ints -/
def sAug (i : Nat) (h : Int → Int → Int) (f : ME) : MS := fun g => match g[i]? with
  | some (.val (.int a)) => (f g).bind fun b => (look b.1 b.2).bind fun y => match y with
    | .int k => if i < b.2.length then some (.nx, b.2.set i (.val (.int (h a k)))) else none
    | _ => none
  | _ => none
/-! ### loops -/
def forL (tg : Wv → Gh → Option Gh) (body : MS) : List Da → Gh → Option (Fl × Gh)
  | [], g => some (.nx, g)
  | d :: ds, g => (tg (.dat d) g).bind fun g1 => (body g1).bind fun a => match a.1 with
    | .nx => forL tg body ds a.2
    | .ct => forL tg body ds a.2
    | .bk => some (.nx, a.2)
    | .rt w => some (.rt w, a.2)
def sFor (it : MI) (tg : Wv → Gh → Option Gh) (body : MS) : MS := fun g => (it g).bind fun a => forL tg body a.1 a.2
theorem s_for {tg iter : Expr} {body : List Stmt} {it : MI} {tm : Wv → Gh → Option Gh} {fb : MS} {vs : List Nat} {pos : Pos} (hp : ∀ i, PassesOwn (model (F.X i).prog (F.X i).w) (F.X i).A (F.X i).env (F.X i).xe) (hc : ∀ i, (F.X i).calm = true) (hi : EvI F pr tg iter it) (hg : EvG F pr vs tg tm) (hb : EvSs F pr body fb)
    (hs : ∀ i, ∀ x, foldedSetIterable iter (F.X i).env x = pure x := by intro _ _; rfl) : EvS F pr (.For tg iter body [] pos) (sFor it tm fb) := by
  intro B Hf H g σ fl g' D E eq q
  obtain ⟨⟨ds, g1⟩, e1, e2⟩ := Option.bind_eq_some_iff.mp eq
  refine ⟨tFor (UI F tg iter) (UG F tg) (USs F body), fun i => ps_for (hp i) (hc i) (pi_U i) (pg_U i) (pss_U i) (hs i), ?_⟩
  refine hi B Hf H g σ ds g1 _ E e1 fun J Hf1 H1 s1 wk => ?_
  let Pv : Nat → L2.St → Hp → Prop := fun i σ' H' => ∃ Hf' g'', SStp F.K pr B Hf H g σ Hf' H' g'' σ' ∧ Evl.Ex Hf1 Hf' ∧ forL tm fb (ds.drop i) g'' = some (fl, g')
  refine ⟨fun i m σ' H' => m = ds.length - i ∧ i ≤ ds.length ∧ Pv i σ' H', ⟨ds.length, by simp, Nat.zero_le _, Hf1, g1, s1.s, Evl.Ex.refl _, by rw [List.drop_zero]; exact e2⟩, ?_⟩
  rintro i m σ' H' ⟨rfl, hi', Hf', g'', s, ex, er⟩
  obtain ⟨go, stop, yld⟩ := wk Hf' H' ex s.env.ex
  by_cases hlt : i < ds.length
  · refine .inr ⟨go i hlt, Pv (i + 1), fun σ2 H2 p => ⟨ds.length - (i + 1), by omega, rfl, hlt, p⟩, fun x H'' y => ?_⟩
    have hd : ds[i]? = some ds[i] := by simp [hlt]
    rw [List.drop_eq_getElem_cons hlt] at er
    obtain ⟨Hf2, t2, en2, rx⟩ := yld i _ x H'' hd y
    have E2 := en2 pr B g'' σ' s.env
    obtain ⟨gt, k1, er1⟩ := Option.bind_eq_some_iff.mp (show ((tm (.dat ds[i]) g'').bind _) = some (fl, g') from er)
    obtain ⟨⟨f1, gb⟩, k2, er2⟩ := Option.bind_eq_some_iff.mp er1
    refine hg B Hf2 H'' g'' σ' (.dat ds[i]) x gt _ E2 rx k1 fun σ3 Hf3 H3 s3 => ?_
    have T3 : SStp F.K pr B Hf H g σ Hf3 H3 gt σ3 := by
      refine s.trans (⟨(t2.wide (fun _ z => z.elim)).trans' s3.tr (fun _ z => z), s3.env, fun p z => ?_, s3.prk⟩ : SStp F.K pr B Hf' H' g'' σ' Hf3 H3 gt σ3)
      rcases s3.sub p z with z | ⟨⟨_, z⟩, _⟩
      · exact .inl z
      · cases z
    have x3 : Evl.Ex Hf1 Hf3 := ex.trans (t2.ex.trans s3.tr.ex)
    refine hb B Hf3 H3 gt σ3 f1 gb _ s3.env k2 fun σ4 Hf4 H4 s4 => ?_
    have T4 := T3.trans s4
    have x4 := x3.trans s4.tr.ex
    cases f1 with
    | nx => exact ⟨Hf4, gb, T4, x4, er2⟩
    | ct => exact ⟨Hf4, gb, T4, x4, er2⟩
    | bk => cases er2; exact q σ4 Hf4 H4 T4
    | rt w => cases er2; exact q σ4 Hf4 H4 T4
  · have e : i = ds.length := by omega
    subst e
    rw [List.drop_length] at er
    cases er
    exact .inl ⟨stop, q σ' Hf' H' s⟩
def whileL (t : MT) (body : MS) : Nat → Gh → Option (Fl × Gh)
  | 0, _ => none
  | n + 1, g => (t g).bind fun b => if b.1 = true then (body b.2).bind fun a => match a.1 with
      | .nx => whileL t body n a.2
      | .ct => whileL t body n a.2
      | .bk => some (.nx, a.2)
      | .rt w => some (.rt w, a.2)
    else some (.nx, b.2)
def sWhile (n : Nat) (t : MT) (body : MS) : MS := whileL t body n
theorem s_while (n : Nat) {c : Expr} {body : List Stmt} {ft : MT} {fb : MS} {pos : Pos} (hp : ∀ i, PassesOwn (model (F.X i).prog (F.X i).w) (F.X i).A (F.X i).env (F.X i).xe) (ht : EvT F pr c ft) (hb : EvSs F pr body fb) : EvS F pr (.While c body [] pos) (sWhile n ft fb) := by
  intro B Hf H g σ fl g' D E eq q
  refine ⟨tWhile (UT F c) (USs F body), fun i => ps_while (hp i) (pt_U i) (pss_U i), ?_⟩
  refine ⟨fun m σ' H' => ∃ Hf' g'', SStp F.K pr B Hf H g σ Hf' H' g'' σ' ∧ whileL ft fb m g'' = some (fl, g'), ⟨n, Hf, g, SStp.refl E, eq⟩, ?_⟩
  rintro m σ' H' ⟨Hf', g'', s, er⟩
  cases m with
  | zero => cases er
  | succ m =>
    obtain ⟨⟨b, g1⟩, k1, er1⟩ := Option.bind_eq_some_iff.mp (show ((ft g'').bind _) = some (fl, g') from er)
    refine ht B Hf' H' g'' σ' b g1 _ s.env k1 fun Hf1 H1 s1 => ?_
    have T1 := s.trans s1.s
    cases b with
    | false => cases er1; exact q σ' Hf1 H1 T1
    | true =>
      rw [if_pos rfl]
      dsimp only at er1
      rw [if_pos rfl] at er1
      obtain ⟨⟨f1, gb⟩, k2, er2⟩ := Option.bind_eq_some_iff.mp er1
      refine ⟨fun σ2 H2 => ∃ Hf2 g2, SStp F.K pr B Hf H g σ Hf2 H2 g2 σ2 ∧ whileL ft fb m g2 = some (fl, g'), fun σ2 H2 p => ⟨m, Nat.lt_succ_self _, p⟩, ?_⟩
      refine hb B Hf1 H1 g1 σ' f1 gb _ s1.env k2 fun σ4 Hf4 H4 s4 => ?_
      have T4 := T1.trans s4
      cases f1 with
      | nx => exact ⟨Hf4, gb, T4, er2⟩
      | ct => exact ⟨Hf4, gb, T4, er2⟩
      | bk => cases er2; exact q σ4 Hf4 H4 T4
      | rt w => cases er2; exact q σ4 Hf4 H4 T4
end
end EV
end
section
set_option Elab.async false
set_option linter.all false
set_option maxRecDepth 100000
set_option maxHeartbeats 2000000
set_option autoImplicit false
namespace EV
open PySem PySem.Spec PyProof.Rows L2
section
variable {F : Fam} {pr : List Nat} {B : Addr → Prop} {Hf H Hf' H' Hf1 H1 Hf2 H2 : Hp} {g g' g1 g2 : Gh} {σ σ' σ1 σ2 : L2.St} {K : Frag} {O : Addr → Prop}
/-! ### what a def promises -/
abbrev MF := Gh → Option (Wv × Gh)
def spM (K : Frag) (n : Nat) (pr : List Nat) (m : MF) : Sp := fun vs H Q _ => vs.length = n ∧ ∃ Hf G w G', En K pr (fun p => H p = none) Hf H G (vs.map some) ∧ (∀ i ∈ pr, ∃ ds, G[i]? = some (.own ds)) ∧ m G = some (w, G') ∧
  ∀ v Hf' H', Stp K pr (fun p => H p = none) Hf H G (vs.map some) Hf' H' G' → WOk K (fun p => H p = none) Hf' H' G' (vs.map some) w v → (∀ i, w ≠ .slot i) → Q v H'
def keepArgs (pr : List Nat) (g0 g1 : Gh) : Gh := g0.mapIdx fun i s => if pr.contains i then g1[i]?.getD .un else s
def bodyM (pr : List Nat) (n : Nat) (f : MS) : MF := fun G => (f (G ++ List.replicate n .un)).bind fun a => match a.1 with
  | .rt w => some (w, keepArgs pr G a.2)
  | .nx => some (.dat .none, keepArgs pr G a.2)
  | _ => none
theorem keep_get {g0 g1 : Gh} {i : Nat} {s : Sl} (h : (keepArgs pr g0 g1)[i]? = some s) (n : s ≠ .un) : (i ∈ pr ∧ g1[i]? = some s) ∨ (i ∉ pr ∧ g0[i]? = some s) := by
  unfold keepArgs at h
  rw [List.getElem?_mapIdx] at h
  cases e : g0[i]? with
  | none => rw [e] at h; cases h
  | some s0 =>
    rw [e] at h
    have h : (if pr.contains i = true then g1[i]?.getD .un else s0) = s := Option.some.inj h
    by_cases c : pr.contains i = true
    · rw [if_pos c] at h
      refine .inl ⟨List.contains_iff_mem.mp c, ?_⟩
      cases e2 : g1[i]? with
      | none => rw [e2] at h; exact absurd h.symm n
      | some s1 => rw [e2] at h; exact congrArg some h
    · rw [if_neg c] at h
      exact .inr ⟨fun z => c (List.contains_iff_mem.mpr z), congrArg some h⟩
theorem start_get {N : List Str} {vs : List V} {i : Nat} {v : V} (h : (L2.start N vs)[i]? = some (some v)) : vs[i]? = some v := by
  unfold L2.start at h
  by_cases hi : i < vs.length
  · rw [List.getElem?_append_left (by simpa using hi), List.getElem?_map] at h
    cases e : vs[i]? with
    | none => rw [e] at h; cases h
    | some a => rw [e] at h; cases h; rfl
  · rw [List.getElem?_append_right (by simpa using hi), List.getElem?_replicate] at h
    split at h <;> cases h
theorem start_of {N : List Str} {vs : List V} {i : Nat} {o : Option V} (h : (vs.map some)[i]? = some o) : (L2.start N vs)[i]? = some o := by
  unfold L2.start
  rw [List.getElem?_append_left (lt_of_get h)]
  exact h
theorem map_get {vs : List V} {i : Nat} {v : V} (h : vs[i]? = some v) : (vs.map some)[i]? = some (some v) := by
  rw [List.getElem?_map, h]; rfl
theorem def_ok {P : Program} {w : World} {mg : Str → Option Value} {base : Heap} {x qual : Str} {st : Stmt} {f : Addr} {fd : FuncData} {N ps : List Str} {k n : Nat} {m : MS} (Fu : Fun K x qual st f fd) (S : FnScope N ps (defScope st))
    (hn : N.length = ps.length + n) (hb : ∀ (cdv : Value) (A : Around) (outer : List PySem.Env) (s : Shared) (H : Hp) (E : XK), Room k (A.deeper (envOfC qual (defScope st) s.heap.objs.size f cdv)) →
      EvSs (Fam.one (cxOf CX0 P w K mg base N qual (defScope st) f cdv A outer s H E).nox) pr (defBody st) m) : FnOk P w K mg base CX0 (k + 1) f fd ps (spM K ps.length pr (bodyM pr n m)) := by
  refine Fu.ok S (fun vs H Q E h => h.1) fun cdv A outer s H vs Q E hr h => ?_
  obtain ⟨hl, Hf, G, w, G', En0, hown, em, q⟩ := h
  obtain ⟨⟨fl, g2⟩, e1, e2⟩ := Option.bind_eq_some_iff.mp em
  have lenG : G.length = vs.length := by have := En0.len; rwa [List.length_map] at this
  have ga : ∀ {i : Nat} {sl : Sl}, (G ++ List.replicate n Sl.un)[i]? = some sl → sl ≠ .un → G[i]? = some sl := fun {i sl} h1 h2 => by
    by_cases hi : i < G.length
    · rwa [List.getElem?_append_left hi] at h1
    · rw [List.getElem?_append_right (by omega), List.getElem?_replicate] at h1
      split at h1
      · cases h1; exact absurd rfl h2
      · cases h1
  have E1 : En K pr (fun p => H p = none) Hf H (G ++ List.replicate n .un) (L2.start N vs) := by
    refine ⟨En0.ex, ?_, fun i sl h1 h2 => ?_, fun i j ds es p h1 h2 k1 k2 => ?_, En0.nb, fun i ds p h1 k1 => ?_⟩
    · unfold L2.start
      rw [List.length_append, List.length_append, List.length_map, List.length_replicate, List.length_replicate]; omega
    · obtain ⟨v, e, so⟩ := En0.ok i sl (ga h1 h2) h2
      exact ⟨v, start_of e, so⟩
    · exact En0.dis i j ds es p (ga h1 (by simp)) (ga h2 (by simp)) (map_get (start_get k1)) (map_get (start_get k2))
    · exact En0.ob i ds p (ga h1 (by simp)) (map_get (start_get k1))
  have ow : ∀ p, Own (G ++ List.replicate n .un) (L2.start N vs) p → Own G (vs.map some) p := fun p ⟨i, ds, h1, h2⟩ => ⟨i, ds, ga h1 (by simp), map_get (start_get h2)⟩
  have fin : ∀ σ' Hf' H', SStp K pr (fun p => H p = none) Hf H (G ++ List.replicate n .un) (L2.start N vs) Hf' H' g2 σ' → Stp K pr (fun p => H p = none) Hf H G (vs.map some) Hf' H' (keepArgs pr G g2) ∧ ∀ p, Own (keepArgs pr G g2) (vs.map some) p → Own g2 σ' p := fun σ' Hf' H' s => by
    -- the slots that are handed on stand as they stood
    have at_ : ∀ {i : Nat} {v : V}, i ∈ pr → (vs.map some)[i]? = some (some v) → σ'[i]? = some (some v) := fun {i v} hi e => (s.prk i hi).trans (start_of e)
    have noown : ∀ (i : Nat) ds, i ∉ pr → G[i]? = some (.own ds) → False := fun i ds hi h => by
      obtain ⟨p, us, k0, k1, _⟩ := En0.own_val h
      rcases En0.ob i ds p h k0 with z | z
      · exact hi z
      · rw [k1] at z; cases z
    have o2 : ∀ p, Own (keepArgs pr G g2) (vs.map some) p → Own g2 σ' p := fun p ⟨i, ds, h1, h2⟩ => by
      rcases keep_get h1 (by simp) with ⟨hi, h3⟩ | ⟨hi, h3⟩
      · exact ⟨i, ds, h3, at_ hi h2⟩
      · exact (noown i ds hi h3).elim
    refine ⟨⟨⟨s.tr.ex, fun p o hp no => s.tr.keep p o hp fun z => no (ow p z), s.tr.stay⟩, ⟨s.env.ex, ?_, fun i sl h1 h2 => ?_, fun i j ds es p h1 h2 k1 k2 => ?_, s.env.nb, fun i ds p h1 k1 => ?_⟩, fun p z => ?_⟩, o2⟩
    · unfold keepArgs
      rw [List.length_mapIdx]; exact En0.len
    · rcases keep_get h1 h2 with ⟨hi, h3⟩ | ⟨hi, h3⟩
      · obtain ⟨ds0, hg⟩ := hown i hi
        obtain ⟨p, us, k0, _⟩ := En0.own_val hg
        obtain ⟨v, e, so⟩ := s.env.ok i sl h3 h2
        rw [at_ hi k0] at e; cases e
        exact ⟨_, k0, so⟩
      · obtain ⟨v, e, so⟩ := En0.ok i sl h3 h2
        refine ⟨v, e, ?_⟩
        cases sl with
        | un => trivial
        | val d => exact Rep.mono s.tr.ex so
        | own ds => exact (noown i ds hi h3).elim
        | raw x => exact so
    · rcases keep_get h1 (by simp) with ⟨hi, h3⟩ | ⟨hi, h3⟩
      · rcases keep_get h2 (by simp) with ⟨hj, h4⟩ | ⟨hj, h4⟩
        · exact s.env.dis i j ds es p h3 h4 (at_ hi k1) (at_ hj k2)
        · exact (noown j es hj h4).elim
      · exact (noown i ds hi h3).elim
    · rcases keep_get h1 (by simp) with ⟨hi, h3⟩ | ⟨hi, h3⟩
      · exact .inl hi
      · exact (noown i ds hi h3).elim
    · obtain ⟨i, ds, h1, h2⟩ := z
      rcases keep_get h1 (by simp) with ⟨hi, h3⟩ | ⟨hi, h3⟩
      · rcases s.sub p ⟨i, ds, h3, at_ hi h2⟩ with z | z
        · exact ow p z
        · obtain ⟨ds0, hg⟩ := hown i hi
          obtain ⟨p', us, k0, k1, _⟩ := En0.own_val hg
          rw [k0] at h2; cases h2
          rw [k1] at z; cases z
      · exact (noown i ds hi h3).elim
  have wk : ∀ {σ' : L2.St} {Hf' H' : Hp} {w' : Wv} {v : V}, (∀ p, Own (keepArgs pr G g2) (vs.map some) p → Own g2 σ' p) → WOk K (fun p => H p = none) Hf' H' g2 σ' w' v → (∀ i, w' ≠ .slot i) → WOk K (fun p => H p = none) Hf' H' (keepArgs pr G g2) (vs.map some) w' v := fun {σ' Hf' H' w' v} o2 h hs => by
    cases w' with
    | dat d => exact h
    | fresh ds =>
      obtain ⟨p, us, rfl, hb, hf, hq, r, no⟩ := h
      exact ⟨p, us, rfl, hb, hf, hq, r, fun z => no (o2 p z)⟩
    | slot i => exact absurd rfl (hs i)
    | raw x => exact h
  have body := hb cdv A outer s H E hr (fun p => H p = none) Hf H _ (L2.start N vs) fl g2 { nx := fun _ H' => Q .non H', rt := Q } E1 e1 fun σ' Hf' H' s => by
    obtain ⟨s2, o2⟩ := fin σ' Hf' H' s
    cases fl with
    | nx => cases e2; exact q .non Hf' H' s2 .non (fun _ z => nomatch z)
    | rt w' => cases e2; exact fun v h hs => q v Hf' H' s2 (wk o2 h hs) hs
    | bk => cases e2
    | ct => cases e2
  obtain ⟨t, ht, hq⟩ := body
  exact ⟨t, ht (), hq⟩
/-! ### calls -/
theorem En.step (E : En K pr B Hf H g σ) (t : Tr O Hf H Hf' H') (no : ∀ p, Own g σ p → ¬ O p) (ex : Evl.Ex Hf' H') : En K pr B Hf' H' g σ where
  ex := ex
  len := E.len
  ok := fun i s e n => by
    obtain ⟨v, e1, s1⟩ := E.ok i s e n
    refine ⟨v, e1, ?_⟩
    cases s with
    | un => trivial
    | val d => exact Rep.mono t.ex s1
    | own ds =>
      obtain ⟨q, vs, rfl, h1, h2, h3⟩ := s1
      obtain ⟨k1, k2⟩ := t.keep q _ h2 (no q ⟨i, ds, e, e1⟩)
      exact ⟨q, vs, rfl, k2.trans h1, k1, h3.mono t.ex⟩
    | raw w => exact s1
  dis := E.dis
  nb := fun p h => E.nb p (t.stay p h)
  ob := E.ob
/-- arguments that are handed on as data -/
def toSls : List Wv → Gh → Option (List Sl × Gh)
  | [], g => some ([], g)
  | .raw v :: ws, g => (toSls ws g).bind fun b => some (.raw v :: b.1, b.2)
  | w :: ws, g => (toD w g).bind fun a => (toSls ws a.2).bind fun b => some (.val a.1 :: b.1, b.2)
/-- the slots of a callee: data alone -/
inductive SlAll (K : Frag) (Hf : Hp) : List Sl → List V → Prop
  | nil : SlAll K Hf [] []
  | val {d : Da} {v : V} {ss : List Sl} {vs : List V} : Rep K Hf v d → SlAll K Hf ss vs → SlAll K Hf (.val d :: ss) (v :: vs)
  | raw {v : V} {ss : List Sl} {vs : List V} : SlAll K Hf ss vs → SlAll K Hf (.raw v :: ss) (v :: vs)
theorem SlAll.mono (e : Evl.Ex Hf Hf') : ∀ {ss : List Sl} {vs : List V}, SlAll K Hf ss vs → SlAll K Hf' ss vs
  | _, _, .nil => .nil
  | _, _, .val a b => .val (a.mono e) (SlAll.mono e b)
  | _, _, .raw b => .raw (SlAll.mono e b)
theorem SlAll.len : ∀ {ss : List Sl} {vs : List V}, SlAll K Hf ss vs → ss.length = vs.length
  | _, _, .nil => rfl
  | _, _, .val _ b => by simp [SlAll.len b]
  | _, _, .raw b => by simp [SlAll.len b]
theorem SlAll.get : ∀ {ss : List Sl} {vs : List V} {i : Nat} {s : Sl}, SlAll K Hf ss vs → ss[i]? = some s → ∃ v, vs[i]? = some v ∧ SlotOk K Hf H s v ∧ ∀ ds, s ≠ .own ds
  | _, _, _, _, .nil, h => by simp at h
  | _, _, 0, _, .val a b, h => by simp at h; subst h; exact ⟨_, rfl, a, fun _ z => nomatch z⟩
  | _, _, 0, _, .raw b, h => by simp at h; subst h; exact ⟨_, rfl, rfl, fun _ z => nomatch z⟩
  | _, _, i + 1, _, .val a b, h => by
    obtain ⟨v, e, r⟩ := SlAll.get b (i := i) (by simpa using h)
    exact ⟨v, by simpa using e, r⟩
  | _, _, i + 1, _, .raw b, h => by
    obtain ⟨v, e, r⟩ := SlAll.get b (i := i) (by simpa using h)
    exact ⟨v, by simpa using e, r⟩
theorem toSls_ok : ∀ {ws : List Wv} {vs : List V} {ss : List Sl} {Hf1 : Hp} {g1 g' : Gh}, Stp K pr B Hf H g σ Hf1 H1 g1 → WAll K B Hf1 H1 g1 σ ws vs → YAll H ws vs → toSls ws g1 = some (ss, g') →
    ∃ Hf', Stp K pr B Hf H g σ Hf' H1 g' ∧ Evl.Ex Hf1 Hf' ∧ SlAll K Hf' ss vs
  | _, _, ds, Hf1, g1, g2, s, .nil, _, e => by cases e; exact ⟨Hf1, s, Evl.Ex.refl _, .nil⟩
  | _, _, ds, Hf1, g1, g3, s, @WAll.cons _ _ _ _ _ _ w v ws vs a b c, .cons y ys, e => by
    have dat : ∀ (_ : (toD w g1).bind (fun a => (toSls ws a.2).bind fun b => some (Sl.val a.1 :: b.1, b.2)) = some (ds, g3)), ∃ Hf', Stp K pr B Hf H g σ Hf' H1 g3 ∧ Evl.Ex Hf1 Hf' ∧ SlAll K Hf' ds (v :: vs) := fun e => by
      obtain ⟨⟨d, g2⟩, e1, e⟩ := Option.bind_eq_some_iff.mp e
      obtain ⟨⟨ds', g4⟩, e2, e⟩ := Option.bind_eq_some_iff.mp e
      cases e
      obtain ⟨Hf2, E2, r, ex, sb, k⟩ := toD_ok s.env a e1
      have s2 : Stp K pr B Hf H g σ Hf2 H1 g2 := by
        refine ⟨⟨s.tr.ex.trans ex, fun p o hp no => ?_, s.tr.stay⟩, E2, fun p z => s.sub p (sb p z)⟩
        obtain ⟨k1, k2⟩ := s.tr.keep p o hp no
        refine ⟨k1, ?_⟩
        rcases k p o k1 (fun z => no (s.sub p z)) with z | ⟨⟨es, z⟩, z2⟩
        · exact z.trans k2
        · have := y es z p z2
          rw [hp] at this; cases this
      obtain ⟨Hf', s3, ex3, r3⟩ := toSls_ok s2 (WAll.frz ex sb k c b) ys e2
      exact ⟨Hf', s3, ex.trans ex3, .val (r.mono ex3) r3⟩
    cases w with
    | raw x =>
      obtain ⟨⟨ss', g4⟩, e2, e⟩ := Option.bind_eq_some_iff.mp (show ((toSls ws g1).bind fun b => some (Sl.raw x :: b.1, b.2)) = some (ds, g3) from e)
      cases e
      have a : v = x := a
      subst a
      obtain ⟨Hf', s3, ex3, r3⟩ := toSls_ok s c ys e2
      exact ⟨Hf', s3, ex3, .raw r3⟩
    | dat d => exact dat e
    | fresh es => exact dat e
    | slot i => exact dat e
/-- a call of a def whose arguments are data -/
def mFn (m : MF) (fa : MA) : ME := fun g => (fa g).bind fun a => (toSls a.1 a.2).bind fun r => (m r.1).bind fun c => some (c.1, r.2)
theorem yall_len : ∀ {ws : List Wv} {vs : List V}, YAll H ws vs → ws.length = vs.length
  | _, _, .nil => rfl
  | _, _, .cons a b => by simp [yall_len b]
theorem fn_core {n : Nat} {m : MF} {ws : List Wv} {vs : List V} {ss : List Sl} {wc : Wv} {gc : Gh} {Q : VK} {E : XK} (s1 : Stp F.K pr B Hf H g σ Hf1 H1 g1) (w1 : WAll F.K B Hf1 H1 g1 σ ws vs) (y1 : YAll H ws vs) (e2 : toSls ws g1 = some (ss, g2)) (hl : ws.length = n) (e3 : m ss = some (wc, gc))
    (q : ∀ v Hf' H', Stp F.K pr B Hf H g σ Hf' H' g2 → WOk F.K B Hf' H' g2 σ wc v → Yng H wc v → Q v H') : spM F.K n [] m vs H1 Q E := by
  obtain ⟨Hf2, s2, _, sa⟩ := toSls_ok s1 w1 y1 e2
  have noown : ∀ (i : Nat) ds, ss[i]? = some (.own ds) → False := fun i ds h => by
    obtain ⟨v, _, _, no⟩ := SlAll.get (H := H1) sa h
    exact no ds rfl
  refine ⟨by rw [← yall_len y1]; exact hl, Hf2, ss, wc, gc, ⟨s2.env.ex, by rw [List.length_map]; exact sa.len, fun i s h _ => ?_, fun i j ds es p h1 => (noown i ds h1).elim, fun p h => h, fun i ds p h1 => (noown i ds h1).elim⟩, fun i hi => absurd hi (by simp), e3, fun v Hf' H' sc wk ns => ?_⟩
  · obtain ⟨v, e, so, _⟩ := SlAll.get (H := H1) sa h
    exact ⟨v, map_get e, so⟩
  · have no : ∀ p, ¬ Own ss (vs.map some) p := fun p ⟨i, ds, h1, _⟩ => noown i ds h1
    have E3 : En F.K pr B Hf' H' g2 σ := s2.env.step sc.tr (fun p _ => no p) sc.env.ex
    have s3 : Stp F.K pr B Hf H g σ Hf' H' g2 := ⟨s2.tr.trans' (sc.tr.wide (O1 := Own g2 σ) fun p z => (no p z).elim) s2.sub, E3, s2.sub⟩
    refine q v Hf' H' s3 ?_ ?_
    · cases wc with
      | dat d => exact wk
      | fresh ds =>
        obtain ⟨p, us, rfl, hb, hf, hq, r, n'⟩ := wk
        exact ⟨p, us, rfl, s2.env.nb p hb, hf, hq, r, s2.env.own_none hb⟩
      | slot i => exact absurd rfl (ns i)
      | raw x => exact wk
    · intro ds e p e'
      subst e
      obtain ⟨p', us, e'', hb, _⟩ := wk
      rw [e'] at e''; cases e''
      exact s2.tr.stay _ hb
theorem fn_ok {es : List Expr} {fa : MA} {n : Nat} {m : MF} (ha : EvA F pr es fa) (hn : ∀ g ws g', fa g = some (ws, g') → ws.length = n) {w : Wv} {Q : VK} {E : XK} (En0 : En F.K pr B Hf H g σ) (eq : mFn m fa g = some (w, g'))
    (q : ∀ v Hf' H', Stp F.K pr B Hf H g σ Hf' H' g' → WOk F.K B Hf' H' g' σ w v → Yng H w v → Q v H') : tCall (spM F.K n [] m) [] E (UA F es) σ H Q := by
  obtain ⟨⟨ws, g1⟩, e1, eq1⟩ := Option.bind_eq_some_iff.mp eq
  obtain ⟨⟨ss, g2⟩, e2, eq2⟩ := Option.bind_eq_some_iff.mp eq1
  obtain ⟨⟨wc, gc⟩, e3, eq3⟩ := Option.bind_eq_some_iff.mp eq2
  cases eq3
  refine ha B Hf H g σ ws g1 _ En0 e1 fun vs Hf1 H1 s1 w1 y1 => ?_
  rw [List.append_nil]
  exact fn_core s1 w1 y1 e2 (hn g ws g1 e1) e3 q
theorem ev_fn {x : Str} {e : Expr} {es : List Expr} {fa : MA} {n k : Nat} {m : MF} {f : Addr} {fd : FuncData} {ps : List Str} {p pos : Pos} (FO : ∀ i, FnOk (F.X i).prog (F.X i).w (F.X i).K (F.X i).mg (F.X i).base CX0 k f fd ps (spM F.K n [] m)) (hr : ∀ i, Room k (F.X i).A) (hm : ∀ i, (F.X i).mg x = some (.ref f)) (hk : ∀ i, PySem.W.keepIn (F.X i).K (.ref f) = true) (hb : ∀ i, Binds (F.X i).K fd ps [])
    (ha : EvA F pr (e :: es) fa) (hn : ∀ g ws g', fa g = some (ws, g') → ws.length = n) (hg : ∀ i, Gl (F.X i) x := by intro _; rfl) (hdb : (x == ("__debug__" : Str)) = false := by decide)
    (he : ∀ i, starEach (e :: es) (F.X i).env = (false, eval e (F.X i).env) :: starEach es (F.X i).env := by intro _; rfl) (hpl : ∀ i, (backTo pos (starEach es (F.X i).env)).any (·.1) = false := by intro _; rfl) : Ev F pr (.Call (.Name x p) (e :: es) [] pos) (mFn m fa) := by
  intro B Hf H g σ w g' Q E eq q
  exact ⟨_, fun i => pe_call (FO i) (hr i) (hg i) (hm i) (hk i) (hb i) .nil pass0 (pa_U i) hdb (he i) (hpl i), fn_ok ha hn E eq q⟩
def mFn0 (m : MF) : ME := fun g => (m []).bind fun c => some (c.1, g)
theorem ev_fn0 {x : Str} {k : Nat} {m : MF} {f : Addr} {fd : FuncData} {ps : List Str} {p pos : Pos} (FO : ∀ i, FnOk (F.X i).prog (F.X i).w (F.X i).K (F.X i).mg (F.X i).base CX0 k f fd ps (spM F.K 0 [] m)) (hr : ∀ i, Room k (F.X i).A) (hm : ∀ i, (F.X i).mg x = some (.ref f)) (hk : ∀ i, PySem.W.keepIn (F.X i).K (.ref f) = true) (hb : ∀ i, Binds (F.X i).K fd ps [])
    (hg : ∀ i, Gl (F.X i) x := by intro _; rfl) (hdb : (x == ("__debug__" : Str)) = false := by decide) : Ev F pr (.Call (.Name x p) [] [] pos) (mFn0 m) := by
  intro B Hf H g σ w g' Q E eq q
  obtain ⟨⟨wc, gc⟩, e3, eq3⟩ := Option.bind_eq_some_iff.mp eq
  cases eq3
  refine ⟨_, fun i => pe_call0 (FO i) (hr i) (hg i) (hm i) (hk i) (hb i) .nil pass0 hdb, ?_⟩
  exact fn_core (E := E0) (Stp.refl E) .nil .nil rfl rfl e3 q
/-- a call whose first argument is a list that a name owns: the callee may change it -/
def mFnD (m : MF) (fa : MA) : ME := fun g => (fa g).bind fun a => match a.1 with
  | .slot i :: ws => (toSls ws a.2).bind fun r => match r.2[i]? with
    | some (.own ds) => (m (.own ds :: r.1)).bind fun c => match c.2 with
      | s :: _ => some (c.1, r.2.set i s)
      | [] => none
    | _ => none
  | _ => none
theorem fnD_ok {es : List Expr} {fa : MA} {n : Nat} {m : MF} (ha : EvA F pr es fa) (hn : ∀ g ws g', fa g = some (ws, g') → ws.length = n) {w : Wv} {Q : VK} {E : XK} (En0 : En F.K pr B Hf H g σ) (eq : mFnD m fa g = some (w, g'))
    (q : ∀ v Hf' H', Stp F.K pr B Hf H g σ Hf' H' g' → WOk F.K B Hf' H' g' σ w v → Yng H w v → Q v H') : tCall (spM F.K n [0] m) [] E (UA F es) σ H Q := by
  obtain ⟨⟨ws0, g1⟩, e1, eq1⟩ := Option.bind_eq_some_iff.mp eq
  dsimp only at eq1
  split at eq1
  · rename_i i ws
    obtain ⟨⟨ss, g2⟩, e2, eq2⟩ := Option.bind_eq_some_iff.mp eq1
    dsimp only at eq2
    split at eq2
    · rename_i ds hg
      obtain ⟨⟨wc, gc⟩, e3, eq3⟩ := Option.bind_eq_some_iff.mp eq2
      dsimp only at eq3
      split at eq3
      · rename_i s rest
        cases eq3
        refine ha B Hf H g σ _ g1 _ En0 e1 fun vs0 Hf1 H1 s1 w1 y1 => ?_
        rw [List.append_nil]
        have lw : (Wv.slot i :: ws).length = vs0.length := by
          have go : ∀ {ws : List Wv} {vs : List V}, YAll H ws vs → ws.length = vs.length := by
            intro ws vs h
            induction h with
            | nil => rfl
            | cons a b ih => simp [ih]
          exact go y1
        cases w1 with
        | @cons _ v0 _ vs a b c =>
          cases y1 with
          | cons y ys =>
            obtain ⟨Hf2, s2, _, sa⟩ := toSls_ok s1 c ys e2
            have a : σ[i]? = some (some v0) := a
            obtain ⟨p, us, k0, k1, k2, k3, ow⟩ := s2.env.own_val hg
            rw [a] at k0; cases k0
            have noown : ∀ (j : Nat) es, ss[j]? = some (.own es) → False := fun j es h => by
              obtain ⟨v, _, _, no⟩ := SlAll.get (H := H1) sa h
              exact no es rfl
            have own0 : ∀ z, Own (.own ds :: ss) ((V.ref p :: vs).map some) z → z = p := fun z ⟨j, es, h1, h2⟩ => by
              cases j with
              | zero => simp at h2; exact h2.symm
              | succ j => exact (noown j es (by simpa using h1)).elim
            refine ⟨by rw [← lw]; exact hn g _ g1 e1, Hf2, .own ds :: ss, w, s :: rest, ⟨s2.env.ex, by rw [List.length_map, List.length_cons, List.length_cons, sa.len], fun j t h _ => ?_, fun j1 j2 ds' es z h1 h2 l1 l2 => ?_, fun p h => h, fun j ds' z h1 _ => ?_⟩, fun j hj => ⟨ds, by simp at hj; subst hj; rfl⟩, e3, fun v Hf' H' sc wk ns => ?_⟩
            · cases j with
              | zero => simp at h; subst h; exact ⟨.ref p, rfl, p, us, rfl, k2, k1, k3⟩
              | succ j =>
                obtain ⟨v, e, so, _⟩ := SlAll.get (H := H1) sa (i := j) (by simpa using h)
                exact ⟨v, map_get (by simpa using e), so⟩
            · cases j1 with
              | zero =>
                cases j2 with
                | zero => rfl
                | succ j2 => exact (noown j2 es (by simpa using h2)).elim
              | succ j1 => exact (noown j1 ds' (by simpa using h1)).elim
            · cases j with
              | zero => exact .inl (by simp)
              | succ j => exact (noown j ds' (by simpa using h1)).elim
            · -- behind the call
              have n2 := s2.env.not_own_drop hg a
              have Ed : En F.K pr B Hf' H' (g2.set i .un) σ := (s2.env.drop i).step sc.tr (fun z hz hz2 => by
                have := own0 z hz2
                subst this
                exact n2 hz) sc.env.ex
              have so : SlotOk F.K Hf' H' s (.ref p) := by
                cases s with
                | un => trivial
                | val d => obtain ⟨v', e, so⟩ := sc.env.ok 0 _ rfl (by simp); cases e; exact so
                | own es => obtain ⟨v', e, so⟩ := sc.env.ok 0 _ rfl (by simp); cases e; exact so
                | raw x => obtain ⟨v', e, so⟩ := sc.env.ok 0 _ rfl (by simp); cases e; exact so
              have E3 := Ed.put_slot (i := i) (s := s) a so (fun es _ z e => by cases e; exact ⟨by rw [List.set_set]; exact n2, s2.env.ob i ds p hg a⟩)
              rw [List.set_set] at E3
              have sub3 : ∀ z, Own (g2.set i s) σ z → Own g2 σ z := fun z hz => by
                rcases own_put hz with hz | ⟨_, _, hz⟩
                · exact own_drop hz
                · rw [a] at hz; cases hz; exact ow
              have s3 : Stp F.K pr B Hf H g σ Hf' H' (g2.set i s) := ⟨s2.tr.trans' (sc.tr.wide (O1 := Own g2 σ) fun z hz => by rw [own0 z hz]; exact ow) s2.sub, E3, fun z hz => s2.sub z (sub3 z hz)⟩
              refine q v Hf' H' s3 ?_ ?_
              · cases w with
                | dat d => exact wk
                | fresh es =>
                  obtain ⟨z, us', rfl, hb, hf, hq, r, n'⟩ := wk
                  exact ⟨z, us', rfl, s2.env.nb z hb, hf, hq, r, fun hz => s2.env.own_none hb (sub3 z hz)⟩
                | slot i => exact absurd rfl (ns i)
                | raw x => exact wk
              · intro es e z e'
                subst e
                obtain ⟨z', us', e'', hb, _⟩ := wk
                rw [e'] at e''; cases e''
                exact s2.tr.stay _ hb
      · cases eq3
    · cases eq2
  · cases eq1
theorem ev_fnD {x : Str} {e : Expr} {es : List Expr} {fa : MA} {n k : Nat} {m : MF} {f : Addr} {fd : FuncData} {ps : List Str} {p pos : Pos} (FO : ∀ i, FnOk (F.X i).prog (F.X i).w (F.X i).K (F.X i).mg (F.X i).base CX0 k f fd ps (spM F.K n [0] m)) (hr : ∀ i, Room k (F.X i).A) (hm : ∀ i, (F.X i).mg x = some (.ref f)) (hk : ∀ i, PySem.W.keepIn (F.X i).K (.ref f) = true) (hb : ∀ i, Binds (F.X i).K fd ps [])
    (ha : EvA F pr (e :: es) fa) (hn : ∀ g ws g', fa g = some (ws, g') → ws.length = n) (hg : ∀ i, Gl (F.X i) x := by intro _; rfl) (hdb : (x == ("__debug__" : Str)) = false := by decide)
    (he : ∀ i, starEach (e :: es) (F.X i).env = (false, eval e (F.X i).env) :: starEach es (F.X i).env := by intro _; rfl) (hpl : ∀ i, (backTo pos (starEach es (F.X i).env)).any (·.1) = false := by intro _; rfl) : Ev F pr (.Call (.Name x p) (e :: es) [] pos) (mFnD m fa) := by
  intro B Hf H g σ w g' Q E eq q
  exact ⟨_, fun i => pe_call (FO i) (hr i) (hg i) (hm i) (hk i) (hb i) .nil pass0 (pa_U i) hdb (he i) (hpl i), fnD_ok ha hn E eq q⟩
/-- how many an argument list gives -/
theorem na_nil : ∀ g ws g', mNil g = some (ws, g') → ws.length = 0 := fun g ws g' e => by cases e; rfl
theorem na_cons {f : ME} {fs : MA} {n : Nat} (h : ∀ g ws g', fs g = some (ws, g') → ws.length = n) : ∀ g ws g', mCons f fs g = some (ws, g') → ws.length = n + 1 := fun g ws g' e => by
  obtain ⟨a, e1, e⟩ := Option.bind_eq_some_iff.mp e
  obtain ⟨b, e2, e⟩ := Option.bind_eq_some_iff.mp e
  cases e
  rw [List.length_cons, h a.2 b.1 b.2 e2]
/-- the law's promise, from its mirror -/
theorem law_sp {m : MF} {a : Addr} {ns : List Int} {E : XK} (hS : SqL K H a (ns.map V.int)) (h : ∃ g', m [.val (.list (ns.map PyData.int))] = some (.dat (.bool true), g')) : spM K 1 [] m [.ref a] H (fun v _ => v = .bl true) E := by
  obtain ⟨g', e⟩ := h
  refine ⟨rfl, H, [.val (.list (ns.map PyData.int))], _, g', ⟨Evl.Ex.refl H, rfl, fun i s h _ => ?_, fun i j ds es p h1 => ?_, fun p h => h, fun i ds p h1 => ?_⟩, fun i hi => absurd hi (by simp), e, fun v Hf' H' s w _ => ?_⟩
  · cases i with
    | zero => simp at h; subst h; exact ⟨_, rfl, .lst hS (RepAll.of_ints ns)⟩
    | succ i => simp at h
  · cases i with
    | zero => simp at h1
    | succ i => simp at h1
  · cases i with
    | zero => simp at h1
    | succ i => simp at h1
  · have w : Rep K Hf' v (.bool true) := w
    cases w; rfl
theorem vals_ints' : ∀ (ns : List Int) (ts : List Tok), ns.length = ts.length → Vals (ns.map V.int) (List.zipWith Value.int ns ts)
  | [], [], _ => .nil
  | n :: ns, t :: ts, h => .cons ⟨t, rfl⟩ (vals_ints' ns ts (by simpa using h))
/-- a tuple of ints of the module -/
theorem rep_tupK {a : Addr} {dd : Option Addr} {n : Nat} {sl : Array (Option Value)} (ns : List Int) (ts : List Tok) {its : Array Value} (h : K.lookup a = some ⟨.type "tuple", dd, .seq its n, sl⟩) (e : its.toList = List.zipWith Value.int ns ts) (hl : ns.length = ts.length) (hz : ns.length ≤ 1000) (Hf : Hp) :
    Rep K Hf (.ref a) (.tuple (ns.map PyData.int)) := by
  refine .tup (xs := ns.map V.int) (.inr ⟨_, its, n, h, rfl, rfl, ?_, ?_⟩) (RepAll.of_ints ns)
  · have : its.size = ns.length := by
      rw [← Array.length_toList, e, List.length_zipWith, hl, Nat.min_self]
    rw [this]
    exact Nat.le_trans hz (by decide)
  · rw [e]; exact vals_ints' ns ts hl
def fuel : Nat := 18446744073709551616
end
end EV
end
section
set_option Elab.async false
set_option linter.all false
set_option maxRecDepth 100000
set_option maxHeartbeats 2000000
set_option autoImplicit false
/-! further: ranges made to tuples and lists, walked backwards; pop(i); extend; sorted ints -/
namespace EV
open PySem PySem.Spec PyProof.Rows L2
section
variable {F : Fam} {pr : List Nat} {K : Frag} {B : Addr → Prop} {Hf H : Hp} {g g' : Gh} {σ : L2.St}
/-! ### ranges -/
abbrev MR := Gh → Option ((Int × Int) × Gh)
def mRr1 (f : ME) : MR := fun g => (f g).bind fun a => (look a.1 a.2).bind fun x => match x with
  | .int j => if okRg j = true then some ((0, j), a.2) else none
  | _ => none
def mRr2 (f h : ME) : MR := fun g => (f g).bind fun a => (h a.2).bind fun b => (look a.1 b.2).bind fun x => (look b.1 b.2).bind fun y => match x, y with
  | .int i, .int j => if okRg i = true ∧ okRg j = true then some ((i, j), b.2) else none
  | _, _ => none
def mTupRg (m : MR) : ME := fun g => (m g).bind fun a => if (a.1.2 - a.1.1).toNat ≤ sizeLine then some (.dat (.tuple (rgD a.1.1 a.1.2)), a.2) else none
def mLstRg (m : MR) : ME := fun g => (m g).bind fun a => if (a.1.2 - a.1.1).toNat ≤ sizeLine then some (.fresh (rgD a.1.1 a.1.2), a.2) else none
/-- reversed(range(..)) -/
def mRevR (m : MR) : MI := fun g => (m g).bind fun a => some ((rgD a.1.1 a.1.2).reverse, a.2)
/-! ### lists that change -/
theorem RepAll.eraseIdx {vs : List V} {ds : List Da} (r : RepAll K H vs ds) (j : Nat) : RepAll K H (vs.eraseIdx j) (ds.eraseIdx j) := by
  rw [List.eraseIdx_eq_take_drop_succ, List.eraseIdx_eq_take_drop_succ]
  exact (r.take j).append (r.drop (j + 1))
/-- xs.pop(k) -/
def mPopAt (i : Nat) (f : ME) : ME := fun g => match g[i]? with
  | some (.own _) => (f g).bind fun b => (look b.1 b.2).bind fun y => match y, b.2[i]? with
    | .int k, some (.own ds) => if okRg k = true then (ixN ds.length k).bind fun j => (ds[j]?).bind fun d => some (.dat d, b.2.set i (.own (ds.eraseIdx j))) else none
    | _, _ => none
  | _ => none
/-- xs.extend(e), e a new list -/
def sExt (i : Nat) (f : ME) : MS := fun g => match g[i]? with
  | some (.own _) => (f g).bind fun a => match a.1, a.2[i]? with
    | .fresh es, some (.own ds) => if ds.length + es.length ≤ sizeLine then some (.nx, a.2.set i (.own (ds ++ es))) else none
    | _, _ => none
  | _ => none
/-! ### sorted ints -/
/-! ### tuple(reversed(list)) -/
def mTupRev (f : ME) : ME := fun g => (f g).bind fun a => (look a.1 a.2).bind fun x => match x with | .list xs => some (.dat (.tuple xs.reverse), a.2) | _ => none
end
end EV
end
section
set_option Elab.async false
set_option linter.all false
set_option maxRecDepth 100000
set_option maxHeartbeats 2000000
set_option autoImplicit false
/-! a new list, or a tuple, times an int -/
namespace EV
open PySem PySem.Spec PyProof.Rows L2
section
variable {F : Fam} {pr : List Nat} {K : Frag} {B : Addr → Prop} {Hf H : Hp} {g g' : Gh} {σ : L2.St}
/-! ### a tuple times an int: the same one, or the empty one -/
/-- [..] * k -/
def mRepL (f h : ME) : ME := fun g => (f g).bind fun a => (h a.2).bind fun b => (look b.1 b.2).bind fun y => match a.1, y with
  | .fresh xs, .int k => if okRg k = true ∧ xs.length * k.toNat ≤ sizeLine then some (.fresh (List.replicate k.toNat xs).flatten, b.2) else none
  | _, _ => none
end
end EV
end
section
set_option Elab.async false
set_option linter.all false
set_option maxRecDepth 100000
set_option maxHeartbeats 2000000
set_option autoImplicit false
/-! how many unlike ints a tuple has -/
namespace EV
open PySem PySem.Spec PyProof.Rows L2
/-- unlike ones -/
def uniq : List Int → List Int
  | [] => []
  | x :: r => if x ∈ r then uniq r else x :: uniq r
section
variable {F : Fam} {pr : List Nat} {K : Frag} {B : Addr → Prop} {Hf H : Hp} {g g' : Gh} {σ : L2.St}
def mLenSet (f : ME) : ME := fun g => (f g).bind fun a => (look a.1 a.2).bind fun x => match x with | .tuple xs => (intsOf xs).bind fun ns => if ns.length ≤ 1000 then some (.dat (.int (uniq ns).length), a.2) else none | _ => none
end
end EV
end
section
set_option Elab.async false
set_option linter.all false
set_option maxRecDepth 100000
set_option maxHeartbeats 2000000
set_option autoImplicit false
/-! sorted(tuple of ints) -/
namespace EV
open PySem PySem.Spec PyProof.Rows L2
end EV
end
section
set_option Elab.async false
set_option linter.all false
set_option maxRecDepth 100000
set_option maxHeartbeats 2000000
set_option autoImplicit false
/-! enumerate(tuple) -/
namespace EV
open PySem PySem.Spec PyProof.Rows L2
section
variable {F : Fam} {pr : List Nat} {K : Frag} {B : Addr → Prop} {Hf H : Hp} {g g' : Gh} {σ : L2.St}
/-- enumerate of a list or a tuple -/
def mEnumA (fa : MA) : MI := fun g => (fa g).bind fun a => (toDs a.1 a.2).bind fun r => match r.1 with
  | [.list ds] => some (enumD 0 ds, r.2)
  | [.tuple ds] => some (enumD 0 ds, r.2)
  | _ => none
end
end EV
end
section
set_option Elab.async false
set_option linter.all false
set_option maxRecDepth 100000
set_option maxHeartbeats 2000000
set_option autoImplicit false
/-! zip of two, and of three, each a list or a tuple -/
namespace EV
open PySem PySem.Spec PyProof.Rows L2
section
/-- a list (false) or a tuple (true) -/
def SqA (K : Frag) (b : Bool) (H : Hp) (a : Addr) (xs : List V) : Prop := cond b (SqT K H a xs) (SqL K H a xs)
theorem SqA.ex {K : Frag} {b : Bool} {H H' : Hp} {a : Addr} {xs : List V} (e : Evl.Ex H H') (h : SqA K b H a xs) : SqA K b H' a xs := by
  cases b
  · exact Evl.ex_l e h
  · exact Evl.ex_t e h
end
end EV
namespace EV
open PySem PySem.Spec PyProof.Rows L2
section
variable {F : Fam} {pr : List Nat} {K : Frag} {B : Addr → Prop} {Hf H Hf1 H1 : Hp} {g g' : Gh} {σ : L2.St}
/-- zip of two, each a list or a tuple -/
def mZipA (fa : MA) : MI := fun g => (fa g).bind fun a => (toDs a.1 a.2).bind fun r => match r.1 with
  | [x, y] => (itemsD x).bind fun ds => (itemsD y).bind fun es => some (zipD ds es, r.2)
  | _ => none
end
end EV
namespace EV
open PySem PySem.Spec PyProof.Rows L2
section
variable {F : Fam} {pr : List Nat} {K : Frag} {B : Addr → Prop} {Hf H Hf1 H1 : Hp} {g g' : Gh} {σ : L2.St}
/-- triples -/
def zipD3 : List Da → List Da → List Da → List Da
  | d :: ds, e :: es, f :: fs => .tuple [d, e, f] :: zipD3 ds es fs
  | _, _, _ => []
/-- zip of three, each a list or a tuple -/
def mZip3 (fa : MA) : MI := fun g => (fa g).bind fun a => (toDs a.1 a.2).bind fun r => match r.1 with
  | [x, y, z] => (itemsD x).bind fun ds => (itemsD y).bind fun es => (itemsD z).bind fun fs => some (zipD3 ds es fs, r.2)
  | _ => none
end
end EV
end
section
set_option Elab.async false
set_option linter.all false
set_option autoImplicit false
namespace Lib
open PySem PySem.Spec PyProof.Rows L2 EV
def m_is_integer : MS :=
    (sRet [] (mAndV (mIsi "int" (mName 0)) (mAndV (mBin (dIs true) (mName 0) (mC (.bool true))) (mAndV (mBin (dIs true) (mName 0) (mC (.bool false))) (mOfT (mChain dLe dLe (mName 1) (mName 0) (mName 2)))))))
def F_is_integer : MF := bodyM [] 0 m_is_integer
def m_is_field : MS :=
    (sSeq (sIf (mNot (mTru (mFn F_is_integer (mCons (mName 0) (mCons (mC (.int 5)) (mCons (mC (.int 997)) mNil)))))) (sRet [] (mC (.bool false))) sNil)
    (sSeq (sFor (mIt (mC (.tuple [(.int 2), (.int 3), (.int 5), (.int 7), (.int 11), (.int 13), (.int 17), (.int 19), (.int 23), (.int 29), (.int 31)]))) (setN 1) (sIf (mCmp dEq (mBin dMod (mName 0) (mName 1)) (mC (.int 0))) (sRet [] (mBin dEq (mName 0) (mName 1))) sNil))
    (sRet [] (mC (.bool true)))))
def F_is_field : MF := bodyM [] 1 m_is_field
def m_check_field : MS :=
    (sIf (mNot (mTru (mFn F_is_field (mCons (mName 0) mNil)))) sNo sNil)
def F_check_field : MF := bodyM [] 0 m_check_field
def m_is_number : MS :=
    (sSeq (sDrop (mFn F_check_field (mCons (mName 0) mNil)))
    (sRet [] (mFn F_is_integer (mCons (mName 1) (mCons (mC (.int 0)) (mCons (mBin dSub (mName 0) (mC (.int 1))) mNil))))))
def F_is_number : MF := bodyM [] 0 m_is_number
def m_check_integer : MS :=
    (sIf (mNot (mTru (mFn F_is_integer (mCons (mName 0) (mCons (mName 1) (mCons (mName 2) mNil)))))) sNo sNil)
def F_check_integer : MF := bodyM [] 0 m_check_integer
def m_check_number : MS :=
    (sDrop (mFn F_check_integer (mCons (mName 1) (mCons (mC (.int 0)) (mCons (mBin dSub (mName 0) (mC (.int 1))) mNil)))))
def F_check_number : MF := bodyM [] 0 m_check_number
def m_check_pair : MS :=
    (sSeq (sDrop (mFn F_check_field (mCons (mName 0) mNil)))
    (sSeq (sDrop (mFn F_check_number (mCons (mName 0) (mCons (mName 1) mNil))))
    (sDrop (mFn F_check_number (mCons (mName 0) (mCons (mName 2) mNil))))))
def F_check_pair : MF := bodyM [] 0 m_check_pair
def m_plus : MS :=
    (sSeq (sDrop (mFn F_check_pair (mCons (mName 0) (mCons (mName 1) (mCons (mName 2) mNil)))))
    (sRet [] (mBin dMod (mBin dAdd (mName 1) (mName 2)) (mName 0))))
def F_plus : MF := bodyM [] 0 m_plus
def m_minus : MS :=
    (sSeq (sDrop (mFn F_check_pair (mCons (mName 0) (mCons (mName 1) (mCons (mName 2) mNil)))))
    (sRet [] (mBin dMod (mBin dSub (mName 1) (mName 2)) (mName 0))))
def F_minus : MF := bodyM [] 0 m_minus
def m_times : MS :=
    (sSeq (sDrop (mFn F_check_pair (mCons (mName 0) (mCons (mName 1) (mCons (mName 2) mNil)))))
    (sRet [] (mBin dMod (mBin dMul (mName 1) (mName 2)) (mName 0))))
def F_times : MF := bodyM [] 0 m_times
def m_raised : MS :=
    (sSeq (sSet 3 (mC (.int 1)))
    (sSeq (sSet 4 (mBin dMod (mName 1) (mName 0)))
    (sSeq (sSet 5 (mName 2))
    (sSeq (sWhile EV.fuel (mCmp dGt (mName 5) (mC (.int 0))) (sSeq (sIf (mCmp dEq (mBin dMod (mName 5) (mC (.int 2))) (mC (.int 1))) (sSet 3 (mBin dMod (mBin dMul (mName 3) (mName 4)) (mName 0))) sNil)
    (sSeq (sSet 4 (mBin dMod (mBin dMul (mName 4) (mName 4)) (mName 0)))
    (sSet 5 (mBin dFdiv (mName 5) (mC (.int 2)))))))
    (sRet [] (mName 3))))))
def F_raised : MF := bodyM [] 3 m_raised
def m_inverse : MS :=
    (sRet [] (mFn F_raised (mCons (mName 0) (mCons (mName 1) (mCons (mBin dSub (mName 0) (mC (.int 2))) mNil)))))
def F_inverse : MF := bodyM [] 0 m_inverse
def m_undone : MS :=
    (sSeq (sDrop (mFn F_check_field (mCons (mName 0) mNil)))
    (sSeq (sDrop (mFn F_check_number (mCons (mName 0) (mCons (mName 1) mNil))))
    (sSeq (sIf (mCmp dEq (mName 1) (mC (.int 0))) sNo sNil)
    (sRet [] (mFn F_inverse (mCons (mName 0) (mCons (mName 1) mNil)))))))
def F_undone : MF := bodyM [] 0 m_undone
def m_power : MS :=
    (sSeq (sDrop (mFn F_check_field (mCons (mName 0) mNil)))
    (sSeq (sDrop (mFn F_check_number (mCons (mName 0) (mCons (mName 1) mNil))))
    (sSeq (sDrop (mFn F_check_integer (mCons (mName 2) (mCons (mC (.int 0)) (mCons (mC (.int 1000000)) mNil)))))
    (sRet [] (mFn F_raised (mCons (mName 0) (mCons (mName 1) (mCons (mName 2) mNil))))))))
def F_power : MF := bodyM [] 0 m_power
def m_power_sum : MS :=
    (sSeq (sDrop (mFn F_check_field (mCons (mName 0) mNil)))
    (sSeq (sDrop (mFn F_check_integer (mCons (mName 1) (mCons (mC (.int 0)) (mCons (mC (.int 1000000)) mNil)))))
    (sRet [] (mIf (mAnd (mCmp dGt (mName 1) (mC (.int 0))) (mCmp dEq (mBin dMod (mName 1) (mBin dSub (mName 0) (mC (.int 1)))) (mC (.int 0)))) (mBin dSub (mName 0) (mC (.int 1))) (mC (.int 0))))))
def F_power_sum : MF := bodyM [] 0 m_power_sum
def m__law_dice : MS :=
    (sSeq (sSet 2 (mIf (mCmp dLt (mName 1) (mCall dLen (mCons (mName 0) mNil))) (mCall dInt (mCons (mIx (mName 0) (mName 1)) mNil)) (mBin dAdd (mBin dMul (mC (.int 103)) (mName 1)) (mC (.int 67)))))
    (sSeq (sSet 3 (mBin dMod (mCall dMax (mCons (mC (.int 0)) (mCons (mBin dSub (mCall dAbs (mCons (mName 2) mNil)) (mBin dPow (mC (.int 10)) (mC (.int 16)))) mNil))) (mBin dMul (mBin dPow (mC (.int 10)) (mC (.int 57))) (mBin dPow (mC (.int 10)) (mC (.int 60))))))
    (sRet [] (mLst (mCons (mName 3) (mCons (mBin dAdd (mBin dAdd (mBin dAdd (mBin dMul (mBin dMod (mCall dAbs (mCons (mName 2) mNil)) (mC (.int 1152921504606846733))) (mC (.int 97))) (mBin dMul (mC (.int 1013)) (mName 1))) (mBin dMul (mC (.int 53)) (mCall dInt (mCons (mBin dLt (mName 2) (mC (.int 0))) mNil)))) (mC (.int 41))) (mCons (mC (.int 0)) mNil)))))))
def F__law_dice : MF := bodyM [] 2 m__law_dice
def m__law_roll : MS :=
    (sSeq (sIf (mCmp dGt (mIx (mName 0) (mC (.int 0))) (mC (.int 0))) (sSeq (sSet 2 (mBin dMod (mCall dInt (mCons (mIx (mName 0) (mC (.int 0))) mNil)) (mName 1)))
    (sSeq (sSetIx 0 (mBin dFdiv (mIx (mName 0) (mC (.int 0))) (mName 1)) (mC (.int 0)))
    (sRet [0] (mName 2)))) sNil)
    (sSeq (sSetIx 0 (mBin dAdd (mIx (mName 0) (mC (.int 2))) (mC (.int 1))) (mC (.int 2)))
    (sSeq (sSet 3 (mBin dMod (mCall dInt (mCons (mBin dAdd (mIx (mName 0) (mC (.int 1))) (mBin dMul (mC (.int 86028157)) (mIx (mName 0) (mC (.int 2))))) mNil)) (mC (.int 2305843009213693487))))
    (sSeq (sSet 4 (mBin dAdd (mBin dMul (mBin dMod (mCall dInt (mCons (mBin dAdd (mBin dMul (mName 3) (mName 3)) (mBin dMul (mC (.int 101)) (mIx (mName 0) (mC (.int 2))))) mNil)) (mC (.int 2305843009213693669))) (mC (.int 6700417))) (mName 3)))
    (sRet [0] (mBin dMod (mCall dInt (mCons (mBin dFdiv (mName 4) (mC (.int 65537))) mNil)) (mName 1)))))))
def F__law_roll : MF := bodyM [0] 3 m__law_roll
def m__law_pick : MS :=
    (sRet [0] (mIx (mName 1) (mFnD F__law_roll (mCons (mName 0) (mCons (mCall dLen (mCons (mName 1) mNil)) mNil)))))
def F__law_pick : MF := bodyM [0] 0 m__law_pick
def m__law_fd_primes : MS :=
    (sRet [] (mLst (mCons (mC (.int 5)) (mCons (mC (.int 7)) (mCons (mC (.int 11)) (mCons (mC (.int 13)) (mCons (mC (.int 17)) (mCons (mC (.int 29)) (mCons (mC (.int 31)) (mCons (mC (.int 97)) (mCons (mC (.int 101)) (mCons (mC (.int 499)) (mCons (mC (.int 991)) (mCons (mC (.int 997)) mNil))))))))))))))
def F__law_fd_primes : MF := bodyM [] 0 m__law_fd_primes
def m__law_fd_undone : MS :=
    (sSeq (sFor (mRg2 (mCons (mC (.int 1)) (mCons (mName 0) mNil))) (setN 2) (sIf (mCmp dEq (mBin dMod (mBin dMul (mName 2) (mName 1)) (mName 0)) (mC (.int 1))) (sRet [] (mName 2)) sNil))
    (sRet [] (mC .none)))
def F__law_fd_undone : MF := bodyM [] 1 m__law_fd_undone
def m__law_is_prime : MS :=
    (sSeq (sIf (mOr (mNot (mTru (mIsi "int" (mName 0)))) (mOr (mTru (mIsi "bool" (mName 0))) (mNot (mChain dLe dLe (mC (.int 5)) (mName 0) (mC (.int 997)))))) (sRet [] (mC (.bool false))) sNil)
    (sRet [] (mBin dEq (mComp [1] (mRg2 (mCons (mC (.int 2)) (mCons (mName 0) mNil))) (setN 1) (mCmp dEq (mBin dMod (mCall dInt (mCons (mName 0) mNil)) (mName 1)) (mC (.int 0))) (mName 1)) (mLst mNil))))
def F__law_is_prime : MF := bodyM [] 1 m__law_is_prime
def m__law_powers : MS :=
    (sSeq (sPar [3, 4] (mCons (mLst mNil) (mCons (mC (.int 1)) mNil)))
    (sSeq (sFor (mRg1 (mCons (mName 2) mNil)) (setN 5) (sSeq (sApp 3 (mName 4))
    (sSet 4 (mBin dMod (mCall dInt (mCons (mBin dMul (mName 4) (mName 1)) mNil)) (mName 0)))))
    (sRet [] (mName 3))))
def F__law_powers : MF := bodyM [] 3 m__law_powers
def m__law_great_power : MS :=
    (sSeq (sPar [3, 4] (mCons (mC (.int 1)) (mCons (mLst mNil) mNil)))
    (sSeq (sFor (mRg1 (mCons (mC (.int 24)) mNil)) (setN 5) (sSeq (sApp 4 (mBin dMod (mCall dInt (mCons (mName 2) mNil)) (mC (.int 2))))
    (sSet 2 (mBin dFdiv (mName 2) (mC (.int 2))))))
    (sSeq (sFor (mIt (mRev (mName 4))) (setN 6) (sSeq (sSet 3 (mBin dMod (mCall dInt (mCons (mBin dMul (mName 3) (mName 3)) mNil)) (mName 0)))
    (sSet 3 (mIf (mCmp dEq (mName 6) (mC (.int 1))) (mBin dMod (mCall dInt (mCons (mBin dMul (mName 3) (mName 1)) mNil)) (mName 0)) (mName 3)))))
    (sRet [] (mName 3)))))
def F__law_great_power : MF := bodyM [] 4 m__law_great_power
end Lib
end
section
set_option Elab.async false
set_option linter.all false
set_option maxRecDepth 100000
set_option maxHeartbeats 2000000
set_option autoImplicit false
/-! list(zip(..)): zip whose last tuple is out and kept -/
namespace EV
open PySem PySem.Spec
section
variable {P : Program} {w : World} {A : Around} {E : Value → Shared → Prop} {s : Shared} {z TI TO T i1 i2 : Addr} {fp1 fp2 : List Addr} {n1 n2 i : Nat} {P1 P2 : Nat → Value → Prop} {St1 St2 : Nat → Heap → Prop} {f : Bool} {oT : Obj}
/-- the cell of a zip when the tuple that it gave last is still held -/
abbrev ZOut (h : Heap) (z TI TO T : Addr) (f : Bool) : Prop := h.get? z = some { cls := .type "zip", dict := none, data := .fields #[rawInt T, .bool f, .bool false, .ref TI, .ref TO], slots := #[] }
/-- the cell of a zip: its tuple is free, or out and held -/
def ZSt (h : Heap) (z TI TO i1 i2 : Addr) : Prop := (IsZip h z TI TO .none ∧ ∃ x y, IsTupOf2 h TO x y) ∨ ∃ (T : Addr) (f : Bool) (o : Obj), ZOut h z TI TO T f ∧ h.get? T = some o ∧ T ≠ z ∧ T ≠ TO ∧ T ≠ i1 ∧ T ≠ i2 ∧ ∃ x y, IsTupOf2 h TO x y
theorem ZSt.get {h : Heap} (x : ZSt h z TI TO i1 i2) : ∃ fs, h.get? z = some { cls := .type "zip", dict := none, data := .fields fs, slots := #[] } := by
  rcases x with ⟨hz, _⟩ | ⟨T, f, o, hz, _⟩
  · exact ⟨_, hz⟩
  · exact ⟨_, hz⟩
end
end EV
end
section
set_option Elab.async false
set_option linter.all false
set_option maxRecDepth 100000
set_option maxHeartbeats 2000000
set_option autoImplicit false
/-! list(zip(..)) -/
namespace EV
open PySem PySem.Spec PyProof.Rows L2
/-- tuples laid one behind the other -/
inductive TN : Hp → List (V × V) → List Addr → Hp → Prop
  | nil {H : Hp} : TN H [] [] H
  | snoc {H G : Hp} {ps : List (V × V)} {Ts : List Addr} {T : Addr} {x y : V} : TN H ps Ts G → G T = none → TN H (ps ++ [(x, y)]) (Ts ++ [T]) (upd G T (.tup [x, y]))
theorem TN.ex {H G : Hp} {ps : List (V × V)} {Ts : List Addr} (t : TN H ps Ts G) : Evl.Ex H G := by
  induction t with
  | nil => exact Evl.Ex.refl _
  | snoc t n ih => exact ih.trans (Evl.Ex.new n)
theorem TN.len {H G : Hp} {ps : List (V × V)} {Ts : List Addr} (t : TN H ps Ts G) : Ts.length = ps.length := by
  induction t with
  | nil => rfl
  | snoc t n ih => rw [List.length_append, List.length_append, ih]; rfl
end EV
namespace EV
open PySem PySem.Spec PyProof.Rows L2
end EV
namespace EV
open PySem PySem.Spec PyProof.Rows L2
end EV
end
section
set_option Elab.async false
set_option linter.all false
set_option maxRecDepth 100000
set_option maxHeartbeats 2000000
set_option autoImplicit false
/-! sorted(rows), each row a tuple of ints, of any length -/
namespace EV
open PySem PySem.Spec PyProof.Rows
section
variable {P : Program} {w : World} {A : Around} {E : Value → Shared → Prop} {s : Shared}
/-- a tuple of these ints -/
def T1 (h : Heap) (v : Value) (ns : List Int) : Prop := ∃ (a : Addr) (items : Array Value), v = .ref a ∧ IsTup h a items ∧ IntsAre items.toList ns
end
end EV
end
section
set_option Elab.async false
set_option linter.all false
set_option maxRecDepth 100000
set_option maxHeartbeats 2000000
set_option autoImplicit false
/-! sorted(list of tuples of ints), over data -/
namespace EV
open PySem PySem.Spec PyProof.Rows L2
end EV
end
section
set_option Elab.async false
set_option linter.all false
set_option maxRecDepth 100000
set_option maxHeartbeats 2000000
set_option autoImplicit false
/-! list + list -/
namespace EV
open PySem PySem.Spec PyProof.Rows L2
end EV
end
section
set_option Elab.async false
set_option linter.all false
set_option maxRecDepth 100000
set_option maxHeartbeats 2000000
set_option autoImplicit false
/-! a call of a def that changes its second parameter -/
namespace EV
open PySem PySem.Spec PyProof.Rows L2
end EV
end
section
set_option Elab.async false
set_option linter.all false
set_option maxRecDepth 100000
set_option maxHeartbeats 2000000
set_option autoImplicit false
/-! x[i], x[j] = a, b -/
namespace EV
open PySem PySem.Spec PyProof.Rows L2
end EV
end
section
set_option Elab.async false
set_option linter.all false
set_option maxRecDepth 100000
set_option maxHeartbeats 4000000
set_option autoImplicit false
namespace K00
open PySem PySem.Spec PyProof.Rows L2 EV
def top (i : Nat) : Stmt := PySem.Challenge.pw_evencoins_k00_whole_numbers_of_a_field.main.body.getD i (.Pass ⟨0, 0, 0, 0⟩)
def m__law_right : MS :=
    (sSeq (sSet 1 (mFnD Lib.F__law_pick (mCons (mName 0) (mCons (mFn0 Lib.F__law_fd_primes) mNil))))
    (sSeq (sPar [2, 3] (mCons (mFnD Lib.F__law_roll (mCons (mName 0) (mCons (mName 1) mNil))) (mCons (mFnD Lib.F__law_pick (mCons (mName 0) (mCons (mLst (mCons (mC (.int 0)) (mCons (mC (.int 1)) (mCons (mBin dSub (mName 1) (mC (.int 1))) (mCons (mFnD Lib.F__law_roll (mCons (mName 0) (mCons (mName 1) mNil))) mNil))))) mNil))) mNil)))
    (sSeq (sIf (mOr (mCmp dNe (mFn Lib.F_plus (mCons (mName 1) (mCons (mName 2) (mCons (mName 3) mNil)))) (mBin dMod (mCall dInt (mCons (mBin dAdd (mName 2) (mName 3)) mNil)) (mName 1))) (mCmp dNe (mFn Lib.F_minus (mCons (mName 1) (mCons (mName 2) (mCons (mName 3) mNil)))) (mBin dMod (mCall dInt (mCons (mBin dSub (mName 2) (mName 3)) mNil)) (mName 1)))) (sRet [0] (mC (.bool false))) sNil)
    (sSeq (sIf (mOr (mCmp dNe (mFn Lib.F_times (mCons (mName 1) (mCons (mName 2) (mCons (mName 3) mNil)))) (mBin dMod (mCall dInt (mCons (mBin dMul (mName 2) (mName 3)) mNil)) (mName 1))) (mCmp dNe (mFn Lib.F_times (mCons (mName 1) (mCons (mName 3) (mCons (mName 2) mNil)))) (mFn Lib.F_times (mCons (mName 1) (mCons (mName 2) (mCons (mName 3) mNil)))))) (sRet [0] (mC (.bool false))) sNil)
    (sSeq (sIf (mAnd (mCmp dGt (mName 2) (mC (.int 0))) (mOr (mCmp dNe (mFn Lib.F_undone (mCons (mName 1) (mCons (mName 2) mNil))) (mFn Lib.F__law_fd_undone (mCons (mName 1) (mCons (mName 2) mNil)))) (mCmp dNe (mFn Lib.F_times (mCons (mName 1) (mCons (mName 2) (mCons (mFn Lib.F_undone (mCons (mName 1) (mCons (mName 2) mNil))) mNil)))) (mC (.int 1))))) (sRet [0] (mC (.bool false))) sNil)
    (sSeq (sSet 4 (mFn Lib.F__law_powers (mCons (mName 1) (mCons (mName 2) (mCons (mC (.int 40)) mNil)))))
    (sSeq (sIf (mCmp dNe (mComp [8] (mRg1 (mCons (mC (.int 40)) mNil)) (setN 8) mYes (mFn Lib.F_power (mCons (mName 1) (mCons (mName 2) (mCons (mName 8) mNil))))) (mName 4)) (sRet [0] (mC (.bool false))) sNil)
    (sSeq (sSet 5 (mFnD Lib.F__law_pick (mCons (mName 0) (mCons (mLst (mCons (mBin dSub (mName 1) (mC (.int 1))) (mCons (mName 1) (mCons (mBin dPow (mC (.int 10)) (mC (.int 6))) (mCons (mFnD Lib.F__law_roll (mCons (mName 0) (mCons (mBin dPow (mC (.int 10)) (mC (.int 6))) mNil))) (mCons (mBin dMul (mBin dSub (mName 1) (mC (.int 1))) (mBin dAdd (mC (.int 1)) (mFnD Lib.F__law_roll (mCons (mName 0) (mCons (mC (.int 900)) mNil))))) mNil)))))) mNil))))
    (sSeq (sIf (mCmp dNe (mFn Lib.F_power (mCons (mName 1) (mCons (mName 2) (mCons (mName 5) mNil)))) (mFn Lib.F__law_great_power (mCons (mName 1) (mCons (mName 2) (mCons (mName 5) mNil))))) (sRet [0] (mC (.bool false))) sNil)
    (sSeq (sIf (mCmp dNe (mFn Lib.F_minus (mCons (mName 1) (mCons (mC (.int 1)) (mCons (mFn Lib.F_power (mCons (mName 1) (mCons (mFn Lib.F_minus (mCons (mName 1) (mCons (mName 2) (mCons (mName 3) mNil)))) (mCons (mBin dSub (mName 1) (mC (.int 1))) mNil)))) mNil)))) (mCall dInt (mCons (mBin dEq (mName 2) (mName 3)) mNil))) (sRet [0] (mC (.bool false))) sNil)
    (sSeq (sSet 6 (mFnD Lib.F__law_pick (mCons (mName 0) (mCons (mLst (mCons (mC (.int 0)) (mCons (mC (.int 1)) (mCons (mC (.int 2)) (mCons (mBin dSub (mName 1) (mC (.int 1))) (mCons (mBin dSub (mName 1) (mC (.int 2))) (mCons (mBin dMul (mC (.int 2)) (mBin dSub (mName 1) (mC (.int 1)))) (mCons (mFnD Lib.F__law_roll (mCons (mName 0) (mCons (mC (.int 60)) mNil))) mNil)))))))) mNil))))
    (sSeq (sSet 7 (mCall dSum (mCons (mComp [9] (mRg1 (mCons (mName 1) mNil)) (setN 9) mYes (mFn Lib.F__law_great_power (mCons (mName 1) (mCons (mName 9) (mCons (mName 6) mNil))))) mNil)))
    (sRet [0] (mBin dEq (mFn Lib.F_power_sum (mCons (mName 1) (mCons (mName 6) mNil))) (mBin dMod (mCall dInt (mCons (mName 7) mNil)) (mName 1))))))))))))))))
def F__law_right : MF := bodyM [0] 9 m__law_right
def m__law_judged : MS :=
    (sSeq (sSet 1 (mBin dSub (mFnD Lib.F__law_roll (mCons (mName 0) (mCons (mC (.int 1010)) mNil))) (mC (.int 8))))
    (sSeq (sFor (mRg2 (mCons (mName 1) (mCons (mBin dAdd (mName 1) (mC (.int 12))) mNil))) (setN 2) (sIf (mCmp dNe (mCall dRepr (mCons (mFn Lib.F_is_field (mCons (mName 2) mNil)) mNil)) (mCall dRepr (mCons (mFn Lib.F__law_is_prime (mCons (mName 2) mNil)) mNil))) (sRet [0] (mC (.bool false))) sNil))
    (sSeq (sSet 3 (mFnD Lib.F__law_pick (mCons (mName 0) (mCons (mFn0 Lib.F__law_fd_primes) mNil))))
    (sSeq (sSet 4 (mLst (mCons (mC (.int 0)) (mCons (mBin dSub (mName 3) (mC (.int 1))) (mCons (mName 3) (mCons (mNeg (mC (.int 1))) (mCons (mC (.bool true)) (mCons (mC (.bool false)) (mCons (mC .none) (mCons (mC (.str "1")) (mCons (mTup (mCons (mC (.int 1)) mNil)) (mCons (mLst (mCons (mC (.int 0)) mNil)) (mCons mDict0 (mCons (mBin dPow (mC (.int 10)) (mC (.int 60))) (mCons (mFnD Lib.F__law_roll (mCons (mName 0) (mCons (mBin dMul (mC (.int 2)) (mName 3)) mNil))) mNil)))))))))))))))
    (sSeq (sSet 5 (mComp [2] (mIt (mName 4)) (setN 2) mYes (mAndV (mIsi "int" (mName 2)) (mAndV (mNotV (mIsi "bool" (mName 2))) (mOfT (mChain dLe dLt (mC (.int 0)) (mName 2) (mName 3)))))))
    (sSeq (sIf (mCmp dNe (mComp [2] (mIt (mName 4)) (setN 2) mYes (mCall dRepr (mCons (mFn Lib.F_is_number (mCons (mName 3) (mCons (mName 2) mNil))) mNil))) (mComp [7] (mIt (mName 5)) (setN 7) mYes (mCall dRepr (mCons (mName 7) mNil)))) (sRet [0] (mC (.bool false))) sNil)
    (sSeq (sSet 6 (mLst (mCons (mC .none) (mCons (mC (.bool true)) (mCons (mC (.str "7")) (mCons (mTup (mCons (mC (.int 7)) mNil)) (mCons (mLst (mCons (mC (.int 7)) mNil)) (mCons mDict0 (mCons (mBin dPow (mC (.int 10)) (mC (.int 60))) (mCons (mBin dSub (mC (.int 7)) (mBin dPow (mC (.int 10)) (mC (.int 60)))) (mCons (mNeg (mC (.int 7))) (mCons (mC (.int 2)) (mCons (mC (.int 3)) (mCons (mC (.int 4)) (mCons (mC (.int 1009)) (mCons (mC (.int 961)) (mCons (mC (.int 841)) mNil)))))))))))))))))
    (sRet [0] (mBin dEq (mComp [2] (mIt (mName 6)) (setN 2) (mCmp (dIs true) (mFn Lib.F_is_field (mCons (mName 2) mNil)) (mC (.bool false))) (mName 2)) (mLst mNil))))))))))
def F__law_judged : MF := bodyM [0] 7 m__law_judged
def m_law : MS :=
    (sSeq (sFor (mRg1 (mCons (mCall dMax (mCons (mC (.int 1)) (mCons (mCall dMin (mCons (mC (.int 4)) (mCons (mCall dLen (mCons (mName 0) mNil)) mNil))) mNil))) mNil)) (setN 1) (sSeq (sSet 2 (mFn Lib.F__law_dice (mCons (mName 0) (mCons (mName 1) mNil))))
    (sIf (mOr (mNot (mTru (mFnD F__law_right (mCons (mName 2) mNil)))) (mOr (mNot (mTru (mFnD F__law_right (mCons (mName 2) mNil)))) (mNot (mTru (mFnD F__law_judged (mCons (mName 2) mNil)))))) (sRet [] (mC (.bool false))) sNil)))
    (sSeq (sSet 3 (mLst (mCons (mFn Lib.F_is_field (mCons (mC (.int 997)) mNil)) (mCons (mFn Lib.F_is_field (mCons (mC (.int 5)) mNil)) (mCons (mFn Lib.F_is_field (mCons (mC (.int 3)) mNil)) (mCons (mFn Lib.F_undone (mCons (mC (.int 7)) (mCons (mC (.int 3)) mNil))) (mCons (mFn Lib.F_power (mCons (mC (.int 7)) (mCons (mC (.int 3)) (mCons (mC (.int 5)) mNil)))) (mCons (mFn Lib.F_power (mCons (mC (.int 7)) (mCons (mC (.int 0)) (mCons (mC (.int 0)) mNil)))) (mCons (mFn Lib.F_power (mCons (mC (.int 7)) (mCons (mC (.int 0)) (mCons (mC (.int 9)) mNil)))) (mCons (mFn Lib.F_power_sum (mCons (mC (.int 7)) (mCons (mC (.int 6)) mNil))) mNil))))))))))
    (sSeq (sIf (mOr (mCmp dNe (mName 3) (mLst (mCons (mC (.bool true)) (mCons (mC (.bool true)) (mCons (mC (.bool false)) (mCons (mC (.int 5)) (mCons (mC (.int 5)) (mCons (mC (.int 1)) (mCons (mC (.int 0)) (mCons (mC (.int 6)) mNil)))))))))) (mCmp dNe (mLst (mCons (mFn Lib.F_power_sum (mCons (mC (.int 7)) (mCons (mC (.int 4)) mNil))) (mCons (mFn Lib.F_power_sum (mCons (mC (.int 7)) (mCons (mC (.int 0)) mNil))) (mCons (mFn Lib.F_power_sum (mCons (mC (.int 997)) (mCons (mBin dPow (mC (.int 10)) (mC (.int 6))) mNil))) mNil)))) (mLst (mCons (mC (.int 0)) (mCons (mC (.int 0)) (mCons (mC (.int 0)) mNil)))))) (sRet [] (mC (.bool false))) sNil)
    (sRet [] (mAndV (mBin dEq (mLst (mCons (mC (.int 5)) (mCons (mC (.int 997)) (mCons (mC (.int 1000000)) (mCons (mC (.int 60)) mNil))))) (mLst (mCons (mC (.int 5)) (mCons (mC (.int 997)) (mCons (mBin dPow (mC (.int 10)) (mC (.int 6))) (mCons (mC (.int 60)) mNil)))))) (mBin dEq (mFn Lib.F_power_sum (mCons (mC (.int 997)) (mCons (mBin dMul (mC (.int 996)) (mC (.int 1004))) mNil))) (mC (.int 996))))))))
def F_law : MF := bodyM [] 3 m_law
/-! ### the text -/
abbrev s_is_integer : Stmt := top 9
abbrev N_is_integer : List Str := ["value", "least", "most"]
theorem sc_is_integer : FnScope N_is_integer ["value", "least", "most"] (defScope s_is_integer) := ⟨rfl, rfl, rfl, by decide +kernel, rfl, by decide +kernel, by decide +kernel⟩
abbrev s_is_field : Stmt := top 10
abbrev N_is_field : List Str := ["value", "prime"]
theorem sc_is_field : FnScope N_is_field ["value"] (defScope s_is_field) := ⟨rfl, rfl, rfl, by decide +kernel, rfl, by decide +kernel, by decide +kernel⟩
abbrev s_check_field : Stmt := top 13
abbrev N_check_field : List Str := ["field"]
theorem sc_check_field : FnScope N_check_field ["field"] (defScope s_check_field) := ⟨rfl, rfl, rfl, by decide +kernel, rfl, by decide +kernel, by decide +kernel⟩
abbrev s_is_number : Stmt := top 11
abbrev N_is_number : List Str := ["field", "value"]
theorem sc_is_number : FnScope N_is_number ["field", "value"] (defScope s_is_number) := ⟨rfl, rfl, rfl, by decide +kernel, rfl, by decide +kernel, by decide +kernel⟩
abbrev s_check_integer : Stmt := top 12
abbrev N_check_integer : List Str := ["value", "least", "most"]
theorem sc_check_integer : FnScope N_check_integer ["value", "least", "most"] (defScope s_check_integer) := ⟨rfl, rfl, rfl, by decide +kernel, rfl, by decide +kernel, by decide +kernel⟩
abbrev s_check_number : Stmt := top 14
abbrev N_check_number : List Str := ["field", "number"]
theorem sc_check_number : FnScope N_check_number ["field", "number"] (defScope s_check_number) := ⟨rfl, rfl, rfl, by decide +kernel, rfl, by decide +kernel, by decide +kernel⟩
abbrev s_check_pair : Stmt := top 15
abbrev N_check_pair : List Str := ["field", "one", "other"]
theorem sc_check_pair : FnScope N_check_pair ["field", "one", "other"] (defScope s_check_pair) := ⟨rfl, rfl, rfl, by decide +kernel, rfl, by decide +kernel, by decide +kernel⟩
abbrev s_plus : Stmt := top 16
abbrev N_plus : List Str := ["field", "one", "other"]
theorem sc_plus : FnScope N_plus ["field", "one", "other"] (defScope s_plus) := ⟨rfl, rfl, rfl, by decide +kernel, rfl, by decide +kernel, by decide +kernel⟩
abbrev s_minus : Stmt := top 17
abbrev N_minus : List Str := ["field", "one", "other"]
theorem sc_minus : FnScope N_minus ["field", "one", "other"] (defScope s_minus) := ⟨rfl, rfl, rfl, by decide +kernel, rfl, by decide +kernel, by decide +kernel⟩
abbrev s_times : Stmt := top 18
abbrev N_times : List Str := ["field", "one", "other"]
theorem sc_times : FnScope N_times ["field", "one", "other"] (defScope s_times) := ⟨rfl, rfl, rfl, by decide +kernel, rfl, by decide +kernel, by decide +kernel⟩
abbrev s_raised : Stmt := top 19
abbrev N_raised : List Str := ["field", "number", "many", "result", "square", "left"]
theorem sc_raised : FnScope N_raised ["field", "number", "many"] (defScope s_raised) := ⟨rfl, rfl, rfl, by decide +kernel, rfl, by decide +kernel, by decide +kernel⟩
abbrev s_inverse : Stmt := top 20
abbrev N_inverse : List Str := ["field", "number"]
theorem sc_inverse : FnScope N_inverse ["field", "number"] (defScope s_inverse) := ⟨rfl, rfl, rfl, by decide +kernel, rfl, by decide +kernel, by decide +kernel⟩
abbrev s_undone : Stmt := top 21
abbrev N_undone : List Str := ["field", "number"]
theorem sc_undone : FnScope N_undone ["field", "number"] (defScope s_undone) := ⟨rfl, rfl, rfl, by decide +kernel, rfl, by decide +kernel, by decide +kernel⟩
abbrev s_power : Stmt := top 22
abbrev N_power : List Str := ["field", "number", "many"]
theorem sc_power : FnScope N_power ["field", "number", "many"] (defScope s_power) := ⟨rfl, rfl, rfl, by decide +kernel, rfl, by decide +kernel, by decide +kernel⟩
abbrev s_power_sum : Stmt := top 23
abbrev N_power_sum : List Str := ["field", "many"]
theorem sc_power_sum : FnScope N_power_sum ["field", "many"] (defScope s_power_sum) := ⟨rfl, rfl, rfl, by decide +kernel, rfl, by decide +kernel, by decide +kernel⟩
abbrev s__law_dice : Stmt := top 25
abbrev N__law_dice : List Str := ["script", "spot", "cell", "left"]
theorem sc__law_dice : FnScope N__law_dice ["script", "spot"] (defScope s__law_dice) := ⟨rfl, rfl, rfl, by decide +kernel, rfl, by decide +kernel, by decide +kernel⟩
abbrev s__law_roll : Stmt := top 26
abbrev N__law_roll : List Str := ["dice", "most", "found", "one", "two"]
theorem sc__law_roll : FnScope N__law_roll ["dice", "most"] (defScope s__law_roll) := ⟨rfl, rfl, rfl, by decide +kernel, rfl, by decide +kernel, by decide +kernel⟩
abbrev s__law_pick : Stmt := top 27
abbrev N__law_pick : List Str := ["dice", "items"]
theorem sc__law_pick : FnScope N__law_pick ["dice", "items"] (defScope s__law_pick) := ⟨rfl, rfl, rfl, by decide +kernel, rfl, by decide +kernel, by decide +kernel⟩
abbrev s__law_fd_primes : Stmt := top 28
abbrev N__law_fd_primes : List Str := []
theorem sc__law_fd_primes : FnScope N__law_fd_primes [] (defScope s__law_fd_primes) := ⟨rfl, rfl, rfl, by decide +kernel, rfl, by decide +kernel, by decide +kernel⟩
abbrev s__law_fd_undone : Stmt := top 29
abbrev N__law_fd_undone : List Str := ["field_here", "number", "one"]
theorem sc__law_fd_undone : FnScope N__law_fd_undone ["field_here", "number"] (defScope s__law_fd_undone) := ⟨rfl, rfl, rfl, by decide +kernel, rfl, by decide +kernel, by decide +kernel⟩
abbrev s__law_is_prime : Stmt := top 30
abbrev N__law_is_prime : List Str := ["value", "part"]
theorem sc__law_is_prime : FnScope N__law_is_prime ["value"] (defScope s__law_is_prime) := ⟨rfl, rfl, rfl, by decide +kernel, rfl, by decide +kernel, by decide +kernel⟩
abbrev s__law_powers : Stmt := top 31
abbrev N__law_powers : List Str := ["p", "number", "many", "found", "here", "turn"]
theorem sc__law_powers : FnScope N__law_powers ["p", "number", "many"] (defScope s__law_powers) := ⟨rfl, rfl, rfl, by decide +kernel, rfl, by decide +kernel, by decide +kernel⟩
abbrev s__law_great_power : Stmt := top 32
abbrev N__law_great_power : List Str := ["p", "number", "many", "found", "bits", "turn", "bit"]
theorem sc__law_great_power : FnScope N__law_great_power ["p", "number", "many"] (defScope s__law_great_power) := ⟨rfl, rfl, rfl, by decide +kernel, rfl, by decide +kernel, by decide +kernel⟩
abbrev s__law_right : Stmt := top 33
abbrev N__law_right : List Str := ["dice", "p", "one", "other", "few", "far", "k", "total", "many", "number"]
theorem sc__law_right : FnScope N__law_right ["dice"] (defScope s__law_right) := ⟨rfl, rfl, rfl, by decide +kernel, rfl, by decide +kernel, by decide +kernel⟩
abbrev s__law_judged : Stmt := top 34
abbrev N__law_judged : List Str := ["dice", "first", "value", "p", "values", "due", "odd", "one"]
theorem sc__law_judged : FnScope N__law_judged ["dice"] (defScope s__law_judged) := ⟨rfl, rfl, rfl, by decide +kernel, rfl, by decide +kernel, by decide +kernel⟩
abbrev s_law : Stmt := top 35
abbrev N_law : List Str := ["script", "spot", "dice", "told"]
theorem sc_law : FnScope N_law ["script"] (defScope s_law) := ⟨rfl, rfl, rfl, by decide +kernel, rfl, by decide +kernel, by decide +kernel⟩
structure DefAt (K : Frag) (mg : Str → Option Value) (x : Str) (st : Stmt) (ps : List Str) (f : Addr) (fd : FuncData) : Prop where
  fn : Fun K x x st f fd
  g : mg x = some (.ref f)
  b : Binds K fd ps []
structure Txt (K : Frag) (mg : Str → Option Value) : Prop where
  n_abs : mg "abs" = none
  n_bool : mg "bool" = none
  n_int : mg "int" = none
  n_isinstance : mg "isinstance" = none
  n_len : mg "len" = none
  n_max : mg "max" = none
  n_min : mg "min" = none
  n_range : mg "range" = none
  n_repr : mg "repr" = none
  n_sum : mg "sum" = none
  c_LEAST_FIELD : ∃ (q : Value × V), mg "LEAST_FIELD" = some q.1 ∧ RelV q.2 q.1 ∧ ∀ Hf, Rep K Hf q.2 (.int 5)
  c_MAX_FIELD : ∃ (q : Value × V), mg "MAX_FIELD" = some q.1 ∧ RelV q.2 q.1 ∧ ∀ Hf, Rep K Hf q.2 (.int 997)
  c_MAX_POWER : ∃ (q : Value × V), mg "MAX_POWER" = some q.1 ∧ RelV q.2 q.1 ∧ ∀ Hf, Rep K Hf q.2 (.int 1000000)
  c_MAX_SIDE : ∃ (q : Value × V), mg "MAX_SIDE" = some q.1 ∧ RelV q.2 q.1 ∧ ∀ Hf, Rep K Hf q.2 (.int 60)
  c_SMALL_PRIMES : ∃ (q : Value × V), mg "SMALL_PRIMES" = some q.1 ∧ RelV q.2 q.1 ∧ ∀ Hf, Rep K Hf q.2 (.tuple [(.int 2), (.int 3), (.int 5), (.int 7), (.int 11), (.int 13), (.int 17), (.int 19), (.int 23), (.int 29), (.int 31)])
section
variable {P : Program} {w : World} {K : Frag} {mg : Str → Option Value} {base : Heap}
theorem ok_is_integer (T : Txt K mg) {f_is_integer : Addr} {d_is_integer : FuncData} (A_is_integer : DefAt K mg "is_integer" s_is_integer ["value", "least", "most"] f_is_integer d_is_integer) : FnOk P w K mg base CX0 1 f_is_integer d_is_integer ["value", "least", "most"] (spM K 3 [] Lib.F_is_integer) :=
  def_ok A_is_integer.fn sc_is_integer rfl fun cdv A outer s H E hr =>
    (ss_one (s_ret (ev_and (ev_isi (T := "int") (ev_name 0) (fun _ => T.n_isinstance) (fun _ => T.n_int)) (ev_and (ev_cmp od_isnot (ev_name 0) ev_bl) (ev_and (ev_cmp od_isnot (ev_name 0) ev_bl) (ev_one (ev_chain od_le od_le d1_le (ev_name 1) (ev_name 0) (ev_name 2))))))))
theorem ok_is_field (T : Txt K mg) {f_is_field : Addr} {d_is_field : FuncData} (A_is_field : DefAt K mg "is_field" s_is_field ["value"] f_is_field d_is_field) {f_is_integer : Addr} {d_is_integer : FuncData} (A_is_integer : DefAt K mg "is_integer" s_is_integer ["value", "least", "most"] f_is_integer d_is_integer) (G_is_integer : FnOk P w K mg base CX0 1 f_is_integer d_is_integer ["value", "least", "most"] (spM K 3 [] Lib.F_is_integer)) : FnOk P w K mg base CX0 2 f_is_field d_is_field ["value"] (spM K 1 [] Lib.F_is_field) :=
  def_ok A_is_field.fn sc_is_field rfl fun cdv A outer s H E hr =>
    (ss_cons (s_if (et_not (et_tru (ev_fn (fun _ => G_is_integer) (fun _ => hr.mono (by decide)) (fun _ => A_is_integer.g) (fun _ => A_is_integer.fn.kp) (fun _ => A_is_integer.b) (ea_cons (ev_name 0) (ea_cons (ev_glob (fun _ => rfl) (fun _ => T.c_LEAST_FIELD.choose_spec.1) T.c_LEAST_FIELD.choose_spec.2.1 T.c_LEAST_FIELD.choose_spec.2.2) (ea_cons (ev_glob (fun _ => rfl) (fun _ => T.c_MAX_FIELD.choose_spec.1) T.c_MAX_FIELD.choose_spec.2.1 T.c_MAX_FIELD.choose_spec.2.2) ea_nil))) (na_cons (na_cons (na_cons na_nil)))))) (ss_one (s_ret ev_bl)) ss_nil)
    (ss_cons (s_for (fun _ => PassesOwn.never) (fun _ => rfl) (ei_val (ev_glob (fun _ => rfl) (fun _ => T.c_SMALL_PRIMES.choose_spec.1) T.c_SMALL_PRIMES.choose_spec.2.1 T.c_SMALL_PRIMES.choose_spec.2.2)) (eg_name 1 (fun _ => sc_is_field.nd)) (ss_one (s_if (et_cmp (od_eq (fun _ => hr.units)) (ev_bin od_mod (ev_name 0) (ev_name 1)) ev_int) (ss_one (s_ret (ev_cmp (od_eq (fun _ => hr.units)) (ev_name 0) (ev_name 1)))) ss_nil)))
    (ss_one (s_ret ev_bl))))
theorem ok_check_field (T : Txt K mg) {f_check_field : Addr} {d_check_field : FuncData} (A_check_field : DefAt K mg "check_field" s_check_field ["field"] f_check_field d_check_field) {f_is_field : Addr} {d_is_field : FuncData} (A_is_field : DefAt K mg "is_field" s_is_field ["value"] f_is_field d_is_field) (G_is_field : FnOk P w K mg base CX0 2 f_is_field d_is_field ["value"] (spM K 1 [] Lib.F_is_field)) : FnOk P w K mg base CX0 3 f_check_field d_check_field ["field"] (spM K 1 [] Lib.F_check_field) :=
  def_ok A_check_field.fn sc_check_field rfl fun cdv A outer s H E hr =>
    (ss_one (s_if (et_not (et_tru (ev_fn (fun _ => G_is_field) (fun _ => hr.mono (by decide)) (fun _ => A_is_field.g) (fun _ => A_is_field.fn.kp) (fun _ => A_is_field.b) (ea_cons (ev_name 0) ea_nil) (na_cons na_nil)))) (ss_one s_never) ss_nil))
theorem ok_is_number (T : Txt K mg) {f_is_number : Addr} {d_is_number : FuncData} (A_is_number : DefAt K mg "is_number" s_is_number ["field", "value"] f_is_number d_is_number) {f_check_field : Addr} {d_check_field : FuncData} (A_check_field : DefAt K mg "check_field" s_check_field ["field"] f_check_field d_check_field) (G_check_field : FnOk P w K mg base CX0 3 f_check_field d_check_field ["field"] (spM K 1 [] Lib.F_check_field)) {f_is_integer : Addr} {d_is_integer : FuncData} (A_is_integer : DefAt K mg "is_integer" s_is_integer ["value", "least", "most"] f_is_integer d_is_integer) (G_is_integer : FnOk P w K mg base CX0 1 f_is_integer d_is_integer ["value", "least", "most"] (spM K 3 [] Lib.F_is_integer)) : FnOk P w K mg base CX0 4 f_is_number d_is_number ["field", "value"] (spM K 2 [] Lib.F_is_number) :=
  def_ok A_is_number.fn sc_is_number rfl fun cdv A outer s H E hr =>
    (ss_cons (s_expr (ev_fn (fun _ => G_check_field) (fun _ => hr.mono (by decide)) (fun _ => A_check_field.g) (fun _ => A_check_field.fn.kp) (fun _ => A_check_field.b) (ea_cons (ev_name 0) ea_nil) (na_cons na_nil)))
    (ss_one (s_ret (ev_fn (fun _ => G_is_integer) (fun _ => hr.mono (by decide)) (fun _ => A_is_integer.g) (fun _ => A_is_integer.fn.kp) (fun _ => A_is_integer.b) (ea_cons (ev_name 1) (ea_cons ev_int (ea_cons (ev_bin od_sub (ev_name 0) ev_int) ea_nil))) (na_cons (na_cons (na_cons na_nil)))))))
theorem ok_check_integer (T : Txt K mg) {f_check_integer : Addr} {d_check_integer : FuncData} (A_check_integer : DefAt K mg "check_integer" s_check_integer ["value", "least", "most"] f_check_integer d_check_integer) {f_is_integer : Addr} {d_is_integer : FuncData} (A_is_integer : DefAt K mg "is_integer" s_is_integer ["value", "least", "most"] f_is_integer d_is_integer) (G_is_integer : FnOk P w K mg base CX0 1 f_is_integer d_is_integer ["value", "least", "most"] (spM K 3 [] Lib.F_is_integer)) : FnOk P w K mg base CX0 2 f_check_integer d_check_integer ["value", "least", "most"] (spM K 3 [] Lib.F_check_integer) :=
  def_ok A_check_integer.fn sc_check_integer rfl fun cdv A outer s H E hr =>
    (ss_one (s_if (et_not (et_tru (ev_fn (fun _ => G_is_integer) (fun _ => hr.mono (by decide)) (fun _ => A_is_integer.g) (fun _ => A_is_integer.fn.kp) (fun _ => A_is_integer.b) (ea_cons (ev_name 0) (ea_cons (ev_name 1) (ea_cons (ev_name 2) ea_nil))) (na_cons (na_cons (na_cons na_nil)))))) (ss_one s_never) ss_nil))
theorem ok_check_number (T : Txt K mg) {f_check_number : Addr} {d_check_number : FuncData} (A_check_number : DefAt K mg "check_number" s_check_number ["field", "number"] f_check_number d_check_number) {f_check_integer : Addr} {d_check_integer : FuncData} (A_check_integer : DefAt K mg "check_integer" s_check_integer ["value", "least", "most"] f_check_integer d_check_integer) (G_check_integer : FnOk P w K mg base CX0 2 f_check_integer d_check_integer ["value", "least", "most"] (spM K 3 [] Lib.F_check_integer)) : FnOk P w K mg base CX0 3 f_check_number d_check_number ["field", "number"] (spM K 2 [] Lib.F_check_number) :=
  def_ok A_check_number.fn sc_check_number rfl fun cdv A outer s H E hr =>
    (ss_one (s_expr (ev_fn (fun _ => G_check_integer) (fun _ => hr.mono (by decide)) (fun _ => A_check_integer.g) (fun _ => A_check_integer.fn.kp) (fun _ => A_check_integer.b) (ea_cons (ev_name 1) (ea_cons ev_int (ea_cons (ev_bin od_sub (ev_name 0) ev_int) ea_nil))) (na_cons (na_cons (na_cons na_nil))))))
theorem ok_check_pair (T : Txt K mg) {f_check_pair : Addr} {d_check_pair : FuncData} (A_check_pair : DefAt K mg "check_pair" s_check_pair ["field", "one", "other"] f_check_pair d_check_pair) {f_check_field : Addr} {d_check_field : FuncData} (A_check_field : DefAt K mg "check_field" s_check_field ["field"] f_check_field d_check_field) (G_check_field : FnOk P w K mg base CX0 3 f_check_field d_check_field ["field"] (spM K 1 [] Lib.F_check_field)) {f_check_number : Addr} {d_check_number : FuncData} (A_check_number : DefAt K mg "check_number" s_check_number ["field", "number"] f_check_number d_check_number) (G_check_number : FnOk P w K mg base CX0 3 f_check_number d_check_number ["field", "number"] (spM K 2 [] Lib.F_check_number)) : FnOk P w K mg base CX0 4 f_check_pair d_check_pair ["field", "one", "other"] (spM K 3 [] Lib.F_check_pair) :=
  def_ok A_check_pair.fn sc_check_pair rfl fun cdv A outer s H E hr =>
    (ss_cons (s_expr (ev_fn (fun _ => G_check_field) (fun _ => hr.mono (by decide)) (fun _ => A_check_field.g) (fun _ => A_check_field.fn.kp) (fun _ => A_check_field.b) (ea_cons (ev_name 0) ea_nil) (na_cons na_nil)))
    (ss_cons (s_expr (ev_fn (fun _ => G_check_number) (fun _ => hr.mono (by decide)) (fun _ => A_check_number.g) (fun _ => A_check_number.fn.kp) (fun _ => A_check_number.b) (ea_cons (ev_name 0) (ea_cons (ev_name 1) ea_nil)) (na_cons (na_cons na_nil))))
    (ss_one (s_expr (ev_fn (fun _ => G_check_number) (fun _ => hr.mono (by decide)) (fun _ => A_check_number.g) (fun _ => A_check_number.fn.kp) (fun _ => A_check_number.b) (ea_cons (ev_name 0) (ea_cons (ev_name 2) ea_nil)) (na_cons (na_cons na_nil)))))))
theorem ok_plus (T : Txt K mg) {f_plus : Addr} {d_plus : FuncData} (A_plus : DefAt K mg "plus" s_plus ["field", "one", "other"] f_plus d_plus) {f_check_pair : Addr} {d_check_pair : FuncData} (A_check_pair : DefAt K mg "check_pair" s_check_pair ["field", "one", "other"] f_check_pair d_check_pair) (G_check_pair : FnOk P w K mg base CX0 4 f_check_pair d_check_pair ["field", "one", "other"] (spM K 3 [] Lib.F_check_pair)) : FnOk P w K mg base CX0 5 f_plus d_plus ["field", "one", "other"] (spM K 3 [] Lib.F_plus) :=
  def_ok A_plus.fn sc_plus rfl fun cdv A outer s H E hr =>
    (ss_cons (s_expr (ev_fn (fun _ => G_check_pair) (fun _ => hr.mono (by decide)) (fun _ => A_check_pair.g) (fun _ => A_check_pair.fn.kp) (fun _ => A_check_pair.b) (ea_cons (ev_name 0) (ea_cons (ev_name 1) (ea_cons (ev_name 2) ea_nil))) (na_cons (na_cons (na_cons na_nil)))))
    (ss_one (s_ret (ev_bin od_mod (ev_bin od_add (ev_name 1) (ev_name 2)) (ev_name 0)))))
theorem ok_minus (T : Txt K mg) {f_minus : Addr} {d_minus : FuncData} (A_minus : DefAt K mg "minus" s_minus ["field", "one", "other"] f_minus d_minus) {f_check_pair : Addr} {d_check_pair : FuncData} (A_check_pair : DefAt K mg "check_pair" s_check_pair ["field", "one", "other"] f_check_pair d_check_pair) (G_check_pair : FnOk P w K mg base CX0 4 f_check_pair d_check_pair ["field", "one", "other"] (spM K 3 [] Lib.F_check_pair)) : FnOk P w K mg base CX0 5 f_minus d_minus ["field", "one", "other"] (spM K 3 [] Lib.F_minus) :=
  def_ok A_minus.fn sc_minus rfl fun cdv A outer s H E hr =>
    (ss_cons (s_expr (ev_fn (fun _ => G_check_pair) (fun _ => hr.mono (by decide)) (fun _ => A_check_pair.g) (fun _ => A_check_pair.fn.kp) (fun _ => A_check_pair.b) (ea_cons (ev_name 0) (ea_cons (ev_name 1) (ea_cons (ev_name 2) ea_nil))) (na_cons (na_cons (na_cons na_nil)))))
    (ss_one (s_ret (ev_bin od_mod (ev_bin od_sub (ev_name 1) (ev_name 2)) (ev_name 0)))))
theorem ok_times (T : Txt K mg) {f_times : Addr} {d_times : FuncData} (A_times : DefAt K mg "times" s_times ["field", "one", "other"] f_times d_times) {f_check_pair : Addr} {d_check_pair : FuncData} (A_check_pair : DefAt K mg "check_pair" s_check_pair ["field", "one", "other"] f_check_pair d_check_pair) (G_check_pair : FnOk P w K mg base CX0 4 f_check_pair d_check_pair ["field", "one", "other"] (spM K 3 [] Lib.F_check_pair)) : FnOk P w K mg base CX0 5 f_times d_times ["field", "one", "other"] (spM K 3 [] Lib.F_times) :=
  def_ok A_times.fn sc_times rfl fun cdv A outer s H E hr =>
    (ss_cons (s_expr (ev_fn (fun _ => G_check_pair) (fun _ => hr.mono (by decide)) (fun _ => A_check_pair.g) (fun _ => A_check_pair.fn.kp) (fun _ => A_check_pair.b) (ea_cons (ev_name 0) (ea_cons (ev_name 1) (ea_cons (ev_name 2) ea_nil))) (na_cons (na_cons (na_cons na_nil)))))
    (ss_one (s_ret (ev_bin od_mod (ev_bin od_mul (ev_name 1) (ev_name 2)) (ev_name 0)))))
theorem ok_raised (T : Txt K mg) {f_raised : Addr} {d_raised : FuncData} (A_raised : DefAt K mg "raised" s_raised ["field", "number", "many"] f_raised d_raised) : FnOk P w K mg base CX0 1 f_raised d_raised ["field", "number", "many"] (spM K 3 [] Lib.F_raised) :=
  def_ok A_raised.fn sc_raised rfl fun cdv A outer s H E hr =>
    (ss_cons (s_set 3 ev_int (fun _ => sc_raised.nd))
    (ss_cons (s_set 4 (ev_bin od_mod (ev_name 1) (ev_name 0)) (fun _ => sc_raised.nd))
    (ss_cons (s_set 5 (ev_name 2) (fun _ => sc_raised.nd))
    (ss_cons (s_while EV.fuel (fun _ => PassesOwn.never) (et_cmp od_gt (ev_name 5) ev_int) (ss_cons (s_if (et_cmp (od_eq (fun _ => hr.units)) (ev_bin od_mod (ev_name 5) ev_int) ev_int) (ss_one (s_set 3 (ev_bin od_mod (ev_bin od_mul (ev_name 3) (ev_name 4)) (ev_name 0)) (fun _ => sc_raised.nd))) ss_nil)
    (ss_cons (s_set 4 (ev_bin od_mod (ev_bin od_mul (ev_name 4) (ev_name 4)) (ev_name 0)) (fun _ => sc_raised.nd))
    (ss_one (s_set 5 (ev_bin od_fdiv (ev_name 5) ev_int) (fun _ => sc_raised.nd))))))
    (ss_one (s_ret (ev_name 3)))))))
theorem ok_inverse (T : Txt K mg) {f_inverse : Addr} {d_inverse : FuncData} (A_inverse : DefAt K mg "inverse" s_inverse ["field", "number"] f_inverse d_inverse) {f_raised : Addr} {d_raised : FuncData} (A_raised : DefAt K mg "raised" s_raised ["field", "number", "many"] f_raised d_raised) (G_raised : FnOk P w K mg base CX0 1 f_raised d_raised ["field", "number", "many"] (spM K 3 [] Lib.F_raised)) : FnOk P w K mg base CX0 2 f_inverse d_inverse ["field", "number"] (spM K 2 [] Lib.F_inverse) :=
  def_ok A_inverse.fn sc_inverse rfl fun cdv A outer s H E hr =>
    (ss_one (s_ret (ev_fn (fun _ => G_raised) (fun _ => hr.mono (by decide)) (fun _ => A_raised.g) (fun _ => A_raised.fn.kp) (fun _ => A_raised.b) (ea_cons (ev_name 0) (ea_cons (ev_name 1) (ea_cons (ev_bin od_sub (ev_name 0) ev_int) ea_nil))) (na_cons (na_cons (na_cons na_nil))))))
theorem ok_undone (T : Txt K mg) {f_undone : Addr} {d_undone : FuncData} (A_undone : DefAt K mg "undone" s_undone ["field", "number"] f_undone d_undone) {f_check_field : Addr} {d_check_field : FuncData} (A_check_field : DefAt K mg "check_field" s_check_field ["field"] f_check_field d_check_field) (G_check_field : FnOk P w K mg base CX0 3 f_check_field d_check_field ["field"] (spM K 1 [] Lib.F_check_field)) {f_check_number : Addr} {d_check_number : FuncData} (A_check_number : DefAt K mg "check_number" s_check_number ["field", "number"] f_check_number d_check_number) (G_check_number : FnOk P w K mg base CX0 3 f_check_number d_check_number ["field", "number"] (spM K 2 [] Lib.F_check_number)) {f_inverse : Addr} {d_inverse : FuncData} (A_inverse : DefAt K mg "inverse" s_inverse ["field", "number"] f_inverse d_inverse) (G_inverse : FnOk P w K mg base CX0 2 f_inverse d_inverse ["field", "number"] (spM K 2 [] Lib.F_inverse)) : FnOk P w K mg base CX0 4 f_undone d_undone ["field", "number"] (spM K 2 [] Lib.F_undone) :=
  def_ok A_undone.fn sc_undone rfl fun cdv A outer s H E hr =>
    (ss_cons (s_expr (ev_fn (fun _ => G_check_field) (fun _ => hr.mono (by decide)) (fun _ => A_check_field.g) (fun _ => A_check_field.fn.kp) (fun _ => A_check_field.b) (ea_cons (ev_name 0) ea_nil) (na_cons na_nil)))
    (ss_cons (s_expr (ev_fn (fun _ => G_check_number) (fun _ => hr.mono (by decide)) (fun _ => A_check_number.g) (fun _ => A_check_number.fn.kp) (fun _ => A_check_number.b) (ea_cons (ev_name 0) (ea_cons (ev_name 1) ea_nil)) (na_cons (na_cons na_nil))))
    (ss_cons (s_if (et_cmp (od_eq (fun _ => hr.units)) (ev_name 1) ev_int) (ss_one s_never) ss_nil)
    (ss_one (s_ret (ev_fn (fun _ => G_inverse) (fun _ => hr.mono (by decide)) (fun _ => A_inverse.g) (fun _ => A_inverse.fn.kp) (fun _ => A_inverse.b) (ea_cons (ev_name 0) (ea_cons (ev_name 1) ea_nil)) (na_cons (na_cons na_nil))))))))
theorem ok_power (T : Txt K mg) {f_power : Addr} {d_power : FuncData} (A_power : DefAt K mg "power" s_power ["field", "number", "many"] f_power d_power) {f_check_field : Addr} {d_check_field : FuncData} (A_check_field : DefAt K mg "check_field" s_check_field ["field"] f_check_field d_check_field) (G_check_field : FnOk P w K mg base CX0 3 f_check_field d_check_field ["field"] (spM K 1 [] Lib.F_check_field)) {f_check_number : Addr} {d_check_number : FuncData} (A_check_number : DefAt K mg "check_number" s_check_number ["field", "number"] f_check_number d_check_number) (G_check_number : FnOk P w K mg base CX0 3 f_check_number d_check_number ["field", "number"] (spM K 2 [] Lib.F_check_number)) {f_check_integer : Addr} {d_check_integer : FuncData} (A_check_integer : DefAt K mg "check_integer" s_check_integer ["value", "least", "most"] f_check_integer d_check_integer) (G_check_integer : FnOk P w K mg base CX0 2 f_check_integer d_check_integer ["value", "least", "most"] (spM K 3 [] Lib.F_check_integer)) {f_raised : Addr} {d_raised : FuncData} (A_raised : DefAt K mg "raised" s_raised ["field", "number", "many"] f_raised d_raised) (G_raised : FnOk P w K mg base CX0 1 f_raised d_raised ["field", "number", "many"] (spM K 3 [] Lib.F_raised)) : FnOk P w K mg base CX0 4 f_power d_power ["field", "number", "many"] (spM K 3 [] Lib.F_power) :=
  def_ok A_power.fn sc_power rfl fun cdv A outer s H E hr =>
    (ss_cons (s_expr (ev_fn (fun _ => G_check_field) (fun _ => hr.mono (by decide)) (fun _ => A_check_field.g) (fun _ => A_check_field.fn.kp) (fun _ => A_check_field.b) (ea_cons (ev_name 0) ea_nil) (na_cons na_nil)))
    (ss_cons (s_expr (ev_fn (fun _ => G_check_number) (fun _ => hr.mono (by decide)) (fun _ => A_check_number.g) (fun _ => A_check_number.fn.kp) (fun _ => A_check_number.b) (ea_cons (ev_name 0) (ea_cons (ev_name 1) ea_nil)) (na_cons (na_cons na_nil))))
    (ss_cons (s_expr (ev_fn (fun _ => G_check_integer) (fun _ => hr.mono (by decide)) (fun _ => A_check_integer.g) (fun _ => A_check_integer.fn.kp) (fun _ => A_check_integer.b) (ea_cons (ev_name 2) (ea_cons ev_int (ea_cons (ev_glob (fun _ => rfl) (fun _ => T.c_MAX_POWER.choose_spec.1) T.c_MAX_POWER.choose_spec.2.1 T.c_MAX_POWER.choose_spec.2.2) ea_nil))) (na_cons (na_cons (na_cons na_nil)))))
    (ss_one (s_ret (ev_fn (fun _ => G_raised) (fun _ => hr.mono (by decide)) (fun _ => A_raised.g) (fun _ => A_raised.fn.kp) (fun _ => A_raised.b) (ea_cons (ev_name 0) (ea_cons (ev_name 1) (ea_cons (ev_name 2) ea_nil))) (na_cons (na_cons (na_cons na_nil)))))))))
theorem ok_power_sum (T : Txt K mg) {f_power_sum : Addr} {d_power_sum : FuncData} (A_power_sum : DefAt K mg "power_sum" s_power_sum ["field", "many"] f_power_sum d_power_sum) {f_check_field : Addr} {d_check_field : FuncData} (A_check_field : DefAt K mg "check_field" s_check_field ["field"] f_check_field d_check_field) (G_check_field : FnOk P w K mg base CX0 3 f_check_field d_check_field ["field"] (spM K 1 [] Lib.F_check_field)) {f_check_integer : Addr} {d_check_integer : FuncData} (A_check_integer : DefAt K mg "check_integer" s_check_integer ["value", "least", "most"] f_check_integer d_check_integer) (G_check_integer : FnOk P w K mg base CX0 2 f_check_integer d_check_integer ["value", "least", "most"] (spM K 3 [] Lib.F_check_integer)) : FnOk P w K mg base CX0 4 f_power_sum d_power_sum ["field", "many"] (spM K 2 [] Lib.F_power_sum) :=
  def_ok A_power_sum.fn sc_power_sum rfl fun cdv A outer s H E hr =>
    (ss_cons (s_expr (ev_fn (fun _ => G_check_field) (fun _ => hr.mono (by decide)) (fun _ => A_check_field.g) (fun _ => A_check_field.fn.kp) (fun _ => A_check_field.b) (ea_cons (ev_name 0) ea_nil) (na_cons na_nil)))
    (ss_cons (s_expr (ev_fn (fun _ => G_check_integer) (fun _ => hr.mono (by decide)) (fun _ => A_check_integer.g) (fun _ => A_check_integer.fn.kp) (fun _ => A_check_integer.b) (ea_cons (ev_name 1) (ea_cons ev_int (ea_cons (ev_glob (fun _ => rfl) (fun _ => T.c_MAX_POWER.choose_spec.1) T.c_MAX_POWER.choose_spec.2.1 T.c_MAX_POWER.choose_spec.2.2) ea_nil))) (na_cons (na_cons (na_cons na_nil)))))
    (ss_one (s_ret (ev_if (et_w (ew_and (et_cmp od_gt (ev_name 1) ev_int) (ew_and1 (et_cmp (od_eq (fun _ => hr.units)) (ev_bin od_mod (ev_name 1) (ev_bin od_sub (ev_name 0) ev_int)) ev_int)))) (ev_bin od_sub (ev_name 0) ev_int) ev_int)))))
theorem ok__law_dice (T : Txt K mg) {f__law_dice : Addr} {d__law_dice : FuncData} (A__law_dice : DefAt K mg "_law_dice" s__law_dice ["script", "spot"] f__law_dice d__law_dice) : FnOk P w K mg base CX0 1 f__law_dice d__law_dice ["script", "spot"] (spM K 2 [] Lib.F__law_dice) :=
  def_ok A__law_dice.fn sc__law_dice rfl fun cdv A outer s H E hr =>
    (ss_cons (s_set 2 (ev_if (et_cmp od_lt (ev_name 1) (ev_callB cd_len (fun _ => T.n_len) (ea_cons (ev_name 0) ea_nil))) (ev_callTy cd_int (fun _ => T.n_int) (ea_cons (ev_ix (ev_name 0) (ev_name 1)) ea_nil)) (ev_bin od_add (ev_bin od_mul ev_int (ev_name 1)) ev_int)) (fun _ => sc__law_dice.nd))
    (ss_cons (s_set 3 (ev_bin od_mod (ev_callB (cd_max (fun _ => rfl)) (fun _ => T.n_max) (ea_cons ev_int (ea_cons (ev_bin od_sub (ev_callB cd_abs (fun _ => T.n_abs) (ea_cons (ev_name 2) ea_nil)) (ev_bin od_pow ev_int ev_int)) ea_nil))) (ev_bin od_mul (ev_bin od_pow ev_int ev_int) (ev_bin od_pow ev_int ev_int))) (fun _ => sc__law_dice.nd))
    (ss_one (s_ret (ev_lst (ea_cons (ev_name 3) (ea_cons (ev_bin od_add (ev_bin od_add (ev_bin od_add (ev_bin od_mul (ev_bin od_mod (ev_callB cd_abs (fun _ => T.n_abs) (ea_cons (ev_name 2) ea_nil)) ev_int) ev_int) (ev_bin od_mul ev_int (ev_name 1))) (ev_bin od_mul ev_int (ev_callTy cd_int (fun _ => T.n_int) (ea_cons (ev_cmp od_lt (ev_name 2) ev_int) ea_nil)))) ev_int) (ea_cons ev_int ea_nil))))))))
theorem ok__law_roll (T : Txt K mg) {f__law_roll : Addr} {d__law_roll : FuncData} (A__law_roll : DefAt K mg "_law_roll" s__law_roll ["dice", "most"] f__law_roll d__law_roll) : FnOk P w K mg base CX0 1 f__law_roll d__law_roll ["dice", "most"] (spM K 2 [0] Lib.F__law_roll) :=
  def_ok A__law_roll.fn sc__law_roll rfl fun cdv A outer s H E hr =>
    (ss_cons (s_if (et_cmp od_gt (ev_ix (ev_name 0) ev_int) ev_int) (ss_cons (s_set 2 (ev_bin od_mod (ev_callTy cd_int (fun _ => T.n_int) (ea_cons (ev_ix (ev_name 0) ev_int) ea_nil)) (ev_name 1)) (fun _ => sc__law_roll.nd))
    (ss_cons (s_setix 0 (ev_bin od_fdiv (ev_ix (ev_name 0) ev_int) (ev_name 1)) ev_int)
    (ss_one (s_ret (ev_name 2))))) ss_nil)
    (ss_cons (s_setix 0 (ev_bin od_add (ev_ix (ev_name 0) ev_int) ev_int) ev_int)
    (ss_cons (s_set 3 (ev_bin od_mod (ev_callTy cd_int (fun _ => T.n_int) (ea_cons (ev_bin od_add (ev_ix (ev_name 0) ev_int) (ev_bin od_mul ev_int (ev_ix (ev_name 0) ev_int))) ea_nil)) ev_int) (fun _ => sc__law_roll.nd))
    (ss_cons (s_set 4 (ev_bin od_add (ev_bin od_mul (ev_bin od_mod (ev_callTy cd_int (fun _ => T.n_int) (ea_cons (ev_bin od_add (ev_bin od_mul (ev_name 3) (ev_name 3)) (ev_bin od_mul ev_int (ev_ix (ev_name 0) ev_int))) ea_nil)) ev_int) ev_int) (ev_name 3)) (fun _ => sc__law_roll.nd))
    (ss_one (s_ret (ev_bin od_mod (ev_callTy cd_int (fun _ => T.n_int) (ea_cons (ev_bin od_fdiv (ev_name 4) ev_int) ea_nil)) (ev_name 1))))))))
theorem ok__law_pick (T : Txt K mg) {f__law_pick : Addr} {d__law_pick : FuncData} (A__law_pick : DefAt K mg "_law_pick" s__law_pick ["dice", "items"] f__law_pick d__law_pick) {f__law_roll : Addr} {d__law_roll : FuncData} (A__law_roll : DefAt K mg "_law_roll" s__law_roll ["dice", "most"] f__law_roll d__law_roll) (G__law_roll : FnOk P w K mg base CX0 1 f__law_roll d__law_roll ["dice", "most"] (spM K 2 [0] Lib.F__law_roll)) : FnOk P w K mg base CX0 2 f__law_pick d__law_pick ["dice", "items"] (spM K 2 [0] Lib.F__law_pick) :=
  def_ok A__law_pick.fn sc__law_pick rfl fun cdv A outer s H E hr =>
    (ss_one (s_ret (ev_ix (ev_name 1) (ev_fnD (fun _ => G__law_roll) (fun _ => hr.mono (by decide)) (fun _ => A__law_roll.g) (fun _ => A__law_roll.fn.kp) (fun _ => A__law_roll.b) (ea_cons (ev_name 0) (ea_cons (ev_callB cd_len (fun _ => T.n_len) (ea_cons (ev_name 1) ea_nil)) ea_nil)) (na_cons (na_cons na_nil))))))
theorem ok__law_fd_primes (T : Txt K mg) {f__law_fd_primes : Addr} {d__law_fd_primes : FuncData} (A__law_fd_primes : DefAt K mg "_law_fd_primes" s__law_fd_primes [] f__law_fd_primes d__law_fd_primes) : FnOk P w K mg base CX0 1 f__law_fd_primes d__law_fd_primes [] (spM K 0 [] Lib.F__law_fd_primes) :=
  def_ok A__law_fd_primes.fn sc__law_fd_primes rfl fun cdv A outer s H E hr =>
    (ss_one (s_ret (ev_lst (ea_cons ev_int (ea_cons ev_int (ea_cons ev_int (ea_cons ev_int (ea_cons ev_int (ea_cons ev_int (ea_cons ev_int (ea_cons ev_int (ea_cons ev_int (ea_cons ev_int (ea_cons ev_int (ea_cons ev_int ea_nil)))))))))))))))
theorem ok__law_fd_undone (T : Txt K mg) {f__law_fd_undone : Addr} {d__law_fd_undone : FuncData} (A__law_fd_undone : DefAt K mg "_law_fd_undone" s__law_fd_undone ["field_here", "number"] f__law_fd_undone d__law_fd_undone) : FnOk P w K mg base CX0 1 f__law_fd_undone d__law_fd_undone ["field_here", "number"] (spM K 2 [] Lib.F__law_fd_undone) :=
  def_ok A__law_fd_undone.fn sc__law_fd_undone rfl fun cdv A outer s H E hr =>
    (ss_cons (s_for (fun _ => PassesOwn.never) (fun _ => rfl) (ei_range2 (fun _ => T.n_range) (ea_cons ev_int (ea_cons (ev_name 0) ea_nil))) (eg_name 2 (fun _ => sc__law_fd_undone.nd)) (ss_one (s_if (et_cmp (od_eq (fun _ => hr.units)) (ev_bin od_mod (ev_bin od_mul (ev_name 2) (ev_name 1)) (ev_name 0)) ev_int) (ss_one (s_ret (ev_name 2))) ss_nil)))
    (ss_one (s_ret ev_non)))
theorem ok__law_is_prime (T : Txt K mg) {f__law_is_prime : Addr} {d__law_is_prime : FuncData} (A__law_is_prime : DefAt K mg "_law_is_prime" s__law_is_prime ["value"] f__law_is_prime d__law_is_prime) : FnOk P w K mg base CX0 1 f__law_is_prime d__law_is_prime ["value"] (spM K 1 [] Lib.F__law_is_prime) :=
  def_ok A__law_is_prime.fn sc__law_is_prime rfl fun cdv A outer s H E hr =>
    (ss_cons (s_if (et_w (ew_or (et_not (et_tru (ev_isi (T := "int") (ev_name 0) (fun _ => T.n_isinstance) (fun _ => T.n_int)))) (ew_or (et_tru (ev_isi (T := "bool") (ev_name 0) (fun _ => T.n_isinstance) (fun _ => T.n_bool))) (ew_or1 (et_not (et_chain od_le od_le d1_le ev_int (ev_name 0) ev_int)))))) (ss_one (s_ret ev_bl)) ss_nil)
    (ss_one (s_ret (ev_cmp (od_eq (fun _ => hr.units)) (ev_comp (own := [("part", 1)]) (fun _ => rfl) (fun _ => sc__law_is_prime.nd) (fun _ => by show BlkOk N__law_is_prime (defScope s__law_is_prime) _ _; exact blkOk_by (by decide +kernel)) (ei_range2 (fun _ => T.n_range) (ea_cons ev_int (ea_cons (ev_name 0) ea_nil))) (eg_name 1 (fun _ => sc__law_is_prime.nd)) (ets_one (et_cmp (od_eq (fun _ => hr.units)) (ev_bin od_mod (ev_callTy cd_int (fun _ => T.n_int) (ea_cons (ev_name 0) ea_nil)) (ev_name 1)) ev_int)) (ev_name 1)) (ev_lst ea_nil)))))
theorem ok__law_powers (T : Txt K mg) {f__law_powers : Addr} {d__law_powers : FuncData} (A__law_powers : DefAt K mg "_law_powers" s__law_powers ["p", "number", "many"] f__law_powers d__law_powers) : FnOk P w K mg base CX0 1 f__law_powers d__law_powers ["p", "number", "many"] (spM K 3 [] Lib.F__law_powers) :=
  def_ok A__law_powers.fn sc__law_powers rfl fun cdv A outer s H E hr =>
    (ss_cons (s_par2 3 4 (ea_cons (ev_lst ea_nil) (ea_cons ev_int ea_nil)) (fun _ => rfl) (fun _ => sc__law_powers.nd))
    (ss_cons (s_for (fun _ => PassesOwn.never) (fun _ => rfl) (ei_range1 (fun _ => T.n_range) (ea_cons (ev_name 2) ea_nil)) (eg_name 5 (fun _ => sc__law_powers.nd)) (ss_cons (s_app 3 (ev_name 4))
    (ss_one (s_set 4 (ev_bin od_mod (ev_callTy cd_int (fun _ => T.n_int) (ea_cons (ev_bin od_mul (ev_name 4) (ev_name 1)) ea_nil)) (ev_name 0)) (fun _ => sc__law_powers.nd)))))
    (ss_one (s_ret (ev_name 3)))))
theorem ok__law_great_power (T : Txt K mg) {f__law_great_power : Addr} {d__law_great_power : FuncData} (A__law_great_power : DefAt K mg "_law_great_power" s__law_great_power ["p", "number", "many"] f__law_great_power d__law_great_power) : FnOk P w K mg base CX0 1 f__law_great_power d__law_great_power ["p", "number", "many"] (spM K 3 [] Lib.F__law_great_power) :=
  def_ok A__law_great_power.fn sc__law_great_power rfl fun cdv A outer s H E hr =>
    (ss_cons (s_par2 3 4 (ea_cons ev_int (ea_cons (ev_lst ea_nil) ea_nil)) (fun _ => rfl) (fun _ => sc__law_great_power.nd))
    (ss_cons (s_for (fun _ => PassesOwn.never) (fun _ => rfl) (ei_range1 (fun _ => T.n_range) (ea_cons ev_int ea_nil)) (eg_name 5 (fun _ => sc__law_great_power.nd)) (ss_cons (s_app 4 (ev_bin od_mod (ev_callTy cd_int (fun _ => T.n_int) (ea_cons (ev_name 2) ea_nil)) ev_int))
    (ss_one (s_set 2 (ev_bin od_fdiv (ev_name 2) ev_int) (fun _ => sc__law_great_power.nd)))))
    (ss_cons (s_for (fun _ => PassesOwn.never) (fun _ => rfl) (ei_val (ev_rev (ev_name 4))) (eg_name 6 (fun _ => sc__law_great_power.nd)) (ss_cons (s_set 3 (ev_bin od_mod (ev_callTy cd_int (fun _ => T.n_int) (ea_cons (ev_bin od_mul (ev_name 3) (ev_name 3)) ea_nil)) (ev_name 0)) (fun _ => sc__law_great_power.nd))
    (ss_one (s_set 3 (ev_if (et_cmp (od_eq (fun _ => hr.units)) (ev_name 6) ev_int) (ev_bin od_mod (ev_callTy cd_int (fun _ => T.n_int) (ea_cons (ev_bin od_mul (ev_name 3) (ev_name 1)) ea_nil)) (ev_name 0)) (ev_name 3)) (fun _ => sc__law_great_power.nd)))))
    (ss_one (s_ret (ev_name 3))))))
theorem ok__law_right (T : Txt K mg) {f__law_right : Addr} {d__law_right : FuncData} (A__law_right : DefAt K mg "_law_right" s__law_right ["dice"] f__law_right d__law_right) {f__law_pick : Addr} {d__law_pick : FuncData} (A__law_pick : DefAt K mg "_law_pick" s__law_pick ["dice", "items"] f__law_pick d__law_pick) (G__law_pick : FnOk P w K mg base CX0 2 f__law_pick d__law_pick ["dice", "items"] (spM K 2 [0] Lib.F__law_pick)) {f__law_fd_primes : Addr} {d__law_fd_primes : FuncData} (A__law_fd_primes : DefAt K mg "_law_fd_primes" s__law_fd_primes [] f__law_fd_primes d__law_fd_primes) (G__law_fd_primes : FnOk P w K mg base CX0 1 f__law_fd_primes d__law_fd_primes [] (spM K 0 [] Lib.F__law_fd_primes)) {f__law_roll : Addr} {d__law_roll : FuncData} (A__law_roll : DefAt K mg "_law_roll" s__law_roll ["dice", "most"] f__law_roll d__law_roll) (G__law_roll : FnOk P w K mg base CX0 1 f__law_roll d__law_roll ["dice", "most"] (spM K 2 [0] Lib.F__law_roll)) {f_plus : Addr} {d_plus : FuncData} (A_plus : DefAt K mg "plus" s_plus ["field", "one", "other"] f_plus d_plus) (G_plus : FnOk P w K mg base CX0 5 f_plus d_plus ["field", "one", "other"] (spM K 3 [] Lib.F_plus)) {f_minus : Addr} {d_minus : FuncData} (A_minus : DefAt K mg "minus" s_minus ["field", "one", "other"] f_minus d_minus) (G_minus : FnOk P w K mg base CX0 5 f_minus d_minus ["field", "one", "other"] (spM K 3 [] Lib.F_minus)) {f_times : Addr} {d_times : FuncData} (A_times : DefAt K mg "times" s_times ["field", "one", "other"] f_times d_times) (G_times : FnOk P w K mg base CX0 5 f_times d_times ["field", "one", "other"] (spM K 3 [] Lib.F_times)) {f_undone : Addr} {d_undone : FuncData} (A_undone : DefAt K mg "undone" s_undone ["field", "number"] f_undone d_undone) (G_undone : FnOk P w K mg base CX0 4 f_undone d_undone ["field", "number"] (spM K 2 [] Lib.F_undone)) {f__law_fd_undone : Addr} {d__law_fd_undone : FuncData} (A__law_fd_undone : DefAt K mg "_law_fd_undone" s__law_fd_undone ["field_here", "number"] f__law_fd_undone d__law_fd_undone) (G__law_fd_undone : FnOk P w K mg base CX0 1 f__law_fd_undone d__law_fd_undone ["field_here", "number"] (spM K 2 [] Lib.F__law_fd_undone)) {f__law_powers : Addr} {d__law_powers : FuncData} (A__law_powers : DefAt K mg "_law_powers" s__law_powers ["p", "number", "many"] f__law_powers d__law_powers) (G__law_powers : FnOk P w K mg base CX0 1 f__law_powers d__law_powers ["p", "number", "many"] (spM K 3 [] Lib.F__law_powers)) {f_power : Addr} {d_power : FuncData} (A_power : DefAt K mg "power" s_power ["field", "number", "many"] f_power d_power) (G_power : FnOk P w K mg base CX0 4 f_power d_power ["field", "number", "many"] (spM K 3 [] Lib.F_power)) {f__law_great_power : Addr} {d__law_great_power : FuncData} (A__law_great_power : DefAt K mg "_law_great_power" s__law_great_power ["p", "number", "many"] f__law_great_power d__law_great_power) (G__law_great_power : FnOk P w K mg base CX0 1 f__law_great_power d__law_great_power ["p", "number", "many"] (spM K 3 [] Lib.F__law_great_power)) {f_power_sum : Addr} {d_power_sum : FuncData} (A_power_sum : DefAt K mg "power_sum" s_power_sum ["field", "many"] f_power_sum d_power_sum) (G_power_sum : FnOk P w K mg base CX0 4 f_power_sum d_power_sum ["field", "many"] (spM K 2 [] Lib.F_power_sum)) : FnOk P w K mg base CX0 6 f__law_right d__law_right ["dice"] (spM K 1 [0] F__law_right) :=
  def_ok A__law_right.fn sc__law_right rfl fun cdv A outer s H E hr =>
    (ss_cons (s_set 1 (ev_fnD (fun _ => G__law_pick) (fun _ => hr.mono (by decide)) (fun _ => A__law_pick.g) (fun _ => A__law_pick.fn.kp) (fun _ => A__law_pick.b) (ea_cons (ev_name 0) (ea_cons (ev_fn0 (fun _ => G__law_fd_primes) (fun _ => hr.mono (by decide)) (fun _ => A__law_fd_primes.g) (fun _ => A__law_fd_primes.fn.kp) (fun _ => A__law_fd_primes.b)) ea_nil)) (na_cons (na_cons na_nil))) (fun _ => sc__law_right.nd))
    (ss_cons (s_parT [2, 3] (ea_cons (ev_fnD (fun _ => G__law_roll) (fun _ => hr.mono (by decide)) (fun _ => A__law_roll.g) (fun _ => A__law_roll.fn.kp) (fun _ => A__law_roll.b) (ea_cons (ev_name 0) (ea_cons (ev_name 1) ea_nil)) (na_cons (na_cons na_nil))) (ea_cons (ev_fnD (fun _ => G__law_pick) (fun _ => hr.mono (by decide)) (fun _ => A__law_pick.g) (fun _ => A__law_pick.fn.kp) (fun _ => A__law_pick.b) (ea_cons (ev_name 0) (ea_cons (ev_lst (ea_cons ev_int (ea_cons ev_int (ea_cons (ev_bin od_sub (ev_name 1) ev_int) (ea_cons (ev_fnD (fun _ => G__law_roll) (fun _ => hr.mono (by decide)) (fun _ => A__law_roll.g) (fun _ => A__law_roll.fn.kp) (fun _ => A__law_roll.b) (ea_cons (ev_name 0) (ea_cons (ev_name 1) ea_nil)) (na_cons (na_cons na_nil))) ea_nil))))) ea_nil)) (na_cons (na_cons na_nil))) ea_nil)) (fun _ => rfl) (fun _ => (pgs_cons (pg_name (i := 2) sc__law_right.nd rfl (by first | exact Or.inl rfl | exact Or.inr rfl)) (pgs_cons (pg_name (i := 3) sc__law_right.nd rfl (by first | exact Or.inl rfl | exact Or.inr rfl)) pgs_nil))))
    (ss_cons (s_if (et_w (ew_or (et_cmp (od_ne (fun _ => hr.units)) (ev_fn (fun _ => G_plus) (fun _ => hr.mono (by decide)) (fun _ => A_plus.g) (fun _ => A_plus.fn.kp) (fun _ => A_plus.b) (ea_cons (ev_name 1) (ea_cons (ev_name 2) (ea_cons (ev_name 3) ea_nil))) (na_cons (na_cons (na_cons na_nil)))) (ev_bin od_mod (ev_callTy cd_int (fun _ => T.n_int) (ea_cons (ev_bin od_add (ev_name 2) (ev_name 3)) ea_nil)) (ev_name 1))) (ew_or1 (et_cmp (od_ne (fun _ => hr.units)) (ev_fn (fun _ => G_minus) (fun _ => hr.mono (by decide)) (fun _ => A_minus.g) (fun _ => A_minus.fn.kp) (fun _ => A_minus.b) (ea_cons (ev_name 1) (ea_cons (ev_name 2) (ea_cons (ev_name 3) ea_nil))) (na_cons (na_cons (na_cons na_nil)))) (ev_bin od_mod (ev_callTy cd_int (fun _ => T.n_int) (ea_cons (ev_bin od_sub (ev_name 2) (ev_name 3)) ea_nil)) (ev_name 1)))))) (ss_one (s_ret ev_bl)) ss_nil)
    (ss_cons (s_if (et_w (ew_or (et_cmp (od_ne (fun _ => hr.units)) (ev_fn (fun _ => G_times) (fun _ => hr.mono (by decide)) (fun _ => A_times.g) (fun _ => A_times.fn.kp) (fun _ => A_times.b) (ea_cons (ev_name 1) (ea_cons (ev_name 2) (ea_cons (ev_name 3) ea_nil))) (na_cons (na_cons (na_cons na_nil)))) (ev_bin od_mod (ev_callTy cd_int (fun _ => T.n_int) (ea_cons (ev_bin od_mul (ev_name 2) (ev_name 3)) ea_nil)) (ev_name 1))) (ew_or1 (et_cmp (od_ne (fun _ => hr.units)) (ev_fn (fun _ => G_times) (fun _ => hr.mono (by decide)) (fun _ => A_times.g) (fun _ => A_times.fn.kp) (fun _ => A_times.b) (ea_cons (ev_name 1) (ea_cons (ev_name 3) (ea_cons (ev_name 2) ea_nil))) (na_cons (na_cons (na_cons na_nil)))) (ev_fn (fun _ => G_times) (fun _ => hr.mono (by decide)) (fun _ => A_times.g) (fun _ => A_times.fn.kp) (fun _ => A_times.b) (ea_cons (ev_name 1) (ea_cons (ev_name 2) (ea_cons (ev_name 3) ea_nil))) (na_cons (na_cons (na_cons na_nil)))))))) (ss_one (s_ret ev_bl)) ss_nil)
    (ss_cons (s_if (et_w (ew_and (et_cmp od_gt (ev_name 2) ev_int) (ew_and1 (et_w (ew_or (et_cmp (od_ne (fun _ => hr.units)) (ev_fn (fun _ => G_undone) (fun _ => hr.mono (by decide)) (fun _ => A_undone.g) (fun _ => A_undone.fn.kp) (fun _ => A_undone.b) (ea_cons (ev_name 1) (ea_cons (ev_name 2) ea_nil)) (na_cons (na_cons na_nil))) (ev_fn (fun _ => G__law_fd_undone) (fun _ => hr.mono (by decide)) (fun _ => A__law_fd_undone.g) (fun _ => A__law_fd_undone.fn.kp) (fun _ => A__law_fd_undone.b) (ea_cons (ev_name 1) (ea_cons (ev_name 2) ea_nil)) (na_cons (na_cons na_nil)))) (ew_or1 (et_cmp (od_ne (fun _ => hr.units)) (ev_fn (fun _ => G_times) (fun _ => hr.mono (by decide)) (fun _ => A_times.g) (fun _ => A_times.fn.kp) (fun _ => A_times.b) (ea_cons (ev_name 1) (ea_cons (ev_name 2) (ea_cons (ev_fn (fun _ => G_undone) (fun _ => hr.mono (by decide)) (fun _ => A_undone.g) (fun _ => A_undone.fn.kp) (fun _ => A_undone.b) (ea_cons (ev_name 1) (ea_cons (ev_name 2) ea_nil)) (na_cons (na_cons na_nil))) ea_nil))) (na_cons (na_cons (na_cons na_nil)))) ev_int))))))) (ss_one (s_ret ev_bl)) ss_nil)
    (ss_cons (s_set 4 (ev_fn (fun _ => G__law_powers) (fun _ => hr.mono (by decide)) (fun _ => A__law_powers.g) (fun _ => A__law_powers.fn.kp) (fun _ => A__law_powers.b) (ea_cons (ev_name 1) (ea_cons (ev_name 2) (ea_cons ev_int ea_nil))) (na_cons (na_cons (na_cons na_nil)))) (fun _ => sc__law_right.nd))
    (ss_cons (s_if (et_cmp (od_ne (fun _ => hr.units)) (ev_comp (own := [("many", 8)]) (fun _ => rfl) (fun _ => sc__law_right.nd) (fun _ => by show BlkOk N__law_right (defScope s__law_right) _ _; exact blkOk_by (by decide +kernel)) (ei_range1 (fun _ => T.n_range) (ea_cons ev_int ea_nil)) (eg_name 8 (fun _ => sc__law_right.nd)) ets_nil (ev_fn (fun _ => G_power) (fun _ => hr.mono (by decide)) (fun _ => A_power.g) (fun _ => A_power.fn.kp) (fun _ => A_power.b) (ea_cons (ev_name 1) (ea_cons (ev_name 2) (ea_cons (ev_name 8) ea_nil))) (na_cons (na_cons (na_cons na_nil))))) (ev_name 4)) (ss_one (s_ret ev_bl)) ss_nil)
    (ss_cons (s_set 5 (ev_fnD (fun _ => G__law_pick) (fun _ => hr.mono (by decide)) (fun _ => A__law_pick.g) (fun _ => A__law_pick.fn.kp) (fun _ => A__law_pick.b) (ea_cons (ev_name 0) (ea_cons (ev_lst (ea_cons (ev_bin od_sub (ev_name 1) ev_int) (ea_cons (ev_name 1) (ea_cons (ev_bin od_pow ev_int ev_int) (ea_cons (ev_fnD (fun _ => G__law_roll) (fun _ => hr.mono (by decide)) (fun _ => A__law_roll.g) (fun _ => A__law_roll.fn.kp) (fun _ => A__law_roll.b) (ea_cons (ev_name 0) (ea_cons (ev_bin od_pow ev_int ev_int) ea_nil)) (na_cons (na_cons na_nil))) (ea_cons (ev_bin od_mul (ev_bin od_sub (ev_name 1) ev_int) (ev_bin od_add ev_int (ev_fnD (fun _ => G__law_roll) (fun _ => hr.mono (by decide)) (fun _ => A__law_roll.g) (fun _ => A__law_roll.fn.kp) (fun _ => A__law_roll.b) (ea_cons (ev_name 0) (ea_cons ev_int ea_nil)) (na_cons (na_cons na_nil))))) ea_nil)))))) ea_nil)) (na_cons (na_cons na_nil))) (fun _ => sc__law_right.nd))
    (ss_cons (s_if (et_cmp (od_ne (fun _ => hr.units)) (ev_fn (fun _ => G_power) (fun _ => hr.mono (by decide)) (fun _ => A_power.g) (fun _ => A_power.fn.kp) (fun _ => A_power.b) (ea_cons (ev_name 1) (ea_cons (ev_name 2) (ea_cons (ev_name 5) ea_nil))) (na_cons (na_cons (na_cons na_nil)))) (ev_fn (fun _ => G__law_great_power) (fun _ => hr.mono (by decide)) (fun _ => A__law_great_power.g) (fun _ => A__law_great_power.fn.kp) (fun _ => A__law_great_power.b) (ea_cons (ev_name 1) (ea_cons (ev_name 2) (ea_cons (ev_name 5) ea_nil))) (na_cons (na_cons (na_cons na_nil))))) (ss_one (s_ret ev_bl)) ss_nil)
    (ss_cons (s_if (et_cmp (od_ne (fun _ => hr.units)) (ev_fn (fun _ => G_minus) (fun _ => hr.mono (by decide)) (fun _ => A_minus.g) (fun _ => A_minus.fn.kp) (fun _ => A_minus.b) (ea_cons (ev_name 1) (ea_cons ev_int (ea_cons (ev_fn (fun _ => G_power) (fun _ => hr.mono (by decide)) (fun _ => A_power.g) (fun _ => A_power.fn.kp) (fun _ => A_power.b) (ea_cons (ev_name 1) (ea_cons (ev_fn (fun _ => G_minus) (fun _ => hr.mono (by decide)) (fun _ => A_minus.g) (fun _ => A_minus.fn.kp) (fun _ => A_minus.b) (ea_cons (ev_name 1) (ea_cons (ev_name 2) (ea_cons (ev_name 3) ea_nil))) (na_cons (na_cons (na_cons na_nil)))) (ea_cons (ev_bin od_sub (ev_name 1) ev_int) ea_nil))) (na_cons (na_cons (na_cons na_nil)))) ea_nil))) (na_cons (na_cons (na_cons na_nil)))) (ev_callTy cd_int (fun _ => T.n_int) (ea_cons (ev_cmp (od_eq (fun _ => hr.units)) (ev_name 2) (ev_name 3)) ea_nil))) (ss_one (s_ret ev_bl)) ss_nil)
    (ss_cons (s_set 6 (ev_fnD (fun _ => G__law_pick) (fun _ => hr.mono (by decide)) (fun _ => A__law_pick.g) (fun _ => A__law_pick.fn.kp) (fun _ => A__law_pick.b) (ea_cons (ev_name 0) (ea_cons (ev_lst (ea_cons ev_int (ea_cons ev_int (ea_cons ev_int (ea_cons (ev_bin od_sub (ev_name 1) ev_int) (ea_cons (ev_bin od_sub (ev_name 1) ev_int) (ea_cons (ev_bin od_mul ev_int (ev_bin od_sub (ev_name 1) ev_int)) (ea_cons (ev_fnD (fun _ => G__law_roll) (fun _ => hr.mono (by decide)) (fun _ => A__law_roll.g) (fun _ => A__law_roll.fn.kp) (fun _ => A__law_roll.b) (ea_cons (ev_name 0) (ea_cons ev_int ea_nil)) (na_cons (na_cons na_nil))) ea_nil)))))))) ea_nil)) (na_cons (na_cons na_nil))) (fun _ => sc__law_right.nd))
    (ss_cons (s_set 7 (ev_callB (cd_sum (fun _ => rfl)) (fun _ => T.n_sum) (ea_cons (ev_comp (own := [("number", 9)]) (fun _ => rfl) (fun _ => sc__law_right.nd) (fun _ => by show BlkOk N__law_right (defScope s__law_right) _ _; exact blkOk_by (by decide +kernel)) (ei_range1 (fun _ => T.n_range) (ea_cons (ev_name 1) ea_nil)) (eg_name 9 (fun _ => sc__law_right.nd)) ets_nil (ev_fn (fun _ => G__law_great_power) (fun _ => hr.mono (by decide)) (fun _ => A__law_great_power.g) (fun _ => A__law_great_power.fn.kp) (fun _ => A__law_great_power.b) (ea_cons (ev_name 1) (ea_cons (ev_name 9) (ea_cons (ev_name 6) ea_nil))) (na_cons (na_cons (na_cons na_nil))))) ea_nil)) (fun _ => sc__law_right.nd))
    (ss_one (s_ret (ev_cmp (od_eq (fun _ => hr.units)) (ev_fn (fun _ => G_power_sum) (fun _ => hr.mono (by decide)) (fun _ => A_power_sum.g) (fun _ => A_power_sum.fn.kp) (fun _ => A_power_sum.b) (ea_cons (ev_name 1) (ea_cons (ev_name 6) ea_nil)) (na_cons (na_cons na_nil))) (ev_bin od_mod (ev_callTy cd_int (fun _ => T.n_int) (ea_cons (ev_name 7) ea_nil)) (ev_name 1)))))))))))))))))
theorem ok__law_judged (T : Txt K mg) {f__law_judged : Addr} {d__law_judged : FuncData} (A__law_judged : DefAt K mg "_law_judged" s__law_judged ["dice"] f__law_judged d__law_judged) {f__law_roll : Addr} {d__law_roll : FuncData} (A__law_roll : DefAt K mg "_law_roll" s__law_roll ["dice", "most"] f__law_roll d__law_roll) (G__law_roll : FnOk P w K mg base CX0 1 f__law_roll d__law_roll ["dice", "most"] (spM K 2 [0] Lib.F__law_roll)) {f_is_field : Addr} {d_is_field : FuncData} (A_is_field : DefAt K mg "is_field" s_is_field ["value"] f_is_field d_is_field) (G_is_field : FnOk P w K mg base CX0 2 f_is_field d_is_field ["value"] (spM K 1 [] Lib.F_is_field)) {f__law_is_prime : Addr} {d__law_is_prime : FuncData} (A__law_is_prime : DefAt K mg "_law_is_prime" s__law_is_prime ["value"] f__law_is_prime d__law_is_prime) (G__law_is_prime : FnOk P w K mg base CX0 1 f__law_is_prime d__law_is_prime ["value"] (spM K 1 [] Lib.F__law_is_prime)) {f__law_pick : Addr} {d__law_pick : FuncData} (A__law_pick : DefAt K mg "_law_pick" s__law_pick ["dice", "items"] f__law_pick d__law_pick) (G__law_pick : FnOk P w K mg base CX0 2 f__law_pick d__law_pick ["dice", "items"] (spM K 2 [0] Lib.F__law_pick)) {f__law_fd_primes : Addr} {d__law_fd_primes : FuncData} (A__law_fd_primes : DefAt K mg "_law_fd_primes" s__law_fd_primes [] f__law_fd_primes d__law_fd_primes) (G__law_fd_primes : FnOk P w K mg base CX0 1 f__law_fd_primes d__law_fd_primes [] (spM K 0 [] Lib.F__law_fd_primes)) {f_is_number : Addr} {d_is_number : FuncData} (A_is_number : DefAt K mg "is_number" s_is_number ["field", "value"] f_is_number d_is_number) (G_is_number : FnOk P w K mg base CX0 4 f_is_number d_is_number ["field", "value"] (spM K 2 [] Lib.F_is_number)) : FnOk P w K mg base CX0 5 f__law_judged d__law_judged ["dice"] (spM K 1 [0] F__law_judged) :=
  def_ok A__law_judged.fn sc__law_judged rfl fun cdv A outer s H E hr =>
    (ss_cons (s_set 1 (ev_bin od_sub (ev_fnD (fun _ => G__law_roll) (fun _ => hr.mono (by decide)) (fun _ => A__law_roll.g) (fun _ => A__law_roll.fn.kp) (fun _ => A__law_roll.b) (ea_cons (ev_name 0) (ea_cons ev_int ea_nil)) (na_cons (na_cons na_nil))) ev_int) (fun _ => sc__law_judged.nd))
    (ss_cons (s_for (fun _ => PassesOwn.never) (fun _ => rfl) (ei_range2 (fun _ => T.n_range) (ea_cons (ev_name 1) (ea_cons (ev_bin od_add (ev_name 1) ev_int) ea_nil))) (eg_name 2 (fun _ => sc__law_judged.nd)) (ss_one (s_if (et_cmp (od_ne (fun _ => hr.units)) (ev_callB cd_repr (fun _ => T.n_repr) (ea_cons (ev_fn (fun _ => G_is_field) (fun _ => hr.mono (by decide)) (fun _ => A_is_field.g) (fun _ => A_is_field.fn.kp) (fun _ => A_is_field.b) (ea_cons (ev_name 2) ea_nil) (na_cons na_nil)) ea_nil)) (ev_callB cd_repr (fun _ => T.n_repr) (ea_cons (ev_fn (fun _ => G__law_is_prime) (fun _ => hr.mono (by decide)) (fun _ => A__law_is_prime.g) (fun _ => A__law_is_prime.fn.kp) (fun _ => A__law_is_prime.b) (ea_cons (ev_name 2) ea_nil) (na_cons na_nil)) ea_nil))) (ss_one (s_ret ev_bl)) ss_nil)))
    (ss_cons (s_set 3 (ev_fnD (fun _ => G__law_pick) (fun _ => hr.mono (by decide)) (fun _ => A__law_pick.g) (fun _ => A__law_pick.fn.kp) (fun _ => A__law_pick.b) (ea_cons (ev_name 0) (ea_cons (ev_fn0 (fun _ => G__law_fd_primes) (fun _ => hr.mono (by decide)) (fun _ => A__law_fd_primes.g) (fun _ => A__law_fd_primes.fn.kp) (fun _ => A__law_fd_primes.b)) ea_nil)) (na_cons (na_cons na_nil))) (fun _ => sc__law_judged.nd))
    (ss_cons (s_set 4 (ev_lst (ea_cons ev_int (ea_cons (ev_bin od_sub (ev_name 3) ev_int) (ea_cons (ev_name 3) (ea_cons (ev_neg ev_int) (ea_cons ev_bl (ea_cons ev_bl (ea_cons ev_non (ea_cons ev_str (ea_cons (ev_tup (ea_cons ev_int ea_nil)) (ea_cons (ev_lst (ea_cons ev_int ea_nil)) (ea_cons ev_dict0 (ea_cons (ev_bin od_pow ev_int ev_int) (ea_cons (ev_fnD (fun _ => G__law_roll) (fun _ => hr.mono (by decide)) (fun _ => A__law_roll.g) (fun _ => A__law_roll.fn.kp) (fun _ => A__law_roll.b) (ea_cons (ev_name 0) (ea_cons (ev_bin od_mul ev_int (ev_name 3)) ea_nil)) (na_cons (na_cons na_nil))) ea_nil)))))))))))))) (fun _ => sc__law_judged.nd))
    (ss_cons (s_setLc 5 (own := [("value", 2)]) (fun _ => rfl) (fun _ => sc__law_judged.nd) (fun _ => by show BlkOk N__law_judged (defScope s__law_judged) _ _; exact blkOk_by (by decide +kernel)) (ei_val (ev_name 4)) (eg_name 2 (fun _ => sc__law_judged.nd)) ets_nil (ev_and (ev_isi (T := "int") (ev_name 2) (fun _ => T.n_isinstance) (fun _ => T.n_int)) (ev_and (ev_not (ev_isi (T := "bool") (ev_name 2) (fun _ => T.n_isinstance) (fun _ => T.n_bool))) (ev_one (ev_chain od_le od_lt d1_lt ev_int (ev_name 2) (ev_name 3))))))
    (ss_cons (s_if (et_cmp (od_ne (fun _ => hr.units)) (ev_comp (own := [("value", 2)]) (fun _ => rfl) (fun _ => sc__law_judged.nd) (fun _ => by show BlkOk N__law_judged (defScope s__law_judged) _ _; exact blkOk_by (by decide +kernel)) (ei_val (ev_name 4)) (eg_name 2 (fun _ => sc__law_judged.nd)) ets_nil (ev_callB cd_repr (fun _ => T.n_repr) (ea_cons (ev_fn (fun _ => G_is_number) (fun _ => hr.mono (by decide)) (fun _ => A_is_number.g) (fun _ => A_is_number.fn.kp) (fun _ => A_is_number.b) (ea_cons (ev_name 3) (ea_cons (ev_name 2) ea_nil)) (na_cons (na_cons na_nil))) ea_nil))) (ev_comp (own := [("one", 7)]) (fun _ => rfl) (fun _ => sc__law_judged.nd) (fun _ => by show BlkOk N__law_judged (defScope s__law_judged) _ _; exact blkOk_by (by decide +kernel)) (ei_val (ev_name 5)) (eg_name 7 (fun _ => sc__law_judged.nd)) ets_nil (ev_callB cd_repr (fun _ => T.n_repr) (ea_cons (ev_name 7) ea_nil)))) (ss_one (s_ret ev_bl)) ss_nil)
    (ss_cons (s_set 6 (ev_lst (ea_cons ev_non (ea_cons ev_bl (ea_cons ev_str (ea_cons (ev_tup (ea_cons ev_int ea_nil)) (ea_cons (ev_lst (ea_cons ev_int ea_nil)) (ea_cons ev_dict0 (ea_cons (ev_bin od_pow ev_int ev_int) (ea_cons (ev_bin od_sub ev_int (ev_bin od_pow ev_int ev_int)) (ea_cons (ev_neg ev_int) (ea_cons ev_int (ea_cons ev_int (ea_cons ev_int (ea_cons ev_int (ea_cons ev_int (ea_cons ev_int ea_nil)))))))))))))))) (fun _ => sc__law_judged.nd))
    (ss_one (s_ret (ev_cmp (od_eq (fun _ => hr.units)) (ev_comp (own := [("value", 2)]) (fun _ => rfl) (fun _ => sc__law_judged.nd) (fun _ => by show BlkOk N__law_judged (defScope s__law_judged) _ _; exact blkOk_by (by decide +kernel)) (ei_val (ev_name 6)) (eg_name 2 (fun _ => sc__law_judged.nd)) (ets_one (et_cmp od_isnot (ev_fn (fun _ => G_is_field) (fun _ => hr.mono (by decide)) (fun _ => A_is_field.g) (fun _ => A_is_field.fn.kp) (fun _ => A_is_field.b) (ea_cons (ev_name 2) ea_nil) (na_cons na_nil)) ev_bl)) (ev_name 2)) (ev_lst ea_nil)))))))))))
theorem ok_law (T : Txt K mg) {f_law : Addr} {d_law : FuncData} (A_law : DefAt K mg "law" s_law ["script"] f_law d_law) {f__law_dice : Addr} {d__law_dice : FuncData} (A__law_dice : DefAt K mg "_law_dice" s__law_dice ["script", "spot"] f__law_dice d__law_dice) (G__law_dice : FnOk P w K mg base CX0 1 f__law_dice d__law_dice ["script", "spot"] (spM K 2 [] Lib.F__law_dice)) {f__law_right : Addr} {d__law_right : FuncData} (A__law_right : DefAt K mg "_law_right" s__law_right ["dice"] f__law_right d__law_right) (G__law_right : FnOk P w K mg base CX0 6 f__law_right d__law_right ["dice"] (spM K 1 [0] F__law_right)) {f__law_judged : Addr} {d__law_judged : FuncData} (A__law_judged : DefAt K mg "_law_judged" s__law_judged ["dice"] f__law_judged d__law_judged) (G__law_judged : FnOk P w K mg base CX0 5 f__law_judged d__law_judged ["dice"] (spM K 1 [0] F__law_judged)) {f_is_field : Addr} {d_is_field : FuncData} (A_is_field : DefAt K mg "is_field" s_is_field ["value"] f_is_field d_is_field) (G_is_field : FnOk P w K mg base CX0 2 f_is_field d_is_field ["value"] (spM K 1 [] Lib.F_is_field)) {f_undone : Addr} {d_undone : FuncData} (A_undone : DefAt K mg "undone" s_undone ["field", "number"] f_undone d_undone) (G_undone : FnOk P w K mg base CX0 4 f_undone d_undone ["field", "number"] (spM K 2 [] Lib.F_undone)) {f_power : Addr} {d_power : FuncData} (A_power : DefAt K mg "power" s_power ["field", "number", "many"] f_power d_power) (G_power : FnOk P w K mg base CX0 4 f_power d_power ["field", "number", "many"] (spM K 3 [] Lib.F_power)) {f_power_sum : Addr} {d_power_sum : FuncData} (A_power_sum : DefAt K mg "power_sum" s_power_sum ["field", "many"] f_power_sum d_power_sum) (G_power_sum : FnOk P w K mg base CX0 4 f_power_sum d_power_sum ["field", "many"] (spM K 2 [] Lib.F_power_sum)) : FnOk P w K mg base CX0 7 f_law d_law ["script"] (spM K 1 [] F_law) :=
  def_ok A_law.fn sc_law rfl fun cdv A outer s H E hr =>
    (ss_cons (s_for (fun _ => PassesOwn.never) (fun _ => rfl) (ei_range1 (fun _ => T.n_range) (ea_cons (ev_callB (cd_max (fun _ => rfl)) (fun _ => T.n_max) (ea_cons ev_int (ea_cons (ev_callB (cd_min (fun _ => rfl)) (fun _ => T.n_min) (ea_cons ev_int (ea_cons (ev_callB cd_len (fun _ => T.n_len) (ea_cons (ev_name 0) ea_nil)) ea_nil))) ea_nil))) ea_nil)) (eg_name 1 (fun _ => sc_law.nd)) (ss_cons (s_set 2 (ev_fn (fun _ => G__law_dice) (fun _ => hr.mono (by decide)) (fun _ => A__law_dice.g) (fun _ => A__law_dice.fn.kp) (fun _ => A__law_dice.b) (ea_cons (ev_name 0) (ea_cons (ev_name 1) ea_nil)) (na_cons (na_cons na_nil))) (fun _ => sc_law.nd))
    (ss_one (s_if (et_w (ew_or (et_not (et_tru (ev_fnD (fun _ => G__law_right) (fun _ => hr.mono (by decide)) (fun _ => A__law_right.g) (fun _ => A__law_right.fn.kp) (fun _ => A__law_right.b) (ea_cons (ev_name 2) ea_nil) (na_cons na_nil)))) (ew_or (et_not (et_tru (ev_fnD (fun _ => G__law_right) (fun _ => hr.mono (by decide)) (fun _ => A__law_right.g) (fun _ => A__law_right.fn.kp) (fun _ => A__law_right.b) (ea_cons (ev_name 2) ea_nil) (na_cons na_nil)))) (ew_or1 (et_not (et_tru (ev_fnD (fun _ => G__law_judged) (fun _ => hr.mono (by decide)) (fun _ => A__law_judged.g) (fun _ => A__law_judged.fn.kp) (fun _ => A__law_judged.b) (ea_cons (ev_name 2) ea_nil) (na_cons na_nil)))))))) (ss_one (s_ret ev_bl)) ss_nil))))
    (ss_cons (s_set 3 (ev_lst (ea_cons (ev_fn (fun _ => G_is_field) (fun _ => hr.mono (by decide)) (fun _ => A_is_field.g) (fun _ => A_is_field.fn.kp) (fun _ => A_is_field.b) (ea_cons ev_int ea_nil) (na_cons na_nil)) (ea_cons (ev_fn (fun _ => G_is_field) (fun _ => hr.mono (by decide)) (fun _ => A_is_field.g) (fun _ => A_is_field.fn.kp) (fun _ => A_is_field.b) (ea_cons ev_int ea_nil) (na_cons na_nil)) (ea_cons (ev_fn (fun _ => G_is_field) (fun _ => hr.mono (by decide)) (fun _ => A_is_field.g) (fun _ => A_is_field.fn.kp) (fun _ => A_is_field.b) (ea_cons ev_int ea_nil) (na_cons na_nil)) (ea_cons (ev_fn (fun _ => G_undone) (fun _ => hr.mono (by decide)) (fun _ => A_undone.g) (fun _ => A_undone.fn.kp) (fun _ => A_undone.b) (ea_cons ev_int (ea_cons ev_int ea_nil)) (na_cons (na_cons na_nil))) (ea_cons (ev_fn (fun _ => G_power) (fun _ => hr.mono (by decide)) (fun _ => A_power.g) (fun _ => A_power.fn.kp) (fun _ => A_power.b) (ea_cons ev_int (ea_cons ev_int (ea_cons ev_int ea_nil))) (na_cons (na_cons (na_cons na_nil)))) (ea_cons (ev_fn (fun _ => G_power) (fun _ => hr.mono (by decide)) (fun _ => A_power.g) (fun _ => A_power.fn.kp) (fun _ => A_power.b) (ea_cons ev_int (ea_cons ev_int (ea_cons ev_int ea_nil))) (na_cons (na_cons (na_cons na_nil)))) (ea_cons (ev_fn (fun _ => G_power) (fun _ => hr.mono (by decide)) (fun _ => A_power.g) (fun _ => A_power.fn.kp) (fun _ => A_power.b) (ea_cons ev_int (ea_cons ev_int (ea_cons ev_int ea_nil))) (na_cons (na_cons (na_cons na_nil)))) (ea_cons (ev_fn (fun _ => G_power_sum) (fun _ => hr.mono (by decide)) (fun _ => A_power_sum.g) (fun _ => A_power_sum.fn.kp) (fun _ => A_power_sum.b) (ea_cons ev_int (ea_cons ev_int ea_nil)) (na_cons (na_cons na_nil))) ea_nil))))))))) (fun _ => sc_law.nd))
    (ss_cons (s_if (et_w (ew_or (et_cmp (od_ne (fun _ => hr.units)) (ev_name 3) (ev_lst (ea_cons ev_bl (ea_cons ev_bl (ea_cons ev_bl (ea_cons ev_int (ea_cons ev_int (ea_cons ev_int (ea_cons ev_int (ea_cons ev_int ea_nil)))))))))) (ew_or1 (et_cmp (od_ne (fun _ => hr.units)) (ev_lst (ea_cons (ev_fn (fun _ => G_power_sum) (fun _ => hr.mono (by decide)) (fun _ => A_power_sum.g) (fun _ => A_power_sum.fn.kp) (fun _ => A_power_sum.b) (ea_cons ev_int (ea_cons ev_int ea_nil)) (na_cons (na_cons na_nil))) (ea_cons (ev_fn (fun _ => G_power_sum) (fun _ => hr.mono (by decide)) (fun _ => A_power_sum.g) (fun _ => A_power_sum.fn.kp) (fun _ => A_power_sum.b) (ea_cons ev_int (ea_cons ev_int ea_nil)) (na_cons (na_cons na_nil))) (ea_cons (ev_fn (fun _ => G_power_sum) (fun _ => hr.mono (by decide)) (fun _ => A_power_sum.g) (fun _ => A_power_sum.fn.kp) (fun _ => A_power_sum.b) (ea_cons ev_int (ea_cons (ev_bin od_pow ev_int ev_int) ea_nil)) (na_cons (na_cons na_nil))) ea_nil)))) (ev_lst (ea_cons ev_int (ea_cons ev_int (ea_cons ev_int ea_nil)))))))) (ss_one (s_ret ev_bl)) ss_nil)
    (ss_one (s_ret (ev_and (ev_cmp (od_eq (fun _ => hr.units)) (ev_lst (ea_cons (ev_glob (fun _ => rfl) (fun _ => T.c_LEAST_FIELD.choose_spec.1) T.c_LEAST_FIELD.choose_spec.2.1 T.c_LEAST_FIELD.choose_spec.2.2) (ea_cons (ev_glob (fun _ => rfl) (fun _ => T.c_MAX_FIELD.choose_spec.1) T.c_MAX_FIELD.choose_spec.2.1 T.c_MAX_FIELD.choose_spec.2.2) (ea_cons (ev_glob (fun _ => rfl) (fun _ => T.c_MAX_POWER.choose_spec.1) T.c_MAX_POWER.choose_spec.2.1 T.c_MAX_POWER.choose_spec.2.2) (ea_cons (ev_glob (fun _ => rfl) (fun _ => T.c_MAX_SIDE.choose_spec.1) T.c_MAX_SIDE.choose_spec.2.1 T.c_MAX_SIDE.choose_spec.2.2) ea_nil))))) (ev_lst (ea_cons ev_int (ea_cons ev_int (ea_cons (ev_bin od_pow ev_int ev_int) (ea_cons ev_int ea_nil)))))) (ev_one (ev_cmp (od_eq (fun _ => hr.units)) (ev_fn (fun _ => G_power_sum) (fun _ => hr.mono (by decide)) (fun _ => A_power_sum.g) (fun _ => A_power_sum.fn.kp) (fun _ => A_power_sum.b) (ea_cons ev_int (ea_cons (ev_bin od_mul ev_int ev_int) ea_nil)) (na_cons (na_cons na_nil))) ev_int))))))))
end
theorem all_mk {l : PySem.W.OpenLaw} {w : World} {K : Frag} {h : Heap} {mg : Str → Option Value} {fa : Addr} (X : K.In h) (G : h.Ns mainGlobals mg) (hfa : mg "law" = some (.ref fa))
    {f_is_integer : Addr} {od_is_integer an_is_integer : Option Addr} {sl_is_integer : Array (Option Value)} {oc_is_integer kV_is_integer dc_is_integer pm_is_integer cd_is_integer ct_is_integer : Value}
    (a_is_integer : PySem.W.nsIn K mainGlobals "is_integer" = some (some (.ref f_is_integer))) (l_is_integer : K.lookup f_is_integer = some ⟨oc_is_integer, od_is_integer, .func (PySem.W.fnOf "is_integer" "is_integer" (defArgs s_is_integer) (defBody s_is_integer) (defScope s_is_integer) .none kV_is_integer dc_is_integer pm_is_integer an_is_integer cd_is_integer ct_is_integer), sl_is_integer⟩) (c_is_integer : PySem.W.codeIn K cd_is_integer "is_integer" = true) (k_is_integer : PySem.W.keepIn K (.ref f_is_integer) = true)
    {f_is_field : Addr} {od_is_field an_is_field : Option Addr} {sl_is_field : Array (Option Value)} {oc_is_field kV_is_field dc_is_field pm_is_field cd_is_field ct_is_field : Value}
    (a_is_field : PySem.W.nsIn K mainGlobals "is_field" = some (some (.ref f_is_field))) (l_is_field : K.lookup f_is_field = some ⟨oc_is_field, od_is_field, .func (PySem.W.fnOf "is_field" "is_field" (defArgs s_is_field) (defBody s_is_field) (defScope s_is_field) .none kV_is_field dc_is_field pm_is_field an_is_field cd_is_field ct_is_field), sl_is_field⟩) (c_is_field : PySem.W.codeIn K cd_is_field "is_field" = true) (k_is_field : PySem.W.keepIn K (.ref f_is_field) = true)
    {f_check_field : Addr} {od_check_field an_check_field : Option Addr} {sl_check_field : Array (Option Value)} {oc_check_field kV_check_field dc_check_field pm_check_field cd_check_field ct_check_field : Value}
    (a_check_field : PySem.W.nsIn K mainGlobals "check_field" = some (some (.ref f_check_field))) (l_check_field : K.lookup f_check_field = some ⟨oc_check_field, od_check_field, .func (PySem.W.fnOf "check_field" "check_field" (defArgs s_check_field) (defBody s_check_field) (defScope s_check_field) .none kV_check_field dc_check_field pm_check_field an_check_field cd_check_field ct_check_field), sl_check_field⟩) (c_check_field : PySem.W.codeIn K cd_check_field "check_field" = true) (k_check_field : PySem.W.keepIn K (.ref f_check_field) = true)
    {f_is_number : Addr} {od_is_number an_is_number : Option Addr} {sl_is_number : Array (Option Value)} {oc_is_number kV_is_number dc_is_number pm_is_number cd_is_number ct_is_number : Value}
    (a_is_number : PySem.W.nsIn K mainGlobals "is_number" = some (some (.ref f_is_number))) (l_is_number : K.lookup f_is_number = some ⟨oc_is_number, od_is_number, .func (PySem.W.fnOf "is_number" "is_number" (defArgs s_is_number) (defBody s_is_number) (defScope s_is_number) .none kV_is_number dc_is_number pm_is_number an_is_number cd_is_number ct_is_number), sl_is_number⟩) (c_is_number : PySem.W.codeIn K cd_is_number "is_number" = true) (k_is_number : PySem.W.keepIn K (.ref f_is_number) = true)
    {f_check_integer : Addr} {od_check_integer an_check_integer : Option Addr} {sl_check_integer : Array (Option Value)} {oc_check_integer kV_check_integer dc_check_integer pm_check_integer cd_check_integer ct_check_integer : Value}
    (a_check_integer : PySem.W.nsIn K mainGlobals "check_integer" = some (some (.ref f_check_integer))) (l_check_integer : K.lookup f_check_integer = some ⟨oc_check_integer, od_check_integer, .func (PySem.W.fnOf "check_integer" "check_integer" (defArgs s_check_integer) (defBody s_check_integer) (defScope s_check_integer) .none kV_check_integer dc_check_integer pm_check_integer an_check_integer cd_check_integer ct_check_integer), sl_check_integer⟩) (c_check_integer : PySem.W.codeIn K cd_check_integer "check_integer" = true) (k_check_integer : PySem.W.keepIn K (.ref f_check_integer) = true)
    {f_check_number : Addr} {od_check_number an_check_number : Option Addr} {sl_check_number : Array (Option Value)} {oc_check_number kV_check_number dc_check_number pm_check_number cd_check_number ct_check_number : Value}
    (a_check_number : PySem.W.nsIn K mainGlobals "check_number" = some (some (.ref f_check_number))) (l_check_number : K.lookup f_check_number = some ⟨oc_check_number, od_check_number, .func (PySem.W.fnOf "check_number" "check_number" (defArgs s_check_number) (defBody s_check_number) (defScope s_check_number) .none kV_check_number dc_check_number pm_check_number an_check_number cd_check_number ct_check_number), sl_check_number⟩) (c_check_number : PySem.W.codeIn K cd_check_number "check_number" = true) (k_check_number : PySem.W.keepIn K (.ref f_check_number) = true)
    {f_check_pair : Addr} {od_check_pair an_check_pair : Option Addr} {sl_check_pair : Array (Option Value)} {oc_check_pair kV_check_pair dc_check_pair pm_check_pair cd_check_pair ct_check_pair : Value}
    (a_check_pair : PySem.W.nsIn K mainGlobals "check_pair" = some (some (.ref f_check_pair))) (l_check_pair : K.lookup f_check_pair = some ⟨oc_check_pair, od_check_pair, .func (PySem.W.fnOf "check_pair" "check_pair" (defArgs s_check_pair) (defBody s_check_pair) (defScope s_check_pair) .none kV_check_pair dc_check_pair pm_check_pair an_check_pair cd_check_pair ct_check_pair), sl_check_pair⟩) (c_check_pair : PySem.W.codeIn K cd_check_pair "check_pair" = true) (k_check_pair : PySem.W.keepIn K (.ref f_check_pair) = true)
    {f_plus : Addr} {od_plus an_plus : Option Addr} {sl_plus : Array (Option Value)} {oc_plus kV_plus dc_plus pm_plus cd_plus ct_plus : Value}
    (a_plus : PySem.W.nsIn K mainGlobals "plus" = some (some (.ref f_plus))) (l_plus : K.lookup f_plus = some ⟨oc_plus, od_plus, .func (PySem.W.fnOf "plus" "plus" (defArgs s_plus) (defBody s_plus) (defScope s_plus) .none kV_plus dc_plus pm_plus an_plus cd_plus ct_plus), sl_plus⟩) (c_plus : PySem.W.codeIn K cd_plus "plus" = true) (k_plus : PySem.W.keepIn K (.ref f_plus) = true)
    {f_minus : Addr} {od_minus an_minus : Option Addr} {sl_minus : Array (Option Value)} {oc_minus kV_minus dc_minus pm_minus cd_minus ct_minus : Value}
    (a_minus : PySem.W.nsIn K mainGlobals "minus" = some (some (.ref f_minus))) (l_minus : K.lookup f_minus = some ⟨oc_minus, od_minus, .func (PySem.W.fnOf "minus" "minus" (defArgs s_minus) (defBody s_minus) (defScope s_minus) .none kV_minus dc_minus pm_minus an_minus cd_minus ct_minus), sl_minus⟩) (c_minus : PySem.W.codeIn K cd_minus "minus" = true) (k_minus : PySem.W.keepIn K (.ref f_minus) = true)
    {f_times : Addr} {od_times an_times : Option Addr} {sl_times : Array (Option Value)} {oc_times kV_times dc_times pm_times cd_times ct_times : Value}
    (a_times : PySem.W.nsIn K mainGlobals "times" = some (some (.ref f_times))) (l_times : K.lookup f_times = some ⟨oc_times, od_times, .func (PySem.W.fnOf "times" "times" (defArgs s_times) (defBody s_times) (defScope s_times) .none kV_times dc_times pm_times an_times cd_times ct_times), sl_times⟩) (c_times : PySem.W.codeIn K cd_times "times" = true) (k_times : PySem.W.keepIn K (.ref f_times) = true)
    {f_raised : Addr} {od_raised an_raised : Option Addr} {sl_raised : Array (Option Value)} {oc_raised kV_raised dc_raised pm_raised cd_raised ct_raised : Value}
    (a_raised : PySem.W.nsIn K mainGlobals "raised" = some (some (.ref f_raised))) (l_raised : K.lookup f_raised = some ⟨oc_raised, od_raised, .func (PySem.W.fnOf "raised" "raised" (defArgs s_raised) (defBody s_raised) (defScope s_raised) .none kV_raised dc_raised pm_raised an_raised cd_raised ct_raised), sl_raised⟩) (c_raised : PySem.W.codeIn K cd_raised "raised" = true) (k_raised : PySem.W.keepIn K (.ref f_raised) = true)
    {f_inverse : Addr} {od_inverse an_inverse : Option Addr} {sl_inverse : Array (Option Value)} {oc_inverse kV_inverse dc_inverse pm_inverse cd_inverse ct_inverse : Value}
    (a_inverse : PySem.W.nsIn K mainGlobals "inverse" = some (some (.ref f_inverse))) (l_inverse : K.lookup f_inverse = some ⟨oc_inverse, od_inverse, .func (PySem.W.fnOf "inverse" "inverse" (defArgs s_inverse) (defBody s_inverse) (defScope s_inverse) .none kV_inverse dc_inverse pm_inverse an_inverse cd_inverse ct_inverse), sl_inverse⟩) (c_inverse : PySem.W.codeIn K cd_inverse "inverse" = true) (k_inverse : PySem.W.keepIn K (.ref f_inverse) = true)
    {f_undone : Addr} {od_undone an_undone : Option Addr} {sl_undone : Array (Option Value)} {oc_undone kV_undone dc_undone pm_undone cd_undone ct_undone : Value}
    (a_undone : PySem.W.nsIn K mainGlobals "undone" = some (some (.ref f_undone))) (l_undone : K.lookup f_undone = some ⟨oc_undone, od_undone, .func (PySem.W.fnOf "undone" "undone" (defArgs s_undone) (defBody s_undone) (defScope s_undone) .none kV_undone dc_undone pm_undone an_undone cd_undone ct_undone), sl_undone⟩) (c_undone : PySem.W.codeIn K cd_undone "undone" = true) (k_undone : PySem.W.keepIn K (.ref f_undone) = true)
    {f_power : Addr} {od_power an_power : Option Addr} {sl_power : Array (Option Value)} {oc_power kV_power dc_power pm_power cd_power ct_power : Value}
    (a_power : PySem.W.nsIn K mainGlobals "power" = some (some (.ref f_power))) (l_power : K.lookup f_power = some ⟨oc_power, od_power, .func (PySem.W.fnOf "power" "power" (defArgs s_power) (defBody s_power) (defScope s_power) .none kV_power dc_power pm_power an_power cd_power ct_power), sl_power⟩) (c_power : PySem.W.codeIn K cd_power "power" = true) (k_power : PySem.W.keepIn K (.ref f_power) = true)
    {f_power_sum : Addr} {od_power_sum an_power_sum : Option Addr} {sl_power_sum : Array (Option Value)} {oc_power_sum kV_power_sum dc_power_sum pm_power_sum cd_power_sum ct_power_sum : Value}
    (a_power_sum : PySem.W.nsIn K mainGlobals "power_sum" = some (some (.ref f_power_sum))) (l_power_sum : K.lookup f_power_sum = some ⟨oc_power_sum, od_power_sum, .func (PySem.W.fnOf "power_sum" "power_sum" (defArgs s_power_sum) (defBody s_power_sum) (defScope s_power_sum) .none kV_power_sum dc_power_sum pm_power_sum an_power_sum cd_power_sum ct_power_sum), sl_power_sum⟩) (c_power_sum : PySem.W.codeIn K cd_power_sum "power_sum" = true) (k_power_sum : PySem.W.keepIn K (.ref f_power_sum) = true)
    {f__law_dice : Addr} {od__law_dice an__law_dice : Option Addr} {sl__law_dice : Array (Option Value)} {oc__law_dice kV__law_dice dc__law_dice pm__law_dice cd__law_dice ct__law_dice : Value}
    (a__law_dice : PySem.W.nsIn K mainGlobals "_law_dice" = some (some (.ref f__law_dice))) (l__law_dice : K.lookup f__law_dice = some ⟨oc__law_dice, od__law_dice, .func (PySem.W.fnOf "_law_dice" "_law_dice" (defArgs s__law_dice) (defBody s__law_dice) (defScope s__law_dice) .none kV__law_dice dc__law_dice pm__law_dice an__law_dice cd__law_dice ct__law_dice), sl__law_dice⟩) (c__law_dice : PySem.W.codeIn K cd__law_dice "_law_dice" = true) (k__law_dice : PySem.W.keepIn K (.ref f__law_dice) = true)
    {f__law_roll : Addr} {od__law_roll an__law_roll : Option Addr} {sl__law_roll : Array (Option Value)} {oc__law_roll kV__law_roll dc__law_roll pm__law_roll cd__law_roll ct__law_roll : Value}
    (a__law_roll : PySem.W.nsIn K mainGlobals "_law_roll" = some (some (.ref f__law_roll))) (l__law_roll : K.lookup f__law_roll = some ⟨oc__law_roll, od__law_roll, .func (PySem.W.fnOf "_law_roll" "_law_roll" (defArgs s__law_roll) (defBody s__law_roll) (defScope s__law_roll) .none kV__law_roll dc__law_roll pm__law_roll an__law_roll cd__law_roll ct__law_roll), sl__law_roll⟩) (c__law_roll : PySem.W.codeIn K cd__law_roll "_law_roll" = true) (k__law_roll : PySem.W.keepIn K (.ref f__law_roll) = true)
    {f__law_pick : Addr} {od__law_pick an__law_pick : Option Addr} {sl__law_pick : Array (Option Value)} {oc__law_pick kV__law_pick dc__law_pick pm__law_pick cd__law_pick ct__law_pick : Value}
    (a__law_pick : PySem.W.nsIn K mainGlobals "_law_pick" = some (some (.ref f__law_pick))) (l__law_pick : K.lookup f__law_pick = some ⟨oc__law_pick, od__law_pick, .func (PySem.W.fnOf "_law_pick" "_law_pick" (defArgs s__law_pick) (defBody s__law_pick) (defScope s__law_pick) .none kV__law_pick dc__law_pick pm__law_pick an__law_pick cd__law_pick ct__law_pick), sl__law_pick⟩) (c__law_pick : PySem.W.codeIn K cd__law_pick "_law_pick" = true) (k__law_pick : PySem.W.keepIn K (.ref f__law_pick) = true)
    {f__law_fd_primes : Addr} {od__law_fd_primes an__law_fd_primes : Option Addr} {sl__law_fd_primes : Array (Option Value)} {oc__law_fd_primes kV__law_fd_primes dc__law_fd_primes pm__law_fd_primes cd__law_fd_primes ct__law_fd_primes : Value}
    (a__law_fd_primes : PySem.W.nsIn K mainGlobals "_law_fd_primes" = some (some (.ref f__law_fd_primes))) (l__law_fd_primes : K.lookup f__law_fd_primes = some ⟨oc__law_fd_primes, od__law_fd_primes, .func (PySem.W.fnOf "_law_fd_primes" "_law_fd_primes" (defArgs s__law_fd_primes) (defBody s__law_fd_primes) (defScope s__law_fd_primes) .none kV__law_fd_primes dc__law_fd_primes pm__law_fd_primes an__law_fd_primes cd__law_fd_primes ct__law_fd_primes), sl__law_fd_primes⟩) (c__law_fd_primes : PySem.W.codeIn K cd__law_fd_primes "_law_fd_primes" = true) (k__law_fd_primes : PySem.W.keepIn K (.ref f__law_fd_primes) = true)
    {f__law_fd_undone : Addr} {od__law_fd_undone an__law_fd_undone : Option Addr} {sl__law_fd_undone : Array (Option Value)} {oc__law_fd_undone kV__law_fd_undone dc__law_fd_undone pm__law_fd_undone cd__law_fd_undone ct__law_fd_undone : Value}
    (a__law_fd_undone : PySem.W.nsIn K mainGlobals "_law_fd_undone" = some (some (.ref f__law_fd_undone))) (l__law_fd_undone : K.lookup f__law_fd_undone = some ⟨oc__law_fd_undone, od__law_fd_undone, .func (PySem.W.fnOf "_law_fd_undone" "_law_fd_undone" (defArgs s__law_fd_undone) (defBody s__law_fd_undone) (defScope s__law_fd_undone) .none kV__law_fd_undone dc__law_fd_undone pm__law_fd_undone an__law_fd_undone cd__law_fd_undone ct__law_fd_undone), sl__law_fd_undone⟩) (c__law_fd_undone : PySem.W.codeIn K cd__law_fd_undone "_law_fd_undone" = true) (k__law_fd_undone : PySem.W.keepIn K (.ref f__law_fd_undone) = true)
    {f__law_is_prime : Addr} {od__law_is_prime an__law_is_prime : Option Addr} {sl__law_is_prime : Array (Option Value)} {oc__law_is_prime kV__law_is_prime dc__law_is_prime pm__law_is_prime cd__law_is_prime ct__law_is_prime : Value}
    (a__law_is_prime : PySem.W.nsIn K mainGlobals "_law_is_prime" = some (some (.ref f__law_is_prime))) (l__law_is_prime : K.lookup f__law_is_prime = some ⟨oc__law_is_prime, od__law_is_prime, .func (PySem.W.fnOf "_law_is_prime" "_law_is_prime" (defArgs s__law_is_prime) (defBody s__law_is_prime) (defScope s__law_is_prime) .none kV__law_is_prime dc__law_is_prime pm__law_is_prime an__law_is_prime cd__law_is_prime ct__law_is_prime), sl__law_is_prime⟩) (c__law_is_prime : PySem.W.codeIn K cd__law_is_prime "_law_is_prime" = true) (k__law_is_prime : PySem.W.keepIn K (.ref f__law_is_prime) = true)
    {f__law_powers : Addr} {od__law_powers an__law_powers : Option Addr} {sl__law_powers : Array (Option Value)} {oc__law_powers kV__law_powers dc__law_powers pm__law_powers cd__law_powers ct__law_powers : Value}
    (a__law_powers : PySem.W.nsIn K mainGlobals "_law_powers" = some (some (.ref f__law_powers))) (l__law_powers : K.lookup f__law_powers = some ⟨oc__law_powers, od__law_powers, .func (PySem.W.fnOf "_law_powers" "_law_powers" (defArgs s__law_powers) (defBody s__law_powers) (defScope s__law_powers) .none kV__law_powers dc__law_powers pm__law_powers an__law_powers cd__law_powers ct__law_powers), sl__law_powers⟩) (c__law_powers : PySem.W.codeIn K cd__law_powers "_law_powers" = true) (k__law_powers : PySem.W.keepIn K (.ref f__law_powers) = true)
    {f__law_great_power : Addr} {od__law_great_power an__law_great_power : Option Addr} {sl__law_great_power : Array (Option Value)} {oc__law_great_power kV__law_great_power dc__law_great_power pm__law_great_power cd__law_great_power ct__law_great_power : Value}
    (a__law_great_power : PySem.W.nsIn K mainGlobals "_law_great_power" = some (some (.ref f__law_great_power))) (l__law_great_power : K.lookup f__law_great_power = some ⟨oc__law_great_power, od__law_great_power, .func (PySem.W.fnOf "_law_great_power" "_law_great_power" (defArgs s__law_great_power) (defBody s__law_great_power) (defScope s__law_great_power) .none kV__law_great_power dc__law_great_power pm__law_great_power an__law_great_power cd__law_great_power ct__law_great_power), sl__law_great_power⟩) (c__law_great_power : PySem.W.codeIn K cd__law_great_power "_law_great_power" = true) (k__law_great_power : PySem.W.keepIn K (.ref f__law_great_power) = true)
    {f__law_right : Addr} {od__law_right an__law_right : Option Addr} {sl__law_right : Array (Option Value)} {oc__law_right kV__law_right dc__law_right pm__law_right cd__law_right ct__law_right : Value}
    (a__law_right : PySem.W.nsIn K mainGlobals "_law_right" = some (some (.ref f__law_right))) (l__law_right : K.lookup f__law_right = some ⟨oc__law_right, od__law_right, .func (PySem.W.fnOf "_law_right" "_law_right" (defArgs s__law_right) (defBody s__law_right) (defScope s__law_right) .none kV__law_right dc__law_right pm__law_right an__law_right cd__law_right ct__law_right), sl__law_right⟩) (c__law_right : PySem.W.codeIn K cd__law_right "_law_right" = true) (k__law_right : PySem.W.keepIn K (.ref f__law_right) = true)
    {f__law_judged : Addr} {od__law_judged an__law_judged : Option Addr} {sl__law_judged : Array (Option Value)} {oc__law_judged kV__law_judged dc__law_judged pm__law_judged cd__law_judged ct__law_judged : Value}
    (a__law_judged : PySem.W.nsIn K mainGlobals "_law_judged" = some (some (.ref f__law_judged))) (l__law_judged : K.lookup f__law_judged = some ⟨oc__law_judged, od__law_judged, .func (PySem.W.fnOf "_law_judged" "_law_judged" (defArgs s__law_judged) (defBody s__law_judged) (defScope s__law_judged) .none kV__law_judged dc__law_judged pm__law_judged an__law_judged cd__law_judged ct__law_judged), sl__law_judged⟩) (c__law_judged : PySem.W.codeIn K cd__law_judged "_law_judged" = true) (k__law_judged : PySem.W.keepIn K (.ref f__law_judged) = true)
    {f_law : Addr} {od_law an_law : Option Addr} {sl_law : Array (Option Value)} {oc_law kV_law dc_law pm_law cd_law ct_law : Value}
    (a_law : PySem.W.nsIn K mainGlobals "law" = some (some (.ref f_law))) (l_law : K.lookup f_law = some ⟨oc_law, od_law, .func (PySem.W.fnOf "law" "law" (defArgs s_law) (defBody s_law) (defScope s_law) .none kV_law dc_law pm_law an_law cd_law ct_law), sl_law⟩) (c_law : PySem.W.codeIn K cd_law "law" = true) (k_law : PySem.W.keepIn K (.ref f_law) = true)
    (z_abs : PySem.W.nsIn K mainGlobals "abs" = some none)
    (z_bool : PySem.W.nsIn K mainGlobals "bool" = some none)
    (z_int : PySem.W.nsIn K mainGlobals "int" = some none)
    (z_isinstance : PySem.W.nsIn K mainGlobals "isinstance" = some none)
    (z_len : PySem.W.nsIn K mainGlobals "len" = some none)
    (z_max : PySem.W.nsIn K mainGlobals "max" = some none)
    (z_min : PySem.W.nsIn K mainGlobals "min" = some none)
    (z_range : PySem.W.nsIn K mainGlobals "range" = some none)
    (z_repr : PySem.W.nsIn K mainGlobals "repr" = some none)
    (z_sum : PySem.W.nsIn K mainGlobals "sum" = some none)
    {tk_LEAST_FIELD : Tok} (q_LEAST_FIELD : PySem.W.nsIn K mainGlobals "LEAST_FIELD" = some (some (.int 5 tk_LEAST_FIELD)))
    {tk_MAX_FIELD : Tok} (q_MAX_FIELD : PySem.W.nsIn K mainGlobals "MAX_FIELD" = some (some (.int 997 tk_MAX_FIELD)))
    {tk_MAX_POWER : Tok} (q_MAX_POWER : PySem.W.nsIn K mainGlobals "MAX_POWER" = some (some (.int 1000000 tk_MAX_POWER)))
    {tk_MAX_SIDE : Tok} (q_MAX_SIDE : PySem.W.nsIn K mainGlobals "MAX_SIDE" = some (some (.int 60 tk_MAX_SIDE)))
    {qa_SMALL_PRIMES : Addr} {qd_SMALL_PRIMES : Option Addr} {qn_SMALL_PRIMES : Nat} {qs_SMALL_PRIMES : Array (Option Value)} {t0_SMALL_PRIMES t1_SMALL_PRIMES t2_SMALL_PRIMES t3_SMALL_PRIMES t4_SMALL_PRIMES t5_SMALL_PRIMES t6_SMALL_PRIMES t7_SMALL_PRIMES t8_SMALL_PRIMES t9_SMALL_PRIMES t10_SMALL_PRIMES : Tok} (q_SMALL_PRIMES : PySem.W.nsIn K mainGlobals "SMALL_PRIMES" = some (some (.ref qa_SMALL_PRIMES)))
    (r_SMALL_PRIMES : K.lookup qa_SMALL_PRIMES = some ⟨.type "tuple", qd_SMALL_PRIMES, .seq #[.int 2 t0_SMALL_PRIMES, .int 3 t1_SMALL_PRIMES, .int 5 t2_SMALL_PRIMES, .int 7 t3_SMALL_PRIMES, .int 11 t4_SMALL_PRIMES, .int 13 t5_SMALL_PRIMES, .int 17 t6_SMALL_PRIMES, .int 19 t7_SMALL_PRIMES, .int 23 t8_SMALL_PRIMES, .int 29 t9_SMALL_PRIMES, .int 31 t10_SMALL_PRIMES] qn_SMALL_PRIMES, qs_SMALL_PRIMES⟩)
    : ∃ fd : FuncData, (∀ (s : Shared) (v : Value), BindsTo s fd ⟨[v], []⟩ [("script", v)]) ∧ ∀ base : Heap, K.In base → base.Ns mainGlobals mg → FnOk l.prog w K mg base CX0 7 fa fd ["script"] (spM K 1 [] F_law) := by
  have e := hfa.symm.trans (PySem.W.mg_of X G a_law)
  cases e
  have U_is_integer := fun_mk (st := s_is_integer) l_is_integer c_is_integer k_is_integer
  have A_is_integer : DefAt K mg "is_integer" s_is_integer ["value", "least", "most"] _ _ := ⟨U_is_integer, PySem.W.mg_of X G a_is_integer, U_is_integer.binds (ps := ["value", "least", "most"]) fun _ _ _ _ _ _ us hl => match us, hl with | [_, _, _], _ => rfl⟩
  have U_is_field := fun_mk (st := s_is_field) l_is_field c_is_field k_is_field
  have A_is_field : DefAt K mg "is_field" s_is_field ["value"] _ _ := ⟨U_is_field, PySem.W.mg_of X G a_is_field, U_is_field.binds (ps := ["value"]) fun _ _ _ _ _ _ us hl => match us, hl with | [_], _ => rfl⟩
  have U_check_field := fun_mk (st := s_check_field) l_check_field c_check_field k_check_field
  have A_check_field : DefAt K mg "check_field" s_check_field ["field"] _ _ := ⟨U_check_field, PySem.W.mg_of X G a_check_field, U_check_field.binds (ps := ["field"]) fun _ _ _ _ _ _ us hl => match us, hl with | [_], _ => rfl⟩
  have U_is_number := fun_mk (st := s_is_number) l_is_number c_is_number k_is_number
  have A_is_number : DefAt K mg "is_number" s_is_number ["field", "value"] _ _ := ⟨U_is_number, PySem.W.mg_of X G a_is_number, U_is_number.binds (ps := ["field", "value"]) fun _ _ _ _ _ _ us hl => match us, hl with | [_, _], _ => rfl⟩
  have U_check_integer := fun_mk (st := s_check_integer) l_check_integer c_check_integer k_check_integer
  have A_check_integer : DefAt K mg "check_integer" s_check_integer ["value", "least", "most"] _ _ := ⟨U_check_integer, PySem.W.mg_of X G a_check_integer, U_check_integer.binds (ps := ["value", "least", "most"]) fun _ _ _ _ _ _ us hl => match us, hl with | [_, _, _], _ => rfl⟩
  have U_check_number := fun_mk (st := s_check_number) l_check_number c_check_number k_check_number
  have A_check_number : DefAt K mg "check_number" s_check_number ["field", "number"] _ _ := ⟨U_check_number, PySem.W.mg_of X G a_check_number, U_check_number.binds (ps := ["field", "number"]) fun _ _ _ _ _ _ us hl => match us, hl with | [_, _], _ => rfl⟩
  have U_check_pair := fun_mk (st := s_check_pair) l_check_pair c_check_pair k_check_pair
  have A_check_pair : DefAt K mg "check_pair" s_check_pair ["field", "one", "other"] _ _ := ⟨U_check_pair, PySem.W.mg_of X G a_check_pair, U_check_pair.binds (ps := ["field", "one", "other"]) fun _ _ _ _ _ _ us hl => match us, hl with | [_, _, _], _ => rfl⟩
  have U_plus := fun_mk (st := s_plus) l_plus c_plus k_plus
  have A_plus : DefAt K mg "plus" s_plus ["field", "one", "other"] _ _ := ⟨U_plus, PySem.W.mg_of X G a_plus, U_plus.binds (ps := ["field", "one", "other"]) fun _ _ _ _ _ _ us hl => match us, hl with | [_, _, _], _ => rfl⟩
  have U_minus := fun_mk (st := s_minus) l_minus c_minus k_minus
  have A_minus : DefAt K mg "minus" s_minus ["field", "one", "other"] _ _ := ⟨U_minus, PySem.W.mg_of X G a_minus, U_minus.binds (ps := ["field", "one", "other"]) fun _ _ _ _ _ _ us hl => match us, hl with | [_, _, _], _ => rfl⟩
  have U_times := fun_mk (st := s_times) l_times c_times k_times
  have A_times : DefAt K mg "times" s_times ["field", "one", "other"] _ _ := ⟨U_times, PySem.W.mg_of X G a_times, U_times.binds (ps := ["field", "one", "other"]) fun _ _ _ _ _ _ us hl => match us, hl with | [_, _, _], _ => rfl⟩
  have U_raised := fun_mk (st := s_raised) l_raised c_raised k_raised
  have A_raised : DefAt K mg "raised" s_raised ["field", "number", "many"] _ _ := ⟨U_raised, PySem.W.mg_of X G a_raised, U_raised.binds (ps := ["field", "number", "many"]) fun _ _ _ _ _ _ us hl => match us, hl with | [_, _, _], _ => rfl⟩
  have U_inverse := fun_mk (st := s_inverse) l_inverse c_inverse k_inverse
  have A_inverse : DefAt K mg "inverse" s_inverse ["field", "number"] _ _ := ⟨U_inverse, PySem.W.mg_of X G a_inverse, U_inverse.binds (ps := ["field", "number"]) fun _ _ _ _ _ _ us hl => match us, hl with | [_, _], _ => rfl⟩
  have U_undone := fun_mk (st := s_undone) l_undone c_undone k_undone
  have A_undone : DefAt K mg "undone" s_undone ["field", "number"] _ _ := ⟨U_undone, PySem.W.mg_of X G a_undone, U_undone.binds (ps := ["field", "number"]) fun _ _ _ _ _ _ us hl => match us, hl with | [_, _], _ => rfl⟩
  have U_power := fun_mk (st := s_power) l_power c_power k_power
  have A_power : DefAt K mg "power" s_power ["field", "number", "many"] _ _ := ⟨U_power, PySem.W.mg_of X G a_power, U_power.binds (ps := ["field", "number", "many"]) fun _ _ _ _ _ _ us hl => match us, hl with | [_, _, _], _ => rfl⟩
  have U_power_sum := fun_mk (st := s_power_sum) l_power_sum c_power_sum k_power_sum
  have A_power_sum : DefAt K mg "power_sum" s_power_sum ["field", "many"] _ _ := ⟨U_power_sum, PySem.W.mg_of X G a_power_sum, U_power_sum.binds (ps := ["field", "many"]) fun _ _ _ _ _ _ us hl => match us, hl with | [_, _], _ => rfl⟩
  have U__law_dice := fun_mk (st := s__law_dice) l__law_dice c__law_dice k__law_dice
  have A__law_dice : DefAt K mg "_law_dice" s__law_dice ["script", "spot"] _ _ := ⟨U__law_dice, PySem.W.mg_of X G a__law_dice, U__law_dice.binds (ps := ["script", "spot"]) fun _ _ _ _ _ _ us hl => match us, hl with | [_, _], _ => rfl⟩
  have U__law_roll := fun_mk (st := s__law_roll) l__law_roll c__law_roll k__law_roll
  have A__law_roll : DefAt K mg "_law_roll" s__law_roll ["dice", "most"] _ _ := ⟨U__law_roll, PySem.W.mg_of X G a__law_roll, U__law_roll.binds (ps := ["dice", "most"]) fun _ _ _ _ _ _ us hl => match us, hl with | [_, _], _ => rfl⟩
  have U__law_pick := fun_mk (st := s__law_pick) l__law_pick c__law_pick k__law_pick
  have A__law_pick : DefAt K mg "_law_pick" s__law_pick ["dice", "items"] _ _ := ⟨U__law_pick, PySem.W.mg_of X G a__law_pick, U__law_pick.binds (ps := ["dice", "items"]) fun _ _ _ _ _ _ us hl => match us, hl with | [_, _], _ => rfl⟩
  have U__law_fd_primes := fun_mk (st := s__law_fd_primes) l__law_fd_primes c__law_fd_primes k__law_fd_primes
  have A__law_fd_primes : DefAt K mg "_law_fd_primes" s__law_fd_primes [] _ _ := ⟨U__law_fd_primes, PySem.W.mg_of X G a__law_fd_primes, U__law_fd_primes.binds (ps := []) fun _ _ _ _ _ _ us hl => match us, hl with | [], _ => rfl⟩
  have U__law_fd_undone := fun_mk (st := s__law_fd_undone) l__law_fd_undone c__law_fd_undone k__law_fd_undone
  have A__law_fd_undone : DefAt K mg "_law_fd_undone" s__law_fd_undone ["field_here", "number"] _ _ := ⟨U__law_fd_undone, PySem.W.mg_of X G a__law_fd_undone, U__law_fd_undone.binds (ps := ["field_here", "number"]) fun _ _ _ _ _ _ us hl => match us, hl with | [_, _], _ => rfl⟩
  have U__law_is_prime := fun_mk (st := s__law_is_prime) l__law_is_prime c__law_is_prime k__law_is_prime
  have A__law_is_prime : DefAt K mg "_law_is_prime" s__law_is_prime ["value"] _ _ := ⟨U__law_is_prime, PySem.W.mg_of X G a__law_is_prime, U__law_is_prime.binds (ps := ["value"]) fun _ _ _ _ _ _ us hl => match us, hl with | [_], _ => rfl⟩
  have U__law_powers := fun_mk (st := s__law_powers) l__law_powers c__law_powers k__law_powers
  have A__law_powers : DefAt K mg "_law_powers" s__law_powers ["p", "number", "many"] _ _ := ⟨U__law_powers, PySem.W.mg_of X G a__law_powers, U__law_powers.binds (ps := ["p", "number", "many"]) fun _ _ _ _ _ _ us hl => match us, hl with | [_, _, _], _ => rfl⟩
  have U__law_great_power := fun_mk (st := s__law_great_power) l__law_great_power c__law_great_power k__law_great_power
  have A__law_great_power : DefAt K mg "_law_great_power" s__law_great_power ["p", "number", "many"] _ _ := ⟨U__law_great_power, PySem.W.mg_of X G a__law_great_power, U__law_great_power.binds (ps := ["p", "number", "many"]) fun _ _ _ _ _ _ us hl => match us, hl with | [_, _, _], _ => rfl⟩
  have U__law_right := fun_mk (st := s__law_right) l__law_right c__law_right k__law_right
  have A__law_right : DefAt K mg "_law_right" s__law_right ["dice"] _ _ := ⟨U__law_right, PySem.W.mg_of X G a__law_right, U__law_right.binds (ps := ["dice"]) fun _ _ _ _ _ _ us hl => match us, hl with | [_], _ => rfl⟩
  have U__law_judged := fun_mk (st := s__law_judged) l__law_judged c__law_judged k__law_judged
  have A__law_judged : DefAt K mg "_law_judged" s__law_judged ["dice"] _ _ := ⟨U__law_judged, PySem.W.mg_of X G a__law_judged, U__law_judged.binds (ps := ["dice"]) fun _ _ _ _ _ _ us hl => match us, hl with | [_], _ => rfl⟩
  have U_law := fun_mk (st := s_law) l_law c_law k_law
  have A_law : DefAt K mg "law" s_law ["script"] _ _ := ⟨U_law, PySem.W.mg_of X G a_law, U_law.binds (ps := ["script"]) fun _ _ _ _ _ _ us hl => match us, hl with | [_], _ => rfl⟩
  have T : Txt K mg := { n_abs := PySem.W.mg_none_of X G z_abs, n_bool := PySem.W.mg_none_of X G z_bool, n_int := PySem.W.mg_none_of X G z_int, n_isinstance := PySem.W.mg_none_of X G z_isinstance, n_len := PySem.W.mg_none_of X G z_len, n_max := PySem.W.mg_none_of X G z_max, n_min := PySem.W.mg_none_of X G z_min, n_range := PySem.W.mg_none_of X G z_range, n_repr := PySem.W.mg_none_of X G z_repr, n_sum := PySem.W.mg_none_of X G z_sum, c_LEAST_FIELD := ⟨(.int 5 tk_LEAST_FIELD, .int 5), PySem.W.mg_of X G q_LEAST_FIELD, ⟨_, rfl⟩, fun Hf => .int _⟩, c_MAX_FIELD := ⟨(.int 997 tk_MAX_FIELD, .int 997), PySem.W.mg_of X G q_MAX_FIELD, ⟨_, rfl⟩, fun Hf => .int _⟩, c_MAX_POWER := ⟨(.int 1000000 tk_MAX_POWER, .int 1000000), PySem.W.mg_of X G q_MAX_POWER, ⟨_, rfl⟩, fun Hf => .int _⟩, c_MAX_SIDE := ⟨(.int 60 tk_MAX_SIDE, .int 60), PySem.W.mg_of X G q_MAX_SIDE, ⟨_, rfl⟩, fun Hf => .int _⟩, c_SMALL_PRIMES := ⟨(.ref qa_SMALL_PRIMES, .ref qa_SMALL_PRIMES), PySem.W.mg_of X G q_SMALL_PRIMES, rfl, fun Hf => rep_tupK [2, 3, 5, 7, 11, 13, 17, 19, 23, 29, 31] [t0_SMALL_PRIMES, t1_SMALL_PRIMES, t2_SMALL_PRIMES, t3_SMALL_PRIMES, t4_SMALL_PRIMES, t5_SMALL_PRIMES, t6_SMALL_PRIMES, t7_SMALL_PRIMES, t8_SMALL_PRIMES, t9_SMALL_PRIMES, t10_SMALL_PRIMES] r_SMALL_PRIMES rfl rfl (by decide) Hf⟩ }
  refine ⟨PySem.W.fnOf "law" "law" (defArgs s_law) (defBody s_law) (defScope s_law) .none kV_law dc_law pm_law an_law cd_law ct_law, fun s v => .of_eq rfl, fun base _ _ => ?_⟩
  have G_is_integer := ok_is_integer (P := l.prog) (w := w) (base := base) T A_is_integer 
  have G_is_field := ok_is_field (P := l.prog) (w := w) (base := base) T A_is_field A_is_integer G_is_integer
  have G_check_field := ok_check_field (P := l.prog) (w := w) (base := base) T A_check_field A_is_field G_is_field
  have G_is_number := ok_is_number (P := l.prog) (w := w) (base := base) T A_is_number A_check_field G_check_field A_is_integer G_is_integer
  have G_check_integer := ok_check_integer (P := l.prog) (w := w) (base := base) T A_check_integer A_is_integer G_is_integer
  have G_check_number := ok_check_number (P := l.prog) (w := w) (base := base) T A_check_number A_check_integer G_check_integer
  have G_check_pair := ok_check_pair (P := l.prog) (w := w) (base := base) T A_check_pair A_check_field G_check_field A_check_number G_check_number
  have G_plus := ok_plus (P := l.prog) (w := w) (base := base) T A_plus A_check_pair G_check_pair
  have G_minus := ok_minus (P := l.prog) (w := w) (base := base) T A_minus A_check_pair G_check_pair
  have G_times := ok_times (P := l.prog) (w := w) (base := base) T A_times A_check_pair G_check_pair
  have G_raised := ok_raised (P := l.prog) (w := w) (base := base) T A_raised 
  have G_inverse := ok_inverse (P := l.prog) (w := w) (base := base) T A_inverse A_raised G_raised
  have G_undone := ok_undone (P := l.prog) (w := w) (base := base) T A_undone A_check_field G_check_field A_check_number G_check_number A_inverse G_inverse
  have G_power := ok_power (P := l.prog) (w := w) (base := base) T A_power A_check_field G_check_field A_check_number G_check_number A_check_integer G_check_integer A_raised G_raised
  have G_power_sum := ok_power_sum (P := l.prog) (w := w) (base := base) T A_power_sum A_check_field G_check_field A_check_integer G_check_integer
  have G__law_dice := ok__law_dice (P := l.prog) (w := w) (base := base) T A__law_dice 
  have G__law_roll := ok__law_roll (P := l.prog) (w := w) (base := base) T A__law_roll 
  have G__law_pick := ok__law_pick (P := l.prog) (w := w) (base := base) T A__law_pick A__law_roll G__law_roll
  have G__law_fd_primes := ok__law_fd_primes (P := l.prog) (w := w) (base := base) T A__law_fd_primes 
  have G__law_fd_undone := ok__law_fd_undone (P := l.prog) (w := w) (base := base) T A__law_fd_undone 
  have G__law_is_prime := ok__law_is_prime (P := l.prog) (w := w) (base := base) T A__law_is_prime 
  have G__law_powers := ok__law_powers (P := l.prog) (w := w) (base := base) T A__law_powers 
  have G__law_great_power := ok__law_great_power (P := l.prog) (w := w) (base := base) T A__law_great_power 
  have G__law_right := ok__law_right (P := l.prog) (w := w) (base := base) T A__law_right A__law_pick G__law_pick A__law_fd_primes G__law_fd_primes A__law_roll G__law_roll A_plus G_plus A_minus G_minus A_times G_times A_undone G_undone A__law_fd_undone G__law_fd_undone A__law_powers G__law_powers A_power G_power A__law_great_power G__law_great_power A_power_sum G_power_sum
  have G__law_judged := ok__law_judged (P := l.prog) (w := w) (base := base) T A__law_judged A__law_roll G__law_roll A_is_field G_is_field A__law_is_prime G__law_is_prime A__law_pick G__law_pick A__law_fd_primes G__law_fd_primes A_is_number G_is_number
  have G_law := ok_law (P := l.prog) (w := w) (base := base) T A_law A__law_dice G__law_dice A__law_right G__law_right A__law_judged G__law_judged A_is_field G_is_field A_undone G_undone A_power G_power A_power_sum G_power_sum
  exact G_law
end K00
end
section
set_option Elab.async false
set_option linter.all false
set_option autoImplicit false
set_option exponentiation.threshold 1000
/-! the mirrors' equations, for simp: each where it is applied to the slots -/
namespace EV
open PySem PySem.Spec PyProof.Rows L2
section
variable (g g0 : Gh) (f h : ME) (t u : MT) (fa : MA) (it : MI) (s r : MS) (n i : Nat) (Fn F2 : Da → Da → Option Wv) (d : Da) (m : MF) (w : Wv) (ws : List Wv)
theorem e_bodyM (pr : List Nat) : bodyM pr n s g = (s (g ++ List.replicate n .un)).bind fun a => match a.1 with | .rt w => some (w, keepArgs pr g a.2) | .nx => some (.dat .none, keepArgs pr g a.2) | _ => none := rfl
theorem e_seq : sSeq s r g = (s g).bind fun a => match a.1 with | .nx => r a.2 | fl => some (fl, a.2) := rfl
theorem e_nil : sNil g = some (.nx, g) := rfl
theorem e_if : sIf t s r g = (t g).bind fun a => if a.1 = true then s a.2 else r a.2 := rfl
theorem e_set : sSet i f g = (f g).bind fun a => (setN i a.1 a.2).bind fun g' => some (.nx, g') := rfl
theorem e_ret (pr : List Nat) : sRet pr f g = (f g).bind fun a => match a.1 with
  | .slot i => if pr.contains i then (toD (.slot i) a.2).bind fun r => some (.rt (.dat r.1), r.2) else match a.2[i]? with
    | some (.own ds) => some (.rt (.fresh ds), a.2.set i .un)
    | some (.val d) => some (.rt (.dat d), a.2)
    | _ => none
  | w => some (.rt w, a.2) := rfl
theorem e_drop : sDrop f g = (f g).bind fun a => some (.nx, a.2) := rfl
theorem e_par (is : List Nat) : sPar is fa g = (fa g).bind fun a => (setNs is a.1 a.2).bind fun g' => some (.nx, g') := rfl
theorem e_asg (mm : Wv → Gh → Option Gh) : sAsg f mm g = (f g).bind fun a => (mm a.1 a.2).bind fun g' => some (.nx, g') := rfl
theorem e_for (tg : Wv → Gh → Option Gh) : sFor it tg s g = (it g).bind fun a => forL tg s a.1 a.2 := rfl
theorem e_app : sApp i f g = match g[i]? with
  | some (.own _) => (f g).bind fun a => (toD a.1 a.2).bind fun r => match r.2[i]? with
    | some (.own ds) => if ds.length < sizeLine then some (.nx, r.2.set i (.own (ds ++ [r.1]))) else none
    | _ => none
  | _ => none := rfl
theorem e_setix : sSetIx i f h g = (f g).bind fun a => (toD a.1 a.2).bind fun r => match r.2[i]? with
  | some (.own _) => (h r.2).bind fun b => (look b.1 b.2).bind fun y => match y, b.2[i]? with
    | .int k, some (.own ds) => (ixN ds.length k).bind fun j => some (.nx, b.2.set i (.own (ds.set j r.1)))
    | _, _ => none
  | _ => none := rfl
theorem e_aug (k : Int → Int → Int) : sAug i k f g = match g[i]? with
  | some (.val (.int a)) => (f g).bind fun b => (look b.1 b.2).bind fun y => match y with
    | .int j => if i < b.2.length then some (.nx, b.2.set i (.val (.int (k a j)))) else none
    | _ => none
  | _ => none := rfl
theorem e_while : sWhile n t s g = whileL t s n g := rfl
theorem e_name : mName i g = match g[i]? with | some (.val d) => some (.dat d, g) | some (.own _) => some (.slot i, g) | some (.raw v) => some (.raw v, g) | _ => none := rfl
theorem e_c : mC d g = some (.dat d, g) := rfl
theorem e_anil : mNil g = some ([], g) := rfl
theorem e_acons : mCons f fa g = (f g).bind fun a => (fa a.2).bind fun b => some (a.1 :: b.1, b.2) := rfl
theorem e_bin : mBin Fn f h g = (f g).bind fun a => (h a.2).bind fun b => (look a.1 b.2).bind fun x => (look b.1 b.2).bind fun y => (Fn x y).bind fun w => some (w, b.2) := rfl
theorem e_cmp : mCmp Fn f h g = asB (mBin Fn f h g) := rfl
theorem e_brk : sBrk g = some (.bk, g) := rfl
theorem e_cnt : sCnt g = some (.ct, g) := rfl
theorem e_retn : sRetN g = some (.rt (.dat .none), g) := rfl
theorem e_ix : mIx f h g = (f g).bind fun a => (h a.2).bind fun b => (look a.1 b.2).bind fun x => (look b.1 b.2).bind fun y => (dIx x y).bind fun d => some (.dat d, b.2) := rfl
theorem e_call (Fc : List Da → Option Wv) : mCall Fc fa g = (fa g).bind fun a => (lookAll a.1 a.2).bind fun ds => (Fc ds).bind fun w => some (w, a.2) := rfl
theorem e_fn : mFn m fa g = (fa g).bind fun a => (toSls a.1 a.2).bind fun r => (m r.1).bind fun c => some (c.1, r.2) := rfl
theorem e_fn0 : mFn0 m g = (m []).bind fun c => some (c.1, g) := rfl
theorem e_fnD : mFnD m fa g = (fa g).bind fun a => match a.1 with
  | .slot i :: ws => (toSls ws a.2).bind fun r => match r.2[i]? with
    | some (.own ds) => (m (.own ds :: r.1)).bind fun c => match c.2 with
      | s :: _ => some (c.1, r.2.set i s)
      | [] => none
    | _ => none
  | _ => none := rfl
theorem e_ifx : mIf t f h g = (t g).bind fun a => if a.1 = true then f a.2 else h a.2 := rfl
theorem e_oft : mOfT t g = (t g).bind fun a => some (.dat (.bool a.1), a.2) := rfl
theorem e_tru : mTru f g = (f g).bind fun a => (look a.1 a.2).bind fun x => (truthD x).bind fun b => some (b, a.2) := rfl
theorem e_not : mNot t g = (t g).bind fun a => some (!a.1, a.2) := rfl
theorem e_and : mAnd t u g = (t g).bind fun a => if a.1 = true then u a.2 else some (false, a.2) := rfl
theorem e_or : mOr t u g = (t g).bind fun a => if a.1 = true then some (true, a.2) else u a.2 := rfl
theorem e_andv : mAndV f h g = (f g).bind fun a => match a.1 with | .dat (.bool true) => h a.2 | .dat (.bool false) => some (.dat (.bool false), a.2) | _ => none := rfl
theorem e_orv : mOrV f h g = (f g).bind fun a => match a.1 with | .dat (.bool false) => h a.2 | .dat (.bool true) => some (.dat (.bool true), a.2) | _ => none := rfl
theorem e_notv : mNotV f g = (f g).bind fun a => match a.1 with | .dat (.bool b) => some (.dat (.bool (!b)), a.2) | _ => none := rfl
theorem e_neg : mNeg f g = (f g).bind fun a => (look a.1 a.2).bind fun x => match x with | .int i => some (.dat (.int (-i)), a.2) | _ => none := rfl
theorem e_isi (T : String) : mIsi T f g = (f g).bind fun a => (look a.1 a.2).bind fun x => (kitB (tyName x) T).bind fun b => some (.dat (.bool b), a.2) := rfl
theorem e_chain (fc : ME) : mChain Fn F2 f h fc g = (f g).bind fun a => (h a.2).bind fun b => (look a.1 b.2).bind fun x => (look b.1 b.2).bind fun y => match Fn x y with
  | some (.dat (.bool true)) => (fc b.2).bind fun c => (look b.1 c.2).bind fun y' => (look c.1 c.2).bind fun z => match F2 y' z with | some (.dat (.bool k)) => some (k, c.2) | _ => none
  | some (.dat (.bool false)) => some (false, b.2)
  | _ => none := rfl
theorem e_lst : mLst fa g = (fa g).bind fun a => (toDs a.1 a.2).bind fun r => if r.1.length ≤ sizeLine then some (.fresh r.1, r.2) else none := rfl
theorem e_tup : mTup fa g = (fa g).bind fun a => (toDs a.1 a.2).bind fun r => if r.1.length ≤ sizeLine then some (.dat (.tuple r.1), r.2) else none := rfl
theorem e_it : mIt f g = (f g).bind fun a => (toD a.1 a.2).bind fun r => (itemsD r.1).bind fun ds => some (ds, r.2) := rfl
theorem e_rg1 : mRg1 fa g = (fa g).bind fun a => (lookAll a.1 a.2).bind fun ds => match ds with | [.int j] => if okRg j = true then some (rgD 0 j, a.2) else none | _ => none := rfl
theorem e_rg2 : mRg2 fa g = (fa g).bind fun a => (lookAll a.1 a.2).bind fun ds => match ds with | [.int i, .int j] => if okRg i = true ∧ okRg j = true then some (rgD i j, a.2) else none | _ => none := rfl
theorem e_zip : mZip fa g = (fa g).bind fun a => (toDs a.1 a.2).bind fun r => match r.1 with | [.list ds, .list es] => some (zipD ds es, r.2) | [.tuple ds, .tuple es] => some (zipD ds es, r.2) | _ => none := rfl
theorem e_enum : mEnum fa g = (fa g).bind fun a => (toDs a.1 a.2).bind fun r => match r.1 with | [.list ds] => some (enumD 0 ds, r.2) | _ => none := rfl
theorem e_revi : mRevI f g = (f g).bind fun a => (toD a.1 a.2).bind fun r => (itemsD r.1).bind fun ds => some (ds.reverse, r.2) := rfl
theorem e_rev : mRev f g = (f g).bind fun a => (look a.1 a.2).bind fun x => match x with | .list xs => some (.fresh xs.reverse, a.2) | _ => none := rfl
theorem e_o0 : mO0 g = some (none, g) := rfl
theorem e_o1 : mO1 f g = (f g).bind fun a => (look a.1 a.2).bind fun x => match x with | .int i => some (some i, a.2) | _ => none := rfl
theorem e_sl (fl fh : MO) : mSl f fl fh g = (f g).bind fun a => (fl a.2).bind fun l => (fh l.2).bind fun h => (look a.1 h.2).bind fun x => match x with
  | .list xs => some (.fresh (cutD xs l.1 h.1), h.2)
  | .tuple xs => some (.dat (.tuple (cutD xs l.1 h.1)), h.2)
  | _ => none := rfl
theorem e_dict0 : mDict0 g = some (.dat (.dict []), g) := rfl
theorem e_yes : mYes g = some (true, g) := rfl
theorem e_comp (vs : List Nat) (tg : Wv → Gh → Option Gh) : mComp vs it tg t f g = (it g).bind fun a => if a.1.length < sizeLine then (compL vs tg t f a.1 (wipeG a.2 vs)).bind fun r => some (.fresh r.1, restore vs a.2 r.2) else none := rfl
theorem e_pop : mPop i g = match g[i]? with | some (.own ds) => (ds.getLast?).bind fun d => some (.dat d, g.set i (.own ds.dropLast)) | _ => none := rfl
theorem e_asB (b : Bool) : asB (some (.dat (.bool b), g)) = some (b, g) := rfl
theorem e_toDd : toD (.dat d) g = some (d, g) := rfl
theorem e_toDf (ds : List Da) : toD (.fresh ds) g = some (.list ds, g) := rfl
theorem e_toDs : toD (.slot i) g = match g[i]? with | some (.own ds) => some (.list ds, g.set i (.val (.list ds))) | some (.val d) => some (d, g) | _ => none := rfl
theorem e_lkd : look (.dat d) g = some d := rfl
theorem e_lkf (ds : List Da) : look (.fresh ds) g = some (.list ds) := rfl
theorem e_lks : look (.slot i) g = match g[i]? with | some (.own ds) => some (.list ds) | some (.val d) => some d | _ => none := rfl
theorem e_lan : lookAll [] g = some [] := rfl
theorem e_lac : lookAll (w :: ws) g = (look w g).bind fun a => (lookAll ws g).bind fun b => some (a :: b) := rfl
theorem e_tdn : toDs [] g = some ([], g) := rfl
theorem e_tdc : toDs (w :: ws) g = (toD w g).bind fun a => (toDs ws a.2).bind fun b => some (a.1 :: b.1, b.2) := rfl
theorem e_tsn : toSls [] g = some ([], g) := rfl
theorem e_tsd : toSls (.dat d :: ws) g = (toSls ws g).bind fun b => some (.val d :: b.1, b.2) := rfl
theorem e_tsf (ds : List Da) : toSls (.fresh ds :: ws) g = (toSls ws g).bind fun b => some (.val (.list ds) :: b.1, b.2) := rfl
theorem e_tss : toSls (.slot i :: ws) g = (toD (.slot i) g).bind fun a => (toSls ws a.2).bind fun b => some (.val a.1 :: b.1, b.2) := rfl
theorem e_snd : setN i (.dat d) g = if i < g.length then some (g.set i (.val d)) else none := rfl
theorem e_snf (ds : List Da) : setN i (.fresh ds) g = if i < g.length then some (g.set i (.own ds)) else none := rfl
theorem e_snn : setNs [] [] g = some g := rfl
theorem e_snc (is : List Nat) : setNs (i :: is) (w :: ws) g = (slOf w).bind fun s => if i < g.length then setNs is ws (g.set i s) else none := rfl
theorem e_sod : slOf (.dat d) = some (.val d) := rfl
theorem e_sof (ds : List Da) : slOf (.fresh ds) = some (.own ds) := rfl
theorem e_st (is : List Nat) (ds : List Da) : setT is (.dat (.tuple ds)) g = if ds.length = is.length then setNs is (ds.map Wv.dat) g else none := rfl
theorem e_fln (tg : Wv → Gh → Option Gh) : forL tg s [] g = some (.nx, g) := rfl
theorem e_keep (pr : List Nat) : keepArgs pr g0 g = g0.mapIdx fun i s => if pr.contains i then g[i]?.getD .un else s := rfl
theorem e_itl (ds : List Da) : itemsD (.list ds) = some ds := rfl
theorem e_itt (ds : List Da) : itemsD (.tuple ds) = some ds := rfl
end
section
variable (a b : Int) (k : Bool) (xs ys : List Da) (d e : Da)
theorem d_add : dAdd (.int a) (.int b) = some (.dat (.int (a + b))) := rfl
theorem d_addT : dAdd (.tuple xs) (.tuple ys) = if xs.length + ys.length ≤ sizeLine then some (.dat (.tuple (xs ++ ys))) else none := rfl
theorem d_sub : dSub (.int a) (.int b) = some (.dat (.int (a - b))) := rfl
theorem d_mod (h : 0 < b) : dMod (.int a) (.int b) = some (.dat (.int (a % b))) := if_pos (decide_eq_true h)
theorem d_fdiv (h : 0 < b) (h2 : b < 1000000000000000000000) : dFdiv (.int a) (.int b) = some (.dat (.int (a / b))) := by
  have : b.natAbs.log2 < 9000 := by
    have h3 : b.natAbs < 2 ^ 100 := by omega
    exact Nat.lt_of_lt_of_le (PySem.Flt.log2_lt_of (by decide) h3) (by decide)
  exact if_pos (show (decide (0 < b) && decide (b.natAbs.log2 < 9000)) = true by rw [decide_eq_true h, decide_eq_true this]; rfl)
theorem d_pow (h : 0 ≤ b) (h2 : b ≤ 1000000) (h3 : a.natAbs < 2 ^ 64) : dPow (.int a) (.int b) = some (.dat (.int (a ^ b.toNat))) := if_pos (show (decide (0 ≤ b) && decide (b ≤ 1000000) && decide (a.natAbs < 2 ^ 64)) = true by rw [decide_eq_true h, decide_eq_true h2, decide_eq_true h3]; rfl)
theorem d_mulW (h : a.natAbs.log2 + b.natAbs.log2 < 1000000) : dMul (.int a) (.int b) = some (.dat (.int (a * b))) := if_pos h
theorem log2_le {x : Int} {k : Nat} (h : x.natAbs < 2 ^ (k + 1)) : x.natAbs.log2 ≤ k := Nat.le_of_lt_succ (PySem.Flt.log2_lt_of (Nat.succ_pos k) h)
/-- where one factor is below 2^64 and the other below 2^900000 -/
theorem d_mul (h : a.natAbs < 2 ^ 400) (h2 : b.natAbs < 2 ^ 400) : dMul (.int a) (.int b) = some (.dat (.int (a * b))) := by
  refine d_mulW a b ?_
  have h1 := log2_le (k := 399) h
  have h3 := log2_le (k := 399) h2
  omega
theorem d_lt : dLt (.int a) (.int b) = some (.dat (.bool (decide (a < b)))) := rfl
theorem d_le : dLe (.int a) (.int b) = some (.dat (.bool (decide (a ≤ b)))) := rfl
theorem d_gt : dGt (.int a) (.int b) = some (.dat (.bool (decide (b < a)))) := rfl
theorem d_ge : dGe (.int a) (.int b) = some (.dat (.bool (decide (b ≤ a)))) := rfl
theorem d_eq : dEq (.int a) (.int b) = some (.dat (.bool (a == b))) := rfl
theorem d_ne : dNe (.int a) (.int b) = some (.dat (.bool (!(a == b)))) := rfl
theorem eqB_D (h : okEq d = true) (h2 : okEq e = true) : eqB d e = some (PyData.eqv d e) := by
  unfold eqB
  split
  · simp only [PyData.eqv]
  · rw [h, h2]; rfl
theorem d_eqD (h : okEq d = true) (h2 : okEq e = true) : dEq d e = some (.dat (.bool (PyData.eqv d e))) := by
  unfold dEq; rw [eqB_D d e h h2]; rfl
theorem d_neD (h : okEq d = true) (h2 : okEq e = true) : dNe d e = some (.dat (.bool (!PyData.eqv d e))) := by
  unfold dNe; rw [eqB_D d e h h2]; rfl
theorem d_ixl : dIx (.list xs) (.int a) = atI xs a := rfl
theorem d_ixt : dIx (.tuple xs) (.int a) = atI xs a := rfl
theorem d_lenl : dLen [.list xs] = some (.dat (.int xs.length)) := rfl
theorem d_lent : dLen [.tuple xs] = some (.dat (.int xs.length)) := rfl
theorem d_inti : dInt [.int a] = some (.dat (.int a)) := rfl
theorem d_intb : dInt [.bool k] = some (.dat (.int (if k then 1 else 0))) := rfl
theorem d_abs : dAbs [.int a] = some (.dat (.int (if a < 0 then -a else a))) := rfl
theorem d_max2 : dMax [.int a, .int b] = some (.dat (.int (if b > a then b else a))) := rfl
theorem d_min2 : dMin [.int a, .int b] = some (.dat (.int (if b < a then b else a))) := rfl
theorem d_tupl : dTuple [.list xs] = some (.dat (.tuple xs)) := rfl
theorem d_tupt : dTuple [.tuple xs] = some (.dat (.tuple xs)) := rfl
theorem d_lsl : dList [.list xs] = some (.fresh xs) := rfl
theorem d_lst : dList [.tuple xs] = some (.fresh xs) := rfl
theorem d_sum (ns : List Int) : dSum [.list (ns.map PyData.int)] = some (.dat (.int ns.sum)) := by
  show (intsOf (ns.map PyData.int)).map _ = _
  rw [intsOf_map]; rfl
theorem d_rb : dRepr [.bool k] = some (.dat (.str (if k then "True" else "False"))) := rfl
theorem t_b : truthD (.bool k) = some k := rfl
theorem t_i : truthD (.int a) = some (a != 0) := rfl
theorem t_l : truthD (.list xs) = some (!xs.isEmpty) := rfl
theorem t_t : truthD (.tuple xs) = some (!xs.isEmpty) := rfl
theorem is_nb (neg : Bool) : dIs neg d .none = some (.dat (.bool (if neg then !isNone d else isNone d))) := by unfold dIs; cases d <;> rfl
theorem is_bb (neg : Bool) (j : Bool) : dIs neg d (.bool j) = some (.dat (.bool (if neg then !isBl j d else isBl j d))) := by unfold dIs; cases d <;> rfl
theorem k_ii : kitB (tyName (.int a)) "int" = some true := by show kitB "int" "int" = _; decide +kernel
theorem k_ib : kitB (tyName (.int a)) "bool" = some false := by show kitB "int" "bool" = _; decide +kernel
theorem k_bi : kitB (tyName (.bool k)) "int" = some true := by show kitB "bool" "int" = _; decide +kernel
theorem k_bb : kitB (tyName (.bool k)) "bool" = some true := by show kitB "bool" "bool" = _; decide +kernel
theorem k_ni : kitB (tyName .none) "int" = some false := by show kitB "NoneType" "int" = _; decide +kernel
theorem k_si (x : Str) : kitB (tyName (.str x)) "int" = some false := by show kitB "str" "int" = _; decide +kernel
theorem k_ti : kitB (tyName (.tuple xs)) "int" = some false := by show kitB "tuple" "int" = _; decide +kernel
theorem k_li : kitB (tyName (.list xs)) "int" = some false := by show kitB "list" "int" = _; decide +kernel
theorem k_di (q : List (Da × Da)) : kitB (tyName (.dict q)) "int" = some false := by show kitB "dict" "int" = _; decide +kernel
theorem k_tt : kitB (tyName (.tuple xs)) "tuple" = some true := by show kitB "tuple" "tuple" = _; decide +kernel
end
end EV
end
section
set_option Elab.async false
set_option linter.all false
set_option maxRecDepth 100000
set_option maxHeartbeats 4000000
set_option exponentiation.threshold 3000
namespace Lib
open PySem PySem.Spec PyProof.Rows L2 EV
local macro_rules | `(tactic| walk_at "ev") => `(tactic| simp only [e_bodyM, e_seq, e_nil, e_if, e_set, e_ret, e_drop, e_par, e_asg, e_for, e_app, e_setix, e_aug, e_name, e_c, e_anil, e_acons, e_bin, e_cmp, e_brk, e_cnt, e_retn, e_ix, e_call, e_fn, e_fn0, e_fnD, e_ifx, e_oft, e_tru, e_not, e_and, e_or, e_andv, e_orv, e_notv, e_neg, e_isi, e_chain, e_lst, e_tup, e_it, e_rg1, e_rg2, e_zip, e_enum, e_revi, e_rev, e_o0, e_o1, e_sl, e_dict0, e_yes, e_comp, e_pop, e_asB, e_toDd, e_toDf, e_toDs, e_lkd, e_lkf, e_lks, e_lan, e_lac, e_tdn, e_tdc, e_tsn, e_tsd, e_tsf, e_tss, e_snd, e_snf, e_snn, e_snc, e_sod, e_sof, e_st, e_fln, e_keep, e_itl, e_itt,
  d_add, d_sub, d_lt, d_le, d_gt, d_ge, d_eq, d_ne, d_ixl, d_ixt, d_lenl, d_lent, d_inti, d_intb, d_abs, d_max2, d_min2, d_tupl, d_tupt, d_lsl, d_lst, d_rb, t_b, t_i, t_l, t_t, is_nb, is_bb, k_ii, k_ib, k_bi, k_bb, k_ni, k_si, k_ti, k_li, k_di, k_tt, isNone, isBl,
  Option.bind_some, Option.bind_none, Option.map_some, Option.map_none, List.append_nil, List.cons_append, List.nil_append, List.replicate, List.getElem?_cons_zero, List.getElem?_cons_succ, List.getElem?_nil, List.set_cons_zero, List.set_cons_succ, List.length_cons, List.length_nil, List.mapIdx_cons, List.mapIdx_nil, List.contains_nil, List.contains_cons, Bool.false_eq_true, if_true, if_false, reduceIte, Bool.not_true, Bool.not_false, Option.getD_some, Function.comp, List.map_cons, List.map_nil,
  Nat.reduceLT, Nat.reduceAdd, Nat.reduceBEq, Nat.reduceEqDiff, Nat.reduceLeDiff, Int.reduceLT, Int.reduceLE, decide_true, decide_false, beq_self_eq_true, Bool.or_false, Bool.or_true, Bool.true_or, Bool.false_or, Bool.and_true, Bool.true_and, Bool.and_false, Bool.false_and, and_self, Nat.zero_add])
theorem t_is_integer (v lo hi : Int) : F_is_integer [.val (.int v), .val (.int lo), .val (.int hi)] = some (.dat (.bool (decide (lo ≤ v) && decide (v ≤ hi))), [.val (.int v), .val (.int lo), .val (.int hi)]) := by
  unfold F_is_integer m_is_integer
  by_cases h : lo ≤ v
  · walk_at "ev"
    simp [h]
  · walk_at "ev"
    simp [h]
/-- is_field of ints -/
def fldGo (v : Int) : List Int → Bool
  | [] => true
  | q :: r => if v % q = 0 then v == q else fldGo v r
def isFld (v : Int) : Bool := decide (5 ≤ v) && decide (v ≤ 997) && fldGo v [2, 3, 5, 7, 11, 13, 17, 19, 23, 29, 31]
theorem fld_loop (v : Int) : ∀ (qs : List Int) (s : Sl), (∀ q ∈ qs, 0 < q) → ∃ s', forL (setN 1) (sIf (mCmp dEq (mBin dMod (mName 0) (mName 1)) (mC (.int 0))) (sRet [] (mBin dEq (mName 0) (mName 1))) sNil) (qs.map PyData.int) [.val (.int v), s] = some (.nx, [.val (.int v), s']) ∧ fldGo v qs = true
    ∨ forL (setN 1) (sIf (mCmp dEq (mBin dMod (mName 0) (mName 1)) (mC (.int 0))) (sRet [] (mBin dEq (mName 0) (mName 1))) sNil) (qs.map PyData.int) [.val (.int v), s] = some (.rt (.dat (.bool (fldGo v qs))), [.val (.int v), s']) := by
  intro qs
  induction qs with
  | nil => intro s _; exact ⟨s, .inl ⟨rfl, rfl⟩⟩
  | cons q qs ih =>
    intro s hq
    have h0 : 0 < q := hq q List.mem_cons_self
    rw [List.map_cons]
    unfold forL
    by_cases h : v % q = 0
    · refine ⟨.val (.int q), .inr ?_⟩
      walk_at "ev"
      simp only [d_mod v q h0, h, Option.bind_some, e_lkd, d_eq, beq_self_eq_true, e_asB, if_true, fldGo]
      walk_at "ev"
    · have hb : (v % q == 0) = false := by simpa using h
      obtain ⟨s', hs⟩ := ih (.val (.int q)) fun q h => hq q (List.mem_cons_of_mem _ h)
      refine ⟨s', ?_⟩
      walk_at "ev"
      simp only [d_mod v q h0, hb, Option.bind_some, e_lkd, d_eq, e_asB, Bool.false_eq_true, if_false, fldGo, if_neg h]
      exact hs
theorem t_is_field (v : Int) : F_is_field [.val (.int v)] = some (.dat (.bool (isFld v)), [.val (.int v)]) := by
  unfold F_is_field m_is_field isFld
  by_cases h1 : (decide (5 ≤ v) && decide (v ≤ 997)) = true
  · obtain ⟨s', h | h⟩ := fld_loop v [2, 3, 5, 7, 11, 13, 17, 19, 23, 29, 31] .un (by decide)
    · walk_at "ev"
      rw [t_is_integer]
      simp only [h1]
      walk_at "ev"
      rw [List.map_cons] at h
      simp only [List.map_cons, List.map_nil] at h
      rw [h.1]
      walk_at "ev"
      rw [h.2]
    · walk_at "ev"
      rw [t_is_integer]
      simp only [h1]
      walk_at "ev"
      simp only [List.map_cons, List.map_nil] at h
      rw [h]
      walk_at "ev"
  · have h1 : (decide (5 ≤ v) && decide (v ≤ 997)) = false := by simpa using h1
    walk_at "ev"
    rw [t_is_integer]
    simp only [h1]
    walk_at "ev"
end Lib
end
section
set_option Elab.async false
set_option linter.all false
set_option autoImplicit false
set_option exponentiation.threshold 1000
/-! comparing data: what may be compared, and what comes out -/
namespace EV
open PySem PySem.Spec PyProof.Rows L2
/-- data without dicts, of at most so deep a nesting -/
def Flat (n : Nat) (d : Da) : Prop := noDict d = true ∧ d.canLay0 = true ∧ d.depth ≤ n
theorem flat_int {n : Nat} (i : Int) : Flat n (.int i) := ⟨rfl, by simp only [PyData.canLay0], by simp only [PyData.depth]; omega⟩
theorem flat_bool {n : Nat} (b : Bool) : Flat n (.bool b) := ⟨rfl, by simp only [PyData.canLay0], by simp only [PyData.depth]; omega⟩
theorem flat_all {n : Nat} : ∀ {xs : List Da}, (∀ x ∈ xs, Flat n x) → noDictAll xs = true ∧ PyData.canLayAll0 xs = true ∧ PyData.depthAll xs ≤ n
  | [], _ => ⟨rfl, by simp only [PyData.canLayAll0], by simp only [PyData.depthAll]; omega⟩
  | x :: xs, h => by
    obtain ⟨h1, h2, h3⟩ := h x List.mem_cons_self
    obtain ⟨k1, k2, k3⟩ := flat_all fun x hx => h x (List.mem_cons_of_mem _ hx)
    refine ⟨?_, ?_, ?_⟩
    · simp only [noDictAll, h1, k1, Bool.and_true]
    · simp only [PyData.canLayAll0, h2, k2, Bool.and_true]
    · simp only [PyData.depthAll]; omega
theorem flat_list {n : Nat} {xs : List Da} (h : ∀ x ∈ xs, Flat n x) : Flat (n + 1) (.list xs) := by
  obtain ⟨k1, k2, k3⟩ := flat_all h
  exact ⟨by simp only [noDict, k1], by simp only [PyData.canLay0, k2], by simp only [PyData.depth]; omega⟩
theorem flat_ints {n : Nat} (ns : List Int) : ∀ x ∈ ns.map PyData.int, Flat n x := by
  intro x hx
  obtain ⟨i, _, rfl⟩ := List.mem_map.mp hx
  exact flat_int i
theorem ok_flat {n : Nat} {d : Da} (h : Flat n d) (hn : n ≤ 64 := by decide) : okEq d = true := by
  show (noDict d && SeqAt.shaped d) = true
  rw [h.1]
  show (d.canLay0 && decide (d.depth ≤ 64)) = true
  rw [h.2.1, decide_eq_true (Nat.le_trans h.2.2 hn)]
  rfl
mutual
theorem eqv_self : ∀ d : Da, noDict d = true → PyData.eqv d d = true
  | .none, _ => by simp only [PyData.eqv]
  | .bool b, _ => by simp only [PyData.eqv, beq_self_eq_true]
  | .int b, _ => by simp only [PyData.eqv, beq_self_eq_true]
  | .str b, _ => by simp only [PyData.eqv, beq_self_eq_true]
  | .list xs, h => by simp only [PyData.eqv]; exact eqvAll_self xs (by simpa only [noDict] using h)
  | .tuple xs, h => by simp only [PyData.eqv]; exact eqvAll_self xs (by simpa only [noDict] using h)
  | .dict _, h => by simp [noDict] at h
theorem eqvAll_self : ∀ xs : List Da, noDictAll xs = true → PyData.eqvAll xs xs = true
  | [], _ => by simp only [PyData.eqvAll]
  | x :: xs, h => by
    simp only [noDictAll, Bool.and_eq_true] at h
    simp only [PyData.eqvAll, eqv_self x h.1, eqvAll_self xs h.2, Bool.and_self]
end
theorem d_eqS {n : Nat} {d : Da} (h : Flat n d) (hn : n ≤ 64 := by decide) : dEq d d = some (.dat (.bool true)) := by
  rw [d_eqD _ _ (ok_flat h hn) (ok_flat h hn), eqv_self d h.1]
theorem d_neS {n : Nat} {d : Da} (h : Flat n d) (hn : n ≤ 64 := by decide) : dNe d d = some (.dat (.bool false)) := by
  rw [d_neD _ _ (ok_flat h hn) (ok_flat h hn), eqv_self d h.1]; rfl
theorem d_eqNil {n : Nat} {xs : List Da} (h : Flat n (.list xs)) (hn : n ≤ 64 := by decide) : dEq (.list xs) (.list []) = some (.dat (.bool xs.isEmpty)) := by
  rw [d_eqD _ _ (ok_flat h hn) (ok_flat (flat_list (n := 0) (xs := []) fun x hx => by cases hx))]
  cases xs <;> simp only [PyData.eqv, PyData.eqvAll, List.isEmpty]
end EV
end
section
set_option Elab.async false
set_option linter.all false
set_option autoImplicit false
/-! the later mirrors' equations, for simp -/
namespace EV
open PySem PySem.Spec PyProof.Rows L2
section
variable (g : Gh) (f h : ME) (i : Nat) (m : MR) (a b : Int) (k : Bool) (xs ys : List Da) (ns : List Int)
theorem e_rr1 : mRr1 f g = (f g).bind fun a => (look a.1 a.2).bind fun x => match x with
  | .int j => if okRg j = true then some (((0 : Int), j), a.2) else none
  | _ => none := rfl
theorem e_rr2 : mRr2 f h g = (f g).bind fun a => (h a.2).bind fun b => (look a.1 b.2).bind fun x => (look b.1 b.2).bind fun y => match x, y with
  | .int i, .int j => if okRg i = true ∧ okRg j = true then some ((i, j), b.2) else none
  | _, _ => none := rfl
theorem e_tupRg : mTupRg m g = (m g).bind fun a => if (a.1.2 - a.1.1).toNat ≤ sizeLine then some (.dat (.tuple (rgD a.1.1 a.1.2)), a.2) else none := rfl
theorem e_lstRg : mLstRg m g = (m g).bind fun a => if (a.1.2 - a.1.1).toNat ≤ sizeLine then some (.fresh (rgD a.1.1 a.1.2), a.2) else none := rfl
theorem e_revR : mRevR m g = (m g).bind fun a => some ((rgD a.1.1 a.1.2).reverse, a.2) := rfl
theorem e_popAt : mPopAt i f g = match g[i]? with
  | some (.own _) => (f g).bind fun b => (look b.1 b.2).bind fun y => match y, b.2[i]? with
    | .int k, some (.own ds) => if okRg k = true then (ixN ds.length k).bind fun j => (ds[j]?).bind fun d => some (.dat d, b.2.set i (.own (ds.eraseIdx j))) else none
    | _, _ => none
  | _ => none := rfl
theorem e_ext : sExt i f g = match g[i]? with
  | some (.own _) => (f g).bind fun a => match a.1, a.2[i]? with
    | .fresh es, some (.own ds) => if ds.length + es.length ≤ sizeLine then some (.nx, a.2.set i (.own (ds ++ es))) else none
    | _, _ => none
  | _ => none := rfl
theorem e_tupRev : mTupRev f g = (f g).bind fun a => (look a.1 a.2).bind fun x => match x with | .list xs => some (.dat (.tuple xs.reverse), a.2) | _ => none := rfl
theorem e_repL : mRepL f h g = (f g).bind fun a => (h a.2).bind fun b => (look b.1 b.2).bind fun y => match a.1, y with
  | .fresh xs, .int k => if okRg k = true ∧ xs.length * k.toNat ≤ sizeLine then some (.fresh (List.replicate k.toNat xs).flatten, b.2) else none
  | _, _ => none := rfl
theorem e_lenSet : mLenSet f g = (f g).bind fun a => (look a.1 a.2).bind fun x => match x with | .tuple xs => (intsOf xs).bind fun ns => if ns.length ≤ 1000 then some (.dat (.int (uniq ns).length), a.2) else none | _ => none := rfl
theorem e_zipA (fa : MA) : mZipA fa g = (fa g).bind fun a => (toDs a.1 a.2).bind fun r => match r.1 with | [x, y] => (itemsD x).bind fun ds => (itemsD y).bind fun es => some (zipD ds es, r.2) | _ => none := rfl
theorem e_zip3 (fa : MA) : mZip3 fa g = (fa g).bind fun a => (toDs a.1 a.2).bind fun r => match r.1 with | [x, y, z] => (itemsD x).bind fun ds => (itemsD y).bind fun es => (itemsD z).bind fun fs => some (zipD3 ds es fs, r.2) | _ => none := rfl
theorem e_enumA (fa : MA) : mEnumA fa g = (fa g).bind fun a => (toDs a.1 a.2).bind fun r => match r.1 with | [.list ds] => some (enumD 0 ds, r.2) | [.tuple ds] => some (enumD 0 ds, r.2) | _ => none := rfl
theorem flat1 {α : Type} (x : α) : ∀ n : Nat, (List.replicate n [x]).flatten = List.replicate n x
  | 0 => rfl
  | n + 1 => by rw [List.replicate_succ, List.flatten_cons, flat1 x n]; rfl
end
end EV
end
section
set_option Elab.async false
set_option linter.all false
set_option maxRecDepth 100000
set_option maxHeartbeats 4000000
set_option exponentiation.threshold 3000
namespace Lib
open PySem PySem.Spec PyProof.Rows L2 EV
local macro_rules | `(tactic| walk_at "ev") => `(tactic| try simp only [e_bodyM, e_seq, e_nil, e_if, e_set, e_ret, e_drop, e_par, e_asg, e_for, e_app, e_setix, e_aug, e_name, e_c, e_anil, e_acons, e_bin, e_cmp, e_brk, e_cnt, e_retn, e_ix, e_call, e_fn, e_fn0, e_fnD, e_ifx, e_oft, e_tru, e_not, e_and, e_or, e_andv, e_orv, e_notv, e_neg, e_isi, e_chain, e_lst, e_tup, e_it, e_rg1, e_rg2, e_zip, e_enum, e_revi, e_rev, e_o0, e_o1, e_sl, e_dict0, e_yes, e_comp, e_pop, e_asB, e_toDd, e_toDf, e_toDs, e_lkd, e_lkf, e_lks, e_lan, e_lac, e_tdn, e_tdc, e_tsn, e_tsd, e_tsf, e_tss, e_snd, e_snf, e_snn, e_snc, e_sod, e_sof, e_st, e_fln, e_keep, e_itl, e_itt, e_rr1, e_rr2, e_tupRg, e_lstRg, e_revR, e_popAt, e_ext, e_tupRev, e_repL, e_lenSet, e_enumA, e_zipA, e_zip3, d_addT, flat1,
  d_add, d_sub, d_lt, d_le, d_gt, d_ge, d_eq, d_ne, d_ixl, d_ixt, d_lenl, d_lent, d_inti, d_intb, d_abs, d_max2, d_min2, d_tupl, d_tupt, d_lsl, d_lst, d_rb, t_b, t_i, t_l, t_t, is_nb, is_bb, k_ii, k_ib, k_bi, k_bb, k_ni, k_si, k_ti, k_li, k_di, k_tt, isNone, isBl,
  Option.bind_some, Option.bind_none, Option.map_some, Option.map_none, List.append_nil, List.cons_append, List.nil_append, List.replicate, List.getElem?_cons_zero, List.getElem?_cons_succ, List.getElem?_nil, List.set_cons_zero, List.set_cons_succ, List.length_cons, List.length_nil, List.mapIdx_cons, List.mapIdx_nil, List.contains_nil, List.contains_cons, Bool.false_eq_true, if_true, if_false, reduceIte, Bool.not_true, Bool.not_false, Option.getD_some, Function.comp, List.map_cons, List.map_nil,
  Nat.reduceLT, Nat.reduceAdd, Nat.reduceBEq, Nat.reduceEqDiff, Nat.reduceLeDiff, Int.reduceLT, Int.reduceLE, decide_true, decide_false, beq_self_eq_true, Bool.or_false, Bool.or_true, Bool.true_or, Bool.false_or, Bool.and_true, Bool.true_and, Bool.and_false, Bool.false_and, and_self, Nat.zero_add])
theorem t_check_field {v : Int} (h : isFld v = true) : F_check_field [.val (.int v)] = some (.dat .none, [.val (.int v)]) := by
  unfold F_check_field m_check_field
  walk_at "ev"
  rw [t_is_field, h]
  walk_at "ev"
theorem t_check_integer {v lo hi : Int} (h1 : lo ≤ v) (h2 : v ≤ hi) : F_check_integer [.val (.int v), .val (.int lo), .val (.int hi)] = some (.dat .none, [.val (.int v), .val (.int lo), .val (.int hi)]) := by
  unfold F_check_integer m_check_integer
  walk_at "ev"
  rw [t_is_integer, decide_eq_true h1, decide_eq_true h2]
  walk_at "ev"
theorem t_check_number {p v : Int} (h1 : 0 ≤ v) (h2 : v < p) : F_check_number [.val (.int p), .val (.int v)] = some (.dat .none, [.val (.int p), .val (.int v)]) := by
  unfold F_check_number m_check_number
  walk_at "ev"
  rw [t_check_integer h1 (by omega)]
  walk_at "ev"
theorem t_check_pair {p a b : Int} (hp : isFld p = true) (h1 : 0 ≤ a) (h2 : a < p) (h3 : 0 ≤ b) (h4 : b < p) : F_check_pair [.val (.int p), .val (.int a), .val (.int b)] = some (.dat .none, [.val (.int p), .val (.int a), .val (.int b)]) := by
  unfold F_check_pair m_check_pair
  walk_at "ev"
  rw [t_check_field hp]
  walk_at "ev"
  rw [t_check_number h1 h2]
  walk_at "ev"
  rw [t_check_number h3 h4]
  walk_at "ev"
theorem fld_pos {p : Int} (h : isFld p = true) : 5 ≤ p ∧ p ≤ 997 := by
  unfold isFld at h
  simp only [Bool.and_eq_true, decide_eq_true_eq] at h
  exact h.1
theorem t_plus {p a b : Int} (hp : isFld p = true) (h1 : 0 ≤ a) (h2 : a < p) (h3 : 0 ≤ b) (h4 : b < p) : F_plus [.val (.int p), .val (.int a), .val (.int b)] = some (.dat (.int ((a + b) % p)), [.val (.int p), .val (.int a), .val (.int b)]) := by
  have := fld_pos hp
  unfold F_plus m_plus
  walk_at "ev"
  rw [t_check_pair hp h1 h2 h3 h4]
  walk_at "ev"
  rw [d_mod _ _ (by omega)]
  walk_at "ev"
theorem t_minus {p a b : Int} (hp : isFld p = true) (h1 : 0 ≤ a) (h2 : a < p) (h3 : 0 ≤ b) (h4 : b < p) : F_minus [.val (.int p), .val (.int a), .val (.int b)] = some (.dat (.int ((a - b) % p)), [.val (.int p), .val (.int a), .val (.int b)]) := by
  have := fld_pos hp
  unfold F_minus m_minus
  walk_at "ev"
  rw [t_check_pair hp h1 h2 h3 h4]
  walk_at "ev"
  rw [d_mod _ _ (by omega)]
  walk_at "ev"
theorem big {x : Int} (h1 : 0 ≤ x) (h2 : x < 100000000000000000000000000000) : x.natAbs < 2 ^ 400 := Nat.lt_of_lt_of_le (show x.natAbs < 2 ^ 100 by omega) (Nat.pow_le_pow_right (by decide) (by decide))
theorem t_times {p a b : Int} (hp : isFld p = true) (h1 : 0 ≤ a) (h2 : a < p) (h3 : 0 ≤ b) (h4 : b < p) : F_times [.val (.int p), .val (.int a), .val (.int b)] = some (.dat (.int ((a * b) % p)), [.val (.int p), .val (.int a), .val (.int b)]) := by
  have := fld_pos hp
  unfold F_times m_times
  walk_at "ev"
  rw [t_check_pair hp h1 h2 h3 h4]
  walk_at "ev"
  rw [d_mul _ _ (big h1 (by omega)) (big h3 (by omega))]
  walk_at "ev"
  rw [d_mod _ _ (by omega)]
  walk_at "ev"
/-! ### powers modulo -/
theorem mm (a b p : Int) : (a % p * (b % p)) % p = (a * b) % p := (Int.mul_emod a b p).symm
theorem mml (a b p : Int) : (a % p * b) % p = (a * b) % p := by rw [Int.mul_emod, Int.emod_emod_of_dvd a (Int.dvd_refl p), ← Int.mul_emod]
theorem mmr (a b p : Int) : (a * (b % p)) % p = (a * b) % p := by rw [Int.mul_emod, Int.emod_emod_of_dvd b (Int.dvd_refl p), ← Int.mul_emod]
theorem emod_pow' (a p : Int) : ∀ k : Nat, ((a % p) ^ k) % p = (a ^ k) % p
  | 0 => by rw [Int.pow_zero, Int.pow_zero]
  | k + 1 => by
    rw [Int.pow_succ, Int.pow_succ, mmr, ← mml, emod_pow' a p k, mml]
theorem pw_step (p r s : Int) (l : Nat) : (r * s ^ l) % p = ((if l % 2 = 1 then r * s % p else r) * (s * s % p) ^ (l / 2)) % p := by
  have e : s ^ l = s ^ (l % 2) * (s * s) ^ (l / 2) := by
    have h : s * s = s ^ 2 := by rw [Int.pow_succ, Int.pow_succ, Int.pow_zero, Int.one_mul]
    rw [h, ← Int.pow_mul, ← Int.pow_add, Nat.mod_add_div]
  by_cases h : l % 2 = 1
  · rw [if_pos h, mml (r * s), ← mmr (r * s), emod_pow', mmr, e, h, Int.pow_succ, Int.pow_zero, Int.one_mul, Int.mul_assoc]
  · have h0 : l % 2 = 0 := by omega
    rw [if_neg h, ← mmr r ((s * s % p) ^ (l / 2)), emod_pow', mmr, e, h0, Int.pow_zero, Int.one_mul]
/-- what the loop of raised gives -/
def pwGo (p : Int) (r s : Int) : Nat → Nat → Int
  | 0, _ => r
  | _ + 1, 0 => r
  | n + 1, l + 1 => pwGo p (if (l + 1) % 2 = 1 then r * s % p else r) (s * s % p) n ((l + 1) / 2)
theorem pwGo_mod {p : Int} : ∀ (n l : Nat) (r s : Int), l ≤ n → pwGo p r s n l % p = (r * s ^ l) % p
  | 0, 0, r, s, _ => by simp [pwGo]
  | 0, l + 1, r, s, h => by omega
  | n + 1, 0, r, s, _ => by simp [pwGo]
  | n + 1, l + 1, r, s, h => by
    unfold pwGo
    rw [pwGo_mod n ((l + 1) / 2) _ _ (by omega), pw_step p r s (l + 1)]
theorem pwGo_range {p : Int} (hp : 0 < p) : ∀ (n l : Nat) (r s : Int), 0 ≤ r → r < p → 0 ≤ pwGo p r s n l ∧ pwGo p r s n l < p
  | 0, l, r, s, h1, h2 => by unfold pwGo; exact ⟨h1, h2⟩
  | n + 1, 0, r, s, h1, h2 => by unfold pwGo; exact ⟨h1, h2⟩
  | n + 1, l + 1, r, s, h1, h2 => by
    unfold pwGo
    split
    · exact pwGo_range hp n _ _ _ (Int.emod_nonneg _ (by omega)) (Int.emod_lt_of_pos _ hp)
    · exact pwGo_range hp n _ _ _ h1 h2
theorem raised_loop {p a k : Int} (hp : 5 ≤ p) (hp2 : p ≤ 997) : ∀ (n l : Nat) (r s : Int), l ≤ n → 0 ≤ r → r < p → 0 ≤ s → s < p → ∀ m, n < m → ∃ s', whileL (mCmp dGt (mName 5) (mC (.int 0))) (sSeq (sIf (mCmp dEq (mBin dMod (mName 5) (mC (.int 2))) (mC (.int 1))) (sSet 3 (mBin dMod (mBin dMul (mName 3) (mName 4)) (mName 0))) sNil)
    (sSeq (sSet 4 (mBin dMod (mBin dMul (mName 4) (mName 4)) (mName 0))) (sSet 5 (mBin dFdiv (mName 5) (mC (.int 2)))))) m [.val (.int p), .val (.int a), .val (.int k), .val (.int r), .val (.int s), .val (.int l)] = some (.nx, [.val (.int p), .val (.int a), .val (.int k), .val (.int (pwGo p r s n l)), .val (.int s'), .val (.int 0)]) := by
  intro n
  induction n with
  | zero =>
    intro l r s hl _ _ _ _ m hm
    obtain ⟨m, rfl⟩ : ∃ k, m = k + 1 := ⟨m - 1, by omega⟩
    have : l = 0 := by omega
    subst this
    refine ⟨s, ?_⟩
    unfold whileL
    walk_at "ev"
    simp [pwGo]
  | succ n ih =>
    intro l r s hl h1 h2 h3 h4 m hm
    obtain ⟨m, rfl⟩ : ∃ k, m = k + 1 := ⟨m - 1, by omega⟩
    cases l with
    | zero =>
      refine ⟨s, ?_⟩
      unfold whileL
      walk_at "ev"
      simp [pwGo]
    | succ l =>
      have hp0 : 0 < p := by omega
      have k1 := Int.emod_nonneg (s * s) (show p ≠ 0 by omega)
      have k2 := Int.emod_lt_of_pos (s * s) hp0
      have k3 := Int.emod_nonneg (r * s) (show p ≠ 0 by omega)
      have k4 := Int.emod_lt_of_pos (r * s) hp0
      have c1 : decide ((0 : Int) < ((l + 1 : Nat) : Int)) = true := decide_eq_true (by omega)
      have c2 : (((l + 1 : Nat) : Int) % 2 == 1) = decide ((l + 1) % 2 = 1) := by
        rw [Bool.eq_iff_iff, beq_iff_eq, decide_eq_true_eq]; omega
      have c3 : ((l + 1 : Nat) : Int) / 2 = (((l + 1) / 2 : Nat) : Int) := by omega
      have fin : ∀ r', 0 ≤ r' → r' < p → pwGo p r s (n + 1) (l + 1) = pwGo p r' (s * s % p) n ((l + 1) / 2) → ∃ s', whileL (mCmp dGt (mName 5) (mC (.int 0))) (sSeq (sIf (mCmp dEq (mBin dMod (mName 5) (mC (.int 2))) (mC (.int 1))) (sSet 3 (mBin dMod (mBin dMul (mName 3) (mName 4)) (mName 0))) sNil)
          (sSeq (sSet 4 (mBin dMod (mBin dMul (mName 4) (mName 4)) (mName 0))) (sSet 5 (mBin dFdiv (mName 5) (mC (.int 2)))))) m [.val (.int p), .val (.int a), .val (.int k), .val (.int r'), .val (.int (s * s % p)), .val (.int (((l + 1) / 2 : Nat) : Int))] = some (.nx, [.val (.int p), .val (.int a), .val (.int k), .val (.int (pwGo p r s (n + 1) (l + 1))), .val (.int s'), .val (.int 0)]) := fun r' j1 j2 e => by
        rw [e]
        exact ih ((l + 1) / 2) r' (s * s % p) (by omega) j1 j2 k1 k2 m (by omega)
      unfold whileL
      walk_at "ev"
      simp only [c1, if_true]
      walk_at "ev"
      rw [d_mod _ 2 (by decide)]
      walk_at "ev"
      simp only [c2]
      by_cases h : (l + 1) % 2 = 1
      · simp only [h, decide_true, if_true]
        walk_at "ev"
        rw [d_mul _ _ (big h1 (by omega)) (big h3 (by omega))]
        walk_at "ev"
        rw [d_mod _ _ hp0]
        walk_at "ev"
        rw [d_mul _ _ (big h3 (by omega)) (big h3 (by omega))]
        walk_at "ev"
        rw [d_mod _ _ hp0]
        walk_at "ev"
        rw [d_fdiv _ _ (by decide) (by decide)]
        walk_at "ev"
        rw [c3]
        exact fin _ k3 k4 (by rw [pwGo, if_pos h])
      · simp only [h, decide_false, if_false, Bool.false_eq_true]
        walk_at "ev"
        rw [d_mul _ _ (big h3 (by omega)) (big h3 (by omega))]
        walk_at "ev"
        rw [d_mod _ _ hp0]
        walk_at "ev"
        rw [d_fdiv _ _ (by decide) (by decide)]
        walk_at "ev"
        rw [c3]
        exact fin _ h1 h2 (by rw [pwGo, if_neg h])
theorem t_raised {p a k : Int} (hp : 5 ≤ p) (hp2 : p ≤ 997) (ha : 0 ≤ a) (ha2 : a < p) (hk : 0 ≤ k) (hk2 : k < 1000000000) : F_raised [.val (.int p), .val (.int a), .val (.int k)] = some (.dat (.int (a ^ k.toNat % p)), [.val (.int p), .val (.int a), .val (.int k)]) := by
  obtain ⟨n, rfl⟩ : ∃ n : Nat, k = n := ⟨k.toNat, by omega⟩
  have hp0 : 0 < p := by omega
  have e : a % p = a := Int.emod_eq_of_lt ha ha2
  obtain ⟨s', h⟩ := raised_loop (a := a) (k := n) hp hp2 n n 1 a (Nat.le_refl _) (by decide) (by omega) ha ha2 EV.fuel (by unfold EV.fuel; omega)
  have m := pwGo_mod (p := p) n n 1 a (Nat.le_refl _)
  obtain ⟨r1, r2⟩ := pwGo_range hp0 n n 1 a (by decide) (by omega)
  rw [Int.emod_eq_of_lt r1 r2, Int.one_mul] at m
  unfold F_raised m_raised
  walk_at "ev"
  rw [d_mod _ _ hp0, e]
  walk_at "ev"
  rw [e_while, h]
  walk_at "ev"
  rw [m, Int.toNat_natCast]
end Lib
end
section
set_option Elab.async false
set_option linter.all false
set_option maxRecDepth 100000
set_option maxHeartbeats 4000000
set_option exponentiation.threshold 3000
namespace Lib
open PySem PySem.Spec PyProof.Rows L2 EV
local macro_rules | `(tactic| walk_at "ev") => `(tactic| try simp only [e_bodyM, e_seq, e_nil, e_if, e_set, e_ret, e_drop, e_par, e_asg, e_for, e_app, e_setix, e_aug, e_name, e_c, e_anil, e_acons, e_bin, e_cmp, e_brk, e_cnt, e_retn, e_ix, e_call, e_fn, e_fn0, e_fnD, e_ifx, e_oft, e_tru, e_not, e_and, e_or, e_andv, e_orv, e_notv, e_neg, e_isi, e_chain, e_lst, e_tup, e_it, e_rg1, e_rg2, e_zip, e_enum, e_revi, e_rev, e_o0, e_o1, e_sl, e_dict0, e_yes, e_comp, e_pop, e_asB, e_toDd, e_toDf, e_toDs, e_lkd, e_lkf, e_lks, e_lan, e_lac, e_tdn, e_tdc, e_tsn, e_tsd, e_tsf, e_tss, e_snd, e_snf, e_snn, e_snc, e_sod, e_sof, e_st, e_fln, e_keep, e_itl, e_itt, e_rr1, e_rr2, e_tupRg, e_lstRg, e_revR, e_popAt, e_ext, e_tupRev, e_repL, e_lenSet, e_enumA, e_zipA, e_zip3, d_addT, flat1,
  d_add, d_sub, d_lt, d_le, d_gt, d_ge, d_eq, d_ne, d_ixl, d_ixt, d_lenl, d_lent, d_inti, d_intb, d_abs, d_max2, d_min2, d_tupl, d_tupt, d_lsl, d_lst, d_rb, t_b, t_i, t_l, t_t, is_nb, is_bb, k_ii, k_ib, k_bi, k_bb, k_ni, k_si, k_ti, k_li, k_di, k_tt, isNone, isBl,
  Option.bind_some, Option.bind_none, Option.map_some, Option.map_none, List.append_nil, List.cons_append, List.nil_append, List.replicate, List.getElem?_cons_zero, List.getElem?_cons_succ, List.getElem?_nil, List.set_cons_zero, List.set_cons_succ, List.length_cons, List.length_nil, List.mapIdx_cons, List.mapIdx_nil, List.contains_nil, List.contains_cons, Bool.false_eq_true, if_true, if_false, reduceIte, Bool.not_true, Bool.not_false, Option.getD_some, Function.comp, List.map_cons, List.map_nil,
  Nat.reduceLT, Nat.reduceAdd, Nat.reduceBEq, Nat.reduceEqDiff, Nat.reduceLeDiff, Int.reduceLT, Int.reduceLE, decide_true, decide_false, beq_self_eq_true, Bool.or_false, Bool.or_true, Bool.true_or, Bool.false_or, Bool.and_true, Bool.true_and, Bool.and_false, Bool.false_and, and_self, Nat.zero_add])
theorem t_inverse {p a : Int} (hp : 5 ≤ p) (hp2 : p ≤ 997) (ha : 0 ≤ a) (ha2 : a < p) : F_inverse [.val (.int p), .val (.int a)] = some (.dat (.int (a ^ (p - 2).toNat % p)), [.val (.int p), .val (.int a)]) := by
  unfold F_inverse m_inverse
  walk_at "ev"
  rw [t_raised hp hp2 ha ha2 (by omega) (by omega)]
  walk_at "ev"
theorem t_undone {p a : Int} (hp : isFld p = true) (ha : 0 < a) (ha2 : a < p) : F_undone [.val (.int p), .val (.int a)] = some (.dat (.int (a ^ (p - 2).toNat % p)), [.val (.int p), .val (.int a)]) := by
  have h := fld_pos hp
  unfold F_undone m_undone
  walk_at "ev"
  rw [t_check_field hp]
  walk_at "ev"
  rw [t_check_number (by omega) ha2]
  walk_at "ev"
  have e : (a == 0) = false := by simp; omega
  rw [e]
  walk_at "ev"
  rw [t_inverse h.1 h.2 (by omega) ha2]
  walk_at "ev"
theorem t_power {p a k : Int} (hp : isFld p = true) (ha : 0 ≤ a) (ha2 : a < p) (hk : 0 ≤ k) (hk2 : k ≤ 1000000) : F_power [.val (.int p), .val (.int a), .val (.int k)] = some (.dat (.int (a ^ k.toNat % p)), [.val (.int p), .val (.int a), .val (.int k)]) := by
  have h := fld_pos hp
  unfold F_power m_power
  walk_at "ev"
  rw [t_check_field hp]
  walk_at "ev"
  rw [t_check_number ha ha2]
  walk_at "ev"
  rw [t_check_integer hk hk2]
  walk_at "ev"
  rw [t_raised h.1 h.2 ha ha2 hk (by omega)]
  walk_at "ev"
def pSum (p k : Int) : Int := if 0 < k ∧ k % (p - 1) = 0 then p - 1 else 0
theorem t_power_sum {p k : Int} (hp : isFld p = true) (hk : 0 ≤ k) (hk2 : k ≤ 1000000) : F_power_sum [.val (.int p), .val (.int k)] = some (.dat (.int (pSum p k)), [.val (.int p), .val (.int k)]) := by
  have h := fld_pos hp
  unfold F_power_sum m_power_sum pSum
  walk_at "ev"
  rw [t_check_field hp]
  walk_at "ev"
  rw [t_check_integer hk hk2]
  walk_at "ev"
  by_cases h0 : 0 < k
  · simp only [h0, decide_true, if_true, true_and]
    walk_at "ev"
    rw [d_mod _ _ (by omega)]
    walk_at "ev"
    by_cases h1 : k % (p - 1) = 0
    · simp [h1, e_bin, e_name, e_c, e_lkd, d_sub]
    · have : (k % (p - 1) == 0) = false := by simpa using h1
      simp [h1, e_bin, e_name, e_c, e_lkd, d_sub]
  · simp [h0, e_c]
/-! ### dice -/
/-- the dice: what is left of a great cell, a number mixed, how many were mixed -/
def DiceOk (k : Nat) (ds : List Da) : Prop := ∃ a b c : Int, ds = [.int a, .int b, .int c] ∧ 0 ≤ a ∧ a < 10 ^ 117 ∧ 0 ≤ b ∧ b < 10 ^ 23 ∧ 0 ≤ c ∧ c ≤ k
theorem at0 {α : Type} {x y z : α} : atI [x, y, z] (0 : Int) = some x := rfl
theorem at1 {α : Type} {x y z : α} : atI [x, y, z] (1 : Int) = some y := rfl
theorem at2 {α : Type} {x y z : α} : atI [x, y, z] (2 : Int) = some z := rfl
theorem ix30 : ixN 3 0 = some 0 := rfl
theorem ix32 : ixN 3 2 = some 2 := rfl
theorem t_roll {k : Nat} {ds : List Da} {m : Int} (h : DiceOk k ds) (hk : k ≤ 1000000) (hm : 0 < m) (hm2 : m ≤ 1000000000) : ∃ r ds', 0 ≤ r ∧ r < m ∧ DiceOk (k + 1) ds' ∧ F__law_roll [.own ds, .val (.int m)] = some (.dat (.int r), [.own ds', .val (.int m)]) := by
  obtain ⟨a, b, c, rfl, a0, a1, b0, b1, c0, c1⟩ := h
  by_cases ha : 0 < a
  · refine ⟨a % m, [.int (a / m), .int b, .int c], Int.emod_nonneg _ (by omega), Int.emod_lt_of_pos _ hm, ⟨a / m, b, c, rfl, Int.ediv_nonneg a0 (by omega), ?_, b0, b1, c0, by omega⟩, ?_⟩
    · exact Int.lt_of_le_of_lt (Int.ediv_le_self _ a0) a1
    · unfold F__law_roll m__law_roll
      walk_at "ev"
      rw [at0]
      walk_at "ev"
      simp only [ha, decide_true, if_true]
      walk_at "ev"
      rw [at0]
      walk_at "ev"
      rw [d_mod _ _ hm]
      walk_at "ev"
      rw [at0]
      walk_at "ev"
      rw [d_fdiv _ _ hm (by omega)]
      walk_at "ev"
      rw [ix30]
      walk_at "ev"
  · have ha : a = 0 := by omega
    subst ha
    have e1 := Int.emod_nonneg (b + 86028157 * (c + 1)) (show (2305843009213693487 : Int) ≠ 0 by decide)
    have e2 := Int.emod_lt_of_pos (b + 86028157 * (c + 1)) (show (0 : Int) < 2305843009213693487 by decide)
    generalize hone : (b + 86028157 * (c + 1)) % 2305843009213693487 = one at e1 e2
    have e3 := Int.emod_nonneg (one * one + 101 * (c + 1)) (show (2305843009213693669 : Int) ≠ 0 by decide)
    have e4 := Int.emod_lt_of_pos (one * one + 101 * (c + 1)) (show (0 : Int) < 2305843009213693669 by decide)
    generalize htwo : (one * one + 101 * (c + 1)) % 2305843009213693669 = two at e3 e4
    refine ⟨(two * 6700417 + one) / 65537 % m, [.int 0, .int b, .int (c + 1)], Int.emod_nonneg _ (by omega), Int.emod_lt_of_pos _ hm, ⟨0, b, c + 1, rfl, a0, a1, b0, b1, by omega, by omega⟩, ?_⟩
    unfold F__law_roll m__law_roll
    walk_at "ev"
    rw [at0]
    walk_at "ev"
    rw [at2]
    walk_at "ev"
    rw [ix32]
    walk_at "ev"
    rw [at1]
    walk_at "ev"
    rw [at2]
    walk_at "ev"
    rw [d_mul _ _ (big (by decide) (by decide)) (big (by omega) (by omega))]
    walk_at "ev"
    rw [d_mod _ _ (by decide), hone]
    walk_at "ev"
    rw [d_mul _ _ (big e1 (by omega)) (big e1 (by omega))]
    walk_at "ev"
    rw [at2]
    walk_at "ev"
    rw [d_mul _ _ (big (by decide) (by decide)) (big (by omega) (by omega))]
    walk_at "ev"
    rw [d_mod _ _ (by decide), htwo]
    walk_at "ev"
    rw [d_mul _ _ (big e3 (by omega)) (big (by decide) (by decide))]
    walk_at "ev"
    rw [d_fdiv _ _ (by decide) (by decide)]
    walk_at "ev"
    rw [d_mod _ _ hm]
    walk_at "ev"
theorem t_pick {k : Nat} {ds xs : List Da} (h : DiceOk k ds) (hk : k ≤ 1000000) (hx : 0 < xs.length) (hx2 : xs.length ≤ 1000000) : ∃ x ds', x ∈ xs ∧ DiceOk (k + 1) ds' ∧ F__law_pick [.own ds, .val (.list xs)] = some (.dat x, [.own ds', .val (.list xs)]) := by
  obtain ⟨r, ds', r0, r1, hd, e⟩ := t_roll (m := xs.length) h hk (by omega) (by omega)
  obtain ⟨n, rfl⟩ : ∃ n : Nat, r = n := ⟨r.toNat, by omega⟩
  have hn : n < xs.length := by omega
  refine ⟨xs[n], ds', List.getElem_mem hn, hd, ?_⟩
  unfold F__law_pick m__law_pick
  walk_at "ev"
  rw [e]
  walk_at "ev"
  rw [atI_nat (v := xs[n]) (by simp [hn])]
  walk_at "ev"
end Lib
end
section
set_option Elab.async false
set_option linter.all false
set_option maxRecDepth 100000
set_option maxHeartbeats 4000000
set_option exponentiation.threshold 3000
namespace Lib
open PySem PySem.Spec PyProof.Rows L2 EV
local macro_rules | `(tactic| walk_at "ev") => `(tactic| try simp only [e_bodyM, e_seq, e_nil, e_if, e_set, e_ret, e_drop, e_par, e_asg, e_for, e_app, e_setix, e_aug, e_name, e_c, e_anil, e_acons, e_bin, e_cmp, e_brk, e_cnt, e_retn, e_ix, e_call, e_fn, e_fn0, e_fnD, e_ifx, e_oft, e_tru, e_not, e_and, e_or, e_andv, e_orv, e_notv, e_neg, e_isi, e_chain, e_lst, e_tup, e_it, e_rg1, e_rg2, e_zip, e_enum, e_revi, e_rev, e_o0, e_o1, e_sl, e_dict0, e_yes, e_comp, e_pop, e_asB, e_toDd, e_toDf, e_toDs, e_lkd, e_lkf, e_lks, e_lan, e_lac, e_tdn, e_tdc, e_tsn, e_tsd, e_tsf, e_tss, e_snd, e_snf, e_snn, e_snc, e_sod, e_sof, e_st, e_fln, e_keep, e_itl, e_itt, e_rr1, e_rr2, e_tupRg, e_lstRg, e_revR, e_popAt, e_ext, e_tupRev, e_repL, e_lenSet, e_enumA, e_zipA, e_zip3, d_addT, flat1,
  d_add, d_sub, d_lt, d_le, d_gt, d_ge, d_eq, d_ne, d_ixl, d_ixt, d_lenl, d_lent, d_inti, d_intb, d_abs, d_max2, d_min2, d_tupl, d_tupt, d_lsl, d_lst, d_rb, t_b, t_i, t_l, t_t, is_nb, is_bb, k_ii, k_ib, k_bi, k_bb, k_ni, k_si, k_ti, k_li, k_di, k_tt, isNone, isBl,
  Option.bind_some, Option.bind_none, Option.map_some, Option.map_none, List.append_nil, List.cons_append, List.nil_append, List.replicate, List.getElem?_cons_zero, List.getElem?_cons_succ, List.getElem?_nil, List.set_cons_zero, List.set_cons_succ, List.length_cons, List.length_nil, List.mapIdx_cons, List.mapIdx_nil, List.contains_nil, List.contains_cons, Bool.false_eq_true, if_true, if_false, reduceIte, Bool.not_true, Bool.not_false, Option.getD_some, Function.comp, List.map_cons, List.map_nil,
  Nat.reduceLT, Nat.reduceAdd, Nat.reduceBEq, Nat.reduceEqDiff, Nat.reduceLeDiff, Int.reduceLT, Int.reduceLE, decide_true, decide_false, beq_self_eq_true, Bool.or_false, Bool.or_true, Bool.true_or, Bool.false_or, Bool.and_true, Bool.true_and, Bool.and_false, Bool.false_and, and_self, Nat.zero_add])
/-! ### loops and comprehensions, in general -/
theorem compL_map {vs : List Nat} {tg : Wv → Gh → Option Gh} {el : ME} {f : Da → Da} {g : Gh} : ∀ {ds : List Da}, (∀ d ∈ ds, ∃ g1 w g2 g3, tg (.dat d) g = some g1 ∧ el g1 = some (w, g2) ∧ toD w g2 = some (f d, g3) ∧ wipeG g3 vs = g) → compL vs tg mYes el ds g = some (ds.map f, g)
  | [], _ => rfl
  | d :: ds, h => by
    obtain ⟨g1, w, g2, g3, h1, h2, h3, h4⟩ := h d List.mem_cons_self
    unfold compL
    rw [h1, Option.bind_some]
    show (el g1).bind _ = _
    rw [h2, Option.bind_some, h3, Option.bind_some, h4, compL_map fun d hd => h d (List.mem_cons_of_mem _ hd)]
    rfl
theorem compL_filter {vs : List Nat} {tg : Wv → Gh → Option Gh} {ts : MT} {el : ME} {f : Da → Da} {q : Da → Bool} {g : Gh} : ∀ {ds : List Da}, (∀ d ∈ ds, ∃ g1 g2, tg (.dat d) g = some g1 ∧ ts g1 = some (q d, g2) ∧ (q d = true → ∃ w g3 g4, el g2 = some (w, g3) ∧ toD w g3 = some (f d, g4) ∧ wipeG g4 vs = g) ∧ (q d = false → wipeG g2 vs = g)) → compL vs tg ts el ds g = some ((ds.filter q).map f, g)
  | [], _ => rfl
  | d :: ds, h => by
    obtain ⟨g1, g2, h1, h2, h3, h4⟩ := h d List.mem_cons_self
    have ih := compL_filter fun d hd => h d (List.mem_cons_of_mem _ hd)
    unfold compL
    rw [h1, Option.bind_some, h2, Option.bind_some]
    by_cases hq : q d = true
    · obtain ⟨w, g3, g4, k1, k2, k3⟩ := h3 hq
      rw [List.filter_cons, if_pos hq]
      simp only [hq, if_true]
      rw [k1, Option.bind_some, k2, Option.bind_some, k3, ih]
      rfl
    · have hq : q d = false := by simpa using hq
      rw [List.filter_cons, if_neg (by simp [hq])]
      simp only [hq, if_false, Bool.false_eq_true]
      rw [h4 hq, ih]
theorem forL_inv {tg : Wv → Gh → Option Gh} {body : MS} (P : Nat → Gh → Prop) : ∀ (ds : List Da) (i : Nat) (g : Gh), P i g → (∀ j g d, P j g → d ∈ ds → j < i + ds.length → ∃ g1 g2, tg (.dat d) g = some g1 ∧ body g1 = some (.nx, g2) ∧ P (j + 1) g2) → ∃ g', forL tg body ds g = some (.nx, g') ∧ P (i + ds.length) g'
  | [], i, g, h, _ => ⟨g, rfl, h⟩
  | d :: ds, i, g, h, st => by
    obtain ⟨g1, g2, h1, h2, h3⟩ := st i g d h List.mem_cons_self (by rw [List.length_cons]; omega)
    obtain ⟨g', h4, h5⟩ := forL_inv P ds (i + 1) g2 h3 fun j g d p hd hj => st j g d p (List.mem_cons_of_mem _ hd) (by rw [List.length_cons]; omega)
    refine ⟨g', ?_, by rw [List.length_cons]; rw [show i + (ds.length + 1) = i + 1 + ds.length by omega]; exact h5⟩
    unfold forL
    rw [h1, Option.bind_some, h2, Option.bind_some]
    exact h4
/-- a walk that gives the value at the first item that is met -/
theorem forL_hit {tg : Wv → Gh → Option Gh} {body : MS} (P : Gh → Prop) {w : Wv} {x : Da} {R : Gh → Prop} : ∀ (ds : List Da) (g : Gh), P g → x ∈ ds → (∀ g d, P g → d ∈ ds → (∃ g1 g2, tg (.dat d) g = some g1 ∧ ((body g1 = some (.nx, g2) ∧ P g2 ∧ d ≠ x) ∨ (body g1 = some (.rt w, g2) ∧ R g2)))) → ∃ g', forL tg body ds g = some (.rt w, g') ∧ R g'
  | [], g, _, hx, _ => by cases hx
  | d :: ds, g, h, hx, st => by
    obtain ⟨g1, g2, h1, ⟨h2, h3, h4⟩ | ⟨h2, h3⟩⟩ := st g d h List.mem_cons_self
    · rcases List.mem_cons.mp hx with rfl | hx
      · exact absurd rfl h4
      · obtain ⟨g', h5, h6⟩ := forL_hit P ds g2 h3 hx fun g d p hd => st g d p (List.mem_cons_of_mem _ hd)
        refine ⟨g', ?_, h6⟩
        unfold forL
        rw [h1, Option.bind_some, h2, Option.bind_some]
        exact h5
    · refine ⟨g2, ?_, h3⟩
      unfold forL
      rw [h1, Option.bind_some, h2, Option.bind_some]
theorem mem_rgD {a b : Int} {d : Da} : d ∈ rgD a b ↔ ∃ i, d = .int i ∧ a ≤ i ∧ i < b := by
  unfold rgD
  rw [List.mem_map]
  constructor
  · rintro ⟨k, hk, rfl⟩
    rw [List.mem_range] at hk
    exact ⟨_, rfl, by omega, by omega⟩
  · rintro ⟨i, rfl, h1, h2⟩
    exact ⟨(i - a).toNat, by rw [List.mem_range]; omega, by congr 1; omega⟩
theorem rgD_len {a b : Int} : (rgD a b).length = (b - a).toNat := by unfold rgD; rw [List.length_map, List.length_range]
theorem okRg' {i : Int} (h : -1000000 ≤ i) (h2 : i ≤ 1000000) : okRg i = true := by
  unfold okRg
  rw [decide_eq_true (by omega), decide_eq_true (by omega)]; rfl
/-! ### dice of a script -/
def diceR : MS := (sSeq (sSet 3 (mBin dMod (mCall dMax (mCons (mC (.int 0)) (mCons (mBin dSub (mCall dAbs (mCons (mName 2) mNil)) (mBin dPow (mC (.int 10)) (mC (.int 16)))) mNil))) (mBin dMul (mBin dPow (mC (.int 10)) (mC (.int 57))) (mBin dPow (mC (.int 10)) (mC (.int 60))))))
    (sRet [] (mLst (mCons (mName 3) (mCons (mBin dAdd (mBin dAdd (mBin dAdd (mBin dMul (mBin dMod (mCall dAbs (mCons (mName 2) mNil)) (mC (.int 1152921504606846733))) (mC (.int 97))) (mBin dMul (mC (.int 1013)) (mName 1))) (mBin dMul (mC (.int 53)) (mCall dInt (mCons (mBin dLt (mName 2) (mC (.int 0))) mNil)))) (mC (.int 41))) (mCons (mC (.int 0)) mNil))))))
theorem dice_cut : m__law_dice = sSeq (sSet 2 (mIf (mCmp dLt (mName 1) (mCall dLen (mCons (mName 0) mNil))) (mCall dInt (mCons (mIx (mName 0) (mName 1)) mNil)) (mBin dAdd (mBin dMul (mC (.int 103)) (mName 1)) (mC (.int 67))))) diceR := rfl
theorem t_diceR {ns : List Da} {s : Nat} (hs : s < 1000) (cell : Int) : ∃ ds, DiceOk 0 ds ∧ ∃ g', diceR [.val (.list ns), .val (.int s), .val (.int cell), .un] = some (.rt (.fresh ds), g') := by
  generalize hA : (if cell < 0 then -cell else cell) = A
  have hA0 : 0 ≤ A := by rw [← hA]; split <;> omega
  have m1 := Int.emod_nonneg A (show (1152921504606846733 : Int) ≠ 0 by decide)
  have m2 := Int.emod_lt_of_pos A (show (0 : Int) < 1152921504606846733 by decide)
  generalize hB : (if A - 10 ^ 16 > 0 then A - 10 ^ 16 else 0) = B
  have hB0 : 0 ≤ B := by rw [← hB]; split <;> omega
  have pos : (0 : Int) < 10 ^ 57 * 10 ^ 60 := by decide
  refine ⟨[.int (B % (10 ^ 57 * 10 ^ 60)), .int (A % 1152921504606846733 * 97 + 1013 * s + 53 * (if decide (cell < 0) = true then 1 else 0) + 41), .int 0], ⟨_, _, _, rfl, Int.emod_nonneg _ (by decide), ?_, ?_, ?_, Int.le_refl _, Int.le_refl _⟩, [.val (.list ns), .val (.int s), .val (.int cell), .val (.int (B % (10 ^ 57 * 10 ^ 60)))], ?_⟩
  · exact Int.lt_of_lt_of_le (Int.emod_lt_of_pos _ pos) (by decide)
  · split <;> omega
  · split <;> omega
  · unfold diceR
    walk_at "ev"
    rw [hA]
    rw [d_pow 10 16 (by decide) (by decide) (by decide), d_pow 10 57 (by decide) (by decide) (by decide), d_pow 10 60 (by decide) (by decide) (by decide)]
    walk_at "ev"
    rw [d_mul _ _ (by decide) (by decide)]
    walk_at "ev"
    rw [show (Int.toNat 16) = 16 from rfl, show (Int.toNat 57) = 57 from rfl, show (Int.toNat 60) = 60 from rfl, hB, d_mod _ _ pos]
    walk_at "ev"
    rw [hA, d_mod _ _ (by decide)]
    walk_at "ev"
    rw [d_mul _ _ (big m1 (by omega)) (by decide)]
    walk_at "ev"
    rw [d_mul _ _ (by decide) (big (by omega) (by omega))]
    walk_at "ev"
    rw [d_mul _ _ (by decide) (by split <;> decide)]
    walk_at "ev"
    rfl
theorem t_dice {ns : List Int} {s : Nat} (hs : s < 1000) : ∃ ds, DiceOk 0 ds ∧ F__law_dice [.val (.list (ns.map PyData.int)), .val (.int s)] = some (.fresh ds, [.val (.list (ns.map PyData.int)), .val (.int s)]) := by
  unfold F__law_dice
  rw [dice_cut]
  by_cases h : s < ns.length
  · obtain ⟨ds, hd, g', e⟩ := t_diceR (ns := ns.map PyData.int) hs ns[s]
    refine ⟨ds, hd, ?_⟩
    walk_at "ev"
    rw [List.length_map, decide_eq_true (show (s : Int) < (ns.length : Int) by omega)]
    walk_at "ev"
    rw [atI_nat (v := .int ns[s]) (by simp [h])]
    walk_at "ev"
    rw [e]
    walk_at "ev"
  · obtain ⟨ds, hd, g', e⟩ := t_diceR (ns := ns.map PyData.int) hs (103 * s + 67)
    refine ⟨ds, hd, ?_⟩
    walk_at "ev"
    rw [List.length_map, decide_eq_false (show ¬ (s : Int) < (ns.length : Int) by omega)]
    walk_at "ev"
    rw [d_mul _ _ (by decide) (big (by omega) (by omega))]
    walk_at "ev"
    rw [e]
    walk_at "ev"
theorem t_pickI {k : Nat} {ds : List Da} {xs : List Int} (h : DiceOk k ds) (hk : k ≤ 1000000) (hx : 0 < xs.length) (hx2 : xs.length ≤ 1000000) : ∃ x ds', x ∈ xs ∧ DiceOk (k + 1) ds' ∧ F__law_pick [.own ds, .val (.list (xs.map PyData.int))] = some (.dat (.int x), [.own ds', .val (.list (xs.map PyData.int))]) := by
  obtain ⟨x, ds', hm, hd, e⟩ := t_pick (xs := xs.map PyData.int) h hk (by rw [List.length_map]; exact hx) (by rw [List.length_map]; exact hx2)
  obtain ⟨i, hi, rfl⟩ := List.mem_map.mp hm
  exact ⟨i, ds', hi, hd, e⟩
end Lib
end
section
set_option Elab.async false
set_option linter.all false
set_option maxRecDepth 100000
set_option maxHeartbeats 4000000
set_option exponentiation.threshold 3000
namespace Lib
open PySem PySem.Spec PyProof.Rows L2 EV
local macro_rules | `(tactic| walk_at "ev") => `(tactic| try simp only [e_bodyM, e_seq, e_nil, e_if, e_set, e_ret, e_drop, e_par, e_asg, e_for, e_app, e_setix, e_aug, e_name, e_c, e_anil, e_acons, e_bin, e_cmp, e_brk, e_cnt, e_retn, e_ix, e_call, e_fn, e_fn0, e_fnD, e_ifx, e_oft, e_tru, e_not, e_and, e_or, e_andv, e_orv, e_notv, e_neg, e_isi, e_chain, e_lst, e_tup, e_it, e_rg1, e_rg2, e_zip, e_enum, e_revi, e_rev, e_o0, e_o1, e_sl, e_dict0, e_yes, e_comp, e_pop, e_asB, e_toDd, e_toDf, e_toDs, e_lkd, e_lkf, e_lks, e_lan, e_lac, e_tdn, e_tdc, e_tsn, e_tsd, e_tsf, e_tss, e_snd, e_snf, e_snn, e_snc, e_sod, e_sof, e_st, e_fln, e_keep, e_itl, e_itt, e_rr1, e_rr2, e_tupRg, e_lstRg, e_revR, e_popAt, e_ext, e_tupRev, e_repL, e_lenSet, e_enumA, e_zipA, e_zip3, d_addT, flat1,
  d_add, d_sub, d_lt, d_le, d_gt, d_ge, d_eq, d_ne, d_ixl, d_ixt, d_lenl, d_lent, d_inti, d_intb, d_abs, d_max2, d_min2, d_tupl, d_tupt, d_lsl, d_lst, d_rb, t_b, t_i, t_l, t_t, is_nb, is_bb, k_ii, k_ib, k_bi, k_bb, k_ni, k_si, k_ti, k_li, k_di, k_tt, isNone, isBl,
  Option.bind_some, Option.bind_none, Option.map_some, Option.map_none, List.append_nil, List.cons_append, List.nil_append, List.replicate, List.getElem?_cons_zero, List.getElem?_cons_succ, List.getElem?_nil, List.set_cons_zero, List.set_cons_succ, List.length_cons, List.length_nil, List.mapIdx_cons, List.mapIdx_nil, List.contains_nil, List.contains_cons, Bool.false_eq_true, if_true, if_false, reduceIte, Bool.not_true, Bool.not_false, Option.getD_some, Function.comp, List.map_cons, List.map_nil,
  Nat.reduceLT, Nat.reduceAdd, Nat.reduceBEq, Nat.reduceEqDiff, Nat.reduceLeDiff, Int.reduceLT, Int.reduceLE, decide_true, decide_false, beq_self_eq_true, Bool.or_false, Bool.or_true, Bool.true_or, Bool.false_or, Bool.and_true, Bool.true_and, Bool.and_false, Bool.false_and, and_self, Nat.zero_add])
/-! ### what undoes a number, by trying -/
theorem inv_unique {p a x y : Int} (hx : 0 ≤ x) (hx2 : x < p) (hy : 0 ≤ y) (hy2 : y < p) (h1 : x * a % p = 1) (h2 : y * a % p = 1) : x = y := by
  have hp : 1 < p := by
    have := Int.emod_lt_of_pos (x * a) (show 0 < p by omega)
    omega
  have e : x * (y * a) % p = y * (x * a) % p := by rw [show x * (y * a) = y * (x * a) by rw [← Int.mul_assoc, Int.mul_comm x y, Int.mul_assoc]]
  rw [← mmr x, h2, ← mmr y, h1, Int.mul_one, Int.mul_one, Int.emod_eq_of_lt hx hx2, Int.emod_eq_of_lt hy hy2] at e
  exact e
theorem t_fd_undone {p a v : Int} (hp : 5 ≤ p) (hp2 : p ≤ 997) (ha : 0 ≤ a) (ha2 : a < p) (hv : 0 < v) (hv2 : v < p) (h : v * a % p = 1) : F__law_fd_undone [.val (.int p), .val (.int a)] = some (.dat (.int v), [.val (.int p), .val (.int a)]) := by
  obtain ⟨g', e1, s, rfl⟩ := forL_hit (tg := setN 2) (body := sIf (mCmp dEq (mBin dMod (mBin dMul (mName 2) (mName 1)) (mName 0)) (mC (.int 1))) (sRet [] (mName 2)) sNil) (fun g => ∃ s, g = [.val (.int p), .val (.int a), s]) (w := .dat (.int v)) (x := .int v) (R := fun g => ∃ s, g = [.val (.int p), .val (.int a), s]) (rgD 1 p) _ ⟨.un, rfl⟩ (mem_rgD.mpr ⟨v, rfl, by omega, hv2⟩) (by
    rintro g d ⟨s, rfl⟩ hd
    obtain ⟨x, rfl, hx, hx2⟩ := mem_rgD.mp hd
    refine ⟨[.val (.int p), .val (.int a), .val (.int x)], [.val (.int p), .val (.int a), .val (.int x)], rfl, ?_⟩
    walk_at "ev"
    rw [d_mul _ _ (big (by omega) (by omega)) (big ha (by omega))]
    walk_at "ev"
    rw [d_mod _ _ (by omega)]
    walk_at "ev"
    by_cases hq : x * a % p = 1
    · have : x = v := inv_unique (by omega) hx2 (by omega) hv2 hq h
      subst this
      right
      simp only [hq]
      walk_at "ev"
      exact ⟨trivial, _, rfl⟩
    · left
      have hb : (x * a % p == 1) = false := by simpa using hq
      simp only [hb]
      walk_at "ev"
      refine ⟨trivial, ⟨_, rfl⟩, ?_⟩
      intro hc
      cases hc
      exact hq h)
  unfold F__law_fd_undone m__law_fd_undone
  walk_at "ev"
  rw [okRg' (i := 1) (by omega) (by omega), okRg' (i := p) (by omega) (by omega)]
  walk_at "ev"
  rw [e1]
  walk_at "ev"
/-! ### powers, by the law's own steps -/
theorem t_powers {p a n : Int} (hp : 5 ≤ p) (hp2 : p ≤ 997) (ha : 0 ≤ a) (ha2 : a < p) (h0 : 0 ≤ n) (hn : n ≤ 1000) : F__law_powers [.val (.int p), .val (.int a), .val (.int n)] = some (.fresh ((List.range n.toNat).map fun i => .int (a ^ i % p)), [.val (.int p), .val (.int a), .val (.int n)]) := by
  obtain ⟨g', e1, s, rfl⟩ := forL_inv (tg := setN 5) (body := sSeq (sApp 3 (mName 4))
    (sSet 4 (mBin dMod (mCall dInt (mCons (mBin dMul (mName 4) (mName 1)) mNil)) (mName 0)))) (fun j g => ∃ s, g = [.val (.int p), .val (.int a), .val (.int n), .own ((List.range j).map fun i => .int (a ^ i % p)), .val (.int (a ^ j % p)), s]) (rgD 0 n) 0 _ ⟨.un, rfl⟩ (by
    rintro j g d ⟨s, rfl⟩ hd hj
    rw [rgD_len] at hj
    have k1 := Int.emod_nonneg (a ^ j) (show p ≠ 0 by omega)
    have k2 := Int.emod_lt_of_pos (a ^ j) (show 0 < p by omega)
    refine ⟨[.val (.int p), .val (.int a), .val (.int n), .own ((List.range j).map fun i => .int (a ^ i % p)), .val (.int (a ^ j % p)), .val d], [.val (.int p), .val (.int a), .val (.int n), .own ((List.range (j + 1)).map fun i => .int (a ^ i % p)), .val (.int (a ^ (j + 1) % p)), .val d], rfl, ?_, .val d, rfl⟩
    walk_at "ev"
    rw [if_pos (show (List.map (fun i => PyData.int (a ^ i % p)) (List.range j)).length < sizeLine by rw [List.length_map, List.length_range]; unfold sizeLine; omega)]
    walk_at "ev"
    rw [d_mul _ _ (big k1 (by omega)) (big ha (by omega))]
    walk_at "ev"
    rw [d_mod _ _ (by omega)]
    walk_at "ev"
    rw [List.range_succ, List.map_append, mml, ← Int.pow_succ]
    rfl)
  rw [rgD_len] at e1
  simp only [Int.pow_zero, List.range_zero, List.map_nil] at e1
  rw [Int.emod_eq_of_lt (by decide) (show 1 < p by omega), show (0 + (n - 0).toNat) = n.toNat by omega] at e1
  unfold F__law_powers m__law_powers
  walk_at "ev"
  rw [if_pos (Nat.zero_le _)]
  walk_at "ev"
  rw [okRg' (by omega) (by omega)]
  walk_at "ev"
  rw [e1]
  walk_at "ev"
/-! ### great powers -/
def bitsL : Nat → Int → List Int
  | 0, _ => []
  | n + 1, m => m % 2 :: bitsL n (m / 2)
theorem bits_bit : ∀ (n : Nat) (m : Int), ∀ b ∈ bitsL n m, b = 0 ∨ b = 1
  | 0, _, b, h => by cases h
  | n + 1, m, b, h => by
    rcases List.mem_cons.mp h with rfl | h
    · omega
    · exact bits_bit n _ b h
def bitsV (bs : List Int) : Int := bs.foldr (fun b v => b + 2 * v) 0
theorem bits_val : ∀ (n : Nat) (m : Int), 0 ≤ m → m < 2 ^ n → bitsV (bitsL n m) = m
  | 0, m, h, h2 => by
    have : m = 0 := by rw [Int.pow_zero] at h2; omega
    subst this; rfl
  | n + 1, m, h, h2 => by
    rw [Int.pow_succ] at h2
    show m % 2 + 2 * bitsV (bitsL n (m / 2)) = m
    rw [bits_val n (m / 2) (by omega) (by omega)]
    omega
theorem gp_bits {p a m0 : Int} : ∀ (ds : List Da) (m : Int) (bs : List Da) (s : Sl), bs.length + ds.length < 1000 → ∃ s' m', forL (setN 5) (sSeq (sApp 4 (mBin dMod (mCall dInt (mCons (mName 2) mNil)) (mC (.int 2))))
    (sSet 2 (mBin dFdiv (mName 2) (mC (.int 2))))) ds [.val (.int p), .val (.int a), .val (.int m), .val (.int m0), .own bs, s, .un] = some (.nx, [.val (.int p), .val (.int a), .val (.int m'), .val (.int m0), .own (bs ++ (bitsL ds.length m).map PyData.int), s', .un])
  | [], m, bs, s, _ => ⟨s, m, by rw [List.length_nil, bitsL, List.map_nil, List.append_nil]; rfl⟩
  | d :: ds, m, bs, s, hl => by
    rw [List.length_cons] at hl
    obtain ⟨s', m', e⟩ := gp_bits (p := p) (a := a) (m0 := m0) ds (m / 2) (bs ++ [.int (m % 2)]) (.val d) (by rw [List.length_append, List.length_singleton]; omega)
    refine ⟨s', m', ?_⟩
    unfold forL
    walk_at "ev"
    rw [d_mod _ _ (by decide)]
    walk_at "ev"
    rw [if_pos (show bs.length < sizeLine by unfold sizeLine; omega)]
    walk_at "ev"
    rw [d_fdiv _ _ (by decide) (by decide)]
    walk_at "ev"
    rw [e, List.append_assoc]
    rfl
theorem gp_horner {p a m : Int} (hp : 5 ≤ p) (hp2 : p ≤ 997) (ha : 0 ≤ a) (ha2 : a < p) : ∀ (rs : List Int) (v : Int) (B S s : Sl), 0 ≤ v → (∀ b ∈ rs, b = 0 ∨ b = 1) → ∃ s', forL (setN 6) (sSeq (sSet 3 (mBin dMod (mCall dInt (mCons (mBin dMul (mName 3) (mName 3)) mNil)) (mName 0)))
    (sSet 3 (mIf (mCmp dEq (mName 6) (mC (.int 1))) (mBin dMod (mCall dInt (mCons (mBin dMul (mName 3) (mName 1)) mNil)) (mName 0)) (mName 3)))) (rs.map PyData.int) [.val (.int p), .val (.int a), .val (.int m), .val (.int (a ^ v.toNat % p)), B, S, s] = some (.nx, [.val (.int p), .val (.int a), .val (.int m), .val (.int (a ^ (rs.foldl (fun v b => b + 2 * v) v).toNat % p)), B, S, s'])
  | [], v, B, S, s, _, _ => ⟨s, rfl⟩
  | b :: rs, v, B, S, s, hv, hb => by
    have hb0 := hb b List.mem_cons_self
    obtain ⟨s', e⟩ := gp_horner (m := m) hp hp2 ha ha2 rs (b + 2 * v) B S (.val (.int b)) (by omega) fun c hc => hb c (List.mem_cons_of_mem _ hc)
    have k1 := Int.emod_nonneg (a ^ v.toNat) (show p ≠ 0 by omega)
    have k2 := Int.emod_lt_of_pos (a ^ v.toNat) (show 0 < p by omega)
    have sq : a ^ v.toNat % p * (a ^ v.toNat % p) % p = a ^ (2 * v).toNat % p := by
      rw [mm, ← Int.pow_add, show v.toNat + v.toNat = (2 * v).toNat by omega]
    have k3 := Int.emod_nonneg (a ^ (2 * v).toNat) (show p ≠ 0 by omega)
    have k4 := Int.emod_lt_of_pos (a ^ (2 * v).toNat) (show 0 < p by omega)
    refine ⟨s', ?_⟩
    rw [List.map_cons]
    unfold forL
    walk_at "ev"
    rw [d_mul _ _ (big k1 (by omega)) (big k1 (by omega))]
    walk_at "ev"
    rw [d_mod _ _ (by omega), sq]
    walk_at "ev"
    rcases hb0 with rfl | rfl
    · rw [show ((0 : Int) == 1) = false from rfl]
      walk_at "ev"
      rw [Int.zero_add] at e
      rw [e, List.foldl_cons, Int.zero_add]
    · walk_at "ev"
      rw [d_mul _ _ (big k3 (by omega)) (big ha (by omega))]
      walk_at "ev"
      rw [d_mod _ _ (by omega), mml, ← Int.pow_succ, show (2 * v).toNat.succ = (1 + 2 * v).toNat by omega]
      walk_at "ev"
      rw [e, List.foldl_cons]
theorem t_great {p a m : Int} (hp : 5 ≤ p) (hp2 : p ≤ 997) (ha : 0 ≤ a) (ha2 : a < p) (h0 : 0 ≤ m) (h1 : m < 16777216) : F__law_great_power [.val (.int p), .val (.int a), .val (.int m)] = some (.dat (.int (a ^ m.toNat % p)), [.val (.int p), .val (.int a), .val (.int m)]) := by
  obtain ⟨s, m', e⟩ := gp_bits (p := p) (a := a) (m0 := 1) (rgD 0 24) m [] .un (by rw [rgD_len]; decide)
  obtain ⟨s', e2⟩ := gp_horner (m := m') hp hp2 ha ha2 (bitsL 24 m).reverse 0 (.own ((bitsL 24 m).map PyData.int)) s .un (by decide) fun b hb => bits_bit 24 m b (List.mem_reverse.mp hb)
  rw [rgD_len, List.nil_append, show ((24 : Int) - 0).toNat = 24 from rfl] at e
  rw [List.foldl_reverse, show List.foldr (fun x y => x + 2 * y) 0 (bitsL 24 m) = m from bits_val 24 m h0 h1, show Int.toNat 0 = 0 from rfl, Int.pow_zero, Int.emod_eq_of_lt (by decide) (show 1 < p by omega), List.map_reverse] at e2
  unfold F__law_great_power m__law_great_power
  walk_at "ev"
  rw [if_pos (Nat.zero_le _)]
  walk_at "ev"
  rw [okRg' (i := 24) (by omega) (by omega)]
  walk_at "ev"
  rw [e]
  walk_at "ev"
  rw [e2]
  walk_at "ev"
end Lib
end
section
set_option Elab.async false
set_option linter.all false
set_option maxRecDepth 100000
set_option maxHeartbeats 4000000
set_option exponentiation.threshold 3000
namespace Lib
open PySem PySem.Spec PyProof.Rows L2 EV
local macro_rules | `(tactic| walk_at "ev") => `(tactic| try simp only [e_bodyM, e_seq, e_nil, e_if, e_set, e_ret, e_drop, e_par, e_asg, e_for, e_app, e_setix, e_aug, e_name, e_c, e_anil, e_acons, e_bin, e_cmp, e_brk, e_cnt, e_retn, e_ix, e_call, e_fn, e_fn0, e_fnD, e_ifx, e_oft, e_tru, e_not, e_and, e_or, e_andv, e_orv, e_notv, e_neg, e_isi, e_chain, e_lst, e_tup, e_it, e_rg1, e_rg2, e_zip, e_enum, e_revi, e_rev, e_o0, e_o1, e_sl, e_dict0, e_yes, e_comp, e_pop, e_asB, e_toDd, e_toDf, e_toDs, e_lkd, e_lkf, e_lks, e_lan, e_lac, e_tdn, e_tdc, e_tsn, e_tsd, e_tsf, e_tss, e_snd, e_snf, e_snn, e_snc, e_sod, e_sof, e_st, e_fln, e_keep, e_itl, e_itt, e_rr1, e_rr2, e_tupRg, e_lstRg, e_revR, e_popAt, e_ext, e_tupRev, e_repL, e_lenSet, e_enumA, e_zipA, e_zip3, d_addT, flat1,
  d_add, d_sub, d_lt, d_le, d_gt, d_ge, d_eq, d_ne, d_ixl, d_ixt, d_lenl, d_lent, d_inti, d_intb, d_abs, d_max2, d_min2, d_tupl, d_tupt, d_lsl, d_lst, d_rb, t_b, t_i, t_l, t_t, is_nb, is_bb, k_ii, k_ib, k_bi, k_bb, k_ni, k_si, k_ti, k_li, k_di, k_tt, isNone, isBl,
  Option.bind_some, Option.bind_none, Option.map_some, Option.map_none, List.append_nil, List.cons_append, List.nil_append, List.replicate, List.getElem?_cons_zero, List.getElem?_cons_succ, List.getElem?_nil, List.set_cons_zero, List.set_cons_succ, List.length_cons, List.length_nil, List.mapIdx_cons, List.mapIdx_nil, List.contains_nil, List.contains_cons, Bool.false_eq_true, if_true, if_false, reduceIte, Bool.not_true, Bool.not_false, Option.getD_some, Function.comp, List.map_cons, List.map_nil,
  Nat.reduceLT, Nat.reduceAdd, Nat.reduceBEq, Nat.reduceEqDiff, Nat.reduceLeDiff, Int.reduceLT, Int.reduceLE, decide_true, decide_false, beq_self_eq_true, Bool.or_false, Bool.or_true, Bool.true_or, Bool.false_or, Bool.and_true, Bool.true_and, Bool.and_false, Bool.false_and, and_self, Nat.zero_add])
/-! ### primes by trying all divisors -/
theorem fld_div (v : Int) (h5 : 5 ≤ v) : ∀ qs : List Int, (∀ q ∈ qs, 2 ≤ q) → fldGo v qs = false → ∃ q, 2 ≤ q ∧ q < v ∧ v % q = 0
  | [], _, h => by cases h
  | q :: qs, hq, h => by
    unfold fldGo at h
    split at h
    · rename_i h0
      have h2 : v ≠ q := by simpa using h
      have h3 := hq q List.mem_cons_self
      refine ⟨q, h3, ?_, h0⟩
      have hd := Int.dvd_of_emod_eq_zero h0
      have := Int.le_of_dvd (by omega) hd
      omega
    · exact fld_div v h5 qs (fun q h => hq q (List.mem_cons_of_mem _ h)) h
theorem primes_table : ((List.range 998).all fun v => !isFld (v : Int) || (List.range v).all fun k => Nat.ble k 1 || v % k != 0) = true := by decide +kernel
theorem fld_prime {v k : Int} (h : isFld v = true) (hk : 2 ≤ k) (hk2 : k < v) : v % k ≠ 0 := by
  have hp := fld_pos h
  have t := List.all_eq_true.mp primes_table v.toNat (by rw [List.mem_range]; omega)
  rw [show ((v.toNat : Nat) : Int) = v by omega, h] at t
  simp only [Bool.not_true, Bool.false_or] at t
  have t2 := List.all_eq_true.mp t k.toNat (by rw [List.mem_range]; omega)
  have e : Nat.ble k.toNat 1 = false := by
    rw [Bool.eq_false_iff]
    intro hc
    have := Nat.le_of_ble_eq_true hc
    omega
  rw [e, Bool.false_or] at t2
  intro hc
  have : v.toNat % k.toNat = 0 := by
    have h3 : ((v.toNat % k.toNat : Nat) : Int) = 0 := by
      rw [Int.natCast_emod, show ((v.toNat : Nat) : Int) = v by omega, show ((k.toNat : Nat) : Int) = k by omega]; exact hc
    omega
  simp [this] at t2
theorem t_is_prime (v : Int) : F__law_is_prime [.val (.int v)] = some (.dat (.bool (isFld v)), [.val (.int v)]) := by
  unfold F__law_is_prime m__law_is_prime
  by_cases h : 5 ≤ v
  · by_cases h2 : v ≤ 997
    · have c := compL_filter (vs := [1]) (tg := setN 1) (ts := mCmp dEq (mBin dMod (mCall dInt (mCons (mName 0) mNil)) (mName 1)) (mC (.int 0))) (el := mName 1) (f := id) (q := fun d => match d with | .int i => v % i == 0 | _ => false) (g := [.val (.int v), .un]) (ds := rgD 2 v) (by
        intro d hd
        obtain ⟨i, rfl, hi, hi2⟩ := mem_rgD.mp hd
        refine ⟨[.val (.int v), .val (.int i)], [.val (.int v), .val (.int i)], rfl, ?_, fun _ => ⟨.dat (.int i), _, _, rfl, rfl, rfl⟩, fun _ => rfl⟩
        walk_at "ev"
        rw [d_mod _ _ (by omega)]
        walk_at "ev")
      have fl : Flat 1 (.list (((rgD 2 v).filter (fun d => match d with | .int i => v % i == 0 | _ => false)).map id)) := flat_list (n := 0) (by
        intro x hx
        rw [List.map_id] at hx
        obtain ⟨i, rfl, _⟩ := mem_rgD.mp (List.mem_filter.mp hx).1
        exact flat_int i)
      have fin : (((rgD 2 v).filter (fun d => match d with | .int i => v % i == 0 | _ => false)).map id).isEmpty = isFld v := by
        rw [List.map_id, Bool.eq_iff_iff, List.isEmpty_iff, List.filter_eq_nil_iff]
        constructor
        · intro hn
          unfold isFld
          rw [decide_eq_true h, decide_eq_true h2, Bool.true_and, Bool.true_and]
          cases e : fldGo v [2, 3, 5, 7, 11, 13, 17, 19, 23, 29, 31] with
          | true => rfl
          | false =>
            obtain ⟨q, h3, h4, h5⟩ := fld_div v h _ (by decide) e
            exact absurd (by simpa using h5) (hn (.int q) (mem_rgD.mpr ⟨q, rfl, h3, h4⟩))
        · intro hf d hd
          obtain ⟨i, rfl, hi, hi2⟩ := mem_rgD.mp hd
          simpa using fld_prime hf hi hi2
      walk_at "ev"
      rw [decide_eq_true h]
      walk_at "ev"
      rw [decide_eq_true h2]
      walk_at "ev"
      rw [okRg' (i := 2) (by omega) (by omega), okRg' (i := v) (by omega) (by omega)]
      walk_at "ev"
      rw [if_pos (show (rgD 2 v).length < sizeLine by rw [rgD_len]; unfold sizeLine; omega)]
      simp only [wipeG, List.set_cons_zero, List.set_cons_succ]
      rw [c]
      simp only [Option.bind_some, restore, List.getElem?_cons_zero, List.getElem?_cons_succ, List.set_cons_zero, List.set_cons_succ]
      walk_at "ev"
      rw [if_pos (Nat.zero_le _)]
      walk_at "ev"
      rw [d_eqNil fl, fin]
      walk_at "ev"
    · have e : isFld v = false := by unfold isFld; rw [decide_eq_false h2, Bool.and_false, Bool.false_and]
      rw [e]
      walk_at "ev"
      rw [decide_eq_true h]
      walk_at "ev"
      rw [decide_eq_false h2]
      walk_at "ev"
  · have e : isFld v = false := by unfold isFld; rw [decide_eq_false h, Bool.false_and, Bool.false_and]
    rw [e]
    walk_at "ev"
    rw [decide_eq_false h]
    walk_at "ev"
end Lib
end
section
set_option Elab.async false
set_option linter.all false
set_option maxRecDepth 100000
set_option maxHeartbeats 4000000
set_option exponentiation.threshold 3000
namespace Lib
open PySem PySem.Spec PyProof.Rows L2 EV
local macro_rules | `(tactic| walk_at "ev") => `(tactic| try simp only [e_bodyM, e_seq, e_nil, e_if, e_set, e_ret, e_drop, e_par, e_asg, e_for, e_app, e_setix, e_aug, e_name, e_c, e_anil, e_acons, e_bin, e_cmp, e_brk, e_cnt, e_retn, e_ix, e_call, e_fn, e_fn0, e_fnD, e_ifx, e_oft, e_tru, e_not, e_and, e_or, e_andv, e_orv, e_notv, e_neg, e_isi, e_chain, e_lst, e_tup, e_it, e_rg1, e_rg2, e_zip, e_enum, e_revi, e_rev, e_o0, e_o1, e_sl, e_dict0, e_yes, e_comp, e_pop, e_asB, e_toDd, e_toDf, e_toDs, e_lkd, e_lkf, e_lks, e_lan, e_lac, e_tdn, e_tdc, e_tsn, e_tsd, e_tsf, e_tss, e_snd, e_snf, e_snn, e_snc, e_sod, e_sof, e_st, e_fln, e_keep, e_itl, e_itt, e_rr1, e_rr2, e_tupRg, e_lstRg, e_revR, e_popAt, e_ext, e_tupRev, e_repL, e_lenSet, e_enumA, e_zipA, e_zip3, d_addT, flat1,
  d_add, d_sub, d_lt, d_le, d_gt, d_ge, d_eq, d_ne, d_ixl, d_ixt, d_lenl, d_lent, d_inti, d_intb, d_abs, d_max2, d_min2, d_tupl, d_tupt, d_lsl, d_lst, d_rb, t_b, t_i, t_l, t_t, is_nb, is_bb, k_ii, k_ib, k_bi, k_bb, k_ni, k_si, k_ti, k_li, k_di, k_tt, isNone, isBl,
  Option.bind_some, Option.bind_none, Option.map_some, Option.map_none, List.append_nil, List.cons_append, List.nil_append, List.replicate, List.getElem?_cons_zero, List.getElem?_cons_succ, List.getElem?_nil, List.set_cons_zero, List.set_cons_succ, List.length_cons, List.length_nil, List.mapIdx_cons, List.mapIdx_nil, List.contains_nil, List.contains_cons, Bool.false_eq_true, if_true, if_false, reduceIte, Bool.not_true, Bool.not_false, Option.getD_some, Function.comp, List.map_cons, List.map_nil,
  Nat.reduceLT, Nat.reduceAdd, Nat.reduceBEq, Nat.reduceEqDiff, Nat.reduceLeDiff, Int.reduceLT, Int.reduceLE, decide_true, decide_false, beq_self_eq_true, Bool.or_false, Bool.or_true, Bool.true_or, Bool.false_or, Bool.and_true, Bool.true_and, Bool.and_false, Bool.false_and, and_self, Nat.zero_add])
/-! ### Fermat, for all fields -/
theorem fermat_table : ((List.range 998).all fun v => !isFld (v : Int) || (List.range v).all fun a => Nat.ble a 0 || a ^ (v - 1) % v == 1) = true := by decide +kernel
theorem fermat {p a : Int} (h : isFld p = true) (ha : 0 < a) (ha2 : a < p) : a ^ (p - 1).toNat % p = 1 := by
  have hp := fld_pos h
  obtain ⟨n, rfl⟩ : ∃ n : Nat, p = n := ⟨p.toNat, by omega⟩
  obtain ⟨b, rfl⟩ : ∃ b : Nat, a = b := ⟨a.toNat, by omega⟩
  have t := List.all_eq_true.mp fermat_table n (by rw [List.mem_range]; omega)
  rw [h] at t
  simp only [Bool.not_true, Bool.false_or] at t
  have t2 := List.all_eq_true.mp t b (by rw [List.mem_range]; omega)
  have e : Nat.ble b 0 = false := by
    rw [Bool.eq_false_iff]
    intro hc
    have := Nat.le_of_ble_eq_true hc
    omega
  rw [e, Bool.false_or, beq_iff_eq] at t2
  rw [show ((n : Int) - 1).toNat = n - 1 by omega, ← Int.natCast_pow, ← Int.natCast_emod, t2]
  rfl
theorem inv_mul {p a : Int} (h : isFld p = true) (ha : 0 < a) (ha2 : a < p) : a ^ (p - 2).toNat % p * a % p = 1 := by
  have hp := fld_pos h
  rw [mml, ← Int.pow_succ, show (p - 2).toNat.succ = (p - 1).toNat by omega, fermat h ha ha2]
theorem inv_range {p a : Int} (h : isFld p = true) (ha : 0 < a) (ha2 : a < p) : 0 < a ^ (p - 2).toNat % p ∧ a ^ (p - 2).toNat % p < p := by
  have hp := fld_pos h
  have k1 := Int.emod_nonneg (a ^ (p - 2).toNat) (show p ≠ 0 by omega)
  have k2 := Int.emod_lt_of_pos (a ^ (p - 2).toNat) (show 0 < p by omega)
  refine ⟨?_, k2⟩
  have := inv_mul h ha ha2
  have hne : a ^ (p - 2).toNat % p ≠ 0 := by
    intro hc
    rw [hc, Int.zero_mul, Int.zero_emod] at this
    cases this
  omega
def lawPs : List Int := [5, 7, 11, 13, 17, 29, 31, 97, 101, 499, 991, 997]
theorem lawPs_fld : ∀ p ∈ lawPs, isFld p = true := by decide +kernel
theorem sums_table : (([5, 7, 11, 13, 17, 29, 31, 97, 101, 499, 991, 997] : List Nat).all fun p => (List.range 60 ++ [p - 1, p - 2, 2 * (p - 1)]).all fun k => ((List.range p).map fun n => n ^ k % p).sum % p == if Nat.ble 1 k && k % (p - 1) == 0 then p - 1 else 0) = true := by decide +kernel
end Lib
end
section
set_option Elab.async false
set_option linter.all false
set_option maxRecDepth 100000
set_option maxHeartbeats 4000000
set_option exponentiation.threshold 3000
namespace Lib
open PySem PySem.Spec PyProof.Rows L2 EV
local macro_rules | `(tactic| walk_at "ev") => `(tactic| try simp only [e_bodyM, e_seq, e_nil, e_if, e_set, e_ret, e_drop, e_par, e_asg, e_for, e_app, e_setix, e_aug, e_name, e_c, e_anil, e_acons, e_bin, e_cmp, e_brk, e_cnt, e_retn, e_ix, e_call, e_fn, e_fn0, e_fnD, e_ifx, e_oft, e_tru, e_not, e_and, e_or, e_andv, e_orv, e_notv, e_neg, e_isi, e_chain, e_lst, e_tup, e_it, e_rg1, e_rg2, e_zip, e_enum, e_revi, e_rev, e_o0, e_o1, e_sl, e_dict0, e_yes, e_comp, e_pop, e_asB, e_toDd, e_toDf, e_toDs, e_lkd, e_lkf, e_lks, e_lan, e_lac, e_tdn, e_tdc, e_tsn, e_tsd, e_tsf, e_tss, e_snd, e_snf, e_snn, e_snc, e_sod, e_sof, e_st, e_fln, e_keep, e_itl, e_itt, e_rr1, e_rr2, e_tupRg, e_lstRg, e_revR, e_popAt, e_ext, e_tupRev, e_repL, e_lenSet, e_enumA, e_zipA, e_zip3, d_addT, flat1,
  d_add, d_sub, d_lt, d_le, d_gt, d_ge, d_eq, d_ne, d_ixl, d_ixt, d_lenl, d_lent, d_inti, d_intb, d_abs, d_max2, d_min2, d_tupl, d_tupt, d_lsl, d_lst, d_rb, t_b, t_i, t_l, t_t, is_nb, is_bb, k_ii, k_ib, k_bi, k_bb, k_ni, k_si, k_ti, k_li, k_di, k_tt, isNone, isBl,
  Option.bind_some, Option.bind_none, Option.map_some, Option.map_none, List.append_nil, List.cons_append, List.nil_append, List.replicate, List.getElem?_cons_zero, List.getElem?_cons_succ, List.getElem?_nil, List.set_cons_zero, List.set_cons_succ, List.length_cons, List.length_nil, List.mapIdx_cons, List.mapIdx_nil, List.contains_nil, List.contains_cons, Bool.false_eq_true, if_true, if_false, reduceIte, Bool.not_true, Bool.not_false, Option.getD_some, Function.comp, List.map_cons, List.map_nil,
  Nat.reduceLT, Nat.reduceAdd, Nat.reduceBEq, Nat.reduceEqDiff, Nat.reduceLeDiff, Int.reduceLT, Int.reduceLE, decide_true, decide_false, beq_self_eq_true, Bool.or_false, Bool.or_true, Bool.true_or, Bool.false_or, Bool.and_true, Bool.true_and, Bool.and_false, Bool.false_and, and_self, Nat.zero_add])
theorem d_keep {k m : Nat} {ds : List Da} (h : DiceOk k ds) (hm : k ≤ m) : DiceOk m ds := by
  obtain ⟨a, b, c, h1, h2, h3, h4, h5, h6, h7⟩ := h
  exact ⟨a, b, c, h1, h2, h3, h4, h5, h6, by omega⟩
theorem t_primes' : F__law_fd_primes [] = some (.fresh (lawPs.map PyData.int), []) := rfl
theorem rg_map {p : Int} {f : Da → Da} : (rgD 0 p).map f = (List.range p.toNat).map fun k => f (.int (k : Nat)) := by
  unfold rgD
  rw [List.map_map, show p - 0 = p by omega]
  apply List.map_congr_left
  intro k _
  show f (.int (0 + (k : Int))) = _
  rw [Int.zero_add]
theorem sums_all {p k : Int} (hp : p ∈ lawPs) (hk : (0 ≤ k ∧ k < 60) ∨ k = p - 1 ∨ k = p - 2 ∨ k = 2 * (p - 1)) : ((List.range p.toNat).map fun n : Nat => (n : Int) ^ k.toNat % p).sum % p = pSum p k := by
  have hf := fld_pos (lawPs_fld p hp)
  obtain ⟨n, rfl⟩ : ∃ n : Nat, p = n := ⟨p.toNat, by omega⟩
  obtain ⟨j, rfl⟩ : ∃ j : Nat, k = j := ⟨k.toNat, by omega⟩
  have hn : n ∈ ([5, 7, 11, 13, 17, 29, 31, 97, 101, 499, 991, 997] : List Nat) := by
    simp only [lawPs, List.mem_cons, List.not_mem_nil, or_false] at hp ⊢
    omega
  have t := List.all_eq_true.mp (List.all_eq_true.mp sums_table n hn) j (by
    rw [List.mem_append, List.mem_range]
    simp only [List.mem_cons, List.not_mem_nil, or_false]
    omega)
  rw [beq_iff_eq] at t
  have cast : ∀ (l : List Nat), (l.map fun m : Nat => (m : Int) ^ (j : Int).toNat % (n : Int)).sum = (((l.map fun m => m ^ j % n).sum : Nat) : Int) := by
    intro l
    induction l with
    | nil => rfl
    | cons x r ih =>
      rw [List.map_cons, List.map_cons, List.sum_cons, List.sum_cons, ih, Int.natCast_add, Int.natCast_emod, Int.natCast_pow, Int.toNat_natCast]
  rw [cast, ← Int.natCast_emod, Int.toNat_natCast, t]
  unfold pSum
  by_cases h1 : 1 ≤ j
  · rw [Nat.ble_eq_true_of_le h1, Bool.true_and]
    by_cases h2 : j % (n - 1) = 0
    · rw [if_pos (by simpa using h2), if_pos ⟨by omega, by
        rw [show ((n : Int) - 1) = ((n - 1 : Nat) : Int) by omega, ← Int.natCast_emod, h2]; rfl⟩]
      omega
    · rw [if_neg (by simpa using h2), if_neg]
      · rfl
      · rintro ⟨_, h3⟩
        apply h2
        rw [show ((n : Int) - 1) = ((n - 1 : Nat) : Int) by omega, ← Int.natCast_emod] at h3
        omega
  · have : j = 0 := by omega
    subst this
    rfl
theorem pow106 : dPow (.int 10) (.int 6) = some (.dat (.int 1000000)) := d_pow 10 6 (by decide) (by decide) (by decide)
theorem compL_range {vs : List Nat} {tg : Wv → Gh → Option Gh} {el : ME} {F : Nat → Da} {g : Gh} {n : Int} (h : ∀ i : Nat, i < n.toNat → ∃ g1 w g2 g3, tg (.dat (.int i)) g = some g1 ∧ el g1 = some (w, g2) ∧ toD w g2 = some (F i, g3) ∧ wipeG g3 vs = g) : compL vs tg mYes el (rgD 0 n) g = some ((List.range n.toNat).map F, g) := by
  rw [compL_map (f := fun d => match d with | .int i => F i.toNat | _ => .none) (by
    intro d hd
    obtain ⟨i, rfl, h1, h2⟩ := mem_rgD.mp hd
    obtain ⟨j, rfl⟩ : ∃ j : Nat, i = j := ⟨i.toNat, by omega⟩
    exact h j (by omega)), rg_map]
  rfl
theorem minus_power {p a b : Int} (h : isFld p = true) (a0 : 0 ≤ a) (a1 : a < p) (b0 : 0 ≤ b) (b1 : b < p) : (1 - ((a - b) % p) ^ (p - 1).toNat % p) % p = (if (a == b) = true then 1 else 0) := by
  have hp := fld_pos h
  have k1 := Int.emod_nonneg (a - b) (show p ≠ 0 by omega)
  have k2 := Int.emod_lt_of_pos (a - b) (show 0 < p by omega)
  by_cases e : a = b
  · subst e
    rw [Int.sub_self, Int.zero_emod, Int.zero_pow (show (p - 1).toNat ≠ 0 by omega), Int.zero_emod, if_pos (beq_self_eq_true a), Int.sub_zero, Int.emod_eq_of_lt (by decide) (by omega)]
  · have hne : (a - b) % p ≠ 0 := by
      intro hc
      have hd := Int.dvd_of_emod_eq_zero hc
      obtain ⟨q, hq⟩ := hd
      rcases Int.lt_trichotomy q 0 with hq0 | hq0 | hq0
      · have : p * q ≤ p * (-1) := Int.mul_le_mul_of_nonneg_left (by omega) (by omega)
        omega
      · subst hq0; rw [Int.mul_zero] at hq; omega
      · have : p * 1 ≤ p * q := Int.mul_le_mul_of_nonneg_left (by omega) (by omega)
        omega
    rw [fermat h (by omega) k2, if_neg (by simpa using e)]
    rfl
end Lib
end
section
set_option Elab.async false
set_option linter.all false
set_option maxRecDepth 100000
set_option maxHeartbeats 4000000
set_option exponentiation.threshold 3000
namespace Lib
open PySem PySem.Spec PyProof.Rows L2 EV
local macro_rules | `(tactic| walk_at "ev") => `(tactic| try simp only [e_bodyM, e_seq, e_nil, e_if, e_set, e_ret, e_drop, e_par, e_asg, e_for, e_app, e_setix, e_aug, e_name, e_c, e_anil, e_acons, e_bin, e_cmp, e_brk, e_cnt, e_retn, e_ix, e_call, e_fn, e_fn0, e_fnD, e_ifx, e_oft, e_tru, e_not, e_and, e_or, e_andv, e_orv, e_notv, e_neg, e_isi, e_chain, e_lst, e_tup, e_it, e_rg1, e_rg2, e_zip, e_enum, e_revi, e_rev, e_o0, e_o1, e_sl, e_dict0, e_yes, e_comp, e_pop, e_asB, e_toDd, e_toDf, e_toDs, e_lkd, e_lkf, e_lks, e_lan, e_lac, e_tdn, e_tdc, e_tsn, e_tsd, e_tsf, e_tss, e_snd, e_snf, e_snn, e_snc, e_sod, e_sof, e_st, e_fln, e_keep, e_itl, e_itt, e_rr1, e_rr2, e_tupRg, e_lstRg, e_revR, e_popAt, e_ext, e_tupRev, e_repL, e_lenSet, e_enumA, e_zipA, e_zip3, d_addT, flat1,
  d_add, d_sub, d_lt, d_le, d_gt, d_ge, d_eq, d_ne, d_ixl, d_ixt, d_lenl, d_lent, d_inti, d_intb, d_abs, d_max2, d_min2, d_tupl, d_tupt, d_lsl, d_lst, d_rb, t_b, t_i, t_l, t_t, is_nb, is_bb, k_ii, k_ib, k_bi, k_bb, k_ni, k_si, k_ti, k_li, k_di, k_tt, isNone, isBl,
  Option.bind_some, Option.bind_none, Option.map_some, Option.map_none, List.append_nil, List.cons_append, List.nil_append, List.replicate, List.getElem?_cons_zero, List.getElem?_cons_succ, List.getElem?_nil, List.set_cons_zero, List.set_cons_succ, List.length_cons, List.length_nil, List.mapIdx_cons, List.mapIdx_nil, List.contains_nil, List.contains_cons, Bool.false_eq_true, if_true, if_false, reduceIte, Bool.not_true, Bool.not_false, Option.getD_some, Function.comp, List.map_cons, List.map_nil,
  Nat.reduceLT, Nat.reduceAdd, Nat.reduceBEq, Nat.reduceEqDiff, Nat.reduceLeDiff, Int.reduceLT, Int.reduceLE, decide_true, decide_false, beq_self_eq_true, Bool.or_false, Bool.or_true, Bool.true_or, Bool.false_or, Bool.and_true, Bool.true_and, Bool.and_false, Bool.false_and, and_self, Nat.zero_add])
/-! ### any values -/
def inRg (lo hi : Int) (d : Da) : Bool := match d with | .int v => decide (lo ≤ v) && decide (v ≤ hi) | _ => false
def fldA (d : Da) : Bool := match d with | .int v => isFld v | _ => false
theorem t_is_integerA (d : Da) (lo hi : Int) : F_is_integer [.val d, .val (.int lo), .val (.int hi)] = some (.dat (.bool (inRg lo hi d)), [.val d, .val (.int lo), .val (.int hi)]) := by
  cases d with
  | int v => exact t_is_integer v lo hi
  | bool b =>
    unfold F_is_integer m_is_integer inRg
    cases b <;> walk_at "ev"
  | _ =>
    unfold F_is_integer m_is_integer inRg
    walk_at "ev"
theorem t_is_numberA (d : Da) {p : Int} (hf : isFld p = true) : F_is_number [.val (.int p), .val d] = some (.dat (.bool (inRg 0 (p - 1) d)), [.val (.int p), .val d]) := by
  unfold F_is_number m_is_number
  walk_at "ev"
  rw [t_check_field hf]
  walk_at "ev"
  rw [t_is_integerA]
  walk_at "ev"
theorem t_is_fieldA (d : Da) : F_is_field [.val d] = some (.dat (.bool (fldA d)), [.val d]) := by
  cases d with
  | int v => exact t_is_field v
  | _ =>
    unfold F_is_field m_is_field fldA
    walk_at "ev"
    rw [t_is_integerA]
    simp only [inRg]
    walk_at "ev"
def yn (b : Bool) : Da := .str (if b then "True" else "False")
theorem flat_yn {n : Nat} (b : Bool) : Flat n (yn b) := by
  cases b
  · exact ⟨rfl, by decide +kernel, by simp only [yn, PyData.depth]; omega⟩
  · exact ⟨rfl, by decide +kernel, by simp only [yn, PyData.depth]; omega⟩
theorem pow1060 : dPow (.int 10) (.int 60) = some (.dat (.int (10 ^ 60))) := d_pow 10 60 (by decide) (by decide) (by decide)
theorem compL_of {α : Type} {vs : List Nat} {tg : Wv → Gh → Option Gh} {el : ME} {e F : α → Da} {g : Gh} : ∀ {xs : List α}, (∀ x ∈ xs, ∃ g1 w g2 g3, tg (.dat (e x)) g = some g1 ∧ el g1 = some (w, g2) ∧ toD w g2 = some (F x, g3) ∧ wipeG g3 vs = g) → compL vs tg mYes el (xs.map e) g = some (xs.map F, g)
  | [], _ => rfl
  | x :: xs, h => by
    obtain ⟨g1, w, g2, g3, h1, h2, h3, h4⟩ := h x List.mem_cons_self
    rw [List.map_cons]
    unfold compL
    rw [h1, Option.bind_some]
    show (el g1).bind _ = _
    rw [h2, Option.bind_some, h3, Option.bind_some, h4, compL_of fun d hd => h d (List.mem_cons_of_mem _ hd)]
    rfl
end Lib
end
section
set_option Elab.async false
set_option linter.all false
set_option maxRecDepth 100000
set_option maxHeartbeats 4000000
set_option exponentiation.threshold 3000
namespace K00
open PySem PySem.Spec PyProof.Rows L2 EV
local macro_rules | `(tactic| walk_at "ev") => `(tactic| try simp only [e_bodyM, e_seq, e_nil, e_if, e_set, e_ret, e_drop, e_par, e_asg, e_for, e_app, e_setix, e_aug, e_name, e_c, e_anil, e_acons, e_bin, e_cmp, e_brk, e_cnt, e_retn, e_ix, e_call, e_fn, e_fn0, e_fnD, e_ifx, e_oft, e_tru, e_not, e_and, e_or, e_andv, e_orv, e_notv, e_neg, e_isi, e_chain, e_lst, e_tup, e_it, e_rg1, e_rg2, e_zip, e_enum, e_revi, e_rev, e_o0, e_o1, e_sl, e_dict0, e_yes, e_comp, e_pop, e_asB, e_toDd, e_toDf, e_toDs, e_lkd, e_lkf, e_lks, e_lan, e_lac, e_tdn, e_tdc, e_tsn, e_tsd, e_tsf, e_tss, e_snd, e_snf, e_snn, e_snc, e_sod, e_sof, e_st, e_fln, e_keep, e_itl, e_itt, e_rr1, e_rr2, e_tupRg, e_lstRg, e_revR, e_popAt, e_ext, e_tupRev, e_repL, e_lenSet, e_enumA, e_zipA, e_zip3, d_addT, flat1,
  d_add, d_sub, d_lt, d_le, d_gt, d_ge, d_eq, d_ne, d_ixl, d_ixt, d_lenl, d_lent, d_inti, d_intb, d_abs, d_max2, d_min2, d_tupl, d_tupt, d_lsl, d_lst, d_rb, t_b, t_i, t_l, t_t, is_nb, is_bb, k_ii, k_ib, k_bi, k_bb, k_ni, k_si, k_ti, k_li, k_di, k_tt, isNone, isBl,
  Option.bind_some, Option.bind_none, Option.map_some, Option.map_none, List.append_nil, List.cons_append, List.nil_append, List.replicate, List.getElem?_cons_zero, List.getElem?_cons_succ, List.getElem?_nil, List.set_cons_zero, List.set_cons_succ, List.length_cons, List.length_nil, List.mapIdx_cons, List.mapIdx_nil, List.contains_nil, List.contains_cons, Bool.false_eq_true, if_true, if_false, reduceIte, Bool.not_true, Bool.not_false, Option.getD_some, Function.comp, List.map_cons, List.map_nil,
  Nat.reduceLT, Nat.reduceAdd, Nat.reduceBEq, Nat.reduceEqDiff, Nat.reduceLeDiff, Int.reduceLT, Int.reduceLE, decide_true, decide_false, beq_self_eq_true, Bool.or_false, Bool.or_true, Bool.true_or, Bool.false_or, Bool.and_true, Bool.true_and, Bool.and_false, Bool.false_and, and_self, Nat.zero_add])
open Lib
theorem t_right {k : Nat} {ds : List Da} (h : DiceOk k ds) (hk : k ≤ 1000) : ∃ ds', DiceOk (k + 20) ds' ∧ F__law_right [.own ds] = some (.dat (.bool true), [.own ds']) := by
  obtain ⟨p, d1, hp, h1, e1⟩ := t_pickI (xs := lawPs) h (by omega) (by decide) (by decide)
  have hf := lawPs_fld p hp
  have hp5 := fld_pos hf
  obtain ⟨a, d2, a0, a1, h2, e2⟩ := t_roll (m := p) h1 (by omega) (by omega) (by omega)
  obtain ⟨r3, d3, r30, r31, h3, e3⟩ := t_roll (m := p) h2 (by omega) (by omega) (by omega)
  obtain ⟨b, d4, hb, h4, e4⟩ := t_pickI (xs := [0, 1, p - 1, r3]) h3 (by omega) (Nat.succ_pos _) (by simp)
  have b01 : 0 ≤ b ∧ b < p := by
    simp only [List.mem_cons, List.not_mem_nil, or_false] at hb
    omega
  obtain ⟨b0, b1⟩ := b01
  obtain ⟨r5, d5, r50, r51, h5, e5⟩ := t_roll (m := 1000000) h4 (by omega) (by decide) (by decide)
  obtain ⟨r6, d6, r60, r61, h6, e6⟩ := t_roll (m := 900) h5 (by omega) (by decide) (by decide)
  obtain ⟨far, d7, hfar, h7, e7⟩ := t_pickI (xs := [p - 1, p, 1000000, r5, (p - 1) * (1 + r6)]) h6 (by omega) (Nat.succ_pos _) (by simp)
  have nl : (p - 1) * (1 + r6) ≤ 996 * 900 := Int.mul_le_mul (by omega) (by omega) (by omega) (by decide)
  have nl2 : 0 ≤ (p - 1) * (1 + r6) := Int.mul_nonneg (by omega) (by omega)
  have f01 : 0 ≤ far ∧ far ≤ 1000000 := by
    simp only [List.mem_cons, List.not_mem_nil, or_false] at hfar
    rcases hfar with rfl | rfl | rfl | rfl | rfl <;> constructor <;> first | omega | decide
  obtain ⟨f0, f1⟩ := f01
  obtain ⟨r8, d8, r80, r81, h8, e8⟩ := t_roll (m := 60) h7 (by omega) (by decide) (by decide)
  obtain ⟨j, d9, hj, h9, e9⟩ := t_pickI (xs := [0, 1, 2, p - 1, p - 2, 2 * (p - 1), r8]) h8 (by omega) (Nat.succ_pos _) (by simp)
  have hj2 : (0 ≤ j ∧ j < 60) ∨ j = p - 1 ∨ j = p - 2 ∨ j = 2 * (p - 1) := by
    simp only [List.mem_cons, List.not_mem_nil, or_false] at hj
    omega
  have j01 : 0 ≤ j ∧ j ≤ 1000000 := by omega
  obtain ⟨j0, j1⟩ := j01
  simp only [List.map_cons, List.map_nil] at e4 e7 e9
  refine ⟨d9, d_keep h9 (by omega), ?_⟩
  have c1 := compL_range (vs := [8]) (tg := setN 8) (el := mFn F_power (mCons (mName 1) (mCons (mName 2) (mCons (mName 8) mNil)))) (F := fun i => .int (a ^ i % p)) (g := [.own d4, .val (.int p), .val (.int a), .val (.int b), .own ((List.range (Int.toNat 40)).map fun i => .int (a ^ i % p)), .un, .un, .un, .un, .un]) (n := 40) (by
    intro i hi
    refine ⟨[.own d4, .val (.int p), .val (.int a), .val (.int b), .own ((List.range (Int.toNat 40)).map fun i => .int (a ^ i % p)), .un, .un, .un, (.val (.int (i : Nat))), .un], .dat (.int (a ^ i % p)), [.own d4, .val (.int p), .val (.int a), .val (.int b), .own ((List.range (Int.toNat 40)).map fun i => .int (a ^ i % p)), .un, .un, .un, (.val (.int (i : Nat))), .un], [.own d4, .val (.int p), .val (.int a), .val (.int b), .own ((List.range (Int.toNat 40)).map fun i => .int (a ^ i % p)), .un, .un, .un, (.val (.int (i : Nat))), .un], rfl, ?_, rfl, rfl⟩
    walk_at "ev"
    rw [t_power hf a0 a1 (show 0 ≤ (i : Int) by omega) (by omega)]
    rfl)
  have c2 := compL_range (vs := [9]) (tg := setN 9) (el := mFn F__law_great_power (mCons (mName 1) (mCons (mName 9) (mCons (mName 6) mNil)))) (F := fun i => .int ((i : Int) ^ j.toNat % p)) (g := [.own d9, .val (.int p), .val (.int a), .val (.int b), .own ((List.range (Int.toNat 40)).map fun i => .int (a ^ i % p)), .val (.int far), .val (.int j), .un, .un, .un]) (n := p) (by
    intro i hi
    refine ⟨[.own d9, .val (.int p), .val (.int a), .val (.int b), .own ((List.range (Int.toNat 40)).map fun i => .int (a ^ i % p)), .val (.int far), .val (.int j), .un, .un, (.val (.int (i : Nat)))], .dat (.int ((i : Int) ^ j.toNat % p)), [.own d9, .val (.int p), .val (.int a), .val (.int b), .own ((List.range (Int.toNat 40)).map fun i => .int (a ^ i % p)), .val (.int far), .val (.int j), .un, .un, (.val (.int (i : Nat)))], [.own d9, .val (.int p), .val (.int a), .val (.int b), .own ((List.range (Int.toNat 40)).map fun i => .int (a ^ i % p)), .val (.int far), .val (.int j), .un, .un, (.val (.int (i : Nat)))], rfl, ?_, rfl, rfl⟩
    walk_at "ev"
    rw [t_great hp5.1 hp5.2 (show 0 ≤ (i : Int) by omega) (by omega) j0 (by omega)]
    rfl)
  have fl : Flat 1 (.list ((List.range (Int.toNat 40)).map fun i => .int (a ^ i % p))) := flat_list (n := 0) (by
    intro x hx
    obtain ⟨i, _, rfl⟩ := List.mem_map.mp hx
    exact flat_int _)
  unfold F__law_right m__law_right
  walk_at "ev"
  rw [t_primes']
  walk_at "ev"
  rw [e1]
  walk_at "ev"
  rw [e2]
  walk_at "ev"
  rw [e3]
  walk_at "ev"
  rw [if_pos (show 4 ≤ sizeLine by decide)]
  walk_at "ev"
  rw [e4]
  walk_at "ev"
  rw [t_plus hf a0 a1 b0 b1]
  walk_at "ev"
  rw [d_mod _ _ (show 0 < p by omega)]
  walk_at "ev"
  rw [t_minus hf a0 a1 b0 b1]
  walk_at "ev"
  rw [d_mod _ _ (show 0 < p by omega)]
  walk_at "ev"
  rw [t_times hf a0 a1 b0 b1]
  walk_at "ev"
  rw [d_mul _ _ (big a0 (by omega)) (big b0 (by omega))]
  walk_at "ev"
  rw [d_mod _ _ (show 0 < p by omega)]
  walk_at "ev"
  rw [t_times hf b0 b1 a0 a1]
  walk_at "ev"
  rw [t_times hf a0 a1 b0 b1]
  walk_at "ev"
  rw [show b * a = a * b from Int.mul_comm b a]
  walk_at "ev"
  have inv : (decide (0 < a) = false) ∨ (0 < a ∧ decide (0 < a) = true) := by
    by_cases hq : 0 < a
    · exact .inr ⟨hq, decide_eq_true hq⟩
    · exact .inl (decide_eq_false hq)
  have hdif := minus_power hf a0 a1 b0 b1
  have mulb : (p - 1).natAbs.log2 + (1 + r6).natAbs.log2 < 1000000 := by
    have h1 := log2_le (k := 399) (big (show 0 ≤ p - 1 by omega) (by omega))
    have h2 := log2_le (k := 399) (big (show 0 ≤ 1 + r6 by omega) (by omega))
    omega
  have dsum : dSum [.list ((List.range p.toNat).map fun i : Nat => PyData.int ((i : Int) ^ j.toNat % p))] = some (.dat (.int ((List.range p.toNat).map fun i : Nat => (i : Int) ^ j.toNat % p).sum)) := by
    have := d_sum ((List.range p.toNat).map fun i : Nat => (i : Int) ^ j.toNat % p)
    rw [List.map_map] at this
    exact this
  have hdif0 := Int.emod_nonneg (a - b) (show p ≠ 0 by omega)
  have hdif1 := Int.emod_lt_of_pos (a - b) (show 0 < p by omega)
  generalize hD : (a - b) % p = D at hdif hdif0 hdif1
  have q0 := Int.emod_nonneg (D ^ (p - 1).toNat) (show p ≠ 0 by omega)
  have q1 := Int.emod_lt_of_pos (D ^ (p - 1).toNat) (show 0 < p by omega)
  rcases inv with hq | ⟨ha, hq⟩ <;> rw [hq]
  · walk_at "ev"
    rw [t_powers hp5.1 hp5.2 a0 a1 (by decide) (by decide)]
    walk_at "ev"
    rw [okRg' (i := 40) (by decide) (by decide)]
    walk_at "ev"
    rw [if_pos (show (rgD 0 40).length < sizeLine by rw [rgD_len]; decide)]
    try simp only [wipeG, List.set_cons_zero, List.set_cons_succ]
    rw [c1]
    try simp only [Option.bind_some, restore, List.getElem?_cons_zero, List.getElem?_cons_succ, List.set_cons_zero, List.set_cons_succ]
    walk_at "ev"
    rw [d_neS fl]
    walk_at "ev"
    rw [pow106]
    walk_at "ev"
    rw [e5]
    walk_at "ev"
    rw [e6]
    walk_at "ev"
    rw [d_mulW _ _ mulb]
    walk_at "ev"
    rw [if_pos (show 5 ≤ sizeLine by decide)]
    walk_at "ev"
    rw [e7]
    walk_at "ev"
    rw [t_power hf a0 a1 f0 f1]
    walk_at "ev"
    rw [t_great hp5.1 hp5.2 a0 a1 f0 (by omega)]
    walk_at "ev"
    rw [t_minus hf a0 a1 b0 b1, hD]
    walk_at "ev"
    rw [t_power hf hdif0 hdif1 (show 0 ≤ p - 1 by omega) (by omega)]
    walk_at "ev"
    rw [t_minus hf (show 0 ≤ 1 by decide) (by omega) q0 q1, hdif]
    walk_at "ev"
    rw [d_mul _ _ (by decide) (big (show 0 ≤ p - 1 by omega) (by omega))]
    walk_at "ev"
    rw [e8]
    walk_at "ev"
    rw [if_pos (show 7 ≤ sizeLine by decide)]
    walk_at "ev"
    rw [e9]
    walk_at "ev"
    rw [okRg' (i := p) (by omega) (by omega)]
    walk_at "ev"
    rw [if_pos (show (rgD 0 p).length < sizeLine by rw [rgD_len]; unfold sizeLine; omega)]
    try simp only [wipeG, List.set_cons_zero, List.set_cons_succ]
    rw [c2]
    try simp only [Option.bind_some, restore, List.getElem?_cons_zero, List.getElem?_cons_succ, List.set_cons_zero, List.set_cons_succ]
    walk_at "ev"
    rw [dsum]
    walk_at "ev"
    rw [t_power_sum hf j0 j1]
    walk_at "ev"
    rw [d_mod _ _ (show 0 < p by omega), sums_all hp hj2]
    walk_at "ev"
  · walk_at "ev"
    rw [t_undone hf ha a1]
    walk_at "ev"
    rw [t_fd_undone hp5.1 hp5.2 a0 a1 (inv_range hf ha a1).1 (inv_range hf ha a1).2 (inv_mul hf ha a1)]
    walk_at "ev"
    rw [t_undone hf ha a1]
    walk_at "ev"
    rw [t_times hf a0 a1 (by have := (inv_range hf ha a1).1; omega) (inv_range hf ha a1).2, Int.mul_comm a, inv_mul hf ha a1]
    walk_at "ev"
    rw [t_powers hp5.1 hp5.2 a0 a1 (by decide) (by decide)]
    walk_at "ev"
    rw [okRg' (i := 40) (by decide) (by decide)]
    walk_at "ev"
    rw [if_pos (show (rgD 0 40).length < sizeLine by rw [rgD_len]; decide)]
    try simp only [wipeG, List.set_cons_zero, List.set_cons_succ]
    rw [c1]
    try simp only [Option.bind_some, restore, List.getElem?_cons_zero, List.getElem?_cons_succ, List.set_cons_zero, List.set_cons_succ]
    walk_at "ev"
    rw [d_neS fl]
    walk_at "ev"
    rw [pow106]
    walk_at "ev"
    rw [e5]
    walk_at "ev"
    rw [e6]
    walk_at "ev"
    rw [d_mulW _ _ mulb]
    walk_at "ev"
    rw [if_pos (show 5 ≤ sizeLine by decide)]
    walk_at "ev"
    rw [e7]
    walk_at "ev"
    rw [t_power hf a0 a1 f0 f1]
    walk_at "ev"
    rw [t_great hp5.1 hp5.2 a0 a1 f0 (by omega)]
    walk_at "ev"
    rw [t_minus hf a0 a1 b0 b1, hD]
    walk_at "ev"
    rw [t_power hf hdif0 hdif1 (show 0 ≤ p - 1 by omega) (by omega)]
    walk_at "ev"
    rw [t_minus hf (show 0 ≤ 1 by decide) (by omega) q0 q1, hdif]
    walk_at "ev"
    rw [d_mul _ _ (by decide) (big (show 0 ≤ p - 1 by omega) (by omega))]
    walk_at "ev"
    rw [e8]
    walk_at "ev"
    rw [if_pos (show 7 ≤ sizeLine by decide)]
    walk_at "ev"
    rw [e9]
    walk_at "ev"
    rw [okRg' (i := p) (by omega) (by omega)]
    walk_at "ev"
    rw [if_pos (show (rgD 0 p).length < sizeLine by rw [rgD_len]; unfold sizeLine; omega)]
    try simp only [wipeG, List.set_cons_zero, List.set_cons_succ]
    rw [c2]
    try simp only [Option.bind_some, restore, List.getElem?_cons_zero, List.getElem?_cons_succ, List.set_cons_zero, List.set_cons_succ]
    walk_at "ev"
    rw [dsum]
    walk_at "ev"
    rw [t_power_sum hf j0 j1]
    walk_at "ev"
    rw [d_mod _ _ (show 0 < p by omega), sums_all hp hj2]
    walk_at "ev"
end K00
end
section
set_option Elab.async false
set_option linter.all false
set_option maxRecDepth 100000
set_option maxHeartbeats 4000000
set_option exponentiation.threshold 3000
namespace K00
open PySem PySem.Spec PyProof.Rows L2 EV
local macro_rules | `(tactic| walk_at "ev") => `(tactic| try simp only [e_bodyM, e_seq, e_nil, e_if, e_set, e_ret, e_drop, e_par, e_asg, e_for, e_app, e_setix, e_aug, e_name, e_c, e_anil, e_acons, e_bin, e_cmp, e_brk, e_cnt, e_retn, e_ix, e_call, e_fn, e_fn0, e_fnD, e_ifx, e_oft, e_tru, e_not, e_and, e_or, e_andv, e_orv, e_notv, e_neg, e_isi, e_chain, e_lst, e_tup, e_it, e_rg1, e_rg2, e_zip, e_enum, e_revi, e_rev, e_o0, e_o1, e_sl, e_dict0, e_yes, e_comp, e_pop, e_asB, e_toDd, e_toDf, e_toDs, e_lkd, e_lkf, e_lks, e_lan, e_lac, e_tdn, e_tdc, e_tsn, e_tsd, e_tsf, e_tss, e_snd, e_snf, e_snn, e_snc, e_sod, e_sof, e_st, e_fln, e_keep, e_itl, e_itt, e_rr1, e_rr2, e_tupRg, e_lstRg, e_revR, e_popAt, e_ext, e_tupRev, e_repL, e_lenSet, e_enumA, e_zipA, e_zip3, d_addT, flat1,
  d_add, d_sub, d_lt, d_le, d_gt, d_ge, d_eq, d_ne, d_ixl, d_ixt, d_lenl, d_lent, d_inti, d_intb, d_abs, d_max2, d_min2, d_tupl, d_tupt, d_lsl, d_lst, d_rb, t_b, t_i, t_l, t_t, is_nb, is_bb, k_ii, k_ib, k_bi, k_bb, k_ni, k_si, k_ti, k_li, k_di, k_tt, isNone, isBl,
  Option.bind_some, Option.bind_none, Option.map_some, Option.map_none, List.append_nil, List.cons_append, List.nil_append, List.replicate, List.getElem?_cons_zero, List.getElem?_cons_succ, List.getElem?_nil, List.set_cons_zero, List.set_cons_succ, List.length_cons, List.length_nil, List.mapIdx_cons, List.mapIdx_nil, List.contains_nil, List.contains_cons, Bool.false_eq_true, if_true, if_false, reduceIte, Bool.not_true, Bool.not_false, Option.getD_some, Function.comp, List.map_cons, List.map_nil,
  Nat.reduceLT, Nat.reduceAdd, Nat.reduceBEq, Nat.reduceEqDiff, Nat.reduceLeDiff, Int.reduceLT, Int.reduceLE, decide_true, decide_false, beq_self_eq_true, Bool.or_false, Bool.or_true, Bool.true_or, Bool.false_or, Bool.and_true, Bool.true_and, Bool.and_false, Bool.false_and, and_self, Nat.zero_add])
open Lib
def oddL : List Da := [.none, .bool true, .str "7", .tuple [.int 7], .list [.int 7], .dict [], .int (10 ^ 60), .int (7 - 10 ^ 60), .int (-7), .int 2, .int 3, .int 4, .int 1009, .int 961, .int 841]
theorem odd_none : oddL.filter fldA = [] := by decide +kernel
theorem t_judged {k : Nat} {ds : List Da} (h : DiceOk k ds) (hk : k ≤ 1000) : ∃ ds', DiceOk (k + 20) ds' ∧ F__law_judged [.own ds] = some (.dat (.bool true), [.own ds']) := by
  obtain ⟨f, d1, f0, f1, h1, e1⟩ := t_roll (m := 1010) h (by omega) (by decide) (by decide)
  obtain ⟨p, d2, hp, h2, e2⟩ := t_pickI (xs := lawPs) h1 (by omega) (by decide) (by decide)
  have hf := lawPs_fld p hp
  have hp5 := fld_pos hf
  obtain ⟨r, d3, r0, r1, h3, e3⟩ := t_roll (m := 2 * p) h2 (by omega) (by omega) (by omega)
  refine ⟨d3, d_keep h3 (by omega), ?_⟩
  obtain ⟨g', e4, s, rfl⟩ := forL_inv (tg := setN 2) (body := sIf (mCmp dNe (mCall dRepr (mCons (mFn F_is_field (mCons (mName 2) mNil)) mNil)) (mCall dRepr (mCons (mFn F__law_is_prime (mCons (mName 2) mNil)) mNil))) (sRet [0] (mC (.bool false))) sNil) (fun j g => ∃ s, g = [.own d1, .val (.int (f - 8)), s, .un, .un, .un, .un, .un]) (rgD (f - 8) (f - 8 + 12)) 0 _ ⟨.un, rfl⟩ (by
    rintro j g d ⟨s, rfl⟩ hd hj
    obtain ⟨i, rfl, hi, hi2⟩ := mem_rgD.mp hd
    refine ⟨[.own d1, .val (.int (f - 8)), .val (.int i), .un, .un, .un, .un, .un], [.own d1, .val (.int (f - 8)), .val (.int i), .un, .un, .un, .un, .un], rfl, ?_, .val (.int i), rfl⟩
    walk_at "ev"
    rw [t_is_field]
    walk_at "ev"
    rw [t_is_prime]
    walk_at "ev"
    rw [show dNe (PyData.str (if isFld i = true then "True" else "False")) (PyData.str (if isFld i = true then "True" else "False")) = some (.dat (.bool false)) from d_neS (n := 0) (flat_yn (isFld i))]
    walk_at "ev")
  generalize hV : [PyData.int 0, .int (p - 1), .int p, .int (-1), .bool true, .bool false, .none, .str "1", .tuple [.int 1], .list [.int 0], .dict [], .int (10 ^ 60), .int r] = V
  have c1 := compL_map (vs := [2]) (tg := setN 2) (el := mAndV (mIsi "int" (mName 2)) (mAndV (mNotV (mIsi "bool" (mName 2))) (mOfT (mChain dLe dLt (mC (.int 0)) (mName 2) (mName 3))))) (f := fun d => .bool (inRg 0 (p - 1) d)) (g := [.own d3, .val (.int (f - 8)), .un, .val (.int p), .val (.list V), .un, .un, .un]) (ds := V) (by
    intro d hd
    refine ⟨[.own d3, .val (.int (f - 8)), .val d, .val (.int p), .val (.list V), .un, .un, .un], .dat (.bool (inRg 0 (p - 1) d)), [.own d3, .val (.int (f - 8)), .val d, .val (.int p), .val (.list V), .un, .un, .un], [.own d3, .val (.int (f - 8)), .val d, .val (.int p), .val (.list V), .un, .un, .un], rfl, ?_, rfl, rfl⟩
    cases d with
    | int v =>
      unfold inRg
      by_cases hv : 0 ≤ v
      · walk_at "ev"
        rw [decide_eq_true hv]
        walk_at "ev"
        rw [show decide (v < p) = decide (v ≤ p - 1) from decide_eq_decide.mpr (by omega)]
      · walk_at "ev"
        rw [decide_eq_false hv]
        walk_at "ev"
    | _ =>
      unfold inRg
      walk_at "ev")
  have c2 := compL_map (vs := [2]) (tg := setN 2) (el := mCall dRepr (mCons (mFn F_is_number (mCons (mName 3) (mCons (mName 2) mNil))) mNil)) (f := fun d => yn (inRg 0 (p - 1) d)) (g := [.own d3, .val (.int (f - 8)), .un, .val (.int p), .val (.list V), .own (V.map fun d => .bool (inRg 0 (p - 1) d)), .un, .un]) (ds := V) (by
    intro d hd
    refine ⟨[.own d3, .val (.int (f - 8)), .val d, .val (.int p), .val (.list V), .own (V.map fun d => .bool (inRg 0 (p - 1) d)), .un, .un], .dat (yn (inRg 0 (p - 1) d)), [.own d3, .val (.int (f - 8)), .val d, .val (.int p), .val (.list V), .own (V.map fun d => .bool (inRg 0 (p - 1) d)), .un, .un], [.own d3, .val (.int (f - 8)), .val d, .val (.int p), .val (.list V), .own (V.map fun d => .bool (inRg 0 (p - 1) d)), .un, .un], rfl, ?_, rfl, rfl⟩
    walk_at "ev"
    rw [t_is_numberA d hf]
    walk_at "ev"
    rfl)
  have c3 := compL_of (vs := [7]) (tg := setN 7) (el := mCall dRepr (mCons (mName 7) mNil)) (e := fun d => .bool (inRg 0 (p - 1) d)) (F := fun d => yn (inRg 0 (p - 1) d)) (g := [.own d3, .val (.int (f - 8)), s, .val (.int p), .val (.list V), .val (.list (V.map fun d => .bool (inRg 0 (p - 1) d))), .un, .un]) (xs := V) (by
    intro d0 hd
    exact ⟨[.own d3, .val (.int (f - 8)), s, .val (.int p), .val (.list V), .val (.list (V.map fun d => .bool (inRg 0 (p - 1) d))), .un, .val (.bool (inRg 0 (p - 1) d0))], .dat (yn (inRg 0 (p - 1) d0)), _, _, rfl, rfl, rfl, rfl⟩)
  have c4 := compL_filter (vs := [2]) (tg := setN 2) (ts := mCmp (dIs true) (mFn F_is_field (mCons (mName 2) mNil)) (mC (.bool false))) (el := mName 2) (f := id) (q := fldA) (g := [.own d3, .val (.int (f - 8)), .un, .val (.int p), .val (.list V), .val (.list (V.map fun d => .bool (inRg 0 (p - 1) d))), .val (.list oddL), .un]) (ds := oddL) (by
    intro d hd
    refine ⟨[.own d3, .val (.int (f - 8)), .val d, .val (.int p), .val (.list V), .val (.list (V.map fun d => .bool (inRg 0 (p - 1) d))), .val (.list oddL), .un], [.own d3, .val (.int (f - 8)), .val d, .val (.int p), .val (.list V), .val (.list (V.map fun d => .bool (inRg 0 (p - 1) d))), .val (.list oddL), .un], rfl, ?_, fun _ => ⟨.dat d, _, _, rfl, rfl, rfl⟩, fun _ => rfl⟩
    walk_at "ev"
    rw [t_is_fieldA]
    walk_at "ev"
    cases fldA d <;> rfl)
  rw [odd_none] at c4
  have fl : Flat 1 (.list (V.map fun d => yn (inRg 0 (p - 1) d))) := flat_list (n := 0) (by
    intro x hx
    obtain ⟨i, _, rfl⟩ := List.mem_map.mp hx
    exact flat_yn _)
  have hVl : V.length = 13 := by rw [← hV]; rfl
  unfold F__law_judged m__law_judged
  walk_at "ev"
  rw [e1]
  walk_at "ev"
  rw [okRg' (by omega) (by omega), okRg' (by omega) (by omega)]
  walk_at "ev"
  rw [e4]
  walk_at "ev"
  rw [t_primes']
  walk_at "ev"
  rw [e2]
  walk_at "ev"
  rw [if_pos (show 1 ≤ sizeLine by decide)]
  walk_at "ev"
  rw [if_pos (show 1 ≤ sizeLine by decide)]
  walk_at "ev"
  rw [pow1060]
  walk_at "ev"
  rw [d_mul _ _ (by decide) (big (show 0 ≤ p by omega) (by omega))]
  walk_at "ev"
  rw [e3]
  walk_at "ev"
  rw [if_pos (show 13 ≤ sizeLine by decide), hV]
  walk_at "ev"
  rw [if_pos (show V.length < sizeLine by rw [hVl]; decide)]
  simp only [wipeG, List.set_cons_zero, List.set_cons_succ]
  rw [c1]
  try simp only [Option.bind_some, restore, List.getElem?_cons_zero, List.getElem?_cons_succ, List.set_cons_zero, List.set_cons_succ]
  walk_at "ev"
  rw [if_pos (show V.length < sizeLine by rw [hVl]; decide), c2]
  walk_at "ev"
  rw [if_pos (show (V.map fun d => PyData.bool (inRg 0 (p - 1) d)).length < sizeLine by rw [List.length_map, hVl]; decide), c3]
  walk_at "ev"
  rw [d_neS fl]
  walk_at "ev"
  rw [if_pos (show 1 ≤ sizeLine by decide)]
  walk_at "ev"
  rw [if_pos (show 1 ≤ sizeLine by decide)]
  walk_at "ev"
  rw [if_pos (show 15 ≤ sizeLine by decide)]
  walk_at "ev"
  rw [show [PyData.none, PyData.bool true, PyData.str (Str.ofString "7"), PyData.tuple [PyData.int 7], PyData.list [PyData.int 7], PyData.dict [], PyData.int (10 ^ 60), PyData.int (7 - 10 ^ 60), PyData.int (-7), PyData.int 2, PyData.int 3, PyData.int 4, PyData.int 1009, PyData.int 961, PyData.int 841] = oddL from rfl]
  rw [if_pos (show 15 < sizeLine by decide)]
  walk_at "ev"
  rw [c4]
  walk_at "ev"
  rw [if_pos (show 0 ≤ sizeLine by decide)]
  walk_at "ev"
  rw [d_eqNil (n := 1) (flat_list (n := 0) (xs := []) fun x hx => by cases hx)]
  walk_at "ev"
  rfl
end K00
end
section
set_option Elab.async false
set_option linter.all false
set_option maxRecDepth 100000
set_option maxHeartbeats 4000000
set_option exponentiation.threshold 3000
namespace K00
open PySem PySem.Spec PyProof.Rows L2 EV
local macro_rules | `(tactic| walk_at "ev") => `(tactic| try simp only [e_bodyM, e_seq, e_nil, e_if, e_set, e_ret, e_drop, e_par, e_asg, e_for, e_app, e_setix, e_aug, e_name, e_c, e_anil, e_acons, e_bin, e_cmp, e_brk, e_cnt, e_retn, e_ix, e_call, e_fn, e_fn0, e_fnD, e_ifx, e_oft, e_tru, e_not, e_and, e_or, e_andv, e_orv, e_notv, e_neg, e_isi, e_chain, e_lst, e_tup, e_it, e_rg1, e_rg2, e_zip, e_enum, e_revi, e_rev, e_o0, e_o1, e_sl, e_dict0, e_yes, e_comp, e_pop, e_asB, e_toDd, e_toDf, e_toDs, e_lkd, e_lkf, e_lks, e_lan, e_lac, e_tdn, e_tdc, e_tsn, e_tsd, e_tsf, e_tss, e_snd, e_snf, e_snn, e_snc, e_sod, e_sof, e_st, e_fln, e_keep, e_itl, e_itt, e_rr1, e_rr2, e_tupRg, e_lstRg, e_revR, e_popAt, e_ext, e_tupRev, e_repL, e_lenSet, e_enumA, e_zipA, e_zip3, d_addT, flat1,
  d_add, d_sub, d_lt, d_le, d_gt, d_ge, d_eq, d_ne, d_ixl, d_ixt, d_lenl, d_lent, d_inti, d_intb, d_abs, d_max2, d_min2, d_tupl, d_tupt, d_lsl, d_lst, d_rb, t_b, t_i, t_l, t_t, is_nb, is_bb, k_ii, k_ib, k_bi, k_bb, k_ni, k_si, k_ti, k_li, k_di, k_tt, isNone, isBl,
  Option.bind_some, Option.bind_none, Option.map_some, Option.map_none, List.append_nil, List.cons_append, List.nil_append, List.replicate, List.getElem?_cons_zero, List.getElem?_cons_succ, List.getElem?_nil, List.set_cons_zero, List.set_cons_succ, List.length_cons, List.length_nil, List.mapIdx_cons, List.mapIdx_nil, List.contains_nil, List.contains_cons, Bool.false_eq_true, if_true, if_false, reduceIte, Bool.not_true, Bool.not_false, Option.getD_some, Function.comp, List.map_cons, List.map_nil,
  Nat.reduceLT, Nat.reduceAdd, Nat.reduceBEq, Nat.reduceEqDiff, Nat.reduceLeDiff, Int.reduceLT, Int.reduceLE, decide_true, decide_false, beq_self_eq_true, Bool.or_false, Bool.or_true, Bool.true_or, Bool.false_or, Bool.and_true, Bool.true_and, Bool.and_false, Bool.false_and, and_self, Nat.zero_add])
open Lib
theorem law_true (ns : List Int) (hl : ns.length ≤ 63) (hb : ∀ z ∈ ns, PySem.Builtin.Int.intBits z ≤ 1048576) : ∃ g', F_law [.val (.list (ns.map PyData.int))] = some (.dat (.bool true), g') := by
  generalize hM : (if (if (ns.length : Int) < 4 then (ns.length : Int) else 4) > 1 then (if (ns.length : Int) < 4 then (ns.length : Int) else 4) else 1) = M
  have m0 : 1 ≤ M ∧ M ≤ 4 := by
    rw [← hM]
    split <;> split <;> omega
  obtain ⟨g', e4, s, s2, rfl⟩ := forL_inv (tg := setN 1) (body := (sSeq (sSet 2 (mFn F__law_dice (mCons (mName 0) (mCons (mName 1) mNil))))
    (sIf (mOr (mNot (mTru (mFnD F__law_right (mCons (mName 2) mNil)))) (mOr (mNot (mTru (mFnD F__law_right (mCons (mName 2) mNil)))) (mNot (mTru (mFnD F__law_judged (mCons (mName 2) mNil)))))) (sRet [] (mC (.bool false))) sNil))) (fun j g => ∃ s s2, g = [.val (.list (ns.map PyData.int)), s, s2, .un]) (rgD 0 M) 0 _ ⟨.un, .un, rfl⟩ (by
    rintro j g d ⟨s, s2, rfl⟩ hd hj
    obtain ⟨i, rfl, hi, hi2⟩ := mem_rgD.mp hd
    obtain ⟨n, rfl⟩ : ∃ n : Nat, i = n := ⟨i.toNat, by omega⟩
    obtain ⟨d0, h0, e0⟩ := t_dice (ns := ns) (s := n) (by omega)
    obtain ⟨d1, h1, e1⟩ := t_right h0 (by decide)
    obtain ⟨d2, h2, e2⟩ := t_right h1 (by decide)
    obtain ⟨d3, h3, e3⟩ := t_judged h2 (by decide)
    refine ⟨[.val (.list (ns.map PyData.int)), .val (.int n), s2, .un], [.val (.list (ns.map PyData.int)), .val (.int n), .own d3, .un], rfl, ?_, _, _, rfl⟩
    walk_at "ev"
    rw [e0]
    walk_at "ev"
    rw [e1]
    walk_at "ev"
    rw [e2]
    walk_at "ev"
    rw [e3]
    walk_at "ev")
  have f7 : isFld 7 = true := by decide +kernel
  have f997 : isFld 997 = true := by decide +kernel
  have u1 : F_undone [.val (.int 7), .val (.int 3)] = some (.dat (.int 5), [.val (.int 7), .val (.int 3)]) := by
    rw [t_undone f7 (by decide) (by decide), show (3 : Int) ^ ((7 : Int) - 2).toNat % 7 = 5 by decide +kernel]
  have u2 : F_power [.val (.int 7), .val (.int 3), .val (.int 5)] = some (.dat (.int 5), [.val (.int 7), .val (.int 3), .val (.int 5)]) := by
    rw [t_power f7 (by decide) (by decide) (by decide) (by decide), show (3 : Int) ^ (5 : Int).toNat % 7 = 5 by decide +kernel]
  have u3 : F_power [.val (.int 7), .val (.int 0), .val (.int 0)] = some (.dat (.int 1), [.val (.int 7), .val (.int 0), .val (.int 0)]) := by
    rw [t_power f7 (by decide) (by decide) (by decide) (by decide), show (0 : Int) ^ (0 : Int).toNat % 7 = 1 by decide +kernel]
  have u4 : F_power [.val (.int 7), .val (.int 0), .val (.int 9)] = some (.dat (.int 0), [.val (.int 7), .val (.int 0), .val (.int 9)]) := by
    rw [t_power f7 (by decide) (by decide) (by decide) (by decide), show (0 : Int) ^ (9 : Int).toNat % 7 = 0 by decide +kernel]
  have u5 : F_power_sum [.val (.int 7), .val (.int 6)] = some (.dat (.int 6), [.val (.int 7), .val (.int 6)]) := by
    rw [t_power_sum f7 (by decide) (by decide), show pSum 7 6 = 6 by decide +kernel]
  have u6 : F_power_sum [.val (.int 7), .val (.int 4)] = some (.dat (.int 0), [.val (.int 7), .val (.int 4)]) := by
    rw [t_power_sum f7 (by decide) (by decide), show pSum 7 4 = 0 by decide +kernel]
  have u7 : F_power_sum [.val (.int 7), .val (.int 0)] = some (.dat (.int 0), [.val (.int 7), .val (.int 0)]) := by
    rw [t_power_sum f7 (by decide) (by decide), show pSum 7 0 = 0 by decide +kernel]
  have u8 : F_power_sum [.val (.int 997), .val (.int 1000000)] = some (.dat (.int 0), [.val (.int 997), .val (.int 1000000)]) := by
    rw [t_power_sum f997 (by decide) (by decide), show pSum 997 1000000 = 0 by decide +kernel]
  have u9 : F_power_sum [.val (.int 997), .val (.int (996 * 1004))] = some (.dat (.int 996), [.val (.int 997), .val (.int (996 * 1004))]) := by
    rw [t_power_sum f997 (by decide) (by decide), show pSum 997 (996 * 1004) = 996 by decide +kernel]
  have fa : ∀ x ∈ [PyData.bool true, .bool true, .bool false, .int 5, .int 5, .int 1, .int 0, .int 6], Flat 0 x := by
    intro x hx
    simp only [List.mem_cons, List.not_mem_nil, or_false] at hx
    rcases hx with rfl | rfl | rfl | rfl | rfl | rfl | rfl | rfl <;> first | exact flat_int _ | exact flat_bool _
  have fb : ∀ x ∈ [PyData.int 0, .int 0, .int 0], Flat 0 x := flat_ints [0, 0, 0]
  have fc : ∀ x ∈ [PyData.int 5, .int 997, .int 1000000, .int 60], Flat 0 x := flat_ints [5, 997, 1000000, 60]
  refine ⟨[.val (.list (ns.map PyData.int))], ?_⟩
  unfold F_law m_law
  walk_at "ev"
  rw [List.length_map, hM, okRg' (by omega) (by omega)]
  walk_at "ev"
  rw [e4]
  walk_at "ev"
  rw [t_is_field, f997]
  walk_at "ev"
  rw [t_is_field, show isFld 5 = true by decide +kernel]
  walk_at "ev"
  rw [t_is_field, show isFld 3 = false by decide +kernel]
  walk_at "ev"
  rw [u1]
  walk_at "ev"
  rw [u2]
  walk_at "ev"
  rw [u3]
  walk_at "ev"
  rw [u4]
  walk_at "ev"
  rw [u5]
  walk_at "ev"
  rw [if_pos (show 8 ≤ sizeLine by decide)]
  walk_at "ev"
  try rw [if_pos (show 8 ≤ sizeLine by decide)]
  try walk_at "ev"
  rw [d_neS (flat_list fa)]
  walk_at "ev"
  rw [u6]
  walk_at "ev"
  rw [u7]
  walk_at "ev"
  rw [pow106]
  walk_at "ev"
  rw [u8]
  walk_at "ev"
  rw [if_pos (show 3 ≤ sizeLine by decide)]
  walk_at "ev"
  try rw [if_pos (show 3 ≤ sizeLine by decide)]
  try walk_at "ev"
  rw [d_neS (flat_list fb)]
  walk_at "ev"
  rw [if_pos (show 4 ≤ sizeLine by decide)]
  walk_at "ev"
  rw [if_pos (show 4 ≤ sizeLine by decide)]
  walk_at "ev"
  rw [d_eqS (flat_list fc)]
  walk_at "ev"
  rw [d_mul _ _ (by decide) (by decide)]
  walk_at "ev"
  rw [u9]
  walk_at "ev"
end K00
end
open PySem PySem.W PyProof.Rows
set_option maxHeartbeats 0 in
theorem PySem.Challenge.cw_evencoins_k00_whole_numbers_of_a_field_holds : PySem.Challenge.rw_evencoins_k00_whole_numbers_of_a_field.Holds := by
  w_on; o_law; k_head; (case hw => w_witness2)
  k_fill
  refine L2.walk_ofB (l := PySem.Challenge.rw_evencoins_k00_whole_numbers_of_a_field) (n := 63) (k := 7) (x := "script") (CX := fun _ => L2.CX0) (sp := fun w => EV.spM _ 1 [] K00.F_law) rfl (by decide) rfl ⟨rfl, by decide, by decide⟩ (fun w h Y => PySem.W.kIn_of Y) ?F (fun w H a ns hl hb hO hS => EV.law_sp hS (K00.law_true ns hl hb)) (fun _ _ _ _ _ h => h)
  case F =>
    intro w mg fa h KX G hmg
    refine' K00.all_mk KX G hmg ?a_is_integer ?l_is_integer ?c_is_integer ?k_is_integer ?a_is_field ?l_is_field ?c_is_field ?k_is_field ?a_check_field ?l_check_field ?c_check_field ?k_check_field ?a_is_number ?l_is_number ?c_is_number ?k_is_number ?a_check_integer ?l_check_integer ?c_check_integer ?k_check_integer ?a_check_number ?l_check_number ?c_check_number ?k_check_number ?a_check_pair ?l_check_pair ?c_check_pair ?k_check_pair ?a_plus ?l_plus ?c_plus ?k_plus ?a_minus ?l_minus ?c_minus ?k_minus ?a_times ?l_times ?c_times ?k_times ?a_raised ?l_raised ?c_raised ?k_raised ?a_inverse ?l_inverse ?c_inverse ?k_inverse ?a_undone ?l_undone ?c_undone ?k_undone ?a_power ?l_power ?c_power ?k_power ?a_power_sum ?l_power_sum ?c_power_sum ?k_power_sum ?a__law_dice ?l__law_dice ?c__law_dice ?k__law_dice ?a__law_roll ?l__law_roll ?c__law_roll ?k__law_roll ?a__law_pick ?l__law_pick ?c__law_pick ?k__law_pick ?a__law_fd_primes ?l__law_fd_primes ?c__law_fd_primes ?k__law_fd_primes ?a__law_fd_undone ?l__law_fd_undone ?c__law_fd_undone ?k__law_fd_undone ?a__law_is_prime ?l__law_is_prime ?c__law_is_prime ?k__law_is_prime ?a__law_powers ?l__law_powers ?c__law_powers ?k__law_powers ?a__law_great_power ?l__law_great_power ?c__law_great_power ?k__law_great_power ?a__law_right ?l__law_right ?c__law_right ?k__law_right ?a__law_judged ?l__law_judged ?c__law_judged ?k__law_judged ?a_law ?l_law ?c_law ?k_law ?z_abs ?z_bool ?z_int ?z_isinstance ?z_len ?z_max ?z_min ?z_range ?z_repr ?z_sum ?q_LEAST_FIELD ?q_MAX_FIELD ?q_MAX_POWER ?q_MAX_SIDE ?q_SMALL_PRIMES ?r_SMALL_PRIMES
    (case a_is_integer => k_is)
    (case l_is_integer => k_is)
    (case c_is_integer => k_is)
    (case k_is_integer => k_is)
    (case a_is_field => k_is)
    (case l_is_field => k_is)
    (case c_is_field => k_is)
    (case k_is_field => k_is)
    (case a_check_field => k_is)
    (case l_check_field => k_is)
    (case c_check_field => k_is)
    (case k_check_field => k_is)
    (case a_is_number => k_is)
    (case l_is_number => k_is)
    (case c_is_number => k_is)
    (case k_is_number => k_is)
    (case a_check_integer => k_is)
    (case l_check_integer => k_is)
    (case c_check_integer => k_is)
    (case k_check_integer => k_is)
    (case a_check_number => k_is)
    (case l_check_number => k_is)
    (case c_check_number => k_is)
    (case k_check_number => k_is)
    (case a_check_pair => k_is)
    (case l_check_pair => k_is)
    (case c_check_pair => k_is)
    (case k_check_pair => k_is)
    (case a_plus => k_is)
    (case l_plus => k_is)
    (case c_plus => k_is)
    (case k_plus => k_is)
    (case a_minus => k_is)
    (case l_minus => k_is)
    (case c_minus => k_is)
    (case k_minus => k_is)
    (case a_times => k_is)
    (case l_times => k_is)
    (case c_times => k_is)
    (case k_times => k_is)
    (case a_raised => k_is)
    (case l_raised => k_is)
    (case c_raised => k_is)
    (case k_raised => k_is)
    (case a_inverse => k_is)
    (case l_inverse => k_is)
    (case c_inverse => k_is)
    (case k_inverse => k_is)
    (case a_undone => k_is)
    (case l_undone => k_is)
    (case c_undone => k_is)
    (case k_undone => k_is)
    (case a_power => k_is)
    (case l_power => k_is)
    (case c_power => k_is)
    (case k_power => k_is)
    (case a_power_sum => k_is)
    (case l_power_sum => k_is)
    (case c_power_sum => k_is)
    (case k_power_sum => k_is)
    (case a__law_dice => k_is)
    (case l__law_dice => k_is)
    (case c__law_dice => k_is)
    (case k__law_dice => k_is)
    (case a__law_roll => k_is)
    (case l__law_roll => k_is)
    (case c__law_roll => k_is)
    (case k__law_roll => k_is)
    (case a__law_pick => k_is)
    (case l__law_pick => k_is)
    (case c__law_pick => k_is)
    (case k__law_pick => k_is)
    (case a__law_fd_primes => k_is)
    (case l__law_fd_primes => k_is)
    (case c__law_fd_primes => k_is)
    (case k__law_fd_primes => k_is)
    (case a__law_fd_undone => k_is)
    (case l__law_fd_undone => k_is)
    (case c__law_fd_undone => k_is)
    (case k__law_fd_undone => k_is)
    (case a__law_is_prime => k_is)
    (case l__law_is_prime => k_is)
    (case c__law_is_prime => k_is)
    (case k__law_is_prime => k_is)
    (case a__law_powers => k_is)
    (case l__law_powers => k_is)
    (case c__law_powers => k_is)
    (case k__law_powers => k_is)
    (case a__law_great_power => k_is)
    (case l__law_great_power => k_is)
    (case c__law_great_power => k_is)
    (case k__law_great_power => k_is)
    (case a__law_right => k_is)
    (case l__law_right => k_is)
    (case c__law_right => k_is)
    (case k__law_right => k_is)
    (case a__law_judged => k_is)
    (case l__law_judged => k_is)
    (case c__law_judged => k_is)
    (case k__law_judged => k_is)
    (case a_law => k_is)
    (case l_law => k_is)
    (case c_law => k_is)
    (case k_law => k_is)
    (case z_abs => k_is)
    (case z_bool => k_is)
    (case z_int => k_is)
    (case z_isinstance => k_is)
    (case z_len => k_is)
    (case z_max => k_is)
    (case z_min => k_is)
    (case z_range => k_is)
    (case z_repr => k_is)
    (case z_sum => k_is)
    (case q_LEAST_FIELD => k_is)
    (case q_MAX_FIELD => k_is)
    (case q_MAX_POWER => k_is)
    (case q_MAX_SIDE => k_is)
    (case q_SMALL_PRIMES => k_is)
    (case r_SMALL_PRIMES => k_is)
