import PyProof.Rows.All
import Wide.All
import OpenK.AllK
import Wide.FinOn
import HandS.ForMost
import HandS.Wide
import HandS.Zip
import HandS.Rev
import HandS.IsInst
import HandS.Walk
import HandS.TupAny
import HandS.Conv
import HandS.EndBits
import HandS.RaiseMore
import HandS.Flow
import HandS.Evl
import HandS.Style
import HandS.TupMul
import HandS.TupLe
import HandS.RevRange
import HandS.SortInts
import HandS.SetFor
import HandS.Strs
import KE.GoesMore
import KE.GoesEnum
import KE.GoesZip
import KE.KItemsList
import PyProof.ListNew
import HandS.List
import HandS.NamedTupSort
import KE.KSortTup
import PyProof.ListOps
import PyProof.Rows.SeqMore
import PySem.Challenge.RW_evencoins_k03_whole_polys_added_multipli
set_option Elab.async false
set_option linter.all false
set_option maxRecDepth 100000
set_option maxHeartbeats 4000000
section
set_option Elab.async false
set_option linter.all false
set_option maxRecDepth 100000
set_option maxHeartbeats 2000000
set_option autoImplicit false
/-! EV: a mirror of plain functions over data, with its soundness over the hand layer's readings. -/
namespace EV
open PySem PySem.Spec PyProof.Rows L2
abbrev Da := PyData
abbrev Frag := PySem.W.Frag
/-! ### data that stands in a heap -/
mutual
inductive Rep (K : Frag) (H : Hp) : V → PyData → Prop
  | non : Rep K H .non .none
  | bl (b : Bool) : Rep K H (.bl b) (.bool b)
  | int (i : Int) : Rep K H (.int i) (.int i)
  | str (x : Str) : Rep K H (.str x) (.str x)
  | lst {a : Addr} {xs : List V} {ds : List PyData} : SqL K H a xs → RepAll K H xs ds → Rep K H (.ref a) (.list ds)
  | tup {a : Addr} {xs : List V} {ds : List PyData} : SqT K H a xs → RepAll K H xs ds → Rep K H (.ref a) (.tuple ds)
  | dk0 {a : Addr} : H a = some (.dK []) → Rep K H (.ref a) (.dict [])
inductive RepAll (K : Frag) (H : Hp) : List V → List PyData → Prop
  | nil : RepAll K H [] []
  | cons {v : V} {vs : List V} {d : PyData} {ds : List PyData} : Rep K H v d → RepAll K H vs ds → RepAll K H (v :: vs) (d :: ds)
end
section
variable {K : Frag} {H H' : Hp}
mutual
theorem Rep.mono (e : Evl.Ex H H') : ∀ {v : V} {d : PyData}, Rep K H v d → Rep K H' v d
  | _, _, .non => .non
  | _, _, .bl b => .bl b
  | _, _, .int i => .int i
  | _, _, .str x => .str x
  | _, _, .lst h r => .lst (Evl.ex_l e h) (RepAll.mono e r)
  | _, _, .tup h r => .tup (Evl.ex_t e h) (RepAll.mono e r)
  | _, _, .dk0 h => .dk0 (e _ _ h)
theorem RepAll.mono (e : Evl.Ex H H') : ∀ {vs : List V} {ds : List PyData}, RepAll K H vs ds → RepAll K H' vs ds
  | _, _, .nil => .nil
  | _, _, .cons a b => .cons (Rep.mono e a) (RepAll.mono e b)
end
theorem RepAll.length : ∀ {vs : List V} {ds : List PyData}, RepAll K H vs ds → vs.length = ds.length
  | _, _, .nil => rfl
  | _, _, .cons _ b => by rw [List.length_cons, List.length_cons, RepAll.length b]
theorem RepAll.append : ∀ {vs ws : List V} {ds es : List PyData}, RepAll K H vs ds → RepAll K H ws es → RepAll K H (vs ++ ws) (ds ++ es)
  | _, _, _, _, .nil, h => h
  | _, _, _, _, .cons a b, h => .cons a (RepAll.append b h)
theorem RepAll.get : ∀ {vs : List V} {ds : List PyData} {i : Nat} {d : PyData}, RepAll K H vs ds → ds[i]? = some d → ∃ v, vs[i]? = some v ∧ Rep K H v d
  | _, _, _, _, .nil, e => by simp at e
  | _, _, 0, _, .cons a _, e => by simp at e; subst e; exact ⟨_, rfl, a⟩
  | _, _, i + 1, d, .cons _ b, e => by
    obtain ⟨v, h1, h2⟩ := RepAll.get (i := i) (d := d) b (by simpa using e)
    exact ⟨v, by simpa using h1, h2⟩
theorem RepAll.set : ∀ {vs : List V} {ds : List PyData} {v : V} {d : PyData} (i : Nat), RepAll K H vs ds → Rep K H v d → RepAll K H (vs.set i v) (ds.set i d)
  | _, _, _, _, _, .nil, _ => .nil
  | _, _, _, _, 0, .cons _ b, r => .cons r b
  | _, _, _, _, i + 1, .cons a b, r => .cons a (RepAll.set i b r)
theorem RepAll.take : ∀ {vs : List V} {ds : List PyData} (n : Nat), RepAll K H vs ds → RepAll K H (vs.take n) (ds.take n)
  | _, _, 0, _ => .nil
  | _, _, _ + 1, .nil => .nil
  | _, _, n + 1, .cons a b => .cons a (RepAll.take n b)
theorem RepAll.drop : ∀ {vs : List V} {ds : List PyData} (n : Nat), RepAll K H vs ds → RepAll K H (vs.drop n) (ds.drop n)
  | _, _, 0, r => r
  | _, _, _ + 1, .nil => .nil
  | _, _, n + 1, .cons _ b => RepAll.drop n b
theorem RepAll.dropLast {vs : List V} {ds : List PyData} (r : RepAll K H vs ds) : RepAll K H vs.dropLast ds.dropLast := by
  rw [List.dropLast_eq_take, List.dropLast_eq_take, r.length]
  exact r.take _
theorem RepAll.reverse : ∀ {vs : List V} {ds : List PyData}, RepAll K H vs ds → RepAll K H vs.reverse ds.reverse
  | _, _, .nil => .nil
  | _, _, .cons a b => by
    rw [List.reverse_cons, List.reverse_cons]
    exact RepAll.append (RepAll.reverse b) (.cons a .nil)
theorem RepAll.ints : ∀ {vs : List V} {ns : List Int}, RepAll K H vs (ns.map PyData.int) → vs = ns.map V.int
  | _, [], .nil => rfl
  | _, _ :: _, .cons (.int _) b => by rw [List.map_cons, RepAll.ints b]
theorem RepAll.of_ints : ∀ (ns : List Int), RepAll K H (ns.map V.int) (ns.map PyData.int)
  | [] => .nil
  | n :: ns => .cons (.int n) (RepAll.of_ints ns)
mutual
def noDict : PyData → Bool
  | .dict _ => false
  | .list xs => noDictAll xs
  | .tuple xs => noDictAll xs
  | _ => true
def noDictAll : List PyData → Bool
  | [] => true
  | d :: ds => noDict d && noDictAll ds
end
mutual
theorem Rep.dp : ∀ {v : V} {d : PyData}, Rep K H v d → noDict d = true → Dp K H v d
  | _, _, .non, _ => .non
  | _, _, .bl b, _ => .bl b
  | _, _, .int i, _ => .int i
  | _, _, .str x, _ => .str x
  | _, _, .lst h r, n => .lst h (RepAll.dp r (by simpa [noDict] using n))
  | _, _, .tup h r, n => .tup h (RepAll.dp r (by simpa [noDict] using n))
  | _, _, .dk0 h, n => by simp [noDict] at n
theorem RepAll.dp : ∀ {vs : List V} {ds : List PyData}, RepAll K H vs ds → noDictAll ds = true → DpAll K H vs ds
  | _, _, .nil, _ => .nil
  | _, _, .cons a b, n => by
    simp only [noDictAll, Bool.and_eq_true] at n
    exact .cons (Rep.dp a n.1) (RepAll.dp b n.2)
end
end
/-! ### slots, values on the way -/
inductive Sl where
  | un | val (d : Da) | own (ds : List Da) | raw (v : V)
inductive Wv where
  | dat (d : Da) | fresh (ds : List Da) | slot (i : Nat) | raw (v : V)
abbrev Gh := List Sl
def SlotOk (K : Frag) (Hf H : Hp) (s : Sl) (v : V) : Prop :=
  match s with
  | .un => True
  | .val d => Rep K Hf v d
  | .own ds => ∃ p vs, v = .ref p ∧ Hf p = none ∧ H p = some (.lst vs) ∧ RepAll K Hf vs ds
  | .raw w => v = w
def Own (g : Gh) (σ : L2.St) (p : Addr) : Prop := ∃ (i : Nat) (ds : List Da), g[i]? = some (.own ds) ∧ σ[i]? = some (some (.ref p))
structure En (K : Frag) (pr : List Nat) (B : Addr → Prop) (Hf H : Hp) (g : Gh) (σ : L2.St) : Prop where
  ex : Evl.Ex Hf H
  len : g.length = σ.length
  ok : ∀ (i : Nat) (s : Sl), g[i]? = some s → s ≠ .un → ∃ v, σ[i]? = some (some v) ∧ SlotOk K Hf H s v
  dis : ∀ (i j : Nat) (ds es : List Da) (p : Addr), g[i]? = some (.own ds) → g[j]? = some (.own es) → σ[i]? = some (some (.ref p)) → σ[j]? = some (some (.ref p)) → i = j
  nb : ∀ p, H p = none → B p
  ob : ∀ (i : Nat) (ds : List Da) (p : Addr), g[i]? = some (.own ds) → σ[i]? = some (some (.ref p)) → i ∈ pr ∨ B p
structure Tr (O : Addr → Prop) (Hf H Hf' H' : Hp) : Prop where
  ex : Evl.Ex Hf Hf'
  keep : ∀ p o, H p = some o → ¬ O p → H' p = some o ∧ Hf' p = Hf p
  stay : ∀ p, H' p = none → H p = none
/-- a value on the way, as it stands -/
def WOk (K : Frag) (B : Addr → Prop) (Hf H : Hp) (g : Gh) (σ : L2.St) (w : Wv) (v : V) : Prop :=
  match w with
  | .dat d => Rep K Hf v d
  | .fresh ds => ∃ p vs, v = .ref p ∧ B p ∧ Hf p = none ∧ H p = some (.lst vs) ∧ RepAll K Hf vs ds ∧ ¬ Own g σ p
  | .slot i => σ[i]? = some (some v)
  | .raw x => v = x
section
variable {K : Frag} {pr : List Nat} {B : Addr → Prop} {Hf H Hf' H' Hf1 H1 Hf2 H2 : Hp} {g g' g1 g2 : Gh} {σ σ' : L2.St} {O O1 : Addr → Prop} {v : V} {w : Wv} {d : Da}
theorem upd_none {H : Hp} {p q : Addr} {o : HO} (h : upd H p o q = none) : H q = none := by
  by_cases e : q = p
  · subst e; rw [upd_same] at h; cases h
  · rw [upd_ne e] at h; exact h
theorem Tr.refl : Tr O Hf H Hf H := ⟨Evl.Ex.refl Hf, fun _ _ h _ => ⟨h, rfl⟩, fun _ h => h⟩
theorem Tr.trans (a : Tr O Hf H Hf1 H1) (b : Tr O1 Hf1 H1 Hf2 H2) (s : ∀ p, O1 p → O p ∨ H p = none) : Tr O Hf H Hf2 H2 :=
  ⟨a.ex.trans b.ex, fun p o h n => by
    obtain ⟨h1, e1⟩ := a.keep p o h n
    obtain ⟨h2, e2⟩ := b.keep p o h1 fun z => by
      rcases s p z with z | z
      · exact n z
      · rw [h] at z; cases z
    exact ⟨h2, e2.trans e1⟩, fun p h => a.stay p (b.stay p h)⟩
theorem Tr.trans' (a : Tr O Hf H Hf1 H1) (b : Tr O1 Hf1 H1 Hf2 H2) (s : ∀ p, O1 p → O p) : Tr O Hf H Hf2 H2 := a.trans b fun p h => .inl (s p h)
theorem Tr.wide (a : Tr O Hf H Hf1 H1) (s : ∀ p, O p → O1 p) : Tr O1 Hf H Hf1 H1 := ⟨a.ex, fun p o h n => a.keep p o h fun z => n (s p z), a.stay⟩
theorem En.frz (E : En K pr B Hf H g σ) {p : Addr} (h : H p = none) : Hf p = none := Evl.fresh_back E.ex h
theorem En.own_some (E : En K pr B Hf H g σ) {p : Addr} (h : Own g σ p) : ∃ vs ds, H p = some (.lst vs) ∧ Hf p = none ∧ RepAll K Hf vs ds := by
  obtain ⟨i, ds, e1, e2⟩ := h
  obtain ⟨v, e3, q, vs, rfl, h1, h2, h3⟩ := E.ok i _ e1 (by simp)
  rw [e2] at e3
  cases e3
  exact ⟨vs, ds, h2, h1, h3⟩
theorem En.own_none (E : En K pr B Hf H g σ) {p : Addr} (h : H p = none) : ¬ Own g σ p := fun z => by
  obtain ⟨vs, ds, h1, _⟩ := E.own_some z
  rw [h] at h1; cases h1
/-- a new object, frozen at once -/
theorem En.new (E : En K pr B Hf H g σ) {p : Addr} {o : HO} (h : H p = none) : En K pr B (upd Hf p o) (upd H p o) g σ where
  ex := fun a u e => by
    by_cases q : a = p
    · subst q; rw [upd_same] at e ⊢; exact e
    · rw [upd_ne q] at e ⊢; exact E.ex a u e
  len := E.len
  ok := fun i s e n => by
    obtain ⟨v, e1, s1⟩ := E.ok i s e n
    refine ⟨v, e1, ?_⟩
    have ex : Evl.Ex Hf (upd Hf p o) := Evl.Ex.new (E.frz h)
    cases s with
    | un => trivial
    | val d => exact Rep.mono ex s1
    | own ds =>
      obtain ⟨q, vs, rfl, h1, h2, h3⟩ := s1
      have ne : q ≠ p := ne_of_none h2 h
      exact ⟨q, vs, rfl, by rw [upd_ne ne]; exact h1, by rw [upd_ne ne]; exact h2, h3.mono ex⟩
    | raw w => exact s1
  dis := E.dis
  nb := fun q hq => by
    by_cases e : q = p
    · subst e; rw [upd_same] at hq; cases hq
    · rw [upd_ne e] at hq; exact E.nb q hq
  ob := E.ob
theorem Tr.new {p : Addr} {o : HO} (hf : Hf p = none) (h : H p = none) : Tr O Hf H (upd Hf p o) (upd H p o) :=
  ⟨Evl.Ex.new hf, fun q u e _ => by
    have ne : q ≠ p := ne_of_none e h
    exact ⟨by rw [upd_ne ne]; exact e, upd_ne ne⟩, fun q hq => upd_none hq⟩
/-- a new object that is not frozen -/
theorem En.mut (E : En K pr B Hf H g σ) {p : Addr} {o : HO} (h : H p = none) : En K pr B Hf (upd H p o) g σ where
  ex := Evl.Ex.mut E.ex (E.frz h)
  len := E.len
  ok := fun i s e n => by
    obtain ⟨v, e1, s1⟩ := E.ok i s e n
    refine ⟨v, e1, ?_⟩
    cases s with
    | un => trivial
    | val d => exact s1
    | own ds =>
      obtain ⟨q, vs, rfl, h1, h2, h3⟩ := s1
      exact ⟨q, vs, rfl, h1, by rw [upd_ne (ne_of_none h2 h)]; exact h2, h3⟩
    | raw w => exact s1
  dis := E.dis
  nb := fun q hq => by
    by_cases e : q = p
    · subst e; rw [upd_same] at hq; cases hq
    · rw [upd_ne e] at hq; exact E.nb q hq
  ob := E.ob
theorem Tr.mut {p : Addr} {o : HO} (h : H p = none) : Tr O Hf H Hf (upd H p o) :=
  ⟨Evl.Ex.refl _, fun q u e _ => ⟨by rw [upd_ne (ne_of_none e h)]; exact e, rfl⟩, fun q hq => upd_none hq⟩
/-- an object that no slot owns and that is not frozen, changed -/
theorem En.put (E : En K pr B Hf H g σ) {p : Addr} {o : HO} (hf : Hf p = none) (n : ¬ Own g σ p) : En K pr B Hf (upd H p o) g σ where
  ex := Evl.Ex.mut E.ex hf
  len := E.len
  ok := fun i s e m => by
    obtain ⟨v, e1, s1⟩ := E.ok i s e m
    refine ⟨v, e1, ?_⟩
    cases s with
    | un => trivial
    | val d => exact s1
    | own ds =>
      obtain ⟨q, vs, rfl, h1, h2, h3⟩ := s1
      have ne : q ≠ p := fun z => by subst z; exact n ⟨i, ds, e, e1⟩
      exact ⟨q, vs, rfl, h1, by rw [upd_ne ne]; exact h2, h3⟩
    | raw w => exact s1
  dis := E.dis
  nb := fun q hq => by
    by_cases e : q = p
    · subst e; rw [upd_same] at hq; cases hq
    · rw [upd_ne e] at hq; exact E.nb q hq
  ob := E.ob
/-- such an object is frozen as it stands -/
theorem En.freeze (E : En K pr B Hf H g σ) {p : Addr} {o : HO} (h : H p = some o) (hf : Hf p = none) (n : ¬ Own g σ p) : En K pr B (upd Hf p o) H g σ where
  ex := fun a u e => by
    by_cases q : a = p
    · subst q; rw [upd_same] at e; cases e; exact h
    · rw [upd_ne q] at e; exact E.ex a u e
  len := E.len
  ok := fun i s e m => by
    obtain ⟨v, e1, s1⟩ := E.ok i s e m
    refine ⟨v, e1, ?_⟩
    have ex : Evl.Ex Hf (upd Hf p o) := Evl.Ex.new hf
    cases s with
    | un => trivial
    | val d => exact Rep.mono ex s1
    | own ds =>
      obtain ⟨q, vs, rfl, h1, h2, h3⟩ := s1
      have ne : q ≠ p := fun z => by subst z; exact n ⟨i, ds, e, e1⟩
      exact ⟨q, vs, rfl, by rw [upd_ne ne]; exact h1, h2, h3.mono ex⟩
    | raw w => exact s1
  dis := E.dis
  nb := E.nb
  ob := E.ob
theorem get_set {α : Type} {l : List α} {i j : Nat} {a b : α} (h : (l.set i a)[j]? = some b) : (j = i ∧ b = a) ∨ (j ≠ i ∧ l[j]? = some b) := by
  by_cases e : i = j
  · subst e
    by_cases hl : i < l.length
    · rw [List.getElem?_set_self hl] at h
      cases h
      exact .inl ⟨rfl, rfl⟩
    · rw [List.getElem?_eq_none (by simpa using hl)] at h
      cases h
  · rw [List.getElem?_set_ne e] at h
    exact .inr ⟨fun z => e z.symm, h⟩
/-- a slot given up -/
theorem En.drop (E : En K pr B Hf H g σ) (i : Nat) : En K pr B Hf H (g.set i .un) σ where
  ex := E.ex
  len := by rw [List.length_set]; exact E.len
  ok := fun j s e n => by
    rcases get_set e with ⟨_, z⟩ | ⟨_, e⟩
    · exact absurd z n
    · exact E.ok j s e n
  dis := fun a b ds es p h1 h2 => by
    rcases get_set h1 with ⟨_, z⟩ | ⟨_, h1⟩
    · cases z
    rcases get_set h2 with ⟨_, z⟩ | ⟨_, h2⟩
    · cases z
    exact E.dis a b ds es p h1 h2
  nb := E.nb
  ob := fun a ds p h1 => by
    rcases get_set h1 with ⟨_, z⟩ | ⟨_, h1⟩
    · cases z
    exact E.ob a ds p h1
theorem own_drop {i : Nat} {p : Addr} (h : Own (g.set i .un) σ p) : Own g σ p := by
  obtain ⟨j, ds, e1, e2⟩ := h
  rcases get_set e1 with ⟨_, z⟩ | ⟨_, e1⟩
  · cases z
  exact ⟨j, ds, e1, e2⟩
/-- behind giving up, the object is nobody's -/
theorem En.not_own_drop (E : En K pr B Hf H g σ) {i : Nat} {ds : List Da} {p : Addr} (h : g[i]? = some (.own ds)) (e : σ[i]? = some (some (.ref p))) : ¬ Own (g.set i .un) σ p := fun z => by
  obtain ⟨j, es, e1, e2⟩ := z
  rcases get_set e1 with ⟨_, z⟩ | ⟨ne, e1⟩
  · cases z
  exact ne (E.dis j i es ds p e1 h e2 e)
/-- a slot's word replaced, the value as it stands -/
theorem En.put_slot (E : En K pr B Hf H g σ) {i : Nat} {s : Sl} {v : V} (hv : σ[i]? = some (some v)) (hs : SlotOk K Hf H s v) (ho : ∀ ds, s = .own ds → ∀ p, v = .ref p → ¬ Own (g.set i .un) σ p ∧ (i ∈ pr ∨ B p)) : En K pr B Hf H (g.set i s) σ where
  ex := E.ex
  len := by rw [List.length_set]; exact E.len
  ok := fun j t e n => by
    rcases get_set e with ⟨rfl, rfl⟩ | ⟨_, e⟩
    · exact ⟨v, hv, hs⟩
    · exact E.ok j t e n
  dis := fun a b ds es p h1 h2 e1 e2 => by
    rcases get_set h1 with ⟨rfl, z⟩ | ⟨na, h1'⟩
    · rcases get_set h2 with ⟨rfl, _⟩ | ⟨nb, h2'⟩
      · rfl
      · rw [e1] at hv; cases hv
        exact absurd ⟨b, es, by rw [List.getElem?_set_ne (Ne.symm nb)]; exact h2', e2⟩ (ho ds z.symm p rfl).1
    · rcases get_set h2 with ⟨rfl, z⟩ | ⟨nb, h2'⟩
      · rw [e2] at hv; cases hv
        exact absurd ⟨a, ds, by rw [List.getElem?_set_ne (Ne.symm na)]; exact h1', e1⟩ (ho es z.symm p rfl).1
      · exact E.dis a b ds es p h1' h2' e1 e2
  nb := E.nb
  ob := fun a ds p h1 e1 => by
    rcases get_set h1 with ⟨rfl, z⟩ | ⟨na, h1'⟩
    · rw [e1] at hv; cases hv
      exact (ho ds z.symm p rfl).2
    · exact E.ob a ds p h1' e1
theorem own_put {i : Nat} {s : Sl} {p : Addr} (h : Own (g.set i s) σ p) : Own (g.set i .un) σ p ∨ (∃ ds, s = .own ds ∧ σ[i]? = some (some (.ref p))) := by
  obtain ⟨j, ds, e1, e2⟩ := h
  rcases get_set e1 with ⟨rfl, z⟩ | ⟨n, e1⟩
  · exact .inr ⟨ds, z.symm, e2⟩
  · exact .inl ⟨j, ds, by rw [List.getElem?_set_ne (Ne.symm n)]; exact e1, e2⟩
/-- a slot's word weakened -/
theorem En.own_val (E : En K pr B Hf H g σ) {i : Nat} {ds : List Da} (h : g[i]? = some (.own ds)) :
    ∃ p vs, σ[i]? = some (some (.ref p)) ∧ H p = some (.lst vs) ∧ Hf p = none ∧ RepAll K Hf vs ds ∧ Own g σ p := by
  obtain ⟨v, e1, p, vs, rfl, h1, h2, h3⟩ := E.ok i _ h (by simp)
  exact ⟨p, vs, e1, h2, h1, h3, i, ds, h, e1⟩
theorem lt_of_get {α : Type} {l : List α} {i : Nat} {a : α} (h : l[i]? = some a) : i < l.length := by
  rcases Nat.lt_or_ge i l.length with q | q
  · exact q
  · rw [List.getElem?_eq_none q] at h; cases h
/-- a slot that owns is frozen -/
theorem En.freezeSlot (E : En K pr B Hf H g σ) {i : Nat} {ds : List Da} {p : Addr} {vs : List V} (h : g[i]? = some (.own ds)) (e : σ[i]? = some (some (.ref p))) (hp : H p = some (.lst vs)) :
    En K pr B (upd Hf p (.lst vs)) H (g.set i (.val (.list ds))) σ ∧ Rep K (upd Hf p (.lst vs)) (.ref p) (.list ds) ∧ Tr (Own g σ) Hf H (upd Hf p (.lst vs)) H ∧ (∀ q, Own (g.set i (.val (.list ds))) σ q → Own g σ q) := by
  obtain ⟨p', vs', e1, h1, h2, h3, ow⟩ := E.own_val h
  rw [e] at e1; cases e1
  rw [hp] at h1; cases h1
  have n := E.not_own_drop h e
  have E1 := (E.drop i).freeze hp h2 n
  have r : Rep K (upd Hf p (.lst vs)) (.ref p) (.list ds) := .lst (.inl (.inl upd_same)) (h3.mono (Evl.Ex.new h2))
  have E2 := E1.put_slot (i := i) (s := .val (.list ds)) e r (fun _ z => by cases z)
  rw [List.set_set] at E2
  refine ⟨E2, r, ⟨Evl.Ex.new h2, fun q o hq no => ⟨hq, upd_ne (fun z => no (z ▸ ow))⟩, fun _ h => h⟩, fun q hq => ?_⟩
  rcases own_put hq with z | ⟨_, z, _⟩
  · exact own_drop z
  · cases z
/-- the word of a value on the way, further on -/
theorem WOk.step (h : WOk K B Hf1 H1 g1 σ w v) (E1 : En K pr B Hf1 H1 g1 σ) (t : Tr (Own g1 σ) Hf1 H1 Hf2 H2) (s : ∀ p, Own g2 σ p → Own g1 σ p ∨ H1 p = none) : WOk K B Hf2 H2 g2 σ w v := by
  cases w with
  | dat d => exact Rep.mono t.ex h
  | fresh ds =>
    obtain ⟨p, vs, rfl, hb, hf, hp, r, n⟩ := h
    obtain ⟨k1, k2⟩ := t.keep p _ hp n
    refine ⟨p, vs, rfl, hb, k2.trans hf, k1, r.mono t.ex, fun z => ?_⟩
    rcases s p z with z | z
    · exact n z
    · rw [hp] at z; cases z
  | slot i => exact h
  | raw x => exact h
end
/-! ### from a value on the way to data -/
def toD : Wv → Gh → Option (Da × Gh)
  | .dat d, g => some (d, g)
  | .fresh ds, g => some (.list ds, g)
  | .slot i, g => match g[i]? with
    | some (.own ds) => some (.list ds, g.set i (.val (.list ds)))
    | some (.val d) => some (d, g)
    | _ => none
  | .raw _, _ => none
def look : Wv → Gh → Option Da
  | .dat d, _ => some d
  | .fresh ds, _ => some (.list ds)
  | .slot i, g => match g[i]? with
    | some (.own ds) => some (.list ds)
    | some (.val d) => some d
    | _ => none
  | .raw _, _ => none
section
variable {K : Frag} {pr : List Nat} {B : Addr → Prop} {Hf H Hf' H' Hf1 H1 Hf2 H2 : Hp} {g g' g1 g2 : Gh} {σ σ' : L2.St} {O O1 : Addr → Prop} {v : V} {w : Wv} {d : Da}
/-- the step: what an expression leaves -/
structure Stp (K : Frag) (pr : List Nat) (B : Addr → Prop) (Hf H : Hp) (g : Gh) (σ : L2.St) (Hf' H' : Hp) (g' : Gh) : Prop where
  tr : Tr (Own g σ) Hf H Hf' H'
  env : En K pr B Hf' H' g' σ
  sub : ∀ p, Own g' σ p → Own g σ p
theorem Stp.refl (E : En K pr B Hf H g σ) : Stp K pr B Hf H g σ Hf H g := ⟨Tr.refl, E, fun _ h => h⟩
theorem Stp.trans (a : Stp K pr B Hf H g σ Hf1 H1 g1) (b : Stp K pr B Hf1 H1 g1 σ Hf2 H2 g2) : Stp K pr B Hf H g σ Hf2 H2 g2 :=
  ⟨a.tr.trans' b.tr a.sub, b.env, fun p h => a.sub p (b.sub p h)⟩
theorem Stp.way (a : Stp K pr B Hf1 H1 g1 σ Hf2 H2 g2) (E : En K pr B Hf1 H1 g1 σ) (h : WOk K B Hf1 H1 g1 σ w v) : WOk K B Hf2 H2 g2 σ w v := h.step E a.tr fun p z => .inl (a.sub p z)
/-- freezing a fresh list: the step is from ahead of its making (B p: it is young) -/
theorem toD_ok (E : En K pr B Hf H g σ) (h : WOk K B Hf H g σ w v) (e : toD w g = some (d, g')) :
    ∃ Hf', En K pr B Hf' H g' σ ∧ Rep K Hf' v d ∧ Evl.Ex Hf Hf' ∧ (∀ p, Own g' σ p → Own g σ p) ∧ (∀ p o, H p = some o → ¬ Own g σ p → Hf' p = Hf p ∨ ((∃ ds, w = .fresh ds) ∧ v = .ref p)) := by
  cases w with
  | dat d' =>
    cases e
    exact ⟨Hf, E, h, Evl.Ex.refl _, fun _ h => h, fun _ _ _ _ => .inl rfl⟩
  | fresh ds =>
    cases e
    obtain ⟨p, vs, rfl, hb, hf, hp, r, n⟩ := h
    refine ⟨upd Hf p (.lst vs), E.freeze hp hf n, .lst (.inl (.inl upd_same)) (r.mono (Evl.Ex.new hf)), Evl.Ex.new hf, fun _ h => h, fun q o hq nq => ?_⟩
    by_cases z : q = p
    · subst z; exact .inr ⟨⟨ds, rfl⟩, rfl⟩
    · exact .inl (upd_ne z)
  | slot i =>
    have h : σ[i]? = some (some v) := h
    unfold toD at e
    dsimp only at e
    cases hg : g[i]? with
    | none => rw [hg] at e; cases e
    | some sl =>
      rw [hg] at e
      cases sl with
      | own ds =>
        cases e
        obtain ⟨p, vs, e1, h1, h2, h3, ow⟩ := E.own_val hg
        rw [h] at e1; cases e1
        obtain ⟨E2, r, t, s⟩ := E.freezeSlot hg h h1
        exact ⟨_, E2, r, t.ex, s, fun q o hq nq => .inl (t.keep q o hq nq).2⟩
      | val d' =>
        cases e
        obtain ⟨v', e1, r⟩ := E.ok i _ hg (by simp)
        rw [h] at e1; cases e1
        exact ⟨Hf, E, r, Evl.Ex.refl _, fun _ h => h, fun _ _ _ _ => .inl rfl⟩
      | un => cases e
      | raw x => cases e
  | raw x => cases e
/-- .. as a step from ahead, where the fresh list did not stand -/
theorem Stp.toD (a : Stp K pr B Hf H g σ Hf1 H1 g1) (hn : ∀ ds, w = .fresh ds → ∀ p, v = .ref p → H p = none) (h : WOk K B Hf1 H1 g1 σ w v) (e : toD w g1 = some (d, g')) :
    ∃ Hf', Stp K pr B Hf H g σ Hf' H1 g' ∧ Rep K Hf' v d := by
  obtain ⟨Hf', E', r, ex, s, k⟩ := toD_ok a.env h e
  refine ⟨Hf', ⟨⟨a.tr.ex.trans ex, fun p o hp no => ?_, a.tr.stay⟩, E', fun p z => a.sub p (s p z)⟩, r⟩
  obtain ⟨k1, k2⟩ := a.tr.keep p o hp no
  refine ⟨k1, ?_⟩
  rcases k p o k1 (fun z => no (a.sub p z)) with z | ⟨⟨ds, z⟩, z2⟩
  · exact z.trans k2
  · have := hn ds z p z2
    rw [hp] at this; cases this
theorem look_ok (E : En K pr B Hf H g σ) (h : WOk K B Hf H g σ w v) (e : look w g = some d) : Rep K H v d ∧ (Rep K Hf v d ∨ ∃ p vs ds, v = .ref p ∧ d = .list ds ∧ H p = some (.lst vs) ∧ RepAll K Hf vs ds) := by
  cases w with
  | dat d' => cases e; exact ⟨Rep.mono E.ex h, .inl h⟩
  | fresh ds =>
    cases e
    obtain ⟨p, vs, rfl, hb, hf, hp, r, n⟩ := h
    exact ⟨.lst (.inl (.inl hp)) (r.mono E.ex), .inr ⟨p, vs, ds, rfl, rfl, hp, r⟩⟩
  | slot i =>
    have h : σ[i]? = some (some v) := h
    unfold look at e
    dsimp only at e
    cases hg : g[i]? with
    | none => rw [hg] at e; cases e
    | some sl =>
      rw [hg] at e
      cases sl with
      | own ds =>
        cases e
        obtain ⟨p, vs, e1, h1, h2, h3, ow⟩ := E.own_val hg
        rw [h] at e1; cases e1
        exact ⟨.lst (.inl (.inl h1)) (h3.mono E.ex), .inr ⟨p, vs, ds, rfl, rfl, h1, h3⟩⟩
      | val d' =>
        cases e
        obtain ⟨v', e1, r⟩ := E.ok i _ hg (by simp)
        rw [h] at e1; cases e1
        exact ⟨Rep.mono E.ex r, .inl r⟩
      | un => cases e
      | raw x => cases e
  | raw x => cases e
end
end EV
end
section
set_option Elab.async false
set_option linter.all false
set_option maxRecDepth 100000
set_option maxHeartbeats 2000000
set_option autoImplicit false
namespace EV
open PySem PySem.Spec PyProof.Rows L2
/-! ### families of contexts -/
structure Fam where
  ι : Type
  X : ι → Cx
  K : Frag
  hK : ∀ i, (X i).K = K
def Fam.one (X : Cx) : Fam := ⟨Unit, fun _ => X, X.K, fun _ => rfl⟩
def Fam.blk (F : Fam) (scope : Scope) : Fam :=
  ⟨F.ι × Shared × Hp × Addr × List (Str × Addr) × List Addr, fun i => (F.X i.1).blk i.2.1 i.2.2.1 scope (compEnvC scope i.2.2.2.2.1 i.2.2.2.1 (F.X i.1).env) i.2.2.2.2.2, F.K, fun i => F.hK i.1⟩
section
variable (F : Fam)
def U (e : Expr) : TE := fun σ H Q => ∃ t : TE, (∀ i, PE (F.X i) e t) ∧ t σ H Q
def UT (e : Expr) : TT := fun σ H Q => ∃ t : TT, (∀ i, PT (F.X i) e t) ∧ t σ H Q
def UW (e : Expr) : TT := fun σ H Q => ∃ t : TT, (∀ i, PW (F.X i) e t) ∧ t σ H Q
def UTs (e : List Expr) : TT := fun σ H Q => ∃ t : TT, (∀ i, PTs (F.X i) e t) ∧ t σ H Q
def UA (es : List Expr) : TA := fun σ H Q => ∃ t : TA, (∀ i, PA (F.X i) es t) ∧ t σ H Q
def US (st : Stmt) : TS := fun D σ H => ∃ t : TS, (∀ i, PS (F.X i) st t) ∧ t D σ H
def USs (st : List Stmt) : TS := fun D σ H => ∃ t : TS, (∀ i, PSs (F.X i) st t) ∧ t D σ H
def UG (tg : Expr) : TG := fun v σ H Q => ∃ t : TG, (∀ i, PG (F.X i) tg t) ∧ t v σ H Q
def UI (tg it : Expr) : TI := fun σ H R => ∃ t : TI, (∀ i, PI (F.X i) tg it t) ∧ t σ H R
def UO (e : Option Expr) : TO := fun σ H Q => ∃ t : TO, (∀ i, PO (F.X i) e t) ∧ t σ H Q
variable {F}
theorem pe_U {e : Expr} (i : F.ι) : PE (F.X i) e (U F e) := ⟨fun pins s σ H Q I ⟨t, ht, h⟩ => (ht i).run pins s σ H Q I h⟩
theorem pt_U {e : Expr} (i : F.ι) : PT (F.X i) e (UT F e) := ⟨fun pins s σ H Q I ⟨t, ht, h⟩ => (ht i).run pins s σ H Q I h⟩
theorem pw_U {e : Expr} (i : F.ι) : PW (F.X i) e (UW F e) := ⟨fun wh pins s σ H Q I ⟨t, ht, h⟩ => (ht i).run wh pins s σ H Q I h⟩
theorem pts_U {e : List Expr} (i : F.ι) : PTs (F.X i) e (UTs F e) := ⟨fun pins s σ H Q I ⟨t, ht, h⟩ => (ht i).run pins s σ H Q I h⟩
theorem pa_U {e : List Expr} (i : F.ι) : PA (F.X i) e (UA F e) := ⟨fun pos pins s σ H Q I ⟨t, ht, h⟩ => (ht i).run pos pins s σ H Q I h⟩
theorem ps_U {e : Stmt} (i : F.ι) : PS (F.X i) e (US F e) := ⟨fun pins s σ H D I ⟨t, ht, h⟩ => (ht i).run pins s σ H D I h⟩
theorem pss_U {e : List Stmt} (i : F.ι) : PSs (F.X i) e (USs F e) := ⟨fun pins s σ H D I ⟨t, ht, h⟩ => (ht i).run pins s σ H D I h⟩
theorem pg_U {e : Expr} (i : F.ι) : PG (F.X i) e (UG F e) := ⟨fun pins s σ H v u Q I r ⟨t, ht, h⟩ => (ht i).run pins s σ H v u Q I r h⟩
theorem pi_U {tg e : Expr} (i : F.ι) : PI (F.X i) tg e (UI F tg e) := ⟨fun pins s σ H Q I ⟨t, ht, h⟩ => (ht i).run pins s σ H Q I h⟩
theorem po_U {e : Option Expr} (i : F.ι) : PO (F.X i) e (UO F e) := ⟨fun pins s σ H Q I ⟨t, ht, h⟩ => (ht i).run pins s σ H Q I h⟩
end
/-! ### the judgements -/
abbrev ME := Gh → Option (Wv × Gh)
abbrev MT := Gh → Option (Bool × Gh)
abbrev MA := Gh → Option (List Wv × Gh)
abbrev MI := Gh → Option (List Da × Gh)
inductive Fl where
  | nx | rt (w : Wv) | bk | ct
abbrev MS := Gh → Option (Fl × Gh)
/-- a fresh list did not stand at H -/
def Yng (H : Hp) (w : Wv) (v : V) : Prop := ∀ ds, w = .fresh ds → ∀ p, v = .ref p → H p = none
def Apart (w : Wv) (v : V) (ws : List Wv) (vs : List V) : Prop := ∀ ds p, w = .fresh ds → v = .ref p → ∀ (i : Nat) es, ws[i]? = some (.fresh es) → vs[i]? = some (.ref p) → False
inductive WAll (K : Frag) (B : Addr → Prop) (Hf H : Hp) (g : Gh) (σ : L2.St) : List Wv → List V → Prop
  | nil : WAll K B Hf H g σ [] []
  | cons {w : Wv} {v : V} {ws : List Wv} {vs : List V} : WOk K B Hf H g σ w v → Apart w v ws vs → WAll K B Hf H g σ ws vs → WAll K B Hf H g σ (w :: ws) (v :: vs)
inductive YAll (H : Hp) : List Wv → List V → Prop
  | nil : YAll H [] []
  | cons {w : Wv} {v : V} {ws : List Wv} {vs : List V} : Yng H w v → YAll H ws vs → YAll H (w :: ws) (v :: vs)
section
variable (F : Fam) (pr : List Nat)
def Ev (e : Expr) (f : ME) : Prop := ∀ (B : Addr → Prop) (Hf H : Hp) (g : Gh) (σ : L2.St) (w : Wv) (g' : Gh) (Q : VK), En F.K pr B Hf H g σ → f g = some (w, g') →
  (∀ v Hf' H', Stp F.K pr B Hf H g σ Hf' H' g' → WOk F.K B Hf' H' g' σ w v → Yng H w v → Q v H') → U F e σ H Q
def EvT (e : Expr) (f : MT) : Prop := ∀ (B : Addr → Prop) (Hf H : Hp) (g : Gh) (σ : L2.St) (b : Bool) (g' : Gh) (Q : Bool → Hp → Prop), En F.K pr B Hf H g σ → f g = some (b, g') →
  (∀ Hf' H', Stp F.K pr B Hf H g σ Hf' H' g' → Q b H') → UT F e σ H Q
def EvW (e : Expr) (f : MT) : Prop := ∀ (B : Addr → Prop) (Hf H : Hp) (g : Gh) (σ : L2.St) (b : Bool) (g' : Gh) (Q : Bool → Hp → Prop), En F.K pr B Hf H g σ → f g = some (b, g') →
  (∀ Hf' H', Stp F.K pr B Hf H g σ Hf' H' g' → Q b H') → UW F e σ H Q
def EvTs (e : List Expr) (f : MT) : Prop := ∀ (B : Addr → Prop) (Hf H : Hp) (g : Gh) (σ : L2.St) (b : Bool) (g' : Gh) (Q : Bool → Hp → Prop), En F.K pr B Hf H g σ → f g = some (b, g') →
  (∀ Hf' H', Stp F.K pr B Hf H g σ Hf' H' g' → Q b H') → UTs F e σ H Q
def EvA (es : List Expr) (f : MA) : Prop := ∀ (B : Addr → Prop) (Hf H : Hp) (g : Gh) (σ : L2.St) (ws : List Wv) (g' : Gh) (Q : List V → Hp → Prop), En F.K pr B Hf H g σ → f g = some (ws, g') →
  (∀ vs Hf' H', Stp F.K pr B Hf H g σ Hf' H' g' → WAll F.K B Hf' H' g' σ ws vs → YAll H ws vs → Q vs H') → UA F es σ H Q
/-- how a walk goes over data -/
def WalkD (K : Frag) (J : It) (Hf : Hp) (ds : List Da) : Prop := ∀ Hf1 H1, Evl.Ex Hf Hf1 → Evl.Ex Hf1 H1 →
  (∀ i, i < ds.length → J.go i H1) ∧ J.stop ds.length H1 ∧ ∀ i d x H2, ds[i]? = some d → J.yld i H1 x H2 → ∃ Hf2, Tr (fun _ => False) Hf1 H1 Hf2 H2 ∧ (∀ pr B g σ, En K pr B Hf1 H1 g σ → En K pr B Hf2 H2 g σ) ∧ Rep K Hf2 x d
def EvI (tg e : Expr) (f : MI) : Prop := ∀ (B : Addr → Prop) (Hf H : Hp) (g : Gh) (σ : L2.St) (ds : List Da) (g' : Gh) (R : It → Hp → Prop), En F.K pr B Hf H g σ → f g = some (ds, g') →
  (∀ J Hf' H', Stp F.K pr B Hf H g σ Hf' H' g' → WalkD F.K J Hf' ds → R J H') → UI F tg e σ H R
/-- behind a statement -/
structure SStp (K : Frag) (pr : List Nat) (B : Addr → Prop) (Hf H : Hp) (g : Gh) (σ : L2.St) (Hf' H' : Hp) (g' : Gh) (σ' : L2.St) : Prop where
  tr : Tr (Own g σ) Hf H Hf' H'
  env : En K pr B Hf' H' g' σ'
  sub : ∀ p, Own g' σ' p → Own g σ p ∨ H p = none
  prk : ∀ i ∈ pr, σ'[i]? = σ[i]?
def FlOk (K : Frag) (B : Addr → Prop) (Hf H : Hp) (g : Gh) (σ : L2.St) (D : Ends) : Fl → Prop
  | .nx => D.nx σ H
  | .rt w => ∀ v, WOk K B Hf H g σ w v → (∀ i, w ≠ .slot i) → D.rt v H
  | .bk => D.bk σ H
  | .ct => D.ct σ H
def EvS (st : Stmt) (f : MS) : Prop := ∀ (B : Addr → Prop) (Hf H : Hp) (g : Gh) (σ : L2.St) (fl : Fl) (g' : Gh) (D : Ends), En F.K pr B Hf H g σ → f g = some (fl, g') →
  (∀ σ' Hf' H', SStp F.K pr B Hf H g σ Hf' H' g' σ' → FlOk F.K B Hf' H' g' σ' D fl) → US F st D σ H
def EvSs (st : List Stmt) (f : MS) : Prop := ∀ (B : Addr → Prop) (Hf H : Hp) (g : Gh) (σ : L2.St) (fl : Fl) (g' : Gh) (D : Ends), En F.K pr B Hf H g σ → f g = some (fl, g') →
  (∀ σ' Hf' H', SStp F.K pr B Hf H g σ Hf' H' g' σ' → FlOk F.K B Hf' H' g' σ' D fl) → USs F st D σ H
end
section
variable {F : Fam} {pr : List Nat} {B : Addr → Prop} {Hf H Hf' H' Hf1 H1 Hf2 H2 : Hp} {g g' g1 g2 : Gh} {σ σ' σ1 σ2 : L2.St} {K : Frag}
theorem SStp.refl (E : En K pr B Hf H g σ) : SStp K pr B Hf H g σ Hf H g σ := ⟨Tr.refl, E, fun _ h => .inl h, fun _ _ => rfl⟩
theorem SStp.trans (a : SStp K pr B Hf H g σ Hf1 H1 g1 σ1) (b : SStp K pr B Hf1 H1 g1 σ1 Hf2 H2 g2 σ2) : SStp K pr B Hf H g σ Hf2 H2 g2 σ2 :=
  ⟨a.tr.trans b.tr a.sub, b.env, fun p h => by
    rcases b.sub p h with z | z
    · exact a.sub p z
    · exact .inr (a.tr.stay p z), fun i hi => (b.prk i hi).trans (a.prk i hi)⟩
theorem Stp.s (a : Stp K pr B Hf H g σ Hf1 H1 g1) : SStp K pr B Hf H g σ Hf1 H1 g1 σ := ⟨a.tr, a.env, fun p h => .inl (a.sub p h), fun _ _ => rfl⟩
theorem WAll.step : ∀ {ws : List Wv} {vs : List V}, WAll K B Hf1 H1 g1 σ ws vs → En K pr B Hf1 H1 g1 σ → Stp K pr B Hf1 H1 g1 σ Hf2 H2 g2 → WAll K B Hf2 H2 g2 σ ws vs
  | _, _, .nil, _, _ => .nil
  | _, _, .cons a b c, E, s => .cons (s.way E a) b (WAll.step c E s)
theorem YAll.weak (t : ∀ p, H1 p = none → H p = none) : ∀ {ws : List Wv} {vs : List V}, YAll H1 ws vs → YAll H ws vs
  | _, _, .nil => .nil
  | _, _, .cons a b => .cons (fun ds e p e2 => t p (a ds e p e2)) (YAll.weak t b)
end
end EV
end
section
set_option Elab.async false
set_option linter.all false
set_option maxRecDepth 100000
set_option maxHeartbeats 2000000
set_option autoImplicit false
namespace EV
open PySem PySem.Spec PyProof.Rows L2
section
variable {F : Fam} {pr : List Nat} {B : Addr → Prop} {Hf H Hf' H' Hf1 H1 Hf2 H2 : Hp} {g g' g1 g2 : Gh} {σ σ' σ1 σ2 : L2.St} {K : Frag}
/-! ### names and constants -/
def mName (i : Nat) : ME := fun g => match g[i]? with
  | some (.val d) => some (.dat d, g)
  | some (.own _) => some (.slot i, g)
  | some (.raw v) => some (.raw v, g)
  | _ => none
theorem ev_name (i : Nat) {x : Str} {pos : Pos} (hN : ∀ j, (F.X j).N[i]? = some x := by intro _; rfl) (hv : ∀ j, Vis (F.X j).env.scope x := by intro _; first | exact Or.inl rfl | exact Or.inr (Or.inl rfl) | exact Or.inr (Or.inr rfl))
    (hd : (x == ("__debug__" : Str)) = false := by decide) (hcd : (x == ("__classdict__" : Str)) = false := by decide) : Ev F pr (.Name x pos) (mName i) := by
  intro B Hf H g σ w g' Q E e q
  unfold mName at e
  cases hg : g[i]? with
  | none => rw [hg] at e; cases e
  | some s =>
    rw [hg] at e
    have hs : s ≠ .un := fun z => by subst z; cases e
    obtain ⟨v, hv1, so⟩ := E.ok i s hg hs
    refine ⟨tVar i, fun j => pe_var (hN j) (hv j) hd hcd, v, hv1, ?_⟩
    cases s with
    | un => cases e
    | val d => cases e; exact q v Hf H (Stp.refl E) so (fun _ z => nomatch z)
    | own ds => cases e; exact q v Hf H (Stp.refl E) hv1 (fun _ z => nomatch z)
    | raw x => cases e; exact q v Hf H (Stp.refl E) so (fun _ z => nomatch z)
def mC (d : Da) : ME := fun g => some (.dat d, g)
theorem ev_c {e : Expr} {v : V} {d : Da} (h : ∀ i, PE (F.X i) e (tC v)) (r : ∀ Hf, Rep F.K Hf v d) : Ev F pr e (mC d) := by
  intro B Hf H g σ w g' Q E e q
  cases e
  exact ⟨_, h, q v Hf H (Stp.refl E) (r Hf) (fun _ z => nomatch z)⟩
theorem ev_int {i : Int} {j pos} : Ev F pr (.Constant (.int i) j pos) (mC (.int i)) := ev_c (fun _ => pe_int) fun _ => .int i
theorem ev_bl {b j pos} : Ev F pr (.Constant (.bool b) j pos) (mC (.bool b)) := ev_c (fun _ => pe_bl) fun _ => .bl b
theorem ev_non {j pos} : Ev F pr (.Constant .none j pos) (mC .none) := ev_c (fun _ => pe_non) fun _ => .non
theorem ev_str {x j pos} : Ev F pr (.Constant (.str x) j pos) (mC (.str x)) := ev_c (fun _ => pe_str) fun _ => .str x
/-- a constant of the module -/
theorem ev_glob {x : Str} {v : V} {u : Value} {d : Da} {pos : Pos} (hg : ∀ i, Gl (F.X i) x) (hm : ∀ i, (F.X i).mg x = some u) (r : RelV v u) (hr : ∀ Hf, Rep F.K Hf v d) (hd : (x == ("__debug__" : Str)) = false := by decide) : Ev F pr (.Name x pos) (mC d) :=
  ev_c (fun i => pe_glob (hg i) (hm i) r hd) hr
/-! ### argument lists -/
def mNil : MA := fun g => some ([], g)
def mCons (f : ME) (fs : MA) : MA := fun g => (f g).bind fun a => (fs a.2).bind fun b => some (a.1 :: b.1, b.2)
theorem ea_nil : EvA F pr [] mNil := by
  intro B Hf H g σ ws g' Q E e q
  cases e
  exact ⟨tNil, fun _ => pa_nil, q [] Hf H (Stp.refl E) .nil .nil⟩
theorem yall_apart {w : Wv} {v : V} (h : WOk K B Hf H g σ w v) : ∀ {ws : List Wv} {vs : List V}, YAll H ws vs → Apart w v ws vs
  | _, _, .nil => fun ds p _ _ i es h _ => by simp at h
  | _, _, .cons y ys => fun ds p e1 e2 i es h1 h2 => by
    cases i with
    | zero =>
      simp at h1 h2
      subst h1; subst h2; subst e1; subst e2
      obtain ⟨q, vs, e3, _, _, hp, _⟩ := h
      cases e3
      rw [y es rfl _ rfl] at hp; cases hp
    | succ i => exact yall_apart h ys ds p e1 e2 i es (by simpa using h1) (by simpa using h2)
theorem ea_cons {e : Expr} {es : List Expr} {f : ME} {fs : MA} (h : Ev F pr e f) (hs : EvA F pr es fs) (hst : ∀ i, starEach (e :: es) (F.X i).env = (false, eval e (F.X i).env) :: starEach es (F.X i).env := by intro _; rfl) : EvA F pr (e :: es) (mCons f fs) := by
  intro B Hf H g σ ws g' Q E eq q
  obtain ⟨⟨w, g1⟩, e1, eq⟩ := Option.bind_eq_some_iff.mp eq
  obtain ⟨⟨ws', g2⟩, e2, eq⟩ := Option.bind_eq_some_iff.mp eq
  cases eq
  refine ⟨tCons (U F e) (UA F es), fun i => pa_cons (pe_U i) (pa_U i) (hst i), ?_⟩
  refine h B Hf H g σ w g1 _ E e1 fun v Hf1 H1 s1 w1 y1 => ?_
  refine hs B Hf1 H1 g1 σ ws' g2 _ s1.env e2 fun vs Hf2 H2 s2 w2 y2 => ?_
  exact q _ Hf2 H2 (s1.trans s2) (.cons (s2.way s1.env w1) (yall_apart w1 y2 ) w2) (.cons y1 (YAll.weak s1.tr.stay y2))
/-! ### from values on the way to data -/
def toDs : List Wv → Gh → Option (List Da × Gh)
  | [], g => some ([], g)
  | w :: ws, g => (toD w g).bind fun a => (toDs ws a.2).bind fun b => some (a.1 :: b.1, b.2)
def lookAll : List Wv → Gh → Option (List Da)
  | [], _ => some []
  | w :: ws, g => (look w g).bind fun a => (lookAll ws g).bind fun b => some (a :: b)
theorem WOk.frz {w' : Wv} {v' : V} {w : Wv} {v : V} (h : WOk K B Hf H g σ w' v') (ex : Evl.Ex Hf Hf') (s : ∀ p, Own g' σ p → Own g σ p) (k : ∀ p o, H p = some o → ¬ Own g σ p → Hf' p = Hf p ∨ ((∃ ds, w = .fresh ds) ∧ v = .ref p))
    (a : ∀ ds es p, w = .fresh ds → w' = .fresh es → v = .ref p → v' = .ref p → False) : WOk K B Hf' H g' σ w' v' := by
  cases w' with
  | dat d => exact Rep.mono ex h
  | fresh es =>
    obtain ⟨p, vs, rfl, hb, hf, hp, r, n⟩ := h
    refine ⟨p, vs, rfl, hb, ?_, hp, r.mono ex, fun z => n (s p z)⟩
    rcases k p _ hp n with z | ⟨⟨ds, z⟩, z2⟩
    · exact z.trans hf
    · exact (a ds es p z rfl z2 rfl).elim
  | slot i => exact h
  | raw x => exact h
theorem WAll.frz {w : Wv} {v : V} (ex : Evl.Ex Hf Hf') (s : ∀ p, Own g' σ p → Own g σ p) (k : ∀ p o, H p = some o → ¬ Own g σ p → Hf' p = Hf p ∨ ((∃ ds, w = .fresh ds) ∧ v = .ref p)) :
    ∀ {ws : List Wv} {vs : List V}, WAll K B Hf H g σ ws vs → Apart w v ws vs → WAll K B Hf' H g' σ ws vs
  | _, _, .nil, _ => .nil
  | _, _, .cons a b c, ap => .cons (a.frz ex s k fun ds es p e1 e2 e3 e4 => ap ds p e1 e3 0 es (by simp [e2]) (by simp [e4])) b (WAll.frz ex s k c fun ds p e1 e2 i es h1 h2 => ap ds p e1 e2 (i + 1) es (by simpa using h1) (by simpa using h2))
theorem toDs_ok : ∀ {ws : List Wv} {vs : List V} {ds : List Da} {Hf1 : Hp} {g1 g' : Gh}, Stp K pr B Hf H g σ Hf1 H1 g1 → WAll K B Hf1 H1 g1 σ ws vs → YAll H ws vs → toDs ws g1 = some (ds, g') →
    ∃ Hf', Stp K pr B Hf H g σ Hf' H1 g' ∧ Evl.Ex Hf1 Hf' ∧ RepAll K Hf' vs ds
  | _, _, ds, Hf1, g1, g2, s, .nil, _, e => by cases e; exact ⟨Hf1, s, Evl.Ex.refl _, .nil⟩
  | _, _, ds, Hf1, g1, g3, s, .cons a b c, .cons y ys, e => by
    obtain ⟨⟨d, g2⟩, e1, e⟩ := Option.bind_eq_some_iff.mp e
    obtain ⟨⟨ds', g4⟩, e2, e⟩ := Option.bind_eq_some_iff.mp e
    cases e
    obtain ⟨Hf2, E2, r, ex, sb, k⟩ := toD_ok s.env a e1
    have s2 : Stp K pr B Hf H g σ Hf2 H1 g2 := by
      refine ⟨⟨s.tr.ex.trans ex, fun p o hp no => ?_, s.tr.stay⟩, E2, fun p z => s.sub p (sb p z)⟩
      obtain ⟨k1, k2⟩ := s.tr.keep p o hp no
      refine ⟨k1, ?_⟩
      rcases k p o k1 (fun z => no (s.sub p z)) with z | ⟨⟨es, z⟩, z2⟩
      · exact z.trans k2
      · have := y es z p z2
        rw [hp] at this; cases this
    obtain ⟨Hf', s3, ex3, r3⟩ := toDs_ok s2 (WAll.frz ex sb k c b) ys e2
    exact ⟨Hf', s3, ex.trans ex3, .cons (r.mono ex3) r3⟩
/-- what is looked at, as it stands -/
def RL (K : Frag) (Hf H : Hp) (v : V) (d : Da) : Prop := Rep K H v d ∧ (Rep K Hf v d ∨ ∃ p vs ds, v = .ref p ∧ d = .list ds ∧ H p = some (.lst vs) ∧ RepAll K Hf vs ds)
inductive RLs (K : Frag) (Hf H : Hp) : List V → List Da → Prop
  | nil : RLs K Hf H [] []
  | cons {v : V} {vs : List V} {d : Da} {ds : List Da} : RL K Hf H v d → RLs K Hf H vs ds → RLs K Hf H (v :: vs) (d :: ds)
theorem lookAll_ok (E : En K pr B Hf H g σ) : ∀ {ws : List Wv} {vs : List V} {ds : List Da}, WAll K B Hf H g σ ws vs → lookAll ws g = some ds → RLs K Hf H vs ds
  | _, _, ds, .nil, e => by cases e; exact .nil
  | _, _, ds, .cons a b c, e => by
    obtain ⟨d, e1, e⟩ := Option.bind_eq_some_iff.mp e
    obtain ⟨ds', e2, e⟩ := Option.bind_eq_some_iff.mp e
    cases e
    exact .cons (look_ok E a e1) (lookAll_ok E c e2)
theorem RL.seqL {v : V} {ds : List Da} (h : RL K Hf H v (.list ds)) (ex : Evl.Ex Hf H) : ∃ p xs, v = .ref p ∧ SqL K H p xs ∧ RepAll K Hf xs ds := by
  rcases h.2 with r | ⟨p, vs, es, rfl, e, hp, r⟩
  · cases r with
    | lst q r => exact ⟨_, _, rfl, Evl.ex_l ex q, r⟩
  · cases e
    exact ⟨p, vs, rfl, .inl (.inl hp), r⟩
theorem RL.seqT {v : V} {ds : List Da} (h : RL K Hf H v (.tuple ds)) (ex : Evl.Ex Hf H) : ∃ p xs, v = .ref p ∧ SqT K H p xs ∧ RepAll K Hf xs ds := by
  rcases h.2 with r | ⟨p, vs, es, rfl, e, hp, r⟩
  · cases r with
    | tup q r => exact ⟨_, _, rfl, Evl.ex_t ex q, r⟩
  · cases e
theorem RL.int {v : V} {i : Int} (h : RL K Hf H v (.int i)) : v = .int i := by
  cases h.1; rfl
theorem RL.bool {v : V} {i : Bool} (h : RL K Hf H v (.bool i)) : v = .bl i := by
  cases h.1; rfl
theorem RL.str {v : V} {i : Str} (h : RL K Hf H v (.str i)) : v = .str i := by
  cases h.1; rfl
theorem RL.none {v : V} (h : RL K Hf H v .none) : v = .non := by
  cases h.1; rfl
/-! ### displays -/
def mTup (fa : MA) : ME := fun g => (fa g).bind fun a => (toDs a.1 a.2).bind fun r => if r.1.length ≤ sizeLine then some (.dat (.tuple r.1), r.2) else none
def mLst (fa : MA) : ME := fun g => (fa g).bind fun a => (toDs a.1 a.2).bind fun r => if r.1.length ≤ sizeLine then some (.fresh r.1, r.2) else none
theorem ev_tup {es : List Expr} {fa : MA} {x1} {pos : Pos} (h : EvA F pr es fa) : Ev F pr (.Tuple es x1 pos) (mTup fa) := by
  intro B Hf H g σ w g' Q E eq q
  obtain ⟨⟨ws, g1⟩, e1, eq⟩ := Option.bind_eq_some_iff.mp eq
  obtain ⟨⟨ds, g2⟩, e2, eq⟩ := Option.bind_eq_some_iff.mp eq
  dsimp only at eq
  split at eq
  · rename_i hl
    cases eq
    refine ⟨tTup (UA F es), fun i => pe_tup (pa_U i), ?_⟩
    refine h B Hf H g σ ws g1 _ E e1 fun vs Hf1 H1 s1 w1 y1 => ?_
    obtain ⟨Hf2, s2, _, r2⟩ := toDs_ok s1 w1 y1 e2
    refine ⟨by rw [r2.length]; exact hl, fun p hp => ?_⟩
    have hf := s2.env.frz hp
    refine q _ (upd Hf2 p (.tup vs)) (upd H1 p (.tup vs)) (s2.trans ⟨Tr.new hf hp, s2.env.new hp, fun _ h => h⟩) ?_ (fun _ z => nomatch z)
    exact .tup (.inl (.inl upd_same)) (r2.mono (Evl.Ex.new hf))
  · cases eq
theorem ev_lst {es : List Expr} {fa : MA} {pos : Pos} (h : EvA F pr es fa) : Ev F pr (.List es pos) (mLst fa) := by
  intro B Hf H g σ w g' Q E eq q
  obtain ⟨⟨ws, g1⟩, e1, eq⟩ := Option.bind_eq_some_iff.mp eq
  obtain ⟨⟨ds, g2⟩, e2, eq⟩ := Option.bind_eq_some_iff.mp eq
  dsimp only at eq
  split at eq
  · rename_i hl
    cases eq
    refine ⟨tLst (UA F es), fun i => pe_lst (pa_U i), ?_⟩
    refine h B Hf H g σ ws g1 _ E e1 fun vs Hf1 H1 s1 w1 y1 => ?_
    obtain ⟨Hf2, s2, _, r2⟩ := toDs_ok s1 w1 y1 e2
    refine ⟨by rw [r2.length]; exact hl, fun p hp => ?_⟩
    have hf := s2.env.frz hp
    refine q _ Hf2 (upd H1 p (.lst vs)) (s2.trans ⟨Tr.mut hp, s2.env.mut hp, fun _ h => h⟩) ?_ (fun ds _ p' e => ?_)
    · exact ⟨p, vs, rfl, s2.env.nb p hp, hf, upd_same, r2, s2.env.own_none hp⟩
    · cases e; exact s2.tr.stay _ hp
  · cases eq
/-- an empty dict -/
def mDict0 : ME := fun g => some (.dat (.dict []), g)
/-! ### operators -/
/-- what a way's end hands over -/
def Cont (K : Frag) (pr : List Nat) (B : Addr → Prop) (Hf H : Hp) (g : Gh) (σ : L2.St) (w : Wv) (Q : VK) : Prop := ∀ v Hf' H', Stp K pr B Hf H g σ Hf' H' g → WOk K B Hf' H' g σ w v → Yng H w v → Q v H'
theorem Cont.dat {d : Da} {Q : VK} {v : V} (E : En K pr B Hf H g σ) (c : Cont K pr B Hf H g σ (.dat d) Q) (r : Rep K Hf v d) : Q v H := c v Hf H (Stp.refl E) r (fun _ z => nomatch z)
theorem Cont.newT {ds : List Da} {Q : VK} {vs : List V} {p : Addr} (E : En K pr B Hf H g σ) (c : Cont K pr B Hf H g σ (.dat (.tuple ds)) Q) (r : RepAll K Hf vs ds) (hp : H p = none) : Q (.ref p) (upd H p (.tup vs)) := by
  have hf := E.frz hp
  exact c _ (upd Hf p (.tup vs)) _ ⟨Tr.new hf hp, E.new hp, fun _ h => h⟩ (.tup (.inl (.inl upd_same)) (r.mono (Evl.Ex.new hf))) (fun _ z => nomatch z)
theorem Cont.newL {ds : List Da} {Q : VK} {vs : List V} {p : Addr} (E : En K pr B Hf H g σ) (c : Cont K pr B Hf H g σ (.fresh ds) Q) (r : RepAll K Hf vs ds) (hp : H p = none) : Q (.ref p) (upd H p (.lst vs)) := by
  have hf := E.frz hp
  exact c _ Hf _ ⟨Tr.mut hp, E.mut hp, fun _ h => h⟩ ⟨p, vs, rfl, E.nb p hp, hf, upd_same, r, E.own_none hp⟩ (fun ds _ p' e => by cases e; exact hp)
def OpD (F : Fam) (f : Value → Value → Sem Value) (Fn : Da → Da → Option Wv) : Prop := ∀ x y w, Fn x y = some w → ∃ r : R2, (∀ i, OpR (F.X i) f r) ∧
  ∀ pr B Hf H g σ vx vy (Q : VK), En F.K pr B Hf H g σ → RL F.K Hf H vx x → RL F.K Hf H vy y → Cont F.K pr B Hf H g σ w Q → r vx vy H Q
def mBin (Fn : Da → Da → Option Wv) (fa fb : ME) : ME := fun g => (fa g).bind fun a => (fb a.2).bind fun b => (look a.1 b.2).bind fun x => (look b.1 b.2).bind fun y => (Fn x y).bind fun w => some (w, b.2)
theorem bin_ok {a b : Expr} {fa fb : ME} {Fn : Da → Da → Option Wv} {f : Value → Value → Sem Value} (ha : Ev F pr a fa) (hb : Ev F pr b fb) (ho : OpD F f Fn) {w : Wv} {Q : VK} (E : En F.K pr B Hf H g σ) (eq : mBin Fn fa fb g = some (w, g'))
    (q : ∀ v Hf' H', Stp F.K pr B Hf H g σ Hf' H' g' → WOk F.K B Hf' H' g' σ w v → Yng H w v → Q v H') : ∃ r : R2, (∀ i, OpR (F.X i) f r) ∧ tOp r (U F a) (U F b) σ H Q := by
  obtain ⟨⟨wa, g1⟩, e1, eq⟩ := Option.bind_eq_some_iff.mp eq
  obtain ⟨⟨wb, g2⟩, e2, eq⟩ := Option.bind_eq_some_iff.mp eq
  obtain ⟨x, e3, eq⟩ := Option.bind_eq_some_iff.mp eq
  obtain ⟨y, e4, eq⟩ := Option.bind_eq_some_iff.mp eq
  obtain ⟨w', e5, eq⟩ := Option.bind_eq_some_iff.mp eq
  cases eq
  obtain ⟨r, hr, hk⟩ := ho x y w e5
  refine ⟨r, hr, ?_⟩
  refine ha B Hf H g σ wa g1 _ E e1 fun v Hf1 H1 s1 w1 y1 => ?_
  refine hb B Hf1 H1 g1 σ wb _ _ s1.env e2 fun u Hf2 H2 s2 w2 y2 => ?_
  refine hk pr B Hf2 H2 _ σ v u Q s2.env (look_ok s2.env (s2.way s1.env w1) e3) (look_ok s2.env w2 e4) fun z Hf3 H3 s3 w3 y3 => ?_
  exact q z Hf3 H3 ((s1.trans s2).trans s3) w3 fun ds e p e' => s1.tr.stay p (s2.tr.stay p (y3 ds e p e'))
theorem ev_bin {a b : Expr} {fa fb : ME} {Fn : Da → Da → Option Wv} {op : Operator} {pos : Pos} (ho : OpD F (binaryOp op) Fn) (ha : Ev F pr a fa) (hb : Ev F pr b fb) : Ev F pr (.BinOp a op b pos) (mBin Fn fa fb) := by
  intro B Hf H g σ w g' Q E eq q
  obtain ⟨r, hr, t⟩ := bin_ok ha hb ho E eq q
  exact ⟨_, fun i => pe_op (hr i) (pe_U i) (pe_U i), t⟩
/-- a comparison as a value -/
theorem ev_cmp {a b : Expr} {fa fb : ME} {Fn : Da → Da → Option Wv} {op : CmpOp} {pos : Pos} (ho : OpD F (compareOp op) Fn) (ha : Ev F pr a fa) (hb : Ev F pr b fb) (hm : behindInMarks op b = false := by first | exact nomark _ | rfl) : Ev F pr (.Compare a [op] [b] pos) (mBin Fn fa fb) := by
  intro B Hf H g σ w g' Q E eq q
  obtain ⟨r, hr, t⟩ := bin_ok ha hb ho E eq q
  exact ⟨_, fun i => pe_cmpR (hr i) (pe_U i) (pe_U i) hm, t⟩
/-- a comparison as a test -/
def asB : Option (Wv × Gh) → Option (Bool × Gh)
  | some (.dat (.bool b), g) => some (b, g)
  | _ => none
theorem asB_some {o : Option (Wv × Gh)} {b : Bool} (h : asB o = some (b, g)) : o = some (.dat (.bool b), g) := by
  unfold asB at h
  split at h
  · cases h; rfl
  · cases h
/-- a comparison as a test -/
def mCmp (Fn : Da → Da → Option Wv) (fa fb : ME) : MT := fun g => asB (mBin Fn fa fb g)
theorem et_cmp {a b : Expr} {fa fb : ME} {Fn : Da → Da → Option Wv} {op : CmpOp} {pos : Pos} (ho : OpD F (compareOp op) Fn) (ha : Ev F pr a fa) (hb : Ev F pr b fb) (hm : behindInMarks op b = false := by first | exact nomark _ | rfl) :
    EvT F pr (.Compare a [op] [b] pos) (mCmp Fn fa fb) := by
  intro B Hf H g σ k g' Q E eq q
  obtain ⟨r, hr, t⟩ := bin_ok (Q := fun x H' => ∃ k, x = .bl k ∧ Q k H') ha hb ho E (asB_some eq) fun v Hf' H' s w y => by
    cases w
    exact ⟨_, rfl, q Hf' H' s⟩
  exact ⟨_, fun i => pt_cmpR (hr i) (pe_U i) (pe_U i) hm, t⟩
end
end EV
end
section
set_option Elab.async false
set_option linter.all false
set_option maxRecDepth 100000
set_option maxHeartbeats 2000000
set_option autoImplicit false
namespace EV
open PySem PySem.Spec PyProof.Rows L2
section
variable {F : Fam} {pr : List Nat} {B : Addr → Prop} {Hf H Hf' H' Hf1 H1 Hf2 H2 : Hp} {g g' g1 g2 : Gh} {σ σ' σ1 σ2 : L2.St} {K : Frag}
/-! ### the operators over data -/
def dII (c : Int → Int → Bool) (h : Int → Int → Int) : Da → Da → Option Wv
  | .int a, .int b => if c a b = true then some (.dat (.int (h a b))) else none
  | _, _ => none
def dIB (h : Int → Int → Bool) : Da → Da → Option Wv
  | .int a, .int b => some (.dat (.bool (h a b)))
  | _, _ => none
theorem opd_II {f : Value → Value → Sem Value} {c : Int → Int → Bool} {h : Int → Int → Int} {C : Int → Int → Prop} (hr : ∀ i, OpR (F.X i) f (rI C fun i j => .int (h i j))) (hc : ∀ a b, c a b = true → C a b) : OpD F f (dII c h) := by
  intro x y w e
  unfold dII at e
  split at e
  · rename_i a b
    split at e
    · rename_i h1
      cases e
      exact ⟨_, hr, fun pr B Hf H g σ vx vy Q E hx hy c => ⟨a, b, hx.int, hy.int, hc a b h1, c.dat E (.int _)⟩⟩
    · cases e
  · cases e
theorem opd_IB {f : Value → Value → Sem Value} {h : Int → Int → Bool} (hr : ∀ i, OpR (F.X i) f (rI0 fun i j => .bl (h i j))) : OpD F f (dIB h) := by
  intro x y w e
  unfold dIB at e
  split at e
  · rename_i a b
    cases e
    exact ⟨_, hr, fun pr B Hf H g σ vx vy Q E hx hy c => ⟨a, b, hx.int, hy.int, c.dat E (.bl _)⟩⟩
  · cases e
def dSub := dII (fun _ _ => true) (fun a b => a - b)
theorem rI_of0 {g : Int → Int → V} {X : Cx} {f : Value → Value → Sem Value} (h : OpR X f (rI0 g)) : OpR X f (rI (fun _ _ => True) g) := fun pins s σ H x y v u Q I rx ry ⟨i, j, e1, e2, _, q⟩ => h pins s σ H x y v u Q I rx ry ⟨i, j, e1, e2, q⟩
theorem od_sub : OpD F (binaryOp .Sub) dSub := opd_II (fun _ => rI_of0 op_sub) (fun _ _ _ => trivial)
def dMod := dII (fun _ b => decide (0 < b)) (fun a b => a % b)
theorem od_mod : OpD F (binaryOp .Mod) dMod := opd_II (fun _ => op_mod) (fun _ _ h => of_decide_eq_true h)
def dFdiv := dII (fun _ b => decide (0 < b) && decide (b.natAbs.log2 < 9000)) (fun a b => a / b)
theorem od_fdiv : OpD F (binaryOp .FloorDiv) dFdiv := opd_II (fun _ => op_fdivW) (fun _ _ h => by
  rw [Bool.and_eq_true] at h
  exact ⟨of_decide_eq_true h.1, of_decide_eq_true h.2⟩)
def dPow := dII (fun a b => decide (0 ≤ b) && decide (b ≤ 1000000) && decide (a.natAbs < 2 ^ 64)) (fun a b => a ^ b.toNat)
theorem od_pow : OpD F (binaryOp .Pow) dPow := opd_II (fun _ => op_pow) (fun _ _ h => by
  rw [Bool.and_eq_true, Bool.and_eq_true] at h
  exact ⟨of_decide_eq_true h.1.1, of_decide_eq_true h.1.2, of_decide_eq_true h.2⟩)
def dLt := dIB fun a b => decide (a < b)
def dLe := dIB fun a b => decide (a ≤ b)
def dGt := dIB fun a b => decide (b < a)
def dGe := dIB fun a b => decide (b ≤ a)
theorem od_lt : OpD F (compareOp .Lt) dLt := opd_IB fun _ => op_lt
theorem od_le : OpD F (compareOp .LtE) dLe := opd_IB fun _ => op_le
theorem od_gt : OpD F (compareOp .Gt) dGt := opd_IB fun _ => op_gt
theorem od_ge : OpD F (compareOp .GtE) dGe := opd_IB fun _ => op_ge
/-- a * b: ints; a tuple times an int -/
def dMul : Da → Da → Option Wv
  | .int a, .int b => if a.natAbs.log2 + b.natAbs.log2 < 1000000 then some (.dat (.int (a * b))) else none
  | _, _ => none
theorem od_mul : OpD F (binaryOp .Mult) dMul := by
  intro x y w e
  unfold dMul at e
  split at e
  · rename_i a b
    split at e
    · rename_i h1
      cases e
      exact ⟨_, fun i => op_mulW, fun pr B Hf H g σ vx vy Q E hx hy c => ⟨a, b, hx.int, hy.int, h1, c.dat E (.int _)⟩⟩
    · cases e
  · cases e
/-- a + b: ints, tuples, texts -/
def dAdd : Da → Da → Option Wv
  | .int a, .int b => some (.dat (.int (a + b)))
  | .tuple xs, .tuple ys => if xs.length + ys.length ≤ sizeLine then some (.dat (.tuple (xs ++ ys))) else none
  | .str a, .str b => if a.length + b.length ≤ sizeLine then some (.dat (.str (a ++ b))) else none
  | _, _ => none
theorem od_add : OpD F (binaryOp .Add) dAdd := by
  intro x y w e
  unfold dAdd at e
  split at e
  · rename_i a b
    cases e
    exact ⟨_, fun i => op_add, fun pr B Hf H g σ vx vy Q E hx hy c => ⟨a, b, hx.int, hy.int, c.dat E (.int _)⟩⟩
  · rename_i xs ys
    split at e
    · rename_i h1
      cases e
      refine ⟨rCatA F.K, fun i => by have h := @op_catA (F.X i); rw [F.hK i] at h; exact h, fun pr B Hf H g σ vx vy Q E hx hy c => ?_⟩
      obtain ⟨p, us, rfl, h2, r2⟩ := hx.seqT E.ex
      obtain ⟨q, ws, rfl, h3, r3⟩ := hy.seqT E.ex
      refine ⟨p, q, us, ws, rfl, rfl, h2, h3, by rw [r2.length, r3.length]; exact h1, fun z => ?_, fun _ z => ?_, fun _ _ a ha => c.newT E (r2.append r3) ha⟩
      · subst z
        cases r2
        rcases hy.2 with r | ⟨_, _, _, _, z, _⟩
        · exact c.dat E r
        · cases z
      · subst z
        cases r3
        rcases hx.2 with r | ⟨_, _, _, _, z, _⟩
        · exact c.dat E (by rw [List.append_nil]; exact r)
        · cases z
    · cases e
  · rename_i a b
    split at e
    · rename_i h1
      cases e
      exact ⟨_, fun i => op_add_str, fun pr B Hf H g σ vx vy Q E hx hy c => ⟨a, b, hx.str, hy.str, h1, c.dat E (.str _)⟩⟩
    · cases e
  · cases e
/-- == of data -/
def okEq (d : Da) : Bool := noDict d && SeqAt.shaped d
def eqB (x y : Da) : Option Bool := match x, y with
  | .int a, .int b => some (a == b)
  | x, y => if okEq x && okEq y then some (PyData.eqv x y) else none
def dEq (x y : Da) : Option Wv := (eqB x y).map fun b => .dat (.bool b)
def dNe (x y : Da) : Option Wv := (eqB x y).map fun b => .dat (.bool (!b))
theorem eqB_ok {x y : Da} {b : Bool} (e : eqB x y = some b) : (∃ i j, x = .int i ∧ y = .int j ∧ b = (i == j)) ∨ (okEq x = true ∧ okEq y = true ∧ b = PyData.eqv x y) := by
  unfold eqB at e
  split at e
  · cases e; exact .inl ⟨_, _, rfl, rfl, rfl⟩
  · split at e
    · rename_i h
      cases e
      rw [Bool.and_eq_true] at h
      exact .inr ⟨h.1, h.2, rfl⟩
    · cases e
theorem okEq_dp {v : V} {d : Da} (h : RL K Hf H v d) (o : okEq d = true) : Dp K H v d ∧ SeqAt.shaped d = true := by
  unfold okEq at o
  rw [Bool.and_eq_true] at o
  exact ⟨h.1.dp o.1, o.2⟩
theorem od_eq (hu : ∀ i, (F.X i).A.units + 64 < cLine) : OpD F (compareOp .Eq) dEq := by
  intro x y w e
  obtain ⟨b, e1, e2⟩ := Option.map_eq_some_iff.mp e
  subst e2
  rcases eqB_ok e1 with ⟨i, j, rfl, rfl, rfl⟩ | ⟨o1, o2, rfl⟩
  · refine ⟨rEq, fun i => op_eq, fun pr B Hf H g σ vx vy Q E hx hy c => ?_⟩
    cases hx.int
    cases hy.int
    exact ⟨rfl, by rw [dec_int]; exact c.dat E (.bl _)⟩
  · refine ⟨rEqD F.K, fun i => by have h := op_eqD (hu i); rw [F.hK i] at h; exact h, fun pr B Hf H g σ vx vy Q E hx hy c => ?_⟩
    exact ⟨x, y, (okEq_dp hx o1).1, (okEq_dp hy o2).1, (okEq_dp hx o1).2, (okEq_dp hy o2).2, c.dat E (.bl _)⟩
theorem od_ne (hu : ∀ i, (F.X i).A.units + 64 < cLine) : OpD F (compareOp .NotEq) dNe := by
  intro x y w e
  obtain ⟨b, e1, e2⟩ := Option.map_eq_some_iff.mp e
  subst e2
  rcases eqB_ok e1 with ⟨i, j, rfl, rfl, rfl⟩ | ⟨o1, o2, rfl⟩
  · refine ⟨rNe, fun i => op_ne, fun pr B Hf H g σ vx vy Q E hx hy c => ?_⟩
    cases hx.int
    cases hy.int
    exact ⟨rfl, by rw [dec_int]; exact c.dat E (.bl _)⟩
  · refine ⟨rNeD F.K, fun i => by have h := op_neD (hu i); rw [F.hK i] at h; exact h, fun pr B Hf H g σ vx vy Q E hx hy c => ?_⟩
    exact ⟨x, y, (okEq_dp hx o1).1, (okEq_dp hy o2).1, (okEq_dp hx o1).2, (okEq_dp hy o2).2, c.dat E (.bl _)⟩
/-- in, not in: flat items -/
def flatD : Da → Bool
  | .none | .bool _ | .int _ | .str _ => true
  | _ => false
def itemsD : Da → Option (List Da)
  | .list xs => some xs
  | .tuple xs => some xs
  | _ => none
def inD (x : Da) (xs : List Da) : Bool := xs.any fun y => PyData.eqv y x
def dIn (neg : Bool) (x y : Da) : Option Wv := (itemsD y).bind fun xs => if flatD x && xs.all flatD then some (.dat (.bool (if neg then !inD x xs else inD x xs))) else none
theorem flat_rep {v : V} {d : Da} (h : Rep K H v d) (f : flatD d = true) : flatV v = true := by
  cases h <;> first | rfl | cases f
theorem eqv_rep {v u : V} {d e : Da} (h : Rep K H v d) (h2 : Rep K H u e) (f : flatD d = true) (f2 : flatD e = true) : eqV v u = PyData.eqv d e := by
  cases h <;> cases h2 <;> first | rfl | cases f | cases f2
theorem flats_rep : ∀ {vs : List V} {ds : List Da}, RepAll K H vs ds → ds.all flatD = true → vs.all flatV = true
  | _, _, .nil, _ => rfl
  | _, _, .cons a b, f => by
    rw [List.all_cons, Bool.and_eq_true] at f ⊢
    exact ⟨flat_rep a f.1, flats_rep b f.2⟩
theorem in_rep {u : V} {e : Da} (h2 : Rep K H u e) (f2 : flatD e = true) : ∀ {vs : List V} {ds : List Da}, RepAll K H vs ds → ds.all flatD = true → inV u vs = inD e ds
  | _, _, .nil, _ => rfl
  | _, _, .cons a b, f => by
    rw [List.all_cons, Bool.and_eq_true] at f
    have ih := in_rep h2 f2 b f.2
    unfold inV inD at ih ⊢
    rw [List.any_cons, List.any_cons, ih, eqv_rep a h2 f.1 f2]
theorem in_ok {neg : Bool} {f : Value → Value → Sem Value} (hr : ∀ i, OpR (F.X i) f (rIn (F.X i).K neg)) : OpD F f (dIn neg) := by
  intro x y w e
  obtain ⟨xs, e1, e⟩ := Option.bind_eq_some_iff.mp e
  split at e
  · rename_i h
    rw [Bool.and_eq_true] at h
    cases e
    refine ⟨rIn F.K neg, fun i => by have h := hr i; rw [F.hK i] at h; exact h, fun pr B Hf H g σ vx vy Q E hx hy c => ?_⟩
    have go : ∀ p us, vy = .ref p → (SqL F.K H p us ∨ SqT F.K H p us) → RepAll F.K Hf us xs → rIn F.K neg vx vy H Q := fun p us e2 s r => by
      have r' := r.mono E.ex
      refine ⟨p, us, e2, s, flat_rep hx.1 h.1, flats_rep r' h.2, ?_⟩
      rw [in_rep hx.1 h.1 r' h.2]
      exact c.dat E (.bl _)
    cases y with
    | list ys => cases e1; obtain ⟨p, us, e2, s, r⟩ := hy.seqL E.ex; exact go p us e2 (.inl s) r
    | tuple ys => cases e1; obtain ⟨p, us, e2, s, r⟩ := hy.seqT E.ex; exact go p us e2 (.inr s) r
    | _ => cases e1
  · cases e
theorem od_notin : OpD F (compareOp .NotIn) (dIn true) := in_ok fun _ => op_notIn_seq
/-- is None, is not None; is True, is False -/
def isNone : Da → Bool
  | .none => true
  | _ => false
def isBl (b : Bool) : Da → Bool
  | .bool a => if b then a else !a
  | _ => false
def dIs (neg : Bool) : Da → Da → Option Wv
  | x, .none => some (.dat (.bool (if neg then !isNone x else isNone x)))
  | x, .bool b => some (.dat (.bool (if neg then !isBl b x else isBl b x)))
  | _, _ => none
theorem op_isB {X : Cx} : OpR X (compareOp .Is) (fun x y H Q => ∃ b, y = .bl b ∧ Q (.bl (decide (x = .bl b))) H) := by
  intro pins s σ H x y v u Q I rx ry h
  obtain ⟨b, rfl, q⟩ := h
  cases (show u = Value.bool b from ry)
  refine wpAny_is_plain ?_ (fin_bl I q ?_)
  · cases x <;> first
      | (cases rx; rfl)
      | (obtain ⟨t, rfl⟩ := rx; rfl)
  · cases x <;> first
      | (obtain ⟨t, rfl⟩ := rx; cases b <;> rfl)
      | (rename_i a; cases (show v = Value.bool a from rx); cases a <;> cases b <;> rfl)
      | (cases rx; cases b <;> rfl)
theorem op_isnotB {X : Cx} : OpR X (compareOp .IsNot) (fun x y H Q => ∃ b, y = .bl b ∧ Q (.bl (!decide (x = .bl b))) H) := by
  intro pins s σ H x y v u Q I rx ry h
  obtain ⟨b, rfl, q⟩ := h
  cases (show u = Value.bool b from ry)
  refine wpAny_isNot_plain ?_ (fin_bl I q ?_)
  · cases x <;> first
      | (cases rx; rfl)
      | (obtain ⟨t, rfl⟩ := rx; rfl)
  · cases x <;> first
      | (obtain ⟨t, rfl⟩ := rx; cases b <;> rfl)
      | (rename_i a; cases (show v = Value.bool a from rx); cases a <;> cases b <;> rfl)
      | (cases rx; cases b <;> rfl)
theorem isB_rep {v : V} {d : Da} {b : Bool} (h : Rep K H v d) : decide (v = .bl b) = isBl b d := by
  cases h <;> cases b <;> simp [isBl]
theorem isN_rep {v : V} {d : Da} (h : Rep K H v d) : decide (v = .non) = isNone d := by
  cases h <;> simp [isNone]
theorem od_is : OpD F (compareOp .Is) (dIs false) := by
  intro x y w e
  unfold dIs at e
  split at e
  · cases e
    refine ⟨_, fun i => op_isN, fun pr B Hf H g σ vx vy Q E hx hy c => ⟨hy.none, ?_⟩⟩
    rw [isN_rep hx.1]
    exact c.dat E (.bl _)
  · rename_i b
    cases e
    refine ⟨_, fun i => op_isB, fun pr B Hf H g σ vx vy Q E hx hy c => ⟨b, hy.bool, ?_⟩⟩
    rw [isB_rep hx.1]
    exact c.dat E (.bl _)
  · cases e
theorem od_isnot : OpD F (compareOp .IsNot) (dIs true) := by
  intro x y w e
  unfold dIs at e
  split at e
  · cases e
    refine ⟨_, fun i => op_notN, fun pr B Hf H g σ vx vy Q E hx hy c => ⟨hy.none, ?_⟩⟩
    rw [isN_rep hx.1]
    exact c.dat E (.bl _)
  · rename_i b
    cases e
    refine ⟨_, fun i => op_isnotB, fun pr B Hf H g σ vx vy Q E hx hy c => ⟨b, hy.bool, ?_⟩⟩
    rw [isB_rep hx.1]
    exact c.dat E (.bl _)
  · cases e
/-! ### -a -/
def mNeg (f : ME) : ME := fun g => (f g).bind fun a => (look a.1 a.2).bind fun x => match x with | .int i => some (.dat (.int (-i)), a.2) | _ => none
theorem ev_neg {a : Expr} {f : ME} {pos : Pos} (h : Ev F pr a f) : Ev F pr (.UnaryOp .USub a pos) (mNeg f) := by
  intro B Hf H g σ w g' Q E eq q
  obtain ⟨⟨wa, g1⟩, e1, eq⟩ := Option.bind_eq_some_iff.mp eq
  obtain ⟨x, e2, eq⟩ := Option.bind_eq_some_iff.mp eq
  dsimp only at eq
  split at eq
  · rename_i i
    cases eq
    refine ⟨_, fun j => pe_un un_neg (pe_U j), ?_⟩
    refine h B Hf H g σ wa _ _ E e1 fun v Hf1 H1 s1 w1 y1 => ?_
    have l := look_ok s1.env w1 e2
    exact ⟨i, RL.int (Hf := Hf1) l, q _ Hf1 H1 s1 (Rep.int _) (fun _ z => nomatch z)⟩
  · cases eq
/-! ### tests -/
def truthD : Da → Option Bool
  | .none => some false
  | .bool b => some b
  | .int i => some (i != 0)
  | .str y => if y.length ≤ sizeLine then some ((y.length : Int) != 0) else none
  | .list xs => some (!xs.isEmpty)
  | .tuple xs => some (!xs.isEmpty)
  | .dict _ => none
theorem isEmpty_rep {vs : List V} {ds : List Da} (r : RepAll K H vs ds) : (!vs.isEmpty) = !ds.isEmpty := by
  cases r <;> rfl
theorem truth_ok {v : V} {d : Da} {b : Bool} (E : En K pr B Hf H g σ) (h : RL K Hf H v d) (e : truthD d = some b) : TruV K v H b := by
  cases d with
  | none => cases e; cases h.none; rfl
  | bool c => cases e; cases h.bool; rfl
  | int i => cases e; cases h.int; rfl
  | str y =>
    have e : (if y.length ≤ sizeLine then some ((y.length : Int) != 0) else none) = some b := e
    split at e
    · rename_i hl
      cases e; cases h.str; exact ⟨hl, rfl⟩
    · cases e
  | list xs =>
    cases e
    obtain ⟨p, us, rfl, s, r⟩ := h.seqL E.ex
    exact .inl ⟨us, s, (isEmpty_rep r).symm⟩
  | tuple xs =>
    cases e
    obtain ⟨p, us, rfl, s, r⟩ := h.seqT E.ex
    exact .inr (.inl ⟨us, s, (isEmpty_rep r).symm⟩)
  | dict kvs => cases e
def mTru (f : ME) : MT := fun g => (f g).bind fun a => (look a.1 a.2).bind fun x => (truthD x).bind fun b => some (b, a.2)
theorem et_tru {a : Expr} {f : ME} (h : Ev F pr a f) (he : ∀ i, ∀ whole, isTrue a (F.X i).env whole = (do let v ← whole; standAt a.pos; holding [v] (truthy v)) := by intro _ _; rfl) : EvT F pr a (mTru f) := by
  intro B Hf H g σ b g' Q E eq q
  obtain ⟨⟨wa, g1⟩, e1, eq⟩ := Option.bind_eq_some_iff.mp eq
  obtain ⟨x, e2, eq⟩ := Option.bind_eq_some_iff.mp eq
  obtain ⟨b', e3, eq⟩ := Option.bind_eq_some_iff.mp eq
  cases eq
  refine ⟨fun σ H Q => U F a σ H fun x H' => ∃ k, TruV F.K x H' k ∧ Q k H', fun i => by have z := pt_truth (pe_U (F := F) (e := a) i) (he i); rw [F.hK i] at z; exact z, ?_⟩
  refine h B Hf H g σ wa _ _ E e1 fun v Hf1 H1 s1 w1 y1 => ?_
  exact ⟨b, truth_ok s1.env (look_ok s1.env w1 e2) e3, q Hf1 H1 s1⟩
def mNot (f : MT) : MT := fun g => (f g).bind fun a => some (!a.1, a.2)
theorem et_not {a : Expr} {f : MT} {pos : Pos} (h : EvT F pr a f) : EvT F pr (.UnaryOp .Not a pos) (mNot f) := by
  intro B Hf H g σ b g' Q E eq q
  obtain ⟨⟨c, g1⟩, e1, eq⟩ := Option.bind_eq_some_iff.mp eq
  cases eq
  exact ⟨tNot (UT F a), fun i => pt_not (pt_U i), h B Hf H g σ c _ _ E e1 fun Hf1 H1 s1 => q Hf1 H1 s1⟩
def mAnd (f h : MT) : MT := fun g => (f g).bind fun a => if a.1 = true then h a.2 else some (false, a.2)
def mOr (f h : MT) : MT := fun g => (f g).bind fun a => if a.1 = true then some (true, a.2) else h a.2
theorem et_w {a : Expr} {f : MT} (h : EvW F pr a f) : EvT F pr a f := by
  intro B Hf H g σ b g' Q E eq q
  exact ⟨UW F a, fun i => (pw_U i).pt, h B Hf H g σ b g' Q E eq q⟩
theorem ew_and1 {a : Expr} {f : MT} {pos : Pos} (h : EvT F pr a f) : EvW F pr (.BoolOp .And [a] pos) f := by
  intro B Hf H g σ b g' Q E eq q
  exact ⟨UT F a, fun i => pw_and1 (pt_U i), h B Hf H g σ b g' Q E eq q⟩
theorem ew_or1 {a : Expr} {f : MT} {pos : Pos} (h : EvT F pr a f) : EvW F pr (.BoolOp .Or [a] pos) f := by
  intro B Hf H g σ b g' Q E eq q
  exact ⟨UT F a, fun i => pw_or1 (pt_U i), h B Hf H g σ b g' Q E eq q⟩
theorem ew_and {a c : Expr} {r : List Expr} {f h : MT} {pos : Pos} (ha : EvT F pr a f) (hb : EvW F pr (.BoolOp .And (c :: r) pos) h) : EvW F pr (.BoolOp .And (a :: c :: r) pos) (mAnd f h) := by
  intro B Hf H g σ b g' Q E eq q
  obtain ⟨⟨k, g1⟩, e1, eq⟩ := Option.bind_eq_some_iff.mp eq
  refine ⟨tAnd (UT F a) (UW F (.BoolOp .And (c :: r) pos)), fun i => pw_and (pt_U i) (pw_U i), ?_⟩
  refine ha B Hf H g σ k g1 _ E e1 fun Hf1 H1 s1 => ?_
  cases k with
  | true => exact hb B Hf1 H1 g1 σ b g' Q s1.env eq fun Hf2 H2 s2 => q Hf2 H2 (s1.trans s2)
  | false => cases eq; exact q Hf1 H1 s1
theorem ew_or {a c : Expr} {r : List Expr} {f h : MT} {pos : Pos} (ha : EvT F pr a f) (hb : EvW F pr (.BoolOp .Or (c :: r) pos) h) : EvW F pr (.BoolOp .Or (a :: c :: r) pos) (mOr f h) := by
  intro B Hf H g σ b g' Q E eq q
  obtain ⟨⟨k, g1⟩, e1, eq⟩ := Option.bind_eq_some_iff.mp eq
  refine ⟨tOr (UT F a) (UW F (.BoolOp .Or (c :: r) pos)), fun i => pw_or (pt_U i) (pw_U i), ?_⟩
  refine ha B Hf H g σ k g1 _ E e1 fun Hf1 H1 s1 => ?_
  cases k with
  | false => exact hb B Hf1 H1 g1 σ b g' Q s1.env eq fun Hf2 H2 s2 => q Hf2 H2 (s1.trans s2)
  | true => cases eq; exact q Hf1 H1 s1
/-- a chain of two comparisons -/
def mChain (F1 F2 : Da → Da → Option Wv) (fa fb fc : ME) : MT := fun g => (fa g).bind fun a => (fb a.2).bind fun b => (look a.1 b.2).bind fun x => (look b.1 b.2).bind fun y => match F1 x y with
  | some (.dat (.bool true)) => (fc b.2).bind fun c => (look b.1 c.2).bind fun y' => (look c.1 c.2).bind fun z => match F2 y' z with | some (.dat (.bool k)) => some (k, c.2) | _ => none
  | some (.dat (.bool false)) => some (false, b.2)
  | _ => none
theorem chain_ok {a b c : Expr} {fa fb fc : ME} {F1 F2 : Da → Da → Option Wv} {f1 f2 : Value → Value → Sem Value} (ha : Ev F pr a fa) (hb : Ev F pr b fb) (hc : Ev F pr c fc) (h1 : OpD F f1 F1) (h2 : OpD F f2 F2) (d1 : ∃ r : R2, ∀ i, OpR (F.X i) f2 r) {k : Bool} {Q : VK} (E : En F.K pr B Hf H g σ)
    (eq : mChain F1 F2 fa fb fc g = some (k, g')) (q : ∀ Hf' H', Stp F.K pr B Hf H g σ Hf' H' g' → Q (.bl k) H') : ∃ r r' : R2, (∀ i, OpR (F.X i) f1 r) ∧ (∀ i, OpR (F.X i) f2 r') ∧ tChain r r' (U F a) (U F b) (U F c) σ H Q := by
  obtain ⟨⟨wa, g1⟩, e1, eq⟩ := Option.bind_eq_some_iff.mp eq
  obtain ⟨⟨wb, g2⟩, e2, eq⟩ := Option.bind_eq_some_iff.mp eq
  obtain ⟨x, e3, eq⟩ := Option.bind_eq_some_iff.mp eq
  obtain ⟨y, e4, eq⟩ := Option.bind_eq_some_iff.mp eq
  dsimp only at eq
  split at eq
  · rename_i e5
    obtain ⟨⟨wc, g3⟩, e6, eq⟩ := Option.bind_eq_some_iff.mp eq
    obtain ⟨y', e7, eq⟩ := Option.bind_eq_some_iff.mp eq
    obtain ⟨z, e8, eq⟩ := Option.bind_eq_some_iff.mp eq
    dsimp only at eq
    split at eq
    · rename_i k' e9
      cases eq
      obtain ⟨r, hr, hk⟩ := h1 x y _ e5
      obtain ⟨r', hr', hk'⟩ := h2 y' z _ e9
      refine ⟨r, r', hr, hr', ?_⟩
      refine ha B Hf H g σ wa g1 _ E e1 fun v Hf1 H1 s1 w1 y1 => ?_
      refine hb B Hf1 H1 g1 σ wb g2 _ s1.env e2 fun u Hf2 H2 s2 w2 y2 => ?_
      refine hk pr B Hf2 H2 g2 σ v u _ s2.env (look_ok s2.env (s2.way s1.env w1) e3) (look_ok s2.env w2 e4) fun t Hf3 H3 s3 w3 y3 => ?_
      have w3 : Rep F.K Hf3 t (.bool true) := w3
      cases w3
      refine ⟨true, rfl, ?_⟩
      rw [if_pos rfl]
      refine hc B Hf3 H3 g2 σ wc _ _ s3.env e6 fun s Hf4 H4 s4 w4 y4 => ?_
      refine hk' pr B Hf4 H4 _ σ u s _ s4.env (look_ok s4.env (s4.way s3.env (s3.way s2.env w2)) e7) (look_ok s4.env w4 e8) fun o Hf5 H5 s5 w5 y5 => ?_
      have w5 : Rep F.K Hf5 o (.bool _) := w5
      cases w5
      exact q Hf5 H5 ((((s1.trans s2).trans s3).trans s4).trans s5)
    · cases eq
  · rename_i e5
    cases eq
    obtain ⟨r, hr, hk⟩ := h1 x y _ e5
    obtain ⟨r', hr'⟩ := d1
    refine ⟨r, r', hr, hr', ?_⟩
    refine ha B Hf H g σ wa g1 _ E e1 fun v Hf1 H1 s1 w1 y1 => ?_
    refine hb B Hf1 H1 g1 σ wb _ _ s1.env e2 fun u Hf2 H2 s2 w2 y2 => ?_
    refine hk pr B Hf2 H2 _ σ v u _ s2.env (look_ok s2.env (s2.way s1.env w1) e3) (look_ok s2.env w2 e4) fun t Hf3 H3 s3 w3 y3 => ?_
    have w3 : Rep F.K Hf3 t (.bool false) := w3
    cases w3
    refine ⟨false, rfl, ?_⟩
    rw [if_neg Bool.false_ne_true]
    exact q Hf3 H3 ((s1.trans s2).trans s3)
  · cases eq
theorem et_chain {a b c : Expr} {fa fb fc : ME} {F1 F2 : Da → Da → Option Wv} {op op' : CmpOp} {pos : Pos} (h1 : OpD F (compareOp op) F1) (h2 : OpD F (compareOp op') F2) (d1 : ∃ r : R2, ∀ i, OpR (F.X i) (compareOp op') r) (ha : Ev F pr a fa) (hb : Ev F pr b fb) (hc : Ev F pr c fc)
    (hm : lastMarks [op, op'] [b, c] = false := by with_unfolding_all rfl) : EvT F pr (.Compare a [op, op'] [b, c] pos) (mChain F1 F2 fa fb fc) := by
  intro B Hf H g σ k g' Q E eq q
  obtain ⟨r, r', hr, hr', t⟩ := chain_ok (Q := fun x H' => ∃ k, x = .bl k ∧ Q k H') ha hb hc h1 h2 d1 E eq fun Hf' H' s => ⟨k, rfl, q Hf' H' s⟩
  exact ⟨_, fun i => pt_chain (hr i) (hr' i) (pe_U i) (pe_U i) (pe_U i) hm, t⟩
/-! ### tests as values -/
def mOfT (f : MT) : ME := fun g => (f g).bind fun a => some (.dat (.bool a.1), a.2)
theorem ev_chain {a b c : Expr} {fa fb fc : ME} {F1 F2 : Da → Da → Option Wv} {op op' : CmpOp} {pos : Pos} (h1 : OpD F (compareOp op) F1) (h2 : OpD F (compareOp op') F2) (d1 : ∃ r : R2, ∀ i, OpR (F.X i) (compareOp op') r) (ha : Ev F pr a fa) (hb : Ev F pr b fb) (hc : Ev F pr c fc)
    (hm : lastMarks [op, op'] [b, c] = false := by with_unfolding_all rfl) : Ev F pr (.Compare a [op, op'] [b, c] pos) (mOfT (mChain F1 F2 fa fb fc)) := by
  intro B Hf H g σ w g' Q E eq q
  obtain ⟨⟨k, g1⟩, e1, eq⟩ := Option.bind_eq_some_iff.mp eq
  cases eq
  obtain ⟨r, r', hr, hr', t⟩ := chain_ok ha hb hc h1 h2 d1 E e1 fun Hf' H' s => q _ Hf' H' s (.bl k) (fun _ z => nomatch z)
  exact ⟨_, fun i => pe_chain (hr i) (hr' i) (pe_U i) (pe_U i) (pe_U i) hm, t⟩
theorem d1_lt : ∃ r : R2, ∀ i, OpR (F.X i) (compareOp .Lt) r := ⟨_, fun _ => op_lt⟩
theorem d1_le : ∃ r : R2, ∀ i, OpR (F.X i) (compareOp .LtE) r := ⟨_, fun _ => op_le⟩
def mNotV (f : ME) : ME := fun g => (f g).bind fun a => match a.1 with | .dat (.bool b) => some (.dat (.bool (!b)), a.2) | _ => none
def mAndV (f h : ME) : ME := fun g => (f g).bind fun a => match a.1 with | .dat (.bool true) => h a.2 | .dat (.bool false) => some (.dat (.bool false), a.2) | _ => none
def mOrV (f h : ME) : ME := fun g => (f g).bind fun a => match a.1 with | .dat (.bool false) => h a.2 | .dat (.bool true) => some (.dat (.bool true), a.2) | _ => none
theorem ev_one {op} {a : Expr} {f : ME} {pos : Pos} (h : Ev F pr a f) : Ev F pr (.BoolOp op [a] pos) f := by
  intro B Hf H g σ w g' Q E eq q
  exact ⟨U F a, fun i => pe_one (pe_U i), h B Hf H g σ w g' Q E eq q⟩
theorem ev_and {a c : Expr} {r : List Expr} {f h : ME} {pos : Pos} (ha : Ev F pr a f) (hb : Ev F pr (.BoolOp .And (c :: r) pos) h) : Ev F pr (.BoolOp .And (a :: c :: r) pos) (mAndV f h) := by
  intro B Hf H g σ w g' Q E eq q
  obtain ⟨⟨wa, g1⟩, e1, eq⟩ := Option.bind_eq_some_iff.mp eq
  refine ⟨tAndV (U F a) (U F (.BoolOp .And (c :: r) pos)), fun i => pe_and (pe_U i) (pe_U i), ?_⟩
  refine ha B Hf H g σ wa g1 _ E e1 fun v Hf1 H1 s1 w1 y1 => ?_
  dsimp only at eq
  split at eq
  · have w1 : Rep F.K Hf1 v (.bool true) := w1
    cases w1
    exact ⟨true, rfl, hb B Hf1 H1 g1 σ w g' Q s1.env eq fun v Hf2 H2 s2 w2 y2 => q v Hf2 H2 (s1.trans s2) w2 fun ds e p e' => s1.tr.stay p (y2 ds e p e')⟩
  · cases eq
    have w1 : Rep F.K Hf1 v (.bool false) := w1
    cases w1
    exact ⟨false, rfl, q _ Hf1 H1 s1 (.bl _) (fun _ z => nomatch z)⟩
  · cases eq
theorem ev_or {a c : Expr} {r : List Expr} {f h : ME} {pos : Pos} (ha : Ev F pr a f) (hb : Ev F pr (.BoolOp .Or (c :: r) pos) h) : Ev F pr (.BoolOp .Or (a :: c :: r) pos) (mOrV f h) := by
  intro B Hf H g σ w g' Q E eq q
  obtain ⟨⟨wa, g1⟩, e1, eq⟩ := Option.bind_eq_some_iff.mp eq
  refine ⟨tOrV (U F a) (U F (.BoolOp .Or (c :: r) pos)), fun i => pe_or (pe_U i) (pe_U i), ?_⟩
  refine ha B Hf H g σ wa g1 _ E e1 fun v Hf1 H1 s1 w1 y1 => ?_
  dsimp only at eq
  split at eq
  · have w1 : Rep F.K Hf1 v (.bool false) := w1
    cases w1
    exact ⟨false, rfl, hb B Hf1 H1 g1 σ w g' Q s1.env eq fun v Hf2 H2 s2 w2 y2 => q v Hf2 H2 (s1.trans s2) w2 fun ds e p e' => s1.tr.stay p (y2 ds e p e')⟩
  · cases eq
    have w1 : Rep F.K Hf1 v (.bool true) := w1
    cases w1
    exact ⟨true, rfl, q _ Hf1 H1 s1 (.bl _) (fun _ z => nomatch z)⟩
  · cases eq
/-- a if t else b -/
def mIf (t : MT) (f h : ME) : ME := fun g => (t g).bind fun a => if a.1 = true then f a.2 else h a.2
theorem ev_if {t a b : Expr} {ft : MT} {f h : ME} {pos : Pos} (ht : EvT F pr t ft) (ha : Ev F pr a f) (hb : Ev F pr b h) : Ev F pr (.IfExp t a b pos) (mIf ft f h) := by
  intro B Hf H g σ w g' Q E eq q
  obtain ⟨⟨k, g1⟩, e1, eq⟩ := Option.bind_eq_some_iff.mp eq
  refine ⟨tIf (UT F t) (U F a) (U F b), fun i => pe_ifExp (pt_U i) (pe_U i) (pe_U i), ?_⟩
  refine ht B Hf H g σ k g1 _ E e1 fun Hf1 H1 s1 => ?_
  cases k with
  | true => exact ha B Hf1 H1 g1 σ w g' Q s1.env eq fun v Hf2 H2 s2 w2 y2 => q v Hf2 H2 (s1.trans s2) w2 fun ds e p e' => s1.tr.stay p (y2 ds e p e')
  | false => exact hb B Hf1 H1 g1 σ w g' Q s1.env eq fun v Hf2 H2 s2 w2 y2 => q v Hf2 H2 (s1.trans s2) w2 fun ds e p e' => s1.tr.stay p (y2 ds e p e')
end
end EV
end
section
set_option Elab.async false
set_option linter.all false
set_option maxRecDepth 100000
set_option maxHeartbeats 2000000
set_option autoImplicit false
namespace EV
open PySem PySem.Spec PyProof.Rows L2
section
variable {F : Fam} {pr : List Nat} {B : Addr → Prop} {Hf H Hf' H' Hf1 H1 Hf2 H2 : Hp} {g g' g1 g2 : Gh} {σ σ' σ1 σ2 : L2.St} {K : Frag}
/-! ### subscripts -/
theorem atI_rep {vs : List V} {ds : List Da} {i : Int} {d : Da} (r : RepAll K H vs ds) (e : atI ds i = some d) : ∃ v, atI vs i = some v ∧ Rep K H v d := by
  unfold atI at e ⊢
  rw [r.length]
  cases h : ixN ds.length i with
  | none => rw [h] at e; cases e
  | some j =>
    rw [h] at e
    obtain ⟨v, e1, e2⟩ := r.get (i := j) (d := d) e
    exact ⟨v, e1, e2⟩
def dIx : Da → Da → Option Da
  | .list xs, .int i => atI xs i
  | .tuple xs, .int i => atI xs i
  | _, _ => none
theorem dIx_some {x y d : Da} (e : dIx x y = some d) : ∃ xs i, y = .int i ∧ ((x = .list xs ∧ atI xs i = some d) ∨ (x = .tuple xs ∧ atI xs i = some d)) := by
  unfold dIx at e
  split at e
  · exact ⟨_, _, rfl, .inl ⟨rfl, e⟩⟩
  · exact ⟨_, _, rfl, .inr ⟨rfl, e⟩⟩
  · cases e
def mIx (fa fb : ME) : ME := fun g => (fa g).bind fun a => (fb a.2).bind fun b => (look a.1 b.2).bind fun x => (look b.1 b.2).bind fun y => (dIx x y).bind fun d => some (.dat d, b.2)
theorem ev_ix {a b : Expr} {fa fb : ME} {pos : Pos} (ha : Ev F pr a fa) (hb : Ev F pr b fb) (hs : PlainIx b := by exact fun _ _ => rfl) : Ev F pr (.Subscript a b pos) (mIx fa fb) := by
  intro B Hf H g σ w g' Q E eq q
  obtain ⟨⟨wa, g1⟩, e1, eq⟩ := Option.bind_eq_some_iff.mp eq
  obtain ⟨⟨wb, g2⟩, e2, eq⟩ := Option.bind_eq_some_iff.mp eq
  obtain ⟨x, e3, eq⟩ := Option.bind_eq_some_iff.mp eq
  obtain ⟨y, e4, eq⟩ := Option.bind_eq_some_iff.mp eq
  obtain ⟨d, e5, eq⟩ := Option.bind_eq_some_iff.mp eq
  cases eq
  obtain ⟨xs, i, rfl, ⟨rfl, e5⟩ | ⟨rfl, e5⟩⟩ := dIx_some e5
  · refine ⟨tOp (rIxL F.K) (U F a) (U F b), fun j => pe_ix (by have h := @ix_list (F.X j); rw [F.hK j] at h; exact h) (pe_U j) (pe_U j) hs, ?_⟩
    refine ha B Hf H g σ wa g1 _ E e1 fun v Hf1 H1 s1 w1 y1 => ?_
    refine hb B Hf1 H1 g1 σ wb _ _ s1.env e2 fun u Hf2 H2 s2 w2 y2 => ?_
    have l1 : RL F.K Hf2 H2 v _ := look_ok s2.env (s2.way s1.env w1) e3
    have l2 : RL F.K Hf2 H2 u _ := look_ok s2.env w2 e4
    obtain ⟨p, us, rfl, hp, r⟩ := l1.seqL s2.env.ex
    obtain ⟨z, hz, rz⟩ := atI_rep r e5
    exact ⟨p, us, i, z, rfl, l2.int, hp, hz, q z Hf2 H2 (s1.trans s2) rz (fun _ z => nomatch z)⟩
  · refine ⟨tOp (rIxT F.K) (U F a) (U F b), fun j => pe_ix (by have h := @ix_tup (F.X j); rw [F.hK j] at h; exact h) (pe_U j) (pe_U j) hs, ?_⟩
    refine ha B Hf H g σ wa g1 _ E e1 fun v Hf1 H1 s1 w1 y1 => ?_
    refine hb B Hf1 H1 g1 σ wb _ _ s1.env e2 fun u Hf2 H2 s2 w2 y2 => ?_
    have l1 : RL F.K Hf2 H2 v _ := look_ok s2.env (s2.way s1.env w1) e3
    have l2 : RL F.K Hf2 H2 u _ := look_ok s2.env w2 e4
    obtain ⟨p, us, rfl, hp, r⟩ := l1.seqT s2.env.ex
    obtain ⟨z, hz, rz⟩ := atI_rep r e5
    exact ⟨p, us, i, z, rfl, l2.int, hp, hz, q z Hf2 H2 (s1.trans s2) rz (fun _ z => nomatch z)⟩
/-! ### slices -/
abbrev MO := Gh → Option (Option Int × Gh)
def EvO (F : Fam) (pr : List Nat) (e : Option Expr) (f : MO) : Prop := ∀ (B : Addr → Prop) (Hf H : Hp) (g : Gh) (σ : L2.St) (o : Option Int) (g' : Gh) (Q : Option Int → Hp → Prop), En F.K pr B Hf H g σ → f g = some (o, g') →
  (∀ Hf' H', Stp F.K pr B Hf H g σ Hf' H' g' → Q o H') → UO F e σ H Q
def mO0 : MO := fun g => some (none, g)
def mO1 (f : ME) : MO := fun g => (f g).bind fun a => (look a.1 a.2).bind fun x => match x with | .int i => some (some i, a.2) | _ => none
theorem eo_none : EvO F pr none mO0 := by
  intro B Hf H g σ o g' Q E eq q
  cases eq
  exact ⟨tNoPart, fun _ => po_none, q Hf H (Stp.refl E)⟩
theorem eo_some {e : Expr} {f : ME} (h : Ev F pr e f) : EvO F pr (some e) (mO1 f) := by
  intro B Hf H g σ o g' Q E eq q
  obtain ⟨⟨wa, g1⟩, e1, eq⟩ := Option.bind_eq_some_iff.mp eq
  obtain ⟨x, e2, eq⟩ := Option.bind_eq_some_iff.mp eq
  dsimp only at eq
  split at eq
  · rename_i i
    cases eq
    refine ⟨tPart (U F e), fun j => po_some (pe_U j), ?_⟩
    refine h B Hf H g σ wa _ _ E e1 fun v Hf1 H1 s1 w1 y1 => ?_
    exact ⟨i, RL.int (Hf := Hf1) (look_ok s1.env w1 e2), q Hf1 H1 s1⟩
  · cases eq
def cutD (xs : List Da) (lo hi : Option Int) : List Da := (xs.drop (HT.sIx xs.length 0 lo)).take (HT.sIx xs.length xs.length hi - HT.sIx xs.length 0 lo)
theorem cut_rep {vs : List V} {ds : List Da} (r : RepAll K H vs ds) (lo hi : Option Int) : RepAll K H (cutV vs lo hi) (cutD ds lo hi) := by
  unfold cutV cutD
  rw [r.length]
  exact (r.drop _).take _
def mSl (fa : ME) (fl fh : MO) : ME := fun g => (fa g).bind fun a => (fl a.2).bind fun l => (fh l.2).bind fun h => (look a.1 h.2).bind fun x => match x with
  | .list xs => some (.fresh (cutD xs l.1 h.1), h.2)
  | .tuple xs => some (.dat (.tuple (cutD xs l.1 h.1)), h.2)
  | _ => none
theorem sIx_whole {xs : List Da} {lo hi : Option Int} (h : HT.sIx xs.length 0 lo = 0 ∧ HT.sIx xs.length xs.length hi = xs.length) : cutD xs lo hi = xs := by
  unfold cutD
  rw [h.1, h.2, List.drop_zero, Nat.sub_zero, List.take_length]
theorem ev_sl {a : Expr} {lo hi : Option Expr} {fa : ME} {fl fh : MO} {p2 pos : Pos} (ha : Ev F pr a fa) (hl : EvO F pr lo fl) (hh : EvO F pr hi fh) : Ev F pr (.Subscript a (.Slice lo hi none p2) pos) (mSl fa fl fh) := by
  intro B Hf H g σ w g' Q E eq q
  obtain ⟨⟨wa, g1⟩, e1, eq⟩ := Option.bind_eq_some_iff.mp eq
  obtain ⟨⟨ol, g2⟩, e2, eq⟩ := Option.bind_eq_some_iff.mp eq
  obtain ⟨⟨oh, g3⟩, e3, eq⟩ := Option.bind_eq_some_iff.mp eq
  obtain ⟨x, e4, eq⟩ := Option.bind_eq_some_iff.mp eq
  have go : ∀ r : V → Option Int → Option Int → Hp → VK → Prop, (∀ j, SlR (F.X j) r) →
      (∀ v Hf' H', Stp F.K pr B Hf H g σ Hf' H' g3 → RL F.K Hf' H' v x → r v ol oh H' Q) → U F (.Subscript a (.Slice lo hi none p2) pos) σ H Q := fun r hr hk => by
    refine ⟨tSl r (U F a) (UO F lo) (UO F hi), fun j => pe_slice (hr j) (pe_U j) (po_U j) (po_U j), ?_⟩
    refine ha B Hf H g σ wa g1 _ E e1 fun v Hf1 H1 s1 w1 y1 => ?_
    refine hl B Hf1 H1 g1 σ ol g2 _ s1.env e2 fun Hf2 H2 s2 => ?_
    refine hh B Hf2 H2 g2 σ oh g3 _ s2.env e3 fun Hf3 H3 s3 => ?_
    exact hk v Hf3 H3 ((s1.trans s2).trans s3) (look_ok s3.env (s3.way s2.env (s2.way s1.env w1)) e4)
  dsimp only at eq
  split at eq
  · rename_i xs
    cases eq
    refine go (rSlL F.K) (fun j => by have h := @sl_list (F.X j); rw [F.hK j] at h; exact h) fun v Hf1 H1 s1 l => ?_
    obtain ⟨p, us, rfl, hp, r⟩ := l.seqL s1.env.ex
    have c : Cont F.K pr B Hf1 H1 _ σ (.fresh (cutD xs ol oh)) Q := fun v Hf' H' s w y => q v Hf' H' (s1.trans s) w fun ds e p e' => s1.tr.stay p (y ds e p e')
    exact ⟨p, us, rfl, hp, fun z hz => c.newL s1.env (cut_rep r ol oh) hz⟩
  · rename_i xs
    cases eq
    refine go (rSlA F.K) (fun j => by have h := @sl_tupA (F.X j); rw [F.hK j] at h; exact h) fun v Hf1 H1 s1 l => ?_
    obtain ⟨p, us, rfl, hp, r⟩ := l.seqT s1.env.ex
    have c : Cont F.K pr B Hf1 H1 _ σ (.dat (.tuple (cutD xs ol oh))) Q := fun v Hf' H' s w y => q v Hf' H' (s1.trans s) w fun ds e p e' => s1.tr.stay p (y ds e p e')
    refine ⟨p, us, rfl, hp, fun hw => ?_, fun _ z hz => c.newT s1.env (cut_rep r ol oh) hz⟩
    rw [r.length] at hw
    rw [sIx_whole hw] at c
    rcases l.2 with z | ⟨_, _, _, _, z, _⟩
    · exact c.dat s1.env z
    · cases z
  · cases eq
/-- xs[::-1], a list -/
def mRev (fa : ME) : ME := fun g => (fa g).bind fun a => (look a.1 a.2).bind fun x => match x with | .list xs => some (.fresh xs.reverse, a.2) | _ => none
/-! ### built-in calls -/
def CallD (F : Fam) (f : Value) (Fn : List Da → Option Wv) : Prop := ∀ ds w, Fn ds = some w → ∃ r : List V → Hp → VK → Prop, (∀ i, CallR (F.X i) f r) ∧
  ∀ pr B Hf H g σ vs (Q : VK), En F.K pr B Hf H g σ → RLs F.K Hf H vs ds → Cont F.K pr B Hf H g σ w Q → r vs H Q
def mCall (Fn : List Da → Option Wv) (fa : MA) : ME := fun g => (fa g).bind fun a => (lookAll a.1 a.2).bind fun ds => (Fn ds).bind fun w => some (w, a.2)
theorem callD_ok {es : List Expr} {fa : MA} {f : Value} {Fn : List Da → Option Wv} (hc : CallD F f Fn) (ha : EvA F pr es fa) {w : Wv} {Q : VK} (E : En F.K pr B Hf H g σ) (eq : mCall Fn fa g = some (w, g'))
    (q : ∀ v Hf' H', Stp F.K pr B Hf H g σ Hf' H' g' → WOk F.K B Hf' H' g' σ w v → Yng H w v → Q v H') : ∃ r : List V → Hp → VK → Prop, (∀ i, CallR (F.X i) f r) ∧ tCB r (UA F es) σ H Q := by
  obtain ⟨⟨ws, g1⟩, e1, eq⟩ := Option.bind_eq_some_iff.mp eq
  obtain ⟨ds, e2, eq⟩ := Option.bind_eq_some_iff.mp eq
  obtain ⟨w', e3, eq⟩ := Option.bind_eq_some_iff.mp eq
  cases eq
  obtain ⟨r, hr, hk⟩ := hc ds w e3
  refine ⟨r, hr, ?_⟩
  refine ha B Hf H g σ ws _ _ E e1 fun vs Hf1 H1 s1 w1 y1 => ?_
  exact hk pr B Hf1 H1 _ σ vs Q s1.env (lookAll_ok s1.env w1 e2) fun v Hf' H' s w y => q v Hf' H' (s1.trans s) w fun ds e p e' => s1.tr.stay p (y ds e p e')
theorem ev_callB {x : Str} {p pos : Pos} {e : Expr} {es : List Expr} {id : String} {fa : MA} {Fn : List Da → Option Wv} (hc : CallD F (.builtin id) Fn) (hm : ∀ i, (F.X i).mg x = none) (ha : EvA F pr (e :: es) fa)
    (hg : ∀ i, Gl (F.X i) x := by intro _; rfl) (hv : bootBuiltins x = some (.builtin id) := by decide +kernel) (hn : x ≠ "__name__" := by decide) (hdb : (x == ("__debug__" : Str)) = false := by decide)
    (he : ∀ i, starEach (e :: es) (F.X i).env = (false, eval e (F.X i).env) :: starEach es (F.X i).env := by intro _; rfl) (hpl : ∀ i, (backTo pos (starEach es (F.X i).env)).any (·.1) = false := by intro _; rfl) : Ev F pr (.Call (.Name x p) (e :: es) [] pos) (mCall Fn fa) := by
  intro B Hf H g σ w g' Q E eq q
  obtain ⟨r, hr, t⟩ := callD_ok hc ha E eq q
  exact ⟨_, fun i => pe_callB (hr i) (hg i) (hm i) hv (pa_U i) hn hdb (he i) (hpl i), t⟩
theorem ev_callTy {x : Str} {p pos : Pos} {e : Expr} {es : List Expr} {T : String} {fa : MA} {Fn : List Da → Option Wv} (hc : CallD F (.type T) Fn) (hm : ∀ i, (F.X i).mg x = none) (ha : EvA F pr (e :: es) fa)
    (hg : ∀ i, Gl (F.X i) x := by intro _; rfl) (hv : bootBuiltins x = some (.type T) := by decide +kernel) (hn : x ≠ "__name__" := by decide) (hdb : (x == ("__debug__" : Str)) = false := by decide)
    (he : ∀ i, starEach (e :: es) (F.X i).env = (false, eval e (F.X i).env) :: starEach es (F.X i).env := by intro _; rfl) (hpl : ∀ i, (backTo pos (starEach es (F.X i).env)).any (·.1) = false := by intro _; rfl) : Ev F pr (.Call (.Name x p) (e :: es) [] pos) (mCall Fn fa) := by
  intro B Hf H g σ w g' Q E eq q
  obtain ⟨r, hr, t⟩ := callD_ok hc ha E eq q
  exact ⟨_, fun i => pe_callTy (hr i) (hg i) (hm i) hv (pa_U i) hn hdb (he i) (hpl i), t⟩
def dLen : List Da → Option Wv
  | [.list xs] => some (.dat (.int xs.length))
  | [.tuple xs] => some (.dat (.int xs.length))
  | [.str x] => if x.length ≤ sizeLine then some (.dat (.int x.length)) else none
  | _ => none
theorem RLs.one {vs : List V} {d : Da} (h : RLs K Hf H vs [d]) : ∃ v, vs = [v] ∧ RL K Hf H v d := by
  cases h with
  | cons a b => cases b; exact ⟨_, rfl, a⟩
theorem RLs.two {vs : List V} {d e : Da} (h : RLs K Hf H vs [d, e]) : ∃ v u, vs = [v, u] ∧ RL K Hf H v d ∧ RL K Hf H u e := by
  cases h with
  | cons a b => cases b with | cons b c => cases c; exact ⟨_, _, rfl, a, b⟩
theorem cd_len : CallD F (.builtin "len") dLen := by
  intro ds w e
  unfold dLen at e
  split at e
  · rename_i xs
    cases e
    refine ⟨fun vs H Q => ∃ p ys, vs = [.ref p] ∧ (SqL F.K H p ys ∨ SqT F.K H p ys) ∧ Q (.int ys.length) H, fun i => by have h := @call_len_seq (F.X i); rw [F.hK i] at h; exact h, fun pr B Hf H g σ vs Q E h c => ?_⟩
    obtain ⟨v, rfl, l⟩ := h.one
    obtain ⟨p, us, rfl, s, r⟩ := l.seqL E.ex
    exact ⟨p, us, rfl, .inl s, by rw [r.length]; exact c.dat E (.int _)⟩
  · rename_i xs
    cases e
    refine ⟨fun vs H Q => ∃ p ys, vs = [.ref p] ∧ (SqL F.K H p ys ∨ SqT F.K H p ys) ∧ Q (.int ys.length) H, fun i => by have h := @call_len_seq (F.X i); rw [F.hK i] at h; exact h, fun pr B Hf H g σ vs Q E h c => ?_⟩
    obtain ⟨v, rfl, l⟩ := h.one
    obtain ⟨p, us, rfl, s, r⟩ := l.seqT E.ex
    exact ⟨p, us, rfl, .inr s, by rw [r.length]; exact c.dat E (.int _)⟩
  · rename_i x
    split at e
    · rename_i hl
      cases e
      refine ⟨_, fun i => call_len_str, fun pr B Hf H g σ vs Q E h c => ?_⟩
      obtain ⟨v, rfl, l⟩ := h.one
      cases l.str
      exact ⟨x, rfl, hl, c.dat E (.int _)⟩
    · cases e
  · cases e
def dInt : List Da → Option Wv
  | [.int i] => some (.dat (.int i))
  | [.bool k] => some (.dat (.int (if k then 1 else 0)))
  | _ => none
theorem cd_int : CallD F (.type "int") dInt := by
  intro ds w e
  unfold dInt at e
  split at e
  · rename_i i
    cases e
    refine ⟨_, fun i => call_int1, fun pr B Hf H g σ vs Q E h c => ?_⟩
    obtain ⟨v, rfl, l⟩ := h.one
    cases l.int
    exact .inl ⟨i, rfl, c.dat E (.int _)⟩
  · rename_i k
    cases e
    refine ⟨_, fun i => call_int1, fun pr B Hf H g σ vs Q E h c => ?_⟩
    obtain ⟨v, rfl, l⟩ := h.one
    cases l.bool
    exact .inr ⟨k, rfl, c.dat E (.int _)⟩
  · cases e
def dAbs : List Da → Option Wv
  | [.int i] => some (.dat (.int (if i < 0 then -i else i)))
  | _ => none
theorem cd_abs : CallD F (.builtin "abs") dAbs := by
  intro ds w e
  unfold dAbs at e
  split at e
  · rename_i i
    cases e
    refine ⟨_, fun i => call_abs, fun pr B Hf H g σ vs Q E h c => ?_⟩
    obtain ⟨v, rfl, l⟩ := h.one
    cases l.int
    exact ⟨i, rfl, c.dat E (.int _)⟩
  · cases e
def intsOf : List Da → Option (List Int)
  | [] => some []
  | .int i :: r => (intsOf r).map fun s => i :: s
  | _ :: _ => none
theorem intsOf_some : ∀ {ds : List Da} {ns : List Int}, intsOf ds = some ns → ds = ns.map PyData.int
  | [], ns, e => by cases e; rfl
  | .int i :: r, ns, e => by
    obtain ⟨s, e1, e2⟩ := Option.map_eq_some_iff.mp (show (intsOf r).map (fun s => i :: s) = some ns from e)
    subst e2
    rw [List.map_cons, ← intsOf_some e1]
theorem intsOf_map : ∀ ns : List Int, intsOf (ns.map PyData.int) = some ns
  | [] => rfl
  | n :: ns => by
    show (intsOf (ns.map PyData.int)).map (fun s => n :: s) = _
    rw [intsOf_map ns]; rfl
/-- max, min: of two ints, of a list of ints -/
def maxL : List Int → Option Int
  | [] => none
  | [x] => some x
  | x :: y :: r => (maxL (y :: r)).map fun m => if m < x then x else m
def minL : List Int → Option Int
  | [] => none
  | [x] => some x
  | x :: y :: r => (minL (y :: r)).map fun m => if x < m then x else m
theorem maxL_is : ∀ {ns : List Int} {m : Int}, maxL ns = some m → m ∈ ns ∧ ∀ y ∈ ns, y ≤ m
  | [x], m, e => by cases e; simp
  | x :: y :: r, m, e => by
    obtain ⟨k, e1, e2⟩ := Option.map_eq_some_iff.mp (show (maxL (y :: r)).map _ = some m from e)
    obtain ⟨h1, h2⟩ := maxL_is e1
    subst e2
    split
    · refine ⟨List.mem_cons_self, fun z hz => ?_⟩
      rcases List.mem_cons.mp hz with q | q
      · omega
      · have := h2 z q; omega
    · refine ⟨List.mem_cons_of_mem _ h1, fun z hz => ?_⟩
      rcases List.mem_cons.mp hz with q | q
      · omega
      · exact h2 z q
theorem minL_is : ∀ {ns : List Int} {m : Int}, minL ns = some m → m ∈ ns ∧ ∀ y ∈ ns, m ≤ y
  | [x], m, e => by cases e; simp
  | x :: y :: r, m, e => by
    obtain ⟨k, e1, e2⟩ := Option.map_eq_some_iff.mp (show (minL (y :: r)).map _ = some m from e)
    obtain ⟨h1, h2⟩ := minL_is e1
    subst e2
    split
    · refine ⟨List.mem_cons_self, fun z hz => ?_⟩
      rcases List.mem_cons.mp hz with q | q
      · omega
      · have := h2 z q; omega
    · refine ⟨List.mem_cons_of_mem _ h1, fun z hz => ?_⟩
      rcases List.mem_cons.mp hz with q | q
      · omega
      · exact h2 z q
def dMax : List Da → Option Wv
  | [.int a, .int b] => some (.dat (.int (if b > a then b else a)))
  | [.list xs] => (intsOf xs).bind fun ns => (maxL ns).map fun m => .dat (.int m)
  | _ => none
def dMin : List Da → Option Wv
  | [.int a, .int b] => some (.dat (.int (if b < a then b else a)))
  | [.list xs] => (intsOf xs).bind fun ns => (minL ns).map fun m => .dat (.int m)
  | _ => none
theorem cd_max (hc : ∀ i, (F.X i).calm = true) : CallD F (.builtin "max") dMax := by
  intro ds w e
  unfold dMax at e
  split at e
  · rename_i a b
    cases e
    refine ⟨_, fun i => call_max2 (hc i), fun pr B Hf H g σ vs Q E h c => ?_⟩
    obtain ⟨v, u, rfl, l1, l2⟩ := h.two
    cases l1.int; cases l2.int
    exact ⟨a, b, rfl, c.dat E (.int _)⟩
  · rename_i xs
    obtain ⟨ns, e1, e⟩ := Option.bind_eq_some_iff.mp e
    obtain ⟨m, e2, e3⟩ := Option.map_eq_some_iff.mp e
    subst e3
    have e1 := intsOf_some e1
    subst e1
    obtain ⟨k1, k2⟩ := maxL_is e2
    refine ⟨rMax F.K, fun i => by have h := cr_max (hc i); rw [F.hK i] at h; exact h, fun pr B Hf H g σ vs Q E h c => ?_⟩
    obtain ⟨v, rfl, l⟩ := h.one
    obtain ⟨p, us, rfl, s, r⟩ := l.seqL E.ex
    have := r.ints
    subst this
    refine ⟨p, ns, rfl, s, ?_, fun z h1 h2 => ?_⟩
    · cases ns with
      | nil => cases e2
      | cons _ _ => simp
    · have e : z = m := Int.le_antisymm (k2 z h1) (h2 m k1)
      rw [e]; exact c.dat E (.int _)
  · cases e
theorem cd_min (hc : ∀ i, (F.X i).calm = true) : CallD F (.builtin "min") dMin := by
  intro ds w e
  unfold dMin at e
  split at e
  · rename_i a b
    cases e
    refine ⟨_, fun i => call_min2 (hc i), fun pr B Hf H g σ vs Q E h c => ?_⟩
    obtain ⟨v, u, rfl, l1, l2⟩ := h.two
    cases l1.int; cases l2.int
    exact ⟨a, b, rfl, c.dat E (.int _)⟩
  · rename_i xs
    obtain ⟨ns, e1, e⟩ := Option.bind_eq_some_iff.mp e
    obtain ⟨m, e2, e3⟩ := Option.map_eq_some_iff.mp e
    subst e3
    have e1 := intsOf_some e1
    subst e1
    obtain ⟨k1, k2⟩ := minL_is e2
    refine ⟨rMin F.K, fun i => by have h := cr_min (hc i); rw [F.hK i] at h; exact h, fun pr B Hf H g σ vs Q E h c => ?_⟩
    obtain ⟨v, rfl, l⟩ := h.one
    obtain ⟨p, us, rfl, s, r⟩ := l.seqL E.ex
    have := r.ints
    subst this
    refine ⟨p, ns, rfl, s, ?_, fun z h1 h2 => ?_⟩
    · cases ns with
      | nil => cases e2
      | cons _ _ => simp
    · have e : z = m := Int.le_antisymm (h2 m k1) (k2 z h1)
      rw [e]; exact c.dat E (.int _)
  · cases e
def dTuple : List Da → Option Wv
  | [.list xs] => some (.dat (.tuple xs))
  | [.tuple xs] => some (.dat (.tuple xs))
  | _ => none
def dList : List Da → Option Wv
  | [.list xs] => some (.fresh xs)
  | [.tuple xs] => some (.fresh xs)
  | _ => none
theorem cd_tuple : CallD F (.type "tuple") dTuple := by
  intro ds w e
  have hr : ∀ i, CallR (F.X i) (.type "tuple") (fun xs H Q => ∃ p ys, xs = [.ref p] ∧ ((SqL F.K H p ys ∧ ∀ l, H l = none → Q (.ref l) (upd H l (.tup ys))) ∨ (SqT F.K H p ys ∧ Q (.ref p) H))) := fun i => by have h := @call_tuple_of (F.X i); rw [F.hK i] at h; exact h
  unfold dTuple at e
  split at e
  · rename_i xs
    cases e
    refine ⟨_, hr, fun pr B Hf H g σ vs Q E h c => ?_⟩
    obtain ⟨v, rfl, l⟩ := h.one
    obtain ⟨p, us, rfl, s, r⟩ := l.seqL E.ex
    exact ⟨p, us, rfl, .inl ⟨s, fun l hl => c.newT E r hl⟩⟩
  · rename_i xs
    cases e
    refine ⟨_, hr, fun pr B Hf H g σ vs Q E h c => ?_⟩
    obtain ⟨v, rfl, l⟩ := h.one
    obtain ⟨p, us, rfl, s, r⟩ := l.seqT E.ex
    rcases l.2 with z | ⟨_, _, _, _, z, _⟩
    · exact ⟨p, us, rfl, .inr ⟨s, c.dat E z⟩⟩
    · cases z
  · cases e
theorem cd_list : CallD F (.type "list") dList := by
  intro ds w e
  have hr : ∀ i, CallR (F.X i) (.type "list") (fun xs H Q => ∃ p ys, xs = [.ref p] ∧ (SqL F.K H p ys ∨ SqT F.K H p ys) ∧ ∀ l, H l = none → Q (.ref l) (upd H l (.lst ys))) := fun i => by have h := @call_list_of (F.X i); rw [F.hK i] at h; exact h
  unfold dList at e
  split at e
  · rename_i xs
    cases e
    refine ⟨_, hr, fun pr B Hf H g σ vs Q E h c => ?_⟩
    obtain ⟨v, rfl, l⟩ := h.one
    obtain ⟨p, us, rfl, s, r⟩ := l.seqL E.ex
    exact ⟨p, us, rfl, .inl s, fun l hl => c.newL E r hl⟩
  · rename_i xs
    cases e
    refine ⟨_, hr, fun pr B Hf H g σ vs Q E h c => ?_⟩
    obtain ⟨v, rfl, l⟩ := h.one
    obtain ⟨p, us, rfl, s, r⟩ := l.seqT E.ex
    exact ⟨p, us, rfl, .inr s, fun l hl => c.newL E r hl⟩
  · cases e
/-- isinstance(e, T), T a built-in class -/
def tyName : Da → String
  | .none => "NoneType" | .bool _ => "bool" | .int _ => "int" | .str _ => "str" | .list _ => "list" | .tuple _ => "tuple" | .dict _ => "dict"
theorem tyx_rep {v : V} {d : Da} (h : Rep K H v d) : TyX K H v (.type (tyName d)) := by
  cases h with
  | non => exact .base .non
  | bl b => exact .base (.bl b)
  | int i => exact .base (.int i)
  | str x => exact .base (.str x)
  | lst q r =>
    rcases q with (q | ⟨o, q⟩) | ⟨o, its, n, q, c, _⟩
    · exact .base (.lst q)
    · exact .base (.frz q)
    · exact .kList q c
  | tup q r =>
    rcases q with (q | ⟨o, q⟩) | ⟨o, its, n, q, c, _⟩
    · exact .base (.tup q)
    · exact .fTuple q
    · exact .kTuple q c
  | dk0 q => exact .base (.dK q)
def mIsi (T : String) (f : ME) : ME := fun g => (f g).bind fun a => (look a.1 a.2).bind fun x => (kitB (tyName x) T).bind fun b => some (.dat (.bool b), a.2)
theorem ev_isi {T : String} {x : Str} {e : Expr} {f : ME} {p p2 pos : Pos} (h : Ev F pr e f) (hm : ∀ i, (F.X i).mg "isinstance" = none) (hmT : ∀ i, (F.X i).mg x = none) (hg : ∀ i, Gl (F.X i) "isinstance" := by intro _; rfl) (hgT : ∀ i, Gl (F.X i) x := by intro _; rfl)
    (hvT : bootBuiltins x = some (.type T) := by decide +kernel) (hn : x ≠ "__name__" := by decide) (hd : (x == ("__debug__" : Str)) = false := by decide)
    (hv : bootBuiltins "isinstance" = some (.builtin "isinstance") := by decide +kernel)
    (he : ∀ i, starEach (e :: [.Name x p2]) (F.X i).env = (false, eval e (F.X i).env) :: starEach [.Name x p2] (F.X i).env := by intro _; rfl) (he2 : ∀ i, starEach [.Name x p2] (F.X i).env = (false, eval (.Name x p2) (F.X i).env) :: starEach [] (F.X i).env := by intro _; rfl) (hpl : ∀ i, (backTo pos (starEach [.Name x p2] (F.X i).env)).any (·.1) = false := by intro _; rfl) :
    Ev F pr (.Call (.Name "isinstance" p) [e, .Name x p2] [] pos) (mIsi T f) := by
  intro B Hf H g σ w g' Q E eq q
  obtain ⟨⟨wa, g1⟩, e1, eq⟩ := Option.bind_eq_some_iff.mp eq
  obtain ⟨d, e2, eq⟩ := Option.bind_eq_some_iff.mp eq
  obtain ⟨b, e3, eq⟩ := Option.bind_eq_some_iff.mp eq
  cases eq
  refine ⟨tCB (rIsi F.K) (tCons (U F e) (tCons (tC (.ty T)) tNil)), fun i => pe_callB (by have h := @call_isi (F.X i); rw [F.hK i] at h; exact h) (hg i) (hm i) hv (pa_cons (pe_U i) (pa_cons (pe_bltn (hgT i) (hmT i) hvT rfl hn hd) pa_nil (he2 i)) (he i)) (by decide) (by decide) (he i) (hpl i), ?_⟩
  refine h B Hf H g σ wa _ _ E e1 fun v Hf1 H1 s1 w1 y1 => ?_
  have l := look_ok s1.env w1 e2
  exact ⟨v, .ty T, _, _, b, rfl, .ty T, tyx_rep l.1, kit_ty e3, q _ Hf1 H1 s1 (.bl b) (fun _ z => nomatch z)⟩
/-- repr of what is flat -/
def dRepr : List Da → Option Wv
  | [.bool b] => some (.dat (.str (if b then "True" else "False")))
  | [.none] => some (.dat (.str "None"))
  | [.int i] => if i.natAbs.log2 < 1920 then some (.dat (.str (toString i))) else none
  | _ => none
end
end EV
end
section
set_option Elab.async false
set_option linter.all false
set_option maxRecDepth 100000
set_option maxHeartbeats 2000000
set_option autoImplicit false
namespace EV
open PySem PySem.Spec PyProof.Rows L2
section
variable {F : Fam} {pr : List Nat} {B : Addr → Prop} {Hf H Hf' H' Hf1 H1 Hf2 H2 : Hp} {g g' g1 g2 : Gh} {σ σ' σ1 σ2 : L2.St} {K : Frag}
/-! ### targets -/
structure GStp (K : Frag) (pr : List Nat) (B : Addr → Prop) (vs : List Nat) (w : Wv) (v : V) (Hf H : Hp) (g : Gh) (σ : L2.St) (Hf' H' : Hp) (g' : Gh) (σ' : L2.St) : Prop where
  tr : Tr (Own g σ) Hf H Hf' H'
  env : En K pr B Hf' H' g' σ'
  sub : ∀ p, Own g' σ' p → Own g σ p ∨ ((∃ ds, w = .fresh ds) ∧ v = .ref p)
  prk : ∀ i ∈ pr, σ'[i]? = σ[i]?
  oth : ∀ i, i ∉ vs → σ'[i]? = σ[i]?
  slen : σ'.length = σ.length
def EvG (F : Fam) (pr : List Nat) (vs : List Nat) (tg : Expr) (m : Wv → Gh → Option Gh) : Prop := ∀ (B : Addr → Prop) (Hf H : Hp) (g : Gh) (σ : L2.St) (w : Wv) (v : V) (g' : Gh) (Q : L2.St → Hp → Prop), En F.K pr B Hf H g σ → WOk F.K B Hf H g σ w v → m w g = some g' →
  (∀ σ' Hf' H', GStp F.K pr B vs w v Hf H g σ Hf' H' g' σ' → Q σ' H') → UG F tg v σ H Q
theorem own_store {i : Nat} {s : Sl} {v : V} {p : Addr} (h : Own (g.set i s) (σ.set i (some v)) p) : Own g σ p ∨ (∃ ds, s = .own ds ∧ v = .ref p) := by
  obtain ⟨j, ds, e1, e2⟩ := h
  rcases get_set e1 with ⟨rfl, z⟩ | ⟨n, e1⟩
  · rcases get_set e2 with ⟨_, z2⟩ | ⟨n, _⟩
    · cases z2; exact .inr ⟨ds, z.symm, rfl⟩
    · exact absurd rfl n
  · rw [List.getElem?_set_ne (Ne.symm n)] at e2
    exact .inl ⟨j, ds, e1, e2⟩
theorem En.store (E : En K pr B Hf H g σ) {i : Nat} {s : Sl} {v : V} (hi : i < g.length) (hs : SlotOk K Hf H s v) (ho : ∀ ds, s = .own ds → ∀ p, v = .ref p → ¬ Own g σ p ∧ B p) : En K pr B Hf H (g.set i s) (σ.set i (some v)) where
  ex := E.ex
  len := by rw [List.length_set, List.length_set]; exact E.len
  ok := fun j t e n => by
    rcases get_set e with ⟨rfl, rfl⟩ | ⟨ne, e⟩
    · exact ⟨v, List.getElem?_set_self (by rw [← E.len]; exact hi), hs⟩
    · obtain ⟨u, e1, h1⟩ := E.ok j t e n
      exact ⟨u, by rw [List.getElem?_set_ne (Ne.symm ne)]; exact e1, h1⟩
  dis := fun a b ds es p h1 h2 e1 e2 => by
    rcases get_set h1 with ⟨rfl, z⟩ | ⟨na, h1'⟩
    · rcases get_set h2 with ⟨rfl, _⟩ | ⟨nb, h2'⟩
      · rfl
      · rcases get_set e1 with ⟨_, z1⟩ | ⟨n, _⟩
        · cases z1
          rw [List.getElem?_set_ne (Ne.symm nb)] at e2
          exact absurd ⟨b, es, h2', e2⟩ (ho ds z.symm p rfl).1
        · exact absurd rfl n
    · rcases get_set h2 with ⟨rfl, z⟩ | ⟨nb, h2'⟩
      · rcases get_set e2 with ⟨_, z1⟩ | ⟨n, _⟩
        · cases z1
          rw [List.getElem?_set_ne (Ne.symm na)] at e1
          exact absurd ⟨a, ds, h1', e1⟩ (ho es z.symm p rfl).1
        · exact absurd rfl n
      · rw [List.getElem?_set_ne (Ne.symm na)] at e1
        rw [List.getElem?_set_ne (Ne.symm nb)] at e2
        exact E.dis a b ds es p h1' h2' e1 e2
  nb := E.nb
  ob := fun a ds p h1 e1 => by
    rcases get_set h1 with ⟨rfl, z⟩ | ⟨na, h1'⟩
    · rcases get_set e1 with ⟨_, z1⟩ | ⟨n, _⟩
      · cases z1; exact .inr (ho ds z.symm p rfl).2
      · exact absurd rfl n
    · rw [List.getElem?_set_ne (Ne.symm na)] at e1
      exact E.ob a ds p h1' e1
def setN (i : Nat) (w : Wv) (g : Gh) : Option Gh := if i < g.length then (match w with
  | .dat d => some (g.set i (.val d))
  | .fresh ds => some (g.set i (.own ds))
  | .raw v => some (g.set i (.raw v))
  | .slot j => (toD (.slot j) g).map fun r => r.2.set i (.val r.1)) else none
theorem toD_len : ∀ {w : Wv} {d : Da}, toD w g = some (d, g') → g'.length = g.length
  | .dat _, _, e => by cases e; rfl
  | .fresh _, _, e => by cases e; rfl
  | .raw _, _, e => by cases e
  | .slot i, d, e => by
    unfold toD at e
    dsimp only at e
    split at e
    · cases e; rw [List.length_set]
    · cases e; rfl
    · cases e
theorem setN_ok {i : Nat} {w : Wv} {v : V} (E : En K pr B Hf H g σ) (h : WOk K B Hf H g σ w v) (e : setN i w g = some g') (hp : i ∉ pr) : ∃ Hf', GStp K pr B [i] w v Hf H g σ Hf' H g' (σ.set i (some v)) := by
  unfold setN at e
  split at e
  · rename_i hi
    have prk : ∀ j ∈ pr, (σ.set i (some v))[j]? = σ[j]? := fun j hj => List.getElem?_set_ne (fun z => by subst z; exact hp hj)
    have oth : ∀ j, j ∉ [i] → (σ.set i (some v))[j]? = σ[j]? := fun j hj => List.getElem?_set_ne (fun z => hj (by simp [z]))
    cases w with
    | dat d =>
      cases e
      refine ⟨Hf, Tr.refl, E.store hi h (fun _ z => nomatch z), fun p z => ?_, prk, oth, List.length_set⟩
      rcases own_store z with z | ⟨_, z, _⟩
      · exact .inl z
      · cases z
    | fresh ds =>
      cases e
      obtain ⟨p, us, rfl, hb, hf, hq, r, n⟩ := h
      refine ⟨Hf, Tr.refl, E.store hi ⟨p, us, rfl, hf, hq, r⟩ (fun _ _ q z => by cases z; exact ⟨n, hb⟩), fun q z => ?_, prk, oth, List.length_set⟩
      rcases own_store z with z | ⟨_, z, z2⟩
      · exact .inl z
      · exact .inr ⟨⟨ds, rfl⟩, z2⟩
    | raw x =>
      cases e
      refine ⟨Hf, Tr.refl, E.store hi h (fun _ z => nomatch z), fun p z => ?_, prk, oth, List.length_set⟩
      rcases own_store z with z | ⟨_, z, _⟩
      · exact .inl z
      · cases z
    | slot j =>
      obtain ⟨⟨d, g1⟩, e1, e2⟩ := Option.map_eq_some_iff.mp e
      subst e2
      obtain ⟨Hf', E', r, ex, s, k⟩ := toD_ok E h e1
      refine ⟨Hf', ⟨ex, fun p o hp no => ⟨hp, ?_⟩, fun _ h => h⟩, E'.store (by rw [toD_len e1]; exact hi) r (fun _ z => nomatch z), fun p z => ?_, prk, oth, List.length_set⟩
      · rcases k p o hp no with z | ⟨⟨_, z⟩, _⟩
        · exact z
        · cases z
      · rcases own_store z with z | ⟨_, z, _⟩
        · exact .inl (s p z)
        · cases z
  · cases e
theorem eg_name (i : Nat) {x : Str} {pos : Pos} (hN : ∀ j, (F.X j).N.Nodup) (hi : ∀ j, (F.X j).N[i]? = some x := by intro _; rfl) (hx : ∀ j, Loc (F.X j).env.scope x := by intro _; first | exact Or.inl rfl | exact Or.inr rfl)
    (hf : ∀ j, (F.X j).fn x = true ∨ (F.X j).env.scope.names.lookup x = some .local := by intro _; first | exact .inl rfl | exact .inr rfl) (hp : i ∉ pr := by decide) : EvG F pr [i] (.Name x pos) (setN i) := by
  intro B Hf H g σ w v g' Q E h e q
  obtain ⟨Hf', s⟩ := setN_ok E h e hp
  exact ⟨gName i, fun j => pg_name (hN j) (hi j) (hx j) (hf j), q _ Hf' H s⟩
/-- names, from the left -/
def gNames : List Nat → TGs
  | [] => gNil
  | i :: is => gCons (gName i) (gNames is)
def slOf : Wv → Option Sl
  | .dat d => some (.val d)
  | .fresh ds => some (.own ds)
  | .raw v => some (.raw v)
  | .slot _ => none
def setNs : List Nat → List Wv → Gh → Option Gh
  | [], [], g => some g
  | i :: is, w :: ws, g => (slOf w).bind fun s => if i < g.length then setNs is ws (g.set i s) else none
  | _, _, _ => none
theorem slOf_store {i : Nat} {w : Wv} {v : V} {s : Sl} (E : En K pr B Hf H g σ) (h : WOk K B Hf H g σ w v) (e : slOf w = some s) (hi : i < g.length) : En K pr B Hf H (g.set i s) (σ.set i (some v)) ∧ ∀ p, Own (g.set i s) (σ.set i (some v)) p → Own g σ p ∨ ((∃ ds, w = .fresh ds) ∧ v = .ref p) := by
  cases w with
  | dat d =>
    cases e
    refine ⟨E.store hi h (fun _ z => nomatch z), fun p z => ?_⟩
    rcases own_store z with z | ⟨_, z, _⟩
    · exact .inl z
    · cases z
  | fresh ds =>
    cases e
    obtain ⟨p, us, rfl, hb, hf, hq, r, n⟩ := h
    refine ⟨E.store hi ⟨p, us, rfl, hf, hq, r⟩ (fun _ _ q z => by cases z; exact ⟨n, hb⟩), fun q z => ?_⟩
    rcases own_store z with z | ⟨_, z, z2⟩
    · exact .inl z
    · exact .inr ⟨⟨ds, rfl⟩, z2⟩
  | raw x =>
    cases e
    refine ⟨E.store hi h (fun _ z => nomatch z), fun p z => ?_⟩
    rcases own_store z with z | ⟨_, z, _⟩
    · exact .inl z
    · cases z
  | slot j => cases e
theorem WOk.by_own {w : Wv} {v : V} (h : WOk K B Hf H g σ w v) (e : (slOf w).isSome = true) (o : ∀ ds p, w = .fresh ds → v = .ref p → Own g1 σ1 p → Own g σ p) : WOk K B Hf H g1 σ1 w v := by
  cases w with
  | dat d => exact h
  | fresh ds =>
    obtain ⟨p, us, rfl, hb, hf, hq, r, n⟩ := h
    exact ⟨p, us, rfl, hb, hf, hq, r, fun z => n (o ds p rfl rfl z)⟩
  | raw x => exact h
  | slot j => cases e
theorem setNs_all : ∀ {is : List Nat} {ws : List Wv} {g g' : Gh}, setNs is ws g = some g' → ∀ w ∈ ws, (slOf w).isSome = true
  | [], [], _, _, _, _, h => by cases h
  | i :: is, w :: ws, g, g', e, u, h => by
    obtain ⟨s, e1, e⟩ := Option.bind_eq_some_iff.mp (show ((slOf w).bind fun s => if i < g.length then setNs is ws (g.set i s) else none) = some g' from e)
    split at e
    · rcases List.mem_cons.mp h with q | q
      · subst q; rw [e1]; rfl
      · exact setNs_all e u q
    · cases e
theorem WAll.by_own {w : Wv} {v : V} (o : ∀ p, Own g1 σ1 p → Own g σ p ∨ ((∃ ds, w = .fresh ds) ∧ v = .ref p)) : ∀ {ws : List Wv} {us : List V}, WAll K B Hf H g σ ws us → Apart w v ws us → (∀ w ∈ ws, (slOf w).isSome = true) → WAll K B Hf H g1 σ1 ws us
  | _, _, .nil, _, _ => .nil
  | _, _, .cons a b c, ap, n => by
    refine .cons (a.by_own (n _ List.mem_cons_self) fun ds p e1 e2 z => ?_) b (WAll.by_own o c (fun ds p e1 e2 i es h1 h2 => ap ds p e1 e2 (i + 1) es (by simpa using h1) (by simpa using h2)) fun w h => n w (List.mem_cons_of_mem _ h))
    rcases o p z with z | ⟨⟨es, z⟩, z2⟩
    · exact z
    · exact (ap es p z z2 0 ds (by simp [e1]) (by simp [e2])).elim
theorem setNs_ok : ∀ {is : List Nat} {ws : List Wv} {us : List V} {g g' : Gh} {σ : L2.St} {D : L2.St → Hp → Prop}, En K pr B Hf H g σ → WAll K B Hf H g σ ws us → setNs is ws g = some g' → (∀ i ∈ is, i ∉ pr) →
    (∀ σ', En K pr B Hf H g' σ' → (∀ p, Own g' σ' p → Own g σ p ∨ ∃ (i : Nat) (ds : List Da), ws[i]? = some (.fresh ds) ∧ us[i]? = some (.ref p)) → (∀ i ∈ pr, σ'[i]? = σ[i]?) → (∀ i, i ∉ is → σ'[i]? = σ[i]?) → σ'.length = σ.length → D σ' H) → gNames is us σ H D
  | [], _, _, g, g', σ, D, E, .nil, e, hp, k => by
    cases e
    exact ⟨rfl, k σ E (fun _ h => .inl h) (fun _ _ => rfl) (fun _ _ => rfl) rfl⟩
  | i :: is, _, _, g, g', σ, D, E, @WAll.cons _ _ _ _ _ _ w v ws us a b c, e, hp, k => by
    have all := setNs_all e
    obtain ⟨s, e1, e⟩ := Option.bind_eq_some_iff.mp (show ((slOf w).bind fun s => if i < g.length then setNs is ws (g.set i s) else none) = some g' from e)
    split at e
    · rename_i hi
      obtain ⟨E1, o1⟩ := slOf_store E a e1 hi
      have hip : i ∉ pr := hp i List.mem_cons_self
      refine ⟨v, us, rfl, setNs_ok E1 (WAll.by_own o1 c b fun w h => all w (List.mem_cons_of_mem _ h)) e (fun j hj => hp j (List.mem_cons_of_mem _ hj)) fun σ' E' o2 p2 t2 l2 => ?_⟩
      refine k σ' E' (fun p hq => ?_) (fun j hj => (p2 j hj).trans (List.getElem?_set_ne fun z => by subst z; exact hip hj)) (fun j hj => (t2 j fun z => hj (List.mem_cons_of_mem _ z)).trans (List.getElem?_set_ne fun z => by subst z; exact hj List.mem_cons_self)) (l2.trans List.length_set)
      rcases o2 p hq with z | ⟨j, ds, z, z2⟩
      · rcases o1 p z with z | ⟨⟨ds, z⟩, z2⟩
        · exact .inl z
        · exact .inr ⟨0, ds, by simp [z], by simp [z2]⟩
      · exact .inr ⟨j + 1, ds, by simpa using z, by simpa using z2⟩
    · cases e
  | _ :: _, _, _, _, _, _, _, _, .nil, e, _, _ => by cases e
/-- (a, b, ..), a tuple of data -/
def setT (is : List Nat) : Wv → Gh → Option Gh
  | .dat (.tuple ds), g => if ds.length = is.length then setNs is (ds.map Wv.dat) g else none
  | _, _ => none
theorem wall_dats : ∀ {us : List V} {ds : List Da}, RepAll K Hf us ds → WAll K B Hf H g σ (ds.map Wv.dat) us
  | _, _, .nil => .nil
  | _, _, .cons a b => .cons a (fun _ _ z => nomatch z) (wall_dats b)
theorem eg_tup (is : List Nat) {es : List Expr} {k : Nat} {pos : Pos} (hc : ∀ i, (F.X i).calm = true) (h : ∀ i, PGs (F.X i) es (gNames is)) (hn : ∀ i, (assignEach es (F.X i).env).length = is.length := by intro _; rfl)
    (hst : ∀ i, (assignEach es (F.X i).env).findIdx? (·.1) = none := by intro _; rfl) (hp : ∀ i ∈ is, i ∉ pr := by decide) : EvG F pr is (.Tuple es k pos) (setT is) := by
  intro B Hf H g σ w v g' Q E h1 e q
  unfold setT at e
  split at e
  · rename_i ds
    split at e
    · rename_i hl
      have h1 : Rep F.K Hf v (.tuple ds) := h1
      cases h1 with
      | @tup a xs _ sq r =>
        refine ⟨gTup F.K is.length (gNames is), fun i => by have z := pg_tup (hc i) (h i) (hn i) (hst i) (k := k) (pos := pos); rw [F.hK i] at z; exact z, a, xs, rfl, Evl.ex_t E.ex sq, r.length.trans hl, ?_⟩
        refine setNs_ok E (wall_dats r) e hp fun σ' E' o p2 t2 l2 => q σ' Hf H ⟨Tr.refl, E', fun p hq => ?_, p2, t2, l2⟩
        rcases o p hq with z | ⟨j, es, z, _⟩
        · exact .inl z
        · rw [List.getElem?_map] at z
          cases q2 : ds[j]? with
          | none => rw [q2] at z; cases z
          | some d => rw [q2] at z; cases z
    · cases e
  · cases e
end
end EV
end
section
set_option Elab.async false
set_option linter.all false
set_option maxRecDepth 100000
set_option maxHeartbeats 2000000
set_option autoImplicit false
namespace EV
open PySem PySem.Spec PyProof.Rows L2
section
variable {F : Fam} {pr : List Nat} {B : Addr → Prop} {Hf H Hf' H' Hf1 H1 Hf2 H2 : Hp} {g g' g1 g2 : Gh} {σ σ' σ1 σ2 : L2.St} {K : Frag}
/-! ### what is walked -/
theorem walkd_list {a : Addr} {xs : List V} {ds : List Da} (sq : SqL K Hf a xs) (r : RepAll K Hf xs ds) : WalkD K (Itl K a) Hf ds := by
  intro Hf1 H1 e1 e2
  have s1 : SqL K H1 a xs := Evl.ex_l (e1.trans e2) sq
  refine ⟨fun i hi => ⟨xs, xs[i]'(by rw [r.length]; exact hi), s1, by simp [r.length, hi]⟩, ⟨xs, s1, by rw [r.length]; exact Nat.le_refl _⟩, fun i d x H2 hd y => ?_⟩
  obtain ⟨rfl, y⟩ := y
  obtain ⟨v, hv, rv⟩ := r.get hd
  have := y xs s1
  rw [hv] at this; cases this
  exact ⟨Hf1, Tr.refl, fun _ _ _ _ E => E, rv.mono e1⟩
theorem walkd_tup {a : Addr} {xs : List V} {ds : List Da} (sq : SqT K Hf a xs) (r : RepAll K Hf xs ds) : WalkD K (Itt K a) Hf ds := by
  intro Hf1 H1 e1 e2
  have s1 : SqT K H1 a xs := Evl.ex_t (e1.trans e2) sq
  refine ⟨fun i hi => ⟨xs, xs[i]'(by rw [r.length]; exact hi), s1, by simp [r.length, hi]⟩, ⟨xs, s1, by rw [r.length]; exact Nat.le_refl _⟩, fun i d x H2 hd y => ?_⟩
  obtain ⟨rfl, y⟩ := y
  obtain ⟨v, hv, rv⟩ := r.get hd
  have := y xs s1
  rw [hv] at this; cases this
  exact ⟨Hf1, Tr.refl, fun _ _ _ _ E => E, rv.mono e1⟩
def mIt (f : ME) : MI := fun g => (f g).bind fun a => (toD a.1 a.2).bind fun r => (itemsD r.1).bind fun ds => some (ds, r.2)
theorem ei_val {tg e : Expr} {f : ME} (h : Ev F pr e f) : EvI F pr tg e (mIt f) := by
  intro B Hf H g σ ds g' R E eq q
  obtain ⟨⟨wa, g1⟩, e1, eq⟩ := Option.bind_eq_some_iff.mp eq
  obtain ⟨⟨d, g2⟩, e2, eq⟩ := Option.bind_eq_some_iff.mp eq
  obtain ⟨ds', e3, eq⟩ := Option.bind_eq_some_iff.mp eq
  cases eq
  cases d with
  | list xs =>
    cases e3
    refine ⟨iList F.K (U F e), fun i => by have z := pi_list (tg := tg) (pe_U (F := F) (e := e) i); rw [F.hK i] at z; exact z, ?_⟩
    refine h B Hf H g σ wa g1 _ E e1 fun v Hf1 H1 s1 w1 y1 => ?_
    obtain ⟨Hf2, s2, r⟩ := s1.toD y1 w1 e2
    cases r with
    | lst sq r => exact ⟨_, rfl, ⟨_, Evl.ex_l s2.env.ex sq⟩, q _ Hf2 H1 s2 (walkd_list sq r)⟩
  | tuple xs =>
    cases e3
    refine ⟨iTup F.K (U F e), fun i => by have z := pi_tup (tg := tg) (pe_U (F := F) (e := e) i); rw [F.hK i] at z; exact z, ?_⟩
    refine h B Hf H g σ wa g1 _ E e1 fun v Hf1 H1 s1 w1 y1 => ?_
    obtain ⟨Hf2, s2, r⟩ := s1.toD y1 w1 e2
    cases r with
    | tup sq r => exact ⟨_, rfl, ⟨_, Evl.ex_t s2.env.ex sq⟩, q _ Hf2 H1 s2 (walkd_tup sq r)⟩
  | _ => cases e3
def rgD (lo hi : Int) : List Da := (List.range (hi - lo).toNat).map fun k => .int (lo + (k : Nat))
theorem walkd_range {lo : Int} {n : Nat} : WalkD K (Itr lo n) Hf ((List.range n).map fun (k : Nat) => PyData.int (lo + k)) := by
  intro Hf1 H1 e1 e2
  refine ⟨fun i hi => by show i < n; simpa using hi, by show n ≤ _; simp, fun i d x H2 hd y => ?_⟩
  obtain ⟨rfl, rfl⟩ := y
  rw [List.getElem?_map] at hd
  by_cases hi : i < n
  · rw [List.getElem?_range hi] at hd
    cases hd
    exact ⟨Hf1, Tr.refl, fun _ _ _ _ E => E, .int _⟩
  · rw [List.getElem?_eq_none (by simpa using hi)] at hd; cases hd
def okRg (i : Int) : Bool := decide (-(2 ^ 62) ≤ i) && decide (i < 2 ^ 62)
theorem okRg_of {i : Int} (h : okRg i = true) : -(2 ^ 62) ≤ i ∧ i < 2 ^ 62 := by
  unfold okRg at h
  rw [Bool.and_eq_true] at h
  exact ⟨of_decide_eq_true h.1, of_decide_eq_true h.2⟩
def mRg1 (fa : MA) : MI := fun g => (fa g).bind fun a => (lookAll a.1 a.2).bind fun ds => match ds with
  | [.int j] => if okRg j = true then some (rgD 0 j, a.2) else none
  | _ => none
def mRg2 (fa : MA) : MI := fun g => (fa g).bind fun a => (lookAll a.1 a.2).bind fun ds => match ds with
  | [.int i, .int j] => if okRg i = true ∧ okRg j = true then some (rgD i j, a.2) else none
  | _ => none
theorem ei_range1 {tg a : Expr} {fa : MA} {p pos : Pos} (hm : ∀ i, (F.X i).mg "range" = none) (ha : EvA F pr [a] fa) (hg : ∀ i, Gl (F.X i) "range" := by intro _; rfl) (hs : ∀ i, starEach [a] (F.X i).env = [(false, eval a (F.X i).env)] := by intro _; rfl) :
    EvI F pr tg (.Call (.Name "range" p) [a] [] pos) (mRg1 fa) := by
  intro B Hf H g σ ds g' R E eq q
  obtain ⟨⟨ws, g1⟩, e1, eq1⟩ := Option.bind_eq_some_iff.mp eq
  obtain ⟨xs, e2, eq2⟩ := Option.bind_eq_some_iff.mp eq1
  refine ⟨iRng1 (UA F [a]), fun i => pi_range1 (hg i) (hm i) (pa_U i) (hs i), ?_⟩
  refine ha B Hf H g σ ws g1 _ E e1 fun vs Hf1 H1 s1 w1 y1 => ?_
  have l := lookAll_ok s1.env w1 e2
  dsimp only at eq2
  split at eq2
  · rename_i j
    split at eq2
    · rename_i hj
      cases eq2
      obtain ⟨v, rfl, l2⟩ := l.one
      cases l2.int
      obtain ⟨h1, h2⟩ := okRg_of hj
      refine ⟨j, rfl, h1, h2, q _ Hf1 H1 s1 ?_⟩
      unfold rgD
      rw [Int.sub_zero]
      exact walkd_range
    · cases eq2
  · cases eq2
/-- pairs -/
def zipD : List Da → List Da → List Da := List.zipWith fun x y => .tuple [x, y]
theorem new_pair {x y : V} {d e : Da} {T : Addr} (E2 : Evl.Ex Hf1 H1) (rx : Rep K Hf1 x d) (ry : Rep K Hf1 y e) (h : H1 T = none) :
    ∃ Hf2, Tr (fun _ => False) Hf1 H1 Hf2 (upd H1 T (.tup [x, y])) ∧ (∀ pr B g σ, En K pr B Hf1 H1 g σ → En K pr B Hf2 (upd H1 T (.tup [x, y])) g σ) ∧ Rep K Hf2 (.ref T) (.tuple [d, e]) := by
  have hf := Evl.fresh_back E2 h
  exact ⟨upd Hf1 T (.tup [x, y]), Tr.new hf h, fun _ _ _ _ E => E.new h, .tup (.inl (.inl upd_same)) (.cons (rx.mono (Evl.Ex.new hf)) (.cons (ry.mono (Evl.Ex.new hf)) .nil))⟩
theorem zip_get {ds es : List Da} {i : Nat} {d : Da} (h : (zipD ds es)[i]? = some d) : ∃ x y, ds[i]? = some x ∧ es[i]? = some y ∧ d = .tuple [x, y] := by
  unfold zipD at h
  rw [List.getElem?_zipWith] at h
  cases h1 : ds[i]? with
  | none => rw [h1] at h; cases h
  | some x =>
    cases h2 : es[i]? with
    | none => rw [h1, h2] at h; cases h
    | some y => rw [h1, h2] at h; cases h; exact ⟨x, y, rfl, rfl, rfl⟩
theorem zip_len {ds es : List Da} : (zipD ds es).length = min ds.length es.length := by unfold zipD; rw [List.length_zipWith]
def mZip (fa : MA) : MI := fun g => (fa g).bind fun a => (toDs a.1 a.2).bind fun r => match r.1 with
  | [.list ds, .list es] => some (zipD ds es, r.2)
  | [.tuple ds, .tuple es] => some (zipD ds es, r.2)
  | _ => none
def enumD : Nat → List Da → List Da
  | _, [] => []
  | n, d :: ds => .tuple [.int n, d] :: enumD (n + 1) ds
theorem enum_len : ∀ {n : Nat} {ds : List Da}, (enumD n ds).length = ds.length
  | _, [] => rfl
  | n, d :: ds => by
    show (enumD (n + 1) ds).length + 1 = ds.length + 1
    rw [enum_len]
theorem enum_get : ∀ {n : Nat} {ds : List Da} {i : Nat} {d : Da}, (enumD n ds)[i]? = some d → ∃ x, ds[i]? = some x ∧ d = .tuple [.int ((n + i : Nat) : Int), x]
  | n, [], i, d, h => by simp [enumD] at h
  | n, e :: ds, 0, d, h => by
    simp [enumD] at h
    exact ⟨e, rfl, h.symm⟩
  | n, e :: ds, i + 1, d, h => by
    obtain ⟨x, h1, h2⟩ := enum_get (n := n + 1) (ds := ds) (i := i) (d := d) (by simpa [enumD] using h)
    exact ⟨x, by simpa using h1, by rw [h2, show n + 1 + i = n + (i + 1) by omega]⟩
theorem walkd_enum {a : Addr} {xs : List V} {ds : List Da} (sa : SqL K Hf a xs) (ra : RepAll K Hf xs ds) : WalkD K (Ite K a) Hf (enumD 0 ds) := by
  intro Hf1 H1 e1 e2
  have s1 : SqL K H1 a xs := Evl.ex_l (e1.trans e2) sa
  have l1 := ra.length
  refine ⟨fun i hi => ?_, ⟨xs, s1, ?_⟩, fun i d x H2 hd y => ?_⟩
  · rw [enum_len] at hi
    exact ⟨xs, xs[i]'(by omega), s1, by simp [show i < xs.length by omega]⟩
  · rw [enum_len]; omega
  · obtain ⟨T, u, rfl, hT, rfl, h1⟩ := y
    obtain ⟨dx, k1, rfl⟩ := enum_get hd
    obtain ⟨u', hu, ru⟩ := ra.get k1
    have q1 := h1 xs s1
    rw [hu] at q1; cases q1
    rw [Nat.zero_add]
    exact new_pair e2 (.int _) (ru.mono e1) hT
def mEnum (fa : MA) : MI := fun g => (fa g).bind fun a => (toDs a.1 a.2).bind fun r => match r.1 with
  | [.list ds] => some (enumD 0 ds, r.2)
  | _ => none
theorem walkd_rev {a : Addr} {xs : List V} {ds : List Da} (sa : SqL K Hf a xs) (ra : RepAll K Hf xs ds) : WalkD K (Itv K a xs.length) Hf ds.reverse := by
  intro Hf1 H1 e1 e2
  have s1 : SqL K H1 a xs := Evl.ex_l (e1.trans e2) sa
  have l1 := ra.length
  refine ⟨fun i hi => ?_, by show xs.length ≤ _; simp [l1], fun i d x H2 hd y => ?_⟩
  · rw [List.length_reverse] at hi
    exact ⟨by omega, xs, xs[xs.length - 1 - i]'(by omega), s1, by simp [show xs.length - 1 - i < xs.length by omega]⟩
  · obtain ⟨rfl, y⟩ := y
    have hi : i < ds.length := by
      have := lt_of_get hd
      simpa using this
    rw [List.getElem?_reverse hi, ← l1] at hd
    obtain ⟨u, hu, ru⟩ := ra.get hd
    have := y xs s1
    rw [hu] at this; cases this
    exact ⟨Hf1, Tr.refl, fun _ _ _ _ E => E, ru.mono e1⟩
theorem walkd_revT {a : Addr} {xs : List V} {ds : List Da} (sa : SqT K Hf a xs) (ra : RepAll K Hf xs ds) : WalkD K (RT.ItvT K a xs.length) Hf ds.reverse := by
  intro Hf1 H1 e1 e2
  have s1 : SqT K H1 a xs := Evl.ex_t (e1.trans e2) sa
  have l1 := ra.length
  refine ⟨fun i hi => ?_, by show xs.length ≤ _; simp [l1], fun i d x H2 hd y => ?_⟩
  · rw [List.length_reverse] at hi
    exact ⟨by omega, xs, xs[xs.length - 1 - i]'(by omega), s1, by simp [show xs.length - 1 - i < xs.length by omega]⟩
  · obtain ⟨rfl, y⟩ := y
    have hi : i < ds.length := by
      have := lt_of_get hd
      simpa using this
    rw [List.getElem?_reverse hi, ← l1] at hd
    obtain ⟨u, hu, ru⟩ := ra.get hd
    have := y xs s1
    rw [hu] at this; cases this
    exact ⟨Hf1, Tr.refl, fun _ _ _ _ E => E, ru.mono e1⟩
def mRevI (f : ME) : MI := fun g => (f g).bind fun a => (toD a.1 a.2).bind fun r => (itemsD r.1).bind fun ds => some (ds.reverse, r.2)
theorem ei_rev {tg e : Expr} {f : ME} {p pos : Pos} (hm : ∀ i, (F.X i).mg "reversed" = none) (h : Ev F pr e f) (hg : ∀ i, Gl (F.X i) "reversed" := by intro _; rfl) (hs : ∀ i, starEach [e] (F.X i).env = (false, eval e (F.X i).env) :: starEach [] (F.X i).env := by intro _; rfl) :
    EvI F pr tg (.Call (.Name "reversed" p) [e] [] pos) (mRevI f) := by
  intro B Hf H g σ ds g' R E eq q
  obtain ⟨⟨wa, g1⟩, e1, eq1⟩ := Option.bind_eq_some_iff.mp eq
  obtain ⟨⟨d, g2⟩, e2, eq2⟩ := Option.bind_eq_some_iff.mp eq1
  obtain ⟨ds', e3, eq3⟩ := Option.bind_eq_some_iff.mp eq2
  cases eq3
  refine ⟨RT.iRevA F.K (U F e), fun i => by have z := RT.pi_revA (tg := tg) (hg i) (hm i) (pe_U (F := F) (e := e) i) (hs i) (p := p) (pos := pos); rw [F.hK i] at z; exact z, ?_⟩
  refine h B Hf H g σ wa g1 _ E e1 fun v Hf1 H1 s1 w1 y1 => ?_
  obtain ⟨Hf2, s2, r⟩ := s1.toD y1 w1 e2
  cases d with
  | list xs =>
    cases e3
    cases r with
    | lst sq r => exact ⟨_, _, rfl, .inl ⟨Evl.ex_l s2.env.ex sq, q _ Hf2 H1 s2 (walkd_rev sq r)⟩⟩
  | tuple xs =>
    cases e3
    cases r with
    | tup sq r => exact ⟨_, _, rfl, .inr ⟨Evl.ex_t s2.env.ex sq, q _ Hf2 H1 s2 (walkd_revT sq r)⟩⟩
  | _ => cases e3
end
end EV
end
section
set_option Elab.async false
set_option linter.all false
set_option maxRecDepth 100000
set_option maxHeartbeats 2000000
set_option autoImplicit false
namespace EV
open PySem PySem.Spec PyProof.Rows L2
section
variable {F : Fam} {pr : List Nat} {B : Addr → Prop} {Hf H Hf' H' Hf1 H1 Hf2 H2 : Hp} {g g' g1 g2 : Gh} {σ σ' σ1 σ2 : L2.St} {K : Frag}
/-! ### list comprehensions -/
def wipeG (g : Gh) : List Nat → Gh
  | [] => g
  | v :: vs => (wipeG g vs).set v .un
def restore : List Nat → Gh → Gh → Gh
  | [], _, g => g
  | v :: vs, g0, g => match g0[v]? with
    | some s => (restore vs g0 g).set v s
    | none => restore vs g0 g
theorem wipeG_len (g : Gh) : ∀ vs, (wipeG g vs).length = g.length
  | [] => rfl
  | v :: vs => by unfold wipeG; rw [List.length_set, wipeG_len]
theorem wipeG_get {i : Nat} {s : Sl} : ∀ {vs : List Nat}, (wipeG g vs)[i]? = some s → s ≠ .un → g[i]? = some s ∧ i ∉ vs
  | [], h, _ => ⟨h, by simp⟩
  | v :: vs, h, n => by
    unfold wipeG at h
    rcases get_set h with ⟨_, z⟩ | ⟨ne, h⟩
    · exact absurd z n
    · obtain ⟨h1, h2⟩ := wipeG_get h n
      exact ⟨h1, by simp only [List.mem_cons, not_or]; exact ⟨ne, h2⟩⟩
theorem wipe_get {i : Nat} : ∀ {vs : List Nat}, i ∉ vs → (wipe σ vs)[i]? = σ[i]?
  | [], _ => rfl
  | v :: vs, h => by
    unfold wipe
    rw [List.getElem?_set_ne (fun z => h (by simp [z]))]
    exact wipe_get fun z => h (List.mem_cons_of_mem _ z)
theorem wipe_eq {vs : List Nat} (hl : σ1.length = σ2.length) (h : ∀ i, i ∉ vs → σ1[i]? = σ2[i]?) : wipe σ1 vs = wipe σ2 vs := by
  apply List.ext_getElem?
  intro i
  by_cases hi : i ∈ vs
  · have : ∀ (σ : L2.St) (vs : List Nat), i ∈ vs → (wipe σ vs)[i]? = if i < σ.length then some none else none := by
      intro σ vs hm
      induction vs with
      | nil => cases hm
      | cons v vs ih =>
        unfold wipe
        by_cases e : v = i
        · subst e
          by_cases hl : v < σ.length
          · rw [List.getElem?_set_self (by rw [wipe_length]; exact hl), if_pos hl]
          · rw [List.getElem?_eq_none (by rw [List.length_set, wipe_length]; omega), if_neg hl]
        · rw [List.getElem?_set_ne e]
          rcases List.mem_cons.mp hm with z | z
          · exact absurd z.symm e
          · exact ih z
    rw [this σ1 vs hi, this σ2 vs hi, hl]
  · rw [wipe_get hi, wipe_get hi]; exact h i hi
theorem En.wipe (E : En K pr B Hf H g σ) (vs : List Nat) : En K pr B Hf H (wipeG g vs) (wipe σ vs) where
  ex := E.ex
  len := by rw [wipeG_len, wipe_length]; exact E.len
  ok := fun i s e n => by
    obtain ⟨e1, h1⟩ := wipeG_get e n
    obtain ⟨v, e2, h2⟩ := E.ok i s e1 n
    exact ⟨v, by rw [wipe_get h1]; exact e2, h2⟩
  dis := fun i j ds es p h1 h2 e1 e2 => E.dis i j ds es p (wipeG_get h1 (by simp)).1 (wipeG_get h2 (by simp)).1 (wipe_some e1).1 (wipe_some e2).1
  nb := E.nb
  ob := fun i ds p h e => E.ob i ds p (wipeG_get h (by simp)).1 (wipe_some e).1
theorem own_wipe {vs : List Nat} {p : Addr} (h : Own (wipeG g vs) (wipe σ vs) p) : Own g σ p := by
  obtain ⟨i, ds, e1, e2⟩ := h
  exact ⟨i, ds, (wipeG_get e1 (by simp)).1, (wipe_some e2).1⟩
theorem restore_len (g0 : Gh) : ∀ vs, (restore vs g0 g).length = g.length
  | [] => rfl
  | v :: vs => by
    unfold restore
    split
    · rw [List.length_set, restore_len]
    · exact restore_len g0 vs
theorem restore_get (g0 : Gh) (hl : g0.length = g.length) {i : Nat} : ∀ vs, (restore vs g0 g)[i]? = if i ∈ vs then g0[i]? else g[i]?
  | [] => by simp [restore]
  | v :: vs => by
    unfold restore
    have ih := restore_get g0 hl vs (i := i)
    by_cases e : v = i
    · subst e
      cases h : g0[v]? with
      | none =>
        have : g[v]? = none := by
          rw [List.getElem?_eq_none_iff] at h ⊢; omega
        dsimp only
        rw [ih]
        simp [h, this]
      | some s =>
        dsimp only
        rw [List.getElem?_set_self (by rw [restore_len]; have := lt_of_get h; omega)]
        simp
    · have m : (i ∈ v :: vs) ↔ i ∈ vs := by simp [Ne.symm e]
      split
      · rw [List.getElem?_set_ne e, ih]; simp [m]
      · rw [ih]; simp [m]
def compL (vs : List Nat) (tg : Wv → Gh → Option Gh) (ts : MT) (el : ME) : List Da → Gh → Option (List Da × Gh)
  | [], g => some ([], g)
  | d :: ds, g => (tg (.dat d) g).bind fun g1 => (ts g1).bind fun b => if b.1 = true then
      (el b.2).bind fun w => (toD w.1 w.2).bind fun r => (compL vs tg ts el ds (wipeG r.2 vs)).bind fun q => some (r.1 :: q.1, q.2)
    else compL vs tg ts el ds (wipeG b.2 vs)
def mComp (vs : List Nat) (it : MI) (tg : Wv → Gh → Option Gh) (ts : MT) (el : ME) : ME := fun g => (it g).bind fun a => if a.1.length < sizeLine then (compL vs tg ts el a.1 (wipeG a.2 vs)).bind fun r => some (.fresh r.1, restore vs a.2 r.2) else none
def mYes : MT := fun g => some (true, g)
theorem ets_nil : EvTs F pr [] mYes := by
  intro B Hf H g σ b g' Q E eq q
  cases eq
  exact ⟨tYes, fun _ => pts_nil, q Hf H (Stp.refl E)⟩
theorem ets_one {c : Expr} {f : MT} (h : EvT F pr c f) : EvTs F pr [c] f := by
  intro B Hf H g σ b g' Q E eq q
  exact ⟨UT F c, fun i => pts_one (pt_U i), h B Hf H g σ b g' Q E eq q⟩
/-- the state between two turns -/
structure CInv (K : Frag) (pr : List Nat) (B : Addr → Prop) (Hf1 H1 : Hp) (g1 : Gh) (σ : L2.St) (vs : List Nat) (D : Addr) (Hf' H' : Hp) (g' : Gh) (acc : List Da) : Prop where
  env : En K pr B Hf' H' g' (wipe σ vs)
  tr : Tr (Own (wipeG g1 vs) (wipe σ vs)) Hf1 H1 Hf' H'
  sub : ∀ p, Own g' (wipe σ vs) p → Own (wipeG g1 vs) (wipe σ vs) p
  at_ : ∃ xs, H' D = some (.lst xs) ∧ RepAll K Hf' xs acc
  fz : Hf' D = none
  no : ¬ Own g' (wipe σ vs) D
theorem comp_ok {scope : Scope} {vs : List Nat} {tg iter elt : Expr} {ifs : List Expr} {it : MI} {tm : Wv → Gh → Option Gh} {ts : MT} {el : ME} (hi : EvI F pr tg iter it) (hg : EvG (F.blk scope) pr vs tg tm) (ht : EvTs (F.blk scope) pr ifs ts) (he : Ev (F.blk scope) pr elt el)
    {w : Wv} {Q : VK} (E : En F.K pr B Hf H g σ) (eq : mComp vs it tm ts el g = some (w, g')) (q : ∀ v Hf' H', Stp F.K pr B Hf H g σ Hf' H' g' → WOk F.K B Hf' H' g' σ w v → Yng H w v → Q v H') :
    tLc (UI F tg iter) (UG (F.blk scope) tg) (UTs (F.blk scope) ifs) (U (F.blk scope) elt) vs σ H Q := by
  obtain ⟨⟨ds, g1⟩, e1, eq1⟩ := Option.bind_eq_some_iff.mp eq
  dsimp only at eq1
  split at eq1
  · rename_i hlen
    obtain ⟨⟨out, g2⟩, e2, eq2⟩ := Option.bind_eq_some_iff.mp eq1
    cases eq2
    refine hi B Hf H g σ ds g1 _ E e1 fun J Hf1 H1 s1 wk D hD => ?_
    have hfD : Hf1 D = none := s1.env.frz hD
    -- the invariant by the turn
    let Pv : Nat → Hp → Prop := fun i H' => ∃ Hf' g' acc rest, CInv F.K pr B Hf1 H1 g1 σ vs D Hf' H' g' acc ∧ compL vs tm ts el (ds.drop i) g' = some (rest, g2) ∧ acc ++ rest = out ∧ acc.length ≤ i
    refine ⟨fun i m H' => m = ds.length - i ∧ i ≤ ds.length ∧ Pv i H', ⟨ds.length, by simp, Nat.zero_le _, Hf1, wipeG g1 vs, [], out, ⟨?_, ?_, fun _ h => h, ⟨[], upd_same, .nil⟩, hfD, ?_⟩, by rw [List.drop_zero]; exact e2, rfl, Nat.le_refl _⟩, ?_⟩
    · exact (s1.env.wipe vs).mut hD
    · exact Tr.mut hD
    · exact fun z => s1.env.own_none hD (own_wipe z)
    rintro i m H' ⟨rfl, hi, Hf', g', acc, rest, c, er, eo, ha⟩
    have ex1 : Evl.Ex Hf1 Hf' := c.tr.ex
    obtain ⟨go, stop, yld⟩ := wk Hf' H' ex1 c.env.ex
    by_cases hlt : i < ds.length
    · refine .inr ⟨go i hlt, Pv (i + 1), fun H'' p => ⟨ds.length - (i + 1), by omega, rfl, hlt, p⟩, fun x H'' y => ?_⟩
      have hd : ds[i]? = some ds[i] := by simp [hlt]
      rw [List.drop_eq_getElem_cons hlt] at er
      obtain ⟨Hf2, t2, en2, rx⟩ := yld i _ x H'' hd y
      have E2 := en2 pr B g' (wipe σ vs) c.env
      obtain ⟨gt, k1, er1⟩ := Option.bind_eq_some_iff.mp (show ((tm (.dat ds[i]) g').bind _) = some (rest, g2) from er)
      obtain ⟨⟨b, gb⟩, k2, er2⟩ := Option.bind_eq_some_iff.mp er1
      obtain ⟨xs, hxs, rxs⟩ := c.at_
      -- D through the yield
      obtain ⟨hD2, fD2⟩ := t2.keep D _ hxs (fun z => z)
      refine hg B Hf2 H'' g' (wipe σ vs) (.dat ds[i]) x gt _ E2 rx k1 fun σ3 Hf3 H3 s3 => ?_
      have nD3 : ¬ Own gt σ3 D := fun z => by
        rcases s3.sub D z with z | ⟨⟨_, z⟩, _⟩
        · exact c.no z
        · cases z
      obtain ⟨hD3, fD3⟩ := s3.tr.keep D _ hD2 c.no
      have wl : wipe σ3 vs = wipe σ vs := by
        rw [wipe_eq (σ1 := σ3) (σ2 := wipe σ vs) ?_ s3.oth]
        · rw [wipe_eq (σ1 := wipe σ vs) (σ2 := σ) (by rw [wipe_length]) fun i hi => wipe_get hi]
        · exact s3.slen
      refine ⟨wl, ?_⟩
      refine ht B Hf3 H3 gt σ3 b gb _ s3.env k2 fun Hf4 H4 s4 => ?_
      obtain ⟨hD4, fD4⟩ := s4.tr.keep D _ hD3 nD3
      have nD4 : ¬ Own gb σ3 D := fun z => nD3 (s4.sub D z)
      -- from the block's start to here
      have sub3 : ∀ p, Own gt σ3 p → Own (wipeG g1 vs) (wipe σ vs) p := fun p z => by
        rcases s3.sub p z with z | ⟨⟨_, z⟩, _⟩
        · exact c.sub p z
        · cases z
      have sub4 : ∀ p, Own gb σ3 p → Own (wipeG g1 vs) (wipe σ vs) p := fun p z => sub3 p (s4.sub p z)
      have T4 : Tr (Own (wipeG g1 vs) (wipe σ vs)) Hf1 H1 Hf4 H4 := ((c.tr.trans' t2 fun p z => z.elim).trans' s3.tr c.sub).trans' s4.tr sub3
      have e0 : ∀ {Hx : Hp}, Evl.Ex Hf2 Hx → Evl.Ex Hf' Hx := fun z => t2.ex.trans z
      cases b with
      | false =>
        dsimp only at er2
        rw [if_neg Bool.false_ne_true] at er2
        show if false = true then _ else Pv (i + 1) H4
        rw [if_neg Bool.false_ne_true]
        refine ⟨Hf4, wipeG gb vs, acc, rest, ⟨?_, T4, fun p z => ?_, ⟨xs, hD4, rxs.mono (e0 (s3.tr.ex.trans s4.tr.ex))⟩, ?_, fun z => ?_⟩, er2, eo, by omega⟩
        · have := s4.env.wipe vs
          rw [wl] at this; exact this
        · rw [← wl] at z; exact sub4 p (own_wipe z)
        · rw [fD4, fD3, fD2]; exact c.fz
        · rw [← wl] at z; exact nD4 (own_wipe z)
      | true =>
        dsimp only at er2
        rw [if_pos rfl] at er2
        rw [if_pos rfl]
        obtain ⟨⟨we, ge⟩, k3, er3⟩ := Option.bind_eq_some_iff.mp er2
        obtain ⟨⟨d, gr⟩, k4, er4⟩ := Option.bind_eq_some_iff.mp er3
        obtain ⟨⟨rest', g3⟩, k5, er5⟩ := Option.bind_eq_some_iff.mp er4
        cases er5
        refine he B Hf4 H4 gb σ3 we ge _ s4.env k3 fun y' Hf5 H5 s5 w5 y5 => ?_
        obtain ⟨Hf6, s6, r6⟩ := s5.toD y5 w5 k4
        obtain ⟨hD6, fD6⟩ := s6.tr.keep D _ hD4 nD4
        have nD6 : ¬ Own gr σ3 D := fun z => nD4 (s6.sub D z)
        have fD : Hf6 D = none := by rw [fD6, fD4, fD3, fD2]; exact c.fz
        have T6 := T4.trans' s6.tr sub4
        have la := rxs.length
        refine ⟨xs, hD6, by omega, Hf6, wipeG gr vs, acc ++ [d], rest', ⟨?_, ⟨T6.ex, fun p o hp no => ?_, fun p hp => T6.stay p (upd_none hp)⟩, fun p z => ?_, ⟨xs ++ [y'], upd_same, ?_⟩, fD, fun z => ?_⟩, k5, by rw [← eo]; simp, by simp; omega⟩
        · have := (s6.env.put (o := .lst (xs ++ [y'])) fD nD6).wipe vs
          rw [wl] at this; exact this
        · obtain ⟨k1, k2⟩ := T6.keep p o hp no
          exact ⟨by rw [upd_ne (ne_of_none hp hD)]; exact k1, k2⟩
        · rw [← wl] at z; exact sub4 p (s6.sub p (own_wipe z))
        · exact (rxs.mono (e0 (s3.tr.ex.trans (s4.tr.ex.trans s6.tr.ex)))).append (.cons r6 .nil)
        · rw [← wl] at z; exact nD6 (own_wipe z)
    · have e : i = ds.length := by omega
      subst e
      refine .inl ⟨stop, ?_⟩
      rw [List.drop_length] at er
      cases er
      rw [List.append_nil] at eo
      subst eo
      obtain ⟨xs, hxs, rxs⟩ := c.at_
      have gl : g1.length = g2.length := by
        have h1 := s1.env.len
        have h2 := c.env.len
        rw [wipe_length] at h2; omega
      have apart : ∀ (i : Nat) ds p, i ∈ vs → g1[i]? = some (.own ds) → σ[i]? = some (some (.ref p)) → ¬ Own (wipeG g1 vs) (wipe σ vs) p := fun i ds p hi h1 h2 z => by
        obtain ⟨j, es, e1, e2⟩ := z
        obtain ⟨e1, nj⟩ := wipeG_get e1 (by simp)
        have := s1.env.dis i j ds es p h1 e1 h2 (wipe_some e2).1
        exact nj (this ▸ hi)
      have own_r : ∀ p, Own (restore vs g1 g2) σ p → Own g1 σ p := fun p ⟨i, es, e1, e2⟩ => by
        rw [restore_get g1 gl] at e1
        split at e1
        · exact ⟨i, es, e1, e2⟩
        · rename_i hi
          exact own_wipe (c.sub p ⟨i, es, e1, by rw [wipe_get hi]; exact e2⟩)
      have er : En F.K pr B Hf' H' (restore vs g1 g2) σ := by
        refine ⟨c.env.ex, by rw [restore_len, ← gl]; exact s1.env.len, fun i s e n => ?_, fun i j es fs p h1 h2 e1 e2 => ?_, c.env.nb, fun i es p h1 e1 => ?_⟩
        · rw [restore_get g1 gl] at e
          split at e
          · rename_i hi
            obtain ⟨v, e1, so⟩ := s1.env.ok i s e n
            refine ⟨v, e1, ?_⟩
            cases s with
            | un => trivial
            | val d => exact Rep.mono c.tr.ex so
            | own es =>
              obtain ⟨p, us, rfl, h1, h2, h3⟩ := so
              obtain ⟨k1, k2⟩ := c.tr.keep p _ h2 (apart i es p hi e e1)
              exact ⟨p, us, rfl, k2.trans h1, k1, h3.mono c.tr.ex⟩
            | raw x => exact so
          · rename_i hi
            obtain ⟨v, e1, so⟩ := c.env.ok i s e n
            exact ⟨v, by rw [wipe_get hi] at e1; exact e1, so⟩
        · rw [restore_get g1 gl] at h1 h2
          split at h1
          · rename_i hi
            split at h2
            · exact s1.env.dis i j es fs p h1 h2 e1 e2
            · rename_i hj
              exact (apart i es p hi h1 e1 (c.sub p ⟨j, fs, h2, by rw [wipe_get hj]; exact e2⟩)).elim
          · rename_i hi
            split at h2
            · rename_i hj
              exact (apart j fs p hj h2 e2 (c.sub p ⟨i, es, h1, by rw [wipe_get hi]; exact e1⟩)).elim
            · rename_i hj
              exact c.env.dis i j es fs p h1 h2 (by rw [wipe_get hi]; exact e1) (by rw [wipe_get hj]; exact e2)
        · rw [restore_get g1 gl] at h1
          split at h1
          · exact s1.env.ob i es p h1 e1
          · rename_i hi
            exact c.env.ob i es p h1 (by rw [wipe_get hi]; exact e1)
      refine q _ Hf' H' ⟨s1.tr.trans' c.tr fun p z => s1.sub p (own_wipe z), er, fun p z => s1.sub p (own_r p z)⟩ ⟨D, xs, rfl, s1.env.nb D hD, c.fz, hxs, rxs, fun z => ?_⟩ (fun _ _ p e => by cases e; exact s1.tr.stay _ hD)
      exact s1.env.own_none hD (own_r D z)
  · cases eq1
theorem ev_comp {scope : Scope} {own : List (Str × Nat)} {tg iter elt : Expr} {ifs : List Expr} {it : MI} {tm : Wv → Gh → Option Gh} {ts : MT} {el : ME} {pos : Pos} (hc : ∀ i, (F.X i).calm = true) (hN : ∀ i, (F.X i).N.Nodup) (ok : ∀ i, BlkOk (F.X i).N (F.X i).env.scope scope own)
    (hi : EvI F pr tg iter it) (hg : EvG (F.blk scope) pr (own.map (·.2)) tg tm) (ht : EvTs (F.blk scope) pr ifs ts) (he : Ev (F.blk scope) pr elt el) (hs : ∀ i, ∀ x, foldedSetIterable iter (F.X i).env x = pure x := by intro _ _; rfl) :
    Ev F pr (.ListComp elt [⟨tg, iter, ifs, 0⟩] scope pos) (mComp (own.map (·.2)) it tm ts el) := by
  intro B Hf H g σ w g' Q E eq q
  exact ⟨_, fun i => pe_lc (hc i) (hN i) (pi_U i) (ok i) (fun s H C cl fp => pg_U (F := F.blk scope) (i, s, H, C, cl, fp)) (fun s H C cl fp => pts_U (F := F.blk scope) (i, s, H, C, cl, fp)) (fun s H C cl fp => pe_U (F := F.blk scope) (i, s, H, C, cl, fp)) (hs i), comp_ok hi hg ht he E eq q⟩
end
end EV
end
section
set_option Elab.async false
set_option linter.all false
set_option maxRecDepth 100000
set_option maxHeartbeats 2000000
set_option autoImplicit false
namespace EV
open PySem PySem.Spec PyProof.Rows L2
section
variable {F : Fam} {pr : List Nat} {B : Addr → Prop} {Hf H Hf' H' Hf1 H1 Hf2 H2 : Hp} {g g' g1 g2 : Gh} {σ σ' σ1 σ2 : L2.St} {K : Frag}
/-! ### statements -/
theorem FlOk.step {D : Ends} {fl : Fl} : FlOk K B Hf H g σ D fl → FlOk K B Hf H g σ D fl := id
def sNil : MS := fun g => some (.nx, g)
def sSeq (f h : MS) : MS := fun g => (f g).bind fun a => match a.1 with
  | .nx => h a.2
  | fl => some (fl, a.2)
theorem ss_nil : EvSs F pr [] sNil := by
  intro B Hf H g σ fl g' D E eq q
  cases eq
  exact ⟨tNext, fun _ => pss_nil, q σ Hf H (SStp.refl E)⟩
theorem ss_one {st : Stmt} {f : MS} (h : EvS F pr st f) : EvSs F pr [st] f := by
  intro B Hf H g σ fl g' D E eq q
  exact ⟨US F st, fun i => pss_one (ps_U i), h B Hf H g σ fl g' D E eq q⟩
theorem ss_cons {st : Stmt} {r : List Stmt} {f h : MS} (h1 : EvS F pr st f) (h2 : EvSs F pr r h) : EvSs F pr (st :: r) (sSeq f h) := by
  intro B Hf H g σ fl g' D E eq q
  obtain ⟨⟨fl1, g1⟩, e1, eq1⟩ := Option.bind_eq_some_iff.mp eq
  refine ⟨tSeq (US F st) (USs F r), fun i => pss_cons (ps_U i) (pss_U i), ?_⟩
  refine h1 B Hf H g σ fl1 g1 _ E e1 fun σ1 Hf1 H1 s1 => ?_
  cases fl1 with
  | nx => exact h2 B Hf1 H1 g1 σ1 fl g' D s1.env eq1 fun σ2 Hf2 H2 s2 => q σ2 Hf2 H2 (s1.trans s2)
  | rt w => cases eq1; exact q σ1 Hf1 H1 s1
  | bk => cases eq1; exact q σ1 Hf1 H1 s1
  | ct => cases eq1; exact q σ1 Hf1 H1 s1
def sBrk : MS := fun g => some (.bk, g)
def sCnt : MS := fun g => some (.ct, g)
/-- code that is never come to -/
def sNo : MS := fun _ => none
theorem s_never {st : Stmt} : EvS F pr st sNo := by
  intro B Hf H g σ fl g' D E eq q
  cases eq
def sDrop (f : ME) : MS := fun g => (f g).bind fun a => some (.nx, a.2)
theorem s_expr {e : Expr} {f : ME} {pos : Pos} (h : Ev F pr e f) (hs : ∀ i, swapsWith e none pos.line (F.X i).env = pure false := by intro _; rfl) : EvS F pr (.Expr e pos) (sDrop f) := by
  intro B Hf H g σ fl g' D E eq q
  obtain ⟨⟨w, g1⟩, e1, eq1⟩ := Option.bind_eq_some_iff.mp eq
  cases eq1
  refine ⟨tDrop (U F e), fun i => ps_expr (pe_U i) (hs i), ?_⟩
  exact h B Hf H g σ w _ _ E e1 fun v Hf1 H1 s1 w1 y1 => q σ Hf1 H1 s1.s
def sRet (pr : List Nat) (f : ME) : MS := fun g => (f g).bind fun a => match a.1 with
  | .slot i => if pr.contains i then (toD (.slot i) a.2).bind fun r => some (.rt (.dat r.1), r.2) else match a.2[i]? with
    | some (.own ds) => some (.rt (.fresh ds), a.2.set i .un)
    | some (.val d) => some (.rt (.dat d), a.2)
    | _ => none
  | w => some (.rt w, a.2)
theorem s_ret {e : Expr} {f : ME} {pos : Pos} (h : Ev F pr e f) : EvS F pr (.Return (some e) pos) (sRet pr f) := by
  intro B Hf H g σ fl g' D E eq q
  obtain ⟨⟨w, g1⟩, e1, eq1⟩ := Option.bind_eq_some_iff.mp eq
  refine ⟨tRet (U F e), fun i => ps_ret (pe_U i), ?_⟩
  refine h B Hf H g σ w g1 _ E e1 fun v Hf1 H1 s1 w1 y1 => ?_
  cases w with
  | dat d => cases eq1; exact q σ Hf1 H1 s1.s v w1 (fun _ z => nomatch z)
  | fresh ds => cases eq1; exact q σ Hf1 H1 s1.s v w1 (fun _ z => nomatch z)
  | raw x => cases eq1; exact q σ Hf1 H1 s1.s v w1 (fun _ z => nomatch z)
  | slot i =>
    dsimp only at eq1
    split at eq1
    · obtain ⟨⟨d, g2⟩, e2, eq2⟩ := Option.bind_eq_some_iff.mp eq1
      cases eq2
      obtain ⟨Hf2, s2, r⟩ := s1.toD y1 w1 e2
      exact q σ Hf2 H1 s2.s v r (fun _ z => nomatch z)
    · rename_i hp
      cases hg : g1[i]? with
      | none => rw [hg] at eq1; cases eq1
      | some sl =>
        rw [hg] at eq1
        have w1 : σ[i]? = some (some v) := w1
        cases sl with
        | own ds =>
          cases eq1
          obtain ⟨p, us, e3, k1, k2, k3, ow⟩ := s1.env.own_val hg
          rw [w1] at e3; cases e3
          have hb : B p := by
            rcases s1.env.ob i ds p hg w1 with z | z
            · exact absurd (List.contains_iff_mem.mpr z) hp
            · exact z
          refine q σ Hf1 H1 ⟨s1.tr, s1.env.drop i, fun p z => .inl (s1.sub p (own_drop z)), fun _ _ => rfl⟩ _ ⟨p, us, rfl, hb, k2, k1, k3, s1.env.not_own_drop hg w1⟩ (fun _ z => nomatch z)
        | val d =>
          cases eq1
          obtain ⟨v', e3, r⟩ := s1.env.ok i _ hg (by simp)
          rw [w1] at e3; cases e3
          exact q σ Hf1 H1 s1.s v r (fun _ z => nomatch z)
        | un => cases eq1
        | raw x => cases eq1
def sRetN : MS := fun g => some (.rt (.dat .none), g)
def sIf (t : MT) (f h : MS) : MS := fun g => (t g).bind fun a => if a.1 = true then f a.2 else h a.2
theorem s_if {t : Expr} {a b : List Stmt} {ft : MT} {f h : MS} {pos : Pos} (ht : EvT F pr t ft) (ha : EvSs F pr a f) (hb : EvSs F pr b h) : EvS F pr (.If t a b pos) (sIf ft f h) := by
  intro B Hf H g σ fl g' D E eq q
  obtain ⟨⟨k, g1⟩, e1, eq1⟩ := Option.bind_eq_some_iff.mp eq
  refine ⟨tIfS (UT F t) (USs F a) (USs F b), fun i => ps_if (pt_U i) (pss_U i) (pss_U i), ?_⟩
  refine ht B Hf H g σ k g1 _ E e1 fun Hf1 H1 s1 => ?_
  cases k with
  | true => exact ha B Hf1 H1 g1 σ fl g' D s1.env eq1 fun σ2 Hf2 H2 s2 => q σ2 Hf2 H2 (s1.s.trans s2)
  | false => exact hb B Hf1 H1 g1 σ fl g' D s1.env eq1 fun σ2 Hf2 H2 s2 => q σ2 Hf2 H2 (s1.s.trans s2)
/-- x = e -/
def sSet (i : Nat) (f : ME) : MS := fun g => (f g).bind fun a => (setN i a.1 a.2).bind fun g' => some (.nx, g')
theorem set_sstp {w : Wv} {v : V} {vs : List Nat} (s : Stp K pr B Hf H g σ Hf1 H1 g1) (y : Yng H w v) (t : GStp K pr B vs w v Hf1 H1 g1 σ Hf2 H2 g2 σ2) : SStp K pr B Hf H g σ Hf2 H2 g2 σ2 :=
  ⟨s.tr.trans' t.tr s.sub, t.env, fun p z => by
    rcases t.sub p z with z | ⟨⟨ds, z⟩, z2⟩
    · exact .inl (s.sub p z)
    · exact .inr (y ds z p z2), t.prk⟩
theorem s_set (i : Nat) {x : Str} {e : Expr} {f : ME} {pos pos' : Pos} (h : Ev F pr e f) (hN : ∀ j, (F.X j).N.Nodup) (hi : ∀ j, (F.X j).N[i]? = some x := by intro _; rfl) (hx : ∀ j, Loc (F.X j).env.scope x := by intro _; first | exact Or.inl rfl | exact Or.inr rfl)
    (hs : ∀ j, swapsWith e (some (.Name x pos')) pos.line (F.X j).env = pure false := by intro _; rfl) (hf : ∀ j, (F.X j).fn x = true ∨ (F.X j).env.scope.names.lookup x = some .local := by intro _; first | exact .inl rfl | exact .inr rfl) (hp : i ∉ pr := by decide) :
    EvS F pr (.Assign [.Name x pos'] e pos) (sSet i f) := by
  intro B Hf H g σ fl g' D E eq q
  obtain ⟨⟨w, g1⟩, e1, eq1⟩ := Option.bind_eq_some_iff.mp eq
  obtain ⟨g2, e2, eq2⟩ := Option.bind_eq_some_iff.mp eq1
  cases eq2
  refine ⟨tAsg (U F e) (gName i), fun j => ps_set (hN j) (hi j) (hx j) (pe_U j) (hs j) (hf j), ?_⟩
  refine h B Hf H g σ w g1 _ E e1 fun v Hf1 H1 s1 w1 y1 => ?_
  obtain ⟨Hf2, t⟩ := setN_ok s1.env w1 e2 hp
  exact q _ Hf2 H1 (set_sstp s1 y1 t)
/-- y = [.. for ..], y a local: stored within -/
theorem s_setLc (i : Nat) {y : Str} {scope : Scope} {own : List (Str × Nat)} {tg iter elt : Expr} {ifs : List Expr} {it : MI} {tm : Wv → Gh → Option Gh} {ts : MT} {el : ME} {pos spos py : Pos} (hc : ∀ i, (F.X i).calm = true) (hN : ∀ i, (F.X i).N.Nodup) (ok : ∀ i, BlkOk (F.X i).N (F.X i).env.scope scope own)
    (hi : EvI F pr tg iter it) (hg : EvG (F.blk scope) pr (own.map (·.2)) tg tm) (ht : EvTs (F.blk scope) pr ifs ts) (he : Ev (F.blk scope) pr elt el)
    (hy : ∀ j, (F.X j).N[i]? = some y := by intro _; rfl) (hyl : ∀ j, (F.X j).env.scope.names.lookup y = some .local := by intro _; rfl) (hsw : ∀ j, swapsWith (.ListComp elt [⟨tg, iter, ifs, 0⟩] scope pos) (some (.Name y py)) spos.line (F.X j).env = pure true := by intro _; exact sw_true rfl rfl rfl (by decide +kernel))
    (hs : ∀ i, ∀ x, foldedSetIterable iter (F.X i).env x = pure x := by intro _ _; rfl) (hp : i ∉ pr := by decide) :
    EvS F pr (.Assign [.Name y py] (.ListComp elt [⟨tg, iter, ifs, 0⟩] scope pos) spos) (sSet i (mComp (own.map (·.2)) it tm ts el)) := by
  intro B Hf H g σ fl g' D E eq q
  obtain ⟨⟨w, g1⟩, e1, eq1⟩ := Option.bind_eq_some_iff.mp eq
  obtain ⟨g2, e2, eq2⟩ := Option.bind_eq_some_iff.mp eq1
  cases eq2
  refine ⟨_, fun j => ps_setLc (hc j) (hN j) (hy j) (hyl j) (hsw j) (pi_U j) (ok j) (fun s H C cl fp => pg_U (F := F.blk scope) (j, s, H, C, cl, fp)) (fun s H C cl fp => pts_U (F := F.blk scope) (j, s, H, C, cl, fp)) (fun s H C cl fp => pe_U (F := F.blk scope) (j, s, H, C, cl, fp)) (hs j), ?_⟩
  refine comp_ok (Q := fun x H1 => gName i x σ H1 D.nx) hi hg ht he E e1 fun v Hf1 H1 s1 w1 y1 => ?_
  obtain ⟨Hf2, t⟩ := setN_ok s1.env w1 e2 hp
  exact q _ Hf2 H1 (set_sstp s1 y1 t)
/-- target = e, a target of names -/
def sAsg (f : ME) (m : Wv → Gh → Option Gh) : MS := fun g => (f g).bind fun a => (m a.1 a.2).bind fun g' => some (.nx, g')
theorem s_asg {tg e : Expr} {f : ME} {vs : List Nat} {m : Wv → Gh → Option Gh} {pos : Pos} (h : Ev F pr e f) (hg : EvG F pr vs tg m) (hs : ∀ j, swapsWithSole [tg] e pos.line (F.X j).env = pure false := by intro _; rfl) (hw : ∀ j, swappedStores [tg] e (F.X j).env = pure none := by intro _; rfl)
    (h1 : ∀ j, (assignEach [tg] (F.X j).env).map (·.2) = [assign tg (F.X j).env] := by intro _; rfl) : EvS F pr (.Assign [tg] e pos) (sAsg f m) := by
  intro B Hf H g σ fl g' D E eq q
  obtain ⟨⟨w, g1⟩, e1, eq1⟩ := Option.bind_eq_some_iff.mp eq
  obtain ⟨g2, e2, eq2⟩ := Option.bind_eq_some_iff.mp eq1
  cases eq2
  refine ⟨tAsg (U F e) (UG F tg), fun j => ps_asg (pe_U j) (pg_U j) (hs j) (hw j) (h1 j), ?_⟩
  refine h B Hf H g σ w g1 _ E e1 fun v Hf1 H1 s1 w1 y1 => ?_
  exact hg B Hf1 H1 g1 σ w v _ _ s1.env w1 e2 fun σ2 Hf2 H2 t => q σ2 Hf2 H2 (set_sstp s1 y1 t)
/-- a, b, .. = x, y, .. -/
def sPar (is : List Nat) (fa : MA) : MS := fun g => (fa g).bind fun a => (setNs is a.1 a.2).bind fun g' => some (.nx, g')
theorem par_sstp {ws : List Wv} {us : List V} {is : List Nat} (s : Stp K pr B Hf H g σ Hf1 H1 g1) (y : YAll H ws us) (E2 : En K pr B Hf1 H1 g2 σ2) (o : ∀ p, Own g2 σ2 p → Own g1 σ p ∨ ∃ (i : Nat) (ds : List Da), ws[i]? = some (.fresh ds) ∧ us[i]? = some (.ref p)) (pk : ∀ i ∈ pr, σ2[i]? = σ[i]?) : SStp K pr B Hf H g σ Hf1 H1 g2 σ2 :=
  ⟨s.tr, E2, fun p z => by
    rcases o p z with z | ⟨i, ds, z, z2⟩
    · exact .inl (s.sub p z)
    · refine .inr ?_
      have go : ∀ {ws : List Wv} {us : List V} {i : Nat}, YAll H ws us → ws[i]? = some (.fresh ds) → us[i]? = some (.ref p) → H p = none := by
        intro ws us i y
        induction y generalizing i with
        | nil => intro h; simp at h
        | cons a b ih =>
          intro h h2
          cases i with
          | zero => simp at h h2; exact a ds h p h2
          | succ i => exact ih (by simpa using h) (by simpa using h2)
      exact go y z z2, pk⟩
theorem s_par2 (i j : Nat) {x y : Str} {a b : Expr} {fa : MA} {px py pt pos : Pos} {kt k2 pt2} (ha : EvA F pr [a, b] fa) (hc : ∀ q, (F.X q).calm = true) (hN : ∀ q, (F.X q).N.Nodup) (hi : ∀ q, (F.X q).N[i]? = some x := by intro _; rfl) (hj : ∀ q, (F.X q).N[j]? = some y := by intro _; rfl) (hij : i ≠ j := by decide)
    (hx : ∀ q, (F.X q).env.scope.names.lookup x = some .local := by intro _; rfl) (hy : ∀ q, (F.X q).env.scope.names.lookup y = some .local := by intro _; rfl)
    (hw : ∀ q, swappedStores [.Tuple [.Name x px, .Name y py] kt pt] (.Tuple [a, b] k2 pt2) (F.X q).env = pure (some [x, y]) := by intro _; rfl)
    (hs : ∀ q, swapsWithSole [.Tuple [.Name x px, .Name y py] kt pt] (.Tuple [a, b] k2 pt2) pos.line (F.X q).env = pure false := by intro _; rfl) (hp : ∀ q ∈ [i, j], q ∉ pr := by decide) :
    EvS F pr (.Assign [.Tuple [.Name x px, .Name y py] kt pt] (.Tuple [a, b] k2 pt2) pos) (sPar [i, j] fa) := by
  intro B Hf H g σ fl g' D E eq q
  obtain ⟨⟨ws, g1⟩, e1, eq1⟩ := Option.bind_eq_some_iff.mp eq
  obtain ⟨g2, e2, eq2⟩ := Option.bind_eq_some_iff.mp eq1
  cases eq2
  refine ⟨tPar i j (UA F [a, b]), fun q => ps_par (hc q) (hN q) (hi q) (hj q) hij (hx q) (hy q) (pa_U q) (hw q) (hs q), ?_⟩
  refine ha B Hf H g σ ws g1 _ E e1 fun vs Hf1 H1 s1 w1 y1 => ?_
  have k := setNs_ok (D := fun σ' H' => D.nx σ' H') s1.env w1 e2 hp fun σ' E' o p2 t2 l2 => q σ' Hf1 H1 (par_sstp (is := [i, j]) s1 y1 E' o p2)
  obtain ⟨v, r, rfl, v2, r2, rfl, rfl, k⟩ := k
  exact ⟨v, v2, rfl, k⟩
theorem s_parT (is : List Nat) {es : List Expr} {tes : List Expr} {fa : MA} {pt pos : Pos} {kt k2 pt2} (ha : EvA F pr es fa) (hc : ∀ q, (F.X q).calm = true) (h : ∀ i, PGs (F.X i) tes (gNames is)) (hn : ∀ i, (assignEach tes (F.X i).env).length = is.length := by intro _; rfl) (hst : ∀ i, (assignEach tes (F.X i).env).findIdx? (·.1) = none := by intro _; rfl)
    (hs : ∀ j, swapsWithSole [.Tuple tes kt pt] (.Tuple es k2 pt2) pos.line (F.X j).env = pure false := by intro _; rfl) (hw : ∀ j, swappedStores [.Tuple tes kt pt] (.Tuple es k2 pt2) (F.X j).env = pure none := by intro _; rfl)
    (h1 : ∀ j, (assignEach [.Tuple tes kt pt] (F.X j).env).map (·.2) = [assign (.Tuple tes kt pt) (F.X j).env] := by intro _; rfl) (hp : ∀ q ∈ is, q ∉ pr := by decide) (hlen : is.length ≤ 1000 := by decide) :
    EvS F pr (.Assign [.Tuple tes kt pt] (.Tuple es k2 pt2) pos) (sPar is fa) := by
  intro B Hf H g σ fl g' D E eq q
  obtain ⟨⟨ws, g1⟩, e1, eq1⟩ := Option.bind_eq_some_iff.mp eq
  obtain ⟨g2, e2, eq2⟩ := Option.bind_eq_some_iff.mp eq1
  cases eq2
  refine ⟨tAsg (tTup (UA F es)) (gTup F.K is.length (gNames is)), fun j => ps_asg (pe_tup (pa_U j)) (by have z := pg_tup (hc j) (h j) (hn j) (hst j) (k := kt) (pos := pt); rw [F.hK j] at z; exact z) (hs j) (hw j) (h1 j), ?_⟩
  refine ha B Hf H g σ ws g1 _ E e1 fun vs Hf1 H1 s1 w1 y1 => ?_
  have hl : vs.length = is.length := (wall_len w1).symm.trans (setNs_len e2)
  refine ⟨Nat.le_trans (by rw [hl]; exact hlen) (by decide : 1000 ≤ sizeLine), fun p hp1 => ⟨p, vs, rfl, .inl (.inl upd_same), hl, ?_⟩⟩
  have s2 : Stp F.K pr B Hf1 H1 g1 σ Hf1 (upd H1 p (.tup vs)) g1 := ⟨Tr.mut hp1, s1.env.mut hp1, fun _ h => h⟩
  exact setNs_ok (D := fun σ' H' => D.nx σ' H') s2.env (w1.step s1.env s2) e2 hp fun σ' E' o p2 t2 l2 => q σ' Hf1 _ (par_sstp (is := is) (s1.trans s2) y1 E' o p2)
where
  wall_len {B : Addr → Prop} {Hf H : Hp} {g : Gh} {σ : L2.St} {ws : List Wv} {vs : List V} (h : WAll F.K B Hf H g σ ws vs) : ws.length = vs.length := by
    induction h with
    | nil => rfl
    | cons a b c ih => simp [ih]
  setNs_len : ∀ {is : List Nat} {ws : List Wv} {g g' : Gh}, setNs is ws g = some g' → ws.length = is.length
    | [], [], _, _, _ => rfl
    | i :: is, w :: ws, g, g', e => by
      obtain ⟨s, e1, e⟩ := Option.bind_eq_some_iff.mp (show ((slOf w).bind fun s => if i < g.length then setNs is ws (g.set i s) else none) = some g' from e)
      split at e
      · simp [setNs_len e]
      · cases e
    | [], _ :: _, _, _, e => by cases e
    | _ :: _, [], _, _, e => by cases e
/-! ### lists that a name owns -/
/-- an owned list changed -/
theorem En.change (E : En K pr B Hf H g σ) {i : Nat} {ds es : List Da} {p : Addr} {us : List V} (h : g[i]? = some (.own ds)) (e : σ[i]? = some (some (.ref p))) (r : RepAll K Hf us es) : En K pr B Hf (upd H p (.lst us)) (g.set i (.own es)) σ := by
  obtain ⟨p', vs', e1, h1, h2, h3, ow⟩ := E.own_val h
  rw [e] at e1; cases e1
  have n := E.not_own_drop h e
  have E1 := (E.drop i).put (o := .lst us) h2 n
  have E2 := E1.put_slot (i := i) (s := .own es) e ⟨p, us, rfl, h2, upd_same, r⟩ (fun ds' _ q z => by cases z; exact ⟨by rw [List.set_set]; exact n, E.ob i ds p h e⟩)
  rw [List.set_set] at E2
  exact E2
theorem own_change {i : Nat} {ds es : List Da} {p q : Addr} (h : g[i]? = some (.own ds)) (e : σ[i]? = some (some (.ref p))) (z : Own (g.set i (.own es)) σ q) : Own g σ q := by
  rcases own_put z with z | ⟨_, _, z⟩
  · exact own_drop z
  · rw [e] at z; cases z; exact ⟨i, ds, h, e⟩
theorem Stp.change (s : Stp K pr B Hf H g σ Hf1 H1 g1) {i : Nat} {ds es : List Da} {p : Addr} {us : List V} (h : g1[i]? = some (.own ds)) (e : σ[i]? = some (some (.ref p))) (r : RepAll K Hf1 us es) : Stp K pr B Hf H g σ Hf1 (upd H1 p (.lst us)) (g1.set i (.own es)) := by
  have ow : Own g σ p := s.sub p ⟨i, ds, h, e⟩
  refine ⟨⟨s.tr.ex, fun q o hq no => ?_, fun q hq => s.tr.stay q (upd_none hq)⟩, s.env.change h e r, fun q z => s.sub q (own_change h e z)⟩
  obtain ⟨k1, k2⟩ := s.tr.keep q o hq no
  exact ⟨by rw [upd_ne (fun z => no (by subst z; exact ow))]; exact k1, k2⟩
/-- xs.append(e) -/
def sApp (i : Nat) (f : ME) : MS := fun g => match g[i]? with
  | some (.own _) => (f g).bind fun a => (toD a.1 a.2).bind fun r => match r.2[i]? with
    | some (.own ds) => if ds.length < sizeLine then some (.nx, r.2.set i (.own (ds ++ [r.1]))) else none
    | _ => none
  | _ => none
theorem s_app (i : Nat) {x : Str} {e : Expr} {f : ME} {p1 p2 pos pos' : Pos} (h : Ev F pr e f) (hN : ∀ j, (F.X j).N[i]? = some x := by intro _; rfl) (hv : ∀ j, Vis (F.X j).env.scope x := by intro _; first | exact Or.inl rfl | exact Or.inr (Or.inl rfl) | exact Or.inr (Or.inr rfl))
    (hpe : ∀ (t : TE), (∀ j, PE (F.X j) e t) → ∀ j, PE (F.X j) (.Call (.Attribute (.Name x p1) "append" p2) [e] [] pos) (tBM (F.X j).K "list" rAppend (tVar i) (tCons t tNil)) := by
      intro t ht j
      exact pe_bm PySem.F.plainAttrs_list PySem.F.slot_list_append PySem.F.type_list_append mt_append (pv _) (pa_cons (ht j) pa_nil))
    (hs : ∀ j, swapsWith (.Call (.Attribute (.Name x p1) "append" p2) [e] [] pos) none pos'.line (F.X j).env = pure false := by intro _; rfl) : EvS F pr (.Expr (.Call (.Attribute (.Name x p1) "append" p2) [e] [] pos) pos') (sApp i f) := by
  intro B Hf H g σ fl g' D E eq q
  unfold sApp at eq
  split at eq
  · rename_i ds0 hg0
    obtain ⟨⟨w, g1⟩, e1, eq1⟩ := Option.bind_eq_some_iff.mp eq
    obtain ⟨⟨d, g2⟩, e2, eq2⟩ := Option.bind_eq_some_iff.mp eq1
    dsimp only at eq2
    split at eq2
    · rename_i ds hg
      split at eq2
      · rename_i hl
        cases eq2
        obtain ⟨p, us0, k0, k1, k2, k3, _⟩ := E.own_val hg0
        refine ⟨tDrop (tBM F.K "list" rAppend (tVar i) (tCons (U F e) tNil)), fun j => ps_expr (by have z := hpe (U F e) (fun j => pe_U j) j; rw [F.hK j] at z; exact z) (hs j), ?_⟩
        refine ⟨.ref p, k0, .inl ⟨rfl, _, .inl (.inl k1)⟩, ?_⟩
        refine h B Hf H g σ w g1 _ E e1 fun v Hf1 H1 s1 w1 y1 => ?_
        obtain ⟨Hf2, s2, r⟩ := s1.toD y1 w1 e2
        obtain ⟨p', us, k4, k5, k6, k7, _⟩ := s2.env.own_val hg
        rw [k0] at k4; cases k4
        refine ⟨p, us, v, rfl, rfl, k5, by rw [k7.length]; exact hl, ?_⟩
        exact q σ Hf2 _ (s2.change hg k0 (k7.append (.cons r .nil))).s
      · cases eq2
    · cases eq2
  · cases eq
/-- xs.pop(), its value dropped or taken -/
def mPop (i : Nat) : ME := fun g => match g[i]? with
  | some (.own ds) => (ds.getLast?).bind fun d => some (.dat d, g.set i (.own ds.dropLast))
  | _ => none
theorem ev_pop (i : Nat) {x : Str} {p1 p2 pos : Pos} (hN : ∀ j, (F.X j).N[i]? = some x := by intro _; rfl) (hv : ∀ j, Vis (F.X j).env.scope x := by intro _; first | exact Or.inl rfl | exact Or.inr (Or.inl rfl) | exact Or.inr (Or.inr rfl))
    (hpe : ∀ j, PE (F.X j) (.Call (.Attribute (.Name x p1) "pop" p2) [] [] pos) (tBM0 (F.X j).K "list" rPop (tVar i)) := by
      intro j
      exact pe_bm0 PySem.F.plainAttrs_list PySem.F.slot_list_pop PySem.F.type_list_pop mt_pop (pv _)) : Ev F pr (.Call (.Attribute (.Name x p1) "pop" p2) [] [] pos) (mPop i) := by
  intro B Hf H g σ w g' Q E eq q
  unfold mPop at eq
  split at eq
  · rename_i ds hg
    obtain ⟨d, e1, eq1⟩ := Option.bind_eq_some_iff.mp eq
    cases eq1
    obtain ⟨p, us, k0, k1, k2, k3, _⟩ := E.own_val hg
    rw [List.getLast?_eq_getElem?] at e1
    obtain ⟨v, hv1, rv⟩ := k3.get e1
    refine ⟨tBM0 F.K "list" rPop (tVar i), fun j => by have z := hpe j; rw [F.hK j] at z; exact z, .ref p, k0, .inl ⟨rfl, _, .inl (.inl k1)⟩, p, us, v, rfl, rfl, k1, by rw [k3.length]; exact hv1, ?_⟩
    exact q v Hf _ ((Stp.refl E).change hg k0 k3.dropLast) rv (fun _ z => nomatch z)
  · cases eq
/-- xs[j] = e -/
def sSetIx (i : Nat) (f fi : ME) : MS := fun g => (f g).bind fun a => (toD a.1 a.2).bind fun r => match r.2[i]? with
  | some (.own _) => (fi r.2).bind fun b => (look b.1 b.2).bind fun y => match y, b.2[i]? with
    | .int k, some (.own ds) => (ixN ds.length k).bind fun j => some (.nx, b.2.set i (.own (ds.set j r.1)))
    | _, _ => none
  | _ => none
theorem s_setix (i : Nat) {x : Str} {e ie : Expr} {f fi : ME} {p1 tpos pos : Pos} (h : Ev F pr e f) (hi : Ev F pr ie fi) (hN : ∀ j, (F.X j).N[i]? = some x := by intro _; rfl) (hv : ∀ j, Vis (F.X j).env.scope x := by intro _; first | exact Or.inl rfl | exact Or.inr (Or.inl rfl) | exact Or.inr (Or.inr rfl))
    (hps : ∀ (t ti : TE), (∀ j, PE (F.X j) e t) → (∀ j, PE (F.X j) ie ti) → ∀ j, PS (F.X j) (.Assign [.Subscript (.Name x p1) ie tpos] e pos) (tAsg t (gSub (tVar i) ti rSetL)) := by
      intro t ti ht hti j
      exact ps_asg (ht j) (pg_sub (pv _) (hti j) set_list)) : EvS F pr (.Assign [.Subscript (.Name x p1) ie tpos] e pos) (sSetIx i f fi) := by
  intro B Hf H g σ fl g' D E eq q
  obtain ⟨⟨w, g1⟩, e1, eq1⟩ := Option.bind_eq_some_iff.mp eq
  obtain ⟨⟨d, g2⟩, e2, eq2⟩ := Option.bind_eq_some_iff.mp eq1
  dsimp only at eq2
  split at eq2
  · rename_i ds0 hg0
    obtain ⟨⟨wb, g3⟩, e3, eq3⟩ := Option.bind_eq_some_iff.mp eq2
    obtain ⟨y, e4, eq4⟩ := Option.bind_eq_some_iff.mp eq3
    dsimp only at eq4
    split at eq4
    · rename_i k ds hg
      obtain ⟨j, e5, eq5⟩ := Option.bind_eq_some_iff.mp eq4
      cases eq5
      refine ⟨tAsg (U F e) (gSub (tVar i) (U F ie) rSetL), fun q => hps _ _ (fun q => pe_U q) (fun q => pe_U q) q, ?_⟩
      refine h B Hf H g σ w g1 _ E e1 fun v Hf1 H1 s1 w1 y1 => ?_
      obtain ⟨Hf2, s2, r⟩ := s1.toD y1 w1 e2
      obtain ⟨p, us0, k0, k1, k2, k3, _⟩ := s2.env.own_val hg0
      refine ⟨.ref p, k0, ?_⟩
      refine hi B Hf2 H1 g2 σ wb _ _ s2.env e3 fun u Hf3 H3 s3 w3 y3 => ?_
      obtain ⟨p', us, k4, k5, k6, k7, _⟩ := s3.env.own_val hg
      rw [k0] at k4; cases k4
      have l := look_ok s3.env w3 e4
      have hu := RL.int (Hf := Hf3) l
      subst hu
      refine ⟨p, us, k, j, rfl, rfl, k5, by rw [k7.length]; exact e5, ?_⟩
      exact q σ Hf3 _ ((s2.trans s3).change hg k0 (k7.set j (r.mono s3.tr.ex))).s
    · cases eq4
  · cases eq2
/-- x += e, x -= e: ints -/
def sAug (i : Nat) (h : Int → Int → Int) (f : ME) : MS := fun g => match g[i]? with
  | some (.val (.int a)) => (f g).bind fun b => (look b.1 b.2).bind fun y => match y with
    | .int k => if i < b.2.length then some (.nx, b.2.set i (.val (.int (h a k)))) else none
    | _ => none
  | _ => none
theorem s_aug (i : Nat) {h : Int → Int → Int} {x : Str} {e : Expr} {f : ME} {op : Operator} {pos pos' : Pos} (he : Ev F pr e f) (ho : ∀ j, PIp (F.X j) op (ipI h)) (hN : ∀ j, (F.X j).N.Nodup) (hi : ∀ j, (F.X j).N[i]? = some x := by intro _; rfl) (hx : ∀ j, Loc (F.X j).env.scope x := by intro _; first | exact Or.inl rfl | exact Or.inr rfl)
    (hf : ∀ j, (F.X j).fn x = true ∨ (F.X j).env.scope.names.lookup x = some .local := by intro _; first | exact .inl rfl | exact .inr rfl) (hp : i ∉ pr := by decide) : EvS F pr (.AugAssign (.Name x pos') op e pos) (sAug i h f) := by
  intro B Hf H g σ fl g' D E eq q
  unfold sAug at eq
  split at eq
  · rename_i a hg
    obtain ⟨⟨wb, g1⟩, e1, eq1⟩ := Option.bind_eq_some_iff.mp eq
    obtain ⟨y, e2, eq2⟩ := Option.bind_eq_some_iff.mp eq1
    dsimp only at eq2
    split at eq2
    · rename_i k
      split at eq2
      · rename_i hl
        cases eq2
        obtain ⟨v, hv, so⟩ := E.ok i _ hg (by simp)
        cases so
        refine ⟨tAug i (U F e) (ipI h), fun j => ps_aug (hN j) (hi j) (hx j) (pe_U j) (ho j) (hf j), .int a, hv, ?_⟩
        refine he B Hf H g σ wb g1 _ E e1 fun u Hf1 H1 s1 w1 y1 => ?_
        have hu := RL.int (Hf := Hf1) (look_ok s1.env w1 e2)
        subst hu
        refine ⟨a, k, rfl, rfl, q _ Hf1 H1 ⟨s1.tr, s1.env.store hl (Rep.int _) (fun _ z => nomatch z), fun p z => ?_, fun j hj => List.getElem?_set_ne (fun z => by subst z; exact hp hj)⟩⟩
        rcases own_store z with z | ⟨_, z, _⟩
        · exact .inl (s1.sub p z)
        · cases z
      · cases eq2
    · cases eq2
  · cases eq
/-! ### loops -/
def forL (tg : Wv → Gh → Option Gh) (body : MS) : List Da → Gh → Option (Fl × Gh)
  | [], g => some (.nx, g)
  | d :: ds, g => (tg (.dat d) g).bind fun g1 => (body g1).bind fun a => match a.1 with
    | .nx => forL tg body ds a.2
    | .ct => forL tg body ds a.2
    | .bk => some (.nx, a.2)
    | .rt w => some (.rt w, a.2)
def sFor (it : MI) (tg : Wv → Gh → Option Gh) (body : MS) : MS := fun g => (it g).bind fun a => forL tg body a.1 a.2
theorem s_for {tg iter : Expr} {body : List Stmt} {it : MI} {tm : Wv → Gh → Option Gh} {fb : MS} {vs : List Nat} {pos : Pos} (hp : ∀ i, PassesOwn (model (F.X i).prog (F.X i).w) (F.X i).A (F.X i).env (F.X i).xe) (hc : ∀ i, (F.X i).calm = true) (hi : EvI F pr tg iter it) (hg : EvG F pr vs tg tm) (hb : EvSs F pr body fb)
    (hs : ∀ i, ∀ x, foldedSetIterable iter (F.X i).env x = pure x := by intro _ _; rfl) : EvS F pr (.For tg iter body [] pos) (sFor it tm fb) := by
  intro B Hf H g σ fl g' D E eq q
  obtain ⟨⟨ds, g1⟩, e1, e2⟩ := Option.bind_eq_some_iff.mp eq
  refine ⟨tFor (UI F tg iter) (UG F tg) (USs F body), fun i => ps_for (hp i) (hc i) (pi_U i) (pg_U i) (pss_U i) (hs i), ?_⟩
  refine hi B Hf H g σ ds g1 _ E e1 fun J Hf1 H1 s1 wk => ?_
  let Pv : Nat → L2.St → Hp → Prop := fun i σ' H' => ∃ Hf' g'', SStp F.K pr B Hf H g σ Hf' H' g'' σ' ∧ Evl.Ex Hf1 Hf' ∧ forL tm fb (ds.drop i) g'' = some (fl, g')
  refine ⟨fun i m σ' H' => m = ds.length - i ∧ i ≤ ds.length ∧ Pv i σ' H', ⟨ds.length, by simp, Nat.zero_le _, Hf1, g1, s1.s, Evl.Ex.refl _, by rw [List.drop_zero]; exact e2⟩, ?_⟩
  rintro i m σ' H' ⟨rfl, hi', Hf', g'', s, ex, er⟩
  obtain ⟨go, stop, yld⟩ := wk Hf' H' ex s.env.ex
  by_cases hlt : i < ds.length
  · refine .inr ⟨go i hlt, Pv (i + 1), fun σ2 H2 p => ⟨ds.length - (i + 1), by omega, rfl, hlt, p⟩, fun x H'' y => ?_⟩
    have hd : ds[i]? = some ds[i] := by simp [hlt]
    rw [List.drop_eq_getElem_cons hlt] at er
    obtain ⟨Hf2, t2, en2, rx⟩ := yld i _ x H'' hd y
    have E2 := en2 pr B g'' σ' s.env
    obtain ⟨gt, k1, er1⟩ := Option.bind_eq_some_iff.mp (show ((tm (.dat ds[i]) g'').bind _) = some (fl, g') from er)
    obtain ⟨⟨f1, gb⟩, k2, er2⟩ := Option.bind_eq_some_iff.mp er1
    refine hg B Hf2 H'' g'' σ' (.dat ds[i]) x gt _ E2 rx k1 fun σ3 Hf3 H3 s3 => ?_
    have T3 : SStp F.K pr B Hf H g σ Hf3 H3 gt σ3 := by
      refine s.trans (⟨(t2.wide (fun _ z => z.elim)).trans' s3.tr (fun _ z => z), s3.env, fun p z => ?_, s3.prk⟩ : SStp F.K pr B Hf' H' g'' σ' Hf3 H3 gt σ3)
      rcases s3.sub p z with z | ⟨⟨_, z⟩, _⟩
      · exact .inl z
      · cases z
    have x3 : Evl.Ex Hf1 Hf3 := ex.trans (t2.ex.trans s3.tr.ex)
    refine hb B Hf3 H3 gt σ3 f1 gb _ s3.env k2 fun σ4 Hf4 H4 s4 => ?_
    have T4 := T3.trans s4
    have x4 := x3.trans s4.tr.ex
    cases f1 with
    | nx => exact ⟨Hf4, gb, T4, x4, er2⟩
    | ct => exact ⟨Hf4, gb, T4, x4, er2⟩
    | bk => cases er2; exact q σ4 Hf4 H4 T4
    | rt w => cases er2; exact q σ4 Hf4 H4 T4
  · have e : i = ds.length := by omega
    subst e
    rw [List.drop_length] at er
    cases er
    exact .inl ⟨stop, q σ' Hf' H' s⟩
def whileL (t : MT) (body : MS) : Nat → Gh → Option (Fl × Gh)
  | 0, _ => none
  | n + 1, g => (t g).bind fun b => if b.1 = true then (body b.2).bind fun a => match a.1 with
      | .nx => whileL t body n a.2
      | .ct => whileL t body n a.2
      | .bk => some (.nx, a.2)
      | .rt w => some (.rt w, a.2)
    else some (.nx, b.2)
def sWhile (n : Nat) (t : MT) (body : MS) : MS := whileL t body n
theorem s_while (n : Nat) {c : Expr} {body : List Stmt} {ft : MT} {fb : MS} {pos : Pos} (hp : ∀ i, PassesOwn (model (F.X i).prog (F.X i).w) (F.X i).A (F.X i).env (F.X i).xe) (ht : EvT F pr c ft) (hb : EvSs F pr body fb) : EvS F pr (.While c body [] pos) (sWhile n ft fb) := by
  intro B Hf H g σ fl g' D E eq q
  refine ⟨tWhile (UT F c) (USs F body), fun i => ps_while (hp i) (pt_U i) (pss_U i), ?_⟩
  refine ⟨fun m σ' H' => ∃ Hf' g'', SStp F.K pr B Hf H g σ Hf' H' g'' σ' ∧ whileL ft fb m g'' = some (fl, g'), ⟨n, Hf, g, SStp.refl E, eq⟩, ?_⟩
  rintro m σ' H' ⟨Hf', g'', s, er⟩
  cases m with
  | zero => cases er
  | succ m =>
    obtain ⟨⟨b, g1⟩, k1, er1⟩ := Option.bind_eq_some_iff.mp (show ((ft g'').bind _) = some (fl, g') from er)
    refine ht B Hf' H' g'' σ' b g1 _ s.env k1 fun Hf1 H1 s1 => ?_
    have T1 := s.trans s1.s
    cases b with
    | false => cases er1; exact q σ' Hf1 H1 T1
    | true =>
      rw [if_pos rfl]
      dsimp only at er1
      rw [if_pos rfl] at er1
      obtain ⟨⟨f1, gb⟩, k2, er2⟩ := Option.bind_eq_some_iff.mp er1
      refine ⟨fun σ2 H2 => ∃ Hf2 g2, SStp F.K pr B Hf H g σ Hf2 H2 g2 σ2 ∧ whileL ft fb m g2 = some (fl, g'), fun σ2 H2 p => ⟨m, Nat.lt_succ_self _, p⟩, ?_⟩
      refine hb B Hf1 H1 g1 σ' f1 gb _ s1.env k2 fun σ4 Hf4 H4 s4 => ?_
      have T4 := T1.trans s4
      cases f1 with
      | nx => exact ⟨Hf4, gb, T4, er2⟩
      | ct => exact ⟨Hf4, gb, T4, er2⟩
      | bk => cases er2; exact q σ4 Hf4 H4 T4
      | rt w => cases er2; exact q σ4 Hf4 H4 T4
end
end EV
end
section
set_option Elab.async false
set_option linter.all false
set_option maxRecDepth 100000
set_option maxHeartbeats 2000000
set_option autoImplicit false
namespace EV
open PySem PySem.Spec PyProof.Rows L2
section
variable {F : Fam} {pr : List Nat} {B : Addr → Prop} {Hf H Hf' H' Hf1 H1 Hf2 H2 : Hp} {g g' g1 g2 : Gh} {σ σ' σ1 σ2 : L2.St} {K : Frag} {O : Addr → Prop}
/-! ### what a def promises -/
abbrev MF := Gh → Option (Wv × Gh)
def spM (K : Frag) (n : Nat) (pr : List Nat) (m : MF) : Sp := fun vs H Q _ => vs.length = n ∧ ∃ Hf G w G', En K pr (fun p => H p = none) Hf H G (vs.map some) ∧ (∀ i ∈ pr, ∃ ds, G[i]? = some (.own ds)) ∧ m G = some (w, G') ∧
  ∀ v Hf' H', Stp K pr (fun p => H p = none) Hf H G (vs.map some) Hf' H' G' → WOk K (fun p => H p = none) Hf' H' G' (vs.map some) w v → (∀ i, w ≠ .slot i) → Q v H'
def keepArgs (pr : List Nat) (g0 g1 : Gh) : Gh := g0.mapIdx fun i s => if pr.contains i then g1[i]?.getD .un else s
def bodyM (pr : List Nat) (n : Nat) (f : MS) : MF := fun G => (f (G ++ List.replicate n .un)).bind fun a => match a.1 with
  | .rt w => some (w, keepArgs pr G a.2)
  | .nx => some (.dat .none, keepArgs pr G a.2)
  | _ => none
theorem keep_get {g0 g1 : Gh} {i : Nat} {s : Sl} (h : (keepArgs pr g0 g1)[i]? = some s) (n : s ≠ .un) : (i ∈ pr ∧ g1[i]? = some s) ∨ (i ∉ pr ∧ g0[i]? = some s) := by
  unfold keepArgs at h
  rw [List.getElem?_mapIdx] at h
  cases e : g0[i]? with
  | none => rw [e] at h; cases h
  | some s0 =>
    rw [e] at h
    have h : (if pr.contains i = true then g1[i]?.getD .un else s0) = s := Option.some.inj h
    by_cases c : pr.contains i = true
    · rw [if_pos c] at h
      refine .inl ⟨List.contains_iff_mem.mp c, ?_⟩
      cases e2 : g1[i]? with
      | none => rw [e2] at h; exact absurd h.symm n
      | some s1 => rw [e2] at h; exact congrArg some h
    · rw [if_neg c] at h
      exact .inr ⟨fun z => c (List.contains_iff_mem.mpr z), congrArg some h⟩
theorem start_get {N : List Str} {vs : List V} {i : Nat} {v : V} (h : (L2.start N vs)[i]? = some (some v)) : vs[i]? = some v := by
  unfold L2.start at h
  by_cases hi : i < vs.length
  · rw [List.getElem?_append_left (by simpa using hi), List.getElem?_map] at h
    cases e : vs[i]? with
    | none => rw [e] at h; cases h
    | some a => rw [e] at h; cases h; rfl
  · rw [List.getElem?_append_right (by simpa using hi), List.getElem?_replicate] at h
    split at h <;> cases h
theorem start_of {N : List Str} {vs : List V} {i : Nat} {o : Option V} (h : (vs.map some)[i]? = some o) : (L2.start N vs)[i]? = some o := by
  unfold L2.start
  rw [List.getElem?_append_left (lt_of_get h)]
  exact h
theorem map_get {vs : List V} {i : Nat} {v : V} (h : vs[i]? = some v) : (vs.map some)[i]? = some (some v) := by
  rw [List.getElem?_map, h]; rfl
theorem def_ok {P : Program} {w : World} {mg : Str → Option Value} {base : Heap} {x qual : Str} {st : Stmt} {f : Addr} {fd : FuncData} {N ps : List Str} {k n : Nat} {m : MS} (Fu : Fun K x qual st f fd) (S : FnScope N ps (defScope st))
    (hn : N.length = ps.length + n) (hb : ∀ (cdv : Value) (A : Around) (outer : List PySem.Env) (s : Shared) (H : Hp) (E : XK), Room k (A.deeper (envOfC qual (defScope st) s.heap.objs.size f cdv)) →
      EvSs (Fam.one (cxOf CX0 P w K mg base N qual (defScope st) f cdv A outer s H E).nox) pr (defBody st) m) : FnOk P w K mg base CX0 (k + 1) f fd ps (spM K ps.length pr (bodyM pr n m)) := by
  refine Fu.ok S (fun vs H Q E h => h.1) fun cdv A outer s H vs Q E hr h => ?_
  obtain ⟨hl, Hf, G, w, G', En0, hown, em, q⟩ := h
  obtain ⟨⟨fl, g2⟩, e1, e2⟩ := Option.bind_eq_some_iff.mp em
  have lenG : G.length = vs.length := by have := En0.len; rwa [List.length_map] at this
  have ga : ∀ {i : Nat} {sl : Sl}, (G ++ List.replicate n Sl.un)[i]? = some sl → sl ≠ .un → G[i]? = some sl := fun {i sl} h1 h2 => by
    by_cases hi : i < G.length
    · rwa [List.getElem?_append_left hi] at h1
    · rw [List.getElem?_append_right (by omega), List.getElem?_replicate] at h1
      split at h1
      · cases h1; exact absurd rfl h2
      · cases h1
  have E1 : En K pr (fun p => H p = none) Hf H (G ++ List.replicate n .un) (L2.start N vs) := by
    refine ⟨En0.ex, ?_, fun i sl h1 h2 => ?_, fun i j ds es p h1 h2 k1 k2 => ?_, En0.nb, fun i ds p h1 k1 => ?_⟩
    · unfold L2.start
      rw [List.length_append, List.length_append, List.length_map, List.length_replicate, List.length_replicate]; omega
    · obtain ⟨v, e, so⟩ := En0.ok i sl (ga h1 h2) h2
      exact ⟨v, start_of e, so⟩
    · exact En0.dis i j ds es p (ga h1 (by simp)) (ga h2 (by simp)) (map_get (start_get k1)) (map_get (start_get k2))
    · exact En0.ob i ds p (ga h1 (by simp)) (map_get (start_get k1))
  have ow : ∀ p, Own (G ++ List.replicate n .un) (L2.start N vs) p → Own G (vs.map some) p := fun p ⟨i, ds, h1, h2⟩ => ⟨i, ds, ga h1 (by simp), map_get (start_get h2)⟩
  have fin : ∀ σ' Hf' H', SStp K pr (fun p => H p = none) Hf H (G ++ List.replicate n .un) (L2.start N vs) Hf' H' g2 σ' → Stp K pr (fun p => H p = none) Hf H G (vs.map some) Hf' H' (keepArgs pr G g2) ∧ ∀ p, Own (keepArgs pr G g2) (vs.map some) p → Own g2 σ' p := fun σ' Hf' H' s => by
    -- the slots that are handed on stand as they stood
    have at_ : ∀ {i : Nat} {v : V}, i ∈ pr → (vs.map some)[i]? = some (some v) → σ'[i]? = some (some v) := fun {i v} hi e => (s.prk i hi).trans (start_of e)
    have noown : ∀ (i : Nat) ds, i ∉ pr → G[i]? = some (.own ds) → False := fun i ds hi h => by
      obtain ⟨p, us, k0, k1, _⟩ := En0.own_val h
      rcases En0.ob i ds p h k0 with z | z
      · exact hi z
      · rw [k1] at z; cases z
    have o2 : ∀ p, Own (keepArgs pr G g2) (vs.map some) p → Own g2 σ' p := fun p ⟨i, ds, h1, h2⟩ => by
      rcases keep_get h1 (by simp) with ⟨hi, h3⟩ | ⟨hi, h3⟩
      · exact ⟨i, ds, h3, at_ hi h2⟩
      · exact (noown i ds hi h3).elim
    refine ⟨⟨⟨s.tr.ex, fun p o hp no => s.tr.keep p o hp fun z => no (ow p z), s.tr.stay⟩, ⟨s.env.ex, ?_, fun i sl h1 h2 => ?_, fun i j ds es p h1 h2 k1 k2 => ?_, s.env.nb, fun i ds p h1 k1 => ?_⟩, fun p z => ?_⟩, o2⟩
    · unfold keepArgs
      rw [List.length_mapIdx]; exact En0.len
    · rcases keep_get h1 h2 with ⟨hi, h3⟩ | ⟨hi, h3⟩
      · obtain ⟨ds0, hg⟩ := hown i hi
        obtain ⟨p, us, k0, _⟩ := En0.own_val hg
        obtain ⟨v, e, so⟩ := s.env.ok i sl h3 h2
        rw [at_ hi k0] at e; cases e
        exact ⟨_, k0, so⟩
      · obtain ⟨v, e, so⟩ := En0.ok i sl h3 h2
        refine ⟨v, e, ?_⟩
        cases sl with
        | un => trivial
        | val d => exact Rep.mono s.tr.ex so
        | own ds => exact (noown i ds hi h3).elim
        | raw x => exact so
    · rcases keep_get h1 (by simp) with ⟨hi, h3⟩ | ⟨hi, h3⟩
      · rcases keep_get h2 (by simp) with ⟨hj, h4⟩ | ⟨hj, h4⟩
        · exact s.env.dis i j ds es p h3 h4 (at_ hi k1) (at_ hj k2)
        · exact (noown j es hj h4).elim
      · exact (noown i ds hi h3).elim
    · rcases keep_get h1 (by simp) with ⟨hi, h3⟩ | ⟨hi, h3⟩
      · exact .inl hi
      · exact (noown i ds hi h3).elim
    · obtain ⟨i, ds, h1, h2⟩ := z
      rcases keep_get h1 (by simp) with ⟨hi, h3⟩ | ⟨hi, h3⟩
      · rcases s.sub p ⟨i, ds, h3, at_ hi h2⟩ with z | z
        · exact ow p z
        · obtain ⟨ds0, hg⟩ := hown i hi
          obtain ⟨p', us, k0, k1, _⟩ := En0.own_val hg
          rw [k0] at h2; cases h2
          rw [k1] at z; cases z
      · exact (noown i ds hi h3).elim
  have wk : ∀ {σ' : L2.St} {Hf' H' : Hp} {w' : Wv} {v : V}, (∀ p, Own (keepArgs pr G g2) (vs.map some) p → Own g2 σ' p) → WOk K (fun p => H p = none) Hf' H' g2 σ' w' v → (∀ i, w' ≠ .slot i) → WOk K (fun p => H p = none) Hf' H' (keepArgs pr G g2) (vs.map some) w' v := fun {σ' Hf' H' w' v} o2 h hs => by
    cases w' with
    | dat d => exact h
    | fresh ds =>
      obtain ⟨p, us, rfl, hb, hf, hq, r, no⟩ := h
      exact ⟨p, us, rfl, hb, hf, hq, r, fun z => no (o2 p z)⟩
    | slot i => exact absurd rfl (hs i)
    | raw x => exact h
  have body := hb cdv A outer s H E hr (fun p => H p = none) Hf H _ (L2.start N vs) fl g2 { nx := fun _ H' => Q .non H', rt := Q } E1 e1 fun σ' Hf' H' s => by
    obtain ⟨s2, o2⟩ := fin σ' Hf' H' s
    cases fl with
    | nx => cases e2; exact q .non Hf' H' s2 .non (fun _ z => nomatch z)
    | rt w' => cases e2; exact fun v h hs => q v Hf' H' s2 (wk o2 h hs) hs
    | bk => cases e2
    | ct => cases e2
  obtain ⟨t, ht, hq⟩ := body
  exact ⟨t, ht (), hq⟩
/-! ### calls -/
theorem En.step (E : En K pr B Hf H g σ) (t : Tr O Hf H Hf' H') (no : ∀ p, Own g σ p → ¬ O p) (ex : Evl.Ex Hf' H') : En K pr B Hf' H' g σ where
  ex := ex
  len := E.len
  ok := fun i s e n => by
    obtain ⟨v, e1, s1⟩ := E.ok i s e n
    refine ⟨v, e1, ?_⟩
    cases s with
    | un => trivial
    | val d => exact Rep.mono t.ex s1
    | own ds =>
      obtain ⟨q, vs, rfl, h1, h2, h3⟩ := s1
      obtain ⟨k1, k2⟩ := t.keep q _ h2 (no q ⟨i, ds, e, e1⟩)
      exact ⟨q, vs, rfl, k2.trans h1, k1, h3.mono t.ex⟩
    | raw w => exact s1
  dis := E.dis
  nb := fun p h => E.nb p (t.stay p h)
  ob := E.ob
/-- arguments that are handed on as data -/
def toSls : List Wv → Gh → Option (List Sl × Gh)
  | [], g => some ([], g)
  | .raw v :: ws, g => (toSls ws g).bind fun b => some (.raw v :: b.1, b.2)
  | w :: ws, g => (toD w g).bind fun a => (toSls ws a.2).bind fun b => some (.val a.1 :: b.1, b.2)
/-- the slots of a callee: data alone -/
inductive SlAll (K : Frag) (Hf : Hp) : List Sl → List V → Prop
  | nil : SlAll K Hf [] []
  | val {d : Da} {v : V} {ss : List Sl} {vs : List V} : Rep K Hf v d → SlAll K Hf ss vs → SlAll K Hf (.val d :: ss) (v :: vs)
  | raw {v : V} {ss : List Sl} {vs : List V} : SlAll K Hf ss vs → SlAll K Hf (.raw v :: ss) (v :: vs)
theorem SlAll.mono (e : Evl.Ex Hf Hf') : ∀ {ss : List Sl} {vs : List V}, SlAll K Hf ss vs → SlAll K Hf' ss vs
  | _, _, .nil => .nil
  | _, _, .val a b => .val (a.mono e) (SlAll.mono e b)
  | _, _, .raw b => .raw (SlAll.mono e b)
theorem SlAll.len : ∀ {ss : List Sl} {vs : List V}, SlAll K Hf ss vs → ss.length = vs.length
  | _, _, .nil => rfl
  | _, _, .val _ b => by simp [SlAll.len b]
  | _, _, .raw b => by simp [SlAll.len b]
theorem SlAll.get : ∀ {ss : List Sl} {vs : List V} {i : Nat} {s : Sl}, SlAll K Hf ss vs → ss[i]? = some s → ∃ v, vs[i]? = some v ∧ SlotOk K Hf H s v ∧ ∀ ds, s ≠ .own ds
  | _, _, _, _, .nil, h => by simp at h
  | _, _, 0, _, .val a b, h => by simp at h; subst h; exact ⟨_, rfl, a, fun _ z => nomatch z⟩
  | _, _, 0, _, .raw b, h => by simp at h; subst h; exact ⟨_, rfl, rfl, fun _ z => nomatch z⟩
  | _, _, i + 1, _, .val a b, h => by
    obtain ⟨v, e, r⟩ := SlAll.get b (i := i) (by simpa using h)
    exact ⟨v, by simpa using e, r⟩
  | _, _, i + 1, _, .raw b, h => by
    obtain ⟨v, e, r⟩ := SlAll.get b (i := i) (by simpa using h)
    exact ⟨v, by simpa using e, r⟩
theorem toSls_ok : ∀ {ws : List Wv} {vs : List V} {ss : List Sl} {Hf1 : Hp} {g1 g' : Gh}, Stp K pr B Hf H g σ Hf1 H1 g1 → WAll K B Hf1 H1 g1 σ ws vs → YAll H ws vs → toSls ws g1 = some (ss, g') →
    ∃ Hf', Stp K pr B Hf H g σ Hf' H1 g' ∧ Evl.Ex Hf1 Hf' ∧ SlAll K Hf' ss vs
  | _, _, ds, Hf1, g1, g2, s, .nil, _, e => by cases e; exact ⟨Hf1, s, Evl.Ex.refl _, .nil⟩
  | _, _, ds, Hf1, g1, g3, s, @WAll.cons _ _ _ _ _ _ w v ws vs a b c, .cons y ys, e => by
    have dat : ∀ (_ : (toD w g1).bind (fun a => (toSls ws a.2).bind fun b => some (Sl.val a.1 :: b.1, b.2)) = some (ds, g3)), ∃ Hf', Stp K pr B Hf H g σ Hf' H1 g3 ∧ Evl.Ex Hf1 Hf' ∧ SlAll K Hf' ds (v :: vs) := fun e => by
      obtain ⟨⟨d, g2⟩, e1, e⟩ := Option.bind_eq_some_iff.mp e
      obtain ⟨⟨ds', g4⟩, e2, e⟩ := Option.bind_eq_some_iff.mp e
      cases e
      obtain ⟨Hf2, E2, r, ex, sb, k⟩ := toD_ok s.env a e1
      have s2 : Stp K pr B Hf H g σ Hf2 H1 g2 := by
        refine ⟨⟨s.tr.ex.trans ex, fun p o hp no => ?_, s.tr.stay⟩, E2, fun p z => s.sub p (sb p z)⟩
        obtain ⟨k1, k2⟩ := s.tr.keep p o hp no
        refine ⟨k1, ?_⟩
        rcases k p o k1 (fun z => no (s.sub p z)) with z | ⟨⟨es, z⟩, z2⟩
        · exact z.trans k2
        · have := y es z p z2
          rw [hp] at this; cases this
      obtain ⟨Hf', s3, ex3, r3⟩ := toSls_ok s2 (WAll.frz ex sb k c b) ys e2
      exact ⟨Hf', s3, ex.trans ex3, .val (r.mono ex3) r3⟩
    cases w with
    | raw x =>
      obtain ⟨⟨ss', g4⟩, e2, e⟩ := Option.bind_eq_some_iff.mp (show ((toSls ws g1).bind fun b => some (Sl.raw x :: b.1, b.2)) = some (ds, g3) from e)
      cases e
      have a : v = x := a
      subst a
      obtain ⟨Hf', s3, ex3, r3⟩ := toSls_ok s c ys e2
      exact ⟨Hf', s3, ex3, .raw r3⟩
    | dat d => exact dat e
    | fresh es => exact dat e
    | slot i => exact dat e
/-- a call of a def whose arguments are data -/
def mFn (m : MF) (fa : MA) : ME := fun g => (fa g).bind fun a => (toSls a.1 a.2).bind fun r => (m r.1).bind fun c => some (c.1, r.2)
theorem yall_len : ∀ {ws : List Wv} {vs : List V}, YAll H ws vs → ws.length = vs.length
  | _, _, .nil => rfl
  | _, _, .cons a b => by simp [yall_len b]
theorem fn_core {n : Nat} {m : MF} {ws : List Wv} {vs : List V} {ss : List Sl} {wc : Wv} {gc : Gh} {Q : VK} {E : XK} (s1 : Stp F.K pr B Hf H g σ Hf1 H1 g1) (w1 : WAll F.K B Hf1 H1 g1 σ ws vs) (y1 : YAll H ws vs) (e2 : toSls ws g1 = some (ss, g2)) (hl : ws.length = n) (e3 : m ss = some (wc, gc))
    (q : ∀ v Hf' H', Stp F.K pr B Hf H g σ Hf' H' g2 → WOk F.K B Hf' H' g2 σ wc v → Yng H wc v → Q v H') : spM F.K n [] m vs H1 Q E := by
  obtain ⟨Hf2, s2, _, sa⟩ := toSls_ok s1 w1 y1 e2
  have noown : ∀ (i : Nat) ds, ss[i]? = some (.own ds) → False := fun i ds h => by
    obtain ⟨v, _, _, no⟩ := SlAll.get (H := H1) sa h
    exact no ds rfl
  refine ⟨by rw [← yall_len y1]; exact hl, Hf2, ss, wc, gc, ⟨s2.env.ex, by rw [List.length_map]; exact sa.len, fun i s h _ => ?_, fun i j ds es p h1 => (noown i ds h1).elim, fun p h => h, fun i ds p h1 => (noown i ds h1).elim⟩, fun i hi => absurd hi (by simp), e3, fun v Hf' H' sc wk ns => ?_⟩
  · obtain ⟨v, e, so, _⟩ := SlAll.get (H := H1) sa h
    exact ⟨v, map_get e, so⟩
  · have no : ∀ p, ¬ Own ss (vs.map some) p := fun p ⟨i, ds, h1, _⟩ => noown i ds h1
    have E3 : En F.K pr B Hf' H' g2 σ := s2.env.step sc.tr (fun p _ => no p) sc.env.ex
    have s3 : Stp F.K pr B Hf H g σ Hf' H' g2 := ⟨s2.tr.trans' (sc.tr.wide (O1 := Own g2 σ) fun p z => (no p z).elim) s2.sub, E3, s2.sub⟩
    refine q v Hf' H' s3 ?_ ?_
    · cases wc with
      | dat d => exact wk
      | fresh ds =>
        obtain ⟨p, us, rfl, hb, hf, hq, r, n'⟩ := wk
        exact ⟨p, us, rfl, s2.env.nb p hb, hf, hq, r, s2.env.own_none hb⟩
      | slot i => exact absurd rfl (ns i)
      | raw x => exact wk
    · intro ds e p e'
      subst e
      obtain ⟨p', us, e'', hb, _⟩ := wk
      rw [e'] at e''; cases e''
      exact s2.tr.stay _ hb
theorem fn_ok {es : List Expr} {fa : MA} {n : Nat} {m : MF} (ha : EvA F pr es fa) (hn : ∀ g ws g', fa g = some (ws, g') → ws.length = n) {w : Wv} {Q : VK} {E : XK} (En0 : En F.K pr B Hf H g σ) (eq : mFn m fa g = some (w, g'))
    (q : ∀ v Hf' H', Stp F.K pr B Hf H g σ Hf' H' g' → WOk F.K B Hf' H' g' σ w v → Yng H w v → Q v H') : tCall (spM F.K n [] m) [] E (UA F es) σ H Q := by
  obtain ⟨⟨ws, g1⟩, e1, eq1⟩ := Option.bind_eq_some_iff.mp eq
  obtain ⟨⟨ss, g2⟩, e2, eq2⟩ := Option.bind_eq_some_iff.mp eq1
  obtain ⟨⟨wc, gc⟩, e3, eq3⟩ := Option.bind_eq_some_iff.mp eq2
  cases eq3
  refine ha B Hf H g σ ws g1 _ En0 e1 fun vs Hf1 H1 s1 w1 y1 => ?_
  rw [List.append_nil]
  exact fn_core s1 w1 y1 e2 (hn g ws g1 e1) e3 q
theorem ev_fn {x : Str} {e : Expr} {es : List Expr} {fa : MA} {n k : Nat} {m : MF} {f : Addr} {fd : FuncData} {ps : List Str} {p pos : Pos} (FO : ∀ i, FnOk (F.X i).prog (F.X i).w (F.X i).K (F.X i).mg (F.X i).base CX0 k f fd ps (spM F.K n [] m)) (hr : ∀ i, Room k (F.X i).A) (hm : ∀ i, (F.X i).mg x = some (.ref f)) (hk : ∀ i, PySem.W.keepIn (F.X i).K (.ref f) = true) (hb : ∀ i, Binds (F.X i).K fd ps [])
    (ha : EvA F pr (e :: es) fa) (hn : ∀ g ws g', fa g = some (ws, g') → ws.length = n) (hg : ∀ i, Gl (F.X i) x := by intro _; rfl) (hdb : (x == ("__debug__" : Str)) = false := by decide)
    (he : ∀ i, starEach (e :: es) (F.X i).env = (false, eval e (F.X i).env) :: starEach es (F.X i).env := by intro _; rfl) (hpl : ∀ i, (backTo pos (starEach es (F.X i).env)).any (·.1) = false := by intro _; rfl) : Ev F pr (.Call (.Name x p) (e :: es) [] pos) (mFn m fa) := by
  intro B Hf H g σ w g' Q E eq q
  exact ⟨_, fun i => pe_call (FO i) (hr i) (hg i) (hm i) (hk i) (hb i) .nil pass0 (pa_U i) hdb (he i) (hpl i), fn_ok ha hn E eq q⟩
def mFn0 (m : MF) : ME := fun g => (m []).bind fun c => some (c.1, g)
/-- a call whose first argument is a list that a name owns: the callee may change it -/
def mFnD (m : MF) (fa : MA) : ME := fun g => (fa g).bind fun a => match a.1 with
  | .slot i :: ws => (toSls ws a.2).bind fun r => match r.2[i]? with
    | some (.own ds) => (m (.own ds :: r.1)).bind fun c => match c.2 with
      | s :: _ => some (c.1, r.2.set i s)
      | [] => none
    | _ => none
  | _ => none
theorem fnD_ok {es : List Expr} {fa : MA} {n : Nat} {m : MF} (ha : EvA F pr es fa) (hn : ∀ g ws g', fa g = some (ws, g') → ws.length = n) {w : Wv} {Q : VK} {E : XK} (En0 : En F.K pr B Hf H g σ) (eq : mFnD m fa g = some (w, g'))
    (q : ∀ v Hf' H', Stp F.K pr B Hf H g σ Hf' H' g' → WOk F.K B Hf' H' g' σ w v → Yng H w v → Q v H') : tCall (spM F.K n [0] m) [] E (UA F es) σ H Q := by
  obtain ⟨⟨ws0, g1⟩, e1, eq1⟩ := Option.bind_eq_some_iff.mp eq
  dsimp only at eq1
  split at eq1
  · rename_i i ws
    obtain ⟨⟨ss, g2⟩, e2, eq2⟩ := Option.bind_eq_some_iff.mp eq1
    dsimp only at eq2
    split at eq2
    · rename_i ds hg
      obtain ⟨⟨wc, gc⟩, e3, eq3⟩ := Option.bind_eq_some_iff.mp eq2
      dsimp only at eq3
      split at eq3
      · rename_i s rest
        cases eq3
        refine ha B Hf H g σ _ g1 _ En0 e1 fun vs0 Hf1 H1 s1 w1 y1 => ?_
        rw [List.append_nil]
        have lw : (Wv.slot i :: ws).length = vs0.length := by
          have go : ∀ {ws : List Wv} {vs : List V}, YAll H ws vs → ws.length = vs.length := by
            intro ws vs h
            induction h with
            | nil => rfl
            | cons a b ih => simp [ih]
          exact go y1
        cases w1 with
        | @cons _ v0 _ vs a b c =>
          cases y1 with
          | cons y ys =>
            obtain ⟨Hf2, s2, _, sa⟩ := toSls_ok s1 c ys e2
            have a : σ[i]? = some (some v0) := a
            obtain ⟨p, us, k0, k1, k2, k3, ow⟩ := s2.env.own_val hg
            rw [a] at k0; cases k0
            have noown : ∀ (j : Nat) es, ss[j]? = some (.own es) → False := fun j es h => by
              obtain ⟨v, _, _, no⟩ := SlAll.get (H := H1) sa h
              exact no es rfl
            have own0 : ∀ z, Own (.own ds :: ss) ((V.ref p :: vs).map some) z → z = p := fun z ⟨j, es, h1, h2⟩ => by
              cases j with
              | zero => simp at h2; exact h2.symm
              | succ j => exact (noown j es (by simpa using h1)).elim
            refine ⟨by rw [← lw]; exact hn g _ g1 e1, Hf2, .own ds :: ss, w, s :: rest, ⟨s2.env.ex, by rw [List.length_map, List.length_cons, List.length_cons, sa.len], fun j t h _ => ?_, fun j1 j2 ds' es z h1 h2 l1 l2 => ?_, fun p h => h, fun j ds' z h1 _ => ?_⟩, fun j hj => ⟨ds, by simp at hj; subst hj; rfl⟩, e3, fun v Hf' H' sc wk ns => ?_⟩
            · cases j with
              | zero => simp at h; subst h; exact ⟨.ref p, rfl, p, us, rfl, k2, k1, k3⟩
              | succ j =>
                obtain ⟨v, e, so, _⟩ := SlAll.get (H := H1) sa (i := j) (by simpa using h)
                exact ⟨v, map_get (by simpa using e), so⟩
            · cases j1 with
              | zero =>
                cases j2 with
                | zero => rfl
                | succ j2 => exact (noown j2 es (by simpa using h2)).elim
              | succ j1 => exact (noown j1 ds' (by simpa using h1)).elim
            · cases j with
              | zero => exact .inl (by simp)
              | succ j => exact (noown j ds' (by simpa using h1)).elim
            · -- behind the call
              have n2 := s2.env.not_own_drop hg a
              have Ed : En F.K pr B Hf' H' (g2.set i .un) σ := (s2.env.drop i).step sc.tr (fun z hz hz2 => by
                have := own0 z hz2
                subst this
                exact n2 hz) sc.env.ex
              have so : SlotOk F.K Hf' H' s (.ref p) := by
                cases s with
                | un => trivial
                | val d => obtain ⟨v', e, so⟩ := sc.env.ok 0 _ rfl (by simp); cases e; exact so
                | own es => obtain ⟨v', e, so⟩ := sc.env.ok 0 _ rfl (by simp); cases e; exact so
                | raw x => obtain ⟨v', e, so⟩ := sc.env.ok 0 _ rfl (by simp); cases e; exact so
              have E3 := Ed.put_slot (i := i) (s := s) a so (fun es _ z e => by cases e; exact ⟨by rw [List.set_set]; exact n2, s2.env.ob i ds p hg a⟩)
              rw [List.set_set] at E3
              have sub3 : ∀ z, Own (g2.set i s) σ z → Own g2 σ z := fun z hz => by
                rcases own_put hz with hz | ⟨_, _, hz⟩
                · exact own_drop hz
                · rw [a] at hz; cases hz; exact ow
              have s3 : Stp F.K pr B Hf H g σ Hf' H' (g2.set i s) := ⟨s2.tr.trans' (sc.tr.wide (O1 := Own g2 σ) fun z hz => by rw [own0 z hz]; exact ow) s2.sub, E3, fun z hz => s2.sub z (sub3 z hz)⟩
              refine q v Hf' H' s3 ?_ ?_
              · cases w with
                | dat d => exact wk
                | fresh es =>
                  obtain ⟨z, us', rfl, hb, hf, hq, r, n'⟩ := wk
                  exact ⟨z, us', rfl, s2.env.nb z hb, hf, hq, r, fun hz => s2.env.own_none hb (sub3 z hz)⟩
                | slot i => exact absurd rfl (ns i)
                | raw x => exact wk
              · intro es e z e'
                subst e
                obtain ⟨z', us', e'', hb, _⟩ := wk
                rw [e'] at e''; cases e''
                exact s2.tr.stay _ hb
      · cases eq3
    · cases eq2
  · cases eq1
theorem ev_fnD {x : Str} {e : Expr} {es : List Expr} {fa : MA} {n k : Nat} {m : MF} {f : Addr} {fd : FuncData} {ps : List Str} {p pos : Pos} (FO : ∀ i, FnOk (F.X i).prog (F.X i).w (F.X i).K (F.X i).mg (F.X i).base CX0 k f fd ps (spM F.K n [0] m)) (hr : ∀ i, Room k (F.X i).A) (hm : ∀ i, (F.X i).mg x = some (.ref f)) (hk : ∀ i, PySem.W.keepIn (F.X i).K (.ref f) = true) (hb : ∀ i, Binds (F.X i).K fd ps [])
    (ha : EvA F pr (e :: es) fa) (hn : ∀ g ws g', fa g = some (ws, g') → ws.length = n) (hg : ∀ i, Gl (F.X i) x := by intro _; rfl) (hdb : (x == ("__debug__" : Str)) = false := by decide)
    (he : ∀ i, starEach (e :: es) (F.X i).env = (false, eval e (F.X i).env) :: starEach es (F.X i).env := by intro _; rfl) (hpl : ∀ i, (backTo pos (starEach es (F.X i).env)).any (·.1) = false := by intro _; rfl) : Ev F pr (.Call (.Name x p) (e :: es) [] pos) (mFnD m fa) := by
  intro B Hf H g σ w g' Q E eq q
  exact ⟨_, fun i => pe_call (FO i) (hr i) (hg i) (hm i) (hk i) (hb i) .nil pass0 (pa_U i) hdb (he i) (hpl i), fnD_ok ha hn E eq q⟩
/-- how many an argument list gives -/
theorem na_nil : ∀ g ws g', mNil g = some (ws, g') → ws.length = 0 := fun g ws g' e => by cases e; rfl
theorem na_cons {f : ME} {fs : MA} {n : Nat} (h : ∀ g ws g', fs g = some (ws, g') → ws.length = n) : ∀ g ws g', mCons f fs g = some (ws, g') → ws.length = n + 1 := fun g ws g' e => by
  obtain ⟨a, e1, e⟩ := Option.bind_eq_some_iff.mp e
  obtain ⟨b, e2, e⟩ := Option.bind_eq_some_iff.mp e
  cases e
  rw [List.length_cons, h a.2 b.1 b.2 e2]
/-- the law's promise, from its mirror -/
theorem law_sp {m : MF} {a : Addr} {ns : List Int} {E : XK} (hS : SqL K H a (ns.map V.int)) (h : ∃ g', m [.val (.list (ns.map PyData.int))] = some (.dat (.bool true), g')) : spM K 1 [] m [.ref a] H (fun v _ => v = .bl true) E := by
  obtain ⟨g', e⟩ := h
  refine ⟨rfl, H, [.val (.list (ns.map PyData.int))], _, g', ⟨Evl.Ex.refl H, rfl, fun i s h _ => ?_, fun i j ds es p h1 => ?_, fun p h => h, fun i ds p h1 => ?_⟩, fun i hi => absurd hi (by simp), e, fun v Hf' H' s w _ => ?_⟩
  · cases i with
    | zero => simp at h; subst h; exact ⟨_, rfl, .lst hS (RepAll.of_ints ns)⟩
    | succ i => simp at h
  · cases i with
    | zero => simp at h1
    | succ i => simp at h1
  · cases i with
    | zero => simp at h1
    | succ i => simp at h1
  · have w : Rep K Hf' v (.bool true) := w
    cases w; rfl
theorem vals_ints' : ∀ (ns : List Int) (ts : List Tok), ns.length = ts.length → Vals (ns.map V.int) (List.zipWith Value.int ns ts)
  | [], [], _ => .nil
  | n :: ns, t :: ts, h => .cons ⟨t, rfl⟩ (vals_ints' ns ts (by simpa using h))
/-- a tuple of ints of the module -/
theorem rep_tupK {a : Addr} {dd : Option Addr} {n : Nat} {sl : Array (Option Value)} (ns : List Int) (ts : List Tok) {its : Array Value} (h : K.lookup a = some ⟨.type "tuple", dd, .seq its n, sl⟩) (e : its.toList = List.zipWith Value.int ns ts) (hl : ns.length = ts.length) (hz : ns.length ≤ 1000) (Hf : Hp) :
    Rep K Hf (.ref a) (.tuple (ns.map PyData.int)) := by
  refine .tup (xs := ns.map V.int) (.inr ⟨_, its, n, h, rfl, rfl, ?_, ?_⟩) (RepAll.of_ints ns)
  · have : its.size = ns.length := by
      rw [← Array.length_toList, e, List.length_zipWith, hl, Nat.min_self]
    rw [this]
    exact Nat.le_trans hz (by decide)
  · rw [e]; exact vals_ints' ns ts hl
def fuel : Nat := 18446744073709551616
end
end EV
end
section
set_option Elab.async false
set_option linter.all false
set_option maxRecDepth 100000
set_option maxHeartbeats 2000000
set_option autoImplicit false
/-! further: ranges made to tuples and lists, walked backwards; pop(i); extend; sorted ints -/
namespace EV
open PySem PySem.Spec PyProof.Rows L2
section
variable {F : Fam} {pr : List Nat} {K : Frag} {B : Addr → Prop} {Hf H : Hp} {g g' : Gh} {σ : L2.St}
/-! ### ranges -/
abbrev MR := Gh → Option ((Int × Int) × Gh)
def EvRg (F : Fam) (pr : List Nat) (e : Expr) (m : MR) : Prop := ∀ (B : Addr → Prop) (Hf H : Hp) (g : Gh) (σ : L2.St) (a b : Int) (g' : Gh) (R : Int → Int → Hp → Prop), En F.K pr B Hf H g σ → m g = some ((a, b), g') →
  (∀ Hf' H', Stp F.K pr B Hf H g σ Hf' H' g' → okRg a = true → okRg b = true → R a b H') → ∃ t, (∀ i, PRg (F.X i) e t) ∧ t σ H R
def mRr1 (f : ME) : MR := fun g => (f g).bind fun a => (look a.1 a.2).bind fun x => match x with
  | .int j => if okRg j = true then some ((0, j), a.2) else none
  | _ => none
def mRr2 (f h : ME) : MR := fun g => (f g).bind fun a => (h a.2).bind fun b => (look a.1 b.2).bind fun x => (look b.1 b.2).bind fun y => match x, y with
  | .int i, .int j => if okRg i = true ∧ okRg j = true then some ((i, j), b.2) else none
  | _, _ => none
theorem er_1 {a : Expr} {f : ME} {p pos : Pos} (hm : ∀ i, (F.X i).mg "range" = none) (h : Ev F pr a f) (hg : ∀ i, Gl (F.X i) "range" := by intro _; rfl) (hs : ∀ i, starEach [a] (F.X i).env = (false, eval a (F.X i).env) :: starEach [] (F.X i).env := by intro _; rfl) :
    EvRg F pr (.Call (.Name "range" p) [a] [] pos) (mRr1 f) := by
  intro B Hf H g σ x y g' R E eq q
  obtain ⟨⟨wa, g1⟩, e1, eq1⟩ := Option.bind_eq_some_iff.mp eq
  obtain ⟨d, e2, eq2⟩ := Option.bind_eq_some_iff.mp eq1
  dsimp only at eq2
  split at eq2
  · rename_i j
    split at eq2
    · rename_i hj
      cases eq2
      refine ⟨tRg1 (U F a), fun i => prg_1 (hg i) (hm i) (pe_U i) (hs i), ?_⟩
      refine h B Hf H g σ wa _ _ E e1 fun v Hf1 H1 s1 w1 y1 => ?_
      have l : RL F.K Hf1 H1 v (.int _) := look_ok s1.env w1 e2
      cases l.int
      exact ⟨_, rfl, q Hf1 H1 s1 rfl hj⟩
    · cases eq2
  · cases eq2
def mTupRg (m : MR) : ME := fun g => (m g).bind fun a => if (a.1.2 - a.1.1).toNat ≤ sizeLine then some (.dat (.tuple (rgD a.1.1 a.1.2)), a.2) else none
def mLstRg (m : MR) : ME := fun g => (m g).bind fun a => if (a.1.2 - a.1.1).toNat ≤ sizeLine then some (.fresh (rgD a.1.1 a.1.2), a.2) else none
/-- reversed(range(..)) -/
def mRevR (m : MR) : MI := fun g => (m g).bind fun a => some ((rgD a.1.1 a.1.2).reverse, a.2)
theorem walkd_revR {a b : Int} : WalkD K (Itc (a + (((b - a).toNat : Nat) : Int) - 1) (-1) (b - a).toNat) Hf (rgD a b).reverse := by
  have hl : (rgD a b).length = (b - a).toNat := by unfold rgD; rw [List.length_map, List.length_range]
  intro Hf1 H1 e1 e2
  refine ⟨fun i hi => by show i < _; rw [List.length_reverse, hl] at hi; exact hi, by show _ ≤ _; rw [List.length_reverse, hl]; exact Nat.le_refl _, fun i d x H2 hd y => ?_⟩
  obtain ⟨rfl, rfl⟩ := y
  by_cases hi : i < (b - a).toNat
  · rw [List.getElem?_reverse (by rw [hl]; exact hi), hl] at hd
    unfold rgD at hd
    rw [List.getElem?_map, List.getElem?_range (by omega)] at hd
    cases hd
    refine ⟨Hf1, Tr.refl, fun _ _ _ _ E => E, ?_⟩
    have e : a + (((b - a).toNat : Nat) : Int) - 1 + (i : Nat) * -1 = a + (((b - a).toNat - 1 - i : Nat) : Int) := by omega
    rw [e]
    exact .int _
  · rw [List.getElem?_eq_none (by rw [List.length_reverse, hl]; omega)] at hd
    cases hd
theorem ei_revR {tg e : Expr} {m : MR} {p pos : Pos} (hm : ∀ i, (F.X i).mg "reversed" = none) (h : EvRg F pr e m) (hg : ∀ i, Gl (F.X i) "reversed" := by intro _; rfl) (hs : ∀ i, starEach [e] (F.X i).env = (false, eval e (F.X i).env) :: starEach [] (F.X i).env := by intro _; rfl) :
    EvI F pr tg (.Call (.Name "reversed" p) [e] [] pos) (mRevR m) := by
  intro B Hf H g σ ds g' R E eq q
  obtain ⟨⟨⟨a, b⟩, g1⟩, e1, eq⟩ := Option.bind_eq_some_iff.mp eq
  cases eq
  obtain ⟨t, ht, z⟩ := h B Hf H g σ a b _ (fun a b H1 => -(2 ^ 62) ≤ a ∧ a < 2 ^ 62 ∧ -(2 ^ 62) ≤ b ∧ b < 2 ^ 62 ∧ R (Itc (a + (((b - a).toNat : Nat) : Int) - 1) (-1) (b - a).toNat) H1) E e1 fun Hf1 H1 s1 h1 h2 =>
    ⟨(okRg_of h1).1, (okRg_of h1).2, (okRg_of h2).1, (okRg_of h2).2, q _ Hf1 H1 s1 walkd_revR⟩
  exact ⟨iRevR t, fun i => pi_revR (hg i) (hm i) (ht i) (hs i), z⟩
/-! ### lists that change -/
theorem RepAll.eraseIdx {vs : List V} {ds : List Da} (r : RepAll K H vs ds) (j : Nat) : RepAll K H (vs.eraseIdx j) (ds.eraseIdx j) := by
  rw [List.eraseIdx_eq_take_drop_succ, List.eraseIdx_eq_take_drop_succ]
  exact (r.take j).append (r.drop (j + 1))
/-- xs.pop(k) -/
def mPopAt (i : Nat) (f : ME) : ME := fun g => match g[i]? with
  | some (.own _) => (f g).bind fun b => (look b.1 b.2).bind fun y => match y, b.2[i]? with
    | .int k, some (.own ds) => if okRg k = true then (ixN ds.length k).bind fun j => (ds[j]?).bind fun d => some (.dat d, b.2.set i (.own (ds.eraseIdx j))) else none
    | _, _ => none
  | _ => none
/-- xs.extend(e), e a new list -/
def sExt (i : Nat) (f : ME) : MS := fun g => match g[i]? with
  | some (.own _) => (f g).bind fun a => match a.1, a.2[i]? with
    | .fresh es, some (.own ds) => if ds.length + es.length ≤ sizeLine then some (.nx, a.2.set i (.own (ds ++ es))) else none
    | _, _ => none
  | _ => none
/-! ### sorted ints -/
def sortI (ns : List Int) : List Int := ns.mergeSort (fun a b => decide (a ≤ b))
theorem sortI_perm (ns : List Int) : (sortI ns).Perm ns := List.mergeSort_perm _ _
theorem sortI_le (ns : List Int) : (sortI ns).Pairwise (· ≤ ·) := by
  refine (List.pairwise_mergeSort (le := fun a b : Int => decide (a ≤ b)) ?_ ?_ ns).imp ?_
  · intro a b c h1 h2
    exact decide_eq_true (Int.le_trans (of_decide_eq_true h1) (of_decide_eq_true h2))
  · intro a b
    rcases Int.le_total a b with h | h
    · rw [decide_eq_true h]; rfl
    · rw [decide_eq_true h, Bool.or_true]
  · intro a b h
    exact of_decide_eq_true h
theorem sortI_eq {ns ms : List Int} (p : ms.Perm ns) (s : ms.Pairwise (· ≤ ·)) : ms = sortI ns :=
  List.Perm.eq_of_pairwise (le := fun a b : Int => a ≤ b) (fun a b _ _ h1 h2 => Int.le_antisymm h1 h2) s (sortI_le ns) (p.trans (sortI_perm ns).symm)
def dSorted : List Da → Option Wv
  | [.list xs] => (intsOf xs).map fun ns => .fresh ((sortI ns).map PyData.int)
  | _ => none
theorem cd_sorted : CallD F (.builtin "sorted") dSorted := by
  intro ds w e
  unfold dSorted at e
  split at e
  · rename_i xs
    obtain ⟨ns, e1, e3⟩ := Option.map_eq_some_iff.mp e
    subst e3
    have e1 := intsOf_some e1
    subst e1
    refine ⟨rSortedI F.K, fun i => by have h := @cr_sortedI (F.X i); rw [F.hK i] at h; exact h, fun pr B Hf H g σ vs Q E h c => ?_⟩
    obtain ⟨v, rfl, l⟩ := h.one
    obtain ⟨p, us, rfl, s, r⟩ := l.seqL E.ex
    have := r.ints
    subst this
    exact ⟨p, ns, rfl, s, fun ns' q h1 h2 hq => by rw [sortI_eq h1 h2]; exact c.newL E (RepAll.of_ints _) hq⟩
  · cases e
/-! ### tuple(reversed(list)) -/
def mTupRev (f : ME) : ME := fun g => (f g).bind fun a => (look a.1 a.2).bind fun x => match x with | .list xs => some (.dat (.tuple xs.reverse), a.2) | _ => none
end
end EV
end
section
set_option Elab.async false
set_option linter.all false
set_option maxRecDepth 100000
set_option maxHeartbeats 2000000
set_option autoImplicit false
/-! a new list, or a tuple, times an int -/
namespace EV
open PySem PySem.Spec PyProof.Rows L2
section
variable {F : Fam} {pr : List Nat} {K : Frag} {B : Addr → Prop} {Hf H : Hp} {g g' : Gh} {σ : L2.St}
theorem RepAll.rep {vs : List V} {ds : List Da} (r : RepAll K H vs ds) : ∀ n : Nat, RepAll K H (List.replicate n vs).flatten (List.replicate n ds).flatten
  | 0 => .nil
  | n + 1 => by
    rw [List.replicate_succ, List.replicate_succ, List.flatten_cons, List.flatten_cons]
    exact r.append (RepAll.rep r n)
/-! ### a tuple times an int: the same one, or the empty one -/
theorem mulT_same (l : Addr) (tis : Array Value) (n : Nat) (dd : Option Addr) (sl : Array (Option Value)) (x : Int) (u : Tok)
    (z0 : (decide (x < -(2 ^ 63)) || decide (x ≥ 2 ^ 63)) = false) (z1 : (tis.isEmpty || x == 1) = true) :
    Meets (Builtin.«tuple.__mul__» ⟨[.ref l, .int x u], []⟩) (fun _ R s => s.heap.get? l = some { cls := .type "tuple", dict := dd, data := .seq tis n, slots := sl } ∧ R (.ok (.ret (.ref l))) s) :=
  .of_wp fun _ _ _ _ sh hh => by
    obtain ⟨q1, q2, q3, q4, q5⟩ := sh
    obtain ⟨hgl, hr⟩ := hh
    have g1 := AutoSeq1.idx_int
    wp_walk using wpAny_loadPart' hgl
    refine wpAny_ite_false (decide_eq_false (by rw [z0]; exact Bool.false_ne_true)) ?_
    wp_walk using wpAny_loadPart' hgl
    exact ⟨_, rfl, hr⟩
theorem mulT_none (l : Addr) (tis : Array Value) (n : Nat) (dd : Option Addr) (sl : Array (Option Value)) (x : Int) (u : Tok)
    (z0 : (decide (x < -(2 ^ 63)) || decide (x ≥ 2 ^ 63)) = false) (z1 : (tis.isEmpty || x == 1) = false) (z2 : (decide (x ≤ 0) || tis.isEmpty) = true) :
    Meets (Builtin.«tuple.__mul__» ⟨[.ref l, .int x u], []⟩) (fun _ R s => s.heap.get? l = some { cls := .type "tuple", dict := dd, data := .seq tis n, slots := sl } ∧ R (.ok (.ret (.ref s.heap.objs.size))) { s with heap := s.heap.push { cls := Value.type "tuple", data := Data.seq #[] }, toks := s.toks }) :=
  .of_wp fun _ _ _ _ sh hh => by
    obtain ⟨q1, q2, q3, q4, q5⟩ := sh
    obtain ⟨hgl, hr⟩ := hh
    have g1 := AutoSeq1.idx_int
    wp_walk using wpAny_loadPart' hgl
    refine wpAny_ite_false (decide_eq_false (by rw [z0]; exact Bool.false_ne_true)) ?_
    wp_walk using wpAny_loadPart' hgl
    first
      | exact ⟨_, rfl, hr⟩
      | trace_state
def rRep1 (K : Frag) : R2 := fun x y H Q => ∃ l k xs, x = .ref l ∧ y = .int k ∧ SqT K H l xs ∧ (xs = [] ∨ k = 1) ∧ -(2 ^ 62) ≤ k ∧ k < 2 ^ 62 ∧ Q (.ref l) H
def rRep0 (K : Frag) : R2 := fun x y H Q => ∃ l k xs, x = .ref l ∧ y = .int k ∧ SqT K H l xs ∧ xs ≠ [] ∧ -(2 ^ 62) ≤ k ∧ k ≤ 0 ∧ ∀ p, H p = none → Q (.ref p) (upd H p (.tup []))
theorem op_rep1 {X : Cx} : OpR X (binaryOp .Mult) (rRep1 X.K) := by
  intro pins s σ H x y v u Q I rx ry hh
  obtain ⟨l, k, xs, rfl, rfl, hT, hk, b1, b2, q⟩ := hh
  cases rx
  obtain ⟨t, rfl⟩ := ry
  obtain ⟨tis, r, ⟨⟨c1, dd, d1, sl⟩, ho, hc, n, hd⟩, hs⟩ := I.tuple hT
  simp only at hc hd
  subst hc hd
  have z0 : (decide (k < -(2 ^ 63)) || decide (k ≥ 2 ^ 63)) = false := by
    rw [decide_eq_false (by omega), decide_eq_false (by omega)]
    rfl
  have z1 : (tis.toArray.isEmpty || k == 1) = true := by
    rcases hk with rfl | rfl
    · have : tis = [] := List.eq_nil_of_length_eq_zero r.length.symm
      subst this
      rfl
    · simp
  refine wpAny_binaryOp_repeat_ref (T := "tuple") (U := "int") (by decide) ⟨_, ho, rfl⟩ (fun s' => typeIs_int s' k t) noFill_tuple_mul F.fills_int_mul F.slot_int_rmul repeat_tuple F.slot_int_index.lookup ?_
  refine call_meets F.slot_int_rmul (typeIs_int s k t) F.entry_int_rmul (F.args_int_rmul_2 _ _) (int_rmul_tuple k t l tis.toArray n dd sl) ⟨ho, rfl, ⟨_, ho, rfl⟩, ?_⟩
  refine call_meets F.slot_tuple_mul ⟨_, ho, rfl⟩ F.entry_tuple_mul (F.args_tuple_mul_2 _ _) (mulT_same l tis.toArray n dd sl k t z0 z1) ⟨ho, ?_⟩
  exact ⟨.ref l, H, I, rfl, q⟩
theorem op_rep0 {X : Cx} : OpR X (binaryOp .Mult) (rRep0 X.K) := by
  intro pins s σ H x y v u Q I rx ry hh
  obtain ⟨l, k, xs, rfl, rfl, hT, hne, b1, b2, q⟩ := hh
  cases rx
  obtain ⟨t, rfl⟩ := ry
  obtain ⟨tis, r, ⟨⟨c1, dd, d1, sl⟩, ho, hc, n, hd⟩, hs⟩ := I.tuple hT
  simp only at hc hd
  subst hc hd
  have hi : tis.toArray.isEmpty = false := by
    cases tis with
    | nil => exact absurd (List.eq_nil_of_length_eq_zero r.length) hne
    | cons _ _ => rfl
  have z0 : (decide (k < -(2 ^ 63)) || decide (k ≥ 2 ^ 63)) = false := by
    rw [decide_eq_false (by omega), decide_eq_false (by omega)]
    rfl
  have z1 : (tis.toArray.isEmpty || k == 1) = false := by
    rw [hi, Bool.false_or]
    exact beq_eq_false_iff_ne.mpr (by omega)
  have z2 : (decide (k ≤ 0) || tis.toArray.isEmpty) = true := by
    rw [decide_eq_true b2]
    rfl
  refine wpAny_binaryOp_repeat_ref (T := "tuple") (U := "int") (by decide) ⟨_, ho, rfl⟩ (fun s' => typeIs_int s' k t) noFill_tuple_mul F.fills_int_mul F.slot_int_rmul repeat_tuple F.slot_int_index.lookup ?_
  refine call_meets F.slot_int_rmul (typeIs_int s k t) F.entry_int_rmul (F.args_int_rmul_2 _ _) (int_rmul_tuple k t l tis.toArray n dd sl) ⟨ho, rfl, ⟨_, ho, rfl⟩, ?_⟩
  refine call_meets F.slot_tuple_mul ⟨_, ho, rfl⟩ F.entry_tuple_mul (F.args_tuple_mul_2 _ _) (mulT_none l tis.toArray n dd sl k t z0 z1 z2) ⟨ho, ?_⟩
  exact ⟨.ref s.heap.objs.size, _, I.laid (t' := s.toks) (o := .tup []) (fun b ob q => Heap.get?_push_of_some _ q) (Nat.le_refl _) ⟨Nat.zero_le _, _, .nil, IsTup.new _ _⟩, rfl, q _ (I.hok.fresh (Nat.le_refl _))⟩
/-- ints, and a tuple times an int -/
def dMulT : Da → Da → Option Wv
  | .int a, .int b => if a.natAbs.log2 + b.natAbs.log2 < 1000000 then some (.dat (.int (a * b))) else none
  | .tuple xs, .int k => if okRg k = true ∧ (xs = [] ∨ k ≤ 1 ∨ (k ≤ 1000 ∧ xs.length ≤ 1000)) then some (.dat (.tuple (List.replicate k.toNat xs).flatten)) else none
  | _, _ => none
theorem rep_nil {α : Type} : ∀ n : Nat, (List.replicate n ([] : List α)).flatten = []
  | 0 => rfl
  | n + 1 => by rw [List.replicate_succ, List.flatten_cons, rep_nil n, List.nil_append]
theorem od_mulT : OpD F (binaryOp .Mult) dMulT := by
  intro x y w e
  unfold dMulT at e
  split at e
  · split at e
    · rename_i h1
      cases e
      exact ⟨_, fun i => op_mulW, fun pr B Hf H g σ vx vy Q E hx hy c => ⟨_, _, hx.int, hy.int, h1, c.dat E (.int _)⟩⟩
    · cases e
  · rename_i xs k
    split at e
    · rename_i h1
      cases e
      obtain ⟨hk, h2⟩ := h1
      obtain ⟨b1, b2⟩ := okRg_of hk
      by_cases h3 : xs = [] ∨ k = 1
      · refine ⟨rRep1 F.K, fun i => by have h := @op_rep1 (F.X i); rw [F.hK i] at h; exact h, fun pr B Hf H g σ vx vy Q E hx hy c => ?_⟩
        obtain ⟨p, us, rfl, s, r⟩ := hx.seqT E.ex
        cases hy.int
        refine ⟨p, k, us, rfl, rfl, s, ?_, b1, b2, ?_⟩
        · rcases h3 with rfl | h3
          · exact .inl (List.eq_nil_of_length_eq_zero r.length)
          · exact .inr h3
        · have e : (List.replicate k.toNat xs).flatten = xs := by
            rcases h3 with rfl | rfl
            · exact rep_nil _
            · show (List.replicate 1 xs).flatten = xs
              simp
          rw [e] at c
          rcases hx.2 with r | ⟨_, _, _, _, z, _⟩
          · exact c.dat E r
          · cases z
      · have hne : xs ≠ [] := fun z => h3 (.inl z)
        by_cases h4 : k ≤ 0
        · refine ⟨rRep0 F.K, fun i => by have h := @op_rep0 (F.X i); rw [F.hK i] at h; exact h, fun pr B Hf H g σ vx vy Q E hx hy c => ?_⟩
          obtain ⟨p, us, rfl, s, r⟩ := hx.seqT E.ex
          cases hy.int
          refine ⟨p, k, us, rfl, rfl, s, ?_, b1, h4, fun z hz => ?_⟩
          · intro z
            subst z
            exact hne (List.eq_nil_of_length_eq_zero r.length.symm)
          · have e : (List.replicate k.toNat xs).flatten = [] := by rw [show k.toNat = 0 by omega]; rfl
            rw [e] at c
            exact c.newT E .nil hz
        · have h5 : k ≤ 1000 ∧ xs.length ≤ 1000 := by
            rcases h2 with h | h | h
            · exact absurd h hne
            · exact absurd (show k = 1 by omega) fun z => h3 (.inr z)
            · exact h
          refine ⟨rRepT F.K, fun i => by have h := @op_repT (F.X i); rw [F.hK i] at h; exact h, fun pr B Hf H g σ vx vy Q E hx hy c => ?_⟩
          obtain ⟨p, us, rfl, s, r⟩ := hx.seqT E.ex
          cases hy.int
          refine ⟨p, k, us, rfl, rfl, s, ?_, ?_, h5.1, by rw [r.length]; exact h5.2, fun z hz => c.newT E (r.rep _) hz⟩
          · intro z
            subst z
            exact hne (List.eq_nil_of_length_eq_zero r.length.symm)
          · have : k ≠ 1 := fun z => h3 (.inr z)
            omega
    · cases e
  · cases e
/-- [..] * k -/
def mRepL (f h : ME) : ME := fun g => (f g).bind fun a => (h a.2).bind fun b => (look b.1 b.2).bind fun y => match a.1, y with
  | .fresh xs, .int k => if okRg k = true ∧ xs.length * k.toNat ≤ sizeLine then some (.fresh (List.replicate k.toNat xs).flatten, b.2) else none
  | _, _ => none
theorem ev_repL {a b : Expr} {fa fb : ME} {pos : Pos} (ha : Ev F pr a fa) (hb : Ev F pr b fb) : Ev F pr (.BinOp a .Mult b pos) (mRepL fa fb) := by
  intro B Hf H g σ w g' Q E eq q
  obtain ⟨⟨wa, g1⟩, e1, eq⟩ := Option.bind_eq_some_iff.mp eq
  obtain ⟨⟨wb, g2⟩, e2, eq⟩ := Option.bind_eq_some_iff.mp eq
  obtain ⟨y, e4, eq⟩ := Option.bind_eq_some_iff.mp eq
  dsimp only at eq
  split at eq
  · split at eq
    · rename_i hk
      cases eq
      obtain ⟨b1, b2⟩ := okRg_of hk.1
      refine ⟨_, fun i => pe_op (op_rep (X := F.X i)) (pe_U i) (pe_U i), ?_⟩
      refine ha B Hf H g σ _ g1 _ E e1 fun v Hf1 H1 s1 w1 y1 => ?_
      refine hb B Hf1 H1 g1 σ wb _ _ s1.env e2 fun u Hf2 H2 s2 w2 y2 => ?_
      have l2 : RL F.K Hf2 H2 u (.int _) := look_ok s2.env w2 e4
      cases l2.int
      have w3 := s2.way s1.env w1
      obtain ⟨p, vs, rfl, _, _, hp, rp, _⟩ := w3
      refine ⟨p, _, vs, rfl, rfl, hp, by omega, by omega, by rw [rp.length]; exact hk.2, fun z hz => ?_⟩
      have hf := s2.env.frz hz
      refine q _ Hf2 _ ((s1.trans s2).trans ⟨Tr.mut hz, s2.env.mut hz, fun _ h => h⟩) ?_ (fun ds _ p' e => ?_)
      · exact ⟨z, _, rfl, s2.env.nb z hz, hf, upd_same, rp.rep _, s2.env.own_none hz⟩
      · cases e; exact s1.tr.stay _ (s2.tr.stay _ hz)
    · cases eq
  · cases eq
end
end EV
end
section
set_option Elab.async false
set_option linter.all false
set_option maxRecDepth 100000
set_option maxHeartbeats 2000000
set_option autoImplicit false
/-! how many unlike ints a tuple has -/
namespace EV
open PySem PySem.Spec PyProof.Rows L2
/-- unlike ones -/
def uniq : List Int → List Int
  | [] => []
  | x :: r => if x ∈ r then uniq r else x :: uniq r
theorem mem_uniq : ∀ (xs : List Int) (a : Int), a ∈ uniq xs ↔ a ∈ xs
  | [], a => by unfold uniq; exact Iff.rfl
  | x :: r, a => by
    unfold uniq
    split
    · rename_i h
      rw [mem_uniq r a, List.mem_cons]
      exact ⟨.inr, fun z => z.elim (fun e => e ▸ h) id⟩
    · rw [List.mem_cons, List.mem_cons, mem_uniq r a]
theorem nodup_uniq : ∀ xs : List Int, (uniq xs).Nodup
  | [] => by unfold uniq; exact List.nodup_nil
  | x :: r => by
    unfold uniq
    split
    · exact nodup_uniq r
    · rename_i h
      exact List.nodup_cons.mpr ⟨fun z => h ((mem_uniq r x).mp z), nodup_uniq r⟩
theorem uniq_len {xs : List Int} (h : xs.Nodup) : (uniq xs).length = xs.length := ((List.perm_ext_iff_of_nodup (nodup_uniq xs) h).mpr (mem_uniq xs)).length_eq
section
variable {X : Cx}
def tLenSetT (K : Frag) (ta : TE) : TE := fun σ H Q => ta σ H fun x H1 => ∃ (l : Addr) (ns : List Int), x = .ref l ∧ SqT K H1 l (ns.map V.int) ∧ ns.length ≤ 1000 ∧ Q (.int (uniq ns).length) H1
theorem pe_lenSetT {a : Expr} {ta : TE} {p p2 q pos : Pos} (hc : X.calm = true) (hg : Gl X "len") (hm : X.mg "len" = none) (hg2 : Gl X "set") (hm2 : X.mg "set" = none) (ha : PE X a ta)
    (na : starEach [a] X.env = (false, eval a X.env) :: starEach [] X.env := by rfl) : PE X (.Call (.Name "len" p) [.Call (.Name "set" p2) [a] [] q] [] pos) (tLenSetT X.K ta) := by
  refine ⟨fun pins s σ H Q I hh => Call_ (ld_blt I hg hm boot_len (PyProof.Rows.callWith_builtin1 (PyProof.Rows.args_cons (Call_ (ld_blt I hg2 hm2 boot_set (PyProof.Rows.callWith_type1 (PyProof.Rows.args_cons (thn (ha.run pins s σ H _ I hh) fun v s1 ⟨x, H1, I1, r1, q1⟩ => PyProof.Rows.args_nil ?_) na) na rfl))) rfl) rfl rfl))⟩
  obtain ⟨l, ns, rfl, hq, hl, q1⟩ := q1
  cases r1
  obtain ⟨its, rv, pt, hz⟩ := I1.tuple hq
  refine call_set_tupI ns (I1.ok.hd hc) (show s1.heap.IsTuple l its.toArray from pt) (show IntsAre its.toArray.toList ns from ints_of_vals rv) (by unfold scanBound; omega) fun h' tk c R1 hcn k => PyProof.Rows.args_nil ?_
  obtain ⟨o, es, ep, t, ho, hex, hdt, g, nd, hm3, hb, hf, hn, hr, hl2⟩ := R1
  have e : es.size = (uniq ns).length := by
    have z := ((List.perm_ext_iff_of_nodup nd (nodup_uniq ns)).mpr fun j => by rw [← hm3 j, decide_eq_true_eq, mem_uniq]).length_eq
    rw [List.length_map, Array.length_toList] at z
    exact z
  have I2 : Inv X pins σ H1 { s1 with heap := h', toks := tk } := I1.kept fun b o e => k b o e
  exact call_len_set ho hex hdt hf (by unfold scanBound at hb; omega) ⟨.int (uniq ns).length, H1, I2.tok _, ⟨_, by rw [e]⟩, q1⟩
end
section
variable {F : Fam} {pr : List Nat} {K : Frag} {B : Addr → Prop} {Hf H : Hp} {g g' : Gh} {σ : L2.St}
def mLenSet (f : ME) : ME := fun g => (f g).bind fun a => (look a.1 a.2).bind fun x => match x with | .tuple xs => (intsOf xs).bind fun ns => if ns.length ≤ 1000 then some (.dat (.int (uniq ns).length), a.2) else none | _ => none
theorem ev_lenSet {e : Expr} {f : ME} {p p2 pos pos2 : Pos} (hc : ∀ i, (F.X i).calm = true) (hm : ∀ i, (F.X i).mg "len" = none) (hm2 : ∀ i, (F.X i).mg "set" = none) (h : Ev F pr e f) (hg : ∀ i, Gl (F.X i) "len" := by intro _; rfl) (hg2 : ∀ i, Gl (F.X i) "set" := by intro _; rfl)
    (hs : ∀ i, starEach [e] (F.X i).env = (false, eval e (F.X i).env) :: starEach [] (F.X i).env := by intro _; rfl) :
    Ev F pr (.Call (.Name "len" p) [.Call (.Name "set" p2) [e] [] pos2] [] pos) (mLenSet f) := by
  intro B Hf H g σ w g' Q E eq q
  obtain ⟨⟨wa, g1⟩, e1, eq1⟩ := Option.bind_eq_some_iff.mp eq
  obtain ⟨x, e2, eq2⟩ := Option.bind_eq_some_iff.mp eq1
  dsimp only at eq2
  split at eq2
  · rename_i xs
    obtain ⟨ns, e3, eq3⟩ := Option.bind_eq_some_iff.mp eq2
    have e3 := intsOf_some e3
    subst e3
    split at eq3
    · rename_i hl
      cases eq3
      refine ⟨tLenSetT F.K (U F e), fun j => by have z := pe_lenSetT (hc j) (hg j) (hm j) (hg2 j) (hm2 j) (pe_U (F := F) (e := e) j) (hs j) (p := p) (p2 := p2) (q := pos2) (pos := pos); rw [F.hK j] at z; exact z, ?_⟩
      refine h B Hf H g σ wa _ _ E e1 fun v Hf1 H1 s1 w1 y1 => ?_
      have l : RL F.K Hf1 H1 v (.tuple (ns.map PyData.int)) := look_ok s1.env w1 e2
      obtain ⟨p, us, rfl, hp, r⟩ := l.seqT s1.env.ex
      have := r.ints
      subst this
      exact ⟨p, ns, rfl, hp, hl, q _ Hf1 H1 s1 (.int _) (fun _ z => nomatch z)⟩
    · cases eq3
  · cases eq2
end
end EV
end
section
set_option Elab.async false
set_option linter.all false
set_option maxRecDepth 100000
set_option maxHeartbeats 2000000
set_option autoImplicit false
/-! sorted(tuple of ints) -/
namespace EV
open PySem PySem.Spec PyProof.Rows L2
section
variable {P : Program} {w : World} {A : Around} {E : Value → Shared → Prop} {s : Shared}
abbrev hUp (h : Heap) (vs : List Value) : Heap := Heap.update (Heap.push h (seqObj "list" #[] 0)) h.objs.size (Obj.mapSeq fun b => b ++ vs.toArray)
theorem coll_tup {l : Addr} {vs : List Value} {Q : List Value → Shared → Prop} (pt : s.heap.IsTuple l vs.toArray) (sz : vs.length ≤ sizeLine) (q : Q vs { s with heap := hUp s.heap vs }) : wpAny (model P w) A (collect (.ref l)) Q E s := by
  obtain ⟨ob, g1, g2, m, g3⟩ := id pt
  have g4 : (s.heap.push (seqObj "list" #[] 0)).get? l = some ob := Heap.get?_push_of_some _ g1
  unfold collect
  refine wpAny_bind (wpAny_runValue (codeAny_builtin entry_proto_collect' (wpAny_bind (wpAny_newList (wpAny_pure ⟨Code.quiet_builtin _ (by decide +kernel), codeAny_builtin entry_list_iadd' ?_⟩)))))
  show wpAny _ _ (Builtin.List.listExtendWith (.ref s.heap.objs.size) (.ref l) _) _ _ _
  unfold Builtin.List.listExtendWith -- the tuple's own
  refine wpAny_bind (wpAny_typeOf (T := "tuple") ⟨ob, g4, g2⟩ ?_)
  rw [if_pos (show (Builtin.List.listSameRef _ _ || Value.type "tuple" == Value.type "list" || Value.type "tuple" == Value.type "tuple") = true by rw [show (Value.type "tuple" == Value.type "tuple") = true from rfl, Bool.or_true])]
  refine wpAny_bind (listItems_at g4 g3 (wpAny_bind (listItems_at (xs := #[]) (n := 0) (Heap.get?_push_size _ rfl) rfl ?_)))
  rw [if_neg (show ¬ (!(#[] : Array Value).isEmpty && _) = true by simp)]
  refine wpAny_bind (listUpdate_at (xs := #[]) (n := 0) (Heap.get?_push_size _ rfl) rfl (wpAny_pure ?_) (Nat.zero_le _) (by show (#[] ++ vs.toArray).size ≤ sizeLine + 1; rw [Array.size_append, List.size_toArray]; simp; omega))
  refine wpAny_bind (wpAny_load (get?_update_seq (Heap.get?_push_size s.heap rfl) _) ?_)
  rw [show ((#[] : Array Value) ++ vs.toArray) = vs.toArray by simp]
  exact wpAny_pure q
theorem srt_tup {l : Addr} {vs : List Value} {ltv : Value → Value → Bool} {Q : Value → Shared → Prop} (O : SrtO.Swo ltv) (pt : s.heap.IsTuple l vs.toArray) (sz : vs.length ≤ sizeLine)
    (can : 2 ≤ vs.length → ∀ (g : Heap) (a : Addr), SrtO.SortableO P w A.in1.in1 { s with heap := g } a vs ltv)
    (q : ∀ out : List Value, SrtO.Srtd ltv out → SrtO.Stb ltv out vs → Q (.ref (s.heap.objs.size + 1)) { s with heap := sortedAll s.heap vs out.toArray }) : wpAny (model P w) A (call (.builtin "sorted") [.ref l]) Q E s := by
  refine Calls.call_function_entry kind_sorted plain_sorted entry_sorted (args_sorted1 (.ref l)) ?_
  unfold Builtin.«sorted»
  refine wpAny_bind (m := checkCount "sorted" 1 1 _) (wpAny_pure (wpAny_bind (coll_tup pt sz (wpAny_bind (wpAny_newList ?_ sz)))))
  have n1 : (hUp s.heap vs).objs.size = s.heap.objs.size + 1 := by rw [Heap.size_update, size_push']
  have n2 : ((hUp s.heap vs).push (seqObj "list" vs.toArray 0)).get? (s.heap.objs.size + 1) = some (seqObj "list" vs.toArray 0) := by
    rw [← n1]
    exact Heap.get?_push_size _ rfl
  show wpAny _ _ _ _ _ { s with heap := (hUp s.heap vs).push (seqObj "list" vs.toArray 0) }
  rw [n1]
  exact wpAny_bind (wpAny_holding (wpAny_call_entry slot_list_sort ⟨_, n2, rfl⟩ entry_list_sort (SrtO.list_sort_ord O n2 sz (fun h2 => can h2 _ _) fun out o1 o2 => ⟨_, rfl, wpAny_pure ⟨_, rfl, q out o1 o2⟩⟩) (args_list_sort _)))
end
section
variable {X : Cx}
def rSortedIT (K : Frag) : List V → Hp → VK → Prop := fun vs H Q => ∃ (a : Addr) (ns : List Int), vs = [V.ref a] ∧ SqT K H a (ns.map V.int) ∧ ∀ p : Addr, H p = none → Q (.ref p) (upd H p (.lst ((sortI ns).map V.int)))
theorem cr_sortedIT : CallR X (.builtin "sorted") (rSortedIT X.K) := by
  intro pins s σ H vs us Q I r hh
  obtain ⟨a, ns, rfl, hs, q⟩ := hh
  obtain ⟨its, rv, pt, hz⟩ := I.tuple hs
  rw [Vals.ref1 r]
  have hi := rv.ints
  have hz2 : its.length ≤ sizeLine := by rw [← rv.length]; exact hz
  refine srt_tup SrtO.swo_int (show s.heap.IsTuple a its.toArray from pt) hz2 (fun h2 _ _ => SrtO.ints_sortable hi h2) fun out o1 o2 => ?_
  obtain ⟨k1, k2, k3⟩ := SrtO.ints_out hi o1 o2
  obtain ⟨ep, he⟩ := PyProof.Rows.sortedAll_at s.heap its out.toArray
  have e := sortI_eq k2 k3
  rw [e] at k1
  have hlen : ((sortI ns).map V.int).length ≤ sizeLine := by
    rw [List.length_map, (sortI_perm ns).length_eq]
    rw [List.length_map] at hz
    exact hz
  exact ⟨.ref _, _, I.laid (t' := s.toks) (o := .lst ((sortI ns).map V.int)) (fun _ _ => PyProof.Rows.sortedAll_old) (Nat.le_succ _) ⟨hlen, out, ep, vals_of_ints k1, he⟩, rfl, q _ (I.hok.fresh (Nat.le_succ _))⟩
end
section
variable {F : Fam} {pr : List Nat} {K : Frag} {B : Addr → Prop} {Hf H : Hp} {g g' : Gh} {σ : L2.St}
/-- sorted ints, of a list or a tuple -/
def dSortedA : List Da → Option Wv
  | [.list xs] => dSorted [.list xs]
  | [.tuple xs] => (intsOf xs).map fun ns => .fresh ((sortI ns).map PyData.int)
  | _ => none
theorem cd_sortedA : CallD F (.builtin "sorted") dSortedA := by
  intro ds w e
  unfold dSortedA at e
  split at e
  · exact cd_sorted _ w e
  · rename_i xs
    obtain ⟨ns, e1, e3⟩ := Option.map_eq_some_iff.mp e
    subst e3
    have e1 := intsOf_some e1
    subst e1
    refine ⟨rSortedIT F.K, fun i => by have h := @cr_sortedIT (F.X i); rw [F.hK i] at h; exact h, fun pr B Hf H g σ vs Q E h c => ?_⟩
    obtain ⟨v, rfl, l⟩ := h.one
    obtain ⟨p, us, rfl, s, r⟩ := l.seqT E.ex
    have := r.ints
    subst this
    exact ⟨p, ns, rfl, s, fun q hq => c.newL E (RepAll.of_ints _) hq⟩
  · cases e
end
end EV
end
section
set_option Elab.async false
set_option linter.all false
set_option maxRecDepth 100000
set_option maxHeartbeats 2000000
set_option autoImplicit false
/-! enumerate(tuple) -/
namespace EV
open PySem PySem.Spec PyProof.Rows L2
section
theorem en_new {v : Value} {ob : Obj} {W : Heap → Prop} (B : Begins v ob W) :
    Meets (Builtin.«enumerate.__new__» ⟨[.type "enumerate", v], []⟩) (fun _ R s => W s.heap ∧
      R (.ok (.ret (.ref (Heap.push s.heap ob).objs.size))) { s with heap := Heap.push (Heap.push s.heap ob) { cls := .type "enumerate", data := .fields #[.none, .bool false, .ref s.heap.objs.size, rawInt 0, .none, .none] } }) :=
  .of_wp fun P w A R sh hh => by
    obtain ⟨q1, q2, q3, q4, q5⟩ := sh
    obtain ⟨h1, hr⟩ := hh
    have g1 := sub_enumerate
    have g2 : ∀ {A' : Around} {E Q : Value → Shared → Prop}, Q (.ref q1.objs.size) ⟨q1.push ob, q2, q3, q4, q5⟩ → wpAny (model P w) A' (pyIter v) Q E ⟨q1, q2, q3, q4, q5⟩ := fun z => B.iter P w _ _ ⟨q1, q2, q3, q4, q5⟩ _ h1 z
    wp_walk using g2
    refine wpAny_stack_any fun sta => wpAny_pure ?_
    split
    · rename_i c _ _ _ _ _
      cases (c == Value.type "enumerate") <;> wp_walk using g2 <;> exact ⟨_, rfl, hr⟩
    · wp_walk using g2
      exact ⟨_, rfl, hr⟩
end
section
variable {P : Program} {w : World} {A : Around} {E : Value → Shared → Prop} {s : Shared}
theorem en_call {v : Value} {ob : Obj} {W : Heap → Prop} {Q : Value → Shared → Prop} (B : Begins v ob W) (h1 : W s.heap)
    (q : ∀ g, IsEnum g (s.heap.objs.size + 1) s.heap.objs.size 0 .none → g.get? s.heap.objs.size = some ob → (∀ b o, s.heap.get? b = some o → g.get? b = some o) → Q (.ref (s.heap.objs.size + 1)) { s with heap := g }) :
    wpAny (model P w) A (call (.type "enumerate") [v]) Q E s := by
  refine callType_new F.called_enumerate (by decide) (F.typeCall_enumerate_1 _) (F.newCall_enumerate_1 _) (fun obj => F.args_object_init_2 obj _) F.entry_enumerate_new (en_new B) ⟨h1, ?_⟩
  have n1 : (s.heap.push ob).objs.size = s.heap.objs.size + 1 := Heap.size_push ..
  show _ ∧ _
  rw [n1]
  have n2 : IsEnum ((s.heap.push ob).push { cls := .type "enumerate", data := .fields #[.none, .bool false, .ref s.heap.objs.size, rawInt 0, .none, .none] }) (s.heap.objs.size + 1) s.heap.objs.size 0 .none := by
    have z := Heap.get?_push_size (s.heap.push ob) (o := { cls := .type "enumerate", data := .fields #[.none, .bool false, .ref s.heap.objs.size, rawInt 0, .none, .none] }) rfl
    rw [n1] at z
    exact z
  exact ⟨⟨_, n2, rfl⟩, q _ n2 (Heap.get?_push_of_some _ (Heap.get?_push_size _ B.free)) fun b o x => Heap.get?_push_of_some _ (Heap.get?_push_of_some _ x)⟩
end
/-- the tuple at a as it stands at each turn, tis items with their counts in new pairs -/
def IteT (K : Frag) (a : Addr) : It :=
  ⟨fun i H => ∃ (xs : List V) (x : V), SqT K H a xs ∧ xs[i]? = some x, fun i H v H' => ∃ T x, v = .ref T ∧ H T = none ∧ H' = upd H T (.tup [.int (i : Nat), x]) ∧ ∀ xs, SqT K H a xs → xs[i]? = some x, fun i H => ∃ xs : List V, SqT K H a xs ∧ xs.length = i⟩
theorem turn_enT {P : Program} {w : World} {K : Frag} {elts : List Expr} {kk : Nat} {tpos : Pos} (a e it : Addr) :
    Turn P w K (.Tuple elts kk tpos) (IteT K a) [e, it] e (fun i h => (∃ od, IsEnum h e it ((i : Nat) : Int) od) ∧ h.IsTupleIter it a i ∧ e ≠ it) where
  mem := List.mem_cons_self
  obj := fun i h st b hb => by
    obtain ⟨⟨od, he⟩, ⟨o, ho, hc, hd⟩, _⟩ := st
    rcases (show b = e ∨ b = it by simpa using hb) with rfl | rfl
    · exact ⟨_, he, fun v q => nomatch q⟩
    · exact ⟨o, ho, fun v q => by rw [hd] at q; cases q⟩
  keep := fun i h h' st k => ⟨⟨st.1.choose, k e List.mem_cons_self _ st.1.choose_spec⟩, st.2.1.at fun o q => k it (List.mem_cons_of_mem _ List.mem_cons_self) o q, st.2.2⟩
  item := by
    intro X hQ hw hK hcm i pns s σ H E I hf st hg
    subst hQ hw hK
    obtain ⟨⟨od, he⟩, hti, hne⟩ := st
    obtain ⟨xs, x, hq, hx⟩ := hg
    obtain ⟨tis, rv, p, hz⟩ := I.tuple hq
    obtain ⟨u, hu, ru⟩ := rv.get hx
    have lel : e < s.heap.objs.size := Heap.lt_size he
    have hil : it < s.heap.objs.size := by
      obtain ⟨_, q, _⟩ := hti
      exact Heap.lt_size q
    have nai : a ≠ it := fun z => by
      obtain ⟨o1, q1, q2, _⟩ := hti
      obtain ⟨o2, q3, q4, _⟩ := p
      rw [z, q1] at q3
      cases q3
      rw [q2] at q4
      simp at q4
    have nae : e ≠ a := fun z => by
      obtain ⟨o2, q3, q4, _⟩ := p
      rw [← z, show s.heap.get? e = _ from he] at q3
      cases q3
      simp at q4
    refine wpAny_pyNext_enum_itemD (Draws.tuple (A := X.A.in1) (I.ok.hd hcm) it a nai tis.toArray) he ⟨hti, p⟩ (by rw [List.size_toArray]; exact lt_of_get hu) hne (by simp [hne, nae]) fun y h' tk hy ho st' hT hsz hk => ?_
    have ey : y = u := by
      have z : tis[i]? = some y := by simpa using hy
      rw [hu] at z
      cases z
      rfl
    subst ey
    refine ⟨_, rfl, wpAny_letOwnedTupleGo_enum (s := { s with heap := h', toks := tk + 1 }) ho fun h2 he2 sb => ?_⟩
    have hT2 : h2.get? s.heap.objs.size = some { cls := .type "tuple", data := .seq #[.int i tk, y] } := (sb.2 _ (Nat.ne_of_gt lel)).trans hT
    have J1 : Inv X pns σ (upd H s.heap.objs.size (.tup [.int (i : Nat), x])) { s with heap := h2, toks := tk + 1 } :=
      I.turnedNew (ch := [e, it]) (fun b ob hb q => (sb.2 b (fun z => hb (by simp [z]))).trans (hk b ob (fun z => hb (by simp [z])) (fun z => hb (by simp [z])) q)) hf (Nat.le_refl _)
        ⟨by show 2 ≤ sizeLine; decide, [.int i tk, y], .cons ⟨_, rfl⟩ (.cons ru .nil), ⟨_, hT2, rfl, _, rfl⟩⟩
    refine ⟨.ref s.heap.objs.size, _, J1, rfl, ⟨_, x, rfl, I.hok.fresh (Nat.le_refl _), rfl, fun ys hy => by rw [I.tuple_inj hy hq]; exact hx⟩, ⟨⟨y, by rw [show ((i + 1 : Nat) : Int) = (i : Int) + 1 by omega]; exact he2⟩, st'.1.at fun o q => (sb.2 it (Ne.symm hne)).trans q, hne⟩, fun b hb => ?_⟩
    have hb2 : b < s.heap.objs.size := by
      rcases (show b = e ∨ b = it by simpa using hb) with rfl | rfl
      · exact lel
      · exact hil
    rw [upd_ne (Nat.ne_of_lt hb2)]
    exact (hf b hb).1
  done := by
    intro X hQ hw hK hcm i pns s σ H E I hf st hg
    subst hQ hw hK
    obtain ⟨⟨od, he⟩, hti, hne⟩ := st
    obtain ⟨xs, hq, hx⟩ := hg
    obtain ⟨tis, rv, p, hz⟩ := I.tuple hq
    obtain ⟨f0, f1, f2, f3, f4, f5⟩ := hf it (List.mem_cons_of_mem _ List.mem_cons_self)
    have el : tis.toArray.size = i := by rw [List.size_toArray, ← rv.length, hx]
    have nai : a ≠ it := fun z => by
      obtain ⟨o1, q1, q2, _⟩ := hti
      obtain ⟨o2, q3, q4, _⟩ := p
      rw [z, q1] at q3
      cases q3
      rw [q2] at q4
      simp at q4
    exact wpAny_pyNext_enum_endD (Draws.tuple (A := X.A.in1) (I.ok.hd hcm) it a nai tis.toArray) he (by rw [el]; exact ⟨hti, p⟩) fun h' eb => ⟨rfl, I.turned (t' := s.toks) (fun b o hb q => eb b o hb q) f0 f1 f3 f4 f5⟩
  self := fun A i s Q E st h => wpAny_pyIter_enum st.1.choose_spec h
def iEnT (K : Frag) (ta : TA) : TI := fun σ H R => ta σ H fun vs H1 => ∃ a xs, vs = [.ref a] ∧ ((SqL K H1 a xs ∧ R (Ite K a) H1) ∨ (SqT K H1 a xs ∧ R (IteT K a) H1))
theorem pi_enT {X : Cx} {e : Expr} {ta : TA} {p pos tpos : Pos} {elts : List Expr} {kk : Nat} (hg : Gl X "enumerate") (hm : X.mg "enumerate" = none) (ha : PA X [e] ta) (hs : starEach [e] X.env = [(false, eval e X.env)] := by rfl) :
    PI X (.Tuple elts kk tpos) (.Call (.Name "enumerate" p) [e] [] pos) (iEnT X.K ta) := by
  refine ⟨fun pns s σ H R I hh => Call_ (ld_blt I hg hm boot_enumerate (PyProof.Rows.callWith_type1 (thn (ha.run pos pns s σ H _ I hh) fun us s1 ⟨vs, H1, J1, r1, q1⟩ => ?_) hs rfl))⟩
  obtain ⟨a, xs, rfl, q1⟩ := q1
  cases r1 with
  | cons r rr =>
    cases rr
    cases r
    have fp : ∀ b ∈ [s1.heap.objs.size + 1, s1.heap.objs.size], FpOk X pns H1 b := fun b hb => by
      have hls : s1.heap.objs.size ≤ b := by
        rcases (show b = s1.heap.objs.size + 1 ∨ b = s1.heap.objs.size by simpa using hb) with z | z <;> omega
      exact J1.fpOk hls (J1.hok.fresh hls)
    rcases q1 with ⟨hq, q⟩ | ⟨hq, q⟩
    · obtain ⟨tis, rv, pl, hz⟩ := J1.list hq
      refine call_enumerate_list pl.isList fun h' he hti hsz hk => wpAny_pyIter_enum he ?_
      exact ⟨s1.heap.objs.size + 1, [s1.heap.objs.size + 1, s1.heap.objs.size], _, _, H1, rfl, J1.kept (t' := s1.toks) hk, turn_enum a (s1.heap.objs.size + 1) s1.heap.objs.size, ⟨⟨.none, he⟩, hti, Nat.succ_ne_self _⟩, fp, q⟩
    · obtain ⟨tis, rv, pt, hz⟩ := J1.tuple hq
      refine en_call (begins_tuple a tis.toArray) pt fun h' he hti hk => wpAny_pyIter_enum he ?_
      exact ⟨s1.heap.objs.size + 1, [s1.heap.objs.size + 1, s1.heap.objs.size], _, _, H1, rfl, J1.kept (t' := s1.toks) hk, turn_enT a (s1.heap.objs.size + 1) s1.heap.objs.size, ⟨⟨.none, he⟩, ⟨_, hti, rfl, rfl⟩, Nat.succ_ne_self _⟩, fp, q⟩
section
variable {F : Fam} {pr : List Nat} {K : Frag} {B : Addr → Prop} {Hf H : Hp} {g g' : Gh} {σ : L2.St}
theorem walkd_enT {a : Addr} {xs : List V} {ds : List Da} (sa : SqT K Hf a xs) (ra : RepAll K Hf xs ds) : WalkD K (IteT K a) Hf (enumD 0 ds) := by
  intro Hf1 H1 e1 e2
  have s1 : SqT K H1 a xs := Evl.ex_t (e1.trans e2) sa
  have l1 := ra.length
  refine ⟨fun i hi => ?_, ⟨xs, s1, by rw [enum_len]; exact l1⟩, fun i d x H2 hd y => ?_⟩
  · rw [enum_len] at hi
    exact ⟨xs, xs[i]'(by omega), s1, by simp [show i < xs.length by omega]⟩
  · obtain ⟨T, u, rfl, hT, rfl, h1⟩ := y
    obtain ⟨dx, k1, rfl⟩ := enum_get hd
    obtain ⟨u', hu, ru⟩ := ra.get k1
    have q1 := h1 xs s1
    rw [hu] at q1
    cases q1
    rw [Nat.zero_add]
    exact new_pair e2 (.int _) (ru.mono e1) hT
/-- enumerate of a list or a tuple -/
def mEnumA (fa : MA) : MI := fun g => (fa g).bind fun a => (toDs a.1 a.2).bind fun r => match r.1 with
  | [.list ds] => some (enumD 0 ds, r.2)
  | [.tuple ds] => some (enumD 0 ds, r.2)
  | _ => none
theorem ei_enumA {a : Expr} {fa : MA} {p pos tpos : Pos} {elts : List Expr} {kk : Nat} (hm : ∀ i, (F.X i).mg "enumerate" = none) (ha : EvA F pr [a] fa) (hg : ∀ i, Gl (F.X i) "enumerate" := by intro _; rfl)
    (hs : ∀ i, starEach [a] (F.X i).env = [(false, eval a (F.X i).env)] := by intro _; rfl) : EvI F pr (.Tuple elts kk tpos) (.Call (.Name "enumerate" p) [a] [] pos) (mEnumA fa) := by
  intro B Hf H g σ ds g' R E eq q
  obtain ⟨⟨ws, g1⟩, e1, eq1⟩ := Option.bind_eq_some_iff.mp eq
  obtain ⟨⟨xs, g2⟩, e2, eq2⟩ := Option.bind_eq_some_iff.mp eq1
  refine ⟨iEnT F.K (UA F [a]), fun i => by have z := pi_enT (hg i) (hm i) (pa_U (F := F) (e := [a]) i) (hs i) (p := p) (pos := pos) (tpos := tpos) (elts := elts) (kk := kk); rw [F.hK i] at z; exact z, ?_⟩
  refine ha B Hf H g σ ws g1 _ E e1 fun vs Hf1 H1 s1 w1 y1 => ?_
  obtain ⟨Hf2, s2, _, r2⟩ := toDs_ok s1 w1 y1 e2
  dsimp only at eq2
  split at eq2
  · cases eq2
    cases r2 with
    | cons r r' =>
      cases r'
      cases r with
      | lst sa ra => exact ⟨_, _, rfl, .inl ⟨Evl.ex_l s2.env.ex sa, q _ Hf2 H1 s2 (walkd_enum sa ra)⟩⟩
  · cases eq2
    cases r2 with
    | cons r r' =>
      cases r'
      cases r with
      | tup sa ra => exact ⟨_, _, rfl, .inr ⟨Evl.ex_t s2.env.ex sa, q _ Hf2 H1 s2 (walkd_enT sa ra)⟩⟩
  · cases eq2
end
end EV
end
section
set_option Elab.async false
set_option linter.all false
set_option maxRecDepth 100000
set_option maxHeartbeats 2000000
set_option autoImplicit false
/-! zip of two, and of three, each a list or a tuple -/
namespace EV
open PySem PySem.Spec PyProof.Rows L2
section
/-- a list (false) or a tuple (true) -/
def SqA (K : Frag) (b : Bool) (H : Hp) (a : Addr) (xs : List V) : Prop := cond b (SqT K H a xs) (SqL K H a xs)
def ItA (b : Bool) (h : Heap) (it a : Addr) (i : Nat) : Prop := cond b (h.IsTupleIter it a i) (h.IsListIter it a i)
def IsA (b : Bool) (h : Heap) (a : Addr) (xs : Array Value) : Prop := cond b (h.IsTuple a xs) (h.IsList a xs)
def obA (b : Bool) (a : Addr) : Obj := cond b { cls := .type "tuple_iterator", data := .fields #[.ref a, .int 0 0] } { cls := .type "list_iterator", data := .fields #[.ref a, .int 0 0] }
theorem draws_A {P : Program} {w : World} {A : Around} (hh : A.handled = none) (b : Bool) (it a : Addr) (ne : a ≠ it) (xs : Array Value) :
    Draws P w A it [it, a] xs.size (fun i v => xs[i]? = some v) (fun i h => ItA b h it a i ∧ IsA b h a xs) := by
  cases b
  · exact Draws.list hh it a ne xs
  · exact Draws.tuple hh it a ne xs
theorem begins_A (b : Bool) (a : Addr) (xs : Array Value) : Begins (.ref a) (obA b a) fun h => IsA b h a xs := by
  cases b
  · exact begins_list a xs
  · exact begins_tuple a xs
theorem SqA.ex {K : Frag} {b : Bool} {H H' : Hp} {a : Addr} {xs : List V} (e : Evl.Ex H H') (h : SqA K b H a xs) : SqA K b H' a xs := by
  cases b
  · exact Evl.ex_l e h
  · exact Evl.ex_t e h
theorem inv_A {X : Cx} {pns : List (Addr × Obj)} {σ : L2.St} {H : Hp} {s : Shared} {b : Bool} {a : Addr} {xs : List V} (I : L2.Inv X pns σ H s) (h : SqA X.K b H a xs) : ∃ its : List Value, Vals xs its ∧ IsA b s.heap a its.toArray ∧ xs.length ≤ sizeLine := by
  cases b
  · obtain ⟨its, rv, pl, hz⟩ := I.list h
    exact ⟨its, rv, pl.isList, hz⟩
  · obtain ⟨its, rv, pt, hz⟩ := I.tuple h
    exact ⟨its, rv, pt, hz⟩
theorem inj_A {X : Cx} {pns : List (Addr × Obj)} {σ : L2.St} {H : Hp} {s : Shared} {b : Bool} {a : Addr} {xs ys : List V} (I : L2.Inv X pns σ H s) (h : SqA X.K b H a xs) (h2 : SqA X.K b H a ys) : xs = ys := by
  cases b
  · exact I.list_inj h h2
  · exact I.tuple_inj h h2
theorem itA_at {b : Bool} {h h' : Heap} {it a : Addr} {i : Nat} (x : ItA b h it a i) (k : ∀ o, h.get? it = some o → h'.get? it = some o) : ItA b h' it a i := by
  cases b
  · exact Heap.IsListIter.at x k
  · exact Heap.IsTupleIter.at x k
theorem itA_get {b : Bool} {h : Heap} {it a : Addr} {i : Nat} (x : ItA b h it a i) : ∃ o, h.get? it = some o ∧ ∀ v, o.data ≠ .cell v := by
  cases b
  · obtain ⟨o, ho, hc, hd⟩ := x
    exact ⟨o, ho, fun v q => by rw [hd] at q; cases q⟩
  · obtain ⟨o, ho, hc, hd⟩ := x
    exact ⟨o, ho, fun v q => by rw [hd] at q; cases q⟩
theorem itA_new {b : Bool} {h : Heap} {it a : Addr} (x : h.get? it = some (obA b a)) : ItA b h it a 0 := by
  cases b
  · exact ⟨_, x, rfl, rfl⟩
  · exact ⟨_, x, rfl, rfl⟩
def Itz2 (K : Frag) (b1 b2 : Bool) (a1 a2 : Addr) : It :=
  ⟨fun i H => ∃ (xs ys : List V) (x y : V), SqA K b1 H a1 xs ∧ SqA K b2 H a2 ys ∧ xs[i]? = some x ∧ ys[i]? = some y,
   fun i H v H' => ∃ T x y, v = .ref T ∧ H T = none ∧ H' = upd H T (.tup [x, y]) ∧ (∀ xs, SqA K b1 H a1 xs → xs[i]? = some x) ∧ (∀ ys, SqA K b2 H a2 ys → ys[i]? = some y),
   fun i H => ∃ xs ys : List V, SqA K b1 H a1 xs ∧ SqA K b2 H a2 ys ∧ min xs.length ys.length = i⟩
theorem turn_z2 {P : Program} {w : World} {K : Frag} {elts : List Expr} {kk : Nat} {tpos : Pos} {b1 b2 : Bool} {a1 a2 z TI TO i1 i2 : Addr} (sep : ZipSep2 z TI TO i1 i2 [i1, a1] [i2, a2]) :
    Turn P w K (.Tuple elts kk tpos) (Itz2 K b1 b2 a1 a2) [z, TI, TO, i1, i2] z (fun i h => IsZip h z TI TO .none ∧ IsTupOf2 h TI (.ref i1) (.ref i2) ∧ (∃ x y, IsTupOf2 h TO x y) ∧ ItA b1 h i1 a1 i ∧ ItA b2 h i2 a2 i) where
  mem := List.mem_cons_self
  obj := fun i h st b hb => by
    obtain ⟨hz, hI, ⟨x, y, hO⟩, h1, h2⟩ := st
    rcases (show b = z ∨ b = TI ∨ b = TO ∨ b = i1 ∨ b = i2 by simpa using hb) with rfl | rfl | rfl | rfl | rfl
    · exact ⟨_, hz, fun v q => nomatch q⟩
    · exact ⟨_, hI, fun v q => nomatch q⟩
    · exact ⟨_, hO, fun v q => nomatch q⟩
    · exact itA_get h1
    · exact itA_get h2
  keep := fun i h h' st k => by
    obtain ⟨hz, hI, ⟨x, y, hO⟩, h1, h2⟩ := st
    exact ⟨k z (by simp) _ hz, k TI (by simp) _ hI, ⟨x, y, k TO (by simp) _ hO⟩, itA_at h1 (k i1 (by simp)), itA_at h2 (k i2 (by simp))⟩
  item := by
    intro X hQ hw hK hcm i pns s σ H E I hf st hg
    subst hQ hw hK
    obtain ⟨hz, hI, ⟨o1, o2, hO⟩, h1, h2⟩ := st
    obtain ⟨xs, ys, x, y, q1, q2, hx, hy⟩ := hg
    obtain ⟨is1, rv1, p1, _⟩ := inv_A I q1
    obtain ⟨is2, rv2, p2, _⟩ := inv_A I q2
    obtain ⟨u1, hu1, ru1⟩ := rv1.get hx
    obtain ⟨u2, hu2, ru2⟩ := rv2.get hy
    have n1 : a1 ≠ i1 := fun e => by
      cases b1
      · obtain ⟨_, c1, c2, _⟩ := h1
        obtain ⟨_, c3, c4, _⟩ := p1
        rw [e, c1] at c3
        cases c3
        rw [c2] at c4
        simp at c4
      · obtain ⟨_, c1, c2, _⟩ := h1
        obtain ⟨_, c3, c4, _⟩ := p1
        rw [e, c1] at c3
        cases c3
        rw [c2] at c4
        simp at c4
    have n2 : a2 ≠ i2 := fun e => by
      cases b2
      · obtain ⟨_, c1, c2, _⟩ := h2
        obtain ⟨_, c3, c4, _⟩ := p2
        rw [e, c1] at c3
        cases c3
        rw [c2] at c4
        simp at c4
      · obtain ⟨_, c1, c2, _⟩ := h2
        obtain ⟨_, c3, c4, _⟩ := p2
        rw [e, c1] at c3
        cases c3
        rw [c2] at c4
        simp at c4
    have lz : z < s.heap.objs.size := Heap.lt_size hz
    have lI : TI < s.heap.objs.size := Heap.lt_size hI
    have lO : TO < s.heap.objs.size := Heap.lt_size hO
    have l1 : i1 < s.heap.objs.size := by obtain ⟨_, q, _⟩ := itA_get h1; exact Heap.lt_size q
    have l2 : i2 < s.heap.objs.size := by obtain ⟨_, q, _⟩ := itA_get h2; exact Heap.lt_size q
    have z1 : i1 ≠ z := fun e => sep.zf1 (by simp [e])
    have z2 : i2 ≠ z := fun e => sep.zf2 (by simp [e])
    have t1 : TI ≠ i1 := sep.TIi1
    have t2 : TI ≠ i2 := sep.TIi2
    refine wpAny_pyNext_zipD2_item sep (draws_A (A := X.A.in1) (I.ok.hd hcm) b1 i1 a1 n1 is1.toArray) (draws_A (A := X.A.in1) (I.ok.hd hcm) b2 i2 a2 n2 is2.toArray) hz hI hO ⟨h1, p1⟩ ⟨h2, p2⟩ (by rw [List.size_toArray]; exact lt_of_get hu1) (by rw [List.size_toArray]; exact lt_of_get hu2) fun y1 y2 h' tk k1 k2 hz' hO' st1 st2 hT hsz hk => ?_
    have e1 : y1 = u1 := by
      have c : is1[i]? = some y1 := by simpa using k1
      rw [hu1] at c
      cases c
      rfl
    have e2 : y2 = u2 := by
      have c : is2[i]? = some y2 := by simpa using k2
      rw [hu2] at c
      cases c
      rfl
    subst e1 e2
    refine ⟨_, rfl, wpAny_letOwnedTupleGo_zip (s := { s with heap := h', toks := tk }) hz' fun h3 hz3 sb => ?_⟩
    have hT3 : h3.get? s.heap.objs.size = some { cls := .type "tuple", data := .seq #[y1, y2] } := (sb.2 _ (Nat.ne_of_gt lz)).trans hT
    have J1 : Inv X pns σ (upd H s.heap.objs.size (.tup [x, y])) { s with heap := h3, toks := tk } :=
      I.turnedNew (ch := [z, TO, i1, i2]) (fun b ob hb q => (sb.2 b (fun c => hb (by simp [c]))).trans (hk b ob (fun c => hb (by simp [c])) (fun c => hb (by simp [c])) (fun c => hb (by simp [c])) (fun c => hb (by simp [c])) q)) (fun b hb => hf b (by
          rcases (show b = z ∨ b = TO ∨ b = i1 ∨ b = i2 by simpa using hb) with rfl | rfl | rfl | rfl <;> simp)) (Nat.le_refl _)
        ⟨by show 2 ≤ sizeLine; decide, [y1, y2], .cons ru1 (.cons ru2 .nil), ⟨_, hT3, rfl, _, rfl⟩⟩
    refine ⟨.ref s.heap.objs.size, _, J1, rfl, ⟨_, x, y, rfl, I.hok.fresh (Nat.le_refl _), rfl, (fun vs hv => by rw [inj_A I hv q1]; exact hx), fun vs hv => by rw [inj_A I hv q2]; exact hy⟩, ⟨hz3, ?_, ⟨y1, y2, (sb.2 TO sep.TOz).trans hO'⟩, itA_at st1.1 fun o q => (sb.2 i1 z1).trans q, itA_at st2.1 fun o q => (sb.2 i2 z2).trans q⟩, fun b hb => ?_⟩
    · exact (sb.2 TI sep.TIz).trans (hk TI _ sep.TIz sep.TITO t1 t2 hI)
    · have hb2 : b < s.heap.objs.size := by
        rcases (show b = z ∨ b = TI ∨ b = TO ∨ b = i1 ∨ b = i2 by simpa using hb) with rfl | rfl | rfl | rfl | rfl <;> assumption
      rw [upd_ne (Nat.ne_of_lt hb2)]
      exact (hf b hb).1
  done := by
    intro X hQ hw hK hcm i pns s σ H E I hf st hg
    subst hQ hw hK
    obtain ⟨hz, hI, ⟨o1, o2, hO⟩, h1, h2⟩ := st
    obtain ⟨xs, ys, q1, q2, hm⟩ := hg
    obtain ⟨is1, rv1, p1, _⟩ := inv_A I q1
    obtain ⟨is2, rv2, p2, _⟩ := inv_A I q2
    have n1 : a1 ≠ i1 := fun e => by
      cases b1
      · obtain ⟨_, c1, c2, _⟩ := h1
        obtain ⟨_, c3, c4, _⟩ := p1
        rw [e, c1] at c3
        cases c3
        rw [c2] at c4
        simp at c4
      · obtain ⟨_, c1, c2, _⟩ := h1
        obtain ⟨_, c3, c4, _⟩ := p1
        rw [e, c1] at c3
        cases c3
        rw [c2] at c4
        simp at c4
    have n2 : a2 ≠ i2 := fun e => by
      cases b2
      · obtain ⟨_, c1, c2, _⟩ := h2
        obtain ⟨_, c3, c4, _⟩ := p2
        rw [e, c1] at c3
        cases c3
        rw [c2] at c4
        simp at c4
      · obtain ⟨_, c1, c2, _⟩ := h2
        obtain ⟨_, c3, c4, _⟩ := p2
        rw [e, c1] at c3
        cases c3
        rw [c2] at c4
        simp at c4
    have e1 := rv1.length
    have e2 := rv2.length
    refine wpAny_pyNext_zipD2_end sep (draws_A (A := X.A.in1) (I.ok.hd hcm) b1 i1 a1 n1 is1.toArray) (draws_A (A := X.A.in1) (I.ok.hd hcm) b2 i2 a2 n2 is2.toArray) hz hI hO ⟨h1, p1⟩ ⟨h2, p2⟩ (by rw [List.size_toArray]; omega) (by rw [List.size_toArray]; omega) (by rw [List.size_toArray, List.size_toArray]; omega) fun h' tk hk => ⟨rfl, I.turnedL (ch := [z, TO, i1, i2]) (fun b o hb q => hk b o (fun c => hb (by simp [c])) (fun c => hb (by simp [c])) (fun c => hb (by simp [c])) (fun c => hb (by simp [c])) q) (fun b hb => hf b (by
          rcases (show b = z ∨ b = TO ∨ b = i1 ∨ b = i2 by simpa using hb) with rfl | rfl | rfl | rfl <;> simp))⟩
  self := fun A i s Q E st h => wpAny_pyIter_zip st.1 h
end
end EV
namespace EV
open PySem PySem.Spec PyProof.Rows L2
section
theorem isA_lt {b : Bool} {h : Heap} {a : Addr} {xs : Array Value} (x : IsA b h a xs) : a < h.objs.size := by
  cases b
  · obtain ⟨_, q, _⟩ := x
    exact Heap.lt_size q
  · obtain ⟨_, q, _⟩ := x
    exact Heap.lt_size q
def iZ2 (K : Frag) (ta : TA) : TI := fun σ H R => ta σ H fun vs H1 => ∃ (b1 b2 : Bool) (a1 a2 : Addr) (xs ys : List V), vs = [.ref a1, .ref a2] ∧ SqA K b1 H1 a1 xs ∧ SqA K b2 H1 a2 ys ∧ R (Itz2 K b1 b2 a1 a2) H1
theorem pi_z2 {X : Cx} {e e2 : Expr} {ta : TA} {p pos tpos : Pos} {elts : List Expr} {kk : Nat} (hg : Gl X "zip") (hm : X.mg "zip" = none) (ha : PA X [e, e2] ta)
    (hs : starEach [e, e2] X.env = (false, eval e X.env) :: starEach [e2] X.env) (hpl : (backTo pos (starEach [e2] X.env)).any (·.1) = false) :
    PI X (.Tuple elts kk tpos) (.Call (.Name "zip" p) [e, e2] [] pos) (iZ2 X.K ta) := by
  refine ⟨fun pns s σ H R I hh => Call_ (ld_blt I hg hm boot_zip (PyProof.Rows.callWith_type1 (thn (ha.run pos pns s σ H _ I hh) fun us s1 ⟨vs, H1, J1, r1, q1⟩ => ?_) hs hpl))⟩
  obtain ⟨b1, b2, a1, a2, xs, ys, rfl, s1', s2', q⟩ := q1
  cases r1 with
  | cons r rr =>
    cases rr with
    | cons r' rr' =>
      cases rr'
      cases r
      cases r'
      obtain ⟨is1, rv1, p1, _⟩ := inv_A J1 s1'
      obtain ⟨is2, rv2, p2, _⟩ := inv_A J1 s2'
      have m1 := isA_lt p1
      have m2 := isA_lt p2
      refine zip_begins2 (begins_A b1 a1 is1.toArray) (begins_A b2 a2 is2.toArray) p1 p2 fun h' hz hI hO ho1 ho2 hsz hk => wpAny_pyIter_zip hz ?_
      have fp : ∀ b ∈ [s1.heap.objs.size + 4, s1.heap.objs.size + 2, s1.heap.objs.size + 3, s1.heap.objs.size, s1.heap.objs.size + 1], FpOk X pns H1 b := fun b hb => by
        have hls : s1.heap.objs.size ≤ b := by
          rcases (show b = s1.heap.objs.size + 4 ∨ b = s1.heap.objs.size + 2 ∨ b = s1.heap.objs.size + 3 ∨ b = s1.heap.objs.size ∨ b = s1.heap.objs.size + 1 by simpa using hb) with z | z | z | z | z <;> omega
        exact J1.fpOk hls (J1.hok.fresh hls)
      exact ⟨s1.heap.objs.size + 4, [s1.heap.objs.size + 4, s1.heap.objs.size + 2, s1.heap.objs.size + 3, s1.heap.objs.size, s1.heap.objs.size + 1], _, _, H1, rfl, J1.kept (t' := s1.toks) hk, turn_z2 (zip_sep2 (by simpa using m1) (by simpa using m2)), ⟨hz, hI, ⟨_, _, hO⟩, itA_new ho1, itA_new ho2⟩, fp, q⟩
end
section
variable {F : Fam} {pr : List Nat} {K : Frag} {B : Addr → Prop} {Hf H Hf1 H1 : Hp} {g g' : Gh} {σ : L2.St}
theorem rep_seq {v : V} {d : Da} {ds : List Da} (r : Rep K Hf v d) (h : itemsD d = some ds) : ∃ (b : Bool) (a : Addr) (xs : List V), v = .ref a ∧ SqA K b Hf a xs ∧ RepAll K Hf xs ds := by
  cases r with
  | lst sa ra => cases h; exact ⟨false, _, _, rfl, sa, ra⟩
  | tup sa ra => cases h; exact ⟨true, _, _, rfl, sa, ra⟩
  | _ => cases h
theorem walkd_z2 {b1 b2 : Bool} {a b : Addr} {xs ys : List V} {ds es : List Da} (sa : SqA K b1 Hf a xs) (sb : SqA K b2 Hf b ys) (ra : RepAll K Hf xs ds) (rb : RepAll K Hf ys es) : WalkD K (Itz2 K b1 b2 a b) Hf (zipD ds es) := by
  intro Hf1 H1 e1 e2
  have s1 : SqA K b1 H1 a xs := sa.ex (e1.trans e2)
  have s2 : SqA K b2 H1 b ys := sb.ex (e1.trans e2)
  have l1 := ra.length
  have l2 := rb.length
  refine ⟨fun i hi => ?_, ⟨xs, ys, s1, s2, ?_⟩, fun i d x H2 hd y => ?_⟩
  · rw [zip_len] at hi
    exact ⟨xs, ys, xs[i]'(by omega), ys[i]'(by omega), s1, s2, by simp [show i < xs.length by omega], by simp [show i < ys.length by omega]⟩
  · rw [zip_len]; omega
  · obtain ⟨T, u, v, rfl, hT, rfl, h1, h2⟩ := y
    obtain ⟨dx, dy, k1, k2, rfl⟩ := zip_get hd
    obtain ⟨u', hu, ru⟩ := ra.get k1
    obtain ⟨v', hv, rv⟩ := rb.get k2
    have q1 := h1 xs s1
    have q2 := h2 ys s2
    rw [hu] at q1; cases q1
    rw [hv] at q2; cases q2
    exact new_pair e2 (ru.mono e1) (rv.mono e1) hT
/-- zip of two, each a list or a tuple -/
def mZipA (fa : MA) : MI := fun g => (fa g).bind fun a => (toDs a.1 a.2).bind fun r => match r.1 with
  | [x, y] => (itemsD x).bind fun ds => (itemsD y).bind fun es => some (zipD ds es, r.2)
  | _ => none
theorem ei_zipA {a b : Expr} {fa : MA} {p pos tpos : Pos} {elts : List Expr} {kk : Nat} (hm : ∀ i, (F.X i).mg "zip" = none) (ha : EvA F pr [a, b] fa) (hg : ∀ i, Gl (F.X i) "zip" := by intro _; rfl)
    (hs : ∀ i, starEach [a, b] (F.X i).env = (false, eval a (F.X i).env) :: starEach [b] (F.X i).env := by intro _; rfl) (hpl : ∀ i, (backTo pos (starEach [b] (F.X i).env)).any (·.1) = false := by intro _; rfl) :
    EvI F pr (.Tuple elts kk tpos) (.Call (.Name "zip" p) [a, b] [] pos) (mZipA fa) := by
  intro B Hf H g σ ds g' R E eq q
  obtain ⟨⟨ws, g1⟩, e1, eq1⟩ := Option.bind_eq_some_iff.mp eq
  obtain ⟨⟨xs, g2⟩, e2, eq2⟩ := Option.bind_eq_some_iff.mp eq1
  refine ⟨iZ2 F.K (UA F [a, b]), fun i => by have z := pi_z2 (hg i) (hm i) (pa_U (F := F) (e := [a, b]) i) (hs i) (hpl i) (p := p) (tpos := tpos) (elts := elts) (kk := kk); rw [F.hK i] at z; exact z, ?_⟩
  refine ha B Hf H g σ ws g1 _ E e1 fun vs Hf1 H1 s1 w1 y1 => ?_
  obtain ⟨Hf2, s2, _, r2⟩ := toDs_ok s1 w1 y1 e2
  dsimp only at eq2
  split at eq2
  · obtain ⟨d1, i1, eq3⟩ := Option.bind_eq_some_iff.mp eq2
    obtain ⟨d2, i2, eq4⟩ := Option.bind_eq_some_iff.mp eq3
    cases eq4
    cases r2 with
    | cons r r' =>
      cases r' with
      | cons r' r'' =>
        cases r''
        obtain ⟨b1, a1, x1, rfl, sa, ra⟩ := rep_seq r i1
        obtain ⟨b2, a2, x2, rfl, sb, rb⟩ := rep_seq r' i2
        exact ⟨b1, b2, a1, a2, x1, x2, rfl, sa.ex s2.env.ex, sb.ex s2.env.ex, q _ Hf2 H1 s2 (walkd_z2 sa sb ra rb)⟩
  · cases eq2
end
end EV
namespace EV
open PySem PySem.Spec PyProof.Rows L2
section
variable {F : Fam} {pr : List Nat} {K : Frag} {B : Addr → Prop} {Hf H Hf1 H1 : Hp} {g g' : Gh} {σ : L2.St}
/-- triples -/
def zipD3 : List Da → List Da → List Da → List Da
  | d :: ds, e :: es, f :: fs => .tuple [d, e, f] :: zipD3 ds es fs
  | _, _, _ => []
/-- zip of three, each a list or a tuple -/
def mZip3 (fa : MA) : MI := fun g => (fa g).bind fun a => (toDs a.1 a.2).bind fun r => match r.1 with
  | [x, y, z] => (itemsD x).bind fun ds => (itemsD y).bind fun es => (itemsD z).bind fun fs => some (zipD3 ds es fs, r.2)
  | _ => none
end
end EV
end
section
set_option Elab.async false
set_option linter.all false
set_option autoImplicit false
namespace Lib
open PySem PySem.Spec PyProof.Rows L2 EV
def m_is_integer : MS :=
    (sRet [] (mAndV (mIsi "int" (mName 0)) (mAndV (mBin (dIs true) (mName 0) (mC (.bool true))) (mAndV (mBin (dIs true) (mName 0) (mC (.bool false))) (mOfT (mChain dLe dLe (mName 1) (mName 0) (mName 2)))))))
def F_is_integer : MF := bodyM [] 0 m_is_integer
def m_is_field : MS :=
    (sSeq (sIf (mNot (mTru (mFn F_is_integer (mCons (mName 0) (mCons (mC (.int 5)) (mCons (mC (.int 997)) mNil)))))) (sRet [] (mC (.bool false))) sNil)
    (sSeq (sFor (mIt (mC (.tuple [(.int 2), (.int 3), (.int 5), (.int 7), (.int 11), (.int 13), (.int 17), (.int 19), (.int 23), (.int 29), (.int 31)]))) (setN 1) (sIf (mCmp dEq (mBin dMod (mName 0) (mName 1)) (mC (.int 0))) (sRet [] (mBin dEq (mName 0) (mName 1))) sNil))
    (sRet [] (mC (.bool true)))))
def F_is_field : MF := bodyM [] 1 m_is_field
def m_check_field : MS :=
    (sIf (mNot (mTru (mFn F_is_field (mCons (mName 0) mNil)))) sNo sNil)
def F_check_field : MF := bodyM [] 0 m_check_field
def m_check_integer : MS :=
    (sIf (mNot (mTru (mFn F_is_integer (mCons (mName 0) (mCons (mName 1) (mCons (mName 2) mNil)))))) sNo sNil)
def F_check_integer : MF := bodyM [] 0 m_check_integer
def m_check_number : MS :=
    (sDrop (mFn F_check_integer (mCons (mName 1) (mCons (mC (.int 0)) (mCons (mBin dSub (mName 0) (mC (.int 1))) mNil)))))
def F_check_number : MF := bodyM [] 0 m_check_number
def m_raised : MS :=
    (sSeq (sSet 3 (mC (.int 1)))
    (sSeq (sSet 4 (mBin dMod (mName 1) (mName 0)))
    (sSeq (sSet 5 (mName 2))
    (sSeq (sWhile EV.fuel (mCmp dGt (mName 5) (mC (.int 0))) (sSeq (sIf (mCmp dEq (mBin dMod (mName 5) (mC (.int 2))) (mC (.int 1))) (sSet 3 (mBin dMod (mBin dMul (mName 3) (mName 4)) (mName 0))) sNil)
    (sSeq (sSet 4 (mBin dMod (mBin dMul (mName 4) (mName 4)) (mName 0)))
    (sSet 5 (mBin dFdiv (mName 5) (mC (.int 2)))))))
    (sRet [] (mName 3))))))
def F_raised : MF := bodyM [] 3 m_raised
def m_inverse : MS :=
    (sRet [] (mFn F_raised (mCons (mName 0) (mCons (mName 1) (mCons (mBin dSub (mName 0) (mC (.int 2))) mNil)))))
def F_inverse : MF := bodyM [] 0 m_inverse
def m__law_dice : MS :=
    (sSeq (sSet 2 (mIf (mCmp dLt (mName 1) (mCall dLen (mCons (mName 0) mNil))) (mCall dInt (mCons (mIx (mName 0) (mName 1)) mNil)) (mBin dAdd (mBin dMul (mC (.int 103)) (mName 1)) (mC (.int 67)))))
    (sSeq (sSet 3 (mBin dMod (mCall dMax (mCons (mC (.int 0)) (mCons (mBin dSub (mCall dAbs (mCons (mName 2) mNil)) (mBin dPow (mC (.int 10)) (mC (.int 16)))) mNil))) (mBin dMul (mBin dPow (mC (.int 10)) (mC (.int 57))) (mBin dPow (mC (.int 10)) (mC (.int 60))))))
    (sRet [] (mLst (mCons (mName 3) (mCons (mBin dAdd (mBin dAdd (mBin dAdd (mBin dMul (mBin dMod (mCall dAbs (mCons (mName 2) mNil)) (mC (.int 1152921504606846733))) (mC (.int 97))) (mBin dMul (mC (.int 1013)) (mName 1))) (mBin dMul (mC (.int 53)) (mCall dInt (mCons (mBin dLt (mName 2) (mC (.int 0))) mNil)))) (mC (.int 41))) (mCons (mC (.int 0)) mNil)))))))
def F__law_dice : MF := bodyM [] 2 m__law_dice
def m__law_roll : MS :=
    (sSeq (sIf (mCmp dGt (mIx (mName 0) (mC (.int 0))) (mC (.int 0))) (sSeq (sSet 2 (mBin dMod (mCall dInt (mCons (mIx (mName 0) (mC (.int 0))) mNil)) (mName 1)))
    (sSeq (sSetIx 0 (mBin dFdiv (mIx (mName 0) (mC (.int 0))) (mName 1)) (mC (.int 0)))
    (sRet [0] (mName 2)))) sNil)
    (sSeq (sSetIx 0 (mBin dAdd (mIx (mName 0) (mC (.int 2))) (mC (.int 1))) (mC (.int 2)))
    (sSeq (sSet 3 (mBin dMod (mCall dInt (mCons (mBin dAdd (mIx (mName 0) (mC (.int 1))) (mBin dMul (mC (.int 86028157)) (mIx (mName 0) (mC (.int 2))))) mNil)) (mC (.int 2305843009213693487))))
    (sSeq (sSet 4 (mBin dAdd (mBin dMul (mBin dMod (mCall dInt (mCons (mBin dAdd (mBin dMul (mName 3) (mName 3)) (mBin dMul (mC (.int 101)) (mIx (mName 0) (mC (.int 2))))) mNil)) (mC (.int 2305843009213693669))) (mC (.int 6700417))) (mName 3)))
    (sRet [0] (mBin dMod (mCall dInt (mCons (mBin dFdiv (mName 4) (mC (.int 65537))) mNil)) (mName 1)))))))
def F__law_roll : MF := bodyM [0] 3 m__law_roll
def m__law_pick : MS :=
    (sRet [0] (mIx (mName 1) (mFnD F__law_roll (mCons (mName 0) (mCons (mCall dLen (mCons (mName 1) mNil)) mNil)))))
def F__law_pick : MF := bodyM [0] 0 m__law_pick
def m_are_numbers : MS :=
    (sSeq (sIf (mNot (mTru (mIsi "tuple" (mName 1)))) (sRet [] (mC (.bool false))) sNil)
    (sSeq (sFor (mIt (mName 1)) (setN 2) (sIf (mOr (mNot (mTru (mIsi "int" (mName 2)))) (mOr (mCmp (dIs false) (mName 2) (mC (.bool true))) (mOr (mCmp (dIs false) (mName 2) (mC (.bool false))) (mNot (mChain dLe dLt (mC (.int 0)) (mName 2) (mName 0)))))) (sRet [] (mC (.bool false))) sNil))
    (sRet [] (mC (.bool true)))))
def F_are_numbers : MF := bodyM [] 1 m_are_numbers
def m_is_poly : MS :=
    (sSeq (sDrop (mFn Lib.F_check_field (mCons (mName 0) mNil)))
    (sSeq (sIf (mOr (mNot (mTru (mFn F_are_numbers (mCons (mName 0) (mCons (mName 1) mNil))))) (mCmp dGt (mCall dLen (mCons (mName 1) mNil)) (mBin dAdd (mC (.int 60)) (mC (.int 1))))) (sRet [] (mC (.bool false))) sNil)
    (sRet [] (mOrV (mBin dEq (mName 1) (mTup mNil)) (mBin dNe (mIx (mName 1) (mNeg (mC (.int 1)))) (mC (.int 0)))))))
def F_is_poly : MF := bodyM [] 0 m_is_poly
def m_are_unlike : MS :=
    (sRet [] (mAndV (mFn F_are_numbers (mCons (mName 0) (mCons (mName 1) mNil))) (mAndV (mBin dLe (mCall dLen (mCons (mName 1) mNil)) (mC (.int 60))) (mBin dEq (mLenSet (mName 1)) (mCall dLen (mCons (mName 1) mNil))))))
def F_are_unlike : MF := bodyM [] 0 m_are_unlike
def m_check_poly : MS :=
    (sIf (mNot (mTru (mFn F_is_poly (mCons (mName 0) (mCons (mName 1) mNil))))) sNo sNil)
def F_check_poly : MF := bodyM [] 0 m_check_poly
def m_check_places : MS :=
    (sIf (mOr (mNot (mTru (mFn F_are_unlike (mCons (mName 0) (mCons (mName 1) mNil))))) (mNot (mTru (mName 1)))) sNo sNil)
def F_check_places : MF := bodyM [] 0 m_check_places
def m_trimmed : MS :=
    (sSeq (sSet 1 (mCall dLen (mCons (mName 0) mNil)))
    (sSeq (sWhile EV.fuel (mAnd (mCmp dGt (mName 1) (mC (.int 0))) (mCmp dEq (mIx (mName 0) (mBin dSub (mName 1) (mC (.int 1)))) (mC (.int 0)))) (sAug 1 (fun i j => i - j) (mC (.int 1))))
    (sRet [] (mCall dTuple (mCons (mSl (mName 0) mO0 (mO1 (mName 1))) mNil)))))
def F_trimmed : MF := bodyM [] 1 m_trimmed
def m_padded : MS :=
    (sRet [] (mBin dAdd (mCall dTuple (mCons (mName 0) mNil)) (mBin dMulT (mTup (mCons (mC (.int 0)) mNil)) (mBin dSub (mName 1) (mCall dLen (mCons (mName 0) mNil))))))
def F_padded : MF := bodyM [] 0 m_padded
def m_scaled : MS :=
    (sRet [] (mComp [3] (mIt (mName 1)) (setN 3) mYes (mBin dMod (mBin dMul (mName 2) (mName 3)) (mName 0))))
def F_scaled : MF := bodyM [] 1 m_scaled
def m_added : MS :=
    (sSeq (sSet 3 (mCall dMax (mCons (mCall dLen (mCons (mName 1) mNil)) (mCons (mCall dLen (mCons (mName 2) mNil)) mNil))))
    (sRet [] (mFn F_trimmed (mCons (mComp [4, 5] (mZipA (mCons (mFn F_padded (mCons (mName 1) (mCons (mName 3) mNil))) (mCons (mFn F_padded (mCons (mName 2) (mCons (mName 3) mNil))) mNil))) (setT [4, 5]) mYes (mBin dMod (mBin dAdd (mName 4) (mName 5)) (mName 0))) mNil))))
def F_added : MF := bodyM [] 3 m_added
def m_multiplied : MS :=
    (sSeq (sIf (mOr (mNot (mTru (mName 1))) (mNot (mTru (mName 2)))) (sRet [] (mTup mNil)) sNil)
    (sSeq (sSet 3 (mRepL (mLst (mCons (mC (.int 0)) mNil)) (mBin dSub (mBin dAdd (mCall dLen (mCons (mName 1) mNil)) (mCall dLen (mCons (mName 2) mNil))) (mC (.int 1)))))
    (sSeq (sFor (mRg1 (mCons (mCall dLen (mCons (mName 1) mNil)) mNil)) (setN 4) (sFor (mRg1 (mCons (mCall dLen (mCons (mName 2) mNil)) mNil)) (setN 5) (sSetIx 3 (mBin dMod (mBin dAdd (mIx (mName 3) (mBin dAdd (mName 4) (mName 5))) (mBin dMul (mIx (mName 1) (mName 4)) (mIx (mName 2) (mName 5)))) (mName 0)) (mBin dAdd (mName 4) (mName 5)))))
    (sRet [] (mCall dTuple (mCons (mName 3) mNil))))))
def F_multiplied : MF := bodyM [] 3 m_multiplied
def m_evaluated : MS :=
    (sSeq (sSet 3 (mC (.int 0)))
    (sSeq (sFor (mRevI (mName 1)) (setN 4) (sSet 3 (mBin dMod (mBin dAdd (mBin dMul (mName 3) (mName 2)) (mName 4)) (mName 0))))
    (sRet [] (mName 3))))
def F_evaluated : MF := bodyM [] 2 m_evaluated
def m_poly_sum : MS :=
    (sSeq (sDrop (mFn Lib.F_check_field (mCons (mName 0) mNil)))
    (sSeq (sDrop (mFn F_check_poly (mCons (mName 0) (mCons (mName 1) mNil))))
    (sSeq (sDrop (mFn F_check_poly (mCons (mName 0) (mCons (mName 2) mNil))))
    (sRet [] (mFn F_added (mCons (mName 0) (mCons (mName 1) (mCons (mName 2) mNil))))))))
def F_poly_sum : MF := bodyM [] 0 m_poly_sum
def m_poly_scaled : MS :=
    (sSeq (sDrop (mFn Lib.F_check_field (mCons (mName 0) mNil)))
    (sSeq (sDrop (mFn F_check_poly (mCons (mName 0) (mCons (mName 1) mNil))))
    (sSeq (sDrop (mFn Lib.F_check_number (mCons (mName 0) (mCons (mName 2) mNil))))
    (sRet [] (mFn F_trimmed (mCons (mFn F_scaled (mCons (mName 0) (mCons (mName 1) (mCons (mName 2) mNil)))) mNil))))))
def F_poly_scaled : MF := bodyM [] 0 m_poly_scaled
def m_poly_product : MS :=
    (sSeq (sDrop (mFn Lib.F_check_field (mCons (mName 0) mNil)))
    (sSeq (sDrop (mFn F_check_poly (mCons (mName 0) (mCons (mName 1) mNil))))
    (sSeq (sDrop (mFn F_check_poly (mCons (mName 0) (mCons (mName 2) mNil))))
    (sSeq (sIf (mCmp dGt (mBin dSub (mBin dAdd (mCall dLen (mCons (mName 1) mNil)) (mCall dLen (mCons (mName 2) mNil))) (mC (.int 2))) (mC (.int 60))) sNo sNil)
    (sRet [] (mFn F_multiplied (mCons (mName 0) (mCons (mName 1) (mCons (mName 2) mNil)))))))))
def F_poly_product : MF := bodyM [] 0 m_poly_product
def m_poly_divided : MS :=
    (sSeq (sDrop (mFn Lib.F_check_field (mCons (mName 0) mNil)))
    (sSeq (sDrop (mFn F_check_poly (mCons (mName 0) (mCons (mName 1) mNil))))
    (sSeq (sDrop (mFn F_check_poly (mCons (mName 0) (mCons (mName 2) mNil))))
    (sSeq (sIf (mCmp dEq (mName 2) (mTup mNil)) sNo sNil)
    (sSeq (sSet 3 (mCall dList (mCons (mName 1) mNil)))
    (sSeq (sSet 4 (mRepL (mLst (mCons (mC (.int 0)) mNil)) (mCall dMax (mCons (mBin dAdd (mBin dSub (mCall dLen (mCons (mName 1) mNil)) (mCall dLen (mCons (mName 2) mNil))) (mC (.int 1))) (mCons (mC (.int 0)) mNil)))))
    (sSeq (sSet 5 (mFn Lib.F_inverse (mCons (mName 0) (mCons (mIx (mName 2) (mNeg (mC (.int 1)))) mNil))))
    (sSeq (sFor (mRevR (mRr1 (mCall dLen (mCons (mName 4) mNil)))) (setN 6) (sSeq (sSet 7 (mBin dMod (mBin dMul (mIx (mName 3) (mBin dSub (mBin dAdd (mName 6) (mCall dLen (mCons (mName 2) mNil))) (mC (.int 1)))) (mName 5)) (mName 0)))
    (sSeq (sSetIx 4 (mName 7) (mName 6))
    (sFor (mRg1 (mCons (mCall dLen (mCons (mName 2) mNil)) mNil)) (setN 8) (sSetIx 3 (mBin dMod (mBin dSub (mIx (mName 3) (mBin dAdd (mName 6) (mName 8))) (mBin dMul (mName 7) (mIx (mName 2) (mName 8)))) (mName 0)) (mBin dAdd (mName 6) (mName 8)))))))
    (sRet [] (mTup (mCons (mFn F_trimmed (mCons (mName 4) mNil)) (mCons (mFn F_trimmed (mCons (mName 3) mNil)) mNil))))))))))))
def F_poly_divided : MF := bodyM [] 6 m_poly_divided
def m_value_at : MS :=
    (sSeq (sDrop (mFn Lib.F_check_field (mCons (mName 0) mNil)))
    (sSeq (sDrop (mFn F_check_poly (mCons (mName 0) (mCons (mName 1) mNil))))
    (sSeq (sDrop (mFn Lib.F_check_number (mCons (mName 0) (mCons (mName 2) mNil))))
    (sRet [] (mFn F_evaluated (mCons (mName 0) (mCons (mName 1) (mCons (mName 2) mNil))))))))
def F_value_at : MF := bodyM [] 0 m_value_at
def m_values_at : MS :=
    (sSeq (sDrop (mFn Lib.F_check_field (mCons (mName 0) mNil)))
    (sSeq (sDrop (mFn F_check_poly (mCons (mName 0) (mCons (mName 1) mNil))))
    (sSeq (sDrop (mFn F_check_places (mCons (mName 0) (mCons (mName 2) mNil))))
    (sRet [] (mCall dTuple (mCons (mComp [3] (mIt (mName 2)) (setN 3) mYes (mFn F_evaluated (mCons (mName 0) (mCons (mName 1) (mCons (mName 3) mNil))))) mNil))))))
def F_values_at : MF := bodyM [] 1 m_values_at
def m__law_po_trim : MS :=
    (sSeq (sSet 1 (mCall dList (mCons (mName 0) mNil)))
    (sSeq (sWhile EV.fuel (mAnd (mCmp dNe (mName 1) (mLst mNil)) (mCmp dEq (mIx (mName 1) (mNeg (mC (.int 1)))) (mC (.int 0)))) (sDrop (mPop 1)))
    (sRet [] (mCall dTuple (mCons (mName 1) mNil)))))
def F__law_po_trim : MF := bodyM [] 1 m__law_po_trim
def m__law_po_sum : MS :=
    (sSeq (sSet 3 (mRepL (mLst (mCons (mC (.int 0)) mNil)) (mCall dMax (mCons (mCall dLen (mCons (mName 1) mNil)) (mCons (mCall dLen (mCons (mName 2) mNil)) mNil)))))
    (sSeq (sFor (mEnumA (mCons (mName 1) mNil)) (setT [4, 5]) (sSetIx 3 (mName 5) (mName 4)))
    (sSeq (sFor (mEnumA (mCons (mName 2) mNil)) (setT [4, 5]) (sSetIx 3 (mBin dMod (mCall dInt (mCons (mBin dAdd (mIx (mName 3) (mName 4)) (mName 5)) mNil)) (mName 0)) (mName 4)))
    (sRet [] (mFn F__law_po_trim (mCons (mName 3) mNil))))))
def F__law_po_sum : MF := bodyM [] 3 m__law_po_sum
def m__law_po_scaled : MS :=
    (sRet [] (mFn F__law_po_trim (mCons (mComp [3] (mIt (mName 1)) (setN 3) mYes (mBin dMod (mCall dInt (mCons (mBin dMul (mName 3) (mName 2)) mNil)) (mName 0))) mNil)))
def F__law_po_scaled : MF := bodyM [] 1 m__law_po_scaled
def m__law_po_times : MS :=
    (sSeq (sSet 3 (mRepL (mLst (mCons (mC (.int 0)) mNil)) (mBin dAdd (mCall dLen (mCons (mName 1) mNil)) (mCall dLen (mCons (mName 2) mNil)))))
    (sSeq (sFor (mEnumA (mCons (mName 1) mNil)) (setT [4, 5]) (sFor (mEnumA (mCons (mName 2) mNil)) (setT [6, 7]) (sSetIx 3 (mBin dMod (mCall dInt (mCons (mBin dAdd (mIx (mName 3) (mBin dAdd (mName 4) (mName 6))) (mBin dMul (mName 5) (mName 7))) mNil)) (mName 0)) (mBin dAdd (mName 4) (mName 6)))))
    (sRet [] (mFn F__law_po_trim (mCons (mName 3) mNil)))))
def F__law_po_times : MF := bodyM [] 5 m__law_po_times
def m__law_po_value : MS :=
    (sSeq (sPar [3, 4] (mCons (mC (.int 0)) (mCons (mC (.int 1)) mNil)))
    (sSeq (sFor (mIt (mName 1)) (setN 5) (sPar [3, 4] (mCons (mBin dMod (mCall dInt (mCons (mBin dAdd (mName 3) (mBin dMul (mName 5) (mName 4))) mNil)) (mName 0)) (mCons (mBin dMod (mCall dInt (mCons (mBin dMul (mName 4) (mName 2)) mNil)) (mName 0)) mNil))))
    (sRet [] (mName 3))))
def F__law_po_value : MF := bodyM [] 3 m__law_po_value
def m__law_po_drawn : MS :=
    (sRet [0] (mFn F__law_po_trim (mCons (mComp [3] (mRg1 (mCons (mFnD Lib.F__law_roll (mCons (mName 0) (mCons (mBin dAdd (mName 2) (mC (.int 1))) mNil))) mNil)) (setN 3) mYes (mFnD Lib.F__law_pick (mCons (mName 0) (mCons (mLst (mCons (mFnD Lib.F__law_roll (mCons (mName 0) (mCons (mName 1) mNil))) (mCons (mFnD Lib.F__law_roll (mCons (mName 0) (mCons (mName 1) mNil))) (mCons (mC (.int 0)) (mCons (mC (.int 1)) (mCons (mBin dSub (mName 1) (mC (.int 1))) mNil)))))) mNil)))) mNil)))
def F__law_po_drawn : MF := bodyM [0] 1 m__law_po_drawn
def m__law_po_places : MS :=
    (sSeq (sSet 4 (mLst mNil))
    (sSeq (sFor (mRg1 (mCons (mBin dMul (mName 2) (mC (.int 3))) mNil)) (setN 5) (sSeq (sSet 6 (mBin dAdd (mName 3) (mFnD Lib.F__law_roll (mCons (mName 0) (mCons (mBin dSub (mName 1) (mName 3)) mNil)))))
    (sIf (mAnd (mCmp (dIn true) (mName 6) (mName 4)) (mCmp dLt (mCall dLen (mCons (mName 4) mNil)) (mName 2))) (sApp 4 (mName 6)) sNil)))
    (sRet [0] (mIf (mCmp dNe (mName 4) (mLst mNil)) (mCall dTuple (mCons (mName 4) mNil)) (mTup (mCons (mName 3) mNil))))))
def F__law_po_places : MF := bodyM [0] 3 m__law_po_places
def m__law_po_field : MS :=
    (sRet [0] (mFnD Lib.F__law_pick (mCons (mName 0) (mCons (mLst (mCons (mC (.int 5)) (mCons (mC (.int 7)) (mCons (mC (.int 11)) (mCons (mC (.int 13)) (mCons (mC (.int 17)) (mCons (mC (.int 31)) (mCons (mC (.int 101)) (mCons (mC (.int 499)) (mCons (mC (.int 991)) (mCons (mC (.int 997)) mNil))))))))))) mNil))))
def F__law_po_field : MF := bodyM [0] 0 m__law_po_field
end Lib
end
section
set_option Elab.async false
set_option linter.all false
set_option maxRecDepth 100000
set_option maxHeartbeats 2000000
set_option autoImplicit false
/-! list(zip(..)): zip whose last tuple is out and kept -/
namespace EV
open PySem PySem.Spec
section
variable {P : Program} {w : World} {A : Around} {E : Value → Shared → Prop} {s : Shared} {z TI TO T i1 i2 : Addr} {fp1 fp2 : List Addr} {n1 n2 i : Nat} {P1 P2 : Nat → Value → Prop} {St1 St2 : Nat → Heap → Prop} {f : Bool} {oT : Obj}
/-- the cell of a zip when the tuple that it gave last is still held -/
abbrev ZOut (h : Heap) (z TI TO T : Addr) (f : Bool) : Prop := h.get? z = some { cls := .type "zip", dict := none, data := .fields #[rawInt T, .bool f, .bool false, .ref TI, .ref TO], slots := #[] }
/-- the cell of a zip: its tuple is free, or out and held -/
def ZSt (h : Heap) (z TI TO i1 i2 : Addr) : Prop := (IsZip h z TI TO .none ∧ ∃ x y, IsTupOf2 h TO x y) ∨ ∃ (T : Addr) (f : Bool) (o : Obj), ZOut h z TI TO T f ∧ h.get? T = some o ∧ T ≠ z ∧ T ≠ TO ∧ T ≠ i1 ∧ T ≠ i2 ∧ ∃ x y, IsTupOf2 h TO x y
theorem ZSt.get {h : Heap} (x : ZSt h z TI TO i1 i2) : ∃ fs, h.get? z = some { cls := .type "zip", dict := none, data := .fields fs, slots := #[] } := by
  rcases x with ⟨hz, _⟩ | ⟨T, f, o, hz, _⟩
  · exact ⟨_, hz⟩
  · exact ⟨_, hz⟩
theorem ZSt.at {h h' : Heap} (x : ZSt h z TI TO i1 i2) {S : Addr} (nz : S ≠ z) (nTO : S ≠ TO) (ne : ∀ T f, ZOut h z TI TO T f → T ≠ S) (k : ∀ b o, b ≠ S → h.get? b = some o → h'.get? b = some o) : ZSt h' z TI TO i1 i2 := by
  rcases x with ⟨hz, a, b, hT⟩ | ⟨T, f, o, hz, hT, r1, r2, r3, r4, a, b, hO⟩
  · exact .inl ⟨k _ _ nz.symm hz, a, b, k _ _ nTO.symm hT⟩
  · exact .inr ⟨T, f, o, k _ _ nz.symm hz, k _ _ (ne T f hz) hT, r1, r2, r3, r4, a, b, k _ _ nTO.symm hO⟩
end
end EV
end
section
set_option Elab.async false
set_option linter.all false
set_option maxRecDepth 100000
set_option maxHeartbeats 2000000
set_option autoImplicit false
/-! list(zip(..)) -/
namespace EV
open PySem PySem.Spec PyProof.Rows L2
/-- tuples laid one behind the other -/
inductive TN : Hp → List (V × V) → List Addr → Hp → Prop
  | nil {H : Hp} : TN H [] [] H
  | snoc {H G : Hp} {ps : List (V × V)} {Ts : List Addr} {T : Addr} {x y : V} : TN H ps Ts G → G T = none → TN H (ps ++ [(x, y)]) (Ts ++ [T]) (upd G T (.tup [x, y]))
theorem TN.ex {H G : Hp} {ps : List (V × V)} {Ts : List Addr} (t : TN H ps Ts G) : Evl.Ex H G := by
  induction t with
  | nil => exact Evl.Ex.refl _
  | snoc t n ih => exact ih.trans (Evl.Ex.new n)
theorem TN.len {H G : Hp} {ps : List (V × V)} {Ts : List Addr} (t : TN H ps Ts G) : Ts.length = ps.length := by
  induction t with
  | nil => rfl
  | snoc t n ih => rw [List.length_append, List.length_append, ih]; rfl
end EV
namespace EV
open PySem PySem.Spec PyProof.Rows L2
end EV
namespace EV
open PySem PySem.Spec PyProof.Rows L2
end EV
end
section
set_option Elab.async false
set_option linter.all false
set_option maxRecDepth 100000
set_option maxHeartbeats 2000000
set_option autoImplicit false
/-! sorted(rows), each row a tuple of ints, of any length -/
namespace EV
open PySem PySem.Spec PyProof.Rows
section
variable {P : Program} {w : World} {A : Around} {E : Value → Shared → Prop} {s : Shared}
/-- a tuple of these ints -/
def T1 (h : Heap) (v : Value) (ns : List Int) : Prop := ∃ (a : Addr) (items : Array Value), v = .ref a ∧ IsTup h a items ∧ IntsAre items.toList ns
end
end EV
end
section
set_option Elab.async false
set_option linter.all false
set_option maxRecDepth 100000
set_option maxHeartbeats 2000000
set_option autoImplicit false
/-! sorted(list of tuples of ints), over data -/
namespace EV
open PySem PySem.Spec PyProof.Rows L2
end EV
end
section
set_option Elab.async false
set_option linter.all false
set_option maxRecDepth 100000
set_option maxHeartbeats 2000000
set_option autoImplicit false
/-! list + list -/
namespace EV
open PySem PySem.Spec PyProof.Rows L2
end EV
end
section
set_option Elab.async false
set_option linter.all false
set_option maxRecDepth 100000
set_option maxHeartbeats 2000000
set_option autoImplicit false
/-! a call of a def that changes its second parameter -/
namespace EV
open PySem PySem.Spec PyProof.Rows L2
end EV
end
section
set_option Elab.async false
set_option linter.all false
set_option maxRecDepth 100000
set_option maxHeartbeats 2000000
set_option autoImplicit false
/-! x[i], x[j] = a, b -/
namespace EV
open PySem PySem.Spec PyProof.Rows L2
end EV
end
section
set_option Elab.async false
set_option linter.all false
set_option maxRecDepth 100000
set_option maxHeartbeats 2000000
set_option autoImplicit false
/-! list comprehensions with two sources -/
namespace EV
open PySem PySem.Spec PyProof.Rows L2
end EV
end
section
set_option Elab.async false
set_option linter.all false
set_option maxRecDepth 100000
set_option maxHeartbeats 4000000
set_option autoImplicit false
namespace K03
open PySem PySem.Spec PyProof.Rows L2 EV
def top (i : Nat) : Stmt := PySem.Challenge.pw_evencoins_k03_whole_polys_added_multipli.main.body.getD i (.Pass ⟨0, 0, 0, 0⟩)
def m__law_divided_right : MS :=
    (sSeq (sAsg (mFn Lib.F_poly_divided (mCons (mName 0) (mCons (mName 1) (mCons (mName 2) mNil)))) (setT [3, 4]))
    (sSeq (sIf (mOr (mNot (mTru (mFn Lib.F_is_poly (mCons (mName 0) (mCons (mName 3) mNil))))) (mOr (mNot (mTru (mFn Lib.F_is_poly (mCons (mName 0) (mCons (mName 4) mNil))))) (mCmp dGe (mCall dLen (mCons (mName 4) mNil)) (mCall dLen (mCons (mName 2) mNil))))) (sRet [] (mC (.bool false))) sNil)
    (sRet [] (mBin dEq (mFn Lib.F__law_po_sum (mCons (mName 0) (mCons (mFn Lib.F__law_po_times (mCons (mName 0) (mCons (mName 3) (mCons (mName 2) mNil)))) (mCons (mName 4) mNil)))) (mName 1)))))
def F__law_divided_right : MF := bodyM [] 2 m__law_divided_right
def m__law_right : MS :=
    (sSeq (sSet 1 (mFnD Lib.F__law_po_field (mCons (mName 0) mNil)))
    (sSeq (sPar [2, 3, 4] (mCons (mFnD Lib.F__law_po_drawn (mCons (mName 0) (mCons (mName 1) (mCons (mC (.int 25)) mNil)))) (mCons (mFnD Lib.F__law_po_drawn (mCons (mName 0) (mCons (mName 1) (mCons (mC (.int 25)) mNil)))) (mCons (mFnD Lib.F__law_roll (mCons (mName 0) (mCons (mName 1) mNil))) mNil))))
    (sSeq (sIf (mCmp dEq (mFnD Lib.F__law_roll (mCons (mName 0) (mCons (mC (.int 4)) mNil))) (mC (.int 0))) (sSet 3 (mFn Lib.F__law_po_sum (mCons (mName 1) (mCons (mFn Lib.F__law_po_scaled (mCons (mName 1) (mCons (mName 2) (mCons (mBin dSub (mName 1) (mC (.int 1))) mNil)))) (mCons (mFnD Lib.F__law_po_drawn (mCons (mName 0) (mCons (mName 1) (mCons (mC (.int 3)) mNil)))) mNil))))) sNil)
    (sSeq (sSet 5 (mFn Lib.F__law_po_times (mCons (mName 1) (mCons (mName 2) (mCons (mName 3) mNil)))))
    (sSeq (sIf (mOr (mCmp dNe (mFn Lib.F_poly_sum (mCons (mName 1) (mCons (mName 2) (mCons (mName 3) mNil)))) (mFn Lib.F__law_po_sum (mCons (mName 1) (mCons (mName 2) (mCons (mName 3) mNil))))) (mCmp dNe (mFn Lib.F_poly_scaled (mCons (mName 1) (mCons (mName 2) (mCons (mName 4) mNil)))) (mFn Lib.F__law_po_scaled (mCons (mName 1) (mCons (mName 2) (mCons (mName 4) mNil)))))) (sRet [0] (mC (.bool false))) sNil)
    (sSeq (sIf (mOr (mCmp dNe (mFn Lib.F_poly_product (mCons (mName 1) (mCons (mName 2) (mCons (mName 3) mNil)))) (mName 5)) (mOr (mCmp dNe (mFn Lib.F_poly_scaled (mCons (mName 1) (mCons (mName 2) (mCons (mC (.int 0)) mNil)))) (mTup mNil)) (mCmp dNe (mFn Lib.F_poly_sum (mCons (mName 1) (mCons (mName 2) (mCons (mFn Lib.F__law_po_scaled (mCons (mName 1) (mCons (mName 2) (mCons (mBin dSub (mName 1) (mC (.int 1))) mNil)))) mNil)))) (mTup mNil)))) (sRet [0] (mC (.bool false))) sNil)
    (sSeq (sIf (mAnd (mCmp dNe (mName 3) (mTup mNil)) (mOr (mNot (mTru (mFn F__law_divided_right (mCons (mName 1) (mCons (mName 2) (mCons (mName 3) mNil)))))) (mCmp dNe (mFn Lib.F_poly_divided (mCons (mName 1) (mCons (mName 5) (mCons (mName 3) mNil)))) (mTup (mCons (mName 2) (mCons (mTup mNil) mNil)))))) (sRet [0] (mC (.bool false))) sNil)
    (sSeq (sSet 6 (mFnD Lib.F__law_po_places (mCons (mName 0) (mCons (mName 1) (mCons (mBin dAdd (mC (.int 1)) (mFnD Lib.F__law_roll (mCons (mName 0) (mCons (mC (.int 9)) mNil)))) (mCons (mC (.int 0)) mNil))))))
    (sSeq (sIf (mCmp dNe (mFn Lib.F_values_at (mCons (mName 1) (mCons (mName 2) (mCons (mName 6) mNil)))) (mCall dTuple (mCons (mComp [7] (mIt (mName 6)) (setN 7) mYes (mFn Lib.F__law_po_value (mCons (mName 1) (mCons (mName 2) (mCons (mName 7) mNil))))) mNil))) (sRet [0] (mC (.bool false))) sNil)
    (sRet [0] (mBin dEq (mFn Lib.F_value_at (mCons (mName 1) (mCons (mName 5) (mCons (mName 4) mNil)))) (mBin dMod (mCall dInt (mCons (mBin dMul (mFn Lib.F__law_po_value (mCons (mName 1) (mCons (mName 2) (mCons (mName 4) mNil)))) (mFn Lib.F__law_po_value (mCons (mName 1) (mCons (mName 3) (mCons (mName 4) mNil))))) mNil)) (mName 1)))))))))))))
def F__law_right : MF := bodyM [0] 7 m__law_right
def m__law_roots_right : MS :=
    (sSeq (sSet 1 (mFnD Lib.F__law_pick (mCons (mName 0) (mCons (mLst (mCons (mC (.int 5)) (mCons (mC (.int 7)) (mCons (mC (.int 11)) (mCons (mC (.int 13)) mNil))))) mNil))))
    (sSeq (sPar [2, 3] (mCons (mFnD Lib.F__law_po_places (mCons (mName 0) (mCons (mName 1) (mCons (mBin dAdd (mC (.int 1)) (mFnD Lib.F__law_roll (mCons (mName 0) (mCons (mC (.int 4)) mNil)))) (mCons (mC (.int 0)) mNil))))) (mCons (mTup (mCons (mBin dAdd (mC (.int 1)) (mFnD Lib.F__law_roll (mCons (mName 0) (mCons (mBin dSub (mName 1) (mC (.int 1))) mNil)))) mNil)) mNil)))
    (sSeq (sFor (mIt (mName 2)) (setN 4) (sSet 3 (mFn Lib.F_poly_product (mCons (mName 1) (mCons (mName 3) (mCons (mFn Lib.F__law_po_trim (mCons (mTup (mCons (mBin dMod (mCall dInt (mCons (mBin dSub (mC (.int 0)) (mName 4)) mNil)) (mName 1)) (mCons (mC (.int 1)) mNil))) mNil)) mNil))))))
    (sSeq (sIf (mCmp dNe (mCall dLen (mCons (mName 3) mNil)) (mBin dAdd (mCall dLen (mCons (mName 2) mNil)) (mC (.int 1)))) (sRet [0] (mC (.bool false))) sNil)
    (sRet [0] (mBin dEq (mComp [5] (mRg1 (mCons (mName 1) mNil)) (setN 5) (mCmp dEq (mFn Lib.F_value_at (mCons (mName 1) (mCons (mName 3) (mCons (mName 5) mNil)))) (mC (.int 0))) (mName 5)) (mCall dSortedA (mCons (mName 2) mNil))))))))
def F__law_roots_right : MF := bodyM [0] 5 m__law_roots_right
def m_law : MS :=
    (sSeq (sFor (mRg1 (mCons (mCall dMax (mCons (mC (.int 1)) (mCons (mCall dMin (mCons (mC (.int 3)) (mCons (mCall dLen (mCons (mName 0) mNil)) mNil))) mNil))) mNil)) (setN 1) (sSeq (sSet 2 (mFn Lib.F__law_dice (mCons (mName 0) (mCons (mName 1) mNil))))
    (sFor (mRg1 (mCons (mC (.int 4)) mNil)) (setN 3) (sIf (mOr (mNot (mTru (mFnD F__law_right (mCons (mName 2) mNil)))) (mNot (mTru (mFnD F__law_roots_right (mCons (mName 2) mNil))))) (sRet [] (mC (.bool false))) sNil))))
    (sSeq (sSet 4 (mLst (mCons (mTup mNil) (mCons (mTup (mCons (mC (.int 0)) mNil)) (mCons (mTup (mCons (mC (.int 1)) (mCons (mC (.int 0)) mNil))) (mCons (mTup (mCons (mC (.int 5)) mNil)) (mCons (mTup (mCons (mC (.int 0)) (mCons (mC (.int 1)) mNil))) (mCons (mLst (mCons (mC (.int 1)) mNil)) (mCons (mTup (mCons (mC (.bool true)) mNil)) (mCons (mC (.int 3)) (mCons (mC .none) (mCons (mBin dMulT (mTup (mCons (mC (.int 1)) mNil)) (mC (.int 61))) (mCons (mBin dMulT (mTup (mCons (mC (.int 1)) mNil)) (mC (.int 62))) (mCons (mTup (mCons (mNeg (mC (.int 1))) mNil)) (mCons (mTup (mCons (mC (.int 1)) (mCons (mC (.str "1")) mNil))) mNil)))))))))))))))
    (sSeq (sSet 5 (mComp [7] (mIt (mName 4)) (setN 7) mYes (mFn Lib.F_is_poly (mCons (mC (.int 5)) (mCons (mName 7) mNil)))))
    (sSeq (sIf (mOr (mCmp dNe (mName 5) (mLst (mCons (mC (.bool true)) (mCons (mC (.bool false)) (mCons (mC (.bool false)) (mCons (mC (.bool false)) (mCons (mC (.bool true)) (mCons (mC (.bool false)) (mCons (mC (.bool false)) (mCons (mC (.bool false)) (mCons (mC (.bool false)) (mCons (mC (.bool true)) (mCons (mC (.bool false)) (mCons (mC (.bool false)) (mCons (mC (.bool false)) mNil))))))))))))))) (mCmp dNe (mC (.int 60)) (mC (.int 60)))) (sRet [] (mC (.bool false))) sNil)
    (sSeq (sSet 6 (mBin dMulT (mTup (mCons (mC (.int 1)) mNil)) (mC (.int 31))))
    (sSeq (sIf (mOr (mCmp dNe (mCall dLen (mCons (mFn Lib.F_poly_product (mCons (mC (.int 5)) (mCons (mName 6) (mCons (mName 6) mNil)))) mNil)) (mC (.int 61))) (mCmp dNe (mFn Lib.F_poly_divided (mCons (mC (.int 7)) (mCons (mTup (mCons (mC (.int 3)) (mCons (mC (.int 1)) (mCons (mC (.int 2)) mNil)))) (mCons (mTup (mCons (mC (.int 6)) (mCons (mC (.int 1)) mNil))) mNil)))) (mTup (mCons (mTup (mCons (mC (.int 3)) (mCons (mC (.int 2)) mNil))) (mCons (mTup (mCons (mC (.int 6)) mNil)) mNil))))) (sRet [] (mC (.bool false))) sNil)
    (sRet [] (mBin dEq (mLst (mCons (mFn Lib.F_poly_sum (mCons (mC (.int 7)) (mCons (mTup (mCons (mC (.int 3)) (mCons (mC (.int 1)) mNil))) (mCons (mTup (mCons (mC (.int 4)) (mCons (mC (.int 6)) mNil))) mNil)))) (mCons (mFn Lib.F_poly_product (mCons (mC (.int 7)) (mCons (mTup mNil) (mCons (mTup (mCons (mC (.int 1)) mNil)) mNil)))) (mCons (mFn Lib.F_value_at (mCons (mC (.int 7)) (mCons (mTup mNil) (mCons (mC (.int 3)) mNil)))) (mCons (mFn Lib.F_poly_divided (mCons (mC (.int 7)) (mCons (mTup mNil) (mCons (mTup (mCons (mC (.int 2)) mNil)) mNil)))) mNil))))) (mLst (mCons (mTup mNil) (mCons (mTup mNil) (mCons (mC (.int 0)) (mCons (mTup (mCons (mTup mNil) (mCons (mTup mNil) mNil))) mNil)))))))))))))
def F_law : MF := bodyM [] 7 m_law
/-! ### the text -/
abbrev s_is_integer : Stmt := top 12
abbrev N_is_integer : List Str := ["value", "least", "most"]
theorem sc_is_integer : FnScope N_is_integer ["value", "least", "most"] (defScope s_is_integer) := ⟨rfl, rfl, rfl, by decide +kernel, rfl, by decide +kernel, by decide +kernel⟩
abbrev s_is_field : Stmt := top 13
abbrev N_is_field : List Str := ["value", "prime"]
theorem sc_is_field : FnScope N_is_field ["value"] (defScope s_is_field) := ⟨rfl, rfl, rfl, by decide +kernel, rfl, by decide +kernel, by decide +kernel⟩
abbrev s_are_numbers : Stmt := top 14
abbrev N_are_numbers : List Str := ["field", "value", "x"]
theorem sc_are_numbers : FnScope N_are_numbers ["field", "value"] (defScope s_are_numbers) := ⟨rfl, rfl, rfl, by decide +kernel, rfl, by decide +kernel, by decide +kernel⟩
abbrev s_check_integer : Stmt := top 15
abbrev N_check_integer : List Str := ["value", "least", "most"]
theorem sc_check_integer : FnScope N_check_integer ["value", "least", "most"] (defScope s_check_integer) := ⟨rfl, rfl, rfl, by decide +kernel, rfl, by decide +kernel, by decide +kernel⟩
abbrev s_check_field : Stmt := top 16
abbrev N_check_field : List Str := ["field"]
theorem sc_check_field : FnScope N_check_field ["field"] (defScope s_check_field) := ⟨rfl, rfl, rfl, by decide +kernel, rfl, by decide +kernel, by decide +kernel⟩
abbrev s_check_number : Stmt := top 17
abbrev N_check_number : List Str := ["field", "number"]
theorem sc_check_number : FnScope N_check_number ["field", "number"] (defScope s_check_number) := ⟨rfl, rfl, rfl, by decide +kernel, rfl, by decide +kernel, by decide +kernel⟩
abbrev s_raised : Stmt := top 18
abbrev N_raised : List Str := ["field", "number", "many", "result", "square", "left"]
theorem sc_raised : FnScope N_raised ["field", "number", "many"] (defScope s_raised) := ⟨rfl, rfl, rfl, by decide +kernel, rfl, by decide +kernel, by decide +kernel⟩
abbrev s_inverse : Stmt := top 19
abbrev N_inverse : List Str := ["field", "number"]
theorem sc_inverse : FnScope N_inverse ["field", "number"] (defScope s_inverse) := ⟨rfl, rfl, rfl, by decide +kernel, rfl, by decide +kernel, by decide +kernel⟩
abbrev s_is_poly : Stmt := top 22
abbrev N_is_poly : List Str := ["field", "value"]
theorem sc_is_poly : FnScope N_is_poly ["field", "value"] (defScope s_is_poly) := ⟨rfl, rfl, rfl, by decide +kernel, rfl, by decide +kernel, by decide +kernel⟩
abbrev s_are_unlike : Stmt := top 23
abbrev N_are_unlike : List Str := ["field", "value"]
theorem sc_are_unlike : FnScope N_are_unlike ["field", "value"] (defScope s_are_unlike) := ⟨rfl, rfl, rfl, by decide +kernel, rfl, by decide +kernel, by decide +kernel⟩
abbrev s_check_poly : Stmt := top 24
abbrev N_check_poly : List Str := ["field", "poly"]
theorem sc_check_poly : FnScope N_check_poly ["field", "poly"] (defScope s_check_poly) := ⟨rfl, rfl, rfl, by decide +kernel, rfl, by decide +kernel, by decide +kernel⟩
abbrev s_check_places : Stmt := top 25
abbrev N_check_places : List Str := ["field", "places"]
theorem sc_check_places : FnScope N_check_places ["field", "places"] (defScope s_check_places) := ⟨rfl, rfl, rfl, by decide +kernel, rfl, by decide +kernel, by decide +kernel⟩
abbrev s_trimmed : Stmt := top 26
abbrev N_trimmed : List Str := ["numbers", "many"]
theorem sc_trimmed : FnScope N_trimmed ["numbers"] (defScope s_trimmed) := ⟨rfl, rfl, rfl, by decide +kernel, rfl, by decide +kernel, by decide +kernel⟩
abbrev s_padded : Stmt := top 27
abbrev N_padded : List Str := ["poly", "many"]
theorem sc_padded : FnScope N_padded ["poly", "many"] (defScope s_padded) := ⟨rfl, rfl, rfl, by decide +kernel, rfl, by decide +kernel, by decide +kernel⟩
abbrev s_scaled : Stmt := top 28
abbrev N_scaled : List Str := ["field", "poly", "number", "x"]
theorem sc_scaled : FnScope N_scaled ["field", "poly", "number"] (defScope s_scaled) := ⟨rfl, rfl, rfl, by decide +kernel, rfl, by decide +kernel, by decide +kernel⟩
abbrev s_added : Stmt := top 29
abbrev N_added : List Str := ["field", "one", "other", "many", "x", "y"]
theorem sc_added : FnScope N_added ["field", "one", "other"] (defScope s_added) := ⟨rfl, rfl, rfl, by decide +kernel, rfl, by decide +kernel, by decide +kernel⟩
abbrev s_multiplied : Stmt := top 30
abbrev N_multiplied : List Str := ["field", "one", "other", "numbers", "k", "m"]
theorem sc_multiplied : FnScope N_multiplied ["field", "one", "other"] (defScope s_multiplied) := ⟨rfl, rfl, rfl, by decide +kernel, rfl, by decide +kernel, by decide +kernel⟩
abbrev s_evaluated : Stmt := top 31
abbrev N_evaluated : List Str := ["field", "poly", "place", "value", "x"]
theorem sc_evaluated : FnScope N_evaluated ["field", "poly", "place"] (defScope s_evaluated) := ⟨rfl, rfl, rfl, by decide +kernel, rfl, by decide +kernel, by decide +kernel⟩
abbrev s_poly_sum : Stmt := top 32
abbrev N_poly_sum : List Str := ["field", "one", "other"]
theorem sc_poly_sum : FnScope N_poly_sum ["field", "one", "other"] (defScope s_poly_sum) := ⟨rfl, rfl, rfl, by decide +kernel, rfl, by decide +kernel, by decide +kernel⟩
abbrev s_poly_scaled : Stmt := top 33
abbrev N_poly_scaled : List Str := ["field", "poly", "number"]
theorem sc_poly_scaled : FnScope N_poly_scaled ["field", "poly", "number"] (defScope s_poly_scaled) := ⟨rfl, rfl, rfl, by decide +kernel, rfl, by decide +kernel, by decide +kernel⟩
abbrev s_poly_product : Stmt := top 34
abbrev N_poly_product : List Str := ["field", "one", "other"]
theorem sc_poly_product : FnScope N_poly_product ["field", "one", "other"] (defScope s_poly_product) := ⟨rfl, rfl, rfl, by decide +kernel, rfl, by decide +kernel, by decide +kernel⟩
abbrev s_poly_divided : Stmt := top 35
abbrev N_poly_divided : List Str := ["field", "one", "other", "rest", "quotient", "lead", "k", "factor", "m"]
theorem sc_poly_divided : FnScope N_poly_divided ["field", "one", "other"] (defScope s_poly_divided) := ⟨rfl, rfl, rfl, by decide +kernel, rfl, by decide +kernel, by decide +kernel⟩
abbrev s_value_at : Stmt := top 36
abbrev N_value_at : List Str := ["field", "poly", "place"]
theorem sc_value_at : FnScope N_value_at ["field", "poly", "place"] (defScope s_value_at) := ⟨rfl, rfl, rfl, by decide +kernel, rfl, by decide +kernel, by decide +kernel⟩
abbrev s_values_at : Stmt := top 37
abbrev N_values_at : List Str := ["field", "poly", "places", "place"]
theorem sc_values_at : FnScope N_values_at ["field", "poly", "places"] (defScope s_values_at) := ⟨rfl, rfl, rfl, by decide +kernel, rfl, by decide +kernel, by decide +kernel⟩
abbrev s__law_dice : Stmt := top 39
abbrev N__law_dice : List Str := ["script", "spot", "cell", "left"]
theorem sc__law_dice : FnScope N__law_dice ["script", "spot"] (defScope s__law_dice) := ⟨rfl, rfl, rfl, by decide +kernel, rfl, by decide +kernel, by decide +kernel⟩
abbrev s__law_roll : Stmt := top 40
abbrev N__law_roll : List Str := ["dice", "most", "found", "one", "two"]
theorem sc__law_roll : FnScope N__law_roll ["dice", "most"] (defScope s__law_roll) := ⟨rfl, rfl, rfl, by decide +kernel, rfl, by decide +kernel, by decide +kernel⟩
abbrev s__law_pick : Stmt := top 41
abbrev N__law_pick : List Str := ["dice", "items"]
theorem sc__law_pick : FnScope N__law_pick ["dice", "items"] (defScope s__law_pick) := ⟨rfl, rfl, rfl, by decide +kernel, rfl, by decide +kernel, by decide +kernel⟩
abbrev s__law_po_trim : Stmt := top 42
abbrev N__law_po_trim : List Str := ["numbers", "found"]
theorem sc__law_po_trim : FnScope N__law_po_trim ["numbers"] (defScope s__law_po_trim) := ⟨rfl, rfl, rfl, by decide +kernel, rfl, by decide +kernel, by decide +kernel⟩
abbrev s__law_po_sum : Stmt := top 43
abbrev N__law_po_sum : List Str := ["p", "one", "other", "found", "at", "number"]
theorem sc__law_po_sum : FnScope N__law_po_sum ["p", "one", "other"] (defScope s__law_po_sum) := ⟨rfl, rfl, rfl, by decide +kernel, rfl, by decide +kernel, by decide +kernel⟩
abbrev s__law_po_scaled : Stmt := top 44
abbrev N__law_po_scaled : List Str := ["p", "poly", "number", "one"]
theorem sc__law_po_scaled : FnScope N__law_po_scaled ["p", "poly", "number"] (defScope s__law_po_scaled) := ⟨rfl, rfl, rfl, by decide +kernel, rfl, by decide +kernel, by decide +kernel⟩
abbrev s__law_po_times : Stmt := top 45
abbrev N__law_po_times : List Str := ["p", "one", "other", "found", "at", "number", "to", "more"]
theorem sc__law_po_times : FnScope N__law_po_times ["p", "one", "other"] (defScope s__law_po_times) := ⟨rfl, rfl, rfl, by decide +kernel, rfl, by decide +kernel, by decide +kernel⟩
abbrev s__law_po_value : Stmt := top 46
abbrev N__law_po_value : List Str := ["p", "poly", "place", "found", "power", "number"]
theorem sc__law_po_value : FnScope N__law_po_value ["p", "poly", "place"] (defScope s__law_po_value) := ⟨rfl, rfl, rfl, by decide +kernel, rfl, by decide +kernel, by decide +kernel⟩
abbrev s__law_po_drawn : Stmt := top 47
abbrev N__law_po_drawn : List Str := ["dice", "p", "most", "turn"]
theorem sc__law_po_drawn : FnScope N__law_po_drawn ["dice", "p", "most"] (defScope s__law_po_drawn) := ⟨rfl, rfl, rfl, by decide +kernel, rfl, by decide +kernel, by decide +kernel⟩
abbrev s__law_po_places : Stmt := top 48
abbrev N__law_po_places : List Str := ["dice", "p", "many", "least", "found", "turn", "place"]
theorem sc__law_po_places : FnScope N__law_po_places ["dice", "p", "many", "least"] (defScope s__law_po_places) := ⟨rfl, rfl, rfl, by decide +kernel, rfl, by decide +kernel, by decide +kernel⟩
abbrev s__law_po_field : Stmt := top 49
abbrev N__law_po_field : List Str := ["dice"]
theorem sc__law_po_field : FnScope N__law_po_field ["dice"] (defScope s__law_po_field) := ⟨rfl, rfl, rfl, by decide +kernel, rfl, by decide +kernel, by decide +kernel⟩
abbrev s__law_divided_right : Stmt := top 50
abbrev N__law_divided_right : List Str := ["p", "one", "other", "quotient", "rest"]
theorem sc__law_divided_right : FnScope N__law_divided_right ["p", "one", "other"] (defScope s__law_divided_right) := ⟨rfl, rfl, rfl, by decide +kernel, rfl, by decide +kernel, by decide +kernel⟩
abbrev s__law_right : Stmt := top 51
abbrev N__law_right : List Str := ["dice", "p", "one", "other", "number", "product", "places", "place"]
theorem sc__law_right : FnScope N__law_right ["dice"] (defScope s__law_right) := ⟨rfl, rfl, rfl, by decide +kernel, rfl, by decide +kernel, by decide +kernel⟩
abbrev s__law_roots_right : Stmt := top 52
abbrev N__law_roots_right : List Str := ["dice", "p", "roots", "poly", "root", "place"]
theorem sc__law_roots_right : FnScope N__law_roots_right ["dice"] (defScope s__law_roots_right) := ⟨rfl, rfl, rfl, by decide +kernel, rfl, by decide +kernel, by decide +kernel⟩
abbrev s_law : Stmt := top 53
abbrev N_law : List Str := ["script", "spot", "dice", "turn", "some", "told", "long", "value"]
theorem sc_law : FnScope N_law ["script"] (defScope s_law) := ⟨rfl, rfl, rfl, by decide +kernel, rfl, by decide +kernel, by decide +kernel⟩
structure DefAt (K : Frag) (mg : Str → Option Value) (x : Str) (st : Stmt) (ps : List Str) (f : Addr) (fd : FuncData) : Prop where
  fn : Fun K x x st f fd
  g : mg x = some (.ref f)
  b : Binds K fd ps []
structure Txt (K : Frag) (mg : Str → Option Value) : Prop where
  n_abs : mg "abs" = none
  n_enumerate : mg "enumerate" = none
  n_int : mg "int" = none
  n_isinstance : mg "isinstance" = none
  n_len : mg "len" = none
  n_list : mg "list" = none
  n_max : mg "max" = none
  n_min : mg "min" = none
  n_range : mg "range" = none
  n_reversed : mg "reversed" = none
  n_set : mg "set" = none
  n_sorted : mg "sorted" = none
  n_tuple : mg "tuple" = none
  n_zip : mg "zip" = none
  c_LEAST_FIELD : ∃ (q : Value × V), mg "LEAST_FIELD" = some q.1 ∧ RelV q.2 q.1 ∧ ∀ Hf, Rep K Hf q.2 (.int 5)
  c_MAX_DEGREE : ∃ (q : Value × V), mg "MAX_DEGREE" = some q.1 ∧ RelV q.2 q.1 ∧ ∀ Hf, Rep K Hf q.2 (.int 60)
  c_MAX_FIELD : ∃ (q : Value × V), mg "MAX_FIELD" = some q.1 ∧ RelV q.2 q.1 ∧ ∀ Hf, Rep K Hf q.2 (.int 997)
  c_MAX_SIDE : ∃ (q : Value × V), mg "MAX_SIDE" = some q.1 ∧ RelV q.2 q.1 ∧ ∀ Hf, Rep K Hf q.2 (.int 60)
  c_SMALL_PRIMES : ∃ (q : Value × V), mg "SMALL_PRIMES" = some q.1 ∧ RelV q.2 q.1 ∧ ∀ Hf, Rep K Hf q.2 (.tuple [(.int 2), (.int 3), (.int 5), (.int 7), (.int 11), (.int 13), (.int 17), (.int 19), (.int 23), (.int 29), (.int 31)])
section
variable {P : Program} {w : World} {K : Frag} {mg : Str → Option Value} {base : Heap}
theorem ok_is_integer (T : Txt K mg) {f_is_integer : Addr} {d_is_integer : FuncData} (A_is_integer : DefAt K mg "is_integer" s_is_integer ["value", "least", "most"] f_is_integer d_is_integer) : FnOk P w K mg base CX0 1 f_is_integer d_is_integer ["value", "least", "most"] (spM K 3 [] Lib.F_is_integer) :=
  def_ok A_is_integer.fn sc_is_integer rfl fun cdv A outer s H E hr =>
    (ss_one (s_ret (ev_and (ev_isi (T := "int") (ev_name 0) (fun _ => T.n_isinstance) (fun _ => T.n_int)) (ev_and (ev_cmp od_isnot (ev_name 0) ev_bl) (ev_and (ev_cmp od_isnot (ev_name 0) ev_bl) (ev_one (ev_chain od_le od_le d1_le (ev_name 1) (ev_name 0) (ev_name 2))))))))
theorem ok_is_field (T : Txt K mg) {f_is_field : Addr} {d_is_field : FuncData} (A_is_field : DefAt K mg "is_field" s_is_field ["value"] f_is_field d_is_field) {f_is_integer : Addr} {d_is_integer : FuncData} (A_is_integer : DefAt K mg "is_integer" s_is_integer ["value", "least", "most"] f_is_integer d_is_integer) (G_is_integer : FnOk P w K mg base CX0 1 f_is_integer d_is_integer ["value", "least", "most"] (spM K 3 [] Lib.F_is_integer)) : FnOk P w K mg base CX0 2 f_is_field d_is_field ["value"] (spM K 1 [] Lib.F_is_field) :=
  def_ok A_is_field.fn sc_is_field rfl fun cdv A outer s H E hr =>
    (ss_cons (s_if (et_not (et_tru (ev_fn (fun _ => G_is_integer) (fun _ => hr.mono (by decide)) (fun _ => A_is_integer.g) (fun _ => A_is_integer.fn.kp) (fun _ => A_is_integer.b) (ea_cons (ev_name 0) (ea_cons (ev_glob (fun _ => rfl) (fun _ => T.c_LEAST_FIELD.choose_spec.1) T.c_LEAST_FIELD.choose_spec.2.1 T.c_LEAST_FIELD.choose_spec.2.2) (ea_cons (ev_glob (fun _ => rfl) (fun _ => T.c_MAX_FIELD.choose_spec.1) T.c_MAX_FIELD.choose_spec.2.1 T.c_MAX_FIELD.choose_spec.2.2) ea_nil))) (na_cons (na_cons (na_cons na_nil)))))) (ss_one (s_ret ev_bl)) ss_nil)
    (ss_cons (s_for (fun _ => PassesOwn.never) (fun _ => rfl) (ei_val (ev_glob (fun _ => rfl) (fun _ => T.c_SMALL_PRIMES.choose_spec.1) T.c_SMALL_PRIMES.choose_spec.2.1 T.c_SMALL_PRIMES.choose_spec.2.2)) (eg_name 1 (fun _ => sc_is_field.nd)) (ss_one (s_if (et_cmp (od_eq (fun _ => hr.units)) (ev_bin od_mod (ev_name 0) (ev_name 1)) ev_int) (ss_one (s_ret (ev_cmp (od_eq (fun _ => hr.units)) (ev_name 0) (ev_name 1)))) ss_nil)))
    (ss_one (s_ret ev_bl))))
theorem ok_are_numbers (T : Txt K mg) {f_are_numbers : Addr} {d_are_numbers : FuncData} (A_are_numbers : DefAt K mg "are_numbers" s_are_numbers ["field", "value"] f_are_numbers d_are_numbers) : FnOk P w K mg base CX0 1 f_are_numbers d_are_numbers ["field", "value"] (spM K 2 [] Lib.F_are_numbers) :=
  def_ok A_are_numbers.fn sc_are_numbers rfl fun cdv A outer s H E hr =>
    (ss_cons (s_if (et_not (et_tru (ev_isi (T := "tuple") (ev_name 1) (fun _ => T.n_isinstance) (fun _ => T.n_tuple)))) (ss_one (s_ret ev_bl)) ss_nil)
    (ss_cons (s_for (fun _ => PassesOwn.never) (fun _ => rfl) (ei_val (ev_name 1)) (eg_name 2 (fun _ => sc_are_numbers.nd)) (ss_one (s_if (et_w (ew_or (et_not (et_tru (ev_isi (T := "int") (ev_name 2) (fun _ => T.n_isinstance) (fun _ => T.n_int)))) (ew_or (et_cmp od_is (ev_name 2) ev_bl) (ew_or (et_cmp od_is (ev_name 2) ev_bl) (ew_or1 (et_not (et_chain od_le od_lt d1_lt ev_int (ev_name 2) (ev_name 0)))))))) (ss_one (s_ret ev_bl)) ss_nil)))
    (ss_one (s_ret ev_bl))))
theorem ok_check_integer (T : Txt K mg) {f_check_integer : Addr} {d_check_integer : FuncData} (A_check_integer : DefAt K mg "check_integer" s_check_integer ["value", "least", "most"] f_check_integer d_check_integer) {f_is_integer : Addr} {d_is_integer : FuncData} (A_is_integer : DefAt K mg "is_integer" s_is_integer ["value", "least", "most"] f_is_integer d_is_integer) (G_is_integer : FnOk P w K mg base CX0 1 f_is_integer d_is_integer ["value", "least", "most"] (spM K 3 [] Lib.F_is_integer)) : FnOk P w K mg base CX0 2 f_check_integer d_check_integer ["value", "least", "most"] (spM K 3 [] Lib.F_check_integer) :=
  def_ok A_check_integer.fn sc_check_integer rfl fun cdv A outer s H E hr =>
    (ss_one (s_if (et_not (et_tru (ev_fn (fun _ => G_is_integer) (fun _ => hr.mono (by decide)) (fun _ => A_is_integer.g) (fun _ => A_is_integer.fn.kp) (fun _ => A_is_integer.b) (ea_cons (ev_name 0) (ea_cons (ev_name 1) (ea_cons (ev_name 2) ea_nil))) (na_cons (na_cons (na_cons na_nil)))))) (ss_one s_never) ss_nil))
theorem ok_check_field (T : Txt K mg) {f_check_field : Addr} {d_check_field : FuncData} (A_check_field : DefAt K mg "check_field" s_check_field ["field"] f_check_field d_check_field) {f_is_field : Addr} {d_is_field : FuncData} (A_is_field : DefAt K mg "is_field" s_is_field ["value"] f_is_field d_is_field) (G_is_field : FnOk P w K mg base CX0 2 f_is_field d_is_field ["value"] (spM K 1 [] Lib.F_is_field)) : FnOk P w K mg base CX0 3 f_check_field d_check_field ["field"] (spM K 1 [] Lib.F_check_field) :=
  def_ok A_check_field.fn sc_check_field rfl fun cdv A outer s H E hr =>
    (ss_one (s_if (et_not (et_tru (ev_fn (fun _ => G_is_field) (fun _ => hr.mono (by decide)) (fun _ => A_is_field.g) (fun _ => A_is_field.fn.kp) (fun _ => A_is_field.b) (ea_cons (ev_name 0) ea_nil) (na_cons na_nil)))) (ss_one s_never) ss_nil))
theorem ok_check_number (T : Txt K mg) {f_check_number : Addr} {d_check_number : FuncData} (A_check_number : DefAt K mg "check_number" s_check_number ["field", "number"] f_check_number d_check_number) {f_check_integer : Addr} {d_check_integer : FuncData} (A_check_integer : DefAt K mg "check_integer" s_check_integer ["value", "least", "most"] f_check_integer d_check_integer) (G_check_integer : FnOk P w K mg base CX0 2 f_check_integer d_check_integer ["value", "least", "most"] (spM K 3 [] Lib.F_check_integer)) : FnOk P w K mg base CX0 3 f_check_number d_check_number ["field", "number"] (spM K 2 [] Lib.F_check_number) :=
  def_ok A_check_number.fn sc_check_number rfl fun cdv A outer s H E hr =>
    (ss_one (s_expr (ev_fn (fun _ => G_check_integer) (fun _ => hr.mono (by decide)) (fun _ => A_check_integer.g) (fun _ => A_check_integer.fn.kp) (fun _ => A_check_integer.b) (ea_cons (ev_name 1) (ea_cons ev_int (ea_cons (ev_bin od_sub (ev_name 0) ev_int) ea_nil))) (na_cons (na_cons (na_cons na_nil))))))
theorem ok_raised (T : Txt K mg) {f_raised : Addr} {d_raised : FuncData} (A_raised : DefAt K mg "raised" s_raised ["field", "number", "many"] f_raised d_raised) : FnOk P w K mg base CX0 1 f_raised d_raised ["field", "number", "many"] (spM K 3 [] Lib.F_raised) :=
  def_ok A_raised.fn sc_raised rfl fun cdv A outer s H E hr =>
    (ss_cons (s_set 3 ev_int (fun _ => sc_raised.nd))
    (ss_cons (s_set 4 (ev_bin od_mod (ev_name 1) (ev_name 0)) (fun _ => sc_raised.nd))
    (ss_cons (s_set 5 (ev_name 2) (fun _ => sc_raised.nd))
    (ss_cons (s_while EV.fuel (fun _ => PassesOwn.never) (et_cmp od_gt (ev_name 5) ev_int) (ss_cons (s_if (et_cmp (od_eq (fun _ => hr.units)) (ev_bin od_mod (ev_name 5) ev_int) ev_int) (ss_one (s_set 3 (ev_bin od_mod (ev_bin od_mul (ev_name 3) (ev_name 4)) (ev_name 0)) (fun _ => sc_raised.nd))) ss_nil)
    (ss_cons (s_set 4 (ev_bin od_mod (ev_bin od_mul (ev_name 4) (ev_name 4)) (ev_name 0)) (fun _ => sc_raised.nd))
    (ss_one (s_set 5 (ev_bin od_fdiv (ev_name 5) ev_int) (fun _ => sc_raised.nd))))))
    (ss_one (s_ret (ev_name 3)))))))
theorem ok_inverse (T : Txt K mg) {f_inverse : Addr} {d_inverse : FuncData} (A_inverse : DefAt K mg "inverse" s_inverse ["field", "number"] f_inverse d_inverse) {f_raised : Addr} {d_raised : FuncData} (A_raised : DefAt K mg "raised" s_raised ["field", "number", "many"] f_raised d_raised) (G_raised : FnOk P w K mg base CX0 1 f_raised d_raised ["field", "number", "many"] (spM K 3 [] Lib.F_raised)) : FnOk P w K mg base CX0 2 f_inverse d_inverse ["field", "number"] (spM K 2 [] Lib.F_inverse) :=
  def_ok A_inverse.fn sc_inverse rfl fun cdv A outer s H E hr =>
    (ss_one (s_ret (ev_fn (fun _ => G_raised) (fun _ => hr.mono (by decide)) (fun _ => A_raised.g) (fun _ => A_raised.fn.kp) (fun _ => A_raised.b) (ea_cons (ev_name 0) (ea_cons (ev_name 1) (ea_cons (ev_bin od_sub (ev_name 0) ev_int) ea_nil))) (na_cons (na_cons (na_cons na_nil))))))
theorem ok_is_poly (T : Txt K mg) {f_is_poly : Addr} {d_is_poly : FuncData} (A_is_poly : DefAt K mg "is_poly" s_is_poly ["field", "value"] f_is_poly d_is_poly) {f_check_field : Addr} {d_check_field : FuncData} (A_check_field : DefAt K mg "check_field" s_check_field ["field"] f_check_field d_check_field) (G_check_field : FnOk P w K mg base CX0 3 f_check_field d_check_field ["field"] (spM K 1 [] Lib.F_check_field)) {f_are_numbers : Addr} {d_are_numbers : FuncData} (A_are_numbers : DefAt K mg "are_numbers" s_are_numbers ["field", "value"] f_are_numbers d_are_numbers) (G_are_numbers : FnOk P w K mg base CX0 1 f_are_numbers d_are_numbers ["field", "value"] (spM K 2 [] Lib.F_are_numbers)) : FnOk P w K mg base CX0 4 f_is_poly d_is_poly ["field", "value"] (spM K 2 [] Lib.F_is_poly) :=
  def_ok A_is_poly.fn sc_is_poly rfl fun cdv A outer s H E hr =>
    (ss_cons (s_expr (ev_fn (fun _ => G_check_field) (fun _ => hr.mono (by decide)) (fun _ => A_check_field.g) (fun _ => A_check_field.fn.kp) (fun _ => A_check_field.b) (ea_cons (ev_name 0) ea_nil) (na_cons na_nil)))
    (ss_cons (s_if (et_w (ew_or (et_not (et_tru (ev_fn (fun _ => G_are_numbers) (fun _ => hr.mono (by decide)) (fun _ => A_are_numbers.g) (fun _ => A_are_numbers.fn.kp) (fun _ => A_are_numbers.b) (ea_cons (ev_name 0) (ea_cons (ev_name 1) ea_nil)) (na_cons (na_cons na_nil))))) (ew_or1 (et_cmp od_gt (ev_callB cd_len (fun _ => T.n_len) (ea_cons (ev_name 1) ea_nil)) (ev_bin od_add (ev_glob (fun _ => rfl) (fun _ => T.c_MAX_DEGREE.choose_spec.1) T.c_MAX_DEGREE.choose_spec.2.1 T.c_MAX_DEGREE.choose_spec.2.2) ev_int))))) (ss_one (s_ret ev_bl)) ss_nil)
    (ss_one (s_ret (ev_or (ev_cmp (od_eq (fun _ => hr.units)) (ev_name 1) (ev_tup ea_nil)) (ev_one (ev_cmp (od_ne (fun _ => hr.units)) (ev_ix (ev_name 1) (ev_neg ev_int)) ev_int)))))))
theorem ok_are_unlike (T : Txt K mg) {f_are_unlike : Addr} {d_are_unlike : FuncData} (A_are_unlike : DefAt K mg "are_unlike" s_are_unlike ["field", "value"] f_are_unlike d_are_unlike) {f_are_numbers : Addr} {d_are_numbers : FuncData} (A_are_numbers : DefAt K mg "are_numbers" s_are_numbers ["field", "value"] f_are_numbers d_are_numbers) (G_are_numbers : FnOk P w K mg base CX0 1 f_are_numbers d_are_numbers ["field", "value"] (spM K 2 [] Lib.F_are_numbers)) : FnOk P w K mg base CX0 2 f_are_unlike d_are_unlike ["field", "value"] (spM K 2 [] Lib.F_are_unlike) :=
  def_ok A_are_unlike.fn sc_are_unlike rfl fun cdv A outer s H E hr =>
    (ss_one (s_ret (ev_and (ev_fn (fun _ => G_are_numbers) (fun _ => hr.mono (by decide)) (fun _ => A_are_numbers.g) (fun _ => A_are_numbers.fn.kp) (fun _ => A_are_numbers.b) (ea_cons (ev_name 0) (ea_cons (ev_name 1) ea_nil)) (na_cons (na_cons na_nil))) (ev_and (ev_cmp od_le (ev_callB cd_len (fun _ => T.n_len) (ea_cons (ev_name 1) ea_nil)) (ev_glob (fun _ => rfl) (fun _ => T.c_MAX_SIDE.choose_spec.1) T.c_MAX_SIDE.choose_spec.2.1 T.c_MAX_SIDE.choose_spec.2.2)) (ev_one (ev_cmp (od_eq (fun _ => hr.units)) (ev_lenSet (fun _ => rfl) (fun _ => T.n_len) (fun _ => T.n_set) (ev_name 1)) (ev_callB cd_len (fun _ => T.n_len) (ea_cons (ev_name 1) ea_nil))))))))
theorem ok_check_poly (T : Txt K mg) {f_check_poly : Addr} {d_check_poly : FuncData} (A_check_poly : DefAt K mg "check_poly" s_check_poly ["field", "poly"] f_check_poly d_check_poly) {f_is_poly : Addr} {d_is_poly : FuncData} (A_is_poly : DefAt K mg "is_poly" s_is_poly ["field", "value"] f_is_poly d_is_poly) (G_is_poly : FnOk P w K mg base CX0 4 f_is_poly d_is_poly ["field", "value"] (spM K 2 [] Lib.F_is_poly)) : FnOk P w K mg base CX0 5 f_check_poly d_check_poly ["field", "poly"] (spM K 2 [] Lib.F_check_poly) :=
  def_ok A_check_poly.fn sc_check_poly rfl fun cdv A outer s H E hr =>
    (ss_one (s_if (et_not (et_tru (ev_fn (fun _ => G_is_poly) (fun _ => hr.mono (by decide)) (fun _ => A_is_poly.g) (fun _ => A_is_poly.fn.kp) (fun _ => A_is_poly.b) (ea_cons (ev_name 0) (ea_cons (ev_name 1) ea_nil)) (na_cons (na_cons na_nil))))) (ss_one s_never) ss_nil))
theorem ok_check_places (T : Txt K mg) {f_check_places : Addr} {d_check_places : FuncData} (A_check_places : DefAt K mg "check_places" s_check_places ["field", "places"] f_check_places d_check_places) {f_are_unlike : Addr} {d_are_unlike : FuncData} (A_are_unlike : DefAt K mg "are_unlike" s_are_unlike ["field", "value"] f_are_unlike d_are_unlike) (G_are_unlike : FnOk P w K mg base CX0 2 f_are_unlike d_are_unlike ["field", "value"] (spM K 2 [] Lib.F_are_unlike)) : FnOk P w K mg base CX0 3 f_check_places d_check_places ["field", "places"] (spM K 2 [] Lib.F_check_places) :=
  def_ok A_check_places.fn sc_check_places rfl fun cdv A outer s H E hr =>
    (ss_one (s_if (et_w (ew_or (et_not (et_tru (ev_fn (fun _ => G_are_unlike) (fun _ => hr.mono (by decide)) (fun _ => A_are_unlike.g) (fun _ => A_are_unlike.fn.kp) (fun _ => A_are_unlike.b) (ea_cons (ev_name 0) (ea_cons (ev_name 1) ea_nil)) (na_cons (na_cons na_nil))))) (ew_or1 (et_not (et_tru (ev_name 1)))))) (ss_one s_never) ss_nil))
theorem ok_trimmed (T : Txt K mg) {f_trimmed : Addr} {d_trimmed : FuncData} (A_trimmed : DefAt K mg "trimmed" s_trimmed ["numbers"] f_trimmed d_trimmed) : FnOk P w K mg base CX0 1 f_trimmed d_trimmed ["numbers"] (spM K 1 [] Lib.F_trimmed) :=
  def_ok A_trimmed.fn sc_trimmed rfl fun cdv A outer s H E hr =>
    (ss_cons (s_set 1 (ev_callB cd_len (fun _ => T.n_len) (ea_cons (ev_name 0) ea_nil)) (fun _ => sc_trimmed.nd))
    (ss_cons (s_while EV.fuel (fun _ => PassesOwn.never) (et_w (ew_and (et_cmp od_gt (ev_name 1) ev_int) (ew_and1 (et_cmp (od_eq (fun _ => hr.units)) (ev_ix (ev_name 0) (ev_bin od_sub (ev_name 1) ev_int)) ev_int)))) (ss_one (s_aug 1 ev_int (fun _ => ip_sub) (fun _ => sc_trimmed.nd))))
    (ss_one (s_ret (ev_callTy cd_tuple (fun _ => T.n_tuple) (ea_cons (ev_sl (ev_name 0) eo_none (eo_some (ev_name 1))) ea_nil))))))
theorem ok_padded (T : Txt K mg) {f_padded : Addr} {d_padded : FuncData} (A_padded : DefAt K mg "padded" s_padded ["poly", "many"] f_padded d_padded) : FnOk P w K mg base CX0 1 f_padded d_padded ["poly", "many"] (spM K 2 [] Lib.F_padded) :=
  def_ok A_padded.fn sc_padded rfl fun cdv A outer s H E hr =>
    (ss_one (s_ret (ev_bin od_add (ev_callTy cd_tuple (fun _ => T.n_tuple) (ea_cons (ev_name 0) ea_nil)) (ev_bin od_mulT (ev_tup (ea_cons ev_int ea_nil)) (ev_bin od_sub (ev_name 1) (ev_callB cd_len (fun _ => T.n_len) (ea_cons (ev_name 0) ea_nil)))))))
theorem ok_scaled (T : Txt K mg) {f_scaled : Addr} {d_scaled : FuncData} (A_scaled : DefAt K mg "scaled" s_scaled ["field", "poly", "number"] f_scaled d_scaled) : FnOk P w K mg base CX0 1 f_scaled d_scaled ["field", "poly", "number"] (spM K 3 [] Lib.F_scaled) :=
  def_ok A_scaled.fn sc_scaled rfl fun cdv A outer s H E hr =>
    (ss_one (s_ret (ev_comp (own := [("x", 3)]) (fun _ => rfl) (fun _ => sc_scaled.nd) (fun _ => by show BlkOk N_scaled (defScope s_scaled) _ _; exact blkOk_by (by decide +kernel)) (ei_val (ev_name 1)) (eg_name 3 (fun _ => sc_scaled.nd)) ets_nil (ev_bin od_mod (ev_bin od_mul (ev_name 2) (ev_name 3)) (ev_name 0)))))
theorem ok_added (T : Txt K mg) {f_added : Addr} {d_added : FuncData} (A_added : DefAt K mg "added" s_added ["field", "one", "other"] f_added d_added) {f_trimmed : Addr} {d_trimmed : FuncData} (A_trimmed : DefAt K mg "trimmed" s_trimmed ["numbers"] f_trimmed d_trimmed) (G_trimmed : FnOk P w K mg base CX0 1 f_trimmed d_trimmed ["numbers"] (spM K 1 [] Lib.F_trimmed)) {f_padded : Addr} {d_padded : FuncData} (A_padded : DefAt K mg "padded" s_padded ["poly", "many"] f_padded d_padded) (G_padded : FnOk P w K mg base CX0 1 f_padded d_padded ["poly", "many"] (spM K 2 [] Lib.F_padded)) : FnOk P w K mg base CX0 2 f_added d_added ["field", "one", "other"] (spM K 3 [] Lib.F_added) :=
  def_ok A_added.fn sc_added rfl fun cdv A outer s H E hr =>
    (ss_cons (s_set 3 (ev_callB (cd_max (fun _ => rfl)) (fun _ => T.n_max) (ea_cons (ev_callB cd_len (fun _ => T.n_len) (ea_cons (ev_name 1) ea_nil)) (ea_cons (ev_callB cd_len (fun _ => T.n_len) (ea_cons (ev_name 2) ea_nil)) ea_nil))) (fun _ => sc_added.nd))
    (ss_one (s_ret (ev_fn (fun _ => G_trimmed) (fun _ => hr.mono (by decide)) (fun _ => A_trimmed.g) (fun _ => A_trimmed.fn.kp) (fun _ => A_trimmed.b) (ea_cons (ev_comp (own := [("x", 4), ("y", 5)]) (fun _ => rfl) (fun _ => sc_added.nd) (fun _ => by show BlkOk N_added (defScope s_added) _ _; exact blkOk_by (by decide +kernel)) (ei_zipA (fun _ => T.n_zip) (ea_cons (ev_fn (fun _ => G_padded) (fun _ => hr.mono (by decide)) (fun _ => A_padded.g) (fun _ => A_padded.fn.kp) (fun _ => A_padded.b) (ea_cons (ev_name 1) (ea_cons (ev_name 3) ea_nil)) (na_cons (na_cons na_nil))) (ea_cons (ev_fn (fun _ => G_padded) (fun _ => hr.mono (by decide)) (fun _ => A_padded.g) (fun _ => A_padded.fn.kp) (fun _ => A_padded.b) (ea_cons (ev_name 2) (ea_cons (ev_name 3) ea_nil)) (na_cons (na_cons na_nil))) ea_nil))) (eg_tup [4, 5] (fun _ => rfl) (fun _ => (pgs_cons (pg_name (i := 4) sc_added.nd rfl (by first | exact Or.inl rfl | exact Or.inr rfl)) (pgs_cons (pg_name (i := 5) sc_added.nd rfl (by first | exact Or.inl rfl | exact Or.inr rfl)) pgs_nil)))) ets_nil (ev_bin od_mod (ev_bin od_add (ev_name 4) (ev_name 5)) (ev_name 0))) ea_nil) (na_cons na_nil)))))
theorem ok_multiplied (T : Txt K mg) {f_multiplied : Addr} {d_multiplied : FuncData} (A_multiplied : DefAt K mg "multiplied" s_multiplied ["field", "one", "other"] f_multiplied d_multiplied) : FnOk P w K mg base CX0 1 f_multiplied d_multiplied ["field", "one", "other"] (spM K 3 [] Lib.F_multiplied) :=
  def_ok A_multiplied.fn sc_multiplied rfl fun cdv A outer s H E hr =>
    (ss_cons (s_if (et_w (ew_or (et_not (et_tru (ev_name 1))) (ew_or1 (et_not (et_tru (ev_name 2)))))) (ss_one (s_ret (ev_tup ea_nil))) ss_nil)
    (ss_cons (s_set 3 (ev_repL (ev_lst (ea_cons ev_int ea_nil)) (ev_bin od_sub (ev_bin od_add (ev_callB cd_len (fun _ => T.n_len) (ea_cons (ev_name 1) ea_nil)) (ev_callB cd_len (fun _ => T.n_len) (ea_cons (ev_name 2) ea_nil))) ev_int)) (fun _ => sc_multiplied.nd))
    (ss_cons (s_for (fun _ => PassesOwn.never) (fun _ => rfl) (ei_range1 (fun _ => T.n_range) (ea_cons (ev_callB cd_len (fun _ => T.n_len) (ea_cons (ev_name 1) ea_nil)) ea_nil)) (eg_name 4 (fun _ => sc_multiplied.nd)) (ss_one (s_for (fun _ => PassesOwn.never) (fun _ => rfl) (ei_range1 (fun _ => T.n_range) (ea_cons (ev_callB cd_len (fun _ => T.n_len) (ea_cons (ev_name 2) ea_nil)) ea_nil)) (eg_name 5 (fun _ => sc_multiplied.nd)) (ss_one (s_setix 3 (ev_bin od_mod (ev_bin od_add (ev_ix (ev_name 3) (ev_bin od_add (ev_name 4) (ev_name 5))) (ev_bin od_mul (ev_ix (ev_name 1) (ev_name 4)) (ev_ix (ev_name 2) (ev_name 5)))) (ev_name 0)) (ev_bin od_add (ev_name 4) (ev_name 5)))))))
    (ss_one (s_ret (ev_callTy cd_tuple (fun _ => T.n_tuple) (ea_cons (ev_name 3) ea_nil)))))))
theorem ok_evaluated (T : Txt K mg) {f_evaluated : Addr} {d_evaluated : FuncData} (A_evaluated : DefAt K mg "evaluated" s_evaluated ["field", "poly", "place"] f_evaluated d_evaluated) : FnOk P w K mg base CX0 1 f_evaluated d_evaluated ["field", "poly", "place"] (spM K 3 [] Lib.F_evaluated) :=
  def_ok A_evaluated.fn sc_evaluated rfl fun cdv A outer s H E hr =>
    (ss_cons (s_set 3 ev_int (fun _ => sc_evaluated.nd))
    (ss_cons (s_for (fun _ => PassesOwn.never) (fun _ => rfl) (ei_rev (fun _ => T.n_reversed) (ev_name 1)) (eg_name 4 (fun _ => sc_evaluated.nd)) (ss_one (s_set 3 (ev_bin od_mod (ev_bin od_add (ev_bin od_mul (ev_name 3) (ev_name 2)) (ev_name 4)) (ev_name 0)) (fun _ => sc_evaluated.nd))))
    (ss_one (s_ret (ev_name 3)))))
theorem ok_poly_sum (T : Txt K mg) {f_poly_sum : Addr} {d_poly_sum : FuncData} (A_poly_sum : DefAt K mg "poly_sum" s_poly_sum ["field", "one", "other"] f_poly_sum d_poly_sum) {f_check_field : Addr} {d_check_field : FuncData} (A_check_field : DefAt K mg "check_field" s_check_field ["field"] f_check_field d_check_field) (G_check_field : FnOk P w K mg base CX0 3 f_check_field d_check_field ["field"] (spM K 1 [] Lib.F_check_field)) {f_check_poly : Addr} {d_check_poly : FuncData} (A_check_poly : DefAt K mg "check_poly" s_check_poly ["field", "poly"] f_check_poly d_check_poly) (G_check_poly : FnOk P w K mg base CX0 5 f_check_poly d_check_poly ["field", "poly"] (spM K 2 [] Lib.F_check_poly)) {f_added : Addr} {d_added : FuncData} (A_added : DefAt K mg "added" s_added ["field", "one", "other"] f_added d_added) (G_added : FnOk P w K mg base CX0 2 f_added d_added ["field", "one", "other"] (spM K 3 [] Lib.F_added)) : FnOk P w K mg base CX0 6 f_poly_sum d_poly_sum ["field", "one", "other"] (spM K 3 [] Lib.F_poly_sum) :=
  def_ok A_poly_sum.fn sc_poly_sum rfl fun cdv A outer s H E hr =>
    (ss_cons (s_expr (ev_fn (fun _ => G_check_field) (fun _ => hr.mono (by decide)) (fun _ => A_check_field.g) (fun _ => A_check_field.fn.kp) (fun _ => A_check_field.b) (ea_cons (ev_name 0) ea_nil) (na_cons na_nil)))
    (ss_cons (s_expr (ev_fn (fun _ => G_check_poly) (fun _ => hr.mono (by decide)) (fun _ => A_check_poly.g) (fun _ => A_check_poly.fn.kp) (fun _ => A_check_poly.b) (ea_cons (ev_name 0) (ea_cons (ev_name 1) ea_nil)) (na_cons (na_cons na_nil))))
    (ss_cons (s_expr (ev_fn (fun _ => G_check_poly) (fun _ => hr.mono (by decide)) (fun _ => A_check_poly.g) (fun _ => A_check_poly.fn.kp) (fun _ => A_check_poly.b) (ea_cons (ev_name 0) (ea_cons (ev_name 2) ea_nil)) (na_cons (na_cons na_nil))))
    (ss_one (s_ret (ev_fn (fun _ => G_added) (fun _ => hr.mono (by decide)) (fun _ => A_added.g) (fun _ => A_added.fn.kp) (fun _ => A_added.b) (ea_cons (ev_name 0) (ea_cons (ev_name 1) (ea_cons (ev_name 2) ea_nil))) (na_cons (na_cons (na_cons na_nil)))))))))
theorem ok_poly_scaled (T : Txt K mg) {f_poly_scaled : Addr} {d_poly_scaled : FuncData} (A_poly_scaled : DefAt K mg "poly_scaled" s_poly_scaled ["field", "poly", "number"] f_poly_scaled d_poly_scaled) {f_check_field : Addr} {d_check_field : FuncData} (A_check_field : DefAt K mg "check_field" s_check_field ["field"] f_check_field d_check_field) (G_check_field : FnOk P w K mg base CX0 3 f_check_field d_check_field ["field"] (spM K 1 [] Lib.F_check_field)) {f_check_poly : Addr} {d_check_poly : FuncData} (A_check_poly : DefAt K mg "check_poly" s_check_poly ["field", "poly"] f_check_poly d_check_poly) (G_check_poly : FnOk P w K mg base CX0 5 f_check_poly d_check_poly ["field", "poly"] (spM K 2 [] Lib.F_check_poly)) {f_check_number : Addr} {d_check_number : FuncData} (A_check_number : DefAt K mg "check_number" s_check_number ["field", "number"] f_check_number d_check_number) (G_check_number : FnOk P w K mg base CX0 3 f_check_number d_check_number ["field", "number"] (spM K 2 [] Lib.F_check_number)) {f_trimmed : Addr} {d_trimmed : FuncData} (A_trimmed : DefAt K mg "trimmed" s_trimmed ["numbers"] f_trimmed d_trimmed) (G_trimmed : FnOk P w K mg base CX0 1 f_trimmed d_trimmed ["numbers"] (spM K 1 [] Lib.F_trimmed)) {f_scaled : Addr} {d_scaled : FuncData} (A_scaled : DefAt K mg "scaled" s_scaled ["field", "poly", "number"] f_scaled d_scaled) (G_scaled : FnOk P w K mg base CX0 1 f_scaled d_scaled ["field", "poly", "number"] (spM K 3 [] Lib.F_scaled)) : FnOk P w K mg base CX0 6 f_poly_scaled d_poly_scaled ["field", "poly", "number"] (spM K 3 [] Lib.F_poly_scaled) :=
  def_ok A_poly_scaled.fn sc_poly_scaled rfl fun cdv A outer s H E hr =>
    (ss_cons (s_expr (ev_fn (fun _ => G_check_field) (fun _ => hr.mono (by decide)) (fun _ => A_check_field.g) (fun _ => A_check_field.fn.kp) (fun _ => A_check_field.b) (ea_cons (ev_name 0) ea_nil) (na_cons na_nil)))
    (ss_cons (s_expr (ev_fn (fun _ => G_check_poly) (fun _ => hr.mono (by decide)) (fun _ => A_check_poly.g) (fun _ => A_check_poly.fn.kp) (fun _ => A_check_poly.b) (ea_cons (ev_name 0) (ea_cons (ev_name 1) ea_nil)) (na_cons (na_cons na_nil))))
    (ss_cons (s_expr (ev_fn (fun _ => G_check_number) (fun _ => hr.mono (by decide)) (fun _ => A_check_number.g) (fun _ => A_check_number.fn.kp) (fun _ => A_check_number.b) (ea_cons (ev_name 0) (ea_cons (ev_name 2) ea_nil)) (na_cons (na_cons na_nil))))
    (ss_one (s_ret (ev_fn (fun _ => G_trimmed) (fun _ => hr.mono (by decide)) (fun _ => A_trimmed.g) (fun _ => A_trimmed.fn.kp) (fun _ => A_trimmed.b) (ea_cons (ev_fn (fun _ => G_scaled) (fun _ => hr.mono (by decide)) (fun _ => A_scaled.g) (fun _ => A_scaled.fn.kp) (fun _ => A_scaled.b) (ea_cons (ev_name 0) (ea_cons (ev_name 1) (ea_cons (ev_name 2) ea_nil))) (na_cons (na_cons (na_cons na_nil)))) ea_nil) (na_cons na_nil)))))))
theorem ok_poly_product (T : Txt K mg) {f_poly_product : Addr} {d_poly_product : FuncData} (A_poly_product : DefAt K mg "poly_product" s_poly_product ["field", "one", "other"] f_poly_product d_poly_product) {f_check_field : Addr} {d_check_field : FuncData} (A_check_field : DefAt K mg "check_field" s_check_field ["field"] f_check_field d_check_field) (G_check_field : FnOk P w K mg base CX0 3 f_check_field d_check_field ["field"] (spM K 1 [] Lib.F_check_field)) {f_check_poly : Addr} {d_check_poly : FuncData} (A_check_poly : DefAt K mg "check_poly" s_check_poly ["field", "poly"] f_check_poly d_check_poly) (G_check_poly : FnOk P w K mg base CX0 5 f_check_poly d_check_poly ["field", "poly"] (spM K 2 [] Lib.F_check_poly)) {f_multiplied : Addr} {d_multiplied : FuncData} (A_multiplied : DefAt K mg "multiplied" s_multiplied ["field", "one", "other"] f_multiplied d_multiplied) (G_multiplied : FnOk P w K mg base CX0 1 f_multiplied d_multiplied ["field", "one", "other"] (spM K 3 [] Lib.F_multiplied)) : FnOk P w K mg base CX0 6 f_poly_product d_poly_product ["field", "one", "other"] (spM K 3 [] Lib.F_poly_product) :=
  def_ok A_poly_product.fn sc_poly_product rfl fun cdv A outer s H E hr =>
    (ss_cons (s_expr (ev_fn (fun _ => G_check_field) (fun _ => hr.mono (by decide)) (fun _ => A_check_field.g) (fun _ => A_check_field.fn.kp) (fun _ => A_check_field.b) (ea_cons (ev_name 0) ea_nil) (na_cons na_nil)))
    (ss_cons (s_expr (ev_fn (fun _ => G_check_poly) (fun _ => hr.mono (by decide)) (fun _ => A_check_poly.g) (fun _ => A_check_poly.fn.kp) (fun _ => A_check_poly.b) (ea_cons (ev_name 0) (ea_cons (ev_name 1) ea_nil)) (na_cons (na_cons na_nil))))
    (ss_cons (s_expr (ev_fn (fun _ => G_check_poly) (fun _ => hr.mono (by decide)) (fun _ => A_check_poly.g) (fun _ => A_check_poly.fn.kp) (fun _ => A_check_poly.b) (ea_cons (ev_name 0) (ea_cons (ev_name 2) ea_nil)) (na_cons (na_cons na_nil))))
    (ss_cons (s_if (et_cmp od_gt (ev_bin od_sub (ev_bin od_add (ev_callB cd_len (fun _ => T.n_len) (ea_cons (ev_name 1) ea_nil)) (ev_callB cd_len (fun _ => T.n_len) (ea_cons (ev_name 2) ea_nil))) ev_int) (ev_glob (fun _ => rfl) (fun _ => T.c_MAX_DEGREE.choose_spec.1) T.c_MAX_DEGREE.choose_spec.2.1 T.c_MAX_DEGREE.choose_spec.2.2)) (ss_one s_never) ss_nil)
    (ss_one (s_ret (ev_fn (fun _ => G_multiplied) (fun _ => hr.mono (by decide)) (fun _ => A_multiplied.g) (fun _ => A_multiplied.fn.kp) (fun _ => A_multiplied.b) (ea_cons (ev_name 0) (ea_cons (ev_name 1) (ea_cons (ev_name 2) ea_nil))) (na_cons (na_cons (na_cons na_nil))))))))))
theorem ok_poly_divided (T : Txt K mg) {f_poly_divided : Addr} {d_poly_divided : FuncData} (A_poly_divided : DefAt K mg "poly_divided" s_poly_divided ["field", "one", "other"] f_poly_divided d_poly_divided) {f_check_field : Addr} {d_check_field : FuncData} (A_check_field : DefAt K mg "check_field" s_check_field ["field"] f_check_field d_check_field) (G_check_field : FnOk P w K mg base CX0 3 f_check_field d_check_field ["field"] (spM K 1 [] Lib.F_check_field)) {f_check_poly : Addr} {d_check_poly : FuncData} (A_check_poly : DefAt K mg "check_poly" s_check_poly ["field", "poly"] f_check_poly d_check_poly) (G_check_poly : FnOk P w K mg base CX0 5 f_check_poly d_check_poly ["field", "poly"] (spM K 2 [] Lib.F_check_poly)) {f_inverse : Addr} {d_inverse : FuncData} (A_inverse : DefAt K mg "inverse" s_inverse ["field", "number"] f_inverse d_inverse) (G_inverse : FnOk P w K mg base CX0 2 f_inverse d_inverse ["field", "number"] (spM K 2 [] Lib.F_inverse)) {f_trimmed : Addr} {d_trimmed : FuncData} (A_trimmed : DefAt K mg "trimmed" s_trimmed ["numbers"] f_trimmed d_trimmed) (G_trimmed : FnOk P w K mg base CX0 1 f_trimmed d_trimmed ["numbers"] (spM K 1 [] Lib.F_trimmed)) : FnOk P w K mg base CX0 6 f_poly_divided d_poly_divided ["field", "one", "other"] (spM K 3 [] Lib.F_poly_divided) :=
  def_ok A_poly_divided.fn sc_poly_divided rfl fun cdv A outer s H E hr =>
    (ss_cons (s_expr (ev_fn (fun _ => G_check_field) (fun _ => hr.mono (by decide)) (fun _ => A_check_field.g) (fun _ => A_check_field.fn.kp) (fun _ => A_check_field.b) (ea_cons (ev_name 0) ea_nil) (na_cons na_nil)))
    (ss_cons (s_expr (ev_fn (fun _ => G_check_poly) (fun _ => hr.mono (by decide)) (fun _ => A_check_poly.g) (fun _ => A_check_poly.fn.kp) (fun _ => A_check_poly.b) (ea_cons (ev_name 0) (ea_cons (ev_name 1) ea_nil)) (na_cons (na_cons na_nil))))
    (ss_cons (s_expr (ev_fn (fun _ => G_check_poly) (fun _ => hr.mono (by decide)) (fun _ => A_check_poly.g) (fun _ => A_check_poly.fn.kp) (fun _ => A_check_poly.b) (ea_cons (ev_name 0) (ea_cons (ev_name 2) ea_nil)) (na_cons (na_cons na_nil))))
    (ss_cons (s_if (et_cmp (od_eq (fun _ => hr.units)) (ev_name 2) (ev_tup ea_nil)) (ss_one s_never) ss_nil)
    (ss_cons (s_set 3 (ev_callTy cd_list (fun _ => T.n_list) (ea_cons (ev_name 1) ea_nil)) (fun _ => sc_poly_divided.nd))
    (ss_cons (s_set 4 (ev_repL (ev_lst (ea_cons ev_int ea_nil)) (ev_callB (cd_max (fun _ => rfl)) (fun _ => T.n_max) (ea_cons (ev_bin od_add (ev_bin od_sub (ev_callB cd_len (fun _ => T.n_len) (ea_cons (ev_name 1) ea_nil)) (ev_callB cd_len (fun _ => T.n_len) (ea_cons (ev_name 2) ea_nil))) ev_int) (ea_cons ev_int ea_nil)))) (fun _ => sc_poly_divided.nd))
    (ss_cons (s_set 5 (ev_fn (fun _ => G_inverse) (fun _ => hr.mono (by decide)) (fun _ => A_inverse.g) (fun _ => A_inverse.fn.kp) (fun _ => A_inverse.b) (ea_cons (ev_name 0) (ea_cons (ev_ix (ev_name 2) (ev_neg ev_int)) ea_nil)) (na_cons (na_cons na_nil))) (fun _ => sc_poly_divided.nd))
    (ss_cons (s_for (fun _ => PassesOwn.never) (fun _ => rfl) (ei_revR (fun _ => T.n_reversed) (er_1 (fun _ => T.n_range) (ev_callB cd_len (fun _ => T.n_len) (ea_cons (ev_name 4) ea_nil)))) (eg_name 6 (fun _ => sc_poly_divided.nd)) (ss_cons (s_set 7 (ev_bin od_mod (ev_bin od_mul (ev_ix (ev_name 3) (ev_bin od_sub (ev_bin od_add (ev_name 6) (ev_callB cd_len (fun _ => T.n_len) (ea_cons (ev_name 2) ea_nil))) ev_int)) (ev_name 5)) (ev_name 0)) (fun _ => sc_poly_divided.nd))
    (ss_cons (s_setix 4 (ev_name 7) (ev_name 6))
    (ss_one (s_for (fun _ => PassesOwn.never) (fun _ => rfl) (ei_range1 (fun _ => T.n_range) (ea_cons (ev_callB cd_len (fun _ => T.n_len) (ea_cons (ev_name 2) ea_nil)) ea_nil)) (eg_name 8 (fun _ => sc_poly_divided.nd)) (ss_one (s_setix 3 (ev_bin od_mod (ev_bin od_sub (ev_ix (ev_name 3) (ev_bin od_add (ev_name 6) (ev_name 8))) (ev_bin od_mul (ev_name 7) (ev_ix (ev_name 2) (ev_name 8)))) (ev_name 0)) (ev_bin od_add (ev_name 6) (ev_name 8)))))))))
    (ss_one (s_ret (ev_tup (ea_cons (ev_fn (fun _ => G_trimmed) (fun _ => hr.mono (by decide)) (fun _ => A_trimmed.g) (fun _ => A_trimmed.fn.kp) (fun _ => A_trimmed.b) (ea_cons (ev_name 4) ea_nil) (na_cons na_nil)) (ea_cons (ev_fn (fun _ => G_trimmed) (fun _ => hr.mono (by decide)) (fun _ => A_trimmed.g) (fun _ => A_trimmed.fn.kp) (fun _ => A_trimmed.b) (ea_cons (ev_name 3) ea_nil) (na_cons na_nil)) ea_nil)))))))))))))
theorem ok_value_at (T : Txt K mg) {f_value_at : Addr} {d_value_at : FuncData} (A_value_at : DefAt K mg "value_at" s_value_at ["field", "poly", "place"] f_value_at d_value_at) {f_check_field : Addr} {d_check_field : FuncData} (A_check_field : DefAt K mg "check_field" s_check_field ["field"] f_check_field d_check_field) (G_check_field : FnOk P w K mg base CX0 3 f_check_field d_check_field ["field"] (spM K 1 [] Lib.F_check_field)) {f_check_poly : Addr} {d_check_poly : FuncData} (A_check_poly : DefAt K mg "check_poly" s_check_poly ["field", "poly"] f_check_poly d_check_poly) (G_check_poly : FnOk P w K mg base CX0 5 f_check_poly d_check_poly ["field", "poly"] (spM K 2 [] Lib.F_check_poly)) {f_check_number : Addr} {d_check_number : FuncData} (A_check_number : DefAt K mg "check_number" s_check_number ["field", "number"] f_check_number d_check_number) (G_check_number : FnOk P w K mg base CX0 3 f_check_number d_check_number ["field", "number"] (spM K 2 [] Lib.F_check_number)) {f_evaluated : Addr} {d_evaluated : FuncData} (A_evaluated : DefAt K mg "evaluated" s_evaluated ["field", "poly", "place"] f_evaluated d_evaluated) (G_evaluated : FnOk P w K mg base CX0 1 f_evaluated d_evaluated ["field", "poly", "place"] (spM K 3 [] Lib.F_evaluated)) : FnOk P w K mg base CX0 6 f_value_at d_value_at ["field", "poly", "place"] (spM K 3 [] Lib.F_value_at) :=
  def_ok A_value_at.fn sc_value_at rfl fun cdv A outer s H E hr =>
    (ss_cons (s_expr (ev_fn (fun _ => G_check_field) (fun _ => hr.mono (by decide)) (fun _ => A_check_field.g) (fun _ => A_check_field.fn.kp) (fun _ => A_check_field.b) (ea_cons (ev_name 0) ea_nil) (na_cons na_nil)))
    (ss_cons (s_expr (ev_fn (fun _ => G_check_poly) (fun _ => hr.mono (by decide)) (fun _ => A_check_poly.g) (fun _ => A_check_poly.fn.kp) (fun _ => A_check_poly.b) (ea_cons (ev_name 0) (ea_cons (ev_name 1) ea_nil)) (na_cons (na_cons na_nil))))
    (ss_cons (s_expr (ev_fn (fun _ => G_check_number) (fun _ => hr.mono (by decide)) (fun _ => A_check_number.g) (fun _ => A_check_number.fn.kp) (fun _ => A_check_number.b) (ea_cons (ev_name 0) (ea_cons (ev_name 2) ea_nil)) (na_cons (na_cons na_nil))))
    (ss_one (s_ret (ev_fn (fun _ => G_evaluated) (fun _ => hr.mono (by decide)) (fun _ => A_evaluated.g) (fun _ => A_evaluated.fn.kp) (fun _ => A_evaluated.b) (ea_cons (ev_name 0) (ea_cons (ev_name 1) (ea_cons (ev_name 2) ea_nil))) (na_cons (na_cons (na_cons na_nil)))))))))
theorem ok_values_at (T : Txt K mg) {f_values_at : Addr} {d_values_at : FuncData} (A_values_at : DefAt K mg "values_at" s_values_at ["field", "poly", "places"] f_values_at d_values_at) {f_check_field : Addr} {d_check_field : FuncData} (A_check_field : DefAt K mg "check_field" s_check_field ["field"] f_check_field d_check_field) (G_check_field : FnOk P w K mg base CX0 3 f_check_field d_check_field ["field"] (spM K 1 [] Lib.F_check_field)) {f_check_poly : Addr} {d_check_poly : FuncData} (A_check_poly : DefAt K mg "check_poly" s_check_poly ["field", "poly"] f_check_poly d_check_poly) (G_check_poly : FnOk P w K mg base CX0 5 f_check_poly d_check_poly ["field", "poly"] (spM K 2 [] Lib.F_check_poly)) {f_check_places : Addr} {d_check_places : FuncData} (A_check_places : DefAt K mg "check_places" s_check_places ["field", "places"] f_check_places d_check_places) (G_check_places : FnOk P w K mg base CX0 3 f_check_places d_check_places ["field", "places"] (spM K 2 [] Lib.F_check_places)) {f_evaluated : Addr} {d_evaluated : FuncData} (A_evaluated : DefAt K mg "evaluated" s_evaluated ["field", "poly", "place"] f_evaluated d_evaluated) (G_evaluated : FnOk P w K mg base CX0 1 f_evaluated d_evaluated ["field", "poly", "place"] (spM K 3 [] Lib.F_evaluated)) : FnOk P w K mg base CX0 6 f_values_at d_values_at ["field", "poly", "places"] (spM K 3 [] Lib.F_values_at) :=
  def_ok A_values_at.fn sc_values_at rfl fun cdv A outer s H E hr =>
    (ss_cons (s_expr (ev_fn (fun _ => G_check_field) (fun _ => hr.mono (by decide)) (fun _ => A_check_field.g) (fun _ => A_check_field.fn.kp) (fun _ => A_check_field.b) (ea_cons (ev_name 0) ea_nil) (na_cons na_nil)))
    (ss_cons (s_expr (ev_fn (fun _ => G_check_poly) (fun _ => hr.mono (by decide)) (fun _ => A_check_poly.g) (fun _ => A_check_poly.fn.kp) (fun _ => A_check_poly.b) (ea_cons (ev_name 0) (ea_cons (ev_name 1) ea_nil)) (na_cons (na_cons na_nil))))
    (ss_cons (s_expr (ev_fn (fun _ => G_check_places) (fun _ => hr.mono (by decide)) (fun _ => A_check_places.g) (fun _ => A_check_places.fn.kp) (fun _ => A_check_places.b) (ea_cons (ev_name 0) (ea_cons (ev_name 2) ea_nil)) (na_cons (na_cons na_nil))))
    (ss_one (s_ret (ev_callTy cd_tuple (fun _ => T.n_tuple) (ea_cons (ev_comp (own := [("place", 3)]) (fun _ => rfl) (fun _ => sc_values_at.nd) (fun _ => by show BlkOk N_values_at (defScope s_values_at) _ _; exact blkOk_by (by decide +kernel)) (ei_val (ev_name 2)) (eg_name 3 (fun _ => sc_values_at.nd)) ets_nil (ev_fn (fun _ => G_evaluated) (fun _ => hr.mono (by decide)) (fun _ => A_evaluated.g) (fun _ => A_evaluated.fn.kp) (fun _ => A_evaluated.b) (ea_cons (ev_name 0) (ea_cons (ev_name 1) (ea_cons (ev_name 3) ea_nil))) (na_cons (na_cons (na_cons na_nil))))) ea_nil)))))))
theorem ok__law_dice (T : Txt K mg) {f__law_dice : Addr} {d__law_dice : FuncData} (A__law_dice : DefAt K mg "_law_dice" s__law_dice ["script", "spot"] f__law_dice d__law_dice) : FnOk P w K mg base CX0 1 f__law_dice d__law_dice ["script", "spot"] (spM K 2 [] Lib.F__law_dice) :=
  def_ok A__law_dice.fn sc__law_dice rfl fun cdv A outer s H E hr =>
    (ss_cons (s_set 2 (ev_if (et_cmp od_lt (ev_name 1) (ev_callB cd_len (fun _ => T.n_len) (ea_cons (ev_name 0) ea_nil))) (ev_callTy cd_int (fun _ => T.n_int) (ea_cons (ev_ix (ev_name 0) (ev_name 1)) ea_nil)) (ev_bin od_add (ev_bin od_mul ev_int (ev_name 1)) ev_int)) (fun _ => sc__law_dice.nd))
    (ss_cons (s_set 3 (ev_bin od_mod (ev_callB (cd_max (fun _ => rfl)) (fun _ => T.n_max) (ea_cons ev_int (ea_cons (ev_bin od_sub (ev_callB cd_abs (fun _ => T.n_abs) (ea_cons (ev_name 2) ea_nil)) (ev_bin od_pow ev_int ev_int)) ea_nil))) (ev_bin od_mul (ev_bin od_pow ev_int ev_int) (ev_bin od_pow ev_int ev_int))) (fun _ => sc__law_dice.nd))
    (ss_one (s_ret (ev_lst (ea_cons (ev_name 3) (ea_cons (ev_bin od_add (ev_bin od_add (ev_bin od_add (ev_bin od_mul (ev_bin od_mod (ev_callB cd_abs (fun _ => T.n_abs) (ea_cons (ev_name 2) ea_nil)) ev_int) ev_int) (ev_bin od_mul ev_int (ev_name 1))) (ev_bin od_mul ev_int (ev_callTy cd_int (fun _ => T.n_int) (ea_cons (ev_cmp od_lt (ev_name 2) ev_int) ea_nil)))) ev_int) (ea_cons ev_int ea_nil))))))))
theorem ok__law_roll (T : Txt K mg) {f__law_roll : Addr} {d__law_roll : FuncData} (A__law_roll : DefAt K mg "_law_roll" s__law_roll ["dice", "most"] f__law_roll d__law_roll) : FnOk P w K mg base CX0 1 f__law_roll d__law_roll ["dice", "most"] (spM K 2 [0] Lib.F__law_roll) :=
  def_ok A__law_roll.fn sc__law_roll rfl fun cdv A outer s H E hr =>
    (ss_cons (s_if (et_cmp od_gt (ev_ix (ev_name 0) ev_int) ev_int) (ss_cons (s_set 2 (ev_bin od_mod (ev_callTy cd_int (fun _ => T.n_int) (ea_cons (ev_ix (ev_name 0) ev_int) ea_nil)) (ev_name 1)) (fun _ => sc__law_roll.nd))
    (ss_cons (s_setix 0 (ev_bin od_fdiv (ev_ix (ev_name 0) ev_int) (ev_name 1)) ev_int)
    (ss_one (s_ret (ev_name 2))))) ss_nil)
    (ss_cons (s_setix 0 (ev_bin od_add (ev_ix (ev_name 0) ev_int) ev_int) ev_int)
    (ss_cons (s_set 3 (ev_bin od_mod (ev_callTy cd_int (fun _ => T.n_int) (ea_cons (ev_bin od_add (ev_ix (ev_name 0) ev_int) (ev_bin od_mul ev_int (ev_ix (ev_name 0) ev_int))) ea_nil)) ev_int) (fun _ => sc__law_roll.nd))
    (ss_cons (s_set 4 (ev_bin od_add (ev_bin od_mul (ev_bin od_mod (ev_callTy cd_int (fun _ => T.n_int) (ea_cons (ev_bin od_add (ev_bin od_mul (ev_name 3) (ev_name 3)) (ev_bin od_mul ev_int (ev_ix (ev_name 0) ev_int))) ea_nil)) ev_int) ev_int) (ev_name 3)) (fun _ => sc__law_roll.nd))
    (ss_one (s_ret (ev_bin od_mod (ev_callTy cd_int (fun _ => T.n_int) (ea_cons (ev_bin od_fdiv (ev_name 4) ev_int) ea_nil)) (ev_name 1))))))))
theorem ok__law_pick (T : Txt K mg) {f__law_pick : Addr} {d__law_pick : FuncData} (A__law_pick : DefAt K mg "_law_pick" s__law_pick ["dice", "items"] f__law_pick d__law_pick) {f__law_roll : Addr} {d__law_roll : FuncData} (A__law_roll : DefAt K mg "_law_roll" s__law_roll ["dice", "most"] f__law_roll d__law_roll) (G__law_roll : FnOk P w K mg base CX0 1 f__law_roll d__law_roll ["dice", "most"] (spM K 2 [0] Lib.F__law_roll)) : FnOk P w K mg base CX0 2 f__law_pick d__law_pick ["dice", "items"] (spM K 2 [0] Lib.F__law_pick) :=
  def_ok A__law_pick.fn sc__law_pick rfl fun cdv A outer s H E hr =>
    (ss_one (s_ret (ev_ix (ev_name 1) (ev_fnD (fun _ => G__law_roll) (fun _ => hr.mono (by decide)) (fun _ => A__law_roll.g) (fun _ => A__law_roll.fn.kp) (fun _ => A__law_roll.b) (ea_cons (ev_name 0) (ea_cons (ev_callB cd_len (fun _ => T.n_len) (ea_cons (ev_name 1) ea_nil)) ea_nil)) (na_cons (na_cons na_nil))))))
theorem ok__law_po_trim (T : Txt K mg) {f__law_po_trim : Addr} {d__law_po_trim : FuncData} (A__law_po_trim : DefAt K mg "_law_po_trim" s__law_po_trim ["numbers"] f__law_po_trim d__law_po_trim) : FnOk P w K mg base CX0 1 f__law_po_trim d__law_po_trim ["numbers"] (spM K 1 [] Lib.F__law_po_trim) :=
  def_ok A__law_po_trim.fn sc__law_po_trim rfl fun cdv A outer s H E hr =>
    (ss_cons (s_set 1 (ev_callTy cd_list (fun _ => T.n_list) (ea_cons (ev_name 0) ea_nil)) (fun _ => sc__law_po_trim.nd))
    (ss_cons (s_while EV.fuel (fun _ => PassesOwn.never) (et_w (ew_and (et_cmp (od_ne (fun _ => hr.units)) (ev_name 1) (ev_lst ea_nil)) (ew_and1 (et_cmp (od_eq (fun _ => hr.units)) (ev_ix (ev_name 1) (ev_neg ev_int)) ev_int)))) (ss_one (s_expr (ev_pop 1))))
    (ss_one (s_ret (ev_callTy cd_tuple (fun _ => T.n_tuple) (ea_cons (ev_name 1) ea_nil))))))
theorem ok__law_po_sum (T : Txt K mg) {f__law_po_sum : Addr} {d__law_po_sum : FuncData} (A__law_po_sum : DefAt K mg "_law_po_sum" s__law_po_sum ["p", "one", "other"] f__law_po_sum d__law_po_sum) {f__law_po_trim : Addr} {d__law_po_trim : FuncData} (A__law_po_trim : DefAt K mg "_law_po_trim" s__law_po_trim ["numbers"] f__law_po_trim d__law_po_trim) (G__law_po_trim : FnOk P w K mg base CX0 1 f__law_po_trim d__law_po_trim ["numbers"] (spM K 1 [] Lib.F__law_po_trim)) : FnOk P w K mg base CX0 2 f__law_po_sum d__law_po_sum ["p", "one", "other"] (spM K 3 [] Lib.F__law_po_sum) :=
  def_ok A__law_po_sum.fn sc__law_po_sum rfl fun cdv A outer s H E hr =>
    (ss_cons (s_set 3 (ev_repL (ev_lst (ea_cons ev_int ea_nil)) (ev_callB (cd_max (fun _ => rfl)) (fun _ => T.n_max) (ea_cons (ev_callB cd_len (fun _ => T.n_len) (ea_cons (ev_name 1) ea_nil)) (ea_cons (ev_callB cd_len (fun _ => T.n_len) (ea_cons (ev_name 2) ea_nil)) ea_nil)))) (fun _ => sc__law_po_sum.nd))
    (ss_cons (s_for (fun _ => PassesOwn.never) (fun _ => rfl) (ei_enumA (fun _ => T.n_enumerate) (ea_cons (ev_name 1) ea_nil)) (eg_tup [4, 5] (fun _ => rfl) (fun _ => (pgs_cons (pg_name (i := 4) sc__law_po_sum.nd rfl (by first | exact Or.inl rfl | exact Or.inr rfl)) (pgs_cons (pg_name (i := 5) sc__law_po_sum.nd rfl (by first | exact Or.inl rfl | exact Or.inr rfl)) pgs_nil)))) (ss_one (s_setix 3 (ev_name 5) (ev_name 4))))
    (ss_cons (s_for (fun _ => PassesOwn.never) (fun _ => rfl) (ei_enumA (fun _ => T.n_enumerate) (ea_cons (ev_name 2) ea_nil)) (eg_tup [4, 5] (fun _ => rfl) (fun _ => (pgs_cons (pg_name (i := 4) sc__law_po_sum.nd rfl (by first | exact Or.inl rfl | exact Or.inr rfl)) (pgs_cons (pg_name (i := 5) sc__law_po_sum.nd rfl (by first | exact Or.inl rfl | exact Or.inr rfl)) pgs_nil)))) (ss_one (s_setix 3 (ev_bin od_mod (ev_callTy cd_int (fun _ => T.n_int) (ea_cons (ev_bin od_add (ev_ix (ev_name 3) (ev_name 4)) (ev_name 5)) ea_nil)) (ev_name 0)) (ev_name 4))))
    (ss_one (s_ret (ev_fn (fun _ => G__law_po_trim) (fun _ => hr.mono (by decide)) (fun _ => A__law_po_trim.g) (fun _ => A__law_po_trim.fn.kp) (fun _ => A__law_po_trim.b) (ea_cons (ev_name 3) ea_nil) (na_cons na_nil)))))))
theorem ok__law_po_scaled (T : Txt K mg) {f__law_po_scaled : Addr} {d__law_po_scaled : FuncData} (A__law_po_scaled : DefAt K mg "_law_po_scaled" s__law_po_scaled ["p", "poly", "number"] f__law_po_scaled d__law_po_scaled) {f__law_po_trim : Addr} {d__law_po_trim : FuncData} (A__law_po_trim : DefAt K mg "_law_po_trim" s__law_po_trim ["numbers"] f__law_po_trim d__law_po_trim) (G__law_po_trim : FnOk P w K mg base CX0 1 f__law_po_trim d__law_po_trim ["numbers"] (spM K 1 [] Lib.F__law_po_trim)) : FnOk P w K mg base CX0 2 f__law_po_scaled d__law_po_scaled ["p", "poly", "number"] (spM K 3 [] Lib.F__law_po_scaled) :=
  def_ok A__law_po_scaled.fn sc__law_po_scaled rfl fun cdv A outer s H E hr =>
    (ss_one (s_ret (ev_fn (fun _ => G__law_po_trim) (fun _ => hr.mono (by decide)) (fun _ => A__law_po_trim.g) (fun _ => A__law_po_trim.fn.kp) (fun _ => A__law_po_trim.b) (ea_cons (ev_comp (own := [("one", 3)]) (fun _ => rfl) (fun _ => sc__law_po_scaled.nd) (fun _ => by show BlkOk N__law_po_scaled (defScope s__law_po_scaled) _ _; exact blkOk_by (by decide +kernel)) (ei_val (ev_name 1)) (eg_name 3 (fun _ => sc__law_po_scaled.nd)) ets_nil (ev_bin od_mod (ev_callTy cd_int (fun _ => T.n_int) (ea_cons (ev_bin od_mul (ev_name 3) (ev_name 2)) ea_nil)) (ev_name 0))) ea_nil) (na_cons na_nil))))
theorem ok__law_po_times (T : Txt K mg) {f__law_po_times : Addr} {d__law_po_times : FuncData} (A__law_po_times : DefAt K mg "_law_po_times" s__law_po_times ["p", "one", "other"] f__law_po_times d__law_po_times) {f__law_po_trim : Addr} {d__law_po_trim : FuncData} (A__law_po_trim : DefAt K mg "_law_po_trim" s__law_po_trim ["numbers"] f__law_po_trim d__law_po_trim) (G__law_po_trim : FnOk P w K mg base CX0 1 f__law_po_trim d__law_po_trim ["numbers"] (spM K 1 [] Lib.F__law_po_trim)) : FnOk P w K mg base CX0 2 f__law_po_times d__law_po_times ["p", "one", "other"] (spM K 3 [] Lib.F__law_po_times) :=
  def_ok A__law_po_times.fn sc__law_po_times rfl fun cdv A outer s H E hr =>
    (ss_cons (s_set 3 (ev_repL (ev_lst (ea_cons ev_int ea_nil)) (ev_bin od_add (ev_callB cd_len (fun _ => T.n_len) (ea_cons (ev_name 1) ea_nil)) (ev_callB cd_len (fun _ => T.n_len) (ea_cons (ev_name 2) ea_nil)))) (fun _ => sc__law_po_times.nd))
    (ss_cons (s_for (fun _ => PassesOwn.never) (fun _ => rfl) (ei_enumA (fun _ => T.n_enumerate) (ea_cons (ev_name 1) ea_nil)) (eg_tup [4, 5] (fun _ => rfl) (fun _ => (pgs_cons (pg_name (i := 4) sc__law_po_times.nd rfl (by first | exact Or.inl rfl | exact Or.inr rfl)) (pgs_cons (pg_name (i := 5) sc__law_po_times.nd rfl (by first | exact Or.inl rfl | exact Or.inr rfl)) pgs_nil)))) (ss_one (s_for (fun _ => PassesOwn.never) (fun _ => rfl) (ei_enumA (fun _ => T.n_enumerate) (ea_cons (ev_name 2) ea_nil)) (eg_tup [6, 7] (fun _ => rfl) (fun _ => (pgs_cons (pg_name (i := 6) sc__law_po_times.nd rfl (by first | exact Or.inl rfl | exact Or.inr rfl)) (pgs_cons (pg_name (i := 7) sc__law_po_times.nd rfl (by first | exact Or.inl rfl | exact Or.inr rfl)) pgs_nil)))) (ss_one (s_setix 3 (ev_bin od_mod (ev_callTy cd_int (fun _ => T.n_int) (ea_cons (ev_bin od_add (ev_ix (ev_name 3) (ev_bin od_add (ev_name 4) (ev_name 6))) (ev_bin od_mul (ev_name 5) (ev_name 7))) ea_nil)) (ev_name 0)) (ev_bin od_add (ev_name 4) (ev_name 6)))))))
    (ss_one (s_ret (ev_fn (fun _ => G__law_po_trim) (fun _ => hr.mono (by decide)) (fun _ => A__law_po_trim.g) (fun _ => A__law_po_trim.fn.kp) (fun _ => A__law_po_trim.b) (ea_cons (ev_name 3) ea_nil) (na_cons na_nil))))))
theorem ok__law_po_value (T : Txt K mg) {f__law_po_value : Addr} {d__law_po_value : FuncData} (A__law_po_value : DefAt K mg "_law_po_value" s__law_po_value ["p", "poly", "place"] f__law_po_value d__law_po_value) : FnOk P w K mg base CX0 1 f__law_po_value d__law_po_value ["p", "poly", "place"] (spM K 3 [] Lib.F__law_po_value) :=
  def_ok A__law_po_value.fn sc__law_po_value rfl fun cdv A outer s H E hr =>
    (ss_cons (s_parT [3, 4] (ea_cons ev_int (ea_cons ev_int ea_nil)) (fun _ => rfl) (fun _ => (pgs_cons (pg_name (i := 3) sc__law_po_value.nd rfl (by first | exact Or.inl rfl | exact Or.inr rfl)) (pgs_cons (pg_name (i := 4) sc__law_po_value.nd rfl (by first | exact Or.inl rfl | exact Or.inr rfl)) pgs_nil))))
    (ss_cons (s_for (fun _ => PassesOwn.never) (fun _ => rfl) (ei_val (ev_name 1)) (eg_name 5 (fun _ => sc__law_po_value.nd)) (ss_one (s_par2 3 4 (ea_cons (ev_bin od_mod (ev_callTy cd_int (fun _ => T.n_int) (ea_cons (ev_bin od_add (ev_name 3) (ev_bin od_mul (ev_name 5) (ev_name 4))) ea_nil)) (ev_name 0)) (ea_cons (ev_bin od_mod (ev_callTy cd_int (fun _ => T.n_int) (ea_cons (ev_bin od_mul (ev_name 4) (ev_name 2)) ea_nil)) (ev_name 0)) ea_nil)) (fun _ => rfl) (fun _ => sc__law_po_value.nd))))
    (ss_one (s_ret (ev_name 3)))))
theorem ok__law_po_drawn (T : Txt K mg) {f__law_po_drawn : Addr} {d__law_po_drawn : FuncData} (A__law_po_drawn : DefAt K mg "_law_po_drawn" s__law_po_drawn ["dice", "p", "most"] f__law_po_drawn d__law_po_drawn) {f__law_po_trim : Addr} {d__law_po_trim : FuncData} (A__law_po_trim : DefAt K mg "_law_po_trim" s__law_po_trim ["numbers"] f__law_po_trim d__law_po_trim) (G__law_po_trim : FnOk P w K mg base CX0 1 f__law_po_trim d__law_po_trim ["numbers"] (spM K 1 [] Lib.F__law_po_trim)) {f__law_roll : Addr} {d__law_roll : FuncData} (A__law_roll : DefAt K mg "_law_roll" s__law_roll ["dice", "most"] f__law_roll d__law_roll) (G__law_roll : FnOk P w K mg base CX0 1 f__law_roll d__law_roll ["dice", "most"] (spM K 2 [0] Lib.F__law_roll)) {f__law_pick : Addr} {d__law_pick : FuncData} (A__law_pick : DefAt K mg "_law_pick" s__law_pick ["dice", "items"] f__law_pick d__law_pick) (G__law_pick : FnOk P w K mg base CX0 2 f__law_pick d__law_pick ["dice", "items"] (spM K 2 [0] Lib.F__law_pick)) : FnOk P w K mg base CX0 3 f__law_po_drawn d__law_po_drawn ["dice", "p", "most"] (spM K 3 [0] Lib.F__law_po_drawn) :=
  def_ok A__law_po_drawn.fn sc__law_po_drawn rfl fun cdv A outer s H E hr =>
    (ss_one (s_ret (ev_fn (fun _ => G__law_po_trim) (fun _ => hr.mono (by decide)) (fun _ => A__law_po_trim.g) (fun _ => A__law_po_trim.fn.kp) (fun _ => A__law_po_trim.b) (ea_cons (ev_comp (own := [("turn", 3)]) (fun _ => rfl) (fun _ => sc__law_po_drawn.nd) (fun _ => by show BlkOk N__law_po_drawn (defScope s__law_po_drawn) _ _; exact blkOk_by (by decide +kernel)) (ei_range1 (fun _ => T.n_range) (ea_cons (ev_fnD (fun _ => G__law_roll) (fun _ => hr.mono (by decide)) (fun _ => A__law_roll.g) (fun _ => A__law_roll.fn.kp) (fun _ => A__law_roll.b) (ea_cons (ev_name 0) (ea_cons (ev_bin od_add (ev_name 2) ev_int) ea_nil)) (na_cons (na_cons na_nil))) ea_nil)) (eg_name 3 (fun _ => sc__law_po_drawn.nd)) ets_nil (ev_fnD (fun _ => G__law_pick) (fun _ => hr.mono (by decide)) (fun _ => A__law_pick.g) (fun _ => A__law_pick.fn.kp) (fun _ => A__law_pick.b) (ea_cons (ev_name 0) (ea_cons (ev_lst (ea_cons (ev_fnD (fun _ => G__law_roll) (fun _ => hr.mono (by decide)) (fun _ => A__law_roll.g) (fun _ => A__law_roll.fn.kp) (fun _ => A__law_roll.b) (ea_cons (ev_name 0) (ea_cons (ev_name 1) ea_nil)) (na_cons (na_cons na_nil))) (ea_cons (ev_fnD (fun _ => G__law_roll) (fun _ => hr.mono (by decide)) (fun _ => A__law_roll.g) (fun _ => A__law_roll.fn.kp) (fun _ => A__law_roll.b) (ea_cons (ev_name 0) (ea_cons (ev_name 1) ea_nil)) (na_cons (na_cons na_nil))) (ea_cons ev_int (ea_cons ev_int (ea_cons (ev_bin od_sub (ev_name 1) ev_int) ea_nil)))))) ea_nil)) (na_cons (na_cons na_nil)))) ea_nil) (na_cons na_nil))))
theorem ok__law_po_places (T : Txt K mg) {f__law_po_places : Addr} {d__law_po_places : FuncData} (A__law_po_places : DefAt K mg "_law_po_places" s__law_po_places ["dice", "p", "many", "least"] f__law_po_places d__law_po_places) {f__law_roll : Addr} {d__law_roll : FuncData} (A__law_roll : DefAt K mg "_law_roll" s__law_roll ["dice", "most"] f__law_roll d__law_roll) (G__law_roll : FnOk P w K mg base CX0 1 f__law_roll d__law_roll ["dice", "most"] (spM K 2 [0] Lib.F__law_roll)) : FnOk P w K mg base CX0 2 f__law_po_places d__law_po_places ["dice", "p", "many", "least"] (spM K 4 [0] Lib.F__law_po_places) :=
  def_ok A__law_po_places.fn sc__law_po_places rfl fun cdv A outer s H E hr =>
    (ss_cons (s_set 4 (ev_lst ea_nil) (fun _ => sc__law_po_places.nd))
    (ss_cons (s_for (fun _ => PassesOwn.never) (fun _ => rfl) (ei_range1 (fun _ => T.n_range) (ea_cons (ev_bin od_mul (ev_name 2) ev_int) ea_nil)) (eg_name 5 (fun _ => sc__law_po_places.nd)) (ss_cons (s_set 6 (ev_bin od_add (ev_name 3) (ev_fnD (fun _ => G__law_roll) (fun _ => hr.mono (by decide)) (fun _ => A__law_roll.g) (fun _ => A__law_roll.fn.kp) (fun _ => A__law_roll.b) (ea_cons (ev_name 0) (ea_cons (ev_bin od_sub (ev_name 1) (ev_name 3)) ea_nil)) (na_cons (na_cons na_nil)))) (fun _ => sc__law_po_places.nd))
    (ss_one (s_if (et_w (ew_and (et_cmp od_notin (ev_name 6) (ev_name 4)) (ew_and1 (et_cmp od_lt (ev_callB cd_len (fun _ => T.n_len) (ea_cons (ev_name 4) ea_nil)) (ev_name 2))))) (ss_one (s_app 4 (ev_name 6))) ss_nil))))
    (ss_one (s_ret (ev_if (et_cmp (od_ne (fun _ => hr.units)) (ev_name 4) (ev_lst ea_nil)) (ev_callTy cd_tuple (fun _ => T.n_tuple) (ea_cons (ev_name 4) ea_nil)) (ev_tup (ea_cons (ev_name 3) ea_nil)))))))
theorem ok__law_po_field (T : Txt K mg) {f__law_po_field : Addr} {d__law_po_field : FuncData} (A__law_po_field : DefAt K mg "_law_po_field" s__law_po_field ["dice"] f__law_po_field d__law_po_field) {f__law_pick : Addr} {d__law_pick : FuncData} (A__law_pick : DefAt K mg "_law_pick" s__law_pick ["dice", "items"] f__law_pick d__law_pick) (G__law_pick : FnOk P w K mg base CX0 2 f__law_pick d__law_pick ["dice", "items"] (spM K 2 [0] Lib.F__law_pick)) : FnOk P w K mg base CX0 3 f__law_po_field d__law_po_field ["dice"] (spM K 1 [0] Lib.F__law_po_field) :=
  def_ok A__law_po_field.fn sc__law_po_field rfl fun cdv A outer s H E hr =>
    (ss_one (s_ret (ev_fnD (fun _ => G__law_pick) (fun _ => hr.mono (by decide)) (fun _ => A__law_pick.g) (fun _ => A__law_pick.fn.kp) (fun _ => A__law_pick.b) (ea_cons (ev_name 0) (ea_cons (ev_lst (ea_cons ev_int (ea_cons ev_int (ea_cons ev_int (ea_cons ev_int (ea_cons ev_int (ea_cons ev_int (ea_cons ev_int (ea_cons ev_int (ea_cons ev_int (ea_cons ev_int ea_nil))))))))))) ea_nil)) (na_cons (na_cons na_nil)))))
theorem ok__law_divided_right (T : Txt K mg) {f__law_divided_right : Addr} {d__law_divided_right : FuncData} (A__law_divided_right : DefAt K mg "_law_divided_right" s__law_divided_right ["p", "one", "other"] f__law_divided_right d__law_divided_right) {f_poly_divided : Addr} {d_poly_divided : FuncData} (A_poly_divided : DefAt K mg "poly_divided" s_poly_divided ["field", "one", "other"] f_poly_divided d_poly_divided) (G_poly_divided : FnOk P w K mg base CX0 6 f_poly_divided d_poly_divided ["field", "one", "other"] (spM K 3 [] Lib.F_poly_divided)) {f_is_poly : Addr} {d_is_poly : FuncData} (A_is_poly : DefAt K mg "is_poly" s_is_poly ["field", "value"] f_is_poly d_is_poly) (G_is_poly : FnOk P w K mg base CX0 4 f_is_poly d_is_poly ["field", "value"] (spM K 2 [] Lib.F_is_poly)) {f__law_po_sum : Addr} {d__law_po_sum : FuncData} (A__law_po_sum : DefAt K mg "_law_po_sum" s__law_po_sum ["p", "one", "other"] f__law_po_sum d__law_po_sum) (G__law_po_sum : FnOk P w K mg base CX0 2 f__law_po_sum d__law_po_sum ["p", "one", "other"] (spM K 3 [] Lib.F__law_po_sum)) {f__law_po_times : Addr} {d__law_po_times : FuncData} (A__law_po_times : DefAt K mg "_law_po_times" s__law_po_times ["p", "one", "other"] f__law_po_times d__law_po_times) (G__law_po_times : FnOk P w K mg base CX0 2 f__law_po_times d__law_po_times ["p", "one", "other"] (spM K 3 [] Lib.F__law_po_times)) : FnOk P w K mg base CX0 7 f__law_divided_right d__law_divided_right ["p", "one", "other"] (spM K 3 [] F__law_divided_right) :=
  def_ok A__law_divided_right.fn sc__law_divided_right rfl fun cdv A outer s H E hr =>
    (ss_cons (s_asg (ev_fn (fun _ => G_poly_divided) (fun _ => hr.mono (by decide)) (fun _ => A_poly_divided.g) (fun _ => A_poly_divided.fn.kp) (fun _ => A_poly_divided.b) (ea_cons (ev_name 0) (ea_cons (ev_name 1) (ea_cons (ev_name 2) ea_nil))) (na_cons (na_cons (na_cons na_nil)))) (eg_tup [3, 4] (fun _ => rfl) (fun _ => (pgs_cons (pg_name (i := 3) sc__law_divided_right.nd rfl (by first | exact Or.inl rfl | exact Or.inr rfl)) (pgs_cons (pg_name (i := 4) sc__law_divided_right.nd rfl (by first | exact Or.inl rfl | exact Or.inr rfl)) pgs_nil)))))
    (ss_cons (s_if (et_w (ew_or (et_not (et_tru (ev_fn (fun _ => G_is_poly) (fun _ => hr.mono (by decide)) (fun _ => A_is_poly.g) (fun _ => A_is_poly.fn.kp) (fun _ => A_is_poly.b) (ea_cons (ev_name 0) (ea_cons (ev_name 3) ea_nil)) (na_cons (na_cons na_nil))))) (ew_or (et_not (et_tru (ev_fn (fun _ => G_is_poly) (fun _ => hr.mono (by decide)) (fun _ => A_is_poly.g) (fun _ => A_is_poly.fn.kp) (fun _ => A_is_poly.b) (ea_cons (ev_name 0) (ea_cons (ev_name 4) ea_nil)) (na_cons (na_cons na_nil))))) (ew_or1 (et_cmp od_ge (ev_callB cd_len (fun _ => T.n_len) (ea_cons (ev_name 4) ea_nil)) (ev_callB cd_len (fun _ => T.n_len) (ea_cons (ev_name 2) ea_nil))))))) (ss_one (s_ret ev_bl)) ss_nil)
    (ss_one (s_ret (ev_cmp (od_eq (fun _ => hr.units)) (ev_fn (fun _ => G__law_po_sum) (fun _ => hr.mono (by decide)) (fun _ => A__law_po_sum.g) (fun _ => A__law_po_sum.fn.kp) (fun _ => A__law_po_sum.b) (ea_cons (ev_name 0) (ea_cons (ev_fn (fun _ => G__law_po_times) (fun _ => hr.mono (by decide)) (fun _ => A__law_po_times.g) (fun _ => A__law_po_times.fn.kp) (fun _ => A__law_po_times.b) (ea_cons (ev_name 0) (ea_cons (ev_name 3) (ea_cons (ev_name 2) ea_nil))) (na_cons (na_cons (na_cons na_nil)))) (ea_cons (ev_name 4) ea_nil))) (na_cons (na_cons (na_cons na_nil)))) (ev_name 1))))))
theorem ok__law_right (T : Txt K mg) {f__law_right : Addr} {d__law_right : FuncData} (A__law_right : DefAt K mg "_law_right" s__law_right ["dice"] f__law_right d__law_right) {f__law_po_field : Addr} {d__law_po_field : FuncData} (A__law_po_field : DefAt K mg "_law_po_field" s__law_po_field ["dice"] f__law_po_field d__law_po_field) (G__law_po_field : FnOk P w K mg base CX0 3 f__law_po_field d__law_po_field ["dice"] (spM K 1 [0] Lib.F__law_po_field)) {f__law_po_drawn : Addr} {d__law_po_drawn : FuncData} (A__law_po_drawn : DefAt K mg "_law_po_drawn" s__law_po_drawn ["dice", "p", "most"] f__law_po_drawn d__law_po_drawn) (G__law_po_drawn : FnOk P w K mg base CX0 3 f__law_po_drawn d__law_po_drawn ["dice", "p", "most"] (spM K 3 [0] Lib.F__law_po_drawn)) {f__law_roll : Addr} {d__law_roll : FuncData} (A__law_roll : DefAt K mg "_law_roll" s__law_roll ["dice", "most"] f__law_roll d__law_roll) (G__law_roll : FnOk P w K mg base CX0 1 f__law_roll d__law_roll ["dice", "most"] (spM K 2 [0] Lib.F__law_roll)) {f__law_po_sum : Addr} {d__law_po_sum : FuncData} (A__law_po_sum : DefAt K mg "_law_po_sum" s__law_po_sum ["p", "one", "other"] f__law_po_sum d__law_po_sum) (G__law_po_sum : FnOk P w K mg base CX0 2 f__law_po_sum d__law_po_sum ["p", "one", "other"] (spM K 3 [] Lib.F__law_po_sum)) {f__law_po_scaled : Addr} {d__law_po_scaled : FuncData} (A__law_po_scaled : DefAt K mg "_law_po_scaled" s__law_po_scaled ["p", "poly", "number"] f__law_po_scaled d__law_po_scaled) (G__law_po_scaled : FnOk P w K mg base CX0 2 f__law_po_scaled d__law_po_scaled ["p", "poly", "number"] (spM K 3 [] Lib.F__law_po_scaled)) {f__law_po_times : Addr} {d__law_po_times : FuncData} (A__law_po_times : DefAt K mg "_law_po_times" s__law_po_times ["p", "one", "other"] f__law_po_times d__law_po_times) (G__law_po_times : FnOk P w K mg base CX0 2 f__law_po_times d__law_po_times ["p", "one", "other"] (spM K 3 [] Lib.F__law_po_times)) {f_poly_sum : Addr} {d_poly_sum : FuncData} (A_poly_sum : DefAt K mg "poly_sum" s_poly_sum ["field", "one", "other"] f_poly_sum d_poly_sum) (G_poly_sum : FnOk P w K mg base CX0 6 f_poly_sum d_poly_sum ["field", "one", "other"] (spM K 3 [] Lib.F_poly_sum)) {f_poly_scaled : Addr} {d_poly_scaled : FuncData} (A_poly_scaled : DefAt K mg "poly_scaled" s_poly_scaled ["field", "poly", "number"] f_poly_scaled d_poly_scaled) (G_poly_scaled : FnOk P w K mg base CX0 6 f_poly_scaled d_poly_scaled ["field", "poly", "number"] (spM K 3 [] Lib.F_poly_scaled)) {f_poly_product : Addr} {d_poly_product : FuncData} (A_poly_product : DefAt K mg "poly_product" s_poly_product ["field", "one", "other"] f_poly_product d_poly_product) (G_poly_product : FnOk P w K mg base CX0 6 f_poly_product d_poly_product ["field", "one", "other"] (spM K 3 [] Lib.F_poly_product)) {f__law_divided_right : Addr} {d__law_divided_right : FuncData} (A__law_divided_right : DefAt K mg "_law_divided_right" s__law_divided_right ["p", "one", "other"] f__law_divided_right d__law_divided_right) (G__law_divided_right : FnOk P w K mg base CX0 7 f__law_divided_right d__law_divided_right ["p", "one", "other"] (spM K 3 [] F__law_divided_right)) {f_poly_divided : Addr} {d_poly_divided : FuncData} (A_poly_divided : DefAt K mg "poly_divided" s_poly_divided ["field", "one", "other"] f_poly_divided d_poly_divided) (G_poly_divided : FnOk P w K mg base CX0 6 f_poly_divided d_poly_divided ["field", "one", "other"] (spM K 3 [] Lib.F_poly_divided)) {f__law_po_places : Addr} {d__law_po_places : FuncData} (A__law_po_places : DefAt K mg "_law_po_places" s__law_po_places ["dice", "p", "many", "least"] f__law_po_places d__law_po_places) (G__law_po_places : FnOk P w K mg base CX0 2 f__law_po_places d__law_po_places ["dice", "p", "many", "least"] (spM K 4 [0] Lib.F__law_po_places)) {f_values_at : Addr} {d_values_at : FuncData} (A_values_at : DefAt K mg "values_at" s_values_at ["field", "poly", "places"] f_values_at d_values_at) (G_values_at : FnOk P w K mg base CX0 6 f_values_at d_values_at ["field", "poly", "places"] (spM K 3 [] Lib.F_values_at)) {f__law_po_value : Addr} {d__law_po_value : FuncData} (A__law_po_value : DefAt K mg "_law_po_value" s__law_po_value ["p", "poly", "place"] f__law_po_value d__law_po_value) (G__law_po_value : FnOk P w K mg base CX0 1 f__law_po_value d__law_po_value ["p", "poly", "place"] (spM K 3 [] Lib.F__law_po_value)) {f_value_at : Addr} {d_value_at : FuncData} (A_value_at : DefAt K mg "value_at" s_value_at ["field", "poly", "place"] f_value_at d_value_at) (G_value_at : FnOk P w K mg base CX0 6 f_value_at d_value_at ["field", "poly", "place"] (spM K 3 [] Lib.F_value_at)) : FnOk P w K mg base CX0 8 f__law_right d__law_right ["dice"] (spM K 1 [0] F__law_right) :=
  def_ok A__law_right.fn sc__law_right rfl fun cdv A outer s H E hr =>
    (ss_cons (s_set 1 (ev_fnD (fun _ => G__law_po_field) (fun _ => hr.mono (by decide)) (fun _ => A__law_po_field.g) (fun _ => A__law_po_field.fn.kp) (fun _ => A__law_po_field.b) (ea_cons (ev_name 0) ea_nil) (na_cons na_nil)) (fun _ => sc__law_right.nd))
    (ss_cons (s_parT [2, 3, 4] (ea_cons (ev_fnD (fun _ => G__law_po_drawn) (fun _ => hr.mono (by decide)) (fun _ => A__law_po_drawn.g) (fun _ => A__law_po_drawn.fn.kp) (fun _ => A__law_po_drawn.b) (ea_cons (ev_name 0) (ea_cons (ev_name 1) (ea_cons ev_int ea_nil))) (na_cons (na_cons (na_cons na_nil)))) (ea_cons (ev_fnD (fun _ => G__law_po_drawn) (fun _ => hr.mono (by decide)) (fun _ => A__law_po_drawn.g) (fun _ => A__law_po_drawn.fn.kp) (fun _ => A__law_po_drawn.b) (ea_cons (ev_name 0) (ea_cons (ev_name 1) (ea_cons ev_int ea_nil))) (na_cons (na_cons (na_cons na_nil)))) (ea_cons (ev_fnD (fun _ => G__law_roll) (fun _ => hr.mono (by decide)) (fun _ => A__law_roll.g) (fun _ => A__law_roll.fn.kp) (fun _ => A__law_roll.b) (ea_cons (ev_name 0) (ea_cons (ev_name 1) ea_nil)) (na_cons (na_cons na_nil))) ea_nil))) (fun _ => rfl) (fun _ => (pgs_cons (pg_name (i := 2) sc__law_right.nd rfl (by first | exact Or.inl rfl | exact Or.inr rfl)) (pgs_cons (pg_name (i := 3) sc__law_right.nd rfl (by first | exact Or.inl rfl | exact Or.inr rfl)) (pgs_cons (pg_name (i := 4) sc__law_right.nd rfl (by first | exact Or.inl rfl | exact Or.inr rfl)) pgs_nil)))))
    (ss_cons (s_if (et_cmp (od_eq (fun _ => hr.units)) (ev_fnD (fun _ => G__law_roll) (fun _ => hr.mono (by decide)) (fun _ => A__law_roll.g) (fun _ => A__law_roll.fn.kp) (fun _ => A__law_roll.b) (ea_cons (ev_name 0) (ea_cons ev_int ea_nil)) (na_cons (na_cons na_nil))) ev_int) (ss_one (s_set 3 (ev_fn (fun _ => G__law_po_sum) (fun _ => hr.mono (by decide)) (fun _ => A__law_po_sum.g) (fun _ => A__law_po_sum.fn.kp) (fun _ => A__law_po_sum.b) (ea_cons (ev_name 1) (ea_cons (ev_fn (fun _ => G__law_po_scaled) (fun _ => hr.mono (by decide)) (fun _ => A__law_po_scaled.g) (fun _ => A__law_po_scaled.fn.kp) (fun _ => A__law_po_scaled.b) (ea_cons (ev_name 1) (ea_cons (ev_name 2) (ea_cons (ev_bin od_sub (ev_name 1) ev_int) ea_nil))) (na_cons (na_cons (na_cons na_nil)))) (ea_cons (ev_fnD (fun _ => G__law_po_drawn) (fun _ => hr.mono (by decide)) (fun _ => A__law_po_drawn.g) (fun _ => A__law_po_drawn.fn.kp) (fun _ => A__law_po_drawn.b) (ea_cons (ev_name 0) (ea_cons (ev_name 1) (ea_cons ev_int ea_nil))) (na_cons (na_cons (na_cons na_nil)))) ea_nil))) (na_cons (na_cons (na_cons na_nil)))) (fun _ => sc__law_right.nd))) ss_nil)
    (ss_cons (s_set 5 (ev_fn (fun _ => G__law_po_times) (fun _ => hr.mono (by decide)) (fun _ => A__law_po_times.g) (fun _ => A__law_po_times.fn.kp) (fun _ => A__law_po_times.b) (ea_cons (ev_name 1) (ea_cons (ev_name 2) (ea_cons (ev_name 3) ea_nil))) (na_cons (na_cons (na_cons na_nil)))) (fun _ => sc__law_right.nd))
    (ss_cons (s_if (et_w (ew_or (et_cmp (od_ne (fun _ => hr.units)) (ev_fn (fun _ => G_poly_sum) (fun _ => hr.mono (by decide)) (fun _ => A_poly_sum.g) (fun _ => A_poly_sum.fn.kp) (fun _ => A_poly_sum.b) (ea_cons (ev_name 1) (ea_cons (ev_name 2) (ea_cons (ev_name 3) ea_nil))) (na_cons (na_cons (na_cons na_nil)))) (ev_fn (fun _ => G__law_po_sum) (fun _ => hr.mono (by decide)) (fun _ => A__law_po_sum.g) (fun _ => A__law_po_sum.fn.kp) (fun _ => A__law_po_sum.b) (ea_cons (ev_name 1) (ea_cons (ev_name 2) (ea_cons (ev_name 3) ea_nil))) (na_cons (na_cons (na_cons na_nil))))) (ew_or1 (et_cmp (od_ne (fun _ => hr.units)) (ev_fn (fun _ => G_poly_scaled) (fun _ => hr.mono (by decide)) (fun _ => A_poly_scaled.g) (fun _ => A_poly_scaled.fn.kp) (fun _ => A_poly_scaled.b) (ea_cons (ev_name 1) (ea_cons (ev_name 2) (ea_cons (ev_name 4) ea_nil))) (na_cons (na_cons (na_cons na_nil)))) (ev_fn (fun _ => G__law_po_scaled) (fun _ => hr.mono (by decide)) (fun _ => A__law_po_scaled.g) (fun _ => A__law_po_scaled.fn.kp) (fun _ => A__law_po_scaled.b) (ea_cons (ev_name 1) (ea_cons (ev_name 2) (ea_cons (ev_name 4) ea_nil))) (na_cons (na_cons (na_cons na_nil)))))))) (ss_one (s_ret ev_bl)) ss_nil)
    (ss_cons (s_if (et_w (ew_or (et_cmp (od_ne (fun _ => hr.units)) (ev_fn (fun _ => G_poly_product) (fun _ => hr.mono (by decide)) (fun _ => A_poly_product.g) (fun _ => A_poly_product.fn.kp) (fun _ => A_poly_product.b) (ea_cons (ev_name 1) (ea_cons (ev_name 2) (ea_cons (ev_name 3) ea_nil))) (na_cons (na_cons (na_cons na_nil)))) (ev_name 5)) (ew_or (et_cmp (od_ne (fun _ => hr.units)) (ev_fn (fun _ => G_poly_scaled) (fun _ => hr.mono (by decide)) (fun _ => A_poly_scaled.g) (fun _ => A_poly_scaled.fn.kp) (fun _ => A_poly_scaled.b) (ea_cons (ev_name 1) (ea_cons (ev_name 2) (ea_cons ev_int ea_nil))) (na_cons (na_cons (na_cons na_nil)))) (ev_tup ea_nil)) (ew_or1 (et_cmp (od_ne (fun _ => hr.units)) (ev_fn (fun _ => G_poly_sum) (fun _ => hr.mono (by decide)) (fun _ => A_poly_sum.g) (fun _ => A_poly_sum.fn.kp) (fun _ => A_poly_sum.b) (ea_cons (ev_name 1) (ea_cons (ev_name 2) (ea_cons (ev_fn (fun _ => G__law_po_scaled) (fun _ => hr.mono (by decide)) (fun _ => A__law_po_scaled.g) (fun _ => A__law_po_scaled.fn.kp) (fun _ => A__law_po_scaled.b) (ea_cons (ev_name 1) (ea_cons (ev_name 2) (ea_cons (ev_bin od_sub (ev_name 1) ev_int) ea_nil))) (na_cons (na_cons (na_cons na_nil)))) ea_nil))) (na_cons (na_cons (na_cons na_nil)))) (ev_tup ea_nil)))))) (ss_one (s_ret ev_bl)) ss_nil)
    (ss_cons (s_if (et_w (ew_and (et_cmp (od_ne (fun _ => hr.units)) (ev_name 3) (ev_tup ea_nil)) (ew_and1 (et_w (ew_or (et_not (et_tru (ev_fn (fun _ => G__law_divided_right) (fun _ => hr.mono (by decide)) (fun _ => A__law_divided_right.g) (fun _ => A__law_divided_right.fn.kp) (fun _ => A__law_divided_right.b) (ea_cons (ev_name 1) (ea_cons (ev_name 2) (ea_cons (ev_name 3) ea_nil))) (na_cons (na_cons (na_cons na_nil)))))) (ew_or1 (et_cmp (od_ne (fun _ => hr.units)) (ev_fn (fun _ => G_poly_divided) (fun _ => hr.mono (by decide)) (fun _ => A_poly_divided.g) (fun _ => A_poly_divided.fn.kp) (fun _ => A_poly_divided.b) (ea_cons (ev_name 1) (ea_cons (ev_name 5) (ea_cons (ev_name 3) ea_nil))) (na_cons (na_cons (na_cons na_nil)))) (ev_tup (ea_cons (ev_name 2) (ea_cons (ev_tup ea_nil) ea_nil)))))))))) (ss_one (s_ret ev_bl)) ss_nil)
    (ss_cons (s_set 6 (ev_fnD (fun _ => G__law_po_places) (fun _ => hr.mono (by decide)) (fun _ => A__law_po_places.g) (fun _ => A__law_po_places.fn.kp) (fun _ => A__law_po_places.b) (ea_cons (ev_name 0) (ea_cons (ev_name 1) (ea_cons (ev_bin od_add ev_int (ev_fnD (fun _ => G__law_roll) (fun _ => hr.mono (by decide)) (fun _ => A__law_roll.g) (fun _ => A__law_roll.fn.kp) (fun _ => A__law_roll.b) (ea_cons (ev_name 0) (ea_cons ev_int ea_nil)) (na_cons (na_cons na_nil)))) (ea_cons ev_int ea_nil)))) (na_cons (na_cons (na_cons (na_cons na_nil))))) (fun _ => sc__law_right.nd))
    (ss_cons (s_if (et_cmp (od_ne (fun _ => hr.units)) (ev_fn (fun _ => G_values_at) (fun _ => hr.mono (by decide)) (fun _ => A_values_at.g) (fun _ => A_values_at.fn.kp) (fun _ => A_values_at.b) (ea_cons (ev_name 1) (ea_cons (ev_name 2) (ea_cons (ev_name 6) ea_nil))) (na_cons (na_cons (na_cons na_nil)))) (ev_callTy cd_tuple (fun _ => T.n_tuple) (ea_cons (ev_comp (own := [("place", 7)]) (fun _ => rfl) (fun _ => sc__law_right.nd) (fun _ => by show BlkOk N__law_right (defScope s__law_right) _ _; exact blkOk_by (by decide +kernel)) (ei_val (ev_name 6)) (eg_name 7 (fun _ => sc__law_right.nd)) ets_nil (ev_fn (fun _ => G__law_po_value) (fun _ => hr.mono (by decide)) (fun _ => A__law_po_value.g) (fun _ => A__law_po_value.fn.kp) (fun _ => A__law_po_value.b) (ea_cons (ev_name 1) (ea_cons (ev_name 2) (ea_cons (ev_name 7) ea_nil))) (na_cons (na_cons (na_cons na_nil))))) ea_nil))) (ss_one (s_ret ev_bl)) ss_nil)
    (ss_one (s_ret (ev_cmp (od_eq (fun _ => hr.units)) (ev_fn (fun _ => G_value_at) (fun _ => hr.mono (by decide)) (fun _ => A_value_at.g) (fun _ => A_value_at.fn.kp) (fun _ => A_value_at.b) (ea_cons (ev_name 1) (ea_cons (ev_name 5) (ea_cons (ev_name 4) ea_nil))) (na_cons (na_cons (na_cons na_nil)))) (ev_bin od_mod (ev_callTy cd_int (fun _ => T.n_int) (ea_cons (ev_bin od_mul (ev_fn (fun _ => G__law_po_value) (fun _ => hr.mono (by decide)) (fun _ => A__law_po_value.g) (fun _ => A__law_po_value.fn.kp) (fun _ => A__law_po_value.b) (ea_cons (ev_name 1) (ea_cons (ev_name 2) (ea_cons (ev_name 4) ea_nil))) (na_cons (na_cons (na_cons na_nil)))) (ev_fn (fun _ => G__law_po_value) (fun _ => hr.mono (by decide)) (fun _ => A__law_po_value.g) (fun _ => A__law_po_value.fn.kp) (fun _ => A__law_po_value.b) (ea_cons (ev_name 1) (ea_cons (ev_name 3) (ea_cons (ev_name 4) ea_nil))) (na_cons (na_cons (na_cons na_nil))))) ea_nil)) (ev_name 1))))))))))))))
theorem ok__law_roots_right (T : Txt K mg) {f__law_roots_right : Addr} {d__law_roots_right : FuncData} (A__law_roots_right : DefAt K mg "_law_roots_right" s__law_roots_right ["dice"] f__law_roots_right d__law_roots_right) {f__law_pick : Addr} {d__law_pick : FuncData} (A__law_pick : DefAt K mg "_law_pick" s__law_pick ["dice", "items"] f__law_pick d__law_pick) (G__law_pick : FnOk P w K mg base CX0 2 f__law_pick d__law_pick ["dice", "items"] (spM K 2 [0] Lib.F__law_pick)) {f__law_po_places : Addr} {d__law_po_places : FuncData} (A__law_po_places : DefAt K mg "_law_po_places" s__law_po_places ["dice", "p", "many", "least"] f__law_po_places d__law_po_places) (G__law_po_places : FnOk P w K mg base CX0 2 f__law_po_places d__law_po_places ["dice", "p", "many", "least"] (spM K 4 [0] Lib.F__law_po_places)) {f__law_roll : Addr} {d__law_roll : FuncData} (A__law_roll : DefAt K mg "_law_roll" s__law_roll ["dice", "most"] f__law_roll d__law_roll) (G__law_roll : FnOk P w K mg base CX0 1 f__law_roll d__law_roll ["dice", "most"] (spM K 2 [0] Lib.F__law_roll)) {f_poly_product : Addr} {d_poly_product : FuncData} (A_poly_product : DefAt K mg "poly_product" s_poly_product ["field", "one", "other"] f_poly_product d_poly_product) (G_poly_product : FnOk P w K mg base CX0 6 f_poly_product d_poly_product ["field", "one", "other"] (spM K 3 [] Lib.F_poly_product)) {f__law_po_trim : Addr} {d__law_po_trim : FuncData} (A__law_po_trim : DefAt K mg "_law_po_trim" s__law_po_trim ["numbers"] f__law_po_trim d__law_po_trim) (G__law_po_trim : FnOk P w K mg base CX0 1 f__law_po_trim d__law_po_trim ["numbers"] (spM K 1 [] Lib.F__law_po_trim)) {f_value_at : Addr} {d_value_at : FuncData} (A_value_at : DefAt K mg "value_at" s_value_at ["field", "poly", "place"] f_value_at d_value_at) (G_value_at : FnOk P w K mg base CX0 6 f_value_at d_value_at ["field", "poly", "place"] (spM K 3 [] Lib.F_value_at)) : FnOk P w K mg base CX0 7 f__law_roots_right d__law_roots_right ["dice"] (spM K 1 [0] F__law_roots_right) :=
  def_ok A__law_roots_right.fn sc__law_roots_right rfl fun cdv A outer s H E hr =>
    (ss_cons (s_set 1 (ev_fnD (fun _ => G__law_pick) (fun _ => hr.mono (by decide)) (fun _ => A__law_pick.g) (fun _ => A__law_pick.fn.kp) (fun _ => A__law_pick.b) (ea_cons (ev_name 0) (ea_cons (ev_lst (ea_cons ev_int (ea_cons ev_int (ea_cons ev_int (ea_cons ev_int ea_nil))))) ea_nil)) (na_cons (na_cons na_nil))) (fun _ => sc__law_roots_right.nd))
    (ss_cons (s_parT [2, 3] (ea_cons (ev_fnD (fun _ => G__law_po_places) (fun _ => hr.mono (by decide)) (fun _ => A__law_po_places.g) (fun _ => A__law_po_places.fn.kp) (fun _ => A__law_po_places.b) (ea_cons (ev_name 0) (ea_cons (ev_name 1) (ea_cons (ev_bin od_add ev_int (ev_fnD (fun _ => G__law_roll) (fun _ => hr.mono (by decide)) (fun _ => A__law_roll.g) (fun _ => A__law_roll.fn.kp) (fun _ => A__law_roll.b) (ea_cons (ev_name 0) (ea_cons ev_int ea_nil)) (na_cons (na_cons na_nil)))) (ea_cons ev_int ea_nil)))) (na_cons (na_cons (na_cons (na_cons na_nil))))) (ea_cons (ev_tup (ea_cons (ev_bin od_add ev_int (ev_fnD (fun _ => G__law_roll) (fun _ => hr.mono (by decide)) (fun _ => A__law_roll.g) (fun _ => A__law_roll.fn.kp) (fun _ => A__law_roll.b) (ea_cons (ev_name 0) (ea_cons (ev_bin od_sub (ev_name 1) ev_int) ea_nil)) (na_cons (na_cons na_nil)))) ea_nil)) ea_nil)) (fun _ => rfl) (fun _ => (pgs_cons (pg_name (i := 2) sc__law_roots_right.nd rfl (by first | exact Or.inl rfl | exact Or.inr rfl)) (pgs_cons (pg_name (i := 3) sc__law_roots_right.nd rfl (by first | exact Or.inl rfl | exact Or.inr rfl)) pgs_nil))))
    (ss_cons (s_for (fun _ => PassesOwn.never) (fun _ => rfl) (ei_val (ev_name 2)) (eg_name 4 (fun _ => sc__law_roots_right.nd)) (ss_one (s_set 3 (ev_fn (fun _ => G_poly_product) (fun _ => hr.mono (by decide)) (fun _ => A_poly_product.g) (fun _ => A_poly_product.fn.kp) (fun _ => A_poly_product.b) (ea_cons (ev_name 1) (ea_cons (ev_name 3) (ea_cons (ev_fn (fun _ => G__law_po_trim) (fun _ => hr.mono (by decide)) (fun _ => A__law_po_trim.g) (fun _ => A__law_po_trim.fn.kp) (fun _ => A__law_po_trim.b) (ea_cons (ev_tup (ea_cons (ev_bin od_mod (ev_callTy cd_int (fun _ => T.n_int) (ea_cons (ev_bin od_sub ev_int (ev_name 4)) ea_nil)) (ev_name 1)) (ea_cons ev_int ea_nil))) ea_nil) (na_cons na_nil)) ea_nil))) (na_cons (na_cons (na_cons na_nil)))) (fun _ => sc__law_roots_right.nd))))
    (ss_cons (s_if (et_cmp (od_ne (fun _ => hr.units)) (ev_callB cd_len (fun _ => T.n_len) (ea_cons (ev_name 3) ea_nil)) (ev_bin od_add (ev_callB cd_len (fun _ => T.n_len) (ea_cons (ev_name 2) ea_nil)) ev_int)) (ss_one (s_ret ev_bl)) ss_nil)
    (ss_one (s_ret (ev_cmp (od_eq (fun _ => hr.units)) (ev_comp (own := [("place", 5)]) (fun _ => rfl) (fun _ => sc__law_roots_right.nd) (fun _ => by show BlkOk N__law_roots_right (defScope s__law_roots_right) _ _; exact blkOk_by (by decide +kernel)) (ei_range1 (fun _ => T.n_range) (ea_cons (ev_name 1) ea_nil)) (eg_name 5 (fun _ => sc__law_roots_right.nd)) (ets_one (et_cmp (od_eq (fun _ => hr.units)) (ev_fn (fun _ => G_value_at) (fun _ => hr.mono (by decide)) (fun _ => A_value_at.g) (fun _ => A_value_at.fn.kp) (fun _ => A_value_at.b) (ea_cons (ev_name 1) (ea_cons (ev_name 3) (ea_cons (ev_name 5) ea_nil))) (na_cons (na_cons (na_cons na_nil)))) ev_int)) (ev_name 5)) (ev_callB cd_sortedA (fun _ => T.n_sorted) (ea_cons (ev_name 2) ea_nil)))))))))
theorem ok_law (T : Txt K mg) {f_law : Addr} {d_law : FuncData} (A_law : DefAt K mg "law" s_law ["script"] f_law d_law) {f__law_dice : Addr} {d__law_dice : FuncData} (A__law_dice : DefAt K mg "_law_dice" s__law_dice ["script", "spot"] f__law_dice d__law_dice) (G__law_dice : FnOk P w K mg base CX0 1 f__law_dice d__law_dice ["script", "spot"] (spM K 2 [] Lib.F__law_dice)) {f__law_right : Addr} {d__law_right : FuncData} (A__law_right : DefAt K mg "_law_right" s__law_right ["dice"] f__law_right d__law_right) (G__law_right : FnOk P w K mg base CX0 8 f__law_right d__law_right ["dice"] (spM K 1 [0] F__law_right)) {f__law_roots_right : Addr} {d__law_roots_right : FuncData} (A__law_roots_right : DefAt K mg "_law_roots_right" s__law_roots_right ["dice"] f__law_roots_right d__law_roots_right) (G__law_roots_right : FnOk P w K mg base CX0 7 f__law_roots_right d__law_roots_right ["dice"] (spM K 1 [0] F__law_roots_right)) {f_is_poly : Addr} {d_is_poly : FuncData} (A_is_poly : DefAt K mg "is_poly" s_is_poly ["field", "value"] f_is_poly d_is_poly) (G_is_poly : FnOk P w K mg base CX0 4 f_is_poly d_is_poly ["field", "value"] (spM K 2 [] Lib.F_is_poly)) {f_poly_product : Addr} {d_poly_product : FuncData} (A_poly_product : DefAt K mg "poly_product" s_poly_product ["field", "one", "other"] f_poly_product d_poly_product) (G_poly_product : FnOk P w K mg base CX0 6 f_poly_product d_poly_product ["field", "one", "other"] (spM K 3 [] Lib.F_poly_product)) {f_poly_divided : Addr} {d_poly_divided : FuncData} (A_poly_divided : DefAt K mg "poly_divided" s_poly_divided ["field", "one", "other"] f_poly_divided d_poly_divided) (G_poly_divided : FnOk P w K mg base CX0 6 f_poly_divided d_poly_divided ["field", "one", "other"] (spM K 3 [] Lib.F_poly_divided)) {f_poly_sum : Addr} {d_poly_sum : FuncData} (A_poly_sum : DefAt K mg "poly_sum" s_poly_sum ["field", "one", "other"] f_poly_sum d_poly_sum) (G_poly_sum : FnOk P w K mg base CX0 6 f_poly_sum d_poly_sum ["field", "one", "other"] (spM K 3 [] Lib.F_poly_sum)) {f_value_at : Addr} {d_value_at : FuncData} (A_value_at : DefAt K mg "value_at" s_value_at ["field", "poly", "place"] f_value_at d_value_at) (G_value_at : FnOk P w K mg base CX0 6 f_value_at d_value_at ["field", "poly", "place"] (spM K 3 [] Lib.F_value_at)) : FnOk P w K mg base CX0 9 f_law d_law ["script"] (spM K 1 [] F_law) :=
  def_ok A_law.fn sc_law rfl fun cdv A outer s H E hr =>
    (ss_cons (s_for (fun _ => PassesOwn.never) (fun _ => rfl) (ei_range1 (fun _ => T.n_range) (ea_cons (ev_callB (cd_max (fun _ => rfl)) (fun _ => T.n_max) (ea_cons ev_int (ea_cons (ev_callB (cd_min (fun _ => rfl)) (fun _ => T.n_min) (ea_cons ev_int (ea_cons (ev_callB cd_len (fun _ => T.n_len) (ea_cons (ev_name 0) ea_nil)) ea_nil))) ea_nil))) ea_nil)) (eg_name 1 (fun _ => sc_law.nd)) (ss_cons (s_set 2 (ev_fn (fun _ => G__law_dice) (fun _ => hr.mono (by decide)) (fun _ => A__law_dice.g) (fun _ => A__law_dice.fn.kp) (fun _ => A__law_dice.b) (ea_cons (ev_name 0) (ea_cons (ev_name 1) ea_nil)) (na_cons (na_cons na_nil))) (fun _ => sc_law.nd))
    (ss_one (s_for (fun _ => PassesOwn.never) (fun _ => rfl) (ei_range1 (fun _ => T.n_range) (ea_cons ev_int ea_nil)) (eg_name 3 (fun _ => sc_law.nd)) (ss_one (s_if (et_w (ew_or (et_not (et_tru (ev_fnD (fun _ => G__law_right) (fun _ => hr.mono (by decide)) (fun _ => A__law_right.g) (fun _ => A__law_right.fn.kp) (fun _ => A__law_right.b) (ea_cons (ev_name 2) ea_nil) (na_cons na_nil)))) (ew_or1 (et_not (et_tru (ev_fnD (fun _ => G__law_roots_right) (fun _ => hr.mono (by decide)) (fun _ => A__law_roots_right.g) (fun _ => A__law_roots_right.fn.kp) (fun _ => A__law_roots_right.b) (ea_cons (ev_name 2) ea_nil) (na_cons na_nil))))))) (ss_one (s_ret ev_bl)) ss_nil))))))
    (ss_cons (s_set 4 (ev_lst (ea_cons (ev_tup ea_nil) (ea_cons (ev_tup (ea_cons ev_int ea_nil)) (ea_cons (ev_tup (ea_cons ev_int (ea_cons ev_int ea_nil))) (ea_cons (ev_tup (ea_cons ev_int ea_nil)) (ea_cons (ev_tup (ea_cons ev_int (ea_cons ev_int ea_nil))) (ea_cons (ev_lst (ea_cons ev_int ea_nil)) (ea_cons (ev_tup (ea_cons ev_bl ea_nil)) (ea_cons ev_int (ea_cons ev_non (ea_cons (ev_bin od_mulT (ev_tup (ea_cons ev_int ea_nil)) ev_int) (ea_cons (ev_bin od_mulT (ev_tup (ea_cons ev_int ea_nil)) ev_int) (ea_cons (ev_tup (ea_cons (ev_neg ev_int) ea_nil)) (ea_cons (ev_tup (ea_cons ev_int (ea_cons ev_str ea_nil))) ea_nil)))))))))))))) (fun _ => sc_law.nd))
    (ss_cons (s_setLc 5 (own := [("value", 7)]) (fun _ => rfl) (fun _ => sc_law.nd) (fun _ => by show BlkOk N_law (defScope s_law) _ _; exact blkOk_by (by decide +kernel)) (ei_val (ev_name 4)) (eg_name 7 (fun _ => sc_law.nd)) ets_nil (ev_fn (fun _ => G_is_poly) (fun _ => hr.mono (by decide)) (fun _ => A_is_poly.g) (fun _ => A_is_poly.fn.kp) (fun _ => A_is_poly.b) (ea_cons ev_int (ea_cons (ev_name 7) ea_nil)) (na_cons (na_cons na_nil))))
    (ss_cons (s_if (et_w (ew_or (et_cmp (od_ne (fun _ => hr.units)) (ev_name 5) (ev_lst (ea_cons ev_bl (ea_cons ev_bl (ea_cons ev_bl (ea_cons ev_bl (ea_cons ev_bl (ea_cons ev_bl (ea_cons ev_bl (ea_cons ev_bl (ea_cons ev_bl (ea_cons ev_bl (ea_cons ev_bl (ea_cons ev_bl (ea_cons ev_bl ea_nil))))))))))))))) (ew_or1 (et_cmp (od_ne (fun _ => hr.units)) (ev_glob (fun _ => rfl) (fun _ => T.c_MAX_DEGREE.choose_spec.1) T.c_MAX_DEGREE.choose_spec.2.1 T.c_MAX_DEGREE.choose_spec.2.2) ev_int)))) (ss_one (s_ret ev_bl)) ss_nil)
    (ss_cons (s_set 6 (ev_bin od_mulT (ev_tup (ea_cons ev_int ea_nil)) ev_int) (fun _ => sc_law.nd))
    (ss_cons (s_if (et_w (ew_or (et_cmp (od_ne (fun _ => hr.units)) (ev_callB cd_len (fun _ => T.n_len) (ea_cons (ev_fn (fun _ => G_poly_product) (fun _ => hr.mono (by decide)) (fun _ => A_poly_product.g) (fun _ => A_poly_product.fn.kp) (fun _ => A_poly_product.b) (ea_cons ev_int (ea_cons (ev_name 6) (ea_cons (ev_name 6) ea_nil))) (na_cons (na_cons (na_cons na_nil)))) ea_nil)) ev_int) (ew_or1 (et_cmp (od_ne (fun _ => hr.units)) (ev_fn (fun _ => G_poly_divided) (fun _ => hr.mono (by decide)) (fun _ => A_poly_divided.g) (fun _ => A_poly_divided.fn.kp) (fun _ => A_poly_divided.b) (ea_cons ev_int (ea_cons (ev_tup (ea_cons ev_int (ea_cons ev_int (ea_cons ev_int ea_nil)))) (ea_cons (ev_tup (ea_cons ev_int (ea_cons ev_int ea_nil))) ea_nil))) (na_cons (na_cons (na_cons na_nil)))) (ev_tup (ea_cons (ev_tup (ea_cons ev_int (ea_cons ev_int ea_nil))) (ea_cons (ev_tup (ea_cons ev_int ea_nil)) ea_nil))))))) (ss_one (s_ret ev_bl)) ss_nil)
    (ss_one (s_ret (ev_cmp (od_eq (fun _ => hr.units)) (ev_lst (ea_cons (ev_fn (fun _ => G_poly_sum) (fun _ => hr.mono (by decide)) (fun _ => A_poly_sum.g) (fun _ => A_poly_sum.fn.kp) (fun _ => A_poly_sum.b) (ea_cons ev_int (ea_cons (ev_tup (ea_cons ev_int (ea_cons ev_int ea_nil))) (ea_cons (ev_tup (ea_cons ev_int (ea_cons ev_int ea_nil))) ea_nil))) (na_cons (na_cons (na_cons na_nil)))) (ea_cons (ev_fn (fun _ => G_poly_product) (fun _ => hr.mono (by decide)) (fun _ => A_poly_product.g) (fun _ => A_poly_product.fn.kp) (fun _ => A_poly_product.b) (ea_cons ev_int (ea_cons (ev_tup ea_nil) (ea_cons (ev_tup (ea_cons ev_int ea_nil)) ea_nil))) (na_cons (na_cons (na_cons na_nil)))) (ea_cons (ev_fn (fun _ => G_value_at) (fun _ => hr.mono (by decide)) (fun _ => A_value_at.g) (fun _ => A_value_at.fn.kp) (fun _ => A_value_at.b) (ea_cons ev_int (ea_cons (ev_tup ea_nil) (ea_cons ev_int ea_nil))) (na_cons (na_cons (na_cons na_nil)))) (ea_cons (ev_fn (fun _ => G_poly_divided) (fun _ => hr.mono (by decide)) (fun _ => A_poly_divided.g) (fun _ => A_poly_divided.fn.kp) (fun _ => A_poly_divided.b) (ea_cons ev_int (ea_cons (ev_tup ea_nil) (ea_cons (ev_tup (ea_cons ev_int ea_nil)) ea_nil))) (na_cons (na_cons (na_cons na_nil)))) ea_nil))))) (ev_lst (ea_cons (ev_tup ea_nil) (ea_cons (ev_tup ea_nil) (ea_cons ev_int (ea_cons (ev_tup (ea_cons (ev_tup ea_nil) (ea_cons (ev_tup ea_nil) ea_nil))) ea_nil))))))))))))))
end
theorem all_mk {l : PySem.W.OpenLaw} {w : World} {K : Frag} {h : Heap} {mg : Str → Option Value} {fa : Addr} (X : K.In h) (G : h.Ns mainGlobals mg) (hfa : mg "law" = some (.ref fa))
    {f_is_integer : Addr} {od_is_integer an_is_integer : Option Addr} {sl_is_integer : Array (Option Value)} {oc_is_integer kV_is_integer dc_is_integer pm_is_integer cd_is_integer ct_is_integer : Value}
    (a_is_integer : PySem.W.nsIn K mainGlobals "is_integer" = some (some (.ref f_is_integer))) (l_is_integer : K.lookup f_is_integer = some ⟨oc_is_integer, od_is_integer, .func (PySem.W.fnOf "is_integer" "is_integer" (defArgs s_is_integer) (defBody s_is_integer) (defScope s_is_integer) .none kV_is_integer dc_is_integer pm_is_integer an_is_integer cd_is_integer ct_is_integer), sl_is_integer⟩) (c_is_integer : PySem.W.codeIn K cd_is_integer "is_integer" = true) (k_is_integer : PySem.W.keepIn K (.ref f_is_integer) = true)
    {f_is_field : Addr} {od_is_field an_is_field : Option Addr} {sl_is_field : Array (Option Value)} {oc_is_field kV_is_field dc_is_field pm_is_field cd_is_field ct_is_field : Value}
    (a_is_field : PySem.W.nsIn K mainGlobals "is_field" = some (some (.ref f_is_field))) (l_is_field : K.lookup f_is_field = some ⟨oc_is_field, od_is_field, .func (PySem.W.fnOf "is_field" "is_field" (defArgs s_is_field) (defBody s_is_field) (defScope s_is_field) .none kV_is_field dc_is_field pm_is_field an_is_field cd_is_field ct_is_field), sl_is_field⟩) (c_is_field : PySem.W.codeIn K cd_is_field "is_field" = true) (k_is_field : PySem.W.keepIn K (.ref f_is_field) = true)
    {f_are_numbers : Addr} {od_are_numbers an_are_numbers : Option Addr} {sl_are_numbers : Array (Option Value)} {oc_are_numbers kV_are_numbers dc_are_numbers pm_are_numbers cd_are_numbers ct_are_numbers : Value}
    (a_are_numbers : PySem.W.nsIn K mainGlobals "are_numbers" = some (some (.ref f_are_numbers))) (l_are_numbers : K.lookup f_are_numbers = some ⟨oc_are_numbers, od_are_numbers, .func (PySem.W.fnOf "are_numbers" "are_numbers" (defArgs s_are_numbers) (defBody s_are_numbers) (defScope s_are_numbers) .none kV_are_numbers dc_are_numbers pm_are_numbers an_are_numbers cd_are_numbers ct_are_numbers), sl_are_numbers⟩) (c_are_numbers : PySem.W.codeIn K cd_are_numbers "are_numbers" = true) (k_are_numbers : PySem.W.keepIn K (.ref f_are_numbers) = true)
    {f_check_integer : Addr} {od_check_integer an_check_integer : Option Addr} {sl_check_integer : Array (Option Value)} {oc_check_integer kV_check_integer dc_check_integer pm_check_integer cd_check_integer ct_check_integer : Value}
    (a_check_integer : PySem.W.nsIn K mainGlobals "check_integer" = some (some (.ref f_check_integer))) (l_check_integer : K.lookup f_check_integer = some ⟨oc_check_integer, od_check_integer, .func (PySem.W.fnOf "check_integer" "check_integer" (defArgs s_check_integer) (defBody s_check_integer) (defScope s_check_integer) .none kV_check_integer dc_check_integer pm_check_integer an_check_integer cd_check_integer ct_check_integer), sl_check_integer⟩) (c_check_integer : PySem.W.codeIn K cd_check_integer "check_integer" = true) (k_check_integer : PySem.W.keepIn K (.ref f_check_integer) = true)
    {f_check_field : Addr} {od_check_field an_check_field : Option Addr} {sl_check_field : Array (Option Value)} {oc_check_field kV_check_field dc_check_field pm_check_field cd_check_field ct_check_field : Value}
    (a_check_field : PySem.W.nsIn K mainGlobals "check_field" = some (some (.ref f_check_field))) (l_check_field : K.lookup f_check_field = some ⟨oc_check_field, od_check_field, .func (PySem.W.fnOf "check_field" "check_field" (defArgs s_check_field) (defBody s_check_field) (defScope s_check_field) .none kV_check_field dc_check_field pm_check_field an_check_field cd_check_field ct_check_field), sl_check_field⟩) (c_check_field : PySem.W.codeIn K cd_check_field "check_field" = true) (k_check_field : PySem.W.keepIn K (.ref f_check_field) = true)
    {f_check_number : Addr} {od_check_number an_check_number : Option Addr} {sl_check_number : Array (Option Value)} {oc_check_number kV_check_number dc_check_number pm_check_number cd_check_number ct_check_number : Value}
    (a_check_number : PySem.W.nsIn K mainGlobals "check_number" = some (some (.ref f_check_number))) (l_check_number : K.lookup f_check_number = some ⟨oc_check_number, od_check_number, .func (PySem.W.fnOf "check_number" "check_number" (defArgs s_check_number) (defBody s_check_number) (defScope s_check_number) .none kV_check_number dc_check_number pm_check_number an_check_number cd_check_number ct_check_number), sl_check_number⟩) (c_check_number : PySem.W.codeIn K cd_check_number "check_number" = true) (k_check_number : PySem.W.keepIn K (.ref f_check_number) = true)
    {f_raised : Addr} {od_raised an_raised : Option Addr} {sl_raised : Array (Option Value)} {oc_raised kV_raised dc_raised pm_raised cd_raised ct_raised : Value}
    (a_raised : PySem.W.nsIn K mainGlobals "raised" = some (some (.ref f_raised))) (l_raised : K.lookup f_raised = some ⟨oc_raised, od_raised, .func (PySem.W.fnOf "raised" "raised" (defArgs s_raised) (defBody s_raised) (defScope s_raised) .none kV_raised dc_raised pm_raised an_raised cd_raised ct_raised), sl_raised⟩) (c_raised : PySem.W.codeIn K cd_raised "raised" = true) (k_raised : PySem.W.keepIn K (.ref f_raised) = true)
    {f_inverse : Addr} {od_inverse an_inverse : Option Addr} {sl_inverse : Array (Option Value)} {oc_inverse kV_inverse dc_inverse pm_inverse cd_inverse ct_inverse : Value}
    (a_inverse : PySem.W.nsIn K mainGlobals "inverse" = some (some (.ref f_inverse))) (l_inverse : K.lookup f_inverse = some ⟨oc_inverse, od_inverse, .func (PySem.W.fnOf "inverse" "inverse" (defArgs s_inverse) (defBody s_inverse) (defScope s_inverse) .none kV_inverse dc_inverse pm_inverse an_inverse cd_inverse ct_inverse), sl_inverse⟩) (c_inverse : PySem.W.codeIn K cd_inverse "inverse" = true) (k_inverse : PySem.W.keepIn K (.ref f_inverse) = true)
    {f_is_poly : Addr} {od_is_poly an_is_poly : Option Addr} {sl_is_poly : Array (Option Value)} {oc_is_poly kV_is_poly dc_is_poly pm_is_poly cd_is_poly ct_is_poly : Value}
    (a_is_poly : PySem.W.nsIn K mainGlobals "is_poly" = some (some (.ref f_is_poly))) (l_is_poly : K.lookup f_is_poly = some ⟨oc_is_poly, od_is_poly, .func (PySem.W.fnOf "is_poly" "is_poly" (defArgs s_is_poly) (defBody s_is_poly) (defScope s_is_poly) .none kV_is_poly dc_is_poly pm_is_poly an_is_poly cd_is_poly ct_is_poly), sl_is_poly⟩) (c_is_poly : PySem.W.codeIn K cd_is_poly "is_poly" = true) (k_is_poly : PySem.W.keepIn K (.ref f_is_poly) = true)
    {f_are_unlike : Addr} {od_are_unlike an_are_unlike : Option Addr} {sl_are_unlike : Array (Option Value)} {oc_are_unlike kV_are_unlike dc_are_unlike pm_are_unlike cd_are_unlike ct_are_unlike : Value}
    (a_are_unlike : PySem.W.nsIn K mainGlobals "are_unlike" = some (some (.ref f_are_unlike))) (l_are_unlike : K.lookup f_are_unlike = some ⟨oc_are_unlike, od_are_unlike, .func (PySem.W.fnOf "are_unlike" "are_unlike" (defArgs s_are_unlike) (defBody s_are_unlike) (defScope s_are_unlike) .none kV_are_unlike dc_are_unlike pm_are_unlike an_are_unlike cd_are_unlike ct_are_unlike), sl_are_unlike⟩) (c_are_unlike : PySem.W.codeIn K cd_are_unlike "are_unlike" = true) (k_are_unlike : PySem.W.keepIn K (.ref f_are_unlike) = true)
    {f_check_poly : Addr} {od_check_poly an_check_poly : Option Addr} {sl_check_poly : Array (Option Value)} {oc_check_poly kV_check_poly dc_check_poly pm_check_poly cd_check_poly ct_check_poly : Value}
    (a_check_poly : PySem.W.nsIn K mainGlobals "check_poly" = some (some (.ref f_check_poly))) (l_check_poly : K.lookup f_check_poly = some ⟨oc_check_poly, od_check_poly, .func (PySem.W.fnOf "check_poly" "check_poly" (defArgs s_check_poly) (defBody s_check_poly) (defScope s_check_poly) .none kV_check_poly dc_check_poly pm_check_poly an_check_poly cd_check_poly ct_check_poly), sl_check_poly⟩) (c_check_poly : PySem.W.codeIn K cd_check_poly "check_poly" = true) (k_check_poly : PySem.W.keepIn K (.ref f_check_poly) = true)
    {f_check_places : Addr} {od_check_places an_check_places : Option Addr} {sl_check_places : Array (Option Value)} {oc_check_places kV_check_places dc_check_places pm_check_places cd_check_places ct_check_places : Value}
    (a_check_places : PySem.W.nsIn K mainGlobals "check_places" = some (some (.ref f_check_places))) (l_check_places : K.lookup f_check_places = some ⟨oc_check_places, od_check_places, .func (PySem.W.fnOf "check_places" "check_places" (defArgs s_check_places) (defBody s_check_places) (defScope s_check_places) .none kV_check_places dc_check_places pm_check_places an_check_places cd_check_places ct_check_places), sl_check_places⟩) (c_check_places : PySem.W.codeIn K cd_check_places "check_places" = true) (k_check_places : PySem.W.keepIn K (.ref f_check_places) = true)
    {f_trimmed : Addr} {od_trimmed an_trimmed : Option Addr} {sl_trimmed : Array (Option Value)} {oc_trimmed kV_trimmed dc_trimmed pm_trimmed cd_trimmed ct_trimmed : Value}
    (a_trimmed : PySem.W.nsIn K mainGlobals "trimmed" = some (some (.ref f_trimmed))) (l_trimmed : K.lookup f_trimmed = some ⟨oc_trimmed, od_trimmed, .func (PySem.W.fnOf "trimmed" "trimmed" (defArgs s_trimmed) (defBody s_trimmed) (defScope s_trimmed) .none kV_trimmed dc_trimmed pm_trimmed an_trimmed cd_trimmed ct_trimmed), sl_trimmed⟩) (c_trimmed : PySem.W.codeIn K cd_trimmed "trimmed" = true) (k_trimmed : PySem.W.keepIn K (.ref f_trimmed) = true)
    {f_padded : Addr} {od_padded an_padded : Option Addr} {sl_padded : Array (Option Value)} {oc_padded kV_padded dc_padded pm_padded cd_padded ct_padded : Value}
    (a_padded : PySem.W.nsIn K mainGlobals "padded" = some (some (.ref f_padded))) (l_padded : K.lookup f_padded = some ⟨oc_padded, od_padded, .func (PySem.W.fnOf "padded" "padded" (defArgs s_padded) (defBody s_padded) (defScope s_padded) .none kV_padded dc_padded pm_padded an_padded cd_padded ct_padded), sl_padded⟩) (c_padded : PySem.W.codeIn K cd_padded "padded" = true) (k_padded : PySem.W.keepIn K (.ref f_padded) = true)
    {f_scaled : Addr} {od_scaled an_scaled : Option Addr} {sl_scaled : Array (Option Value)} {oc_scaled kV_scaled dc_scaled pm_scaled cd_scaled ct_scaled : Value}
    (a_scaled : PySem.W.nsIn K mainGlobals "scaled" = some (some (.ref f_scaled))) (l_scaled : K.lookup f_scaled = some ⟨oc_scaled, od_scaled, .func (PySem.W.fnOf "scaled" "scaled" (defArgs s_scaled) (defBody s_scaled) (defScope s_scaled) .none kV_scaled dc_scaled pm_scaled an_scaled cd_scaled ct_scaled), sl_scaled⟩) (c_scaled : PySem.W.codeIn K cd_scaled "scaled" = true) (k_scaled : PySem.W.keepIn K (.ref f_scaled) = true)
    {f_added : Addr} {od_added an_added : Option Addr} {sl_added : Array (Option Value)} {oc_added kV_added dc_added pm_added cd_added ct_added : Value}
    (a_added : PySem.W.nsIn K mainGlobals "added" = some (some (.ref f_added))) (l_added : K.lookup f_added = some ⟨oc_added, od_added, .func (PySem.W.fnOf "added" "added" (defArgs s_added) (defBody s_added) (defScope s_added) .none kV_added dc_added pm_added an_added cd_added ct_added), sl_added⟩) (c_added : PySem.W.codeIn K cd_added "added" = true) (k_added : PySem.W.keepIn K (.ref f_added) = true)
    {f_multiplied : Addr} {od_multiplied an_multiplied : Option Addr} {sl_multiplied : Array (Option Value)} {oc_multiplied kV_multiplied dc_multiplied pm_multiplied cd_multiplied ct_multiplied : Value}
    (a_multiplied : PySem.W.nsIn K mainGlobals "multiplied" = some (some (.ref f_multiplied))) (l_multiplied : K.lookup f_multiplied = some ⟨oc_multiplied, od_multiplied, .func (PySem.W.fnOf "multiplied" "multiplied" (defArgs s_multiplied) (defBody s_multiplied) (defScope s_multiplied) .none kV_multiplied dc_multiplied pm_multiplied an_multiplied cd_multiplied ct_multiplied), sl_multiplied⟩) (c_multiplied : PySem.W.codeIn K cd_multiplied "multiplied" = true) (k_multiplied : PySem.W.keepIn K (.ref f_multiplied) = true)
    {f_evaluated : Addr} {od_evaluated an_evaluated : Option Addr} {sl_evaluated : Array (Option Value)} {oc_evaluated kV_evaluated dc_evaluated pm_evaluated cd_evaluated ct_evaluated : Value}
    (a_evaluated : PySem.W.nsIn K mainGlobals "evaluated" = some (some (.ref f_evaluated))) (l_evaluated : K.lookup f_evaluated = some ⟨oc_evaluated, od_evaluated, .func (PySem.W.fnOf "evaluated" "evaluated" (defArgs s_evaluated) (defBody s_evaluated) (defScope s_evaluated) .none kV_evaluated dc_evaluated pm_evaluated an_evaluated cd_evaluated ct_evaluated), sl_evaluated⟩) (c_evaluated : PySem.W.codeIn K cd_evaluated "evaluated" = true) (k_evaluated : PySem.W.keepIn K (.ref f_evaluated) = true)
    {f_poly_sum : Addr} {od_poly_sum an_poly_sum : Option Addr} {sl_poly_sum : Array (Option Value)} {oc_poly_sum kV_poly_sum dc_poly_sum pm_poly_sum cd_poly_sum ct_poly_sum : Value}
    (a_poly_sum : PySem.W.nsIn K mainGlobals "poly_sum" = some (some (.ref f_poly_sum))) (l_poly_sum : K.lookup f_poly_sum = some ⟨oc_poly_sum, od_poly_sum, .func (PySem.W.fnOf "poly_sum" "poly_sum" (defArgs s_poly_sum) (defBody s_poly_sum) (defScope s_poly_sum) .none kV_poly_sum dc_poly_sum pm_poly_sum an_poly_sum cd_poly_sum ct_poly_sum), sl_poly_sum⟩) (c_poly_sum : PySem.W.codeIn K cd_poly_sum "poly_sum" = true) (k_poly_sum : PySem.W.keepIn K (.ref f_poly_sum) = true)
    {f_poly_scaled : Addr} {od_poly_scaled an_poly_scaled : Option Addr} {sl_poly_scaled : Array (Option Value)} {oc_poly_scaled kV_poly_scaled dc_poly_scaled pm_poly_scaled cd_poly_scaled ct_poly_scaled : Value}
    (a_poly_scaled : PySem.W.nsIn K mainGlobals "poly_scaled" = some (some (.ref f_poly_scaled))) (l_poly_scaled : K.lookup f_poly_scaled = some ⟨oc_poly_scaled, od_poly_scaled, .func (PySem.W.fnOf "poly_scaled" "poly_scaled" (defArgs s_poly_scaled) (defBody s_poly_scaled) (defScope s_poly_scaled) .none kV_poly_scaled dc_poly_scaled pm_poly_scaled an_poly_scaled cd_poly_scaled ct_poly_scaled), sl_poly_scaled⟩) (c_poly_scaled : PySem.W.codeIn K cd_poly_scaled "poly_scaled" = true) (k_poly_scaled : PySem.W.keepIn K (.ref f_poly_scaled) = true)
    {f_poly_product : Addr} {od_poly_product an_poly_product : Option Addr} {sl_poly_product : Array (Option Value)} {oc_poly_product kV_poly_product dc_poly_product pm_poly_product cd_poly_product ct_poly_product : Value}
    (a_poly_product : PySem.W.nsIn K mainGlobals "poly_product" = some (some (.ref f_poly_product))) (l_poly_product : K.lookup f_poly_product = some ⟨oc_poly_product, od_poly_product, .func (PySem.W.fnOf "poly_product" "poly_product" (defArgs s_poly_product) (defBody s_poly_product) (defScope s_poly_product) .none kV_poly_product dc_poly_product pm_poly_product an_poly_product cd_poly_product ct_poly_product), sl_poly_product⟩) (c_poly_product : PySem.W.codeIn K cd_poly_product "poly_product" = true) (k_poly_product : PySem.W.keepIn K (.ref f_poly_product) = true)
    {f_poly_divided : Addr} {od_poly_divided an_poly_divided : Option Addr} {sl_poly_divided : Array (Option Value)} {oc_poly_divided kV_poly_divided dc_poly_divided pm_poly_divided cd_poly_divided ct_poly_divided : Value}
    (a_poly_divided : PySem.W.nsIn K mainGlobals "poly_divided" = some (some (.ref f_poly_divided))) (l_poly_divided : K.lookup f_poly_divided = some ⟨oc_poly_divided, od_poly_divided, .func (PySem.W.fnOf "poly_divided" "poly_divided" (defArgs s_poly_divided) (defBody s_poly_divided) (defScope s_poly_divided) .none kV_poly_divided dc_poly_divided pm_poly_divided an_poly_divided cd_poly_divided ct_poly_divided), sl_poly_divided⟩) (c_poly_divided : PySem.W.codeIn K cd_poly_divided "poly_divided" = true) (k_poly_divided : PySem.W.keepIn K (.ref f_poly_divided) = true)
    {f_value_at : Addr} {od_value_at an_value_at : Option Addr} {sl_value_at : Array (Option Value)} {oc_value_at kV_value_at dc_value_at pm_value_at cd_value_at ct_value_at : Value}
    (a_value_at : PySem.W.nsIn K mainGlobals "value_at" = some (some (.ref f_value_at))) (l_value_at : K.lookup f_value_at = some ⟨oc_value_at, od_value_at, .func (PySem.W.fnOf "value_at" "value_at" (defArgs s_value_at) (defBody s_value_at) (defScope s_value_at) .none kV_value_at dc_value_at pm_value_at an_value_at cd_value_at ct_value_at), sl_value_at⟩) (c_value_at : PySem.W.codeIn K cd_value_at "value_at" = true) (k_value_at : PySem.W.keepIn K (.ref f_value_at) = true)
    {f_values_at : Addr} {od_values_at an_values_at : Option Addr} {sl_values_at : Array (Option Value)} {oc_values_at kV_values_at dc_values_at pm_values_at cd_values_at ct_values_at : Value}
    (a_values_at : PySem.W.nsIn K mainGlobals "values_at" = some (some (.ref f_values_at))) (l_values_at : K.lookup f_values_at = some ⟨oc_values_at, od_values_at, .func (PySem.W.fnOf "values_at" "values_at" (defArgs s_values_at) (defBody s_values_at) (defScope s_values_at) .none kV_values_at dc_values_at pm_values_at an_values_at cd_values_at ct_values_at), sl_values_at⟩) (c_values_at : PySem.W.codeIn K cd_values_at "values_at" = true) (k_values_at : PySem.W.keepIn K (.ref f_values_at) = true)
    {f__law_dice : Addr} {od__law_dice an__law_dice : Option Addr} {sl__law_dice : Array (Option Value)} {oc__law_dice kV__law_dice dc__law_dice pm__law_dice cd__law_dice ct__law_dice : Value}
    (a__law_dice : PySem.W.nsIn K mainGlobals "_law_dice" = some (some (.ref f__law_dice))) (l__law_dice : K.lookup f__law_dice = some ⟨oc__law_dice, od__law_dice, .func (PySem.W.fnOf "_law_dice" "_law_dice" (defArgs s__law_dice) (defBody s__law_dice) (defScope s__law_dice) .none kV__law_dice dc__law_dice pm__law_dice an__law_dice cd__law_dice ct__law_dice), sl__law_dice⟩) (c__law_dice : PySem.W.codeIn K cd__law_dice "_law_dice" = true) (k__law_dice : PySem.W.keepIn K (.ref f__law_dice) = true)
    {f__law_roll : Addr} {od__law_roll an__law_roll : Option Addr} {sl__law_roll : Array (Option Value)} {oc__law_roll kV__law_roll dc__law_roll pm__law_roll cd__law_roll ct__law_roll : Value}
    (a__law_roll : PySem.W.nsIn K mainGlobals "_law_roll" = some (some (.ref f__law_roll))) (l__law_roll : K.lookup f__law_roll = some ⟨oc__law_roll, od__law_roll, .func (PySem.W.fnOf "_law_roll" "_law_roll" (defArgs s__law_roll) (defBody s__law_roll) (defScope s__law_roll) .none kV__law_roll dc__law_roll pm__law_roll an__law_roll cd__law_roll ct__law_roll), sl__law_roll⟩) (c__law_roll : PySem.W.codeIn K cd__law_roll "_law_roll" = true) (k__law_roll : PySem.W.keepIn K (.ref f__law_roll) = true)
    {f__law_pick : Addr} {od__law_pick an__law_pick : Option Addr} {sl__law_pick : Array (Option Value)} {oc__law_pick kV__law_pick dc__law_pick pm__law_pick cd__law_pick ct__law_pick : Value}
    (a__law_pick : PySem.W.nsIn K mainGlobals "_law_pick" = some (some (.ref f__law_pick))) (l__law_pick : K.lookup f__law_pick = some ⟨oc__law_pick, od__law_pick, .func (PySem.W.fnOf "_law_pick" "_law_pick" (defArgs s__law_pick) (defBody s__law_pick) (defScope s__law_pick) .none kV__law_pick dc__law_pick pm__law_pick an__law_pick cd__law_pick ct__law_pick), sl__law_pick⟩) (c__law_pick : PySem.W.codeIn K cd__law_pick "_law_pick" = true) (k__law_pick : PySem.W.keepIn K (.ref f__law_pick) = true)
    {f__law_po_trim : Addr} {od__law_po_trim an__law_po_trim : Option Addr} {sl__law_po_trim : Array (Option Value)} {oc__law_po_trim kV__law_po_trim dc__law_po_trim pm__law_po_trim cd__law_po_trim ct__law_po_trim : Value}
    (a__law_po_trim : PySem.W.nsIn K mainGlobals "_law_po_trim" = some (some (.ref f__law_po_trim))) (l__law_po_trim : K.lookup f__law_po_trim = some ⟨oc__law_po_trim, od__law_po_trim, .func (PySem.W.fnOf "_law_po_trim" "_law_po_trim" (defArgs s__law_po_trim) (defBody s__law_po_trim) (defScope s__law_po_trim) .none kV__law_po_trim dc__law_po_trim pm__law_po_trim an__law_po_trim cd__law_po_trim ct__law_po_trim), sl__law_po_trim⟩) (c__law_po_trim : PySem.W.codeIn K cd__law_po_trim "_law_po_trim" = true) (k__law_po_trim : PySem.W.keepIn K (.ref f__law_po_trim) = true)
    {f__law_po_sum : Addr} {od__law_po_sum an__law_po_sum : Option Addr} {sl__law_po_sum : Array (Option Value)} {oc__law_po_sum kV__law_po_sum dc__law_po_sum pm__law_po_sum cd__law_po_sum ct__law_po_sum : Value}
    (a__law_po_sum : PySem.W.nsIn K mainGlobals "_law_po_sum" = some (some (.ref f__law_po_sum))) (l__law_po_sum : K.lookup f__law_po_sum = some ⟨oc__law_po_sum, od__law_po_sum, .func (PySem.W.fnOf "_law_po_sum" "_law_po_sum" (defArgs s__law_po_sum) (defBody s__law_po_sum) (defScope s__law_po_sum) .none kV__law_po_sum dc__law_po_sum pm__law_po_sum an__law_po_sum cd__law_po_sum ct__law_po_sum), sl__law_po_sum⟩) (c__law_po_sum : PySem.W.codeIn K cd__law_po_sum "_law_po_sum" = true) (k__law_po_sum : PySem.W.keepIn K (.ref f__law_po_sum) = true)
    {f__law_po_scaled : Addr} {od__law_po_scaled an__law_po_scaled : Option Addr} {sl__law_po_scaled : Array (Option Value)} {oc__law_po_scaled kV__law_po_scaled dc__law_po_scaled pm__law_po_scaled cd__law_po_scaled ct__law_po_scaled : Value}
    (a__law_po_scaled : PySem.W.nsIn K mainGlobals "_law_po_scaled" = some (some (.ref f__law_po_scaled))) (l__law_po_scaled : K.lookup f__law_po_scaled = some ⟨oc__law_po_scaled, od__law_po_scaled, .func (PySem.W.fnOf "_law_po_scaled" "_law_po_scaled" (defArgs s__law_po_scaled) (defBody s__law_po_scaled) (defScope s__law_po_scaled) .none kV__law_po_scaled dc__law_po_scaled pm__law_po_scaled an__law_po_scaled cd__law_po_scaled ct__law_po_scaled), sl__law_po_scaled⟩) (c__law_po_scaled : PySem.W.codeIn K cd__law_po_scaled "_law_po_scaled" = true) (k__law_po_scaled : PySem.W.keepIn K (.ref f__law_po_scaled) = true)
    {f__law_po_times : Addr} {od__law_po_times an__law_po_times : Option Addr} {sl__law_po_times : Array (Option Value)} {oc__law_po_times kV__law_po_times dc__law_po_times pm__law_po_times cd__law_po_times ct__law_po_times : Value}
    (a__law_po_times : PySem.W.nsIn K mainGlobals "_law_po_times" = some (some (.ref f__law_po_times))) (l__law_po_times : K.lookup f__law_po_times = some ⟨oc__law_po_times, od__law_po_times, .func (PySem.W.fnOf "_law_po_times" "_law_po_times" (defArgs s__law_po_times) (defBody s__law_po_times) (defScope s__law_po_times) .none kV__law_po_times dc__law_po_times pm__law_po_times an__law_po_times cd__law_po_times ct__law_po_times), sl__law_po_times⟩) (c__law_po_times : PySem.W.codeIn K cd__law_po_times "_law_po_times" = true) (k__law_po_times : PySem.W.keepIn K (.ref f__law_po_times) = true)
    {f__law_po_value : Addr} {od__law_po_value an__law_po_value : Option Addr} {sl__law_po_value : Array (Option Value)} {oc__law_po_value kV__law_po_value dc__law_po_value pm__law_po_value cd__law_po_value ct__law_po_value : Value}
    (a__law_po_value : PySem.W.nsIn K mainGlobals "_law_po_value" = some (some (.ref f__law_po_value))) (l__law_po_value : K.lookup f__law_po_value = some ⟨oc__law_po_value, od__law_po_value, .func (PySem.W.fnOf "_law_po_value" "_law_po_value" (defArgs s__law_po_value) (defBody s__law_po_value) (defScope s__law_po_value) .none kV__law_po_value dc__law_po_value pm__law_po_value an__law_po_value cd__law_po_value ct__law_po_value), sl__law_po_value⟩) (c__law_po_value : PySem.W.codeIn K cd__law_po_value "_law_po_value" = true) (k__law_po_value : PySem.W.keepIn K (.ref f__law_po_value) = true)
    {f__law_po_drawn : Addr} {od__law_po_drawn an__law_po_drawn : Option Addr} {sl__law_po_drawn : Array (Option Value)} {oc__law_po_drawn kV__law_po_drawn dc__law_po_drawn pm__law_po_drawn cd__law_po_drawn ct__law_po_drawn : Value}
    (a__law_po_drawn : PySem.W.nsIn K mainGlobals "_law_po_drawn" = some (some (.ref f__law_po_drawn))) (l__law_po_drawn : K.lookup f__law_po_drawn = some ⟨oc__law_po_drawn, od__law_po_drawn, .func (PySem.W.fnOf "_law_po_drawn" "_law_po_drawn" (defArgs s__law_po_drawn) (defBody s__law_po_drawn) (defScope s__law_po_drawn) .none kV__law_po_drawn dc__law_po_drawn pm__law_po_drawn an__law_po_drawn cd__law_po_drawn ct__law_po_drawn), sl__law_po_drawn⟩) (c__law_po_drawn : PySem.W.codeIn K cd__law_po_drawn "_law_po_drawn" = true) (k__law_po_drawn : PySem.W.keepIn K (.ref f__law_po_drawn) = true)
    {f__law_po_places : Addr} {od__law_po_places an__law_po_places : Option Addr} {sl__law_po_places : Array (Option Value)} {oc__law_po_places kV__law_po_places dc__law_po_places pm__law_po_places cd__law_po_places ct__law_po_places : Value}
    (a__law_po_places : PySem.W.nsIn K mainGlobals "_law_po_places" = some (some (.ref f__law_po_places))) (l__law_po_places : K.lookup f__law_po_places = some ⟨oc__law_po_places, od__law_po_places, .func (PySem.W.fnOf "_law_po_places" "_law_po_places" (defArgs s__law_po_places) (defBody s__law_po_places) (defScope s__law_po_places) .none kV__law_po_places dc__law_po_places pm__law_po_places an__law_po_places cd__law_po_places ct__law_po_places), sl__law_po_places⟩) (c__law_po_places : PySem.W.codeIn K cd__law_po_places "_law_po_places" = true) (k__law_po_places : PySem.W.keepIn K (.ref f__law_po_places) = true)
    {f__law_po_field : Addr} {od__law_po_field an__law_po_field : Option Addr} {sl__law_po_field : Array (Option Value)} {oc__law_po_field kV__law_po_field dc__law_po_field pm__law_po_field cd__law_po_field ct__law_po_field : Value}
    (a__law_po_field : PySem.W.nsIn K mainGlobals "_law_po_field" = some (some (.ref f__law_po_field))) (l__law_po_field : K.lookup f__law_po_field = some ⟨oc__law_po_field, od__law_po_field, .func (PySem.W.fnOf "_law_po_field" "_law_po_field" (defArgs s__law_po_field) (defBody s__law_po_field) (defScope s__law_po_field) .none kV__law_po_field dc__law_po_field pm__law_po_field an__law_po_field cd__law_po_field ct__law_po_field), sl__law_po_field⟩) (c__law_po_field : PySem.W.codeIn K cd__law_po_field "_law_po_field" = true) (k__law_po_field : PySem.W.keepIn K (.ref f__law_po_field) = true)
    {f__law_divided_right : Addr} {od__law_divided_right an__law_divided_right : Option Addr} {sl__law_divided_right : Array (Option Value)} {oc__law_divided_right kV__law_divided_right dc__law_divided_right pm__law_divided_right cd__law_divided_right ct__law_divided_right : Value}
    (a__law_divided_right : PySem.W.nsIn K mainGlobals "_law_divided_right" = some (some (.ref f__law_divided_right))) (l__law_divided_right : K.lookup f__law_divided_right = some ⟨oc__law_divided_right, od__law_divided_right, .func (PySem.W.fnOf "_law_divided_right" "_law_divided_right" (defArgs s__law_divided_right) (defBody s__law_divided_right) (defScope s__law_divided_right) .none kV__law_divided_right dc__law_divided_right pm__law_divided_right an__law_divided_right cd__law_divided_right ct__law_divided_right), sl__law_divided_right⟩) (c__law_divided_right : PySem.W.codeIn K cd__law_divided_right "_law_divided_right" = true) (k__law_divided_right : PySem.W.keepIn K (.ref f__law_divided_right) = true)
    {f__law_right : Addr} {od__law_right an__law_right : Option Addr} {sl__law_right : Array (Option Value)} {oc__law_right kV__law_right dc__law_right pm__law_right cd__law_right ct__law_right : Value}
    (a__law_right : PySem.W.nsIn K mainGlobals "_law_right" = some (some (.ref f__law_right))) (l__law_right : K.lookup f__law_right = some ⟨oc__law_right, od__law_right, .func (PySem.W.fnOf "_law_right" "_law_right" (defArgs s__law_right) (defBody s__law_right) (defScope s__law_right) .none kV__law_right dc__law_right pm__law_right an__law_right cd__law_right ct__law_right), sl__law_right⟩) (c__law_right : PySem.W.codeIn K cd__law_right "_law_right" = true) (k__law_right : PySem.W.keepIn K (.ref f__law_right) = true)
    {f__law_roots_right : Addr} {od__law_roots_right an__law_roots_right : Option Addr} {sl__law_roots_right : Array (Option Value)} {oc__law_roots_right kV__law_roots_right dc__law_roots_right pm__law_roots_right cd__law_roots_right ct__law_roots_right : Value}
    (a__law_roots_right : PySem.W.nsIn K mainGlobals "_law_roots_right" = some (some (.ref f__law_roots_right))) (l__law_roots_right : K.lookup f__law_roots_right = some ⟨oc__law_roots_right, od__law_roots_right, .func (PySem.W.fnOf "_law_roots_right" "_law_roots_right" (defArgs s__law_roots_right) (defBody s__law_roots_right) (defScope s__law_roots_right) .none kV__law_roots_right dc__law_roots_right pm__law_roots_right an__law_roots_right cd__law_roots_right ct__law_roots_right), sl__law_roots_right⟩) (c__law_roots_right : PySem.W.codeIn K cd__law_roots_right "_law_roots_right" = true) (k__law_roots_right : PySem.W.keepIn K (.ref f__law_roots_right) = true)
    {f_law : Addr} {od_law an_law : Option Addr} {sl_law : Array (Option Value)} {oc_law kV_law dc_law pm_law cd_law ct_law : Value}
    (a_law : PySem.W.nsIn K mainGlobals "law" = some (some (.ref f_law))) (l_law : K.lookup f_law = some ⟨oc_law, od_law, .func (PySem.W.fnOf "law" "law" (defArgs s_law) (defBody s_law) (defScope s_law) .none kV_law dc_law pm_law an_law cd_law ct_law), sl_law⟩) (c_law : PySem.W.codeIn K cd_law "law" = true) (k_law : PySem.W.keepIn K (.ref f_law) = true)
    (z_abs : PySem.W.nsIn K mainGlobals "abs" = some none)
    (z_enumerate : PySem.W.nsIn K mainGlobals "enumerate" = some none)
    (z_int : PySem.W.nsIn K mainGlobals "int" = some none)
    (z_isinstance : PySem.W.nsIn K mainGlobals "isinstance" = some none)
    (z_len : PySem.W.nsIn K mainGlobals "len" = some none)
    (z_list : PySem.W.nsIn K mainGlobals "list" = some none)
    (z_max : PySem.W.nsIn K mainGlobals "max" = some none)
    (z_min : PySem.W.nsIn K mainGlobals "min" = some none)
    (z_range : PySem.W.nsIn K mainGlobals "range" = some none)
    (z_reversed : PySem.W.nsIn K mainGlobals "reversed" = some none)
    (z_set : PySem.W.nsIn K mainGlobals "set" = some none)
    (z_sorted : PySem.W.nsIn K mainGlobals "sorted" = some none)
    (z_tuple : PySem.W.nsIn K mainGlobals "tuple" = some none)
    (z_zip : PySem.W.nsIn K mainGlobals "zip" = some none)
    {tk_LEAST_FIELD : Tok} (q_LEAST_FIELD : PySem.W.nsIn K mainGlobals "LEAST_FIELD" = some (some (.int 5 tk_LEAST_FIELD)))
    {tk_MAX_DEGREE : Tok} (q_MAX_DEGREE : PySem.W.nsIn K mainGlobals "MAX_DEGREE" = some (some (.int 60 tk_MAX_DEGREE)))
    {tk_MAX_FIELD : Tok} (q_MAX_FIELD : PySem.W.nsIn K mainGlobals "MAX_FIELD" = some (some (.int 997 tk_MAX_FIELD)))
    {tk_MAX_SIDE : Tok} (q_MAX_SIDE : PySem.W.nsIn K mainGlobals "MAX_SIDE" = some (some (.int 60 tk_MAX_SIDE)))
    {qa_SMALL_PRIMES : Addr} {qd_SMALL_PRIMES : Option Addr} {qn_SMALL_PRIMES : Nat} {qs_SMALL_PRIMES : Array (Option Value)} {t0_SMALL_PRIMES t1_SMALL_PRIMES t2_SMALL_PRIMES t3_SMALL_PRIMES t4_SMALL_PRIMES t5_SMALL_PRIMES t6_SMALL_PRIMES t7_SMALL_PRIMES t8_SMALL_PRIMES t9_SMALL_PRIMES t10_SMALL_PRIMES : Tok} (q_SMALL_PRIMES : PySem.W.nsIn K mainGlobals "SMALL_PRIMES" = some (some (.ref qa_SMALL_PRIMES)))
    (r_SMALL_PRIMES : K.lookup qa_SMALL_PRIMES = some ⟨.type "tuple", qd_SMALL_PRIMES, .seq #[.int 2 t0_SMALL_PRIMES, .int 3 t1_SMALL_PRIMES, .int 5 t2_SMALL_PRIMES, .int 7 t3_SMALL_PRIMES, .int 11 t4_SMALL_PRIMES, .int 13 t5_SMALL_PRIMES, .int 17 t6_SMALL_PRIMES, .int 19 t7_SMALL_PRIMES, .int 23 t8_SMALL_PRIMES, .int 29 t9_SMALL_PRIMES, .int 31 t10_SMALL_PRIMES] qn_SMALL_PRIMES, qs_SMALL_PRIMES⟩)
    : ∃ fd : FuncData, (∀ (s : Shared) (v : Value), BindsTo s fd ⟨[v], []⟩ [("script", v)]) ∧ ∀ base : Heap, K.In base → base.Ns mainGlobals mg → FnOk l.prog w K mg base CX0 9 fa fd ["script"] (spM K 1 [] F_law) := by
  have e := hfa.symm.trans (PySem.W.mg_of X G a_law)
  cases e
  have U_is_integer := fun_mk (st := s_is_integer) l_is_integer c_is_integer k_is_integer
  have A_is_integer : DefAt K mg "is_integer" s_is_integer ["value", "least", "most"] _ _ := ⟨U_is_integer, PySem.W.mg_of X G a_is_integer, U_is_integer.binds (ps := ["value", "least", "most"]) fun _ _ _ _ _ _ us hl => match us, hl with | [_, _, _], _ => rfl⟩
  have U_is_field := fun_mk (st := s_is_field) l_is_field c_is_field k_is_field
  have A_is_field : DefAt K mg "is_field" s_is_field ["value"] _ _ := ⟨U_is_field, PySem.W.mg_of X G a_is_field, U_is_field.binds (ps := ["value"]) fun _ _ _ _ _ _ us hl => match us, hl with | [_], _ => rfl⟩
  have U_are_numbers := fun_mk (st := s_are_numbers) l_are_numbers c_are_numbers k_are_numbers
  have A_are_numbers : DefAt K mg "are_numbers" s_are_numbers ["field", "value"] _ _ := ⟨U_are_numbers, PySem.W.mg_of X G a_are_numbers, U_are_numbers.binds (ps := ["field", "value"]) fun _ _ _ _ _ _ us hl => match us, hl with | [_, _], _ => rfl⟩
  have U_check_integer := fun_mk (st := s_check_integer) l_check_integer c_check_integer k_check_integer
  have A_check_integer : DefAt K mg "check_integer" s_check_integer ["value", "least", "most"] _ _ := ⟨U_check_integer, PySem.W.mg_of X G a_check_integer, U_check_integer.binds (ps := ["value", "least", "most"]) fun _ _ _ _ _ _ us hl => match us, hl with | [_, _, _], _ => rfl⟩
  have U_check_field := fun_mk (st := s_check_field) l_check_field c_check_field k_check_field
  have A_check_field : DefAt K mg "check_field" s_check_field ["field"] _ _ := ⟨U_check_field, PySem.W.mg_of X G a_check_field, U_check_field.binds (ps := ["field"]) fun _ _ _ _ _ _ us hl => match us, hl with | [_], _ => rfl⟩
  have U_check_number := fun_mk (st := s_check_number) l_check_number c_check_number k_check_number
  have A_check_number : DefAt K mg "check_number" s_check_number ["field", "number"] _ _ := ⟨U_check_number, PySem.W.mg_of X G a_check_number, U_check_number.binds (ps := ["field", "number"]) fun _ _ _ _ _ _ us hl => match us, hl with | [_, _], _ => rfl⟩
  have U_raised := fun_mk (st := s_raised) l_raised c_raised k_raised
  have A_raised : DefAt K mg "raised" s_raised ["field", "number", "many"] _ _ := ⟨U_raised, PySem.W.mg_of X G a_raised, U_raised.binds (ps := ["field", "number", "many"]) fun _ _ _ _ _ _ us hl => match us, hl with | [_, _, _], _ => rfl⟩
  have U_inverse := fun_mk (st := s_inverse) l_inverse c_inverse k_inverse
  have A_inverse : DefAt K mg "inverse" s_inverse ["field", "number"] _ _ := ⟨U_inverse, PySem.W.mg_of X G a_inverse, U_inverse.binds (ps := ["field", "number"]) fun _ _ _ _ _ _ us hl => match us, hl with | [_, _], _ => rfl⟩
  have U_is_poly := fun_mk (st := s_is_poly) l_is_poly c_is_poly k_is_poly
  have A_is_poly : DefAt K mg "is_poly" s_is_poly ["field", "value"] _ _ := ⟨U_is_poly, PySem.W.mg_of X G a_is_poly, U_is_poly.binds (ps := ["field", "value"]) fun _ _ _ _ _ _ us hl => match us, hl with | [_, _], _ => rfl⟩
  have U_are_unlike := fun_mk (st := s_are_unlike) l_are_unlike c_are_unlike k_are_unlike
  have A_are_unlike : DefAt K mg "are_unlike" s_are_unlike ["field", "value"] _ _ := ⟨U_are_unlike, PySem.W.mg_of X G a_are_unlike, U_are_unlike.binds (ps := ["field", "value"]) fun _ _ _ _ _ _ us hl => match us, hl with | [_, _], _ => rfl⟩
  have U_check_poly := fun_mk (st := s_check_poly) l_check_poly c_check_poly k_check_poly
  have A_check_poly : DefAt K mg "check_poly" s_check_poly ["field", "poly"] _ _ := ⟨U_check_poly, PySem.W.mg_of X G a_check_poly, U_check_poly.binds (ps := ["field", "poly"]) fun _ _ _ _ _ _ us hl => match us, hl with | [_, _], _ => rfl⟩
  have U_check_places := fun_mk (st := s_check_places) l_check_places c_check_places k_check_places
  have A_check_places : DefAt K mg "check_places" s_check_places ["field", "places"] _ _ := ⟨U_check_places, PySem.W.mg_of X G a_check_places, U_check_places.binds (ps := ["field", "places"]) fun _ _ _ _ _ _ us hl => match us, hl with | [_, _], _ => rfl⟩
  have U_trimmed := fun_mk (st := s_trimmed) l_trimmed c_trimmed k_trimmed
  have A_trimmed : DefAt K mg "trimmed" s_trimmed ["numbers"] _ _ := ⟨U_trimmed, PySem.W.mg_of X G a_trimmed, U_trimmed.binds (ps := ["numbers"]) fun _ _ _ _ _ _ us hl => match us, hl with | [_], _ => rfl⟩
  have U_padded := fun_mk (st := s_padded) l_padded c_padded k_padded
  have A_padded : DefAt K mg "padded" s_padded ["poly", "many"] _ _ := ⟨U_padded, PySem.W.mg_of X G a_padded, U_padded.binds (ps := ["poly", "many"]) fun _ _ _ _ _ _ us hl => match us, hl with | [_, _], _ => rfl⟩
  have U_scaled := fun_mk (st := s_scaled) l_scaled c_scaled k_scaled
  have A_scaled : DefAt K mg "scaled" s_scaled ["field", "poly", "number"] _ _ := ⟨U_scaled, PySem.W.mg_of X G a_scaled, U_scaled.binds (ps := ["field", "poly", "number"]) fun _ _ _ _ _ _ us hl => match us, hl with | [_, _, _], _ => rfl⟩
  have U_added := fun_mk (st := s_added) l_added c_added k_added
  have A_added : DefAt K mg "added" s_added ["field", "one", "other"] _ _ := ⟨U_added, PySem.W.mg_of X G a_added, U_added.binds (ps := ["field", "one", "other"]) fun _ _ _ _ _ _ us hl => match us, hl with | [_, _, _], _ => rfl⟩
  have U_multiplied := fun_mk (st := s_multiplied) l_multiplied c_multiplied k_multiplied
  have A_multiplied : DefAt K mg "multiplied" s_multiplied ["field", "one", "other"] _ _ := ⟨U_multiplied, PySem.W.mg_of X G a_multiplied, U_multiplied.binds (ps := ["field", "one", "other"]) fun _ _ _ _ _ _ us hl => match us, hl with | [_, _, _], _ => rfl⟩
  have U_evaluated := fun_mk (st := s_evaluated) l_evaluated c_evaluated k_evaluated
  have A_evaluated : DefAt K mg "evaluated" s_evaluated ["field", "poly", "place"] _ _ := ⟨U_evaluated, PySem.W.mg_of X G a_evaluated, U_evaluated.binds (ps := ["field", "poly", "place"]) fun _ _ _ _ _ _ us hl => match us, hl with | [_, _, _], _ => rfl⟩
  have U_poly_sum := fun_mk (st := s_poly_sum) l_poly_sum c_poly_sum k_poly_sum
  have A_poly_sum : DefAt K mg "poly_sum" s_poly_sum ["field", "one", "other"] _ _ := ⟨U_poly_sum, PySem.W.mg_of X G a_poly_sum, U_poly_sum.binds (ps := ["field", "one", "other"]) fun _ _ _ _ _ _ us hl => match us, hl with | [_, _, _], _ => rfl⟩
  have U_poly_scaled := fun_mk (st := s_poly_scaled) l_poly_scaled c_poly_scaled k_poly_scaled
  have A_poly_scaled : DefAt K mg "poly_scaled" s_poly_scaled ["field", "poly", "number"] _ _ := ⟨U_poly_scaled, PySem.W.mg_of X G a_poly_scaled, U_poly_scaled.binds (ps := ["field", "poly", "number"]) fun _ _ _ _ _ _ us hl => match us, hl with | [_, _, _], _ => rfl⟩
  have U_poly_product := fun_mk (st := s_poly_product) l_poly_product c_poly_product k_poly_product
  have A_poly_product : DefAt K mg "poly_product" s_poly_product ["field", "one", "other"] _ _ := ⟨U_poly_product, PySem.W.mg_of X G a_poly_product, U_poly_product.binds (ps := ["field", "one", "other"]) fun _ _ _ _ _ _ us hl => match us, hl with | [_, _, _], _ => rfl⟩
  have U_poly_divided := fun_mk (st := s_poly_divided) l_poly_divided c_poly_divided k_poly_divided
  have A_poly_divided : DefAt K mg "poly_divided" s_poly_divided ["field", "one", "other"] _ _ := ⟨U_poly_divided, PySem.W.mg_of X G a_poly_divided, U_poly_divided.binds (ps := ["field", "one", "other"]) fun _ _ _ _ _ _ us hl => match us, hl with | [_, _, _], _ => rfl⟩
  have U_value_at := fun_mk (st := s_value_at) l_value_at c_value_at k_value_at
  have A_value_at : DefAt K mg "value_at" s_value_at ["field", "poly", "place"] _ _ := ⟨U_value_at, PySem.W.mg_of X G a_value_at, U_value_at.binds (ps := ["field", "poly", "place"]) fun _ _ _ _ _ _ us hl => match us, hl with | [_, _, _], _ => rfl⟩
  have U_values_at := fun_mk (st := s_values_at) l_values_at c_values_at k_values_at
  have A_values_at : DefAt K mg "values_at" s_values_at ["field", "poly", "places"] _ _ := ⟨U_values_at, PySem.W.mg_of X G a_values_at, U_values_at.binds (ps := ["field", "poly", "places"]) fun _ _ _ _ _ _ us hl => match us, hl with | [_, _, _], _ => rfl⟩
  have U__law_dice := fun_mk (st := s__law_dice) l__law_dice c__law_dice k__law_dice
  have A__law_dice : DefAt K mg "_law_dice" s__law_dice ["script", "spot"] _ _ := ⟨U__law_dice, PySem.W.mg_of X G a__law_dice, U__law_dice.binds (ps := ["script", "spot"]) fun _ _ _ _ _ _ us hl => match us, hl with | [_, _], _ => rfl⟩
  have U__law_roll := fun_mk (st := s__law_roll) l__law_roll c__law_roll k__law_roll
  have A__law_roll : DefAt K mg "_law_roll" s__law_roll ["dice", "most"] _ _ := ⟨U__law_roll, PySem.W.mg_of X G a__law_roll, U__law_roll.binds (ps := ["dice", "most"]) fun _ _ _ _ _ _ us hl => match us, hl with | [_, _], _ => rfl⟩
  have U__law_pick := fun_mk (st := s__law_pick) l__law_pick c__law_pick k__law_pick
  have A__law_pick : DefAt K mg "_law_pick" s__law_pick ["dice", "items"] _ _ := ⟨U__law_pick, PySem.W.mg_of X G a__law_pick, U__law_pick.binds (ps := ["dice", "items"]) fun _ _ _ _ _ _ us hl => match us, hl with | [_, _], _ => rfl⟩
  have U__law_po_trim := fun_mk (st := s__law_po_trim) l__law_po_trim c__law_po_trim k__law_po_trim
  have A__law_po_trim : DefAt K mg "_law_po_trim" s__law_po_trim ["numbers"] _ _ := ⟨U__law_po_trim, PySem.W.mg_of X G a__law_po_trim, U__law_po_trim.binds (ps := ["numbers"]) fun _ _ _ _ _ _ us hl => match us, hl with | [_], _ => rfl⟩
  have U__law_po_sum := fun_mk (st := s__law_po_sum) l__law_po_sum c__law_po_sum k__law_po_sum
  have A__law_po_sum : DefAt K mg "_law_po_sum" s__law_po_sum ["p", "one", "other"] _ _ := ⟨U__law_po_sum, PySem.W.mg_of X G a__law_po_sum, U__law_po_sum.binds (ps := ["p", "one", "other"]) fun _ _ _ _ _ _ us hl => match us, hl with | [_, _, _], _ => rfl⟩
  have U__law_po_scaled := fun_mk (st := s__law_po_scaled) l__law_po_scaled c__law_po_scaled k__law_po_scaled
  have A__law_po_scaled : DefAt K mg "_law_po_scaled" s__law_po_scaled ["p", "poly", "number"] _ _ := ⟨U__law_po_scaled, PySem.W.mg_of X G a__law_po_scaled, U__law_po_scaled.binds (ps := ["p", "poly", "number"]) fun _ _ _ _ _ _ us hl => match us, hl with | [_, _, _], _ => rfl⟩
  have U__law_po_times := fun_mk (st := s__law_po_times) l__law_po_times c__law_po_times k__law_po_times
  have A__law_po_times : DefAt K mg "_law_po_times" s__law_po_times ["p", "one", "other"] _ _ := ⟨U__law_po_times, PySem.W.mg_of X G a__law_po_times, U__law_po_times.binds (ps := ["p", "one", "other"]) fun _ _ _ _ _ _ us hl => match us, hl with | [_, _, _], _ => rfl⟩
  have U__law_po_value := fun_mk (st := s__law_po_value) l__law_po_value c__law_po_value k__law_po_value
  have A__law_po_value : DefAt K mg "_law_po_value" s__law_po_value ["p", "poly", "place"] _ _ := ⟨U__law_po_value, PySem.W.mg_of X G a__law_po_value, U__law_po_value.binds (ps := ["p", "poly", "place"]) fun _ _ _ _ _ _ us hl => match us, hl with | [_, _, _], _ => rfl⟩
  have U__law_po_drawn := fun_mk (st := s__law_po_drawn) l__law_po_drawn c__law_po_drawn k__law_po_drawn
  have A__law_po_drawn : DefAt K mg "_law_po_drawn" s__law_po_drawn ["dice", "p", "most"] _ _ := ⟨U__law_po_drawn, PySem.W.mg_of X G a__law_po_drawn, U__law_po_drawn.binds (ps := ["dice", "p", "most"]) fun _ _ _ _ _ _ us hl => match us, hl with | [_, _, _], _ => rfl⟩
  have U__law_po_places := fun_mk (st := s__law_po_places) l__law_po_places c__law_po_places k__law_po_places
  have A__law_po_places : DefAt K mg "_law_po_places" s__law_po_places ["dice", "p", "many", "least"] _ _ := ⟨U__law_po_places, PySem.W.mg_of X G a__law_po_places, U__law_po_places.binds (ps := ["dice", "p", "many", "least"]) fun _ _ _ _ _ _ us hl => match us, hl with | [_, _, _, _], _ => rfl⟩
  have U__law_po_field := fun_mk (st := s__law_po_field) l__law_po_field c__law_po_field k__law_po_field
  have A__law_po_field : DefAt K mg "_law_po_field" s__law_po_field ["dice"] _ _ := ⟨U__law_po_field, PySem.W.mg_of X G a__law_po_field, U__law_po_field.binds (ps := ["dice"]) fun _ _ _ _ _ _ us hl => match us, hl with | [_], _ => rfl⟩
  have U__law_divided_right := fun_mk (st := s__law_divided_right) l__law_divided_right c__law_divided_right k__law_divided_right
  have A__law_divided_right : DefAt K mg "_law_divided_right" s__law_divided_right ["p", "one", "other"] _ _ := ⟨U__law_divided_right, PySem.W.mg_of X G a__law_divided_right, U__law_divided_right.binds (ps := ["p", "one", "other"]) fun _ _ _ _ _ _ us hl => match us, hl with | [_, _, _], _ => rfl⟩
  have U__law_right := fun_mk (st := s__law_right) l__law_right c__law_right k__law_right
  have A__law_right : DefAt K mg "_law_right" s__law_right ["dice"] _ _ := ⟨U__law_right, PySem.W.mg_of X G a__law_right, U__law_right.binds (ps := ["dice"]) fun _ _ _ _ _ _ us hl => match us, hl with | [_], _ => rfl⟩
  have U__law_roots_right := fun_mk (st := s__law_roots_right) l__law_roots_right c__law_roots_right k__law_roots_right
  have A__law_roots_right : DefAt K mg "_law_roots_right" s__law_roots_right ["dice"] _ _ := ⟨U__law_roots_right, PySem.W.mg_of X G a__law_roots_right, U__law_roots_right.binds (ps := ["dice"]) fun _ _ _ _ _ _ us hl => match us, hl with | [_], _ => rfl⟩
  have U_law := fun_mk (st := s_law) l_law c_law k_law
  have A_law : DefAt K mg "law" s_law ["script"] _ _ := ⟨U_law, PySem.W.mg_of X G a_law, U_law.binds (ps := ["script"]) fun _ _ _ _ _ _ us hl => match us, hl with | [_], _ => rfl⟩
  have T : Txt K mg := { n_abs := PySem.W.mg_none_of X G z_abs, n_enumerate := PySem.W.mg_none_of X G z_enumerate, n_int := PySem.W.mg_none_of X G z_int, n_isinstance := PySem.W.mg_none_of X G z_isinstance, n_len := PySem.W.mg_none_of X G z_len, n_list := PySem.W.mg_none_of X G z_list, n_max := PySem.W.mg_none_of X G z_max, n_min := PySem.W.mg_none_of X G z_min, n_range := PySem.W.mg_none_of X G z_range, n_reversed := PySem.W.mg_none_of X G z_reversed, n_set := PySem.W.mg_none_of X G z_set, n_sorted := PySem.W.mg_none_of X G z_sorted, n_tuple := PySem.W.mg_none_of X G z_tuple, n_zip := PySem.W.mg_none_of X G z_zip, c_LEAST_FIELD := ⟨(.int 5 tk_LEAST_FIELD, .int 5), PySem.W.mg_of X G q_LEAST_FIELD, ⟨_, rfl⟩, fun Hf => .int _⟩, c_MAX_DEGREE := ⟨(.int 60 tk_MAX_DEGREE, .int 60), PySem.W.mg_of X G q_MAX_DEGREE, ⟨_, rfl⟩, fun Hf => .int _⟩, c_MAX_FIELD := ⟨(.int 997 tk_MAX_FIELD, .int 997), PySem.W.mg_of X G q_MAX_FIELD, ⟨_, rfl⟩, fun Hf => .int _⟩, c_MAX_SIDE := ⟨(.int 60 tk_MAX_SIDE, .int 60), PySem.W.mg_of X G q_MAX_SIDE, ⟨_, rfl⟩, fun Hf => .int _⟩, c_SMALL_PRIMES := ⟨(.ref qa_SMALL_PRIMES, .ref qa_SMALL_PRIMES), PySem.W.mg_of X G q_SMALL_PRIMES, rfl, fun Hf => rep_tupK [2, 3, 5, 7, 11, 13, 17, 19, 23, 29, 31] [t0_SMALL_PRIMES, t1_SMALL_PRIMES, t2_SMALL_PRIMES, t3_SMALL_PRIMES, t4_SMALL_PRIMES, t5_SMALL_PRIMES, t6_SMALL_PRIMES, t7_SMALL_PRIMES, t8_SMALL_PRIMES, t9_SMALL_PRIMES, t10_SMALL_PRIMES] r_SMALL_PRIMES rfl rfl (by decide) Hf⟩ }
  refine ⟨PySem.W.fnOf "law" "law" (defArgs s_law) (defBody s_law) (defScope s_law) .none kV_law dc_law pm_law an_law cd_law ct_law, fun s v => .of_eq rfl, fun base _ _ => ?_⟩
  have G_is_integer := ok_is_integer (P := l.prog) (w := w) (base := base) T A_is_integer 
  have G_is_field := ok_is_field (P := l.prog) (w := w) (base := base) T A_is_field A_is_integer G_is_integer
  have G_are_numbers := ok_are_numbers (P := l.prog) (w := w) (base := base) T A_are_numbers 
  have G_check_integer := ok_check_integer (P := l.prog) (w := w) (base := base) T A_check_integer A_is_integer G_is_integer
  have G_check_field := ok_check_field (P := l.prog) (w := w) (base := base) T A_check_field A_is_field G_is_field
  have G_check_number := ok_check_number (P := l.prog) (w := w) (base := base) T A_check_number A_check_integer G_check_integer
  have G_raised := ok_raised (P := l.prog) (w := w) (base := base) T A_raised 
  have G_inverse := ok_inverse (P := l.prog) (w := w) (base := base) T A_inverse A_raised G_raised
  have G_is_poly := ok_is_poly (P := l.prog) (w := w) (base := base) T A_is_poly A_check_field G_check_field A_are_numbers G_are_numbers
  have G_are_unlike := ok_are_unlike (P := l.prog) (w := w) (base := base) T A_are_unlike A_are_numbers G_are_numbers
  have G_check_poly := ok_check_poly (P := l.prog) (w := w) (base := base) T A_check_poly A_is_poly G_is_poly
  have G_check_places := ok_check_places (P := l.prog) (w := w) (base := base) T A_check_places A_are_unlike G_are_unlike
  have G_trimmed := ok_trimmed (P := l.prog) (w := w) (base := base) T A_trimmed 
  have G_padded := ok_padded (P := l.prog) (w := w) (base := base) T A_padded 
  have G_scaled := ok_scaled (P := l.prog) (w := w) (base := base) T A_scaled 
  have G_added := ok_added (P := l.prog) (w := w) (base := base) T A_added A_trimmed G_trimmed A_padded G_padded
  have G_multiplied := ok_multiplied (P := l.prog) (w := w) (base := base) T A_multiplied 
  have G_evaluated := ok_evaluated (P := l.prog) (w := w) (base := base) T A_evaluated 
  have G_poly_sum := ok_poly_sum (P := l.prog) (w := w) (base := base) T A_poly_sum A_check_field G_check_field A_check_poly G_check_poly A_added G_added
  have G_poly_scaled := ok_poly_scaled (P := l.prog) (w := w) (base := base) T A_poly_scaled A_check_field G_check_field A_check_poly G_check_poly A_check_number G_check_number A_trimmed G_trimmed A_scaled G_scaled
  have G_poly_product := ok_poly_product (P := l.prog) (w := w) (base := base) T A_poly_product A_check_field G_check_field A_check_poly G_check_poly A_multiplied G_multiplied
  have G_poly_divided := ok_poly_divided (P := l.prog) (w := w) (base := base) T A_poly_divided A_check_field G_check_field A_check_poly G_check_poly A_inverse G_inverse A_trimmed G_trimmed
  have G_value_at := ok_value_at (P := l.prog) (w := w) (base := base) T A_value_at A_check_field G_check_field A_check_poly G_check_poly A_check_number G_check_number A_evaluated G_evaluated
  have G_values_at := ok_values_at (P := l.prog) (w := w) (base := base) T A_values_at A_check_field G_check_field A_check_poly G_check_poly A_check_places G_check_places A_evaluated G_evaluated
  have G__law_dice := ok__law_dice (P := l.prog) (w := w) (base := base) T A__law_dice 
  have G__law_roll := ok__law_roll (P := l.prog) (w := w) (base := base) T A__law_roll 
  have G__law_pick := ok__law_pick (P := l.prog) (w := w) (base := base) T A__law_pick A__law_roll G__law_roll
  have G__law_po_trim := ok__law_po_trim (P := l.prog) (w := w) (base := base) T A__law_po_trim 
  have G__law_po_sum := ok__law_po_sum (P := l.prog) (w := w) (base := base) T A__law_po_sum A__law_po_trim G__law_po_trim
  have G__law_po_scaled := ok__law_po_scaled (P := l.prog) (w := w) (base := base) T A__law_po_scaled A__law_po_trim G__law_po_trim
  have G__law_po_times := ok__law_po_times (P := l.prog) (w := w) (base := base) T A__law_po_times A__law_po_trim G__law_po_trim
  have G__law_po_value := ok__law_po_value (P := l.prog) (w := w) (base := base) T A__law_po_value 
  have G__law_po_drawn := ok__law_po_drawn (P := l.prog) (w := w) (base := base) T A__law_po_drawn A__law_po_trim G__law_po_trim A__law_roll G__law_roll A__law_pick G__law_pick
  have G__law_po_places := ok__law_po_places (P := l.prog) (w := w) (base := base) T A__law_po_places A__law_roll G__law_roll
  have G__law_po_field := ok__law_po_field (P := l.prog) (w := w) (base := base) T A__law_po_field A__law_pick G__law_pick
  have G__law_divided_right := ok__law_divided_right (P := l.prog) (w := w) (base := base) T A__law_divided_right A_poly_divided G_poly_divided A_is_poly G_is_poly A__law_po_sum G__law_po_sum A__law_po_times G__law_po_times
  have G__law_right := ok__law_right (P := l.prog) (w := w) (base := base) T A__law_right A__law_po_field G__law_po_field A__law_po_drawn G__law_po_drawn A__law_roll G__law_roll A__law_po_sum G__law_po_sum A__law_po_scaled G__law_po_scaled A__law_po_times G__law_po_times A_poly_sum G_poly_sum A_poly_scaled G_poly_scaled A_poly_product G_poly_product A__law_divided_right G__law_divided_right A_poly_divided G_poly_divided A__law_po_places G__law_po_places A_values_at G_values_at A__law_po_value G__law_po_value A_value_at G_value_at
  have G__law_roots_right := ok__law_roots_right (P := l.prog) (w := w) (base := base) T A__law_roots_right A__law_pick G__law_pick A__law_po_places G__law_po_places A__law_roll G__law_roll A_poly_product G_poly_product A__law_po_trim G__law_po_trim A_value_at G_value_at
  have G_law := ok_law (P := l.prog) (w := w) (base := base) T A_law A__law_dice G__law_dice A__law_right G__law_right A__law_roots_right G__law_roots_right A_is_poly G_is_poly A_poly_product G_poly_product A_poly_divided G_poly_divided A_poly_sum G_poly_sum A_value_at G_value_at
  exact G_law
end K03
end
section
set_option Elab.async false
set_option linter.all false
set_option autoImplicit false
set_option exponentiation.threshold 1000
/-! the mirrors' equations, for simp: each where it is applied to the slots -/
namespace EV
open PySem PySem.Spec PyProof.Rows L2
section
variable (g g0 : Gh) (f h : ME) (t u : MT) (fa : MA) (it : MI) (s r : MS) (n i : Nat) (Fn F2 : Da → Da → Option Wv) (d : Da) (m : MF) (w : Wv) (ws : List Wv)
theorem e_bodyM (pr : List Nat) : bodyM pr n s g = (s (g ++ List.replicate n .un)).bind fun a => match a.1 with | .rt w => some (w, keepArgs pr g a.2) | .nx => some (.dat .none, keepArgs pr g a.2) | _ => none := rfl
theorem e_seq : sSeq s r g = (s g).bind fun a => match a.1 with | .nx => r a.2 | fl => some (fl, a.2) := rfl
theorem e_nil : sNil g = some (.nx, g) := rfl
theorem e_if : sIf t s r g = (t g).bind fun a => if a.1 = true then s a.2 else r a.2 := rfl
theorem e_set : sSet i f g = (f g).bind fun a => (setN i a.1 a.2).bind fun g' => some (.nx, g') := rfl
theorem e_ret (pr : List Nat) : sRet pr f g = (f g).bind fun a => match a.1 with
  | .slot i => if pr.contains i then (toD (.slot i) a.2).bind fun r => some (.rt (.dat r.1), r.2) else match a.2[i]? with
    | some (.own ds) => some (.rt (.fresh ds), a.2.set i .un)
    | some (.val d) => some (.rt (.dat d), a.2)
    | _ => none
  | w => some (.rt w, a.2) := rfl
theorem e_drop : sDrop f g = (f g).bind fun a => some (.nx, a.2) := rfl
theorem e_par (is : List Nat) : sPar is fa g = (fa g).bind fun a => (setNs is a.1 a.2).bind fun g' => some (.nx, g') := rfl
theorem e_asg (mm : Wv → Gh → Option Gh) : sAsg f mm g = (f g).bind fun a => (mm a.1 a.2).bind fun g' => some (.nx, g') := rfl
theorem e_for (tg : Wv → Gh → Option Gh) : sFor it tg s g = (it g).bind fun a => forL tg s a.1 a.2 := rfl
theorem e_app : sApp i f g = match g[i]? with
  | some (.own _) => (f g).bind fun a => (toD a.1 a.2).bind fun r => match r.2[i]? with
    | some (.own ds) => if ds.length < sizeLine then some (.nx, r.2.set i (.own (ds ++ [r.1]))) else none
    | _ => none
  | _ => none := rfl
theorem e_setix : sSetIx i f h g = (f g).bind fun a => (toD a.1 a.2).bind fun r => match r.2[i]? with
  | some (.own _) => (h r.2).bind fun b => (look b.1 b.2).bind fun y => match y, b.2[i]? with
    | .int k, some (.own ds) => (ixN ds.length k).bind fun j => some (.nx, b.2.set i (.own (ds.set j r.1)))
    | _, _ => none
  | _ => none := rfl
theorem e_aug (k : Int → Int → Int) : sAug i k f g = match g[i]? with
  | some (.val (.int a)) => (f g).bind fun b => (look b.1 b.2).bind fun y => match y with
    | .int j => if i < b.2.length then some (.nx, b.2.set i (.val (.int (k a j)))) else none
    | _ => none
  | _ => none := rfl
theorem e_while : sWhile n t s g = whileL t s n g := rfl
theorem e_name : mName i g = match g[i]? with | some (.val d) => some (.dat d, g) | some (.own _) => some (.slot i, g) | some (.raw v) => some (.raw v, g) | _ => none := rfl
theorem e_c : mC d g = some (.dat d, g) := rfl
theorem e_anil : mNil g = some ([], g) := rfl
theorem e_acons : mCons f fa g = (f g).bind fun a => (fa a.2).bind fun b => some (a.1 :: b.1, b.2) := rfl
theorem e_bin : mBin Fn f h g = (f g).bind fun a => (h a.2).bind fun b => (look a.1 b.2).bind fun x => (look b.1 b.2).bind fun y => (Fn x y).bind fun w => some (w, b.2) := rfl
theorem e_cmp : mCmp Fn f h g = asB (mBin Fn f h g) := rfl
theorem e_brk : sBrk g = some (.bk, g) := rfl
theorem e_cnt : sCnt g = some (.ct, g) := rfl
theorem e_retn : sRetN g = some (.rt (.dat .none), g) := rfl
theorem e_ix : mIx f h g = (f g).bind fun a => (h a.2).bind fun b => (look a.1 b.2).bind fun x => (look b.1 b.2).bind fun y => (dIx x y).bind fun d => some (.dat d, b.2) := rfl
theorem e_call (Fc : List Da → Option Wv) : mCall Fc fa g = (fa g).bind fun a => (lookAll a.1 a.2).bind fun ds => (Fc ds).bind fun w => some (w, a.2) := rfl
theorem e_fn : mFn m fa g = (fa g).bind fun a => (toSls a.1 a.2).bind fun r => (m r.1).bind fun c => some (c.1, r.2) := rfl
theorem e_fn0 : mFn0 m g = (m []).bind fun c => some (c.1, g) := rfl
theorem e_fnD : mFnD m fa g = (fa g).bind fun a => match a.1 with
  | .slot i :: ws => (toSls ws a.2).bind fun r => match r.2[i]? with
    | some (.own ds) => (m (.own ds :: r.1)).bind fun c => match c.2 with
      | s :: _ => some (c.1, r.2.set i s)
      | [] => none
    | _ => none
  | _ => none := rfl
theorem e_ifx : mIf t f h g = (t g).bind fun a => if a.1 = true then f a.2 else h a.2 := rfl
theorem e_oft : mOfT t g = (t g).bind fun a => some (.dat (.bool a.1), a.2) := rfl
theorem e_tru : mTru f g = (f g).bind fun a => (look a.1 a.2).bind fun x => (truthD x).bind fun b => some (b, a.2) := rfl
theorem e_not : mNot t g = (t g).bind fun a => some (!a.1, a.2) := rfl
theorem e_and : mAnd t u g = (t g).bind fun a => if a.1 = true then u a.2 else some (false, a.2) := rfl
theorem e_or : mOr t u g = (t g).bind fun a => if a.1 = true then some (true, a.2) else u a.2 := rfl
theorem e_andv : mAndV f h g = (f g).bind fun a => match a.1 with | .dat (.bool true) => h a.2 | .dat (.bool false) => some (.dat (.bool false), a.2) | _ => none := rfl
theorem e_orv : mOrV f h g = (f g).bind fun a => match a.1 with | .dat (.bool false) => h a.2 | .dat (.bool true) => some (.dat (.bool true), a.2) | _ => none := rfl
theorem e_notv : mNotV f g = (f g).bind fun a => match a.1 with | .dat (.bool b) => some (.dat (.bool (!b)), a.2) | _ => none := rfl
theorem e_neg : mNeg f g = (f g).bind fun a => (look a.1 a.2).bind fun x => match x with | .int i => some (.dat (.int (-i)), a.2) | _ => none := rfl
theorem e_isi (T : String) : mIsi T f g = (f g).bind fun a => (look a.1 a.2).bind fun x => (kitB (tyName x) T).bind fun b => some (.dat (.bool b), a.2) := rfl
theorem e_chain (fc : ME) : mChain Fn F2 f h fc g = (f g).bind fun a => (h a.2).bind fun b => (look a.1 b.2).bind fun x => (look b.1 b.2).bind fun y => match Fn x y with
  | some (.dat (.bool true)) => (fc b.2).bind fun c => (look b.1 c.2).bind fun y' => (look c.1 c.2).bind fun z => match F2 y' z with | some (.dat (.bool k)) => some (k, c.2) | _ => none
  | some (.dat (.bool false)) => some (false, b.2)
  | _ => none := rfl
theorem e_lst : mLst fa g = (fa g).bind fun a => (toDs a.1 a.2).bind fun r => if r.1.length ≤ sizeLine then some (.fresh r.1, r.2) else none := rfl
theorem e_tup : mTup fa g = (fa g).bind fun a => (toDs a.1 a.2).bind fun r => if r.1.length ≤ sizeLine then some (.dat (.tuple r.1), r.2) else none := rfl
theorem e_it : mIt f g = (f g).bind fun a => (toD a.1 a.2).bind fun r => (itemsD r.1).bind fun ds => some (ds, r.2) := rfl
theorem e_rg1 : mRg1 fa g = (fa g).bind fun a => (lookAll a.1 a.2).bind fun ds => match ds with | [.int j] => if okRg j = true then some (rgD 0 j, a.2) else none | _ => none := rfl
theorem e_rg2 : mRg2 fa g = (fa g).bind fun a => (lookAll a.1 a.2).bind fun ds => match ds with | [.int i, .int j] => if okRg i = true ∧ okRg j = true then some (rgD i j, a.2) else none | _ => none := rfl
theorem e_zip : mZip fa g = (fa g).bind fun a => (toDs a.1 a.2).bind fun r => match r.1 with | [.list ds, .list es] => some (zipD ds es, r.2) | [.tuple ds, .tuple es] => some (zipD ds es, r.2) | _ => none := rfl
theorem e_enum : mEnum fa g = (fa g).bind fun a => (toDs a.1 a.2).bind fun r => match r.1 with | [.list ds] => some (enumD 0 ds, r.2) | _ => none := rfl
theorem e_revi : mRevI f g = (f g).bind fun a => (toD a.1 a.2).bind fun r => (itemsD r.1).bind fun ds => some (ds.reverse, r.2) := rfl
theorem e_rev : mRev f g = (f g).bind fun a => (look a.1 a.2).bind fun x => match x with | .list xs => some (.fresh xs.reverse, a.2) | _ => none := rfl
theorem e_o0 : mO0 g = some (none, g) := rfl
theorem e_o1 : mO1 f g = (f g).bind fun a => (look a.1 a.2).bind fun x => match x with | .int i => some (some i, a.2) | _ => none := rfl
theorem e_sl (fl fh : MO) : mSl f fl fh g = (f g).bind fun a => (fl a.2).bind fun l => (fh l.2).bind fun h => (look a.1 h.2).bind fun x => match x with
  | .list xs => some (.fresh (cutD xs l.1 h.1), h.2)
  | .tuple xs => some (.dat (.tuple (cutD xs l.1 h.1)), h.2)
  | _ => none := rfl
theorem e_dict0 : mDict0 g = some (.dat (.dict []), g) := rfl
theorem e_yes : mYes g = some (true, g) := rfl
theorem e_comp (vs : List Nat) (tg : Wv → Gh → Option Gh) : mComp vs it tg t f g = (it g).bind fun a => if a.1.length < sizeLine then (compL vs tg t f a.1 (wipeG a.2 vs)).bind fun r => some (.fresh r.1, restore vs a.2 r.2) else none := rfl
theorem e_pop : mPop i g = match g[i]? with | some (.own ds) => (ds.getLast?).bind fun d => some (.dat d, g.set i (.own ds.dropLast)) | _ => none := rfl
theorem e_asB (b : Bool) : asB (some (.dat (.bool b), g)) = some (b, g) := rfl
theorem e_toDd : toD (.dat d) g = some (d, g) := rfl
theorem e_toDf (ds : List Da) : toD (.fresh ds) g = some (.list ds, g) := rfl
theorem e_toDs : toD (.slot i) g = match g[i]? with | some (.own ds) => some (.list ds, g.set i (.val (.list ds))) | some (.val d) => some (d, g) | _ => none := rfl
theorem e_lkd : look (.dat d) g = some d := rfl
theorem e_lkf (ds : List Da) : look (.fresh ds) g = some (.list ds) := rfl
theorem e_lks : look (.slot i) g = match g[i]? with | some (.own ds) => some (.list ds) | some (.val d) => some d | _ => none := rfl
theorem e_lan : lookAll [] g = some [] := rfl
theorem e_lac : lookAll (w :: ws) g = (look w g).bind fun a => (lookAll ws g).bind fun b => some (a :: b) := rfl
theorem e_tdn : toDs [] g = some ([], g) := rfl
theorem e_tdc : toDs (w :: ws) g = (toD w g).bind fun a => (toDs ws a.2).bind fun b => some (a.1 :: b.1, b.2) := rfl
theorem e_tsn : toSls [] g = some ([], g) := rfl
theorem e_tsd : toSls (.dat d :: ws) g = (toSls ws g).bind fun b => some (.val d :: b.1, b.2) := rfl
theorem e_tsf (ds : List Da) : toSls (.fresh ds :: ws) g = (toSls ws g).bind fun b => some (.val (.list ds) :: b.1, b.2) := rfl
theorem e_tss : toSls (.slot i :: ws) g = (toD (.slot i) g).bind fun a => (toSls ws a.2).bind fun b => some (.val a.1 :: b.1, b.2) := rfl
theorem e_snd : setN i (.dat d) g = if i < g.length then some (g.set i (.val d)) else none := rfl
theorem e_snf (ds : List Da) : setN i (.fresh ds) g = if i < g.length then some (g.set i (.own ds)) else none := rfl
theorem e_snn : setNs [] [] g = some g := rfl
theorem e_snc (is : List Nat) : setNs (i :: is) (w :: ws) g = (slOf w).bind fun s => if i < g.length then setNs is ws (g.set i s) else none := rfl
theorem e_sod : slOf (.dat d) = some (.val d) := rfl
theorem e_sof (ds : List Da) : slOf (.fresh ds) = some (.own ds) := rfl
theorem e_st (is : List Nat) (ds : List Da) : setT is (.dat (.tuple ds)) g = if ds.length = is.length then setNs is (ds.map Wv.dat) g else none := rfl
theorem e_fln (tg : Wv → Gh → Option Gh) : forL tg s [] g = some (.nx, g) := rfl
theorem e_keep (pr : List Nat) : keepArgs pr g0 g = g0.mapIdx fun i s => if pr.contains i then g[i]?.getD .un else s := rfl
theorem e_itl (ds : List Da) : itemsD (.list ds) = some ds := rfl
theorem e_itt (ds : List Da) : itemsD (.tuple ds) = some ds := rfl
end
section
variable (a b : Int) (k : Bool) (xs ys : List Da) (d e : Da)
theorem d_add : dAdd (.int a) (.int b) = some (.dat (.int (a + b))) := rfl
theorem d_addT : dAdd (.tuple xs) (.tuple ys) = if xs.length + ys.length ≤ sizeLine then some (.dat (.tuple (xs ++ ys))) else none := rfl
theorem d_sub : dSub (.int a) (.int b) = some (.dat (.int (a - b))) := rfl
theorem d_mod (h : 0 < b) : dMod (.int a) (.int b) = some (.dat (.int (a % b))) := if_pos (decide_eq_true h)
theorem d_fdiv (h : 0 < b) (h2 : b < 1000000000000000000000) : dFdiv (.int a) (.int b) = some (.dat (.int (a / b))) := by
  have : b.natAbs.log2 < 9000 := by
    have h3 : b.natAbs < 2 ^ 100 := by omega
    exact Nat.lt_of_lt_of_le (PySem.Flt.log2_lt_of (by decide) h3) (by decide)
  exact if_pos (show (decide (0 < b) && decide (b.natAbs.log2 < 9000)) = true by rw [decide_eq_true h, decide_eq_true this]; rfl)
theorem d_pow (h : 0 ≤ b) (h2 : b ≤ 1000000) (h3 : a.natAbs < 2 ^ 64) : dPow (.int a) (.int b) = some (.dat (.int (a ^ b.toNat))) := if_pos (show (decide (0 ≤ b) && decide (b ≤ 1000000) && decide (a.natAbs < 2 ^ 64)) = true by rw [decide_eq_true h, decide_eq_true h2, decide_eq_true h3]; rfl)
theorem d_mulW (h : a.natAbs.log2 + b.natAbs.log2 < 1000000) : dMul (.int a) (.int b) = some (.dat (.int (a * b))) := if_pos h
theorem log2_le {x : Int} {k : Nat} (h : x.natAbs < 2 ^ (k + 1)) : x.natAbs.log2 ≤ k := Nat.le_of_lt_succ (PySem.Flt.log2_lt_of (Nat.succ_pos k) h)
/-- where one factor is below 2^64 and the other below 2^900000 -/
theorem d_mul (h : a.natAbs < 2 ^ 400) (h2 : b.natAbs < 2 ^ 400) : dMul (.int a) (.int b) = some (.dat (.int (a * b))) := by
  refine d_mulW a b ?_
  have h1 := log2_le (k := 399) h
  have h3 := log2_le (k := 399) h2
  omega
theorem d_lt : dLt (.int a) (.int b) = some (.dat (.bool (decide (a < b)))) := rfl
theorem d_le : dLe (.int a) (.int b) = some (.dat (.bool (decide (a ≤ b)))) := rfl
theorem d_gt : dGt (.int a) (.int b) = some (.dat (.bool (decide (b < a)))) := rfl
theorem d_ge : dGe (.int a) (.int b) = some (.dat (.bool (decide (b ≤ a)))) := rfl
theorem d_eq : dEq (.int a) (.int b) = some (.dat (.bool (a == b))) := rfl
theorem d_ne : dNe (.int a) (.int b) = some (.dat (.bool (!(a == b)))) := rfl
theorem eqB_D (h : okEq d = true) (h2 : okEq e = true) : eqB d e = some (PyData.eqv d e) := by
  unfold eqB
  split
  · simp only [PyData.eqv]
  · rw [h, h2]; rfl
theorem d_eqD (h : okEq d = true) (h2 : okEq e = true) : dEq d e = some (.dat (.bool (PyData.eqv d e))) := by
  unfold dEq; rw [eqB_D d e h h2]; rfl
theorem d_neD (h : okEq d = true) (h2 : okEq e = true) : dNe d e = some (.dat (.bool (!PyData.eqv d e))) := by
  unfold dNe; rw [eqB_D d e h h2]; rfl
theorem d_ixl : dIx (.list xs) (.int a) = atI xs a := rfl
theorem d_ixt : dIx (.tuple xs) (.int a) = atI xs a := rfl
theorem d_lenl : dLen [.list xs] = some (.dat (.int xs.length)) := rfl
theorem d_lent : dLen [.tuple xs] = some (.dat (.int xs.length)) := rfl
theorem d_inti : dInt [.int a] = some (.dat (.int a)) := rfl
theorem d_intb : dInt [.bool k] = some (.dat (.int (if k then 1 else 0))) := rfl
theorem d_abs : dAbs [.int a] = some (.dat (.int (if a < 0 then -a else a))) := rfl
theorem d_max2 : dMax [.int a, .int b] = some (.dat (.int (if b > a then b else a))) := rfl
theorem d_min2 : dMin [.int a, .int b] = some (.dat (.int (if b < a then b else a))) := rfl
theorem d_tupl : dTuple [.list xs] = some (.dat (.tuple xs)) := rfl
theorem d_tupt : dTuple [.tuple xs] = some (.dat (.tuple xs)) := rfl
theorem d_lsl : dList [.list xs] = some (.fresh xs) := rfl
theorem d_lst : dList [.tuple xs] = some (.fresh xs) := rfl
theorem d_rb : dRepr [.bool k] = some (.dat (.str (if k then "True" else "False"))) := rfl
theorem t_b : truthD (.bool k) = some k := rfl
theorem t_i : truthD (.int a) = some (a != 0) := rfl
theorem t_l : truthD (.list xs) = some (!xs.isEmpty) := rfl
theorem t_t : truthD (.tuple xs) = some (!xs.isEmpty) := rfl
theorem is_nb (neg : Bool) : dIs neg d .none = some (.dat (.bool (if neg then !isNone d else isNone d))) := by unfold dIs; cases d <;> rfl
theorem is_bb (neg : Bool) (j : Bool) : dIs neg d (.bool j) = some (.dat (.bool (if neg then !isBl j d else isBl j d))) := by unfold dIs; cases d <;> rfl
theorem k_ii : kitB (tyName (.int a)) "int" = some true := by show kitB "int" "int" = _; decide +kernel
theorem k_ib : kitB (tyName (.int a)) "bool" = some false := by show kitB "int" "bool" = _; decide +kernel
theorem k_bi : kitB (tyName (.bool k)) "int" = some true := by show kitB "bool" "int" = _; decide +kernel
theorem k_bb : kitB (tyName (.bool k)) "bool" = some true := by show kitB "bool" "bool" = _; decide +kernel
theorem k_ni : kitB (tyName .none) "int" = some false := by show kitB "NoneType" "int" = _; decide +kernel
theorem k_si (x : Str) : kitB (tyName (.str x)) "int" = some false := by show kitB "str" "int" = _; decide +kernel
theorem k_ti : kitB (tyName (.tuple xs)) "int" = some false := by show kitB "tuple" "int" = _; decide +kernel
theorem k_li : kitB (tyName (.list xs)) "int" = some false := by show kitB "list" "int" = _; decide +kernel
theorem k_di (q : List (Da × Da)) : kitB (tyName (.dict q)) "int" = some false := by show kitB "dict" "int" = _; decide +kernel
theorem k_tt : kitB (tyName (.tuple xs)) "tuple" = some true := by show kitB "tuple" "tuple" = _; decide +kernel
end
end EV
end
section
set_option Elab.async false
set_option linter.all false
set_option maxRecDepth 100000
set_option maxHeartbeats 4000000
set_option exponentiation.threshold 3000
namespace Lib
open PySem PySem.Spec PyProof.Rows L2 EV
local macro_rules | `(tactic| walk_at "ev") => `(tactic| simp only [e_bodyM, e_seq, e_nil, e_if, e_set, e_ret, e_drop, e_par, e_asg, e_for, e_app, e_setix, e_aug, e_name, e_c, e_anil, e_acons, e_bin, e_cmp, e_brk, e_cnt, e_retn, e_ix, e_call, e_fn, e_fn0, e_fnD, e_ifx, e_oft, e_tru, e_not, e_and, e_or, e_andv, e_orv, e_notv, e_neg, e_isi, e_chain, e_lst, e_tup, e_it, e_rg1, e_rg2, e_zip, e_enum, e_revi, e_rev, e_o0, e_o1, e_sl, e_dict0, e_yes, e_comp, e_pop, e_asB, e_toDd, e_toDf, e_toDs, e_lkd, e_lkf, e_lks, e_lan, e_lac, e_tdn, e_tdc, e_tsn, e_tsd, e_tsf, e_tss, e_snd, e_snf, e_snn, e_snc, e_sod, e_sof, e_st, e_fln, e_keep, e_itl, e_itt,
  d_add, d_sub, d_lt, d_le, d_gt, d_ge, d_eq, d_ne, d_ixl, d_ixt, d_lenl, d_lent, d_inti, d_intb, d_abs, d_max2, d_min2, d_tupl, d_tupt, d_lsl, d_lst, d_rb, t_b, t_i, t_l, t_t, is_nb, is_bb, k_ii, k_ib, k_bi, k_bb, k_ni, k_si, k_ti, k_li, k_di, k_tt, isNone, isBl,
  Option.bind_some, Option.bind_none, Option.map_some, Option.map_none, List.append_nil, List.cons_append, List.nil_append, List.replicate, List.getElem?_cons_zero, List.getElem?_cons_succ, List.getElem?_nil, List.set_cons_zero, List.set_cons_succ, List.length_cons, List.length_nil, List.mapIdx_cons, List.mapIdx_nil, List.contains_nil, List.contains_cons, Bool.false_eq_true, if_true, if_false, reduceIte, Bool.not_true, Bool.not_false, Option.getD_some, Function.comp, List.map_cons, List.map_nil,
  Nat.reduceLT, Nat.reduceAdd, Nat.reduceBEq, Nat.reduceEqDiff, Nat.reduceLeDiff, Int.reduceLT, Int.reduceLE, decide_true, decide_false, beq_self_eq_true, Bool.or_false, Bool.or_true, Bool.true_or, Bool.false_or, Bool.and_true, Bool.true_and, Bool.and_false, Bool.false_and, and_self, Nat.zero_add])
theorem t_is_integer (v lo hi : Int) : F_is_integer [.val (.int v), .val (.int lo), .val (.int hi)] = some (.dat (.bool (decide (lo ≤ v) && decide (v ≤ hi))), [.val (.int v), .val (.int lo), .val (.int hi)]) := by
  unfold F_is_integer m_is_integer
  by_cases h : lo ≤ v
  · walk_at "ev"
    simp [h]
  · walk_at "ev"
    simp [h]
/-- is_field of ints -/
def fldGo (v : Int) : List Int → Bool
  | [] => true
  | q :: r => if v % q = 0 then v == q else fldGo v r
def isFld (v : Int) : Bool := decide (5 ≤ v) && decide (v ≤ 997) && fldGo v [2, 3, 5, 7, 11, 13, 17, 19, 23, 29, 31]
theorem fld_loop (v : Int) : ∀ (qs : List Int) (s : Sl), (∀ q ∈ qs, 0 < q) → ∃ s', forL (setN 1) (sIf (mCmp dEq (mBin dMod (mName 0) (mName 1)) (mC (.int 0))) (sRet [] (mBin dEq (mName 0) (mName 1))) sNil) (qs.map PyData.int) [.val (.int v), s] = some (.nx, [.val (.int v), s']) ∧ fldGo v qs = true
    ∨ forL (setN 1) (sIf (mCmp dEq (mBin dMod (mName 0) (mName 1)) (mC (.int 0))) (sRet [] (mBin dEq (mName 0) (mName 1))) sNil) (qs.map PyData.int) [.val (.int v), s] = some (.rt (.dat (.bool (fldGo v qs))), [.val (.int v), s']) := by
  intro qs
  induction qs with
  | nil => intro s _; exact ⟨s, .inl ⟨rfl, rfl⟩⟩
  | cons q qs ih =>
    intro s hq
    have h0 : 0 < q := hq q List.mem_cons_self
    rw [List.map_cons]
    unfold forL
    by_cases h : v % q = 0
    · refine ⟨.val (.int q), .inr ?_⟩
      walk_at "ev"
      simp only [d_mod v q h0, h, Option.bind_some, e_lkd, d_eq, beq_self_eq_true, e_asB, if_true, fldGo]
      walk_at "ev"
    · have hb : (v % q == 0) = false := by simpa using h
      obtain ⟨s', hs⟩ := ih (.val (.int q)) fun q h => hq q (List.mem_cons_of_mem _ h)
      refine ⟨s', ?_⟩
      walk_at "ev"
      simp only [d_mod v q h0, hb, Option.bind_some, e_lkd, d_eq, e_asB, Bool.false_eq_true, if_false, fldGo, if_neg h]
      exact hs
theorem t_is_field (v : Int) : F_is_field [.val (.int v)] = some (.dat (.bool (isFld v)), [.val (.int v)]) := by
  unfold F_is_field m_is_field isFld
  by_cases h1 : (decide (5 ≤ v) && decide (v ≤ 997)) = true
  · obtain ⟨s', h | h⟩ := fld_loop v [2, 3, 5, 7, 11, 13, 17, 19, 23, 29, 31] .un (by decide)
    · walk_at "ev"
      rw [t_is_integer]
      simp only [h1]
      walk_at "ev"
      rw [List.map_cons] at h
      simp only [List.map_cons, List.map_nil] at h
      rw [h.1]
      walk_at "ev"
      rw [h.2]
    · walk_at "ev"
      rw [t_is_integer]
      simp only [h1]
      walk_at "ev"
      simp only [List.map_cons, List.map_nil] at h
      rw [h]
      walk_at "ev"
  · have h1 : (decide (5 ≤ v) && decide (v ≤ 997)) = false := by simpa using h1
    walk_at "ev"
    rw [t_is_integer]
    simp only [h1]
    walk_at "ev"
end Lib
end
section
set_option Elab.async false
set_option linter.all false
set_option autoImplicit false
set_option exponentiation.threshold 1000
/-! comparing data: what may be compared, and what comes out -/
namespace EV
open PySem PySem.Spec PyProof.Rows L2
/-- data without dicts, of at most so deep a nesting -/
def Flat (n : Nat) (d : Da) : Prop := noDict d = true ∧ d.canLay0 = true ∧ d.depth ≤ n
theorem flat_int {n : Nat} (i : Int) : Flat n (.int i) := ⟨rfl, by simp only [PyData.canLay0], by simp only [PyData.depth]; omega⟩
theorem flat_bool {n : Nat} (b : Bool) : Flat n (.bool b) := ⟨rfl, by simp only [PyData.canLay0], by simp only [PyData.depth]; omega⟩
theorem flat_all {n : Nat} : ∀ {xs : List Da}, (∀ x ∈ xs, Flat n x) → noDictAll xs = true ∧ PyData.canLayAll0 xs = true ∧ PyData.depthAll xs ≤ n
  | [], _ => ⟨rfl, by simp only [PyData.canLayAll0], by simp only [PyData.depthAll]; omega⟩
  | x :: xs, h => by
    obtain ⟨h1, h2, h3⟩ := h x List.mem_cons_self
    obtain ⟨k1, k2, k3⟩ := flat_all fun x hx => h x (List.mem_cons_of_mem _ hx)
    refine ⟨?_, ?_, ?_⟩
    · simp only [noDictAll, h1, k1, Bool.and_true]
    · simp only [PyData.canLayAll0, h2, k2, Bool.and_true]
    · simp only [PyData.depthAll]; omega
theorem flat_list {n : Nat} {xs : List Da} (h : ∀ x ∈ xs, Flat n x) : Flat (n + 1) (.list xs) := by
  obtain ⟨k1, k2, k3⟩ := flat_all h
  exact ⟨by simp only [noDict, k1], by simp only [PyData.canLay0, k2], by simp only [PyData.depth]; omega⟩
theorem flat_tuple {n : Nat} {xs : List Da} (h : ∀ x ∈ xs, Flat n x) : Flat (n + 1) (.tuple xs) := by
  obtain ⟨k1, k2, k3⟩ := flat_all h
  exact ⟨by simp only [noDict, k1], by simp only [PyData.canLay0, k2], by simp only [PyData.depth]; omega⟩
theorem flat_ints {n : Nat} (ns : List Int) : ∀ x ∈ ns.map PyData.int, Flat n x := by
  intro x hx
  obtain ⟨i, _, rfl⟩ := List.mem_map.mp hx
  exact flat_int i
theorem flat_bools {n : Nat} (ns : List Bool) : ∀ x ∈ ns.map PyData.bool, Flat n x := by
  intro x hx
  obtain ⟨i, _, rfl⟩ := List.mem_map.mp hx
  exact flat_bool i
theorem ok_flat {n : Nat} {d : Da} (h : Flat n d) (hn : n ≤ 64 := by decide) : okEq d = true := by
  show (noDict d && SeqAt.shaped d) = true
  rw [h.1]
  show (d.canLay0 && decide (d.depth ≤ 64)) = true
  rw [h.2.1, decide_eq_true (Nat.le_trans h.2.2 hn)]
  rfl
mutual
theorem eqv_self : ∀ d : Da, noDict d = true → PyData.eqv d d = true
  | .none, _ => by simp only [PyData.eqv]
  | .bool b, _ => by simp only [PyData.eqv, beq_self_eq_true]
  | .int b, _ => by simp only [PyData.eqv, beq_self_eq_true]
  | .str b, _ => by simp only [PyData.eqv, beq_self_eq_true]
  | .list xs, h => by simp only [PyData.eqv]; exact eqvAll_self xs (by simpa only [noDict] using h)
  | .tuple xs, h => by simp only [PyData.eqv]; exact eqvAll_self xs (by simpa only [noDict] using h)
  | .dict _, h => by simp [noDict] at h
theorem eqvAll_self : ∀ xs : List Da, noDictAll xs = true → PyData.eqvAll xs xs = true
  | [], _ => by simp only [PyData.eqvAll]
  | x :: xs, h => by
    simp only [noDictAll, Bool.and_eq_true] at h
    simp only [PyData.eqvAll, eqv_self x h.1, eqvAll_self xs h.2, Bool.and_self]
end
theorem d_eqS {n : Nat} {d : Da} (h : Flat n d) (hn : n ≤ 64 := by decide) : dEq d d = some (.dat (.bool true)) := by
  rw [d_eqD _ _ (ok_flat h hn) (ok_flat h hn), eqv_self d h.1]
theorem d_neS {n : Nat} {d : Da} (h : Flat n d) (hn : n ≤ 64 := by decide) : dNe d d = some (.dat (.bool false)) := by
  rw [d_neD _ _ (ok_flat h hn) (ok_flat h hn), eqv_self d h.1]; rfl
end EV
end
section
set_option Elab.async false
set_option linter.all false
set_option autoImplicit false
/-! the later mirrors' equations, for simp -/
namespace EV
open PySem PySem.Spec PyProof.Rows L2
section
variable (g : Gh) (f h : ME) (i : Nat) (m : MR) (a b : Int) (k : Bool) (xs ys : List Da) (ns : List Int)
theorem e_rr1 : mRr1 f g = (f g).bind fun a => (look a.1 a.2).bind fun x => match x with
  | .int j => if okRg j = true then some (((0 : Int), j), a.2) else none
  | _ => none := rfl
theorem e_rr2 : mRr2 f h g = (f g).bind fun a => (h a.2).bind fun b => (look a.1 b.2).bind fun x => (look b.1 b.2).bind fun y => match x, y with
  | .int i, .int j => if okRg i = true ∧ okRg j = true then some ((i, j), b.2) else none
  | _, _ => none := rfl
theorem e_tupRg : mTupRg m g = (m g).bind fun a => if (a.1.2 - a.1.1).toNat ≤ sizeLine then some (.dat (.tuple (rgD a.1.1 a.1.2)), a.2) else none := rfl
theorem e_lstRg : mLstRg m g = (m g).bind fun a => if (a.1.2 - a.1.1).toNat ≤ sizeLine then some (.fresh (rgD a.1.1 a.1.2), a.2) else none := rfl
theorem e_revR : mRevR m g = (m g).bind fun a => some ((rgD a.1.1 a.1.2).reverse, a.2) := rfl
theorem e_popAt : mPopAt i f g = match g[i]? with
  | some (.own _) => (f g).bind fun b => (look b.1 b.2).bind fun y => match y, b.2[i]? with
    | .int k, some (.own ds) => if okRg k = true then (ixN ds.length k).bind fun j => (ds[j]?).bind fun d => some (.dat d, b.2.set i (.own (ds.eraseIdx j))) else none
    | _, _ => none
  | _ => none := rfl
theorem e_ext : sExt i f g = match g[i]? with
  | some (.own _) => (f g).bind fun a => match a.1, a.2[i]? with
    | .fresh es, some (.own ds) => if ds.length + es.length ≤ sizeLine then some (.nx, a.2.set i (.own (ds ++ es))) else none
    | _, _ => none
  | _ => none := rfl
theorem e_tupRev : mTupRev f g = (f g).bind fun a => (look a.1 a.2).bind fun x => match x with | .list xs => some (.dat (.tuple xs.reverse), a.2) | _ => none := rfl
theorem e_repL : mRepL f h g = (f g).bind fun a => (h a.2).bind fun b => (look b.1 b.2).bind fun y => match a.1, y with
  | .fresh xs, .int k => if okRg k = true ∧ xs.length * k.toNat ≤ sizeLine then some (.fresh (List.replicate k.toNat xs).flatten, b.2) else none
  | _, _ => none := rfl
theorem e_lenSet : mLenSet f g = (f g).bind fun a => (look a.1 a.2).bind fun x => match x with | .tuple xs => (intsOf xs).bind fun ns => if ns.length ≤ 1000 then some (.dat (.int (uniq ns).length), a.2) else none | _ => none := rfl
theorem e_zipA (fa : MA) : mZipA fa g = (fa g).bind fun a => (toDs a.1 a.2).bind fun r => match r.1 with | [x, y] => (itemsD x).bind fun ds => (itemsD y).bind fun es => some (zipD ds es, r.2) | _ => none := rfl
theorem e_zip3 (fa : MA) : mZip3 fa g = (fa g).bind fun a => (toDs a.1 a.2).bind fun r => match r.1 with | [x, y, z] => (itemsD x).bind fun ds => (itemsD y).bind fun es => (itemsD z).bind fun fs => some (zipD3 ds es fs, r.2) | _ => none := rfl
theorem e_enumA (fa : MA) : mEnumA fa g = (fa g).bind fun a => (toDs a.1 a.2).bind fun r => match r.1 with | [.list ds] => some (enumD 0 ds, r.2) | [.tuple ds] => some (enumD 0 ds, r.2) | _ => none := rfl
theorem d_sortT : dSortedA [.tuple (ns.map PyData.int)] = some (.fresh ((sortI ns).map PyData.int)) := by
  show (intsOf (ns.map PyData.int)).map _ = _
  rw [intsOf_map]; rfl
theorem d_mulTT (h : okRg a = true) (h2 : xs = [] ∨ a ≤ 1 ∨ (a ≤ 1000 ∧ xs.length ≤ 1000)) : dMulT (.tuple xs) (.int a) = some (.dat (.tuple (List.replicate a.toNat xs).flatten)) := if_pos ⟨h, h2⟩
theorem flat1 {α : Type} (x : α) : ∀ n : Nat, (List.replicate n [x]).flatten = List.replicate n x
  | 0 => rfl
  | n + 1 => by rw [List.replicate_succ, List.flatten_cons, flat1 x n]; rfl
end
end EV
end
section
set_option Elab.async false
set_option linter.all false
set_option maxRecDepth 100000
set_option maxHeartbeats 4000000
set_option exponentiation.threshold 3000
namespace Lib
open PySem PySem.Spec PyProof.Rows L2 EV
local macro_rules | `(tactic| walk_at "ev") => `(tactic| try simp only [e_bodyM, e_seq, e_nil, e_if, e_set, e_ret, e_drop, e_par, e_asg, e_for, e_app, e_setix, e_aug, e_name, e_c, e_anil, e_acons, e_bin, e_cmp, e_brk, e_cnt, e_retn, e_ix, e_call, e_fn, e_fn0, e_fnD, e_ifx, e_oft, e_tru, e_not, e_and, e_or, e_andv, e_orv, e_notv, e_neg, e_isi, e_chain, e_lst, e_tup, e_it, e_rg1, e_rg2, e_zip, e_enum, e_revi, e_rev, e_o0, e_o1, e_sl, e_dict0, e_yes, e_comp, e_pop, e_asB, e_toDd, e_toDf, e_toDs, e_lkd, e_lkf, e_lks, e_lan, e_lac, e_tdn, e_tdc, e_tsn, e_tsd, e_tsf, e_tss, e_snd, e_snf, e_snn, e_snc, e_sod, e_sof, e_st, e_fln, e_keep, e_itl, e_itt, e_rr1, e_rr2, e_tupRg, e_lstRg, e_revR, e_popAt, e_ext, e_tupRev, e_repL, e_lenSet, e_enumA, e_zipA, e_zip3, d_addT, flat1,
  d_add, d_sub, d_lt, d_le, d_gt, d_ge, d_eq, d_ne, d_ixl, d_ixt, d_lenl, d_lent, d_inti, d_intb, d_abs, d_max2, d_min2, d_tupl, d_tupt, d_lsl, d_lst, d_rb, t_b, t_i, t_l, t_t, is_nb, is_bb, k_ii, k_ib, k_bi, k_bb, k_ni, k_si, k_ti, k_li, k_di, k_tt, isNone, isBl,
  Option.bind_some, Option.bind_none, Option.map_some, Option.map_none, List.append_nil, List.cons_append, List.nil_append, List.replicate, List.getElem?_cons_zero, List.getElem?_cons_succ, List.getElem?_nil, List.set_cons_zero, List.set_cons_succ, List.length_cons, List.length_nil, List.mapIdx_cons, List.mapIdx_nil, List.contains_nil, List.contains_cons, Bool.false_eq_true, if_true, if_false, reduceIte, Bool.not_true, Bool.not_false, Option.getD_some, Function.comp, List.map_cons, List.map_nil,
  Nat.reduceLT, Nat.reduceAdd, Nat.reduceBEq, Nat.reduceEqDiff, Nat.reduceLeDiff, Int.reduceLT, Int.reduceLE, decide_true, decide_false, beq_self_eq_true, Bool.or_false, Bool.or_true, Bool.true_or, Bool.false_or, Bool.and_true, Bool.true_and, Bool.and_false, Bool.false_and, and_self, Nat.zero_add])
theorem t_check_field {v : Int} (h : isFld v = true) : F_check_field [.val (.int v)] = some (.dat .none, [.val (.int v)]) := by
  unfold F_check_field m_check_field
  walk_at "ev"
  rw [t_is_field, h]
  walk_at "ev"
theorem t_check_integer {v lo hi : Int} (h1 : lo ≤ v) (h2 : v ≤ hi) : F_check_integer [.val (.int v), .val (.int lo), .val (.int hi)] = some (.dat .none, [.val (.int v), .val (.int lo), .val (.int hi)]) := by
  unfold F_check_integer m_check_integer
  walk_at "ev"
  rw [t_is_integer, decide_eq_true h1, decide_eq_true h2]
  walk_at "ev"
theorem t_check_number {p v : Int} (h1 : 0 ≤ v) (h2 : v < p) : F_check_number [.val (.int p), .val (.int v)] = some (.dat .none, [.val (.int p), .val (.int v)]) := by
  unfold F_check_number m_check_number
  walk_at "ev"
  rw [t_check_integer h1 (by omega)]
  walk_at "ev"
theorem fld_pos {p : Int} (h : isFld p = true) : 5 ≤ p ∧ p ≤ 997 := by
  unfold isFld at h
  simp only [Bool.and_eq_true, decide_eq_true_eq] at h
  exact h.1
theorem big {x : Int} (h1 : 0 ≤ x) (h2 : x < 100000000000000000000000000000) : x.natAbs < 2 ^ 400 := Nat.lt_of_lt_of_le (show x.natAbs < 2 ^ 100 by omega) (Nat.pow_le_pow_right (by decide) (by decide))
/-! ### powers modulo -/
theorem mm (a b p : Int) : (a % p * (b % p)) % p = (a * b) % p := (Int.mul_emod a b p).symm
theorem mml (a b p : Int) : (a % p * b) % p = (a * b) % p := by rw [Int.mul_emod, Int.emod_emod_of_dvd a (Int.dvd_refl p), ← Int.mul_emod]
theorem mmr (a b p : Int) : (a * (b % p)) % p = (a * b) % p := by rw [Int.mul_emod, Int.emod_emod_of_dvd b (Int.dvd_refl p), ← Int.mul_emod]
theorem emod_pow' (a p : Int) : ∀ k : Nat, ((a % p) ^ k) % p = (a ^ k) % p
  | 0 => by rw [Int.pow_zero, Int.pow_zero]
  | k + 1 => by
    rw [Int.pow_succ, Int.pow_succ, mmr, ← mml, emod_pow' a p k, mml]
theorem pw_step (p r s : Int) (l : Nat) : (r * s ^ l) % p = ((if l % 2 = 1 then r * s % p else r) * (s * s % p) ^ (l / 2)) % p := by
  have e : s ^ l = s ^ (l % 2) * (s * s) ^ (l / 2) := by
    have h : s * s = s ^ 2 := by rw [Int.pow_succ, Int.pow_succ, Int.pow_zero, Int.one_mul]
    rw [h, ← Int.pow_mul, ← Int.pow_add, Nat.mod_add_div]
  by_cases h : l % 2 = 1
  · rw [if_pos h, mml (r * s), ← mmr (r * s), emod_pow', mmr, e, h, Int.pow_succ, Int.pow_zero, Int.one_mul, Int.mul_assoc]
  · have h0 : l % 2 = 0 := by omega
    rw [if_neg h, ← mmr r ((s * s % p) ^ (l / 2)), emod_pow', mmr, e, h0, Int.pow_zero, Int.one_mul]
/-- what the loop of raised gives -/
def pwGo (p : Int) (r s : Int) : Nat → Nat → Int
  | 0, _ => r
  | _ + 1, 0 => r
  | n + 1, l + 1 => pwGo p (if (l + 1) % 2 = 1 then r * s % p else r) (s * s % p) n ((l + 1) / 2)
theorem pwGo_mod {p : Int} : ∀ (n l : Nat) (r s : Int), l ≤ n → pwGo p r s n l % p = (r * s ^ l) % p
  | 0, 0, r, s, _ => by simp [pwGo]
  | 0, l + 1, r, s, h => by omega
  | n + 1, 0, r, s, _ => by simp [pwGo]
  | n + 1, l + 1, r, s, h => by
    unfold pwGo
    rw [pwGo_mod n ((l + 1) / 2) _ _ (by omega), pw_step p r s (l + 1)]
theorem pwGo_range {p : Int} (hp : 0 < p) : ∀ (n l : Nat) (r s : Int), 0 ≤ r → r < p → 0 ≤ pwGo p r s n l ∧ pwGo p r s n l < p
  | 0, l, r, s, h1, h2 => by unfold pwGo; exact ⟨h1, h2⟩
  | n + 1, 0, r, s, h1, h2 => by unfold pwGo; exact ⟨h1, h2⟩
  | n + 1, l + 1, r, s, h1, h2 => by
    unfold pwGo
    split
    · exact pwGo_range hp n _ _ _ (Int.emod_nonneg _ (by omega)) (Int.emod_lt_of_pos _ hp)
    · exact pwGo_range hp n _ _ _ h1 h2
theorem raised_loop {p a k : Int} (hp : 5 ≤ p) (hp2 : p ≤ 997) : ∀ (n l : Nat) (r s : Int), l ≤ n → 0 ≤ r → r < p → 0 ≤ s → s < p → ∀ m, n < m → ∃ s', whileL (mCmp dGt (mName 5) (mC (.int 0))) (sSeq (sIf (mCmp dEq (mBin dMod (mName 5) (mC (.int 2))) (mC (.int 1))) (sSet 3 (mBin dMod (mBin dMul (mName 3) (mName 4)) (mName 0))) sNil)
    (sSeq (sSet 4 (mBin dMod (mBin dMul (mName 4) (mName 4)) (mName 0))) (sSet 5 (mBin dFdiv (mName 5) (mC (.int 2)))))) m [.val (.int p), .val (.int a), .val (.int k), .val (.int r), .val (.int s), .val (.int l)] = some (.nx, [.val (.int p), .val (.int a), .val (.int k), .val (.int (pwGo p r s n l)), .val (.int s'), .val (.int 0)]) := by
  intro n
  induction n with
  | zero =>
    intro l r s hl _ _ _ _ m hm
    obtain ⟨m, rfl⟩ : ∃ k, m = k + 1 := ⟨m - 1, by omega⟩
    have : l = 0 := by omega
    subst this
    refine ⟨s, ?_⟩
    unfold whileL
    walk_at "ev"
    simp [pwGo]
  | succ n ih =>
    intro l r s hl h1 h2 h3 h4 m hm
    obtain ⟨m, rfl⟩ : ∃ k, m = k + 1 := ⟨m - 1, by omega⟩
    cases l with
    | zero =>
      refine ⟨s, ?_⟩
      unfold whileL
      walk_at "ev"
      simp [pwGo]
    | succ l =>
      have hp0 : 0 < p := by omega
      have k1 := Int.emod_nonneg (s * s) (show p ≠ 0 by omega)
      have k2 := Int.emod_lt_of_pos (s * s) hp0
      have k3 := Int.emod_nonneg (r * s) (show p ≠ 0 by omega)
      have k4 := Int.emod_lt_of_pos (r * s) hp0
      have c1 : decide ((0 : Int) < ((l + 1 : Nat) : Int)) = true := decide_eq_true (by omega)
      have c2 : (((l + 1 : Nat) : Int) % 2 == 1) = decide ((l + 1) % 2 = 1) := by
        rw [Bool.eq_iff_iff, beq_iff_eq, decide_eq_true_eq]; omega
      have c3 : ((l + 1 : Nat) : Int) / 2 = (((l + 1) / 2 : Nat) : Int) := by omega
      have fin : ∀ r', 0 ≤ r' → r' < p → pwGo p r s (n + 1) (l + 1) = pwGo p r' (s * s % p) n ((l + 1) / 2) → ∃ s', whileL (mCmp dGt (mName 5) (mC (.int 0))) (sSeq (sIf (mCmp dEq (mBin dMod (mName 5) (mC (.int 2))) (mC (.int 1))) (sSet 3 (mBin dMod (mBin dMul (mName 3) (mName 4)) (mName 0))) sNil)
          (sSeq (sSet 4 (mBin dMod (mBin dMul (mName 4) (mName 4)) (mName 0))) (sSet 5 (mBin dFdiv (mName 5) (mC (.int 2)))))) m [.val (.int p), .val (.int a), .val (.int k), .val (.int r'), .val (.int (s * s % p)), .val (.int (((l + 1) / 2 : Nat) : Int))] = some (.nx, [.val (.int p), .val (.int a), .val (.int k), .val (.int (pwGo p r s (n + 1) (l + 1))), .val (.int s'), .val (.int 0)]) := fun r' j1 j2 e => by
        rw [e]
        exact ih ((l + 1) / 2) r' (s * s % p) (by omega) j1 j2 k1 k2 m (by omega)
      unfold whileL
      walk_at "ev"
      simp only [c1, if_true]
      walk_at "ev"
      rw [d_mod _ 2 (by decide)]
      walk_at "ev"
      simp only [c2]
      by_cases h : (l + 1) % 2 = 1
      · simp only [h, decide_true, if_true]
        walk_at "ev"
        rw [d_mul _ _ (big h1 (by omega)) (big h3 (by omega))]
        walk_at "ev"
        rw [d_mod _ _ hp0]
        walk_at "ev"
        rw [d_mul _ _ (big h3 (by omega)) (big h3 (by omega))]
        walk_at "ev"
        rw [d_mod _ _ hp0]
        walk_at "ev"
        rw [d_fdiv _ _ (by decide) (by decide)]
        walk_at "ev"
        rw [c3]
        exact fin _ k3 k4 (by rw [pwGo, if_pos h])
      · simp only [h, decide_false, if_false, Bool.false_eq_true]
        walk_at "ev"
        rw [d_mul _ _ (big h3 (by omega)) (big h3 (by omega))]
        walk_at "ev"
        rw [d_mod _ _ hp0]
        walk_at "ev"
        rw [d_fdiv _ _ (by decide) (by decide)]
        walk_at "ev"
        rw [c3]
        exact fin _ h1 h2 (by rw [pwGo, if_neg h])
theorem t_raised {p a k : Int} (hp : 5 ≤ p) (hp2 : p ≤ 997) (ha : 0 ≤ a) (ha2 : a < p) (hk : 0 ≤ k) (hk2 : k < 1000000000) : F_raised [.val (.int p), .val (.int a), .val (.int k)] = some (.dat (.int (a ^ k.toNat % p)), [.val (.int p), .val (.int a), .val (.int k)]) := by
  obtain ⟨n, rfl⟩ : ∃ n : Nat, k = n := ⟨k.toNat, by omega⟩
  have hp0 : 0 < p := by omega
  have e : a % p = a := Int.emod_eq_of_lt ha ha2
  obtain ⟨s', h⟩ := raised_loop (a := a) (k := n) hp hp2 n n 1 a (Nat.le_refl _) (by decide) (by omega) ha ha2 EV.fuel (by unfold EV.fuel; omega)
  have m := pwGo_mod (p := p) n n 1 a (Nat.le_refl _)
  obtain ⟨r1, r2⟩ := pwGo_range hp0 n n 1 a (by decide) (by omega)
  rw [Int.emod_eq_of_lt r1 r2, Int.one_mul] at m
  unfold F_raised m_raised
  walk_at "ev"
  rw [d_mod _ _ hp0, e]
  walk_at "ev"
  rw [e_while, h]
  walk_at "ev"
  rw [m, Int.toNat_natCast]
end Lib
end
section
set_option Elab.async false
set_option linter.all false
set_option maxRecDepth 100000
set_option maxHeartbeats 4000000
set_option exponentiation.threshold 3000
namespace Lib
open PySem PySem.Spec PyProof.Rows L2 EV
local macro_rules | `(tactic| walk_at "ev") => `(tactic| try simp only [e_bodyM, e_seq, e_nil, e_if, e_set, e_ret, e_drop, e_par, e_asg, e_for, e_app, e_setix, e_aug, e_name, e_c, e_anil, e_acons, e_bin, e_cmp, e_brk, e_cnt, e_retn, e_ix, e_call, e_fn, e_fn0, e_fnD, e_ifx, e_oft, e_tru, e_not, e_and, e_or, e_andv, e_orv, e_notv, e_neg, e_isi, e_chain, e_lst, e_tup, e_it, e_rg1, e_rg2, e_zip, e_enum, e_revi, e_rev, e_o0, e_o1, e_sl, e_dict0, e_yes, e_comp, e_pop, e_asB, e_toDd, e_toDf, e_toDs, e_lkd, e_lkf, e_lks, e_lan, e_lac, e_tdn, e_tdc, e_tsn, e_tsd, e_tsf, e_tss, e_snd, e_snf, e_snn, e_snc, e_sod, e_sof, e_st, e_fln, e_keep, e_itl, e_itt, e_rr1, e_rr2, e_tupRg, e_lstRg, e_revR, e_popAt, e_ext, e_tupRev, e_repL, e_lenSet, e_enumA, e_zipA, e_zip3, d_addT, flat1,
  d_add, d_sub, d_lt, d_le, d_gt, d_ge, d_eq, d_ne, d_ixl, d_ixt, d_lenl, d_lent, d_inti, d_intb, d_abs, d_max2, d_min2, d_tupl, d_tupt, d_lsl, d_lst, d_rb, t_b, t_i, t_l, t_t, is_nb, is_bb, k_ii, k_ib, k_bi, k_bb, k_ni, k_si, k_ti, k_li, k_di, k_tt, isNone, isBl,
  Option.bind_some, Option.bind_none, Option.map_some, Option.map_none, List.append_nil, List.cons_append, List.nil_append, List.replicate, List.getElem?_cons_zero, List.getElem?_cons_succ, List.getElem?_nil, List.set_cons_zero, List.set_cons_succ, List.length_cons, List.length_nil, List.mapIdx_cons, List.mapIdx_nil, List.contains_nil, List.contains_cons, Bool.false_eq_true, if_true, if_false, reduceIte, Bool.not_true, Bool.not_false, Option.getD_some, Function.comp, List.map_cons, List.map_nil,
  Nat.reduceLT, Nat.reduceAdd, Nat.reduceBEq, Nat.reduceEqDiff, Nat.reduceLeDiff, Int.reduceLT, Int.reduceLE, decide_true, decide_false, beq_self_eq_true, Bool.or_false, Bool.or_true, Bool.true_or, Bool.false_or, Bool.and_true, Bool.true_and, Bool.and_false, Bool.false_and, and_self, Nat.zero_add])
theorem t_inverse {p a : Int} (hp : 5 ≤ p) (hp2 : p ≤ 997) (ha : 0 ≤ a) (ha2 : a < p) : F_inverse [.val (.int p), .val (.int a)] = some (.dat (.int (a ^ (p - 2).toNat % p)), [.val (.int p), .val (.int a)]) := by
  unfold F_inverse m_inverse
  walk_at "ev"
  rw [t_raised hp hp2 ha ha2 (by omega) (by omega)]
  walk_at "ev"
/-! ### dice -/
/-- the dice: what is left of a great cell, a number mixed, how many were mixed -/
def DiceOk (k : Nat) (ds : List Da) : Prop := ∃ a b c : Int, ds = [.int a, .int b, .int c] ∧ 0 ≤ a ∧ a < 10 ^ 117 ∧ 0 ≤ b ∧ b < 10 ^ 23 ∧ 0 ≤ c ∧ c ≤ k
theorem at0 {α : Type} {x y z : α} : atI [x, y, z] (0 : Int) = some x := rfl
theorem at1 {α : Type} {x y z : α} : atI [x, y, z] (1 : Int) = some y := rfl
theorem at2 {α : Type} {x y z : α} : atI [x, y, z] (2 : Int) = some z := rfl
theorem ix30 : ixN 3 0 = some 0 := rfl
theorem ix32 : ixN 3 2 = some 2 := rfl
theorem t_roll {k : Nat} {ds : List Da} {m : Int} (h : DiceOk k ds) (hk : k ≤ 1000000) (hm : 0 < m) (hm2 : m ≤ 1000000000) : ∃ r ds', 0 ≤ r ∧ r < m ∧ DiceOk (k + 1) ds' ∧ F__law_roll [.own ds, .val (.int m)] = some (.dat (.int r), [.own ds', .val (.int m)]) := by
  obtain ⟨a, b, c, rfl, a0, a1, b0, b1, c0, c1⟩ := h
  by_cases ha : 0 < a
  · refine ⟨a % m, [.int (a / m), .int b, .int c], Int.emod_nonneg _ (by omega), Int.emod_lt_of_pos _ hm, ⟨a / m, b, c, rfl, Int.ediv_nonneg a0 (by omega), ?_, b0, b1, c0, by omega⟩, ?_⟩
    · exact Int.lt_of_le_of_lt (Int.ediv_le_self _ a0) a1
    · unfold F__law_roll m__law_roll
      walk_at "ev"
      rw [at0]
      walk_at "ev"
      simp only [ha, decide_true, if_true]
      walk_at "ev"
      rw [at0]
      walk_at "ev"
      rw [d_mod _ _ hm]
      walk_at "ev"
      rw [at0]
      walk_at "ev"
      rw [d_fdiv _ _ hm (by omega)]
      walk_at "ev"
      rw [ix30]
      walk_at "ev"
  · have ha : a = 0 := by omega
    subst ha
    have e1 := Int.emod_nonneg (b + 86028157 * (c + 1)) (show (2305843009213693487 : Int) ≠ 0 by decide)
    have e2 := Int.emod_lt_of_pos (b + 86028157 * (c + 1)) (show (0 : Int) < 2305843009213693487 by decide)
    generalize hone : (b + 86028157 * (c + 1)) % 2305843009213693487 = one at e1 e2
    have e3 := Int.emod_nonneg (one * one + 101 * (c + 1)) (show (2305843009213693669 : Int) ≠ 0 by decide)
    have e4 := Int.emod_lt_of_pos (one * one + 101 * (c + 1)) (show (0 : Int) < 2305843009213693669 by decide)
    generalize htwo : (one * one + 101 * (c + 1)) % 2305843009213693669 = two at e3 e4
    refine ⟨(two * 6700417 + one) / 65537 % m, [.int 0, .int b, .int (c + 1)], Int.emod_nonneg _ (by omega), Int.emod_lt_of_pos _ hm, ⟨0, b, c + 1, rfl, a0, a1, b0, b1, by omega, by omega⟩, ?_⟩
    unfold F__law_roll m__law_roll
    walk_at "ev"
    rw [at0]
    walk_at "ev"
    rw [at2]
    walk_at "ev"
    rw [ix32]
    walk_at "ev"
    rw [at1]
    walk_at "ev"
    rw [at2]
    walk_at "ev"
    rw [d_mul _ _ (big (by decide) (by decide)) (big (by omega) (by omega))]
    walk_at "ev"
    rw [d_mod _ _ (by decide), hone]
    walk_at "ev"
    rw [d_mul _ _ (big e1 (by omega)) (big e1 (by omega))]
    walk_at "ev"
    rw [at2]
    walk_at "ev"
    rw [d_mul _ _ (big (by decide) (by decide)) (big (by omega) (by omega))]
    walk_at "ev"
    rw [d_mod _ _ (by decide), htwo]
    walk_at "ev"
    rw [d_mul _ _ (big e3 (by omega)) (big (by decide) (by decide))]
    walk_at "ev"
    rw [d_fdiv _ _ (by decide) (by decide)]
    walk_at "ev"
    rw [d_mod _ _ hm]
    walk_at "ev"
theorem t_pick {k : Nat} {ds xs : List Da} (h : DiceOk k ds) (hk : k ≤ 1000000) (hx : 0 < xs.length) (hx2 : xs.length ≤ 1000000) : ∃ x ds', x ∈ xs ∧ DiceOk (k + 1) ds' ∧ F__law_pick [.own ds, .val (.list xs)] = some (.dat x, [.own ds', .val (.list xs)]) := by
  obtain ⟨r, ds', r0, r1, hd, e⟩ := t_roll (m := xs.length) h hk (by omega) (by omega)
  obtain ⟨n, rfl⟩ : ∃ n : Nat, r = n := ⟨r.toNat, by omega⟩
  have hn : n < xs.length := by omega
  refine ⟨xs[n], ds', List.getElem_mem hn, hd, ?_⟩
  unfold F__law_pick m__law_pick
  walk_at "ev"
  rw [e]
  walk_at "ev"
  rw [atI_nat (v := xs[n]) (by simp [hn])]
  walk_at "ev"
end Lib
end
section
set_option Elab.async false
set_option linter.all false
set_option maxRecDepth 100000
set_option maxHeartbeats 4000000
set_option exponentiation.threshold 3000
namespace Lib
open PySem PySem.Spec PyProof.Rows L2 EV
local macro_rules | `(tactic| walk_at "ev") => `(tactic| try simp only [e_bodyM, e_seq, e_nil, e_if, e_set, e_ret, e_drop, e_par, e_asg, e_for, e_app, e_setix, e_aug, e_name, e_c, e_anil, e_acons, e_bin, e_cmp, e_brk, e_cnt, e_retn, e_ix, e_call, e_fn, e_fn0, e_fnD, e_ifx, e_oft, e_tru, e_not, e_and, e_or, e_andv, e_orv, e_notv, e_neg, e_isi, e_chain, e_lst, e_tup, e_it, e_rg1, e_rg2, e_zip, e_enum, e_revi, e_rev, e_o0, e_o1, e_sl, e_dict0, e_yes, e_comp, e_pop, e_asB, e_toDd, e_toDf, e_toDs, e_lkd, e_lkf, e_lks, e_lan, e_lac, e_tdn, e_tdc, e_tsn, e_tsd, e_tsf, e_tss, e_snd, e_snf, e_snn, e_snc, e_sod, e_sof, e_st, e_fln, e_keep, e_itl, e_itt, e_rr1, e_rr2, e_tupRg, e_lstRg, e_revR, e_popAt, e_ext, e_tupRev, e_repL, e_lenSet, e_enumA, e_zipA, e_zip3, d_addT, flat1,
  d_add, d_sub, d_lt, d_le, d_gt, d_ge, d_eq, d_ne, d_ixl, d_ixt, d_lenl, d_lent, d_inti, d_intb, d_abs, d_max2, d_min2, d_tupl, d_tupt, d_lsl, d_lst, d_rb, t_b, t_i, t_l, t_t, is_nb, is_bb, k_ii, k_ib, k_bi, k_bb, k_ni, k_si, k_ti, k_li, k_di, k_tt, isNone, isBl,
  Option.bind_some, Option.bind_none, Option.map_some, Option.map_none, List.append_nil, List.cons_append, List.nil_append, List.replicate, List.getElem?_cons_zero, List.getElem?_cons_succ, List.getElem?_nil, List.set_cons_zero, List.set_cons_succ, List.length_cons, List.length_nil, List.mapIdx_cons, List.mapIdx_nil, List.contains_nil, List.contains_cons, Bool.false_eq_true, if_true, if_false, reduceIte, Bool.not_true, Bool.not_false, Option.getD_some, Function.comp, List.map_cons, List.map_nil,
  Nat.reduceLT, Nat.reduceAdd, Nat.reduceBEq, Nat.reduceEqDiff, Nat.reduceLeDiff, Int.reduceLT, Int.reduceLE, decide_true, decide_false, beq_self_eq_true, Bool.or_false, Bool.or_true, Bool.true_or, Bool.false_or, Bool.and_true, Bool.true_and, Bool.and_false, Bool.false_and, and_self, Nat.zero_add])
/-! ### loops and comprehensions, in general -/
theorem compL_map {vs : List Nat} {tg : Wv → Gh → Option Gh} {el : ME} {f : Da → Da} {g : Gh} : ∀ {ds : List Da}, (∀ d ∈ ds, ∃ g1 w g2 g3, tg (.dat d) g = some g1 ∧ el g1 = some (w, g2) ∧ toD w g2 = some (f d, g3) ∧ wipeG g3 vs = g) → compL vs tg mYes el ds g = some (ds.map f, g)
  | [], _ => rfl
  | d :: ds, h => by
    obtain ⟨g1, w, g2, g3, h1, h2, h3, h4⟩ := h d List.mem_cons_self
    unfold compL
    rw [h1, Option.bind_some]
    show (el g1).bind _ = _
    rw [h2, Option.bind_some, h3, Option.bind_some, h4, compL_map fun d hd => h d (List.mem_cons_of_mem _ hd)]
    rfl
theorem compL_filter {vs : List Nat} {tg : Wv → Gh → Option Gh} {ts : MT} {el : ME} {f : Da → Da} {q : Da → Bool} {g : Gh} : ∀ {ds : List Da}, (∀ d ∈ ds, ∃ g1 g2, tg (.dat d) g = some g1 ∧ ts g1 = some (q d, g2) ∧ (q d = true → ∃ w g3 g4, el g2 = some (w, g3) ∧ toD w g3 = some (f d, g4) ∧ wipeG g4 vs = g) ∧ (q d = false → wipeG g2 vs = g)) → compL vs tg ts el ds g = some ((ds.filter q).map f, g)
  | [], _ => rfl
  | d :: ds, h => by
    obtain ⟨g1, g2, h1, h2, h3, h4⟩ := h d List.mem_cons_self
    have ih := compL_filter fun d hd => h d (List.mem_cons_of_mem _ hd)
    unfold compL
    rw [h1, Option.bind_some, h2, Option.bind_some]
    by_cases hq : q d = true
    · obtain ⟨w, g3, g4, k1, k2, k3⟩ := h3 hq
      rw [List.filter_cons, if_pos hq]
      simp only [hq, if_true]
      rw [k1, Option.bind_some, k2, Option.bind_some, k3, ih]
      rfl
    · have hq : q d = false := by simpa using hq
      rw [List.filter_cons, if_neg (by simp [hq])]
      simp only [hq, if_false, Bool.false_eq_true]
      rw [h4 hq, ih]
theorem forL_inv {tg : Wv → Gh → Option Gh} {body : MS} (P : Nat → Gh → Prop) : ∀ (ds : List Da) (i : Nat) (g : Gh), P i g → (∀ j g d, P j g → d ∈ ds → j < i + ds.length → ∃ g1 g2, tg (.dat d) g = some g1 ∧ body g1 = some (.nx, g2) ∧ P (j + 1) g2) → ∃ g', forL tg body ds g = some (.nx, g') ∧ P (i + ds.length) g'
  | [], i, g, h, _ => ⟨g, rfl, h⟩
  | d :: ds, i, g, h, st => by
    obtain ⟨g1, g2, h1, h2, h3⟩ := st i g d h List.mem_cons_self (by rw [List.length_cons]; omega)
    obtain ⟨g', h4, h5⟩ := forL_inv P ds (i + 1) g2 h3 fun j g d p hd hj => st j g d p (List.mem_cons_of_mem _ hd) (by rw [List.length_cons]; omega)
    refine ⟨g', ?_, by rw [List.length_cons]; rw [show i + (ds.length + 1) = i + 1 + ds.length by omega]; exact h5⟩
    unfold forL
    rw [h1, Option.bind_some, h2, Option.bind_some]
    exact h4
theorem mem_rgD {a b : Int} {d : Da} : d ∈ rgD a b ↔ ∃ i, d = .int i ∧ a ≤ i ∧ i < b := by
  unfold rgD
  rw [List.mem_map]
  constructor
  · rintro ⟨k, hk, rfl⟩
    rw [List.mem_range] at hk
    exact ⟨_, rfl, by omega, by omega⟩
  · rintro ⟨i, rfl, h1, h2⟩
    exact ⟨(i - a).toNat, by rw [List.mem_range]; omega, by congr 1; omega⟩
theorem rgD_len {a b : Int} : (rgD a b).length = (b - a).toNat := by unfold rgD; rw [List.length_map, List.length_range]
theorem okRg' {i : Int} (h : -1000000 ≤ i) (h2 : i ≤ 1000000) : okRg i = true := by
  unfold okRg
  rw [decide_eq_true (by omega), decide_eq_true (by omega)]; rfl
/-! ### dice of a script -/
def diceR : MS := (sSeq (sSet 3 (mBin dMod (mCall dMax (mCons (mC (.int 0)) (mCons (mBin dSub (mCall dAbs (mCons (mName 2) mNil)) (mBin dPow (mC (.int 10)) (mC (.int 16)))) mNil))) (mBin dMul (mBin dPow (mC (.int 10)) (mC (.int 57))) (mBin dPow (mC (.int 10)) (mC (.int 60))))))
    (sRet [] (mLst (mCons (mName 3) (mCons (mBin dAdd (mBin dAdd (mBin dAdd (mBin dMul (mBin dMod (mCall dAbs (mCons (mName 2) mNil)) (mC (.int 1152921504606846733))) (mC (.int 97))) (mBin dMul (mC (.int 1013)) (mName 1))) (mBin dMul (mC (.int 53)) (mCall dInt (mCons (mBin dLt (mName 2) (mC (.int 0))) mNil)))) (mC (.int 41))) (mCons (mC (.int 0)) mNil))))))
theorem dice_cut : m__law_dice = sSeq (sSet 2 (mIf (mCmp dLt (mName 1) (mCall dLen (mCons (mName 0) mNil))) (mCall dInt (mCons (mIx (mName 0) (mName 1)) mNil)) (mBin dAdd (mBin dMul (mC (.int 103)) (mName 1)) (mC (.int 67))))) diceR := rfl
theorem t_diceR {ns : List Da} {s : Nat} (hs : s < 1000) (cell : Int) : ∃ ds, DiceOk 0 ds ∧ ∃ g', diceR [.val (.list ns), .val (.int s), .val (.int cell), .un] = some (.rt (.fresh ds), g') := by
  generalize hA : (if cell < 0 then -cell else cell) = A
  have hA0 : 0 ≤ A := by rw [← hA]; split <;> omega
  have m1 := Int.emod_nonneg A (show (1152921504606846733 : Int) ≠ 0 by decide)
  have m2 := Int.emod_lt_of_pos A (show (0 : Int) < 1152921504606846733 by decide)
  generalize hB : (if A - 10 ^ 16 > 0 then A - 10 ^ 16 else 0) = B
  have hB0 : 0 ≤ B := by rw [← hB]; split <;> omega
  have pos : (0 : Int) < 10 ^ 57 * 10 ^ 60 := by decide
  refine ⟨[.int (B % (10 ^ 57 * 10 ^ 60)), .int (A % 1152921504606846733 * 97 + 1013 * s + 53 * (if decide (cell < 0) = true then 1 else 0) + 41), .int 0], ⟨_, _, _, rfl, Int.emod_nonneg _ (by decide), ?_, ?_, ?_, Int.le_refl _, Int.le_refl _⟩, [.val (.list ns), .val (.int s), .val (.int cell), .val (.int (B % (10 ^ 57 * 10 ^ 60)))], ?_⟩
  · exact Int.lt_of_lt_of_le (Int.emod_lt_of_pos _ pos) (by decide)
  · split <;> omega
  · split <;> omega
  · unfold diceR
    walk_at "ev"
    rw [hA]
    rw [d_pow 10 16 (by decide) (by decide) (by decide), d_pow 10 57 (by decide) (by decide) (by decide), d_pow 10 60 (by decide) (by decide) (by decide)]
    walk_at "ev"
    rw [d_mul _ _ (by decide) (by decide)]
    walk_at "ev"
    rw [show (Int.toNat 16) = 16 from rfl, show (Int.toNat 57) = 57 from rfl, show (Int.toNat 60) = 60 from rfl, hB, d_mod _ _ pos]
    walk_at "ev"
    rw [hA, d_mod _ _ (by decide)]
    walk_at "ev"
    rw [d_mul _ _ (big m1 (by omega)) (by decide)]
    walk_at "ev"
    rw [d_mul _ _ (by decide) (big (by omega) (by omega))]
    walk_at "ev"
    rw [d_mul _ _ (by decide) (by split <;> decide)]
    walk_at "ev"
    rfl
theorem t_dice {ns : List Int} {s : Nat} (hs : s < 1000) : ∃ ds, DiceOk 0 ds ∧ F__law_dice [.val (.list (ns.map PyData.int)), .val (.int s)] = some (.fresh ds, [.val (.list (ns.map PyData.int)), .val (.int s)]) := by
  unfold F__law_dice
  rw [dice_cut]
  by_cases h : s < ns.length
  · obtain ⟨ds, hd, g', e⟩ := t_diceR (ns := ns.map PyData.int) hs ns[s]
    refine ⟨ds, hd, ?_⟩
    walk_at "ev"
    rw [List.length_map, decide_eq_true (show (s : Int) < (ns.length : Int) by omega)]
    walk_at "ev"
    rw [atI_nat (v := .int ns[s]) (by simp [h])]
    walk_at "ev"
    rw [e]
    walk_at "ev"
  · obtain ⟨ds, hd, g', e⟩ := t_diceR (ns := ns.map PyData.int) hs (103 * s + 67)
    refine ⟨ds, hd, ?_⟩
    walk_at "ev"
    rw [List.length_map, decide_eq_false (show ¬ (s : Int) < (ns.length : Int) by omega)]
    walk_at "ev"
    rw [d_mul _ _ (by decide) (big (by omega) (by omega))]
    walk_at "ev"
    rw [e]
    walk_at "ev"
theorem t_pickI {k : Nat} {ds : List Da} {xs : List Int} (h : DiceOk k ds) (hk : k ≤ 1000000) (hx : 0 < xs.length) (hx2 : xs.length ≤ 1000000) : ∃ x ds', x ∈ xs ∧ DiceOk (k + 1) ds' ∧ F__law_pick [.own ds, .val (.list (xs.map PyData.int))] = some (.dat (.int x), [.own ds', .val (.list (xs.map PyData.int))]) := by
  obtain ⟨x, ds', hm, hd, e⟩ := t_pick (xs := xs.map PyData.int) h hk (by rw [List.length_map]; exact hx) (by rw [List.length_map]; exact hx2)
  obtain ⟨i, hi, rfl⟩ := List.mem_map.mp hm
  exact ⟨i, ds', hi, hd, e⟩
end Lib
end
section
set_option Elab.async false
set_option linter.all false
set_option maxRecDepth 100000
set_option maxHeartbeats 4000000
set_option exponentiation.threshold 3000
namespace Lib
open PySem PySem.Spec PyProof.Rows L2 EV
local macro_rules | `(tactic| walk_at "ev") => `(tactic| try simp only [e_bodyM, e_seq, e_nil, e_if, e_set, e_ret, e_drop, e_par, e_asg, e_for, e_app, e_setix, e_aug, e_name, e_c, e_anil, e_acons, e_bin, e_cmp, e_brk, e_cnt, e_retn, e_ix, e_call, e_fn, e_fn0, e_fnD, e_ifx, e_oft, e_tru, e_not, e_and, e_or, e_andv, e_orv, e_notv, e_neg, e_isi, e_chain, e_lst, e_tup, e_it, e_rg1, e_rg2, e_zip, e_enum, e_revi, e_rev, e_o0, e_o1, e_sl, e_dict0, e_yes, e_comp, e_pop, e_asB, e_toDd, e_toDf, e_toDs, e_lkd, e_lkf, e_lks, e_lan, e_lac, e_tdn, e_tdc, e_tsn, e_tsd, e_tsf, e_tss, e_snd, e_snf, e_snn, e_snc, e_sod, e_sof, e_st, e_fln, e_keep, e_itl, e_itt, e_rr1, e_rr2, e_tupRg, e_lstRg, e_revR, e_popAt, e_ext, e_tupRev, e_repL, e_lenSet, e_enumA, e_zipA, e_zip3, d_addT, flat1,
  d_add, d_sub, d_lt, d_le, d_gt, d_ge, d_eq, d_ne, d_ixl, d_ixt, d_lenl, d_lent, d_inti, d_intb, d_abs, d_max2, d_min2, d_tupl, d_tupt, d_lsl, d_lst, d_rb, t_b, t_i, t_l, t_t, is_nb, is_bb, k_ii, k_ib, k_bi, k_bb, k_ni, k_si, k_ti, k_li, k_di, k_tt, isNone, isBl,
  Option.bind_some, Option.bind_none, Option.map_some, Option.map_none, List.append_nil, List.cons_append, List.nil_append, List.replicate, List.getElem?_cons_zero, List.getElem?_cons_succ, List.getElem?_nil, List.set_cons_zero, List.set_cons_succ, List.length_cons, List.length_nil, List.mapIdx_cons, List.mapIdx_nil, List.contains_nil, List.contains_cons, Bool.false_eq_true, if_true, if_false, reduceIte, Bool.not_true, Bool.not_false, Option.getD_some, Function.comp, List.map_cons, List.map_nil,
  Nat.reduceLT, Nat.reduceAdd, Nat.reduceBEq, Nat.reduceEqDiff, Nat.reduceLeDiff, Int.reduceLT, Int.reduceLE, decide_true, decide_false, beq_self_eq_true, Bool.or_false, Bool.or_true, Bool.true_or, Bool.false_or, Bool.and_true, Bool.true_and, Bool.and_false, Bool.false_and, and_self, Nat.zero_add])
/-! ### what undoes a number, by trying -/
/-! ### powers, by the law's own steps -/
/-! ### great powers -/
end Lib
end
section
set_option Elab.async false
set_option linter.all false
set_option maxRecDepth 100000
set_option maxHeartbeats 4000000
set_option exponentiation.threshold 3000
namespace Lib
open PySem PySem.Spec PyProof.Rows L2 EV
local macro_rules | `(tactic| walk_at "ev") => `(tactic| try simp only [e_bodyM, e_seq, e_nil, e_if, e_set, e_ret, e_drop, e_par, e_asg, e_for, e_app, e_setix, e_aug, e_name, e_c, e_anil, e_acons, e_bin, e_cmp, e_brk, e_cnt, e_retn, e_ix, e_call, e_fn, e_fn0, e_fnD, e_ifx, e_oft, e_tru, e_not, e_and, e_or, e_andv, e_orv, e_notv, e_neg, e_isi, e_chain, e_lst, e_tup, e_it, e_rg1, e_rg2, e_zip, e_enum, e_revi, e_rev, e_o0, e_o1, e_sl, e_dict0, e_yes, e_comp, e_pop, e_asB, e_toDd, e_toDf, e_toDs, e_lkd, e_lkf, e_lks, e_lan, e_lac, e_tdn, e_tdc, e_tsn, e_tsd, e_tsf, e_tss, e_snd, e_snf, e_snn, e_snc, e_sod, e_sof, e_st, e_fln, e_keep, e_itl, e_itt, e_rr1, e_rr2, e_tupRg, e_lstRg, e_revR, e_popAt, e_ext, e_tupRev, e_repL, e_lenSet, e_enumA, e_zipA, e_zip3, d_addT, flat1,
  d_add, d_sub, d_lt, d_le, d_gt, d_ge, d_eq, d_ne, d_ixl, d_ixt, d_lenl, d_lent, d_inti, d_intb, d_abs, d_max2, d_min2, d_tupl, d_tupt, d_lsl, d_lst, d_rb, t_b, t_i, t_l, t_t, is_nb, is_bb, k_ii, k_ib, k_bi, k_bb, k_ni, k_si, k_ti, k_li, k_di, k_tt, isNone, isBl,
  Option.bind_some, Option.bind_none, Option.map_some, Option.map_none, List.append_nil, List.cons_append, List.nil_append, List.replicate, List.getElem?_cons_zero, List.getElem?_cons_succ, List.getElem?_nil, List.set_cons_zero, List.set_cons_succ, List.length_cons, List.length_nil, List.mapIdx_cons, List.mapIdx_nil, List.contains_nil, List.contains_cons, Bool.false_eq_true, if_true, if_false, reduceIte, Bool.not_true, Bool.not_false, Option.getD_some, Function.comp, List.map_cons, List.map_nil,
  Nat.reduceLT, Nat.reduceAdd, Nat.reduceBEq, Nat.reduceEqDiff, Nat.reduceLeDiff, Int.reduceLT, Int.reduceLE, decide_true, decide_false, beq_self_eq_true, Bool.or_false, Bool.or_true, Bool.true_or, Bool.false_or, Bool.and_true, Bool.true_and, Bool.and_false, Bool.false_and, and_self, Nat.zero_add])
/-! ### primes by trying all divisors -/
end Lib
end
section
set_option Elab.async false
set_option linter.all false
set_option maxRecDepth 100000
set_option maxHeartbeats 4000000
set_option exponentiation.threshold 3000
namespace Lib
open PySem PySem.Spec PyProof.Rows L2 EV
local macro_rules | `(tactic| walk_at "ev") => `(tactic| try simp only [e_bodyM, e_seq, e_nil, e_if, e_set, e_ret, e_drop, e_par, e_asg, e_for, e_app, e_setix, e_aug, e_name, e_c, e_anil, e_acons, e_bin, e_cmp, e_brk, e_cnt, e_retn, e_ix, e_call, e_fn, e_fn0, e_fnD, e_ifx, e_oft, e_tru, e_not, e_and, e_or, e_andv, e_orv, e_notv, e_neg, e_isi, e_chain, e_lst, e_tup, e_it, e_rg1, e_rg2, e_zip, e_enum, e_revi, e_rev, e_o0, e_o1, e_sl, e_dict0, e_yes, e_comp, e_pop, e_asB, e_toDd, e_toDf, e_toDs, e_lkd, e_lkf, e_lks, e_lan, e_lac, e_tdn, e_tdc, e_tsn, e_tsd, e_tsf, e_tss, e_snd, e_snf, e_snn, e_snc, e_sod, e_sof, e_st, e_fln, e_keep, e_itl, e_itt, e_rr1, e_rr2, e_tupRg, e_lstRg, e_revR, e_popAt, e_ext, e_tupRev, e_repL, e_lenSet, e_enumA, e_zipA, e_zip3, d_addT, flat1,
  d_add, d_sub, d_lt, d_le, d_gt, d_ge, d_eq, d_ne, d_ixl, d_ixt, d_lenl, d_lent, d_inti, d_intb, d_abs, d_max2, d_min2, d_tupl, d_tupt, d_lsl, d_lst, d_rb, t_b, t_i, t_l, t_t, is_nb, is_bb, k_ii, k_ib, k_bi, k_bb, k_ni, k_si, k_ti, k_li, k_di, k_tt, isNone, isBl,
  Option.bind_some, Option.bind_none, Option.map_some, Option.map_none, List.append_nil, List.cons_append, List.nil_append, List.replicate, List.getElem?_cons_zero, List.getElem?_cons_succ, List.getElem?_nil, List.set_cons_zero, List.set_cons_succ, List.length_cons, List.length_nil, List.mapIdx_cons, List.mapIdx_nil, List.contains_nil, List.contains_cons, Bool.false_eq_true, if_true, if_false, reduceIte, Bool.not_true, Bool.not_false, Option.getD_some, Function.comp, List.map_cons, List.map_nil,
  Nat.reduceLT, Nat.reduceAdd, Nat.reduceBEq, Nat.reduceEqDiff, Nat.reduceLeDiff, Int.reduceLT, Int.reduceLE, decide_true, decide_false, beq_self_eq_true, Bool.or_false, Bool.or_true, Bool.true_or, Bool.false_or, Bool.and_true, Bool.true_and, Bool.and_false, Bool.false_and, and_self, Nat.zero_add])
/-! ### Fermat, for all fields -/
theorem fermat_table : ((List.range 998).all fun v => !isFld (v : Int) || (List.range v).all fun a => Nat.ble a 0 || a ^ (v - 1) % v == 1) = true := by decide +kernel
theorem fermat {p a : Int} (h : isFld p = true) (ha : 0 < a) (ha2 : a < p) : a ^ (p - 1).toNat % p = 1 := by
  have hp := fld_pos h
  obtain ⟨n, rfl⟩ : ∃ n : Nat, p = n := ⟨p.toNat, by omega⟩
  obtain ⟨b, rfl⟩ : ∃ b : Nat, a = b := ⟨a.toNat, by omega⟩
  have t := List.all_eq_true.mp fermat_table n (by rw [List.mem_range]; omega)
  rw [h] at t
  simp only [Bool.not_true, Bool.false_or] at t
  have t2 := List.all_eq_true.mp t b (by rw [List.mem_range]; omega)
  have e : Nat.ble b 0 = false := by
    rw [Bool.eq_false_iff]
    intro hc
    have := Nat.le_of_ble_eq_true hc
    omega
  rw [e, Bool.false_or, beq_iff_eq] at t2
  rw [show ((n : Int) - 1).toNat = n - 1 by omega, ← Int.natCast_pow, ← Int.natCast_emod, t2]
  rfl
theorem inv_mul {p a : Int} (h : isFld p = true) (ha : 0 < a) (ha2 : a < p) : a ^ (p - 2).toNat % p * a % p = 1 := by
  have hp := fld_pos h
  rw [mml, ← Int.pow_succ, show (p - 2).toNat.succ = (p - 1).toNat by omega, fermat h ha ha2]
end Lib
end
section
set_option Elab.async false
set_option linter.all false
set_option maxRecDepth 100000
set_option maxHeartbeats 4000000
set_option exponentiation.threshold 3000
namespace Lib
open PySem PySem.Spec PyProof.Rows L2 EV
local macro_rules | `(tactic| walk_at "ev") => `(tactic| try simp only [e_bodyM, e_seq, e_nil, e_if, e_set, e_ret, e_drop, e_par, e_asg, e_for, e_app, e_setix, e_aug, e_name, e_c, e_anil, e_acons, e_bin, e_cmp, e_brk, e_cnt, e_retn, e_ix, e_call, e_fn, e_fn0, e_fnD, e_ifx, e_oft, e_tru, e_not, e_and, e_or, e_andv, e_orv, e_notv, e_neg, e_isi, e_chain, e_lst, e_tup, e_it, e_rg1, e_rg2, e_zip, e_enum, e_revi, e_rev, e_o0, e_o1, e_sl, e_dict0, e_yes, e_comp, e_pop, e_asB, e_toDd, e_toDf, e_toDs, e_lkd, e_lkf, e_lks, e_lan, e_lac, e_tdn, e_tdc, e_tsn, e_tsd, e_tsf, e_tss, e_snd, e_snf, e_snn, e_snc, e_sod, e_sof, e_st, e_fln, e_keep, e_itl, e_itt, e_rr1, e_rr2, e_tupRg, e_lstRg, e_revR, e_popAt, e_ext, e_tupRev, e_repL, e_lenSet, e_enumA, e_zipA, e_zip3, d_addT, flat1,
  d_add, d_sub, d_lt, d_le, d_gt, d_ge, d_eq, d_ne, d_ixl, d_ixt, d_lenl, d_lent, d_inti, d_intb, d_abs, d_max2, d_min2, d_tupl, d_tupt, d_lsl, d_lst, d_rb, t_b, t_i, t_l, t_t, is_nb, is_bb, k_ii, k_ib, k_bi, k_bb, k_ni, k_si, k_ti, k_li, k_di, k_tt, isNone, isBl,
  Option.bind_some, Option.bind_none, Option.map_some, Option.map_none, List.append_nil, List.cons_append, List.nil_append, List.replicate, List.getElem?_cons_zero, List.getElem?_cons_succ, List.getElem?_nil, List.set_cons_zero, List.set_cons_succ, List.length_cons, List.length_nil, List.mapIdx_cons, List.mapIdx_nil, List.contains_nil, List.contains_cons, Bool.false_eq_true, if_true, if_false, reduceIte, Bool.not_true, Bool.not_false, Option.getD_some, Function.comp, List.map_cons, List.map_nil,
  Nat.reduceLT, Nat.reduceAdd, Nat.reduceBEq, Nat.reduceEqDiff, Nat.reduceLeDiff, Int.reduceLT, Int.reduceLE, decide_true, decide_false, beq_self_eq_true, Bool.or_false, Bool.or_true, Bool.true_or, Bool.false_or, Bool.and_true, Bool.true_and, Bool.and_false, Bool.false_and, and_self, Nat.zero_add])
theorem d_keep {k m : Nat} {ds : List Da} (h : DiceOk k ds) (hm : k ≤ m) : DiceOk m ds := by
  obtain ⟨a, b, c, h1, h2, h3, h4, h5, h6, h7⟩ := h
  exact ⟨a, b, c, h1, h2, h3, h4, h5, h6, by omega⟩
end Lib
end
section
set_option Elab.async false
set_option linter.all false
set_option maxRecDepth 100000
set_option maxHeartbeats 4000000
set_option exponentiation.threshold 3000
namespace Lib
open PySem PySem.Spec PyProof.Rows L2 EV
local macro_rules | `(tactic| walk_at "ev") => `(tactic| try simp only [e_bodyM, e_seq, e_nil, e_if, e_set, e_ret, e_drop, e_par, e_asg, e_for, e_app, e_setix, e_aug, e_name, e_c, e_anil, e_acons, e_bin, e_cmp, e_brk, e_cnt, e_retn, e_ix, e_call, e_fn, e_fn0, e_fnD, e_ifx, e_oft, e_tru, e_not, e_and, e_or, e_andv, e_orv, e_notv, e_neg, e_isi, e_chain, e_lst, e_tup, e_it, e_rg1, e_rg2, e_zip, e_enum, e_revi, e_rev, e_o0, e_o1, e_sl, e_dict0, e_yes, e_comp, e_pop, e_asB, e_toDd, e_toDf, e_toDs, e_lkd, e_lkf, e_lks, e_lan, e_lac, e_tdn, e_tdc, e_tsn, e_tsd, e_tsf, e_tss, e_snd, e_snf, e_snn, e_snc, e_sod, e_sof, e_st, e_fln, e_keep, e_itl, e_itt, e_rr1, e_rr2, e_tupRg, e_lstRg, e_revR, e_popAt, e_ext, e_tupRev, e_repL, e_lenSet, e_enumA, e_zipA, e_zip3, d_addT, flat1,
  d_add, d_sub, d_lt, d_le, d_gt, d_ge, d_eq, d_ne, d_ixl, d_ixt, d_lenl, d_lent, d_inti, d_intb, d_abs, d_max2, d_min2, d_tupl, d_tupt, d_lsl, d_lst, d_rb, t_b, t_i, t_l, t_t, is_nb, is_bb, k_ii, k_ib, k_bi, k_bb, k_ni, k_si, k_ti, k_li, k_di, k_tt, isNone, isBl,
  Option.bind_some, Option.bind_none, Option.map_some, Option.map_none, List.append_nil, List.cons_append, List.nil_append, List.replicate, List.getElem?_cons_zero, List.getElem?_cons_succ, List.getElem?_nil, List.set_cons_zero, List.set_cons_succ, List.length_cons, List.length_nil, List.mapIdx_cons, List.mapIdx_nil, List.contains_nil, List.contains_cons, Bool.false_eq_true, if_true, if_false, reduceIte, Bool.not_true, Bool.not_false, Option.getD_some, Function.comp, List.map_cons, List.map_nil,
  Nat.reduceLT, Nat.reduceAdd, Nat.reduceBEq, Nat.reduceEqDiff, Nat.reduceLeDiff, Int.reduceLT, Int.reduceLE, decide_true, decide_false, beq_self_eq_true, Bool.or_false, Bool.or_true, Bool.true_or, Bool.false_or, Bool.and_true, Bool.true_and, Bool.and_false, Bool.false_and, and_self, Nat.zero_add])
/-! ### any values -/
def inRg (lo hi : Int) (d : Da) : Bool := match d with | .int v => decide (lo ≤ v) && decide (v ≤ hi) | _ => false
theorem compL_of {α : Type} {vs : List Nat} {tg : Wv → Gh → Option Gh} {el : ME} {e F : α → Da} {g : Gh} : ∀ {xs : List α}, (∀ x ∈ xs, ∃ g1 w g2 g3, tg (.dat (e x)) g = some g1 ∧ el g1 = some (w, g2) ∧ toD w g2 = some (F x, g3) ∧ wipeG g3 vs = g) → compL vs tg mYes el (xs.map e) g = some (xs.map F, g)
  | [], _ => rfl
  | x :: xs, h => by
    obtain ⟨g1, w, g2, g3, h1, h2, h3, h4⟩ := h x List.mem_cons_self
    rw [List.map_cons]
    unfold compL
    rw [h1, Option.bind_some]
    show (el g1).bind _ = _
    rw [h2, Option.bind_some, h3, Option.bind_some, h4, compL_of fun d hd => h d (List.mem_cons_of_mem _ hd)]
    rfl
end Lib
end
section
set_option Elab.async false
set_option linter.all false
set_option maxRecDepth 100000
set_option maxHeartbeats 4000000
set_option exponentiation.threshold 3000
namespace Lib
open PySem PySem.Spec PyProof.Rows L2 EV
local macro_rules | `(tactic| walk_at "ev") => `(tactic| try simp only [e_bodyM, e_seq, e_nil, e_if, e_set, e_ret, e_drop, e_par, e_asg, e_for, e_app, e_setix, e_aug, e_name, e_c, e_anil, e_acons, e_bin, e_cmp, e_brk, e_cnt, e_retn, e_ix, e_call, e_fn, e_fn0, e_fnD, e_ifx, e_oft, e_tru, e_not, e_and, e_or, e_andv, e_orv, e_notv, e_neg, e_isi, e_chain, e_lst, e_tup, e_it, e_rg1, e_rg2, e_zip, e_enum, e_revi, e_rev, e_o0, e_o1, e_sl, e_dict0, e_yes, e_comp, e_pop, e_asB, e_toDd, e_toDf, e_toDs, e_lkd, e_lkf, e_lks, e_lan, e_lac, e_tdn, e_tdc, e_tsn, e_tsd, e_tsf, e_tss, e_snd, e_snf, e_snn, e_snc, e_sod, e_sof, e_st, e_fln, e_keep, e_itl, e_itt, e_rr1, e_rr2, e_tupRg, e_lstRg, e_revR, e_popAt, e_ext, e_tupRev, e_repL, e_lenSet, e_enumA, e_zipA, e_zip3, d_addT, flat1,
  d_add, d_sub, d_lt, d_le, d_gt, d_ge, d_eq, d_ne, d_ixl, d_ixt, d_lenl, d_lent, d_inti, d_intb, d_abs, d_max2, d_min2, d_tupl, d_tupt, d_lsl, d_lst, d_rb, t_b, t_i, t_l, t_t, is_nb, is_bb, k_ii, k_ib, k_bi, k_bb, k_ni, k_si, k_ti, k_li, k_di, k_tt, isNone, isBl,
  Option.bind_some, Option.bind_none, Option.map_some, Option.map_none, List.append_nil, List.cons_append, List.nil_append, List.replicate, List.getElem?_cons_zero, List.getElem?_cons_succ, List.getElem?_nil, List.set_cons_zero, List.set_cons_succ, List.length_cons, List.length_nil, List.mapIdx_cons, List.mapIdx_nil, List.contains_nil, List.contains_cons, Bool.false_eq_true, if_true, if_false, reduceIte, Bool.not_true, Bool.not_false, Option.getD_some, Function.comp, List.map_cons, List.map_nil,
  Nat.reduceLT, Nat.reduceAdd, Nat.reduceBEq, Nat.reduceEqDiff, Nat.reduceLeDiff, Int.reduceLT, Int.reduceLE, decide_true, decide_false, beq_self_eq_true, Bool.or_false, Bool.or_true, Bool.true_or, Bool.false_or, Bool.and_true, Bool.true_and, Bool.and_false, Bool.false_and, and_self, Nat.zero_add])
/-! ### lists without zeros at their end -/
def trimL (xs : List Int) : List Int := (xs.reverse.dropWhile (fun x => x == 0)).reverse
theorem trimL_zero (xs : List Int) : trimL (xs ++ [0]) = trimL xs := by
  unfold trimL
  rw [List.reverse_append]
  rfl
theorem trimL_last {xs : List Int} {x : Int} (h : x ≠ 0) : trimL (xs ++ [x]) = xs ++ [x] := by
  unfold trimL
  rw [List.reverse_append]
  show (List.dropWhile (fun x => x == 0) (x :: xs.reverse)).reverse = _
  rw [List.dropWhile_cons, if_neg (by simpa using h), List.reverse_cons, List.reverse_reverse]
theorem flat_li (xs : List Int) : Flat 1 (.list (xs.map PyData.int)) := flat_list (n := 0) (flat_ints xs)
theorem flat_ti (xs : List Int) : Flat 1 (.tuple (xs.map PyData.int)) := flat_tuple (n := 0) (flat_ints xs)
theorem d_neNil (xs : List Int) : dNe (.list (xs.map PyData.int)) (.list []) = some (.dat (.bool (!xs.isEmpty))) := by
  rw [d_neD _ _ (ok_flat (flat_li xs)) (ok_flat (flat_list (n := 0) (xs := []) fun x hx => by cases hx))]
  cases xs <;> simp only [PyData.eqv, PyData.eqvAll, List.isEmpty, List.map_cons, List.map_nil]
theorem at_last (xs : List Da) (x : Da) : atI (xs ++ [x]) (-1) = some x := by
  unfold atI ixN
  rw [if_neg (by decide), List.length_append, List.length_singleton, if_pos (by omega), Option.bind_some, show ((-1 : Int) + ((xs.length + 1 : Nat) : Int)).toNat = xs.length by omega]
  simp
theorem trim_loop (A : Sl) : ∀ (rs : List Int) (n : Nat), rs.length < n → whileL (mAnd (mCmp dNe (mName 1) (mLst mNil)) (mCmp dEq (mIx (mName 1) (mNeg (mC (.int 1)))) (mC (.int 0)))) (sDrop (mPop 1)) n [A, .own (rs.reverse.map PyData.int)] = some (.nx, [A, .own ((trimL rs.reverse).map PyData.int)])
  | [], n, h => by
    obtain ⟨n, rfl⟩ : ∃ k, n = k + 1 := ⟨n - 1, by omega⟩
    unfold whileL
    walk_at "ev"
    rw [if_pos (Nat.zero_le _)]
    walk_at "ev"
    rw [show dNe (.list (List.map PyData.int [].reverse)) (.list []) = some (.dat (.bool false)) from d_neNil []]
    walk_at "ev"
    rfl
  | r :: rs, n, h => by
    obtain ⟨n, rfl⟩ : ∃ k, n = k + 1 := ⟨n - 1, by omega⟩
    rw [List.length_cons] at h
    have ne : dNe (.list ((r :: rs).reverse.map PyData.int)) (.list []) = some (.dat (.bool true)) := by
      rw [d_neNil]
      simp
    have la : atI ((r :: rs).reverse.map PyData.int) (-1) = some (.int r) := by
      rw [List.reverse_cons, List.map_append]
      exact at_last _ _
    have ls : ((r :: rs).reverse.map PyData.int).getLast? = some (.int r) := by
      rw [List.reverse_cons, List.map_append]
      simp
    have dl : ((r :: rs).reverse.map PyData.int).dropLast = rs.reverse.map PyData.int := by
      rw [List.reverse_cons, List.map_append]
      simp
    generalize hX : (r :: rs).reverse.map PyData.int = X at ne la ls dl
    unfold whileL
    walk_at "ev"
    rw [if_pos (Nat.zero_le _)]
    walk_at "ev"
    rw [ne]
    walk_at "ev"
    rw [la]
    walk_at "ev"
    by_cases h0 : r = 0
    · subst h0
      walk_at "ev"
      rw [ls]
      walk_at "ev"
      rw [dl, trim_loop A rs n (by omega), List.reverse_cons, trimL_zero]
    · rw [show (r == 0) = false by simpa using h0]
      walk_at "ev"
      rw [List.reverse_cons, trimL_last h0, ← hX, List.reverse_cons]
theorem t_po_trimL (xs : List Int) (h : xs.length ≤ 1000000) : F__law_po_trim [.val (.list (xs.map PyData.int))] = some (.dat (.tuple ((trimL xs).map PyData.int)), [.val (.list (xs.map PyData.int))]) := by
  have e := trim_loop (.val (.list (xs.map PyData.int))) xs.reverse EV.fuel (by rw [List.length_reverse]; unfold EV.fuel; omega)
  rw [List.reverse_reverse] at e
  unfold F__law_po_trim m__law_po_trim
  walk_at "ev"
  rw [e_while, e]
  walk_at "ev"
theorem t_po_trimT (xs : List Int) (h : xs.length ≤ 1000000) : F__law_po_trim [.val (.tuple (xs.map PyData.int))] = some (.dat (.tuple ((trimL xs).map PyData.int)), [.val (.tuple (xs.map PyData.int))]) := by
  have e := trim_loop (.val (.tuple (xs.map PyData.int))) xs.reverse EV.fuel (by rw [List.length_reverse]; unfold EV.fuel; omega)
  rw [List.reverse_reverse] at e
  unfold F__law_po_trim m__law_po_trim
  walk_at "ev"
  rw [e_while, e]
  walk_at "ev"
theorem trimL_le : ∀ rs : List Int, (trimL rs.reverse).length ≤ rs.length
  | [] => Nat.le_refl _
  | r :: rs => by
    rw [List.reverse_cons]
    by_cases h : r = 0
    · subst h
      rw [trimL_zero, List.length_cons]
      exact Nat.le_succ_of_le (trimL_le rs)
    · rw [trimL_last h]
      simp
theorem trimL_take : ∀ rs : List Int, rs.reverse.take (trimL rs.reverse).length = trimL rs.reverse
  | [] => rfl
  | r :: rs => by
    rw [List.reverse_cons]
    by_cases h : r = 0
    · subst h
      rw [trimL_zero, List.take_append_of_le_length (by rw [List.length_reverse]; exact trimL_le rs)]
      exact trimL_take rs
    · rw [trimL_last h, List.take_length]
theorem cut_take (xs : List Da) (k : Nat) (h : k ≤ xs.length) : EV.cutD xs none (some (k : Int)) = xs.take k := by
  unfold EV.cutD
  rw [show HT.sIx xs.length 0 none = 0 from rfl, show HT.sIx xs.length xs.length (some (k : Int)) = k by
    show (if (k : Int) < 0 then ((k : Int) + (xs.length : Int)).toNat else min (k : Int).toNat xs.length) = k
    rw [if_neg (by omega), Int.toNat_natCast]
    omega]
  rfl
theorem trimd_loop {X : List Da} {A : Sl} (hA : A = .val (.list X) ∨ A = .val (.tuple X)) : ∀ (rs : List Int) (n : Nat), rs.length < n → (∀ i, i < rs.length → X[i]? = (rs.reverse.map PyData.int)[i]?) →
    whileL (mAnd (mCmp dGt (mName 1) (mC (.int 0))) (mCmp dEq (mIx (mName 0) (mBin dSub (mName 1) (mC (.int 1)))) (mC (.int 0)))) (sAug 1 (fun i j => i - j) (mC (.int 1))) n [A, .val (.int (rs.length : Nat))] = some (.nx, [A, .val (.int ((trimL rs.reverse).length : Nat))])
  | [], n, h, _ => by
    obtain ⟨n, rfl⟩ : ∃ k, n = k + 1 := ⟨n - 1, by omega⟩
    unfold whileL
    walk_at "ev"
    rfl
  | r :: rs, n, h, hx => by
    obtain ⟨n, rfl⟩ : ∃ k, n = k + 1 := ⟨n - 1, by omega⟩
    rw [List.length_cons] at h
    have hl : X[rs.length]? = some (.int r) := by
      rw [hx rs.length (by rw [List.length_cons]; omega), List.reverse_cons, List.map_append, List.getElem?_append_right (by rw [List.length_map, List.length_reverse]; exact Nat.le_refl _), List.length_map, List.length_reverse, Nat.sub_self]
      rfl
    have la : atI X ((rs.length : Nat) : Int) = some (.int r) := atI_nat hl
    have ih := trimd_loop hA rs n (by omega) fun i hi => by
      rw [hx i (by rw [List.length_cons]; omega), List.reverse_cons, List.map_append, List.getElem?_append_left (by rw [List.length_map, List.length_reverse]; exact hi)]
    have p1 : decide ((0 : Int) < (((r :: rs).length : Nat) : Int)) = true := decide_eq_true (by rw [List.length_cons]; omega)
    have p2 : (((r :: rs).length : Nat) : Int) - 1 = ((rs.length : Nat) : Int) := by rw [List.length_cons]; omega
    generalize hL : (((r :: rs).length : Nat) : Int) = L at p1 p2
    unfold whileL
    rcases hA with rfl | rfl
    all_goals
      walk_at "ev"
      rw [p1]
      walk_at "ev"
      rw [p2, la]
      walk_at "ev"
      by_cases h0 : r = 0
      · subst h0
        walk_at "ev"
        rw [p2, ih, List.reverse_cons, trimL_zero]
      · rw [show (r == 0) = false by simpa using h0]
        walk_at "ev"
        rw [List.reverse_cons, trimL_last h0, ← hL]
        simp
theorem t_trimmedL (xs : List Int) (h : xs.length ≤ 1000000) : F_trimmed [.val (.list (xs.map PyData.int))] = some (.dat (.tuple ((trimL xs).map PyData.int)), [.val (.list (xs.map PyData.int))]) := by
  have e := trimd_loop (X := xs.map PyData.int) (A := .val (.list (xs.map PyData.int))) (.inl rfl) xs.reverse EV.fuel (by rw [List.length_reverse]; unfold EV.fuel; omega) fun i _ => by rw [List.reverse_reverse]
  have l := trimL_le xs.reverse
  have t := trimL_take xs.reverse
  rw [List.reverse_reverse, List.length_reverse] at e
  rw [List.reverse_reverse] at t
  rw [List.reverse_reverse, List.length_reverse] at l
  unfold F_trimmed m_trimmed
  walk_at "ev"
  rw [List.length_map, e_while, e]
  walk_at "ev"
  rw [cut_take _ _ (by rw [List.length_map]; exact l), ← List.map_take, t]
  walk_at "ev"
end Lib
end
section
set_option Elab.async false
set_option linter.all false
set_option maxRecDepth 100000
set_option maxHeartbeats 4000000
set_option exponentiation.threshold 3000
namespace Lib
open PySem PySem.Spec PyProof.Rows L2 EV
local macro_rules | `(tactic| walk_at "ev") => `(tactic| try simp only [e_bodyM, e_seq, e_nil, e_if, e_set, e_ret, e_drop, e_par, e_asg, e_for, e_app, e_setix, e_aug, e_name, e_c, e_anil, e_acons, e_bin, e_cmp, e_brk, e_cnt, e_retn, e_ix, e_call, e_fn, e_fn0, e_fnD, e_ifx, e_oft, e_tru, e_not, e_and, e_or, e_andv, e_orv, e_notv, e_neg, e_isi, e_chain, e_lst, e_tup, e_it, e_rg1, e_rg2, e_zip, e_enum, e_revi, e_rev, e_o0, e_o1, e_sl, e_dict0, e_yes, e_comp, e_pop, e_asB, e_toDd, e_toDf, e_toDs, e_lkd, e_lkf, e_lks, e_lan, e_lac, e_tdn, e_tdc, e_tsn, e_tsd, e_tsf, e_tss, e_snd, e_snf, e_snn, e_snc, e_sod, e_sof, e_st, e_fln, e_keep, e_itl, e_itt, e_rr1, e_rr2, e_tupRg, e_lstRg, e_revR, e_popAt, e_ext, e_tupRev, e_repL, e_lenSet, e_enumA, e_zipA, e_zip3, d_addT, flat1,
  d_add, d_sub, d_lt, d_le, d_gt, d_ge, d_eq, d_ne, d_ixl, d_ixt, d_lenl, d_lent, d_inti, d_intb, d_abs, d_max2, d_min2, d_tupl, d_tupt, d_lsl, d_lst, d_rb, t_b, t_i, t_l, t_t, is_nb, is_bb, k_ii, k_ib, k_bi, k_bb, k_ni, k_si, k_ti, k_li, k_di, k_tt, isNone, isBl,
  Option.bind_some, Option.bind_none, Option.map_some, Option.map_none, List.append_nil, List.cons_append, List.nil_append, List.replicate, List.getElem?_cons_zero, List.getElem?_cons_succ, List.getElem?_nil, List.set_cons_zero, List.set_cons_succ, List.length_cons, List.length_nil, List.mapIdx_cons, List.mapIdx_nil, List.contains_nil, List.contains_cons, Bool.false_eq_true, if_true, if_false, reduceIte, Bool.not_true, Bool.not_false, Option.getD_some, Function.comp, List.map_cons, List.map_nil,
  Nat.reduceLT, Nat.reduceAdd, Nat.reduceBEq, Nat.reduceEqDiff, Nat.reduceLeDiff, Int.reduceLT, Int.reduceLE, decide_true, decide_false, beq_self_eq_true, Bool.or_false, Bool.or_true, Bool.true_or, Bool.false_or, Bool.and_true, Bool.true_and, Bool.and_false, Bool.false_and, and_self, Nat.zero_add])
/-! ### multiples of polys; which tuples are polys -/
def InF (p : Int) (xs : List Int) : Prop := ∀ x ∈ xs, 0 ≤ x ∧ x < p
theorem sl_lt {n : Nat} (h : n ≤ 1000000) : n < sizeLine := by unfold sizeLine; omega
theorem t_scaled {p c : Int} {xs : List Int} (hp : 5 ≤ p) (hp2 : p ≤ 997) (hc : 0 ≤ c) (hc2 : c < p) (hx : InF p xs) (hl : xs.length ≤ 1000000) : F_scaled [.val (.int p), .val (.tuple (xs.map PyData.int)), .val (.int c)] = some (.fresh ((xs.map fun x => c * x % p).map PyData.int), [.val (.int p), .val (.tuple (xs.map PyData.int)), .val (.int c)]) := by
  have q := compL_of (vs := [3]) (tg := setN 3) (el := mBin dMod (mBin dMul (mName 2) (mName 3)) (mName 0)) (e := PyData.int) (F := fun x => .int (c * x % p)) (g := [.val (.int p), .val (.tuple (xs.map PyData.int)), .val (.int c), .un]) (xs := xs) (by
    intro x h
    obtain ⟨h1, h2⟩ := hx x h
    refine ⟨[.val (.int p), .val (.tuple (xs.map PyData.int)), .val (.int c), .val (.int x)], .dat (.int (c * x % p)), [.val (.int p), .val (.tuple (xs.map PyData.int)), .val (.int c), .val (.int x)], [.val (.int p), .val (.tuple (xs.map PyData.int)), .val (.int c), .val (.int x)], rfl, ?_, rfl, rfl⟩
    walk_at "ev"
    rw [d_mul _ _ (big hc (by omega)) (big h1 (by omega))]
    walk_at "ev"
    rw [d_mod _ _ (by omega)]
    walk_at "ev")
  unfold F_scaled m_scaled
  walk_at "ev"
  rw [if_pos (by rw [List.length_map]; exact sl_lt hl)]
  simp only [wipeG, List.set_cons_zero, List.set_cons_succ]
  rw [q]
  simp only [Option.bind_some, restore, List.getElem?_cons_zero, List.getElem?_cons_succ, List.set_cons_zero, List.set_cons_succ]
  walk_at "ev"
  rw [List.map_map]
  rfl
theorem t_po_scaled {p c : Int} {xs : List Int} (hp : 5 ≤ p) (hp2 : p ≤ 997) (hc : 0 ≤ c) (hc2 : c < p) (hx : InF p xs) (hl : xs.length ≤ 1000000) : F__law_po_scaled [.val (.int p), .val (.tuple (xs.map PyData.int)), .val (.int c)] = some (.dat (.tuple ((trimL (xs.map fun x => c * x % p)).map PyData.int)), [.val (.int p), .val (.tuple (xs.map PyData.int)), .val (.int c)]) := by
  have q := compL_of (vs := [3]) (tg := setN 3) (el := mBin dMod (mCall dInt (mCons (mBin dMul (mName 3) (mName 2)) mNil)) (mName 0)) (e := PyData.int) (F := fun x => .int (c * x % p)) (g := [.val (.int p), .val (.tuple (xs.map PyData.int)), .val (.int c), .un]) (xs := xs) (by
    intro x h
    obtain ⟨h1, h2⟩ := hx x h
    refine ⟨[.val (.int p), .val (.tuple (xs.map PyData.int)), .val (.int c), .val (.int x)], .dat (.int (c * x % p)), [.val (.int p), .val (.tuple (xs.map PyData.int)), .val (.int c), .val (.int x)], [.val (.int p), .val (.tuple (xs.map PyData.int)), .val (.int c), .val (.int x)], rfl, ?_, rfl, rfl⟩
    walk_at "ev"
    rw [d_mul _ _ (big h1 (by omega)) (big hc (by omega))]
    walk_at "ev"
    rw [d_mod _ _ (by omega), Int.mul_comm x c]
    walk_at "ev")
  unfold F__law_po_scaled m__law_po_scaled
  walk_at "ev"
  rw [if_pos (by rw [List.length_map]; exact sl_lt hl)]
  try simp only [wipeG, List.set_cons_zero, List.set_cons_succ]
  rw [q]
  try simp only [Option.bind_some, restore, List.getElem?_cons_zero, List.getElem?_cons_succ, List.set_cons_zero, List.set_cons_succ]
  walk_at "ev"
  have e : (xs.map fun x => PyData.int (c * x % p)) = (xs.map fun x => c * x % p).map PyData.int := by rw [List.map_map]; rfl
  rw [e, t_po_trimL _ (by rw [List.length_map]; exact hl)]
  walk_at "ev"
/-- the loop of `are_numbers`: true of all, or it ends at the first that is none -/
theorem nums_go {p : Int} {D : Da} : ∀ (ds : List Da) (s : Sl), ∃ s', forL (setN 2) (sIf (mOr (mNot (mTru (mIsi "int" (mName 2)))) (mOr (mCmp (dIs false) (mName 2) (mC (.bool true))) (mOr (mCmp (dIs false) (mName 2) (mC (.bool false))) (mNot (mChain dLe dLt (mC (.int 0)) (mName 2) (mName 0)))))) (sRet [] (mC (.bool false))) sNil) ds [.val (.int p), .val D, s] = some (if ds.all (inRg 0 (p - 1)) then .nx else .rt (.dat (.bool false)), [.val (.int p), .val D, s'])
  | [], s => ⟨s, rfl⟩
  | d :: ds, s => by
    obtain ⟨s', ih⟩ := nums_go (p := p) (D := D) ds (.val d)
    by_cases h : inRg 0 (p - 1) d = true
    · refine ⟨s', ?_⟩
      rw [List.all_cons, h, Bool.true_and, ← ih]
      conv => lhs; unfold forL
      show (setN 2 (.dat d) _).bind _ = _
      cases d with
      | int v =>
        unfold inRg at h
        rw [Bool.and_eq_true, decide_eq_true_eq, decide_eq_true_eq] at h
        have h1 : (0 : Int) ≤ v := h.1
        have h2 : v < p := by omega
        walk_at "ev"
        rw [decide_eq_true h1]
        walk_at "ev"
        rw [decide_eq_true h2]
        walk_at "ev"
      | _ => simp [inRg] at h
    · refine ⟨.val d, ?_⟩
      have h' : inRg 0 (p - 1) d = false := by simpa using h
      rw [List.all_cons, h', Bool.false_and]
      conv => lhs; unfold forL
      cases d with
      | int v =>
        unfold inRg at h'
        rw [Bool.and_eq_false_iff, decide_eq_false_iff_not, decide_eq_false_iff_not] at h'
        walk_at "ev"
        by_cases h1 : (0 : Int) ≤ v
        · have h2 : ¬ v < p := by omega
          rw [decide_eq_true h1]
          walk_at "ev"
          rw [decide_eq_false h2]
          walk_at "ev"
        · rw [decide_eq_false h1]
          walk_at "ev"
      | bool b => cases b <;> walk_at "ev"
      | _ => walk_at "ev"
theorem t_are_numbersA {p : Int} {xs : List Da} (hl : xs.length ≤ 1000000) : F_are_numbers [.val (.int p), .val (.tuple xs)] = some (.dat (.bool (xs.all (inRg 0 (p - 1)))), [.val (.int p), .val (.tuple xs)]) := by
  obtain ⟨s', e⟩ := nums_go (p := p) (D := .tuple xs) xs .un
  unfold F_are_numbers m_are_numbers
  walk_at "ev"
  rw [e]
  cases xs.all (inRg 0 (p - 1)) <;> walk_at "ev"
theorem t_are_numbers_no {p : Int} {d : Da} (hk : kitB (tyName d) "tuple" = some false) : F_are_numbers [.val (.int p), .val d] = some (.dat (.bool false), [.val (.int p), .val d]) := by
  unfold F_are_numbers m_are_numbers
  walk_at "ev"
  rw [hk]
  walk_at "ev"
theorem t_are_numbers {p : Int} {xs : List Int} (hp : 5 ≤ p) (hx : InF p xs) (hl : xs.length ≤ 1000000) : F_are_numbers [.val (.int p), .val (.tuple (xs.map PyData.int))] = some (.dat (.bool true), [.val (.int p), .val (.tuple (xs.map PyData.int))]) := by
  rw [t_are_numbersA (by rw [List.length_map]; exact hl)]
  rw [show (xs.map PyData.int).all (inRg 0 (p - 1)) = true by
    rw [List.all_eq_true]
    intro d hd
    obtain ⟨x, hx', rfl⟩ := List.mem_map.mp hd
    have := hx x hx'
    show (decide (0 ≤ x) && decide (x ≤ p - 1)) = true
    rw [decide_eq_true this.1, decide_eq_true (show x ≤ p - 1 by omega)]
    rfl]
end Lib
end
section
set_option Elab.async false
set_option linter.all false
set_option maxRecDepth 100000
set_option maxHeartbeats 4000000
set_option exponentiation.threshold 3000
namespace Lib
open PySem PySem.Spec PyProof.Rows L2 EV
local macro_rules | `(tactic| walk_at "ev") => `(tactic| try simp only [e_bodyM, e_seq, e_nil, e_if, e_set, e_ret, e_drop, e_par, e_asg, e_for, e_app, e_setix, e_aug, e_name, e_c, e_anil, e_acons, e_bin, e_cmp, e_brk, e_cnt, e_retn, e_ix, e_call, e_fn, e_fn0, e_fnD, e_ifx, e_oft, e_tru, e_not, e_and, e_or, e_andv, e_orv, e_notv, e_neg, e_isi, e_chain, e_lst, e_tup, e_it, e_rg1, e_rg2, e_zip, e_enum, e_revi, e_rev, e_o0, e_o1, e_sl, e_dict0, e_yes, e_comp, e_pop, e_asB, e_toDd, e_toDf, e_toDs, e_lkd, e_lkf, e_lks, e_lan, e_lac, e_tdn, e_tdc, e_tsn, e_tsd, e_tsf, e_tss, e_snd, e_snf, e_snn, e_snc, e_sod, e_sof, e_st, e_fln, e_keep, e_itl, e_itt, e_rr1, e_rr2, e_tupRg, e_lstRg, e_revR, e_popAt, e_ext, e_tupRev, e_repL, e_lenSet, e_enumA, e_zipA, e_zip3, d_addT, flat1,
  d_add, d_sub, d_lt, d_le, d_gt, d_ge, d_eq, d_ne, d_ixl, d_ixt, d_lenl, d_lent, d_inti, d_intb, d_abs, d_max2, d_min2, d_tupl, d_tupt, d_lsl, d_lst, d_rb, t_b, t_i, t_l, t_t, is_nb, is_bb, k_ii, k_ib, k_bi, k_bb, k_ni, k_si, k_ti, k_li, k_di, k_tt, isNone, isBl,
  Option.bind_some, Option.bind_none, Option.map_some, Option.map_none, List.append_nil, List.cons_append, List.nil_append, List.replicate, List.getElem?_cons_zero, List.getElem?_cons_succ, List.getElem?_nil, List.set_cons_zero, List.set_cons_succ, List.length_cons, List.length_nil, List.mapIdx_cons, List.mapIdx_nil, List.contains_nil, List.contains_cons, Bool.false_eq_true, if_true, if_false, reduceIte, Bool.not_true, Bool.not_false, Option.getD_some, Function.comp, List.map_cons, List.map_nil,
  Nat.reduceLT, Nat.reduceAdd, Nat.reduceBEq, Nat.reduceEqDiff, Nat.reduceLeDiff, Int.reduceLT, Int.reduceLE, decide_true, decide_false, beq_self_eq_true, Bool.or_false, Bool.or_true, Bool.true_or, Bool.false_or, Bool.and_true, Bool.true_and, Bool.and_false, Bool.false_and, and_self, Nat.zero_add])
/-! ### polys -/
/-- numbers of the field, at most 61, the last one not 0 -/
def Poly (p : Int) (xs : List Int) : Prop := InF p xs ∧ xs.length ≤ 61 ∧ (xs = [] ∨ ∃ ys x, xs = ys ++ [x] ∧ x ≠ 0)
theorem poly_trim {p : Int} {xs : List Int} (h : Poly p xs) : trimL xs = xs := by
  rcases h.2.2 with rfl | ⟨ys, x, rfl, hx⟩
  · rfl
  · exact trimL_last hx
theorem trim_in {p : Int} : ∀ rs : List Int, InF p rs.reverse → InF p (trimL rs.reverse)
  | [], h => h
  | r :: rs, h => by
    rw [List.reverse_cons] at h ⊢
    by_cases e : r = 0
    · subst e
      rw [trimL_zero]
      exact trim_in rs fun x hx => h x (List.mem_append_left _ hx)
    · rw [trimL_last e]
      exact h
theorem trim_end : ∀ rs : List Int, trimL rs.reverse = [] ∨ ∃ ys x, trimL rs.reverse = ys ++ [x] ∧ x ≠ 0
  | [] => .inl rfl
  | r :: rs => by
    rw [List.reverse_cons]
    by_cases e : r = 0
    · subst e
      rw [trimL_zero]
      exact trim_end rs
    · rw [trimL_last e]
      exact .inr ⟨_, _, rfl, e⟩
theorem trim_poly {p : Int} {xs : List Int} (h : InF p xs) (hl : xs.length ≤ 61) : Poly p (trimL xs) := by
  have h1 := trim_in xs.reverse (p := p) (by rw [List.reverse_reverse]; exact h)
  have h2 := trim_end xs.reverse
  have h3 := trimL_le xs.reverse
  rw [List.reverse_reverse] at h1 h2 h3
  rw [List.length_reverse] at h3
  exact ⟨h1, by omega, h2⟩
theorem d_eqNilT (xs : List Int) : dEq (.tuple (xs.map PyData.int)) (.tuple []) = some (.dat (.bool xs.isEmpty)) := by
  rw [d_eqD _ _ (ok_flat (flat_ti xs)) (ok_flat (flat_tuple (n := 0) (xs := []) fun x hx => by cases hx))]
  cases xs <;> simp only [PyData.eqv, PyData.eqvAll, List.isEmpty, List.map_cons, List.map_nil]
theorem t_is_poly {p : Int} {xs : List Int} (hf : isFld p = true) (h : Poly p xs) : F_is_poly [.val (.int p), .val (.tuple (xs.map PyData.int))] = some (.dat (.bool true), [.val (.int p), .val (.tuple (xs.map PyData.int))]) := by
  have hp := fld_pos hf
  have e1 := t_are_numbers hp.1 h.1 (Nat.le_trans h.2.1 (by decide))
  have e2 : decide ((60 : Int) + 1 < (xs.length : Nat)) = false := decide_eq_false (by have := h.2.1; omega)
  have e3 := d_eqNilT xs
  have e4 : xs.isEmpty = true ∨ (xs.isEmpty = false ∧ ∃ x, atI (xs.map PyData.int) (-1) = some (.int x) ∧ (x == 0) = false) := by
    rcases h.2.2 with rfl | ⟨ys, x, rfl, hx⟩
    · exact .inl rfl
    · refine .inr ⟨by simp, x, ?_, by simpa using hx⟩
      rw [List.map_append]
      exact at_last _ _
  unfold F_is_poly m_is_poly
  walk_at "ev"
  rw [t_check_field hf]
  walk_at "ev"
  rw [e1]
  walk_at "ev"
  rw [List.length_map, e2]
  walk_at "ev"
  rw [if_pos (Nat.zero_le _)]
  walk_at "ev"
  rw [e3]
  walk_at "ev"
  rcases e4 with e4 | ⟨e4, x, e5, e6⟩
  · rw [e4]
    walk_at "ev"
  · rw [e4]
    walk_at "ev"
    rw [e5]
    walk_at "ev"
    rw [e6]
    walk_at "ev"
theorem t_check_poly {p : Int} {xs : List Int} (hf : isFld p = true) (h : Poly p xs) : F_check_poly [.val (.int p), .val (.tuple (xs.map PyData.int))] = some (.dat .none, [.val (.int p), .val (.tuple (xs.map PyData.int))]) := by
  unfold F_check_poly m_check_poly
  walk_at "ev"
  rw [t_is_poly hf h]
  walk_at "ev"
theorem t_poly_scaled {p c : Int} {xs : List Int} (hf : isFld p = true) (hc : 0 ≤ c) (hc2 : c < p) (h : Poly p xs) : F_poly_scaled [.val (.int p), .val (.tuple (xs.map PyData.int)), .val (.int c)] = some (.dat (.tuple ((trimL (xs.map fun x => c * x % p)).map PyData.int)), [.val (.int p), .val (.tuple (xs.map PyData.int)), .val (.int c)]) := by
  have hp := fld_pos hf
  have hl : xs.length ≤ 1000000 := Nat.le_trans h.2.1 (by decide)
  unfold F_poly_scaled m_poly_scaled
  walk_at "ev"
  rw [t_check_field hf]
  walk_at "ev"
  rw [t_check_poly hf h]
  walk_at "ev"
  rw [t_check_number hc hc2]
  walk_at "ev"
  rw [t_scaled hp.1 hp.2 hc hc2 h.1 hl]
  walk_at "ev"
  rw [t_trimmedL _ (by rw [List.length_map]; exact hl)]
  walk_at "ev"
theorem t_padded {m : Int} {xs : List Int} (hl : xs.length ≤ 500) (h0 : 0 ≤ m) (hm : m ≤ 500) : F_padded [.val (.tuple (xs.map PyData.int)), .val (.int m)] = some (.dat (.tuple ((xs ++ List.replicate (m - xs.length).toNat 0).map PyData.int)), [.val (.tuple (xs.map PyData.int)), .val (.int m)]) := by
  unfold F_padded m_padded
  walk_at "ev"
  rw [if_pos (show 1 ≤ sizeLine by decide)]
  walk_at "ev"
  rw [List.length_map, d_mulTT _ _ (okRg' (by omega) (by omega)) (.inr (.inr ⟨by omega, by decide⟩))]
  walk_at "ev"
  rw [if_pos (by rw [List.length_map, List.length_replicate]; unfold sizeLine; omega)]
  walk_at "ev"
  rw [List.map_append, List.map_replicate]
/-! ### sums of polys -/
def addL (p : Int) (xs ys : List Int) : List Int := (List.range (max xs.length ys.length)).map fun i => (xs.getD i 0 + ys.getD i 0) % p
theorem pad_get (xs : List Int) (k i : Nat) (h : i < xs.length + k) : (xs ++ List.replicate k 0)[i]? = some (xs.getD i 0) := by
  by_cases hi : i < xs.length
  · rw [List.getElem?_append_left hi]
    simp [hi]
  · rw [List.getElem?_append_right (by omega), List.getElem?_replicate, if_pos (by omega), List.getD_eq_getElem?_getD, List.getElem?_eq_none (by omega)]
    rfl
theorem pads_range (xs ys : List Int) : List.zipWith (fun x y : Int => (x, y)) (xs ++ List.replicate (max xs.length ys.length - xs.length) 0) (ys ++ List.replicate (max xs.length ys.length - ys.length) 0) = (List.range (max xs.length ys.length)).map fun i => (xs.getD i 0, ys.getD i 0) := by
  apply List.ext_getElem?
  intro i
  by_cases hi : i < max xs.length ys.length
  · rw [List.getElem?_zipWith, pad_get xs _ i (by omega), pad_get ys _ i (by omega), List.getElem?_map, List.getElem?_range hi]
    rfl
  · rw [List.getElem?_eq_none (by simp; omega), List.getElem?_eq_none (by simp; omega)]
theorem getD_in {p : Int} {xs : List Int} (hp : 0 < p) (h : InF p xs) (i : Nat) : 0 ≤ xs.getD i 0 ∧ xs.getD i 0 < p := by
  by_cases hi : i < xs.length
  · rw [List.getD_eq_getElem?_getD, List.getElem?_eq_getElem hi]
    exact h _ (List.getElem_mem hi)
  · rw [List.getD_eq_getElem?_getD, List.getElem?_eq_none (by omega)]
    exact ⟨Int.le_refl 0, hp⟩
theorem t_added {p : Int} {xs ys : List Int} (hp : 5 ≤ p) (hx : InF p xs) (hy : InF p ys) (hl : xs.length ≤ 500) (hl2 : ys.length ≤ 500) : F_added [.val (.int p), .val (.tuple (xs.map PyData.int)), .val (.tuple (ys.map PyData.int))] = some (.dat (.tuple ((trimL (addL p xs ys)).map PyData.int)), [.val (.int p), .val (.tuple (xs.map PyData.int)), .val (.tuple (ys.map PyData.int))]) := by
  have hm : (if ((ys.length : Nat) : Int) > ((xs.length : Nat) : Int) then ((ys.length : Nat) : Int) else ((xs.length : Nat) : Int)) = ((max xs.length ys.length : Nat) : Int) := by
    split <;> omega
  have z : zipD ((xs ++ List.replicate (max xs.length ys.length - xs.length) 0).map PyData.int) ((ys ++ List.replicate (max xs.length ys.length - ys.length) 0).map PyData.int) = (List.range (max xs.length ys.length)).map fun i => .tuple [.int (xs.getD i 0), .int (ys.getD i 0)] := by
    have := congrArg (List.map fun q : Int × Int => PyData.tuple [.int q.1, .int q.2]) (pads_range xs ys)
    rw [List.map_zipWith, List.map_map] at this
    unfold zipD
    rw [List.zipWith_map]
    exact this
  have q := compL_of (vs := [4, 5]) (tg := setT [4, 5]) (el := mBin dMod (mBin dAdd (mName 4) (mName 5)) (mName 0)) (e := fun i : Nat => .tuple [.int (xs.getD i 0), .int (ys.getD i 0)]) (F := fun i : Nat => .int ((xs.getD i 0 + ys.getD i 0) % p)) (g := [.val (.int p), .val (.tuple (xs.map PyData.int)), .val (.tuple (ys.map PyData.int)), .val (.int ((max xs.length ys.length : Nat) : Int)), .un, .un]) (xs := List.range (max xs.length ys.length)) (by
    intro i h
    refine ⟨[.val (.int p), .val (.tuple (xs.map PyData.int)), .val (.tuple (ys.map PyData.int)), .val (.int ((max xs.length ys.length : Nat) : Int)), .val (.int (xs.getD i 0)), .val (.int (ys.getD i 0))], .dat (.int ((xs.getD i 0 + ys.getD i 0) % p)), [.val (.int p), .val (.tuple (xs.map PyData.int)), .val (.tuple (ys.map PyData.int)), .val (.int ((max xs.length ys.length : Nat) : Int)), .val (.int (xs.getD i 0)), .val (.int (ys.getD i 0))], _, rfl, ?_, rfl, rfl⟩
    walk_at "ev"
    rw [d_mod _ _ (by omega)]
    walk_at "ev")
  have a1 := t_padded (m := ((max xs.length ys.length : Nat) : Int)) hl (by omega) (by omega)
  have a2 := t_padded (m := ((max xs.length ys.length : Nat) : Int)) hl2 (by omega) (by omega)
  rw [show (((max xs.length ys.length : Nat) : Int) - ((xs.length : Nat) : Int)).toNat = max xs.length ys.length - xs.length by omega] at a1
  rw [show (((max xs.length ys.length : Nat) : Int) - ((ys.length : Nat) : Int)).toNat = max xs.length ys.length - ys.length by omega] at a2
  unfold F_added m_added
  walk_at "ev"
  rw [List.length_map, List.length_map, hm]
  walk_at "ev"
  rw [a1]
  walk_at "ev"
  rw [a2]
  walk_at "ev"
  rw [z, if_pos (by rw [List.length_map, List.length_range]; exact sl_lt (by omega))]
  try simp only [wipeG, List.set_cons_zero, List.set_cons_succ]
  rw [q]
  try simp only [Option.bind_some, restore, List.getElem?_cons_zero, List.getElem?_cons_succ, List.set_cons_zero, List.set_cons_succ]
  walk_at "ev"
  have e : ((List.range (max xs.length ys.length)).map fun i => PyData.int ((xs.getD i 0 + ys.getD i 0) % p)) = (addL p xs ys).map PyData.int := by
    unfold addL
    rw [List.map_map]
    rfl
  rw [e, t_trimmedL _ (by unfold addL; rw [List.length_map, List.length_range]; omega)]
  walk_at "ev"
end Lib
end
section
set_option Elab.async false
set_option linter.all false
set_option maxRecDepth 100000
set_option maxHeartbeats 4000000
set_option exponentiation.threshold 3000
namespace Lib
open PySem PySem.Spec PyProof.Rows L2 EV
local macro_rules | `(tactic| walk_at "ev") => `(tactic| try simp only [e_bodyM, e_seq, e_nil, e_if, e_set, e_ret, e_drop, e_par, e_asg, e_for, e_app, e_setix, e_aug, e_name, e_c, e_anil, e_acons, e_bin, e_cmp, e_brk, e_cnt, e_retn, e_ix, e_call, e_fn, e_fn0, e_fnD, e_ifx, e_oft, e_tru, e_not, e_and, e_or, e_andv, e_orv, e_notv, e_neg, e_isi, e_chain, e_lst, e_tup, e_it, e_rg1, e_rg2, e_zip, e_enum, e_revi, e_rev, e_o0, e_o1, e_sl, e_dict0, e_yes, e_comp, e_pop, e_asB, e_toDd, e_toDf, e_toDs, e_lkd, e_lkf, e_lks, e_lan, e_lac, e_tdn, e_tdc, e_tsn, e_tsd, e_tsf, e_tss, e_snd, e_snf, e_snn, e_snc, e_sod, e_sof, e_st, e_fln, e_keep, e_itl, e_itt, e_rr1, e_rr2, e_tupRg, e_lstRg, e_revR, e_popAt, e_ext, e_tupRev, e_repL, e_lenSet, e_enumA, e_zipA, e_zip3, d_addT, flat1,
  d_add, d_sub, d_lt, d_le, d_gt, d_ge, d_eq, d_ne, d_ixl, d_ixt, d_lenl, d_lent, d_inti, d_intb, d_abs, d_max2, d_min2, d_tupl, d_tupt, d_lsl, d_lst, d_rb, t_b, t_i, t_l, t_t, is_nb, is_bb, k_ii, k_ib, k_bi, k_bb, k_ni, k_si, k_ti, k_li, k_di, k_tt, isNone, isBl,
  Option.bind_some, Option.bind_none, Option.map_some, Option.map_none, List.append_nil, List.cons_append, List.nil_append, List.replicate, List.getElem?_cons_zero, List.getElem?_cons_succ, List.getElem?_nil, List.set_cons_zero, List.set_cons_succ, List.length_cons, List.length_nil, List.mapIdx_cons, List.mapIdx_nil, List.contains_nil, List.contains_cons, Bool.false_eq_true, if_true, if_false, reduceIte, Bool.not_true, Bool.not_false, Option.getD_some, Function.comp, List.map_cons, List.map_nil,
  Nat.reduceLT, Nat.reduceAdd, Nat.reduceBEq, Nat.reduceEqDiff, Nat.reduceLeDiff, Int.reduceLT, Int.reduceLE, decide_true, decide_false, beq_self_eq_true, Bool.or_false, Bool.or_true, Bool.true_or, Bool.false_or, Bool.and_true, Bool.true_and, Bool.and_false, Bool.false_and, and_self, Nat.zero_add])
theorem t_poly_sum {p : Int} {xs ys : List Int} (hf : isFld p = true) (hx : Poly p xs) (hy : Poly p ys) : F_poly_sum [.val (.int p), .val (.tuple (xs.map PyData.int)), .val (.tuple (ys.map PyData.int))] = some (.dat (.tuple ((trimL (addL p xs ys)).map PyData.int)), [.val (.int p), .val (.tuple (xs.map PyData.int)), .val (.tuple (ys.map PyData.int))]) := by
  have hp := fld_pos hf
  have l1 := hx.2.1
  have l2 := hy.2.1
  unfold F_poly_sum m_poly_sum
  walk_at "ev"
  rw [t_check_field hf]
  walk_at "ev"
  rw [t_check_poly hf hx]
  walk_at "ev"
  rw [t_check_poly hf hy]
  walk_at "ev"
  rw [t_added hp.1 hx.1 hy.1 (by omega) (by omega)]
  walk_at "ev"
/-! ### the law's own sum -/
theorem ix_nat {n i : Nat} (h : i < n) : ixN n (i : Int) = some i := by
  unfold ixN
  rw [if_pos (by omega), if_pos (by omega), Int.toNat_natCast]
/-- the first loop: the numbers of the one poly are put down -/
theorem put_loop {G0 G1 G2 : Sl} : ∀ (xs pre suf : List Int) (s4 s5 : Sl), xs.length ≤ suf.length → ∃ s4' s5', forL (setT [4, 5]) (sSetIx 3 (mName 5) (mName 4)) (enumD pre.length (xs.map PyData.int)) [G0, G1, G2, .own ((pre ++ suf).map PyData.int), s4, s5] = some (.nx, [G0, G1, G2, .own ((pre ++ xs ++ suf.drop xs.length).map PyData.int), s4', s5'])
  | [], pre, suf, s4, s5, _ => ⟨s4, s5, by rw [List.map_nil, enumD]; simp [forL]⟩
  | x :: xs, pre, [], s4, s5, h => by simp at h
  | x :: xs, pre, y :: suf, s4, s5, h => by
    obtain ⟨s4', s5', e⟩ := put_loop (G0 := G0) (G1 := G1) (G2 := G2) xs (pre ++ [x]) suf (.val (.int (pre.length : Nat))) (.val (.int x)) (by simpa using h)
    refine ⟨s4', s5', ?_⟩
    rw [List.map_cons, enumD]
    unfold forL
    walk_at "ev"
    rw [ix_nat (n := ((pre ++ y :: suf).map PyData.int).length) (i := pre.length) (by simp)]
    walk_at "ev"
    have q : ((pre ++ y :: suf).map PyData.int).set pre.length (.int x) = (pre ++ [x] ++ suf).map PyData.int := by
      rw [← List.map_set]
      simp
    rw [q]
    rw [List.length_append, List.length_singleton] at e
    rw [e]
    simp
end Lib
end
section
set_option Elab.async false
set_option linter.all false
set_option maxRecDepth 100000
set_option maxHeartbeats 4000000
set_option exponentiation.threshold 3000
namespace Lib
open PySem PySem.Spec PyProof.Rows L2 EV
local macro_rules | `(tactic| walk_at "ev") => `(tactic| try simp only [e_bodyM, e_seq, e_nil, e_if, e_set, e_ret, e_drop, e_par, e_asg, e_for, e_app, e_setix, e_aug, e_name, e_c, e_anil, e_acons, e_bin, e_cmp, e_brk, e_cnt, e_retn, e_ix, e_call, e_fn, e_fn0, e_fnD, e_ifx, e_oft, e_tru, e_not, e_and, e_or, e_andv, e_orv, e_notv, e_neg, e_isi, e_chain, e_lst, e_tup, e_it, e_rg1, e_rg2, e_zip, e_enum, e_revi, e_rev, e_o0, e_o1, e_sl, e_dict0, e_yes, e_comp, e_pop, e_asB, e_toDd, e_toDf, e_toDs, e_lkd, e_lkf, e_lks, e_lan, e_lac, e_tdn, e_tdc, e_tsn, e_tsd, e_tsf, e_tss, e_snd, e_snf, e_snn, e_snc, e_sod, e_sof, e_st, e_fln, e_keep, e_itl, e_itt, e_rr1, e_rr2, e_tupRg, e_lstRg, e_revR, e_popAt, e_ext, e_tupRev, e_repL, e_lenSet, e_enumA, e_zipA, e_zip3, d_addT, flat1,
  d_add, d_sub, d_lt, d_le, d_gt, d_ge, d_eq, d_ne, d_ixl, d_ixt, d_lenl, d_lent, d_inti, d_intb, d_abs, d_max2, d_min2, d_tupl, d_tupt, d_lsl, d_lst, d_rb, t_b, t_i, t_l, t_t, is_nb, is_bb, k_ii, k_ib, k_bi, k_bb, k_ni, k_si, k_ti, k_li, k_di, k_tt, isNone, isBl,
  Option.bind_some, Option.bind_none, Option.map_some, Option.map_none, List.append_nil, List.cons_append, List.nil_append, List.replicate, List.getElem?_cons_zero, List.getElem?_cons_succ, List.getElem?_nil, List.set_cons_zero, List.set_cons_succ, List.length_cons, List.length_nil, List.mapIdx_cons, List.mapIdx_nil, List.contains_nil, List.contains_cons, Bool.false_eq_true, if_true, if_false, reduceIte, Bool.not_true, Bool.not_false, Option.getD_some, Function.comp, List.map_cons, List.map_nil,
  Nat.reduceLT, Nat.reduceAdd, Nat.reduceBEq, Nat.reduceEqDiff, Nat.reduceLeDiff, Int.reduceLT, Int.reduceLE, decide_true, decide_false, beq_self_eq_true, Bool.or_false, Bool.or_true, Bool.true_or, Bool.false_or, Bool.and_true, Bool.true_and, Bool.and_false, Bool.false_and, and_self, Nat.zero_add])
/-- the second loop: the numbers of the other poly are added -/
theorem add_loop {p : Int} (hp : 0 < p) {G1 G2 : Sl} : ∀ (ys pre suf : List Int) (s4 s5 : Sl), ys.length ≤ suf.length → ∃ s4' s5', forL (setT [4, 5]) (sSetIx 3 (mBin dMod (mCall dInt (mCons (mBin dAdd (mIx (mName 3) (mName 4)) (mName 5)) mNil)) (mName 0)) (mName 4)) (enumD pre.length (ys.map PyData.int)) [.val (.int p), G1, G2, .own ((pre ++ suf).map PyData.int), s4, s5] = some (.nx, [.val (.int p), G1, G2, .own ((pre ++ List.zipWith (fun l y => (l + y) % p) (suf.take ys.length) ys ++ suf.drop ys.length).map PyData.int), s4', s5'])
  | [], pre, suf, s4, s5, _ => ⟨s4, s5, by rw [List.map_nil, enumD]; simp [forL]⟩
  | y :: ys, pre, [], s4, s5, h => by simp at h
  | y :: ys, pre, z :: suf, s4, s5, h => by
    obtain ⟨s4', s5', e⟩ := add_loop hp (G1 := G1) (G2 := G2) ys (pre ++ [(z + y) % p]) suf (.val (.int (pre.length : Nat))) (.val (.int y)) (by simpa using h)
    refine ⟨s4', s5', ?_⟩
    rw [List.map_cons, enumD]
    have la : atI ((pre ++ z :: suf).map PyData.int) ((pre.length : Nat) : Int) = some (.int z) := atI_nat (by simp)
    unfold forL
    walk_at "ev"
    rw [la]
    walk_at "ev"
    rw [d_mod _ _ hp]
    walk_at "ev"
    rw [ix_nat (n := ((pre ++ z :: suf).map PyData.int).length) (i := pre.length) (by simp)]
    walk_at "ev"
    have q : ((pre ++ z :: suf).map PyData.int).set pre.length (.int ((z + y) % p)) = (pre ++ [(z + y) % p] ++ suf).map PyData.int := by
      rw [← List.map_set]
      simp
    rw [q]
    rw [List.length_append, List.length_singleton] at e
    rw [e]
    simp
theorem sum_list {p : Int} {xs ys : List Int} (hp : 0 < p) (hx : InF p xs) : List.zipWith (fun l y => (l + y) % p) ((xs ++ List.replicate (max xs.length ys.length - xs.length) 0).take ys.length) ys ++ (xs ++ List.replicate (max xs.length ys.length - xs.length) 0).drop ys.length = addL p xs ys := by
  have hL : (xs ++ List.replicate (max xs.length ys.length - xs.length) (0 : Int)).length = max xs.length ys.length := by simp; omega
  apply List.ext_getElem?
  intro i
  unfold addL
  by_cases hi : i < max xs.length ys.length
  · rw [List.getElem?_map, List.getElem?_range hi]
    by_cases hy : i < ys.length
    · rw [List.getElem?_append_left (by rw [List.length_zipWith, List.length_take, hL]; omega), List.getElem?_zipWith, List.getElem?_take_of_lt hy, pad_get xs _ i (by omega), List.getElem?_eq_getElem hy]
      simp [hy]
    · rw [List.getElem?_append_right (by rw [List.length_zipWith, List.length_take, hL]; omega), List.length_zipWith, List.length_take, hL, List.getElem?_drop, show ys.length + (i - min (min ys.length (max xs.length ys.length)) ys.length) = i by omega, pad_get xs _ i (by omega)]
      have g := getD_in hp hx i
      have z : ys.getD i 0 = 0 := by rw [List.getD_eq_getElem?_getD, List.getElem?_eq_none (by omega)]; rfl
      show some (xs.getD i 0) = some ((xs.getD i 0 + ys.getD i 0) % p)
      rw [z, Int.add_zero, Int.emod_eq_of_lt g.1 g.2]
  · rw [List.getElem?_eq_none (by rw [List.length_append, List.length_zipWith, List.length_take, List.length_drop, hL]; omega), List.getElem?_eq_none (by simp; omega)]
theorem t_po_sum {p : Int} {xs ys : List Int} (hp : 5 ≤ p) (hx : InF p xs) (hl : xs.length ≤ 500) (hl2 : ys.length ≤ 500) : F__law_po_sum [.val (.int p), .val (.tuple (xs.map PyData.int)), .val (.tuple (ys.map PyData.int))] = some (.dat (.tuple ((trimL (addL p xs ys)).map PyData.int)), [.val (.int p), .val (.tuple (xs.map PyData.int)), .val (.tuple (ys.map PyData.int))]) := by
  have hm : (if ((ys.length : Nat) : Int) > ((xs.length : Nat) : Int) then ((ys.length : Nat) : Int) else ((xs.length : Nat) : Int)) = ((max xs.length ys.length : Nat) : Int) := by
    split <;> omega
  obtain ⟨a4, a5, e1⟩ := put_loop (G0 := .val (.int p)) (G1 := .val (.tuple (xs.map PyData.int))) (G2 := .val (.tuple (ys.map PyData.int))) xs [] (List.replicate (max xs.length ys.length) 0) .un .un (by rw [List.length_replicate]; omega)
  rw [List.nil_append, List.nil_append, List.drop_replicate, List.map_replicate, List.length_nil] at e1
  obtain ⟨b4, b5, e2⟩ := add_loop (p := p) (by omega) (G1 := .val (.tuple (xs.map PyData.int))) (G2 := .val (.tuple (ys.map PyData.int))) ys [] (xs ++ List.replicate (max xs.length ys.length - xs.length) 0) a4 a5 (by simp; omega)
  rw [List.nil_append, List.nil_append, sum_list (by omega) hx, List.length_nil] at e2
  have hs : (addL p xs ys).length ≤ 1000000 := by unfold addL; rw [List.length_map, List.length_range]; omega
  have ok : okRg ((max xs.length ys.length : Nat) : Int) = true := okRg' (by omega) (by omega)
  generalize hM : ((max xs.length ys.length : Nat) : Int) = M at hm ok
  have hM2 : M.toNat = max xs.length ys.length := by omega
  unfold F__law_po_sum m__law_po_sum
  walk_at "ev"
  rw [if_pos (show 1 ≤ sizeLine by decide)]
  walk_at "ev"
  rw [List.length_map, List.length_map, hm]
  walk_at "ev"
  rw [if_pos ⟨ok, by rw [hM2, Nat.one_mul]; unfold sizeLine; omega⟩]
  walk_at "ev"
  rw [hM2, e1]
  walk_at "ev"
  rw [e2]
  walk_at "ev"
  rw [t_po_trimL _ hs]
  walk_at "ev"
end Lib
end
section
set_option Elab.async false
set_option linter.all false
set_option maxRecDepth 100000
set_option maxHeartbeats 4000000
set_option exponentiation.threshold 3000
namespace Lib
open PySem PySem.Spec PyProof.Rows L2 EV
local macro_rules | `(tactic| walk_at "ev") => `(tactic| try simp only [e_bodyM, e_seq, e_nil, e_if, e_set, e_ret, e_drop, e_par, e_asg, e_for, e_app, e_setix, e_aug, e_name, e_c, e_anil, e_acons, e_bin, e_cmp, e_brk, e_cnt, e_retn, e_ix, e_call, e_fn, e_fn0, e_fnD, e_ifx, e_oft, e_tru, e_not, e_and, e_or, e_andv, e_orv, e_notv, e_neg, e_isi, e_chain, e_lst, e_tup, e_it, e_rg1, e_rg2, e_zip, e_enum, e_revi, e_rev, e_o0, e_o1, e_sl, e_dict0, e_yes, e_comp, e_pop, e_asB, e_toDd, e_toDf, e_toDs, e_lkd, e_lkf, e_lks, e_lan, e_lac, e_tdn, e_tdc, e_tsn, e_tsd, e_tsf, e_tss, e_snd, e_snf, e_snn, e_snc, e_sod, e_sof, e_st, e_fln, e_keep, e_itl, e_itt, e_rr1, e_rr2, e_tupRg, e_lstRg, e_revR, e_popAt, e_ext, e_tupRev, e_repL, e_lenSet, e_enumA, e_zipA, e_zip3, d_addT, flat1,
  d_add, d_sub, d_lt, d_le, d_gt, d_ge, d_eq, d_ne, d_ixl, d_ixt, d_lenl, d_lent, d_inti, d_intb, d_abs, d_max2, d_min2, d_tupl, d_tupt, d_lsl, d_lst, d_rb, t_b, t_i, t_l, t_t, is_nb, is_bb, k_ii, k_ib, k_bi, k_bb, k_ni, k_si, k_ti, k_li, k_di, k_tt, isNone, isBl,
  Option.bind_some, Option.bind_none, Option.map_some, Option.map_none, List.append_nil, List.cons_append, List.nil_append, List.replicate, List.getElem?_cons_zero, List.getElem?_cons_succ, List.getElem?_nil, List.set_cons_zero, List.set_cons_succ, List.length_cons, List.length_nil, List.mapIdx_cons, List.mapIdx_nil, List.contains_nil, List.contains_cons, Bool.false_eq_true, if_true, if_false, reduceIte, Bool.not_true, Bool.not_false, Option.getD_some, Function.comp, List.map_cons, List.map_nil,
  Nat.reduceLT, Nat.reduceAdd, Nat.reduceBEq, Nat.reduceEqDiff, Nat.reduceLeDiff, Int.reduceLT, Int.reduceLE, decide_true, decide_false, beq_self_eq_true, Bool.or_false, Bool.or_true, Bool.true_or, Bool.false_or, Bool.and_true, Bool.true_and, Bool.and_false, Bool.false_and, and_self, Nat.zero_add])
/-! ### products -/
theorem rgD_cons {a b : Int} (h : a < b) : rgD a b = .int a :: rgD (a + 1) b := by
  unfold rgD
  rw [show (b - a).toNat = (b - (a + 1)).toNat + 1 by omega, List.range_succ_eq_map, List.map_cons, List.map_map]
  congr 1
  · show PyData.int (a + ((0 : Nat) : Int)) = .int a
    congr 1
    omega
  · apply List.map_congr_left
    intro k _
    show PyData.int (a + ((k + 1 : Nat) : Int)) = .int (a + 1 + (k : Int))
    congr 1
    omega
theorem rgD_nil {a b : Int} (h : b ≤ a) : rgD a b = [] := by
  unfold rgD
  rw [show (b - a).toNat = 0 by omega]
  rfl
/-- a row times a number, put to a list from a place on -/
def putTo (p c : Int) (ys zs : List Int) : List Int := List.zipWith (fun z y => (z + c * y) % p) (zs.take ys.length) ys ++ zs.drop ys.length
theorem putTo_nil (p c : Int) (zs : List Int) : putTo p c [] zs = zs := by unfold putTo; simp
theorem putTo_cons (p c y z : Int) (ys zs : List Int) : putTo p c (y :: ys) (z :: zs) = (z + c * y) % p :: putTo p c ys zs := by unfold putTo; simp
theorem putTo_len {p c : Int} {ys zs : List Int} (h : ys.length ≤ zs.length) : (putTo p c ys zs).length = zs.length := by unfold putTo; simp; omega
theorem in_law {p c k : Int} (hp : 5 ≤ p) (hp2 : p ≤ 997) (hc : 0 ≤ c ∧ c < p) {G1 G2 : Sl} : ∀ (ys pre suf : List Int) (j : Nat) (s6 s7 : Sl), InF p ys → (pre.length : Int) = k + j → ys.length ≤ suf.length → ∃ s6' s7', forL (setT [6, 7]) (sSetIx 3 (mBin dMod (mCall dInt (mCons (mBin dAdd (mIx (mName 3) (mBin dAdd (mName 4) (mName 6))) (mBin dMul (mName 5) (mName 7))) mNil)) (mName 0)) (mBin dAdd (mName 4) (mName 6))) (enumD j (ys.map PyData.int)) [.val (.int p), G1, G2, .own ((pre ++ suf).map PyData.int), .val (.int k), .val (.int c), s6, s7] = some (.nx, [.val (.int p), G1, G2, .own ((pre ++ putTo p c ys suf).map PyData.int), .val (.int k), .val (.int c), s6', s7'])
  | [], pre, suf, j, s6, s7, _, _, _ => ⟨s6, s7, by rw [List.map_nil, enumD, putTo_nil]; simp [forL]⟩
  | y :: ys, pre, [], j, s6, s7, _, _, h => by simp at h
  | y :: ys, pre, z :: suf, j, s6, s7, hy, hk, h => by
    obtain ⟨s6', s7', e⟩ := in_law (k := k) hp hp2 hc (G1 := G1) (G2 := G2) ys (pre ++ [(z + c * y) % p]) suf (j + 1) (.val (.int (j : Nat))) (.val (.int y)) (fun v hv => hy v (List.mem_cons_of_mem _ hv)) (by rw [List.length_append, List.length_singleton]; omega) (by simpa using h)
    refine ⟨s6', s7', ?_⟩
    have hy0 := hy y List.mem_cons_self
    rw [List.map_cons, enumD]
    have la : atI ((pre ++ z :: suf).map PyData.int) (k + ((j : Nat) : Int)) = some (.int z) := by rw [← hk]; exact atI_nat (by simp)
    have li : ixN ((pre ++ z :: suf).map PyData.int).length (k + ((j : Nat) : Int)) = some pre.length := by rw [← hk]; exact ix_nat (by simp)
    have q : ((pre ++ z :: suf).map PyData.int).set pre.length (.int ((z + c * y) % p)) = (pre ++ [(z + c * y) % p] ++ suf).map PyData.int := by
      rw [← List.map_set]
      simp
    unfold forL
    walk_at "ev"
    rw [la]
    walk_at "ev"
    rw [d_mul _ _ (big hc.1 (by omega)) (big hy0.1 (by omega))]
    walk_at "ev"
    rw [d_mod _ _ (by omega)]
    walk_at "ev"
    rw [li]
    walk_at "ev"
    rw [q, e, putTo_cons]
    simp
theorem in_prog {p c k : Int} (hp : 5 ≤ p) (hp2 : p ≤ 997) (hc : 0 ≤ c ∧ c < p) {X Y : List Da} (hX : atI X k = some (.int c)) : ∀ (ys pre suf : List Int) (j : Nat) (s5 : Sl), InF p ys → (∀ i, i < ys.length → Y[j + i]? = (ys.map PyData.int)[i]?) → Y.length = j + ys.length → (pre.length : Int) = k + j → ys.length ≤ suf.length → ∃ s5', forL (setN 5) (sSetIx 3 (mBin dMod (mBin dAdd (mIx (mName 3) (mBin dAdd (mName 4) (mName 5))) (mBin dMul (mIx (mName 1) (mName 4)) (mIx (mName 2) (mName 5)))) (mName 0)) (mBin dAdd (mName 4) (mName 5))) (rgD ((j : Nat) : Int) ((Y.length : Nat) : Int)) [.val (.int p), .val (.tuple X), .val (.tuple Y), .own ((pre ++ suf).map PyData.int), .val (.int k), s5] = some (.nx, [.val (.int p), .val (.tuple X), .val (.tuple Y), .own ((pre ++ putTo p c ys suf).map PyData.int), .val (.int k), s5'])
  | [], pre, suf, j, s5, _, _, hl, _, _ => ⟨s5, by rw [rgD_nil (by rw [hl]; simp), putTo_nil]; rfl⟩
  | y :: ys, pre, [], j, s5, _, _, _, _, h => by simp at h
  | y :: ys, pre, z :: suf, j, s5, hy, hY, hl, hk, h => by
    obtain ⟨s5', e⟩ := in_prog (k := k) hp hp2 hc hX ys (pre ++ [(z + c * y) % p]) suf (j + 1) (.val (.int (j : Nat))) (fun v hv => hy v (List.mem_cons_of_mem _ hv)) (fun i hi => by
      have := hY (i + 1) (by rw [List.length_cons]; omega)
      rw [show j + (i + 1) = j + 1 + i by omega] at this
      rw [this]
      rfl) (by rw [hl, List.length_cons]; omega) (by rw [List.length_append, List.length_singleton]; omega) (by simpa using h)
    refine ⟨s5', ?_⟩
    have hy0 := hy y List.mem_cons_self
    have lY : atI Y ((j : Nat) : Int) = some (.int y) := atI_nat (by
      have := hY 0 (by simp)
      rw [Nat.add_zero] at this
      rw [this]
      rfl)
    have la : atI ((pre ++ z :: suf).map PyData.int) (k + ((j : Nat) : Int)) = some (.int z) := by rw [← hk]; exact atI_nat (by simp)
    have li : ixN ((pre ++ z :: suf).map PyData.int).length (k + ((j : Nat) : Int)) = some pre.length := by rw [← hk]; exact ix_nat (by simp)
    have q : ((pre ++ z :: suf).map PyData.int).set pre.length (.int ((z + c * y) % p)) = (pre ++ [(z + c * y) % p] ++ suf).map PyData.int := by
      rw [← List.map_set]
      simp
    rw [rgD_cons (by rw [hl, List.length_cons]; omega)]
    unfold forL
    walk_at "ev"
    rw [la]
    walk_at "ev"
    rw [hX]
    walk_at "ev"
    rw [lY]
    walk_at "ev"
    rw [d_mul _ _ (big hc.1 (by omega)) (big hy0.1 (by omega))]
    walk_at "ev"
    rw [d_mod _ _ (by omega)]
    walk_at "ev"
    rw [li]
    walk_at "ev"
    rw [q, show ((j : Nat) : Int) + 1 = ((j + 1 : Nat) : Int) by omega, e, putTo_cons]
    simp
/-- the product's numbers: each number of the one poly times the other poly, put to it from its place on -/
def mulGo (p : Int) (ys : List Int) : List Int → List Int → List Int
  | [], zs => zs
  | x :: xs, zs => match putTo p x ys zs with
    | [] => []
    | z :: r => z :: mulGo p ys xs r
theorem out_law {p : Int} (hp : 5 ≤ p) (hp2 : p ≤ 997) {ys : List Int} (hy : InF p ys) {G1 : Sl} : ∀ (xs pre suf : List Int) (s4 s5 s6 s7 : Sl), InF p xs → xs.length + ys.length ≤ suf.length → ∃ s4' s5' s6' s7', forL (setT [4, 5]) (sFor (mEnumA (mCons (mName 2) mNil)) (setT [6, 7]) (sSetIx 3 (mBin dMod (mCall dInt (mCons (mBin dAdd (mIx (mName 3) (mBin dAdd (mName 4) (mName 6))) (mBin dMul (mName 5) (mName 7))) mNil)) (mName 0)) (mBin dAdd (mName 4) (mName 6)))) (enumD pre.length (xs.map PyData.int)) [.val (.int p), G1, .val (.tuple (ys.map PyData.int)), .own ((pre ++ suf).map PyData.int), s4, s5, s6, s7] = some (.nx, [.val (.int p), G1, .val (.tuple (ys.map PyData.int)), .own ((pre ++ mulGo p ys xs suf).map PyData.int), s4', s5', s6', s7'])
  | [], pre, suf, s4, s5, s6, s7, _, _ => ⟨s4, s5, s6, s7, by rw [List.map_nil, enumD, mulGo]; rfl⟩
  | x :: xs, pre, suf, s4, s5, s6, s7, hx, h => by
    rw [List.length_cons] at h
    have hl : (putTo p x ys suf).length = suf.length := putTo_len (by omega)
    obtain ⟨a6, a7, e1⟩ := in_law (k := ((pre.length : Nat) : Int)) hp hp2 (hx x List.mem_cons_self) (G1 := G1) (G2 := .val (.tuple (ys.map PyData.int))) ys pre suf 0 s6 s7 hy (by omega) (by omega)
    cases hz : putTo p x ys suf with
    | nil => rw [hz] at hl; simp at hl; omega
    | cons z r =>
      rw [hz] at hl e1
      obtain ⟨b4, b5, b6, b7, e2⟩ := out_law hp hp2 hy (G1 := G1) xs (pre ++ [z]) r (.val (.int ((pre.length : Nat) : Int))) (.val (.int x)) a6 a7 (fun v hv => hx v (List.mem_cons_of_mem _ hv)) (by simp at hl; omega)
      refine ⟨b4, b5, b6, b7, ?_⟩
      rw [List.map_cons, enumD]
      unfold forL
      walk_at "ev"
      rw [e1]
      walk_at "ev"
      rw [List.length_append, List.length_singleton, List.append_assoc] at e2
      rw [mulGo, hz]
      rw [show pre ++ z :: r = pre ++ ([z] ++ r) from rfl, e2]
      simp
end Lib
end
section
set_option Elab.async false
set_option linter.all false
set_option maxRecDepth 100000
set_option maxHeartbeats 4000000
set_option exponentiation.threshold 3000
namespace Lib
open PySem PySem.Spec PyProof.Rows L2 EV
local macro_rules | `(tactic| walk_at "ev") => `(tactic| try simp only [e_bodyM, e_seq, e_nil, e_if, e_set, e_ret, e_drop, e_par, e_asg, e_for, e_app, e_setix, e_aug, e_name, e_c, e_anil, e_acons, e_bin, e_cmp, e_brk, e_cnt, e_retn, e_ix, e_call, e_fn, e_fn0, e_fnD, e_ifx, e_oft, e_tru, e_not, e_and, e_or, e_andv, e_orv, e_notv, e_neg, e_isi, e_chain, e_lst, e_tup, e_it, e_rg1, e_rg2, e_zip, e_enum, e_revi, e_rev, e_o0, e_o1, e_sl, e_dict0, e_yes, e_comp, e_pop, e_asB, e_toDd, e_toDf, e_toDs, e_lkd, e_lkf, e_lks, e_lan, e_lac, e_tdn, e_tdc, e_tsn, e_tsd, e_tsf, e_tss, e_snd, e_snf, e_snn, e_snc, e_sod, e_sof, e_st, e_fln, e_keep, e_itl, e_itt, e_rr1, e_rr2, e_tupRg, e_lstRg, e_revR, e_popAt, e_ext, e_tupRev, e_repL, e_lenSet, e_enumA, e_zipA, e_zip3, d_addT, flat1,
  d_add, d_sub, d_lt, d_le, d_gt, d_ge, d_eq, d_ne, d_ixl, d_ixt, d_lenl, d_lent, d_inti, d_intb, d_abs, d_max2, d_min2, d_tupl, d_tupt, d_lsl, d_lst, d_rb, t_b, t_i, t_l, t_t, is_nb, is_bb, k_ii, k_ib, k_bi, k_bb, k_ni, k_si, k_ti, k_li, k_di, k_tt, isNone, isBl,
  Option.bind_some, Option.bind_none, Option.map_some, Option.map_none, List.append_nil, List.cons_append, List.nil_append, List.replicate, List.getElem?_cons_zero, List.getElem?_cons_succ, List.getElem?_nil, List.set_cons_zero, List.set_cons_succ, List.length_cons, List.length_nil, List.mapIdx_cons, List.mapIdx_nil, List.contains_nil, List.contains_cons, Bool.false_eq_true, if_true, if_false, reduceIte, Bool.not_true, Bool.not_false, Option.getD_some, Function.comp, List.map_cons, List.map_nil,
  Nat.reduceLT, Nat.reduceAdd, Nat.reduceBEq, Nat.reduceEqDiff, Nat.reduceLeDiff, Int.reduceLT, Int.reduceLE, decide_true, decide_false, beq_self_eq_true, Bool.or_false, Bool.or_true, Bool.true_or, Bool.false_or, Bool.and_true, Bool.true_and, Bool.and_false, Bool.false_and, and_self, Nat.zero_add])
/-! ### numbers modulo p, and products of rows of numbers -/
def Cg (p a b : Int) : Prop := ∃ k, a = b + p * k
theorem cg_refl (p a : Int) : Cg p a a := ⟨0, by grind⟩
theorem cg_sym {p a b : Int} (h : Cg p a b) : Cg p b a := by
  obtain ⟨k, h⟩ := h
  exact ⟨-k, by grind⟩
theorem cg_tr {p a b c : Int} (h : Cg p a b) (h2 : Cg p b c) : Cg p a c := by
  obtain ⟨k, h⟩ := h
  obtain ⟨l, h2⟩ := h2
  exact ⟨k + l, by grind⟩
theorem cg_add {p a b c d : Int} (h : Cg p a b) (h2 : Cg p c d) : Cg p (a + c) (b + d) := by
  obtain ⟨k, h⟩ := h
  obtain ⟨l, h2⟩ := h2
  exact ⟨k + l, by grind⟩
theorem cg_mul {p a b c d : Int} (h : Cg p a b) (h2 : Cg p c d) : Cg p (a * c) (b * d) := by
  obtain ⟨k, h⟩ := h
  obtain ⟨l, h2⟩ := h2
  exact ⟨b * l + d * k + p * k * l, by grind⟩
theorem cg_mod (p a : Int) : Cg p (a % p) a := ⟨-(a / p), by have := Int.emod_add_mul_ediv a p; grind⟩
theorem cg_eq {p a b : Int} (h : Cg p a b) (a0 : 0 ≤ a) (a1 : a < p) (b0 : 0 ≤ b) (b1 : b < p) : a = b := by
  obtain ⟨k, h⟩ := h
  have e : a % p = b % p := by rw [h, Int.add_mul_emod_self_left]
  rwa [Int.emod_eq_of_lt a0 a1, Int.emod_eq_of_lt b0 b1] at e
theorem cg_emod {p a b : Int} (h : Cg p a b) : a % p = b % p := by
  obtain ⟨k, h⟩ := h
  rw [h, Int.add_mul_emod_self_left]
theorem cg_of_emod {p a b : Int} (h : a % p = b % p) : Cg p a b := cg_tr (cg_sym (cg_mod p a)) (by rw [h]; exact cg_mod p b)
def cvN (g : Nat → Int) : Nat → (Nat → Int) → Int
  | 0, f => f 0 * g 0
  | i + 1, f => f 0 * g (i + 1) + cvN g i (fun k => f (k + 1))
theorem cv_cg {p : Int} {g g' : Nat → Int} (hg : ∀ k, Cg p (g k) (g' k)) : ∀ (i : Nat) (f f' : Nat → Int), (∀ k, Cg p (f k) (f' k)) → Cg p (cvN g i f) (cvN g' i f')
  | 0, f, f', h => cg_mul (h 0) (hg 0)
  | i + 1, f, f', h => cg_add (cg_mul (h 0) (hg (i + 1))) (cv_cg hg i _ _ fun k => h (k + 1))
theorem cv_lin (g : Nat → Int) (c : Int) : ∀ (i : Nat) (f f' : Nat → Int), cvN g i (fun k => f k + c * f' k) = cvN g i f + c * cvN g i f'
  | 0, f, f' => by simp only [cvN]; grind
  | i + 1, f, f' => by
    have := cv_lin g c i (fun k => f (k + 1)) (fun k => f' (k + 1))
    simp only [cvN]
    rw [this]
    grind
theorem cv_zero (g : Nat → Int) : ∀ (i : Nat) (f : Nat → Int), (∀ k, f k = 0) → cvN g i f = 0
  | 0, f, h => by simp only [cvN]; rw [h 0, Int.zero_mul]
  | i + 1, f, h => by simp only [cvN]; rw [h 0, Int.zero_mul, cv_zero g i _ fun k => h (k + 1)]; rfl
theorem cv_one (g : Nat → Int) : ∀ (i n : Nat), cvN g i (fun k => if k = n then 1 else 0) = if n ≤ i then g (i - n) else 0
  | 0, n => by
    simp only [cvN]
    by_cases h : n = 0
    · subst h
      rw [if_pos rfl, if_pos (Nat.le_refl 0), Int.one_mul]
    · rw [if_neg (fun e => h e.symm), if_neg (by omega), Int.zero_mul]
  | i + 1, n => by
    simp only [cvN]
    cases n with
    | zero =>
      rw [cv_zero g i _ fun k => if_neg (by omega), if_pos rfl, if_pos (Nat.zero_le _), Int.one_mul, Int.add_zero]
      rfl
    | succ n =>
      have := cv_one g i n
      rw [if_neg (by omega), Int.zero_mul, Int.zero_add]
      rw [show (fun k => if k + 1 = n + 1 then (1 : Int) else 0) = fun k => if k = n then 1 else 0 by
        funext k
        by_cases h : k = n
        · rw [if_pos h, if_pos (by omega)]
        · rw [if_neg h, if_neg (by omega)], this]
      by_cases h : n ≤ i
      · rw [if_pos h, if_pos (by omega)]
        congr 1
        omega
      · rw [if_neg h, if_neg (by omega)]
/-- numbers behind both ends are 0; that at the end is the product of both last ones -/
theorem cv_top (g : Nat → Int) {b : Nat} (hg : ∀ k, b < k → g k = 0) : ∀ (a i : Nat) (f : Nat → Int), (∀ k, a < k → f k = 0) → a + b ≤ i → cvN g i f = if i = a + b then f a * g b else 0
  | 0, 0, f, hf, h => by
    have : b = 0 := by omega
    subst this
    rw [if_pos rfl]
    rfl
  | 0, i + 1, f, hf, h => by
    simp only [cvN]
    rw [cv_zero g i _ fun k => hf (k + 1) (by omega), Int.add_zero]
    by_cases e : i + 1 = 0 + b
    · rw [if_pos e, show b = i + 1 by omega]
    · rw [if_neg e, hg (i + 1) (by omega), Int.mul_zero]
  | a + 1, 0, f, hf, h => by omega
  | a + 1, i + 1, f, hf, h => by
    simp only [cvN]
    rw [hg (i + 1) (by omega), Int.mul_zero, Int.zero_add, cv_top g hg a i _ (fun k hk => hf (k + 1) (by omega)) (by omega)]
    by_cases e : i = a + b
    · rw [if_pos e, if_pos (by omega)]
    · rw [if_neg e, if_neg (by omega)]
/-- no numbers other than 0 make 0 -/
def NoZ (p : Int) : Prop := ∀ a b, Cg p (a * b) 0 → Cg p a 0 ∨ Cg p b 0
/-- a row times another one, whose last number is not 0, is no shorter than this, or 0 -/
theorem cv_down {p : Int} (np : NoZ p) {g : Nat → Int} {b : Nat} (hg : ∀ k, b < k → g k = 0) (hb : ¬ Cg p (g b) 0) {d : Nat → Int} (hd : ∀ i, b ≤ i → Cg p (cvN g i d) 0) : ∀ (m : Nat), (∀ k, m ≤ k → Cg p (d k) 0) → ∀ k, Cg p (d k) 0
  | 0, h, k => h k (Nat.zero_le k)
  | m + 1, h, k => by
    refine cv_down np hg hb hd m (fun j hj => ?_) k
    by_cases e : j = m
    · subst e
      have h1 := hd (j + b) (by omega)
      have h2 := cv_cg (p := p) (g := g) (g' := g) (fun k => cg_refl p _) (j + b) d (fun k => if k ≤ j then d k else 0) fun k => by
        by_cases hk : k ≤ j
        · rw [if_pos hk]
          exact cg_refl p _
        · rw [if_neg hk]
          exact h k (by omega)
      rw [cv_top g hg j (j + b) _ (fun k hk => if_neg (by omega)) (Nat.le_refl _), if_pos rfl, if_pos (Nat.le_refl _)] at h2
      exact (np _ _ (cg_tr (cg_sym h2) h1)).resolve_right hb
    · exact h j (by omega)
/-! ### rows of numbers as lists -/
def cf (xs : List Int) (i : Nat) : Int := xs.getD i 0
theorem cf_nil (i : Nat) : cf [] i = 0 := rfl
theorem cf_zero (x : Int) (xs : List Int) : cf (x :: xs) 0 = x := rfl
theorem cf_succ (x : Int) (xs : List Int) (i : Nat) : cf (x :: xs) (i + 1) = cf xs i := by unfold cf; simp
theorem cf_out {xs : List Int} {i : Nat} (h : xs.length ≤ i) : cf xs i = 0 := by
  unfold cf
  rw [List.getD_eq_getElem?_getD, List.getElem?_eq_none h]
  rfl
theorem cf_at {xs : List Int} {i : Nat} (h : i < xs.length) : cf xs i = xs[i] := by
  unfold cf
  rw [List.getD_eq_getElem?_getD, List.getElem?_eq_getElem h]
  rfl
theorem cf_app1 {xs ys : List Int} {i : Nat} (h : i < xs.length) : cf (xs ++ ys) i = cf xs i := by
  rw [cf_at h, cf_at (by rw [List.length_append]; omega), List.getElem_append_left]
theorem cf_app2 {xs ys : List Int} {i : Nat} (h : xs.length ≤ i) : cf (xs ++ ys) i = cf ys (i - xs.length) := by
  unfold cf
  rw [List.getD_eq_getElem?_getD, List.getElem?_append_right h, List.getD_eq_getElem?_getD]
theorem cf_repl (m i : Nat) : cf (List.replicate m 0) i = 0 := by
  unfold cf
  rw [List.getD_eq_getElem?_getD, List.getElem?_replicate]
  split <;> rfl
theorem cf_in {p : Int} {xs : List Int} (hp : 0 < p) (h : InF p xs) (i : Nat) : 0 ≤ cf xs i ∧ cf xs i < p := by
  by_cases hi : i < xs.length
  · rw [cf_at hi]
    exact h _ (List.getElem_mem hi)
  · rw [cf_out (by omega)]
    exact ⟨Int.le_refl 0, hp⟩
theorem cf_trimR : ∀ (rs : List Int) (i : Nat), cf (trimL rs.reverse) i = cf rs.reverse i
  | [], i => rfl
  | r :: rs, i => by
    rw [List.reverse_cons]
    by_cases e : r = 0
    · subst e
      rw [trimL_zero, cf_trimR rs i]
      by_cases hi : i < rs.reverse.length
      · rw [cf_app1 hi]
      · rw [cf_app2 (by omega), cf_out (by omega)]
        exact (cf_repl 1 _).symm
    · rw [trimL_last e]
theorem cf_trim (xs : List Int) (i : Nat) : cf (trimL xs) i = cf xs i := by
  have := cf_trimR xs.reverse i
  rwa [List.reverse_reverse] at this
/-- the last number is not 0 -/
def Sharp (xs : List Int) : Prop := xs = [] ∨ ∃ ys x, xs = ys ++ [x] ∧ x ≠ 0
theorem sharp_trim (xs : List Int) : Sharp (trimL xs) := by
  have := trim_end xs.reverse
  rwa [List.reverse_reverse] at this
theorem sharp_last {xs : List Int} (h : Sharp xs) (n : xs ≠ []) : cf xs (xs.length - 1) ≠ 0 := by
  rcases h with h | ⟨ys, x, rfl, hx⟩
  · exact absurd h n
  · rw [cf_app2 (by simp)]
    simpa [cf] using hx
theorem sharp_le {xs ys : List Int} (hx : Sharp xs) (h : ∀ i, cf xs i = cf ys i) : xs.length ≤ ys.length := by
  by_cases n : xs = []
  · rw [n]
    exact Nat.zero_le _
  · have := sharp_last hx n
    rw [h] at this
    by_cases l : xs.length ≤ ys.length
    · exact l
    · exact absurd (cf_out (by omega)) this
theorem sharp_eq {xs ys : List Int} (hx : Sharp xs) (hy : Sharp ys) (h : ∀ i, cf xs i = cf ys i) : xs = ys := by
  have l : xs.length = ys.length := Nat.le_antisymm (sharp_le hx h) (sharp_le hy fun i => (h i).symm)
  apply List.ext_getElem l
  intro i h1 h2
  rw [← cf_at h1, ← cf_at h2, h]
theorem sharp_short {xs : List Int} {n : Nat} (hx : Sharp xs) (h : ∀ i, n ≤ i → cf xs i = 0) : xs.length ≤ n := by
  by_cases e : xs = []
  · rw [e]
    exact Nat.zero_le _
  · have := sharp_last hx e
    by_cases l : xs.length ≤ n
    · exact l
    · exact absurd (h _ (by omega)) this
theorem cf_putTo (p c : Int) : ∀ (ys zs : List Int) (i : Nat), ys.length ≤ zs.length → Cg p (cf (putTo p c ys zs) i) (cf zs i + c * cf ys i)
  | [], zs, i, _ => by
    rw [putTo_nil, cf_nil, Int.mul_zero, Int.add_zero]
    exact cg_refl p _
  | y :: ys, [], i, h => by simp at h
  | y :: ys, z :: zs, 0, h => by
    rw [putTo_cons, cf_zero, cf_zero, cf_zero]
    exact cg_mod p _
  | y :: ys, z :: zs, i + 1, h => by
    rw [putTo_cons, cf_succ, cf_succ, cf_succ]
    exact cf_putTo p c ys zs i (by simpa using h)
theorem putTo_in {p c : Int} (hp : 0 < p) : ∀ (ys zs : List Int), ys.length ≤ zs.length → InF p zs → InF p (putTo p c ys zs)
  | [], zs, _, h => by rw [putTo_nil]; exact h
  | y :: ys, [], h, _ => by simp at h
  | y :: ys, z :: zs, h, hz => by
    rw [putTo_cons]
    intro v hv
    rcases List.mem_cons.mp hv with rfl | hv
    · exact ⟨Int.emod_nonneg _ (by omega), Int.emod_lt_of_pos _ hp⟩
    · exact putTo_in hp ys zs (by simpa using h) (fun u hu => hz u (List.mem_cons_of_mem _ hu)) v hv
theorem cf_mulGo {p : Int} (ys : List Int) : ∀ (xs zs : List Int) (i : Nat), xs.length + ys.length ≤ zs.length + 1 → 0 < ys.length → Cg p (cf (mulGo p ys xs zs) i) (cf zs i + cvN (cf ys) i (cf xs))
  | [], zs, i, h, hy => by
    rw [mulGo, cv_zero _ _ _ cf_nil, Int.add_zero]
    exact cg_refl p _
  | x :: xs, zs, i, h, hy => by
    rw [List.length_cons] at h
    have hl : (putTo p x ys zs).length = zs.length := putTo_len (by omega)
    have h0 := cf_putTo p x ys zs
    cases hz : putTo p x ys zs with
    | nil => rw [hz] at hl; simp at hl; omega
    | cons z r =>
      rw [hz] at hl h0
      rw [List.length_cons] at hl
      rw [mulGo, hz]
      cases i with
      | zero =>
        have := h0 0 (by omega)
        rw [cf_zero] at this
        rw [cf_zero]
        exact this
      | succ i =>
        have h1 := h0 (i + 1) (by omega)
        rw [cf_succ] at h1
        rw [cf_succ]
        have h2 := cf_mulGo (p := p) ys xs r i (by omega) hy
        refine cg_tr h2 (cg_tr (cg_add h1 (cg_refl p _)) ?_)
        rw [cvN, cf_zero, show (fun k => cf (x :: xs) (k + 1)) = cf xs from funext fun k => cf_succ x xs k, Int.add_assoc]
        exact cg_refl p _
theorem mulGo_len {p : Int} (ys : List Int) : ∀ (xs zs : List Int), xs.length + ys.length ≤ zs.length + 1 → 0 < ys.length → (mulGo p ys xs zs).length = zs.length
  | [], zs, h, hy => rfl
  | x :: xs, zs, h, hy => by
    rw [List.length_cons] at h
    have hl : (putTo p x ys zs).length = zs.length := putTo_len (by omega)
    cases hz : putTo p x ys zs with
    | nil => rw [hz] at hl; simp at hl; omega
    | cons z r =>
      rw [hz, List.length_cons] at hl
      rw [mulGo, hz]
      show (mulGo p ys xs r).length + 1 = _
      rw [mulGo_len ys xs r (by omega) hy, hl]
theorem mulGo_in {p : Int} (hp : 0 < p) (ys : List Int) : ∀ (xs zs : List Int), xs.length + ys.length ≤ zs.length + 1 → 0 < ys.length → InF p zs → InF p (mulGo p ys xs zs)
  | [], zs, h, hy, hz => hz
  | x :: xs, zs, h, hy, hz => by
    rw [List.length_cons] at h
    have hl : (putTo p x ys zs).length = zs.length := putTo_len (by omega)
    have hi := putTo_in (c := x) hp ys zs (by omega) hz
    cases hz : putTo p x ys zs with
    | nil => rw [hz] at hl; simp at hl; omega
    | cons z r =>
      rw [hz] at hi
      rw [hz, List.length_cons] at hl
      rw [mulGo, hz]
      intro v hv
      rcases List.mem_cons.mp hv with rfl | hv
      · exact hi _ List.mem_cons_self
      · exact mulGo_in hp ys xs r (by omega) hy (fun u hu => hi u (List.mem_cons_of_mem _ hu)) v hv
theorem in_repl {p : Int} (hp : 0 < p) (m : Nat) : InF p (List.replicate m 0) := fun x hx => by
  rw [(List.mem_replicate.mp hx).2]
  exact ⟨Int.le_refl 0, hp⟩
/-- the product of two rows of numbers -/
def mulL (p : Int) (xs ys : List Int) : List Int := if xs = [] ∨ ys = [] then [] else mulGo p ys xs (List.replicate (xs.length + ys.length - 1) 0)
theorem cf_mulL {p : Int} (xs ys : List Int) (i : Nat) : Cg p (cf (mulL p xs ys) i) (cvN (cf ys) i (cf xs)) := by
  unfold mulL
  split
  · rename_i h
    rw [cf_nil]
    rcases h with rfl | rfl
    · rw [cv_zero _ _ _ cf_nil]
      exact cg_refl p _
    · rw [show cvN (cf []) i (cf xs) = 0 by
        generalize cf xs = f
        revert f
        induction i with
        | zero => intro f; simp only [cvN, cf_nil, Int.mul_zero]
        | succ i ih => intro f; simp only [cvN, cf_nil, Int.mul_zero, ih, Int.add_zero]]
      exact cg_refl p _
  · rename_i h
    have hx : xs.length ≠ 0 := fun e => h (.inl (List.length_eq_zero_iff.mp e))
    have hy : ys.length ≠ 0 := fun e => h (.inr (List.length_eq_zero_iff.mp e))
    have := cf_mulGo (p := p) ys xs (List.replicate (xs.length + ys.length - 1) 0) i (by rw [List.length_replicate]; omega) (by omega)
    rwa [cf_repl, Int.zero_add] at this
theorem mulL_in {p : Int} (hp : 0 < p) (xs ys : List Int) : InF p (mulL p xs ys) := by
  unfold mulL
  split
  · intro x hx; cases hx
  · rename_i h
    have hx : xs.length ≠ 0 := fun e => h (.inl (List.length_eq_zero_iff.mp e))
    have hy : ys.length ≠ 0 := fun e => h (.inr (List.length_eq_zero_iff.mp e))
    exact mulGo_in hp ys xs _ (by rw [List.length_replicate]; omega) (by omega) (in_repl hp _)
theorem mulL_len {p : Int} {xs ys : List Int} (hx : xs ≠ []) (hy : ys ≠ []) : (mulL p xs ys).length = xs.length + ys.length - 1 := by
  have hx' : xs.length ≠ 0 := fun e => hx (List.length_eq_zero_iff.mp e)
  have hy' : ys.length ≠ 0 := fun e => hy (List.length_eq_zero_iff.mp e)
  unfold mulL
  rw [if_neg (by simp [hx, hy]), mulGo_len ys xs _ (by rw [List.length_replicate]; omega) (by omega), List.length_replicate]
theorem in_cg0 {p a : Int} (h : Cg p a 0) (a0 : 0 ≤ a) (a1 : a < p) : a = 0 := cg_eq h a0 a1 (Int.le_refl 0) (by omega)
/-- the product of polys is one: its last number is not 0 -/
theorem mulL_sharp {p : Int} (hp : 0 < p) (np : NoZ p) {xs ys : List Int} (hx : InF p xs) (hy : InF p ys) (sx : Sharp xs) (sy : Sharp ys) : Sharp (mulL p xs ys) := by
  by_cases ex : xs = []
  · left; unfold mulL; rw [if_pos (.inl ex)]
  by_cases ey : ys = []
  · left; unfold mulL; rw [if_pos (.inr ey)]
  have hx' : xs.length ≠ 0 := fun e => ex (List.length_eq_zero_iff.mp e)
  have hy' : ys.length ≠ 0 := fun e => ey (List.length_eq_zero_iff.mp e)
  have hl := mulL_len (p := p) ex ey
  have hne : mulL p xs ys ≠ [] := fun e => by rw [e] at hl; simp at hl; omega
  right
  refine ⟨(mulL p xs ys).dropLast, (mulL p xs ys).getLast hne, (List.dropLast_concat_getLast hne).symm, fun e => ?_⟩
  have h1 : cf (mulL p xs ys) (xs.length - 1 + (ys.length - 1)) = 0 := by
    rw [cf_at (by rw [hl]; omega), ← e, List.getLast_eq_getElem]
    congr 1
    rw [hl]
    omega
  have h2 := cf_mulL (p := p) xs ys (xs.length - 1 + (ys.length - 1))
  rw [h1, cv_top (cf ys) (b := ys.length - 1) (fun k hk => cf_out (by omega)) (xs.length - 1) _ _ (fun k hk => cf_out (by omega)) (Nat.le_refl _), if_pos rfl] at h2
  rcases np _ _ (cg_sym h2) with h3 | h3
  · exact sharp_last sx ex (in_cg0 h3 (cf_in hp hx _).1 (cf_in hp hx _).2)
  · exact sharp_last sy ey (in_cg0 h3 (cf_in hp hy _).1 (cf_in hp hy _).2)
/-- the law's product, from a longer row of zeros, trimmed -/
theorem law_mul {p : Int} (hp : 0 < p) {xs ys : List Int} : trimL (mulGo p ys xs (List.replicate (xs.length + ys.length) 0)) = trimL (mulL p xs ys) := by
  refine sharp_eq (sharp_trim _) (sharp_trim _) fun i => ?_
  rw [cf_trim, cf_trim]
  by_cases ex : xs = []
  · subst ex
    unfold mulL
    rw [if_pos (.inl rfl), mulGo, cf_repl, cf_nil]
  by_cases ey : ys = []
  · subst ey
    unfold mulL
    rw [if_pos (.inr rfl), cf_nil]
    have : ∀ (xs zs : List Int), mulGo p [] xs zs = zs := by
      intro xs
      induction xs with
      | nil => intro zs; rfl
      | cons x xs ih =>
        intro zs
        rw [mulGo, putTo_nil]
        cases zs with
        | nil => rfl
        | cons z r =>
          show z :: mulGo p [] xs r = z :: r
          rw [ih]
    rw [this, cf_repl]
  have hx' : xs.length ≠ 0 := fun e => ex (List.length_eq_zero_iff.mp e)
  have hy' : ys.length ≠ 0 := fun e => ey (List.length_eq_zero_iff.mp e)
  have h1 := cf_mulGo (p := p) ys xs (List.replicate (xs.length + ys.length) 0) i (by rw [List.length_replicate]; omega) (by omega)
  rw [cf_repl, Int.zero_add] at h1
  have h2 := cf_mulL (p := p) xs ys i
  have r1 := cf_in hp (mulGo_in hp ys xs (List.replicate (xs.length + ys.length) 0) (by rw [List.length_replicate]; omega) (by omega) (in_repl hp _)) i
  have r2 := cf_in hp (mulL_in hp xs ys) i
  exact cg_eq (cg_tr h1 (cg_sym h2)) r1.1 r1.2 r2.1 r2.2
theorem cf_addL {p : Int} {xs ys : List Int} (i : Nat) : Cg p (cf (addL p xs ys) i) (cf xs i + cf ys i) := by
  by_cases hi : i < max xs.length ys.length
  · unfold addL
    rw [cf_at (by simpa using hi), List.getElem_map, List.getElem_range]
    exact cg_mod p _
  · rw [cf_out (by unfold addL; simp; omega), cf_out (by omega), cf_out (by omega)]
    exact cg_refl p _
theorem addL_in' {p : Int} (hp : 0 < p) (xs ys : List Int) : InF p (addL p xs ys) := by
  intro x hx
  unfold addL at hx
  obtain ⟨i, _, rfl⟩ := List.mem_map.mp hx
  exact ⟨Int.emod_nonneg _ (by omega), Int.emod_lt_of_pos _ hp⟩
end Lib
end
section
set_option Elab.async false
set_option linter.all false
set_option maxRecDepth 100000
set_option maxHeartbeats 4000000
set_option exponentiation.threshold 3000
namespace Lib
open PySem PySem.Spec PyProof.Rows L2 EV
local macro_rules | `(tactic| walk_at "ev") => `(tactic| try simp only [e_bodyM, e_seq, e_nil, e_if, e_set, e_ret, e_drop, e_par, e_asg, e_for, e_app, e_setix, e_aug, e_name, e_c, e_anil, e_acons, e_bin, e_cmp, e_brk, e_cnt, e_retn, e_ix, e_call, e_fn, e_fn0, e_fnD, e_ifx, e_oft, e_tru, e_not, e_and, e_or, e_andv, e_orv, e_notv, e_neg, e_isi, e_chain, e_lst, e_tup, e_it, e_rg1, e_rg2, e_zip, e_enum, e_revi, e_rev, e_o0, e_o1, e_sl, e_dict0, e_yes, e_comp, e_pop, e_asB, e_toDd, e_toDf, e_toDs, e_lkd, e_lkf, e_lks, e_lan, e_lac, e_tdn, e_tdc, e_tsn, e_tsd, e_tsf, e_tss, e_snd, e_snf, e_snn, e_snc, e_sod, e_sof, e_st, e_fln, e_keep, e_itl, e_itt, e_rr1, e_rr2, e_tupRg, e_lstRg, e_revR, e_popAt, e_ext, e_tupRev, e_repL, e_lenSet, e_enumA, e_zipA, e_zip3, d_addT, flat1,
  d_add, d_sub, d_lt, d_le, d_gt, d_ge, d_eq, d_ne, d_ixl, d_ixt, d_lenl, d_lent, d_inti, d_intb, d_abs, d_max2, d_min2, d_tupl, d_tupt, d_lsl, d_lst, d_rb, t_b, t_i, t_l, t_t, is_nb, is_bb, k_ii, k_ib, k_bi, k_bb, k_ni, k_si, k_ti, k_li, k_di, k_tt, isNone, isBl,
  Option.bind_some, Option.bind_none, Option.map_some, Option.map_none, List.append_nil, List.cons_append, List.nil_append, List.replicate, List.getElem?_cons_zero, List.getElem?_cons_succ, List.getElem?_nil, List.set_cons_zero, List.set_cons_succ, List.length_cons, List.length_nil, List.mapIdx_cons, List.mapIdx_nil, List.contains_nil, List.contains_cons, Bool.false_eq_true, if_true, if_false, reduceIte, Bool.not_true, Bool.not_false, Option.getD_some, Function.comp, List.map_cons, List.map_nil,
  Nat.reduceLT, Nat.reduceAdd, Nat.reduceBEq, Nat.reduceEqDiff, Nat.reduceLeDiff, Int.reduceLT, Int.reduceLE, decide_true, decide_false, beq_self_eq_true, Bool.or_false, Bool.or_true, Bool.true_or, Bool.false_or, Bool.and_true, Bool.true_and, Bool.and_false, Bool.false_and, and_self, Nat.zero_add])
/-! ### division of rows of numbers -/
def divGo (p : Int) (ys : List Int) (lead : Int) : Nat → List Int → List Int → List Int × List Int
  | 0, Q, R => (Q, R)
  | k + 1, Q, R => divGo p ys lead k (Q.set k (cf R (k + ys.length - 1) * lead % p)) (R.take k ++ putTo p (-(cf R (k + ys.length - 1) * lead % p)) ys (R.drop k))
theorem cf_set {Q : List Int} {k : Nat} {f : Int} (h : k < Q.length) (j : Nat) : cf (Q.set k f) j = if j = k then f else cf Q j := by
  unfold cf
  rw [List.getD_eq_getElem?_getD, List.getElem?_set]
  by_cases e : k = j
  · subst e
    rw [if_pos rfl, if_pos rfl, if_pos h]
    rfl
  · rw [if_neg e, if_neg (fun h => e h.symm), List.getD_eq_getElem?_getD]
theorem in_set {p : Int} {Q : List Int} {k : Nat} {f : Int} (h : InF p Q) (f0 : 0 ≤ f) (f1 : f < p) : InF p (Q.set k f) := fun x hx => by
  rcases List.mem_or_eq_of_mem_set hx with h1 | rfl
  · exact h x h1
  · exact ⟨f0, f1⟩
theorem cf_step {p f : Int} {ys R : List Int} {k : Nat} (h : k + ys.length ≤ R.length) (i : Nat) : Cg p (cf (R.take k ++ putTo p (-f) ys (R.drop k)) i) (cf R i + (-f) * (if k ≤ i then cf ys (i - k) else 0)) := by
  have hk : (R.take k).length = k := by rw [List.length_take]; omega
  by_cases hi : k ≤ i
  · rw [if_pos hi, cf_app2 (by omega), hk]
    refine cg_tr (cf_putTo p (-f) ys (R.drop k) (i - k) (by rw [List.length_drop]; omega)) ?_
    rw [show cf (R.drop k) (i - k) = cf R i by
      unfold cf
      rw [List.getD_eq_getElem?_getD, List.getElem?_drop, show k + (i - k) = i by omega, List.getD_eq_getElem?_getD]]
    exact cg_refl p _
  · rw [if_neg hi, cf_app1 (by omega), Int.mul_zero, Int.add_zero]
    rw [show cf (R.take k) i = cf R i by
      unfold cf
      rw [List.getD_eq_getElem?_getD, List.getElem?_take_of_lt (by omega), List.getD_eq_getElem?_getD]]
    exact cg_refl p _
theorem in_step {p f : Int} (hp : 0 < p) {ys R : List Int} {k : Nat} (h : k + ys.length ≤ R.length) (hR : InF p R) : InF p (R.take k ++ putTo p f ys (R.drop k)) := fun x hx => by
  rcases List.mem_append.mp hx with h1 | h1
  · exact hR x (List.mem_of_mem_take h1)
  · exact putTo_in hp ys _ (by rw [List.length_drop]; omega) (fun u hu => hR u (List.mem_of_mem_drop hu)) x h1
theorem len_step {p f : Int} {ys R : List Int} {k : Nat} (h : k + ys.length ≤ R.length) : (R.take k ++ putTo p f ys (R.drop k)).length = R.length := by
  rw [List.length_append, putTo_len (by rw [List.length_drop]; omega), List.length_take, List.length_drop]
  omega
theorem div_inv {p lead : Int} (hp : 0 < p) {one : Nat → Int} {ys : List Int} (hy : 0 < ys.length) (hl : Cg p (lead * cf ys (ys.length - 1)) 1) : ∀ (k : Nat) (Q R : List Int), k + ys.length ≤ R.length + 1 → k ≤ Q.length → InF p Q → InF p R → (∀ j, j < k → cf Q j = 0) → (∀ i, k + ys.length - 1 ≤ i → cf R i = 0) → (∀ i, Cg p (one i) (cvN (cf ys) i (cf Q) + cf R i)) →
    InF p (divGo p ys lead k Q R).1 ∧ InF p (divGo p ys lead k Q R).2 ∧ (divGo p ys lead k Q R).1.length = Q.length ∧ (divGo p ys lead k Q R).2.length = R.length ∧ (∀ i, ys.length - 1 ≤ i → cf (divGo p ys lead k Q R).2 i = 0) ∧ ∀ i, Cg p (one i) (cvN (cf ys) i (cf (divGo p ys lead k Q R).1) + cf (divGo p ys lead k Q R).2 i)
  | 0, Q, R, h1, h2, hQ, hR, h3, h4, h5 => ⟨hQ, hR, rfl, rfl, fun i hi => h4 i (by omega), h5⟩
  | k + 1, Q, R, h1, h2, hQ, hR, h3, h4, h5 => by
    rw [divGo]
    generalize hf : cf R (k + ys.length - 1) * lead % p = f
    have f0 : 0 ≤ f := by rw [← hf]; exact Int.emod_nonneg _ (by omega)
    have f1 : f < p := by rw [← hf]; exact Int.emod_lt_of_pos _ hp
    have cs := cf_step (p := p) (f := f) (ys := ys) (R := R) (k := k) (by omega)
    have hR' := in_step (p := p) (f := -f) hp (ys := ys) (R := R) (k := k) (by omega) hR
    have lR := len_step (p := p) (f := -f) (ys := ys) (R := R) (k := k) (by omega)
    have := div_inv hp (one := one) hy hl k (Q.set k f) (R.take k ++ putTo p (-f) ys (R.drop k)) (by rw [lR]; omega) (by rw [List.length_set]; omega) (in_set hQ f0 f1) hR' (fun j hj => by
        rw [cf_set (by omega), if_neg (by omega)]
        exact h3 j (by omega)) (fun i hi => by
        have r := cf_in hp hR' i
        refine cg_eq (cg_tr (cs i) ?_) r.1 r.2 (Int.le_refl 0) hp
        rw [if_pos (by omega)]
        by_cases e : i = k + ys.length - 1
        · rw [e, show k + ys.length - 1 - k = ys.length - 1 by omega]
          have m1 : Cg p f (cf R (k + ys.length - 1) * lead) := by rw [← hf]; exact cg_mod p _
          generalize cf R (k + ys.length - 1) = r at m1
          generalize cf ys (ys.length - 1) = y at hl
          obtain ⟨a, m1⟩ := m1
          obtain ⟨b, hl⟩ := hl
          exact ⟨-(a * y) - r * b, by grind⟩
        · rw [h4 i (by omega), cf_out (by omega), Int.mul_zero]
          exact cg_refl p _) (fun i => by
        refine cg_tr (h5 i) (cg_sym (cg_tr (cg_add (cg_refl p _) (cs i)) ?_))
        rw [show cf (Q.set k f) = fun j => cf Q j + f * (if j = k then 1 else 0) from funext fun j => by
          rw [cf_set (by omega)]
          by_cases e : j = k
          · rw [if_pos e, if_pos e, e, h3 k (by omega)]
            omega
          · rw [if_neg e, if_neg e]
            omega]
        rw [cv_lin, cv_one]
        exact ⟨0, by grind⟩)
    rw [lR, List.length_set] at this
    exact this
/-- quotient and rest of rows of numbers -/
def quoL (p lead : Int) (xs ys : List Int) : List Int := (divGo p ys lead (xs.length + 1 - ys.length) (List.replicate (xs.length + 1 - ys.length) 0) xs).1
def resL (p lead : Int) (xs ys : List Int) : List Int := (divGo p ys lead (xs.length + 1 - ys.length) (List.replicate (xs.length + 1 - ys.length) 0) xs).2
theorem div_all {p lead : Int} (hp : 0 < p) {xs ys : List Int} (hx : InF p xs) (hy : 0 < ys.length) (hl : Cg p (lead * cf ys (ys.length - 1)) 1) : InF p (quoL p lead xs ys) ∧ InF p (resL p lead xs ys) ∧ (quoL p lead xs ys).length = xs.length + 1 - ys.length ∧ (resL p lead xs ys).length = xs.length ∧ (∀ i, ys.length - 1 ≤ i → cf (resL p lead xs ys) i = 0) ∧ ∀ i, Cg p (cf xs i) (cvN (cf ys) i (cf (quoL p lead xs ys)) + cf (resL p lead xs ys) i) := by
  by_cases h : xs.length + 1 ≤ ys.length
  · have e : xs.length + 1 - ys.length = 0 := by omega
    unfold quoL resL
    rw [e]
    refine ⟨(fun x hx => by cases hx), hx, rfl, rfl, fun i hi => cf_out (xs := xs) (by omega), fun i => ?_⟩
    show Cg p (cf xs i) (cvN (cf ys) i (cf []) + cf xs i)
    rw [cv_zero _ _ _ cf_nil, Int.zero_add]
    exact cg_refl p _
  · have := div_inv (lead := lead) hp (one := cf xs) hy hl (xs.length + 1 - ys.length) (List.replicate (xs.length + 1 - ys.length) 0) xs (by omega) (by rw [List.length_replicate]; exact Nat.le_refl _) (in_repl hp _) hx (fun j _ => cf_repl _ j) (fun i hi => cf_out (by omega)) (fun i => by
      rw [cv_zero _ _ _ (cf_repl _), Int.zero_add]
      exact cg_refl p _)
    rw [List.length_replicate] at this
    exact this
/-- the rest is shorter; quotient times poly and rest make the poly again -/
theorem div_rest {p lead : Int} (hp : 0 < p) {xs ys : List Int} (hx : InF p xs) (hy : 0 < ys.length) (hl : Cg p (lead * cf ys (ys.length - 1)) 1) : (trimL (resL p lead xs ys)).length < ys.length := by
  have := sharp_short (sharp_trim (resL p lead xs ys)) (n := ys.length - 1) fun i hi => by
    rw [cf_trim]
    exact (div_all hp hx hy hl).2.2.2.2.1 i hi
  omega
theorem div_back {p lead : Int} (hp : 0 < p) {xs ys : List Int} (hx : InF p xs) (sx : Sharp xs) (hy : 0 < ys.length) (hl : Cg p (lead * cf ys (ys.length - 1)) 1) : trimL (addL p (trimL (mulL p (trimL (quoL p lead xs ys)) ys)) (trimL (resL p lead xs ys))) = xs := by
  have d := div_all hp hx hy hl
  refine sharp_eq (sharp_trim _) sx fun i => ?_
  rw [cf_trim]
  have r1 := cf_in hp (addL_in' hp (trimL (mulL p (trimL (quoL p lead xs ys)) ys)) (trimL (resL p lead xs ys))) i
  have r2 := cf_in hp hx i
  refine cg_eq (cg_tr (cf_addL i) (cg_sym (cg_tr (d.2.2.2.2.2 i) ?_))) r1.1 r1.2 r2.1 r2.2
  rw [cf_trim, cf_trim]
  refine cg_add (cg_sym ?_) (cg_refl p _)
  refine cg_tr (cf_mulL _ _ i) ?_
  rw [show cf (trimL (quoL p lead xs ys)) = cf (quoL p lead xs ys) from funext fun j => cf_trim _ j]
  exact cg_refl p _
theorem div_exact {p lead : Int} (hp : 0 < p) (np : NoZ p) {zs xs ys : List Int} (hz : InF p zs) (hx : InF p xs) (sx : Sharp xs) (hy : 0 < ys.length) (hl : Cg p (lead * cf ys (ys.length - 1)) 1) (n0 : ¬ Cg p (cf ys (ys.length - 1)) 0) (e : ∀ i, Cg p (cf zs i) (cvN (cf ys) i (cf xs))) : trimL (quoL p lead zs ys) = xs ∧ trimL (resL p lead zs ys) = [] := by
  obtain ⟨d1, d2, d3, d4, d5, d6⟩ := div_all hp hz hy hl
  generalize hQ : quoL p lead zs ys = Q at *
  generalize hR : resL p lead zs ys = R at *
  have k : ∀ i, Cg p (cvN (cf ys) i (fun j => cf Q j + (-1) * cf xs j)) (-(cf R i)) := fun i => by
    rw [cv_lin]
    obtain ⟨a, h1⟩ := d6 i
    obtain ⟨b, h2⟩ := e i
    exact ⟨b - a, by grind⟩
  have z := cv_down np (g := cf ys) (b := ys.length - 1) (fun k hk => cf_out (by omega)) n0 (d := fun j => cf Q j + (-1) * cf xs j) (fun i hi => by
    have := k i
    rw [d5 i hi] at this
    exact this) (Q.length + xs.length) (fun j hj => by
      show Cg p (cf Q j + (-1) * cf xs j) 0
      rw [cf_out (by omega), cf_out (by omega)]
      exact cg_refl p _)
  have q : ∀ j, Cg p (cf Q j) (cf xs j) := fun j => by
    obtain ⟨a, h⟩ := z j
    exact ⟨a, by grind⟩
  constructor
  · refine sharp_eq (sharp_trim _) sx fun i => ?_
    rw [cf_trim]
    have r1 := cf_in hp d1 i
    have r2 := cf_in hp hx i
    exact cg_eq (q i) r1.1 r1.2 r2.1 r2.2
  · refine sharp_eq (sharp_trim _) (.inl rfl) fun i => ?_
    rw [cf_trim, cf_nil]
    have r := cf_in hp d2 i
    refine cg_eq ?_ r.1 r.2 (Int.le_refl 0) hp
    have h1 := k i
    have h2 := cv_cg (p := p) (g := cf ys) (g' := cf ys) (fun _ => cg_refl p _) i _ (fun _ => 0) z
    rw [cv_zero _ _ _ fun _ => rfl] at h2
    obtain ⟨a, h1⟩ := h1
    obtain ⟨b, h2⟩ := h2
    exact ⟨a - b, by grind⟩
/-! ### values of rows of numbers -/
def evZ (a : Int) : List Int → Int
  | [] => 0
  | x :: xs => evZ a xs * a + x
theorem ev_putTo (p c a : Int) : ∀ (ys zs : List Int), ys.length ≤ zs.length → Cg p (evZ a (putTo p c ys zs)) (evZ a zs + c * evZ a ys)
  | [], zs, _ => by rw [putTo_nil]; exact ⟨0, by simp only [evZ]; grind⟩
  | y :: ys, [], h => by simp at h
  | y :: ys, z :: zs, h => by
    rw [putTo_cons]
    simp only [evZ]
    obtain ⟨k, e⟩ := ev_putTo p c a ys zs (by simpa using h)
    obtain ⟨l, e2⟩ := cg_mod p (z + c * y)
    exact ⟨k * a + l, by grind⟩
theorem ev_mulGo (p a : Int) (ys : List Int) : ∀ (xs zs : List Int), xs.length + ys.length ≤ zs.length + 1 → 0 < ys.length → Cg p (evZ a (mulGo p ys xs zs)) (evZ a zs + evZ a xs * evZ a ys)
  | [], zs, _, _ => by rw [mulGo]; exact ⟨0, by simp only [evZ]; grind⟩
  | x :: xs, zs, h, hy => by
    rw [List.length_cons] at h
    have hl : (putTo p x ys zs).length = zs.length := putTo_len (by omega)
    have h0 := ev_putTo p x a ys zs (by omega)
    cases hz : putTo p x ys zs with
    | nil => rw [hz] at hl; simp at hl; omega
    | cons z r =>
      rw [hz] at hl h0
      rw [List.length_cons] at hl
      rw [mulGo, hz]
      obtain ⟨k, e⟩ := ev_mulGo p a ys xs r (by omega) hy
      simp only [evZ] at h0 ⊢
      obtain ⟨l, e2⟩ := h0
      exact ⟨k * a + l, by grind⟩
theorem ev_repl (a : Int) : ∀ m, evZ a (List.replicate m 0) = 0
  | 0 => rfl
  | m + 1 => by
    rw [List.replicate_succ]
    simp only [evZ]
    rw [ev_repl a m]
    omega
theorem ev_mulL (p a : Int) (xs ys : List Int) : Cg p (evZ a (mulL p xs ys)) (evZ a xs * evZ a ys) := by
  unfold mulL
  split
  · rename_i h
    rcases h with rfl | rfl
    · exact ⟨0, by simp only [evZ]; grind⟩
    · exact ⟨0, by simp only [evZ]; grind⟩
  · rename_i h
    have hx : xs.length ≠ 0 := fun e => h (.inl (List.length_eq_zero_iff.mp e))
    have hy : ys.length ≠ 0 := fun e => h (.inr (List.length_eq_zero_iff.mp e))
    have := ev_mulGo p a ys xs (List.replicate (xs.length + ys.length - 1) 0) (by rw [List.length_replicate]; omega) (by omega)
    rwa [ev_repl, Int.zero_add] at this
end Lib
end
section
set_option Elab.async false
set_option linter.all false
set_option maxRecDepth 100000
set_option maxHeartbeats 4000000
set_option exponentiation.threshold 3000
namespace Lib
open PySem PySem.Spec PyProof.Rows L2 EV
local macro_rules | `(tactic| walk_at "ev") => `(tactic| try simp only [e_bodyM, e_seq, e_nil, e_if, e_set, e_ret, e_drop, e_par, e_asg, e_for, e_app, e_setix, e_aug, e_name, e_c, e_anil, e_acons, e_bin, e_cmp, e_brk, e_cnt, e_retn, e_ix, e_call, e_fn, e_fn0, e_fnD, e_ifx, e_oft, e_tru, e_not, e_and, e_or, e_andv, e_orv, e_notv, e_neg, e_isi, e_chain, e_lst, e_tup, e_it, e_rg1, e_rg2, e_zip, e_enum, e_revi, e_rev, e_o0, e_o1, e_sl, e_dict0, e_yes, e_comp, e_pop, e_asB, e_toDd, e_toDf, e_toDs, e_lkd, e_lkf, e_lks, e_lan, e_lac, e_tdn, e_tdc, e_tsn, e_tsd, e_tsf, e_tss, e_snd, e_snf, e_snn, e_snc, e_sod, e_sof, e_st, e_fln, e_keep, e_itl, e_itt, e_rr1, e_rr2, e_tupRg, e_lstRg, e_revR, e_popAt, e_ext, e_tupRev, e_repL, e_lenSet, e_enumA, e_zipA, e_zip3, d_addT, flat1,
  d_add, d_sub, d_lt, d_le, d_gt, d_ge, d_eq, d_ne, d_ixl, d_ixt, d_lenl, d_lent, d_inti, d_intb, d_abs, d_max2, d_min2, d_tupl, d_tupt, d_lsl, d_lst, d_rb, t_b, t_i, t_l, t_t, is_nb, is_bb, k_ii, k_ib, k_bi, k_bb, k_ni, k_si, k_ti, k_li, k_di, k_tt, isNone, isBl,
  Option.bind_some, Option.bind_none, Option.map_some, Option.map_none, List.append_nil, List.cons_append, List.nil_append, List.replicate, List.getElem?_cons_zero, List.getElem?_cons_succ, List.getElem?_nil, List.set_cons_zero, List.set_cons_succ, List.length_cons, List.length_nil, List.mapIdx_cons, List.mapIdx_nil, List.contains_nil, List.contains_cons, Bool.false_eq_true, if_true, if_false, reduceIte, Bool.not_true, Bool.not_false, Option.getD_some, Function.comp, List.map_cons, List.map_nil,
  Nat.reduceLT, Nat.reduceAdd, Nat.reduceBEq, Nat.reduceEqDiff, Nat.reduceLeDiff, Int.reduceLT, Int.reduceLE, decide_true, decide_false, beq_self_eq_true, Bool.or_false, Bool.or_true, Bool.true_or, Bool.false_or, Bool.and_true, Bool.true_and, Bool.and_false, Bool.false_and, and_self, Nat.zero_add])
/-! ### the program's product -/
theorem rg1_of {fa : MA} {g g' : Gh} {n : Int} {ws : List Wv} (h : fa g = some (ws, g')) (h2 : lookAll ws g' = some [.int n]) (ok : okRg n = true) : mRg1 fa g = some (rgD 0 n, g') := by
  rw [e_rg1, h, Option.bind_some, h2, Option.bind_some]
  exact if_pos ok
theorem out_gen {p : Int} {B : MS} {S0 S1 S2 : Sl} {ys : List Int} (hB : ∀ (x : Int) (k : Nat) (pre suf : List Int) (s5 : Sl), 0 ≤ x ∧ x < p → pre.length = k → ys.length ≤ suf.length → (∃ i : Nat, i = k) → S1 = S1 → atI (match S1 with | .val (.tuple X) => X | _ => []) ((k : Nat) : Int) = some (.int x) → ∃ s5', B [S0, S1, S2, .own ((pre ++ suf).map PyData.int), .val (.int ((k : Nat) : Int)), s5] = some (.nx, [S0, S1, S2, .own ((pre ++ putTo p x ys suf).map PyData.int), .val (.int ((k : Nat) : Int)), s5'])) (hyl : 0 < ys.length) {X : List Da} (hS : S1 = .val (.tuple X)) : ∀ (xs pre suf : List Int) (s4 s5 : Sl), InF p xs → (∀ i, i < xs.length → X[pre.length + i]? = (xs.map PyData.int)[i]?) → X.length = pre.length + xs.length → xs.length + ys.length ≤ suf.length + 1 → ∃ s4' s5', forL (setN 4) B (rgD ((pre.length : Nat) : Int) ((X.length : Nat) : Int)) [S0, S1, S2, .own ((pre ++ suf).map PyData.int), s4, s5] = some (.nx, [S0, S1, S2, .own ((pre ++ mulGo p ys xs suf).map PyData.int), s4', s5'])
  | [], pre, suf, s4, s5, _, _, hl, _ => ⟨s4, s5, by rw [rgD_nil (by rw [hl]; simp), mulGo]; rfl⟩
  | x :: xs, pre, suf, s4, s5, hx, hX, hl, h => by
    rw [List.length_cons] at h hl
    have hp : (putTo p x ys suf).length = suf.length := putTo_len (by omega)
    have la : atI X ((pre.length : Nat) : Int) = some (.int x) := atI_nat (by
      have := hX 0 (by simp)
      rw [Nat.add_zero] at this
      rw [this]
      rfl)
    obtain ⟨a5, e1⟩ := hB x pre.length pre suf s5 (hx x List.mem_cons_self) rfl (by omega) ⟨_, rfl⟩ rfl (by rw [hS]; exact la)
    cases hz : putTo p x ys suf with
    | nil => rw [hz] at hp; simp at hp; omega
    | cons z r =>
      rw [hz] at hp e1
      obtain ⟨b4, b5, e2⟩ := out_gen hB hyl hS xs (pre ++ [z]) r (.val (.int ((pre.length : Nat) : Int))) a5 (fun v hv => hx v (List.mem_cons_of_mem _ hv)) (fun i hi => by
        have := hX (i + 1) (by rw [List.length_cons]; omega)
        rw [List.length_append, List.length_singleton, show pre.length + 1 + i = pre.length + (i + 1) by omega, this]
        rfl) (by rw [List.length_append, List.length_singleton]; omega) (by simp at hp; omega)
      refine ⟨b4, b5, ?_⟩
      rw [rgD_cons (by rw [hl]; omega)]
      unfold forL
      show (B [S0, S1, S2, .own ((pre ++ suf).map PyData.int), .val (.int ((pre.length : Nat) : Int)), s5]).bind _ = _
      rw [e1, Option.bind_some]
      rw [List.length_append, List.length_singleton, List.append_assoc] at e2
      rw [mulGo, hz]
      show forL (setN 4) B (rgD ((pre.length : Int) + 1) X.length) _ = _
      rw [show ((pre.length : Nat) : Int) + 1 = ((pre.length + 1 : Nat) : Int) by omega, show pre ++ z :: r = pre ++ ([z] ++ r) from rfl, e2]
      simp
def mulIn : MS := (sFor (mRg1 (mCons (mCall dLen (mCons (mName 2) mNil)) mNil)) (setN 5) (sSetIx 3 (mBin dMod (mBin dAdd (mIx (mName 3) (mBin dAdd (mName 4) (mName 5))) (mBin dMul (mIx (mName 1) (mName 4)) (mIx (mName 2) (mName 5)))) (mName 0)) (mBin dAdd (mName 4) (mName 5))))
def mulLoop : MS := (sFor (mRg1 (mCons (mCall dLen (mCons (mName 1) mNil)) mNil)) (setN 4) mulIn)
def mulInit : ME := (mRepL (mLst (mCons (mC (.int 0)) mNil)) (mBin dSub (mBin dAdd (mCall dLen (mCons (mName 1) mNil)) (mCall dLen (mCons (mName 2) mNil))) (mC (.int 1))))
theorem mul_cut : m_multiplied = (sSeq (sIf (mOr (mNot (mTru (mName 1))) (mNot (mTru (mName 2)))) (sRet [] (mTup mNil)) sNil)
    (sSeq (sSet 3 mulInit)
    (sSeq mulLoop
    (sRet [] (mCall dTuple (mCons (mName 3) mNil)))))) := rfl
theorem repL0 {h : ME} {g : Gh} {n : Int} (h1 : h g = some (.dat (.int n), g)) (ok : okRg n = true) (hl : n.toNat ≤ 1000000) : mRepL (mLst (mCons (mC (.int 0)) mNil)) h g = some (.fresh ((List.replicate n.toNat (0 : Int)).map PyData.int), g) := by
  rw [e_repL]
  walk_at "ev"
  rw [if_pos (show 1 ≤ sizeLine by decide)]
  walk_at "ev"
  rw [h1]
  walk_at "ev"
  rw [if_pos ⟨ok, by rw [Nat.one_mul]; unfold sizeLine; omega⟩]
  rw [List.map_replicate]
theorem mulInit_is {s0 s3 s4 s5 : Sl} {xs ys : List Int} (l1 : xs.length ≤ 400) (l2 : ys.length ≤ 400) : mulInit [s0, .val (.tuple (xs.map PyData.int)), .val (.tuple (ys.map PyData.int)), s3, s4, s5] = some (.fresh ((List.replicate (xs.length + ys.length - 1) (0 : Int)).map PyData.int), [s0, .val (.tuple (xs.map PyData.int)), .val (.tuple (ys.map PyData.int)), s3, s4, s5]) := by
  unfold mulInit
  rw [repL0 (n := ((xs.length : Nat) : Int) + ((ys.length : Nat) : Int) - 1) (by walk_at "ev"; rw [List.length_map, List.length_map]) (okRg' (by omega) (by omega)) (by omega)]
  rw [show (((xs.length : Nat) : Int) + ((ys.length : Nat) : Int) - 1).toNat = xs.length + ys.length - 1 by omega]
theorem mulIn_is {p : Int} (hp : 5 ≤ p) (hp2 : p ≤ 997) {X : List Da} {ys : List Int} (hy : InF p ys) (ly : ys.length ≤ 1000000) {x : Int} {k : Nat} {pre suf : List Int} {s5 : Sl} (hx : 0 ≤ x ∧ x < p) (hk : pre.length = k) (hl : ys.length ≤ suf.length) (hX : atI X ((k : Nat) : Int) = some (.int x)) : ∃ s5', mulIn [.val (.int p), .val (.tuple X), .val (.tuple (ys.map PyData.int)), .own ((pre ++ suf).map PyData.int), .val (.int ((k : Nat) : Int)), s5] = some (.nx, [.val (.int p), .val (.tuple X), .val (.tuple (ys.map PyData.int)), .own ((pre ++ putTo p x ys suf).map PyData.int), .val (.int ((k : Nat) : Int)), s5']) := by
  obtain ⟨s5', e⟩ := in_prog (k := ((k : Nat) : Int)) hp hp2 hx hX (Y := ys.map PyData.int) ys pre suf 0 s5 hy (fun i _ => by rw [Nat.zero_add]) (by simp) (by omega) hl
  refine ⟨s5', ?_⟩
  unfold mulIn
  rw [e_for, rg1_of (n := (((ys.map PyData.int).length : Nat) : Int)) (ws := [.dat (.int (((ys.map PyData.int).length : Nat) : Int))]) (g' := [.val (.int p), .val (.tuple X), .val (.tuple (ys.map PyData.int)), .own ((pre ++ suf).map PyData.int), .val (.int ((k : Nat) : Int)), s5]) rfl rfl (okRg' (by omega) (by rw [List.length_map]; omega)), Option.bind_some]
  exact e
theorem mulLoop_is {p : Int} (hp : 5 ≤ p) (hp2 : p ≤ 997) {xs ys suf : List Int} (hx : InF p xs) (hy : InF p ys) (lx : xs.length ≤ 1000000) (ly : ys.length ≤ 1000000) (hyl : 0 < ys.length) (hl : xs.length + ys.length ≤ suf.length + 1) {s4 s5 : Sl} : ∃ s4' s5', mulLoop [.val (.int p), .val (.tuple (xs.map PyData.int)), .val (.tuple (ys.map PyData.int)), .own (suf.map PyData.int), s4, s5] = some (.nx, [.val (.int p), .val (.tuple (xs.map PyData.int)), .val (.tuple (ys.map PyData.int)), .own ((mulGo p ys xs suf).map PyData.int), s4', s5']) := by
  obtain ⟨a4, a5, e⟩ := out_gen (p := p) (B := mulIn) (S0 := .val (.int p)) (S1 := .val (.tuple (xs.map PyData.int))) (S2 := .val (.tuple (ys.map PyData.int))) (ys := ys) (fun x k pre suf s5 h1 h2 h3 _ _ h4 => mulIn_is hp hp2 hy ly h1 h2 h3 h4) hyl rfl xs [] suf s4 s5 hx (fun i _ => by rw [List.length_nil, Nat.zero_add]) (by simp) hl
  refine ⟨a4, a5, ?_⟩
  unfold mulLoop
  rw [e_for, rg1_of (n := (((xs.map PyData.int).length : Nat) : Int)) (ws := [.dat (.int (((xs.map PyData.int).length : Nat) : Int))]) (g' := [.val (.int p), .val (.tuple (xs.map PyData.int)), .val (.tuple (ys.map PyData.int)), .own (suf.map PyData.int), s4, s5]) rfl rfl (okRg' (by omega) (by rw [List.length_map]; omega)), Option.bind_some]
  exact e
theorem mul_gen {I : ME} {L : MS} {p : Int} {X Y Z W : List Da} {a4 a5 : Sl} (tx : X.isEmpty = false) (ty : Y.isEmpty = false)
  (e0 : I [.val (.int p), .val (.tuple X), .val (.tuple Y), .un, .un, .un] = some (.fresh Z, [.val (.int p), .val (.tuple X), .val (.tuple Y), .un, .un, .un]))
  (e : L [.val (.int p), .val (.tuple X), .val (.tuple Y), .own Z, .un, .un] = some (.nx, [.val (.int p), .val (.tuple X), .val (.tuple Y), .own W, a4, a5])) :
  bodyM [] 3 (sSeq (sIf (mOr (mNot (mTru (mName 1))) (mNot (mTru (mName 2)))) (sRet [] (mTup mNil)) sNil)
    (sSeq (sSet 3 I)
    (sSeq L
    (sRet [] (mCall dTuple (mCons (mName 3) mNil)))))) [.val (.int p), .val (.tuple X), .val (.tuple Y)] = some (.dat (.tuple W), [.val (.int p), .val (.tuple X), .val (.tuple Y)]) := by
  walk_at "ev"
  rw [tx, ty]
  walk_at "ev"
  rw [e0]
  walk_at "ev"
  rw [e]
  walk_at "ev"
theorem t_multiplied {p : Int} (hp : 5 ≤ p) (hp2 : p ≤ 997) {xs ys : List Int} (hx : InF p xs) (hy : InF p ys) (lx : xs.length ≤ 400) (ly : ys.length ≤ 400) : F_multiplied [.val (.int p), .val (.tuple (xs.map PyData.int)), .val (.tuple (ys.map PyData.int))] = some (.dat (.tuple ((mulL p xs ys).map PyData.int)), [.val (.int p), .val (.tuple (xs.map PyData.int)), .val (.tuple (ys.map PyData.int))]) := by
  unfold F_multiplied
  rw [mul_cut]
  by_cases ex : xs = []
  · subst ex
    have e : mulL p [] ys = [] := by unfold mulL; rw [if_pos (.inl rfl)]
    rw [e]
    walk_at "ev"
    simp only [List.isEmpty_nil]
    walk_at "ev"
    rw [if_pos (show 0 ≤ sizeLine by decide)]
    walk_at "ev"
  by_cases ey : ys = []
  · subst ey
    have e : mulL p xs [] = [] := by unfold mulL; rw [if_pos (.inr rfl)]
    rw [e]
    have tx : (xs.map PyData.int).isEmpty = false := by cases xs with | nil => exact absurd rfl ex | cons x r => rfl
    walk_at "ev"
    rw [tx]
    simp only [List.isEmpty_nil]
    walk_at "ev"
    rw [if_pos (show 0 ≤ sizeLine by decide)]
    walk_at "ev"
  have hyl : 0 < ys.length := List.length_pos_iff.mpr ey
  have hxl : 0 < xs.length := List.length_pos_iff.mpr ex
  have tx : (xs.map PyData.int).isEmpty = false := by cases xs with | nil => exact absurd rfl ex | cons x r => rfl
  have ty : (ys.map PyData.int).isEmpty = false := by cases ys with | nil => exact absurd rfl ey | cons x r => rfl
  obtain ⟨a4, a5, e⟩ := mulLoop_is (suf := List.replicate (xs.length + ys.length - 1) 0) hp hp2 hx hy (by omega) (by omega) hyl (by rw [List.length_replicate]; omega) (s4 := .un) (s5 := .un)
  have e0 := mulInit_is (s0 := .val (.int p)) (s3 := .un) (s4 := .un) (s5 := .un) lx ly
  have e9 : mulL p xs ys = mulGo p ys xs (List.replicate (xs.length + ys.length - 1) 0) := by unfold mulL; rw [if_neg (by simp [ex, ey])]
  rw [e9]
  exact mul_gen tx ty e0 e
end Lib
end
section
set_option Elab.async false
set_option linter.all false
set_option maxRecDepth 100000
set_option maxHeartbeats 4000000
set_option exponentiation.threshold 3000
namespace Lib
open PySem PySem.Spec PyProof.Rows L2 EV
local macro_rules | `(tactic| walk_at "ev") => `(tactic| try simp only [e_bodyM, e_seq, e_nil, e_if, e_set, e_ret, e_drop, e_par, e_asg, e_for, e_app, e_setix, e_aug, e_name, e_c, e_anil, e_acons, e_bin, e_cmp, e_brk, e_cnt, e_retn, e_ix, e_call, e_fn, e_fn0, e_fnD, e_ifx, e_oft, e_tru, e_not, e_and, e_or, e_andv, e_orv, e_notv, e_neg, e_isi, e_chain, e_lst, e_tup, e_it, e_rg1, e_rg2, e_zip, e_enum, e_revi, e_rev, e_o0, e_o1, e_sl, e_dict0, e_yes, e_comp, e_pop, e_asB, e_toDd, e_toDf, e_toDs, e_lkd, e_lkf, e_lks, e_lan, e_lac, e_tdn, e_tdc, e_tsn, e_tsd, e_tsf, e_tss, e_snd, e_snf, e_snn, e_snc, e_sod, e_sof, e_st, e_fln, e_keep, e_itl, e_itt, e_rr1, e_rr2, e_tupRg, e_lstRg, e_revR, e_popAt, e_ext, e_tupRev, e_repL, e_lenSet, e_enumA, e_zipA, e_zip3, d_addT, flat1,
  d_add, d_sub, d_lt, d_le, d_gt, d_ge, d_eq, d_ne, d_ixl, d_ixt, d_lenl, d_lent, d_inti, d_intb, d_abs, d_max2, d_min2, d_tupl, d_tupt, d_lsl, d_lst, d_rb, t_b, t_i, t_l, t_t, is_nb, is_bb, k_ii, k_ib, k_bi, k_bb, k_ni, k_si, k_ti, k_li, k_di, k_tt, isNone, isBl,
  Option.bind_some, Option.bind_none, Option.map_some, Option.map_none, List.append_nil, List.cons_append, List.nil_append, List.replicate, List.getElem?_cons_zero, List.getElem?_cons_succ, List.getElem?_nil, List.set_cons_zero, List.set_cons_succ, List.length_cons, List.length_nil, List.mapIdx_cons, List.mapIdx_nil, List.contains_nil, List.contains_cons, Bool.false_eq_true, if_true, if_false, reduceIte, Bool.not_true, Bool.not_false, Option.getD_some, Function.comp, List.map_cons, List.map_nil,
  Nat.reduceLT, Nat.reduceAdd, Nat.reduceBEq, Nat.reduceEqDiff, Nat.reduceLeDiff, Int.reduceLT, Int.reduceLE, decide_true, decide_false, beq_self_eq_true, Bool.or_false, Bool.or_true, Bool.true_or, Bool.false_or, Bool.and_true, Bool.true_and, Bool.and_false, Bool.false_and, and_self, Nat.zero_add])
/-! ### calls of products and values -/
theorem t_poly_product {p : Int} {xs ys : List Int} (hf : isFld p = true) (hx : Poly p xs) (hy : Poly p ys) (hl : xs.length + ys.length ≤ 62) : F_poly_product [.val (.int p), .val (.tuple (xs.map PyData.int)), .val (.tuple (ys.map PyData.int))] = some (.dat (.tuple ((mulL p xs ys).map PyData.int)), [.val (.int p), .val (.tuple (xs.map PyData.int)), .val (.tuple (ys.map PyData.int))]) := by
  have hp := fld_pos hf
  have l1 := hx.2.1
  have l2 := hy.2.1
  unfold F_poly_product m_poly_product
  walk_at "ev"
  rw [t_check_field hf]
  walk_at "ev"
  rw [t_check_poly hf hx]
  walk_at "ev"
  rw [t_check_poly hf hy]
  walk_at "ev"
  rw [decide_eq_false (by rw [List.length_map, List.length_map]; omega)]
  walk_at "ev"
  rw [t_multiplied hp.1 hp.2 hx.1 hy.1 (by omega) (by omega)]
  walk_at "ev"
def timesLoop : MS := (sFor (mEnumA (mCons (mName 1) mNil)) (setT [4, 5]) (sFor (mEnumA (mCons (mName 2) mNil)) (setT [6, 7]) (sSetIx 3 (mBin dMod (mCall dInt (mCons (mBin dAdd (mIx (mName 3) (mBin dAdd (mName 4) (mName 6))) (mBin dMul (mName 5) (mName 7))) mNil)) (mName 0)) (mBin dAdd (mName 4) (mName 6)))))
def timesInit : ME := (mRepL (mLst (mCons (mC (.int 0)) mNil)) (mBin dAdd (mCall dLen (mCons (mName 1) mNil)) (mCall dLen (mCons (mName 2) mNil))))
theorem times_cut : m__law_po_times = (sSeq (sSet 3 timesInit) (sSeq timesLoop (sRet [] (mFn F__law_po_trim (mCons (mName 3) mNil))))) := rfl
theorem timesInit_is {s0 s3 s4 s5 s6 s7 : Sl} {xs ys : List Int} (l1 : xs.length ≤ 400) (l2 : ys.length ≤ 400) : timesInit [s0, .val (.tuple (xs.map PyData.int)), .val (.tuple (ys.map PyData.int)), s3, s4, s5, s6, s7] = some (.fresh ((List.replicate (xs.length + ys.length) (0 : Int)).map PyData.int), [s0, .val (.tuple (xs.map PyData.int)), .val (.tuple (ys.map PyData.int)), s3, s4, s5, s6, s7]) := by
  unfold timesInit
  rw [repL0 (n := ((xs.length : Nat) : Int) + ((ys.length : Nat) : Int)) (by walk_at "ev"; rw [List.length_map, List.length_map]) (okRg' (by omega) (by omega)) (by omega)]
  rw [show (((xs.length : Nat) : Int) + ((ys.length : Nat) : Int)).toNat = xs.length + ys.length by omega]
theorem timesLoop_is {p : Int} (hp : 5 ≤ p) (hp2 : p ≤ 997) {xs ys suf : List Int} (hx : InF p xs) (hy : InF p ys) (hl : xs.length + ys.length ≤ suf.length) : ∃ s4' s5' s6' s7', timesLoop [.val (.int p), .val (.tuple (xs.map PyData.int)), .val (.tuple (ys.map PyData.int)), .own (suf.map PyData.int), .un, .un, .un, .un] = some (.nx, [.val (.int p), .val (.tuple (xs.map PyData.int)), .val (.tuple (ys.map PyData.int)), .own ((mulGo p ys xs suf).map PyData.int), s4', s5', s6', s7']) := by
  obtain ⟨a4, a5, a6, a7, e⟩ := out_law hp hp2 hy (G1 := .val (.tuple (xs.map PyData.int))) xs [] suf .un .un .un .un hx hl
  refine ⟨a4, a5, a6, a7, ?_⟩
  unfold timesLoop
  rw [e_for]
  exact e
theorem times_gen {I : ME} {L : MS} {p : Int} {X Y : List Da} {W Z : List Int} {a4 a5 a6 a7 : Sl} (hW : W.length ≤ 1000000)
  (e0 : I [.val (.int p), .val (.tuple X), .val (.tuple Y), .un, .un, .un, .un, .un] = some (.fresh (Z.map PyData.int), [.val (.int p), .val (.tuple X), .val (.tuple Y), .un, .un, .un, .un, .un]))
  (e : L [.val (.int p), .val (.tuple X), .val (.tuple Y), .own (Z.map PyData.int), .un, .un, .un, .un] = some (.nx, [.val (.int p), .val (.tuple X), .val (.tuple Y), .own (W.map PyData.int), a4, a5, a6, a7])) :
  bodyM [] 5 (sSeq (sSet 3 I) (sSeq L (sRet [] (mFn F__law_po_trim (mCons (mName 3) mNil))))) [.val (.int p), .val (.tuple X), .val (.tuple Y)] = some (.dat (.tuple ((trimL W).map PyData.int)), [.val (.int p), .val (.tuple X), .val (.tuple Y)]) := by
  walk_at "ev"
  rw [e0]
  walk_at "ev"
  rw [e]
  walk_at "ev"
  rw [t_po_trimL W hW]
  walk_at "ev"
theorem t_po_times {p : Int} (hp : 5 ≤ p) (hp2 : p ≤ 997) {xs ys : List Int} (hx : InF p xs) (hy : InF p ys) (lx : xs.length ≤ 400) (ly : ys.length ≤ 400) : F__law_po_times [.val (.int p), .val (.tuple (xs.map PyData.int)), .val (.tuple (ys.map PyData.int))] = some (.dat (.tuple ((trimL (mulL p xs ys)).map PyData.int)), [.val (.int p), .val (.tuple (xs.map PyData.int)), .val (.tuple (ys.map PyData.int))]) := by
  obtain ⟨a4, a5, a6, a7, e⟩ := timesLoop_is (suf := List.replicate (xs.length + ys.length) 0) hp hp2 hx hy (by rw [List.length_replicate]; omega)
  have e0 := timesInit_is (s0 := .val (.int p)) (s3 := .un) (s4 := .un) (s5 := .un) (s6 := .un) (s7 := .un) lx ly
  have hl : (mulGo p ys xs (List.replicate (xs.length + ys.length) 0)).length ≤ 1000000 := by
    have : ∀ (xs zs : List Int), xs.length + ys.length ≤ zs.length → (mulGo p ys xs zs).length ≤ zs.length := by
      intro xs
      induction xs with
      | nil => intro zs _; exact Nat.le_refl _
      | cons x xs ih =>
        intro zs h
        rw [List.length_cons] at h
        have hl : (putTo p x ys zs).length = zs.length := putTo_len (by omega)
        rw [mulGo]
        cases hz : putTo p x ys zs with
        | nil => exact Nat.zero_le _
        | cons z r =>
          rw [hz, List.length_cons] at hl
          have := ih r (by omega)
          show (mulGo p ys xs r).length + 1 ≤ _
          omega
    have := this xs (List.replicate (xs.length + ys.length) 0) (by rw [List.length_replicate]; omega)
    rw [List.length_replicate] at this
    omega
  unfold F__law_po_times
  rw [times_cut, ← law_mul (by omega)]
  exact times_gen hl e0 e
/-! values -/
theorem horner {p a : Int} (hp : 5 ≤ p) (hp2 : p ≤ 997) (ha : 0 ≤ a) (ha2 : a < p) {S1 : Sl} : ∀ (rs : List Int) (v : Int) (s : Sl), InF p rs → 0 ≤ v → v < p → ∃ s' w, 0 ≤ w ∧ w < p ∧ Cg p w (v * a ^ rs.length + evZ a rs.reverse) ∧ forL (setN 4) (sSet 3 (mBin dMod (mBin dAdd (mBin dMul (mName 3) (mName 2)) (mName 4)) (mName 0))) (rs.map PyData.int) [.val (.int p), S1, .val (.int a), .val (.int v), s] = some (.nx, [.val (.int p), S1, .val (.int a), .val (.int w), s'])
  | [], v, s, _, h0, h1 => ⟨s, v, h0, h1, ⟨0, by simp [evZ]⟩, rfl⟩
  | r :: rs, v, s, hr, h0, h1 => by
    have hr0 := hr r List.mem_cons_self
    have k0 := Int.emod_nonneg (v * a + r) (show p ≠ 0 by omega)
    have k1 := Int.emod_lt_of_pos (v * a + r) (show 0 < p by omega)
    obtain ⟨s', w, w0, w1, w2, e⟩ := horner hp hp2 ha ha2 (S1 := S1) rs ((v * a + r) % p) (.val (.int r)) (fun x hx => hr x (List.mem_cons_of_mem _ hx)) k0 k1
    have ap : ∀ (ls : List Int) (x : Int), evZ a (ls ++ [x]) = evZ a ls + x * a ^ ls.length := by
      intro ls x
      induction ls with
      | nil => simp [evZ]
      | cons l ls ih =>
        show evZ a (ls ++ [x]) * a + l = (evZ a ls * a + l) + x * a ^ (ls.length + 1)
        rw [ih, Int.pow_succ]
        grind
    refine ⟨s', w, w0, w1, ?_, ?_⟩
    · rw [List.reverse_cons, ap, List.length_cons, List.length_reverse]
      refine cg_tr w2 ?_
      obtain ⟨k, hk⟩ := cg_mod p (v * a + r)
      rw [hk, Int.pow_succ]
      exact ⟨k * a ^ rs.length, by grind⟩
    · rw [List.map_cons]
      unfold forL
      walk_at "ev"
      rw [d_mul _ _ (big h0 (by omega)) (big ha (by omega))]
      walk_at "ev"
      rw [d_mod _ _ (by omega)]
      walk_at "ev"
      rw [e]
theorem evZ_mod {p a w : Int} {xs : List Int} (h : Cg p w (0 * a ^ xs.reverse.length + evZ a xs.reverse.reverse)) (w0 : 0 ≤ w) (w1 : w < p) : w = evZ a xs % p := by
  rw [Int.zero_mul, Int.zero_add, List.reverse_reverse] at h
  have := cg_emod h
  rwa [Int.emod_eq_of_lt w0 w1] at this
theorem t_evaluated {p a : Int} (hp : 5 ≤ p) (hp2 : p ≤ 997) (ha : 0 ≤ a) (ha2 : a < p) {xs : List Int} (hx : InF p xs) : F_evaluated [.val (.int p), .val (.tuple (xs.map PyData.int)), .val (.int a)] = some (.dat (.int (evZ a xs % p)), [.val (.int p), .val (.tuple (xs.map PyData.int)), .val (.int a)]) := by
  obtain ⟨s', w, w0, w1, w2, e⟩ := horner hp hp2 ha ha2 (S1 := .val (.tuple (xs.map PyData.int))) xs.reverse 0 .un (fun x hx' => hx x (List.mem_reverse.mp hx')) (Int.le_refl 0) (by omega)
  have hw := evZ_mod w2 w0 w1
  subst hw
  rw [List.map_reverse] at e
  unfold F_evaluated m_evaluated
  walk_at "ev"
  rw [e]
  walk_at "ev"
theorem t_value_at {p a : Int} {xs : List Int} (hf : isFld p = true) (hx : Poly p xs) (ha : 0 ≤ a) (ha2 : a < p) : F_value_at [.val (.int p), .val (.tuple (xs.map PyData.int)), .val (.int a)] = some (.dat (.int (evZ a xs % p)), [.val (.int p), .val (.tuple (xs.map PyData.int)), .val (.int a)]) := by
  have hp := fld_pos hf
  unfold F_value_at m_value_at
  walk_at "ev"
  rw [t_check_field hf]
  walk_at "ev"
  rw [t_check_poly hf hx]
  walk_at "ev"
  rw [t_check_number ha ha2]
  walk_at "ev"
  rw [t_evaluated hp.1 hp.2 ha ha2 hx.1]
  walk_at "ev"
theorem law_val {p a : Int} (hp : 5 ≤ p) (hp2 : p ≤ 997) (ha : 0 ≤ a) (ha2 : a < p) {S1 : Sl} : ∀ (xs : List Int) (v w : Int) (s : Sl), InF p xs → 0 ≤ v → v < p → 0 ≤ w → w < p → ∃ s' v' w', 0 ≤ v' ∧ v' < p ∧ Cg p v' (v + w * evZ a xs) ∧ forL (setN 5) (sPar [3, 4] (mCons (mBin dMod (mCall dInt (mCons (mBin dAdd (mName 3) (mBin dMul (mName 5) (mName 4))) mNil)) (mName 0)) (mCons (mBin dMod (mCall dInt (mCons (mBin dMul (mName 4) (mName 2)) mNil)) (mName 0)) mNil))) (xs.map PyData.int) [.val (.int p), S1, .val (.int a), .val (.int v), .val (.int w), s] = some (.nx, [.val (.int p), S1, .val (.int a), .val (.int v'), .val (.int w'), s'])
  | [], v, w, s, _, h0, h1, _, _ => ⟨s, v, w, h0, h1, ⟨0, by simp [evZ]⟩, rfl⟩
  | x :: xs, v, w, s, hx, h0, h1, w0, w1 => by
    have hx0 := hx x List.mem_cons_self
    obtain ⟨s', v', w', k0, k1, k2, e⟩ := law_val hp hp2 ha ha2 (S1 := S1) xs ((v + x * w) % p) (w * a % p) (.val (.int x)) (fun y hy => hx y (List.mem_cons_of_mem _ hy)) (Int.emod_nonneg _ (by omega)) (Int.emod_lt_of_pos _ (by omega)) (Int.emod_nonneg _ (by omega)) (Int.emod_lt_of_pos _ (by omega))
    refine ⟨s', v', w', k0, k1, ?_, ?_⟩
    · refine cg_tr k2 ?_
      obtain ⟨k, hk⟩ := cg_mod p (v + x * w)
      obtain ⟨l, hl⟩ := cg_mod p (w * a)
      rw [hk, hl]
      simp only [evZ]
      exact ⟨k + l * evZ a xs, by grind⟩
    · rw [List.map_cons]
      unfold forL
      walk_at "ev"
      rw [d_mul _ _ (big hx0.1 (by omega)) (big w0 (by omega))]
      walk_at "ev"
      rw [d_mod _ _ (by omega)]
      walk_at "ev"
      rw [d_mul _ _ (big w0 (by omega)) (big ha (by omega))]
      walk_at "ev"
      rw [d_mod _ _ (by omega)]
      walk_at "ev"
      rw [e]
theorem t_po_value {p a : Int} (hp : 5 ≤ p) (hp2 : p ≤ 997) (ha : 0 ≤ a) (ha2 : a < p) {xs : List Int} (hx : InF p xs) : F__law_po_value [.val (.int p), .val (.tuple (xs.map PyData.int)), .val (.int a)] = some (.dat (.int (evZ a xs % p)), [.val (.int p), .val (.tuple (xs.map PyData.int)), .val (.int a)]) := by
  obtain ⟨s', v, w, v0, v1, v2, e⟩ := law_val hp hp2 ha ha2 (S1 := .val (.tuple (xs.map PyData.int))) xs 0 1 .un hx (Int.le_refl 0) (by omega) (by omega) (by omega)
  have hw : v = evZ a xs % p := by
    rw [Int.zero_add, Int.one_mul] at v2
    have := cg_emod v2
    rwa [Int.emod_eq_of_lt v0 v1] at this
  subst hw
  unfold F__law_po_value m__law_po_value
  walk_at "ev"
  rw [e]
  walk_at "ev"
end Lib
end
section
set_option Elab.async false
set_option linter.all false
set_option maxRecDepth 100000
set_option maxHeartbeats 4000000
set_option exponentiation.threshold 3000
namespace Lib
open PySem PySem.Spec PyProof.Rows L2 EV
local macro_rules | `(tactic| walk_at "ev") => `(tactic| try simp only [e_bodyM, e_seq, e_nil, e_if, e_set, e_ret, e_drop, e_par, e_asg, e_for, e_app, e_setix, e_aug, e_name, e_c, e_anil, e_acons, e_bin, e_cmp, e_brk, e_cnt, e_retn, e_ix, e_call, e_fn, e_fn0, e_fnD, e_ifx, e_oft, e_tru, e_not, e_and, e_or, e_andv, e_orv, e_notv, e_neg, e_isi, e_chain, e_lst, e_tup, e_it, e_rg1, e_rg2, e_zip, e_enum, e_revi, e_rev, e_o0, e_o1, e_sl, e_dict0, e_yes, e_comp, e_pop, e_asB, e_toDd, e_toDf, e_toDs, e_lkd, e_lkf, e_lks, e_lan, e_lac, e_tdn, e_tdc, e_tsn, e_tsd, e_tsf, e_tss, e_snd, e_snf, e_snn, e_snc, e_sod, e_sof, e_st, e_fln, e_keep, e_itl, e_itt, e_rr1, e_rr2, e_tupRg, e_lstRg, e_revR, e_popAt, e_ext, e_tupRev, e_repL, e_lenSet, e_enumA, e_zipA, e_zip3, d_addT, flat1,
  d_add, d_sub, d_lt, d_le, d_gt, d_ge, d_eq, d_ne, d_ixl, d_ixt, d_lenl, d_lent, d_inti, d_intb, d_abs, d_max2, d_min2, d_tupl, d_tupt, d_lsl, d_lst, d_rb, t_b, t_i, t_l, t_t, is_nb, is_bb, k_ii, k_ib, k_bi, k_bb, k_ni, k_si, k_ti, k_li, k_di, k_tt, isNone, isBl,
  Option.bind_some, Option.bind_none, Option.map_some, Option.map_none, List.append_nil, List.cons_append, List.nil_append, List.replicate, List.getElem?_cons_zero, List.getElem?_cons_succ, List.getElem?_nil, List.set_cons_zero, List.set_cons_succ, List.length_cons, List.length_nil, List.mapIdx_cons, List.mapIdx_nil, List.contains_nil, List.contains_cons, Bool.false_eq_true, if_true, if_false, reduceIte, Bool.not_true, Bool.not_false, Option.getD_some, Function.comp, List.map_cons, List.map_nil,
  Nat.reduceLT, Nat.reduceAdd, Nat.reduceBEq, Nat.reduceEqDiff, Nat.reduceLeDiff, Int.reduceLT, Int.reduceLE, decide_true, decide_false, beq_self_eq_true, Bool.or_false, Bool.or_true, Bool.true_or, Bool.false_or, Bool.and_true, Bool.true_and, Bool.and_false, Bool.false_and, and_self, Nat.zero_add])
/-! ### the program's division -/
theorem div_in {p f k : Int} (hp : 5 ≤ p) (hp2 : p ≤ 997) (hf : 0 ≤ f ∧ f < p) {S1 S4 S5 : Sl} {Y : List Da} : ∀ (ys pre suf : List Int) (j : Nat) (s8 : Sl), InF p ys → (∀ i, i < ys.length → Y[j + i]? = (ys.map PyData.int)[i]?) → Y.length = j + ys.length → (pre.length : Int) = k + j → ys.length ≤ suf.length → ∃ s8', forL (setN 8) (sSetIx 3 (mBin dMod (mBin dSub (mIx (mName 3) (mBin dAdd (mName 6) (mName 8))) (mBin dMul (mName 7) (mIx (mName 2) (mName 8)))) (mName 0)) (mBin dAdd (mName 6) (mName 8))) (rgD ((j : Nat) : Int) ((Y.length : Nat) : Int)) [.val (.int p), S1, .val (.tuple Y), .own ((pre ++ suf).map PyData.int), S4, S5, .val (.int k), .val (.int f), s8] = some (.nx, [.val (.int p), S1, .val (.tuple Y), .own ((pre ++ putTo p (-f) ys suf).map PyData.int), S4, S5, .val (.int k), .val (.int f), s8'])
  | [], pre, suf, j, s8, _, _, hl, _, _ => ⟨s8, by rw [rgD_nil (by rw [hl]; simp), putTo_nil]; rfl⟩
  | y :: ys, pre, [], j, s8, _, _, _, _, h => by simp at h
  | y :: ys, pre, z :: suf, j, s8, hy, hY, hl, hk, h => by
    obtain ⟨s8', e⟩ := div_in (k := k) hp hp2 hf (S1 := S1) (S4 := S4) (S5 := S5) ys (pre ++ [(z - f * y) % p]) suf (j + 1) (.val (.int (j : Nat))) (fun v hv => hy v (List.mem_cons_of_mem _ hv)) (fun i hi => by
      have := hY (i + 1) (by rw [List.length_cons]; omega)
      rw [show j + (i + 1) = j + 1 + i by omega] at this
      rw [this]
      rfl) (by rw [hl, List.length_cons]; omega) (by rw [List.length_append, List.length_singleton]; omega) (by simpa using h)
    refine ⟨s8', ?_⟩
    have hy0 := hy y List.mem_cons_self
    have lY : atI Y ((j : Nat) : Int) = some (.int y) := atI_nat (by
      have := hY 0 (by simp)
      rw [Nat.add_zero] at this
      rw [this]
      rfl)
    have la : atI ((pre ++ z :: suf).map PyData.int) (k + ((j : Nat) : Int)) = some (.int z) := by rw [← hk]; exact atI_nat (by simp)
    have li : ixN ((pre ++ z :: suf).map PyData.int).length (k + ((j : Nat) : Int)) = some pre.length := by rw [← hk]; exact ix_nat (by simp)
    have q : ((pre ++ z :: suf).map PyData.int).set pre.length (.int ((z - f * y) % p)) = (pre ++ [(z - f * y) % p] ++ suf).map PyData.int := by
      rw [← List.map_set]
      simp
    rw [rgD_cons (by rw [hl, List.length_cons]; omega)]
    unfold forL
    walk_at "ev"
    rw [la]
    walk_at "ev"
    rw [lY]
    walk_at "ev"
    rw [d_mul _ _ (big hf.1 (by omega)) (big hy0.1 (by omega))]
    walk_at "ev"
    rw [d_mod _ _ (by omega)]
    walk_at "ev"
    rw [li]
    walk_at "ev"
    rw [q, show ((j : Nat) : Int) + 1 = ((j + 1 : Nat) : Int) by omega, e, putTo_cons, show z + -f * y = z - f * y by grind]
    simp
def divIn : MS := (sFor (mRg1 (mCons (mCall dLen (mCons (mName 2) mNil)) mNil)) (setN 8) (sSetIx 3 (mBin dMod (mBin dSub (mIx (mName 3) (mBin dAdd (mName 6) (mName 8))) (mBin dMul (mName 7) (mIx (mName 2) (mName 8)))) (mName 0)) (mBin dAdd (mName 6) (mName 8))))
def divFac : ME := (mBin dMod (mBin dMul (mIx (mName 3) (mBin dSub (mBin dAdd (mName 6) (mCall dLen (mCons (mName 2) mNil))) (mC (.int 1)))) (mName 5)) (mName 0))
def divBody : MS := (sSeq (sSet 7 divFac) (sSeq (sSetIx 4 (mName 7) (mName 6)) divIn))
def divLoop : MS := (sFor (mRevR (mRr1 (mCall dLen (mCons (mName 4) mNil)))) (setN 6) divBody)
def divInit : ME := (mRepL (mLst (mCons (mC (.int 0)) mNil)) (mCall dMax (mCons (mBin dAdd (mBin dSub (mCall dLen (mCons (mName 1) mNil)) (mCall dLen (mCons (mName 2) mNil))) (mC (.int 1))) (mCons (mC (.int 0)) mNil))))
theorem div_cut : m_poly_divided = (sSeq (sDrop (mFn Lib.F_check_field (mCons (mName 0) mNil)))
    (sSeq (sDrop (mFn F_check_poly (mCons (mName 0) (mCons (mName 1) mNil))))
    (sSeq (sDrop (mFn F_check_poly (mCons (mName 0) (mCons (mName 2) mNil))))
    (sSeq (sIf (mCmp dEq (mName 2) (mTup mNil)) sNo sNil)
    (sSeq (sSet 3 (mCall dList (mCons (mName 1) mNil)))
    (sSeq (sSet 4 divInit)
    (sSeq (sSet 5 (mFn Lib.F_inverse (mCons (mName 0) (mCons (mIx (mName 2) (mNeg (mC (.int 1)))) mNil))))
    (sSeq divLoop
    (sRet [] (mTup (mCons (mFn F_trimmed (mCons (mName 4) mNil)) (mCons (mFn F_trimmed (mCons (mName 3) mNil)) mNil)))))))))))) := rfl
theorem divIn_is {p f : Int} (hp : 5 ≤ p) (hp2 : p ≤ 997) (hf : 0 ≤ f ∧ f < p) {S1 S4 S5 s8 : Sl} {ys R : List Int} {k : Nat} (hy : InF p ys) (ly : ys.length ≤ 1000000) (hl : k + ys.length ≤ R.length) : ∃ s8', divIn [.val (.int p), S1, .val (.tuple (ys.map PyData.int)), .own (R.map PyData.int), S4, S5, .val (.int (k : Nat)), .val (.int f), s8] = some (.nx, [.val (.int p), S1, .val (.tuple (ys.map PyData.int)), .own ((R.take k ++ putTo p (-f) ys (R.drop k)).map PyData.int), S4, S5, .val (.int (k : Nat)), .val (.int f), s8']) := by
  obtain ⟨s8', e⟩ := div_in (k := ((k : Nat) : Int)) hp hp2 hf (S1 := S1) (S4 := S4) (S5 := S5) (Y := ys.map PyData.int) ys (R.take k) (R.drop k) 0 s8 hy (fun i _ => by rw [Nat.zero_add]) (by simp) (by rw [List.length_take]; omega) (by rw [List.length_drop]; omega)
  rw [List.take_append_drop] at e
  refine ⟨s8', ?_⟩
  unfold divIn
  rw [e_for, rg1_of (n := (((ys.map PyData.int).length : Nat) : Int)) (ws := [.dat (.int (((ys.map PyData.int).length : Nat) : Int))]) (g' := [.val (.int p), S1, .val (.tuple (ys.map PyData.int)), .own (R.map PyData.int), S4, S5, .val (.int (k : Nat)), .val (.int f), s8]) rfl rfl (okRg' (by omega) (by rw [List.length_map]; omega)), Option.bind_some]
  exact e
theorem body_gen {G : ME} {N : MS} {S0 S1 S2 S5 s7 s8 s8' : Sl} {R Q R' : List Da} {f : Int} {k : Nat} (hk : k < Q.length)
  (e1 : G [S0, S1, S2, .own R, .own Q, S5, .val (.int (k : Nat)), s7, s8] = some (.dat (.int f), [S0, S1, S2, .own R, .own Q, S5, .val (.int (k : Nat)), s7, s8]))
  (e2 : N [S0, S1, S2, .own R, .own (Q.set k (.int f)), S5, .val (.int (k : Nat)), .val (.int f), s8] = some (.nx, [S0, S1, S2, .own R', .own (Q.set k (.int f)), S5, .val (.int (k : Nat)), .val (.int f), s8'])) :
  (sSeq (sSet 7 G) (sSeq (sSetIx 4 (mName 7) (mName 6)) N)) [S0, S1, S2, .own R, .own Q, S5, .val (.int (k : Nat)), s7, s8] = some (.nx, [S0, S1, S2, .own R', .own (Q.set k (.int f)), S5, .val (.int (k : Nat)), .val (.int f), s8']) := by
  walk_at "ev"
  rw [e1]
  walk_at "ev"
  rw [ix_nat hk]
  walk_at "ev"
  rw [e2]
theorem fac_gen {p r l : Int} (hp : 5 ≤ p) (hp2 : p ≤ 997) (hr : 0 ≤ r ∧ r < p) (hl : 0 ≤ l ∧ l < p) {S1 S4 s7 s8 : Sl} {Y R : List Da} {k n : Int} (hn : ((Y.length : Nat) : Int) = n) (la : atI R (k + n - 1) = some (.int r)) : divFac [.val (.int p), S1, .val (.tuple Y), .own R, S4, .val (.int l), .val (.int k), s7, s8] = some (.dat (.int (r * l % p)), [.val (.int p), S1, .val (.tuple Y), .own R, S4, .val (.int l), .val (.int k), s7, s8]) := by
  unfold divFac
  walk_at "ev"
  rw [hn]
  rw [la]
  walk_at "ev"
  rw [d_mul _ _ (big hr.1 (by omega)) (big hl.1 (by omega))]
  walk_at "ev"
  rw [d_mod _ _ (by omega)]
  walk_at "ev"
theorem rgD_snoc (k : Nat) : rgD 0 ((k + 1 : Nat) : Int) = rgD 0 ((k : Nat) : Int) ++ [.int (k : Nat)] := by
  unfold rgD
  rw [show ((((k + 1 : Nat) : Int)) - 0).toNat = k + 1 by omega, show ((((k : Nat) : Int)) - 0).toNat = k by omega, List.range_succ, List.map_append]
  simp
theorem div_loop {p lead : Int} (hp : 5 ≤ p) (hp2 : p ≤ 997) (hl : 0 ≤ lead ∧ lead < p) {S1 : Sl} {ys : List Int} (hy : InF p ys) (ly : ys.length ≤ 1000) (y0 : 0 < ys.length) : ∀ (k : Nat) (Q R : List Int) (s6 s7 s8 : Sl), k + ys.length ≤ R.length + 1 → k ≤ Q.length → InF p R → ∃ s6' s7' s8', forL (setN 6) divBody (rgD 0 (k : Nat)).reverse [.val (.int p), S1, .val (.tuple (ys.map PyData.int)), .own (R.map PyData.int), .own (Q.map PyData.int), .val (.int lead), s6, s7, s8] = some (.nx, [.val (.int p), S1, .val (.tuple (ys.map PyData.int)), .own ((divGo p ys lead k Q R).2.map PyData.int), .own ((divGo p ys lead k Q R).1.map PyData.int), .val (.int lead), s6', s7', s8'])
  | 0, Q, R, s6, s7, s8, _, _, _ => ⟨s6, s7, s8, rfl⟩
  | k + 1, Q, R, s6, s7, s8, h1, h2, hR => by
    rw [divGo]
    have hr := cf_in (by omega) hR (k + ys.length - 1)
    have la : atI (R.map PyData.int) (((k : Nat) : Int) + ((ys.length : Nat) : Int) - 1) = some (.int (cf R (k + ys.length - 1))) := by
      rw [show ((k : Nat) : Int) + ((ys.length : Nat) : Int) - 1 = ((k + ys.length - 1 : Nat) : Int) by omega]
      refine atI_nat ?_
      rw [List.getElem?_map, List.getElem?_eq_getElem (by omega), cf_at (by omega)]
      rfl
    have fg := fac_gen (S1 := S1) (S4 := .own (Q.map PyData.int)) (s7 := s7) (s8 := s8) (Y := ys.map PyData.int) hp hp2 hr hl (by rw [List.length_map]) la
    generalize hf : cf R (k + ys.length - 1) * lead % p = f at fg ⊢
    have f0 : 0 ≤ f ∧ f < p := by
      rw [← hf]
      exact ⟨Int.emod_nonneg _ (by omega), Int.emod_lt_of_pos _ (by omega)⟩
    obtain ⟨a8, e2⟩ := divIn_is (S1 := S1) (S4 := .own ((Q.map PyData.int).set k (.int f))) (S5 := .val (.int lead)) (s8 := s8) (R := R) (k := k) hp hp2 f0 hy (by omega) (by omega)
    have bg := body_gen (N := divIn) (by rw [List.length_map]; omega) fg e2
    have q : (Q.map PyData.int).set k (.int f) = (Q.set k f).map PyData.int := by rw [List.map_set]
    rw [q] at bg
    obtain ⟨b6, b7, b8, e3⟩ := div_loop hp hp2 hl (S1 := S1) hy ly y0 k (Q.set k f) (R.take k ++ putTo p (-f) ys (R.drop k)) (.val (.int (k : Nat))) (.val (.int f)) a8 (by rw [len_step (by omega)]; omega) (by rw [List.length_set]; omega) (in_step (by omega) (by omega) hR)
    refine ⟨b6, b7, b8, ?_⟩
    rw [rgD_snoc, List.reverse_append, List.reverse_singleton, List.singleton_append]
    unfold forL
    show (divBody [.val (.int p), S1, .val (.tuple (ys.map PyData.int)), .own (R.map PyData.int), .own (Q.map PyData.int), .val (.int lead), .val (.int (k : Nat)), s7, s8]).bind _ = _
    rw [show divBody = (sSeq (sSet 7 divFac) (sSeq (sSetIx 4 (mName 7) (mName 6)) divIn)) from rfl, bg, Option.bind_some]
    exact e3
theorem revR_of {f : ME} {g : Gh} {n : Int} (h : f g = some (.dat (.int n), g)) (ok : okRg n = true) : mRevR (mRr1 f) g = some ((rgD 0 n).reverse, g) := by
  rw [e_revR, e_rr1, h]
  walk_at "ev"
  rw [if_pos ok]
  rfl
theorem divLoop_is {p lead : Int} (hp : 5 ≤ p) (hp2 : p ≤ 997) (hl : 0 ≤ lead ∧ lead < p) {S1 : Sl} {ys : List Int} (hy : InF p ys) (ly : ys.length ≤ 1000) (y0 : 0 < ys.length) (Q R : List Int) (h1 : Q.length + ys.length ≤ R.length + 1) (h2 : Q.length ≤ 1000) (hR : InF p R) : ∃ s6' s7' s8', divLoop [.val (.int p), S1, .val (.tuple (ys.map PyData.int)), .own (R.map PyData.int), .own (Q.map PyData.int), .val (.int lead), .un, .un, .un] = some (.nx, [.val (.int p), S1, .val (.tuple (ys.map PyData.int)), .own ((divGo p ys lead Q.length Q R).2.map PyData.int), .own ((divGo p ys lead Q.length Q R).1.map PyData.int), .val (.int lead), s6', s7', s8']) := by
  obtain ⟨a6, a7, a8, e⟩ := div_loop hp hp2 hl (S1 := S1) hy ly y0 Q.length Q R .un .un .un h1 (Nat.le_refl _) hR
  refine ⟨a6, a7, a8, ?_⟩
  have e1 : mRevR (mRr1 (mCall dLen (mCons (mName 4) mNil))) [.val (.int p), S1, .val (.tuple (ys.map PyData.int)), .own (R.map PyData.int), .own (Q.map PyData.int), .val (.int lead), .un, .un, .un] = some ((rgD 0 (((Q.map PyData.int).length : Nat) : Int)).reverse, [.val (.int p), S1, .val (.tuple (ys.map PyData.int)), .own (R.map PyData.int), .own (Q.map PyData.int), .val (.int lead), .un, .un, .un]) := by
    refine revR_of ?_ (okRg' (by omega) (by rw [List.length_map]; omega))
    rfl
  unfold divLoop
  rw [e_for, e1, Option.bind_some]
  rw [List.length_map]
  exact e
theorem divInit_is {s0 s3 s4 s5 s6 s7 s8 : Sl} {xs ys : List Int} (l1 : xs.length ≤ 400) (l2 : ys.length ≤ 400) : divInit [s0, .val (.tuple (xs.map PyData.int)), .val (.tuple (ys.map PyData.int)), s3, s4, s5, s6, s7, s8] = some (.fresh ((List.replicate (xs.length + 1 - ys.length) (0 : Int)).map PyData.int), [s0, .val (.tuple (xs.map PyData.int)), .val (.tuple (ys.map PyData.int)), s3, s4, s5, s6, s7, s8]) := by
  have hm : (if (0 : Int) > (xs.length : Nat) - (ys.length : Nat) + 1 then (0 : Int) else (xs.length : Nat) - (ys.length : Nat) + 1) = ((xs.length + 1 - ys.length : Nat) : Int) := by
    split <;> omega
  unfold divInit
  rw [repL0 (n := ((xs.length + 1 - ys.length : Nat) : Int)) (by walk_at "ev"; rw [List.length_map, List.length_map]; first | rw [hm] | (rw [← hm]; rfl)) (okRg' (by omega) (by omega)) (by omega)]
  rw [Int.toNat_natCast]
theorem div_gen {I : ME} {L : MS} {p l : Int} {X Y R Q : List Int} {Z : List Da} {y : Int} {a6 a7 a8 : Sl} (hf : isFld p = true) (hx : Poly p X) (hy : Poly p Y) (ne : dEq (.tuple (Y.map PyData.int)) (.tuple []) = some (.dat (.bool false))) (hl : atI (Y.map PyData.int) (-1) = some (.int y)) (hy1 : 0 ≤ y ∧ y < p) (hlead : l = y ^ (p - 2).toNat % p) (lR : R.length ≤ 1000000) (lQ : Q.length ≤ 1000000) (lx : (X.map PyData.int).length ≤ sizeLine)
  (e0 : I [.val (.int p), .val (.tuple (X.map PyData.int)), .val (.tuple (Y.map PyData.int)), .own (X.map PyData.int), .un, .un, .un, .un, .un] = some (.fresh Z, [.val (.int p), .val (.tuple (X.map PyData.int)), .val (.tuple (Y.map PyData.int)), .own (X.map PyData.int), .un, .un, .un, .un, .un]))
  (e : L [.val (.int p), .val (.tuple (X.map PyData.int)), .val (.tuple (Y.map PyData.int)), .own (X.map PyData.int), .own Z, .val (.int l), .un, .un, .un] = some (.nx, [.val (.int p), .val (.tuple (X.map PyData.int)), .val (.tuple (Y.map PyData.int)), .own (R.map PyData.int), .own (Q.map PyData.int), .val (.int l), a6, a7, a8])) :
  bodyM [] 6 (sSeq (sDrop (mFn Lib.F_check_field (mCons (mName 0) mNil)))
    (sSeq (sDrop (mFn F_check_poly (mCons (mName 0) (mCons (mName 1) mNil))))
    (sSeq (sDrop (mFn F_check_poly (mCons (mName 0) (mCons (mName 2) mNil))))
    (sSeq (sIf (mCmp dEq (mName 2) (mTup mNil)) sNo sNil)
    (sSeq (sSet 3 (mCall dList (mCons (mName 1) mNil)))
    (sSeq (sSet 4 I)
    (sSeq (sSet 5 (mFn Lib.F_inverse (mCons (mName 0) (mCons (mIx (mName 2) (mNeg (mC (.int 1)))) mNil))))
    (sSeq L
    (sRet [] (mTup (mCons (mFn F_trimmed (mCons (mName 4) mNil)) (mCons (mFn F_trimmed (mCons (mName 3) mNil)) mNil)))))))))))) [.val (.int p), .val (.tuple (X.map PyData.int)), .val (.tuple (Y.map PyData.int))] = some (.dat (.tuple [.tuple ((trimL Q).map PyData.int), .tuple ((trimL R).map PyData.int)]), [.val (.int p), .val (.tuple (X.map PyData.int)), .val (.tuple (Y.map PyData.int))]) := by
  have hp := fld_pos hf
  walk_at "ev"
  rw [t_check_field hf]
  walk_at "ev"
  rw [t_check_poly hf hx]
  walk_at "ev"
  rw [t_check_poly hf hy]
  walk_at "ev"
  rw [if_pos (show 0 ≤ sizeLine by decide)]
  walk_at "ev"
  rw [ne]
  walk_at "ev"
  try rw [if_pos lx]
  walk_at "ev"
  rw [e0]
  walk_at "ev"
  rw [hl]
  walk_at "ev"
  rw [t_inverse hp.1 hp.2 hy1.1 hy1.2, ← hlead]
  walk_at "ev"
  rw [e]
  walk_at "ev"
  rw [t_trimmedL Q lQ]
  walk_at "ev"
  rw [t_trimmedL R lR]
  walk_at "ev"
  try rw [if_pos (show 2 ≤ sizeLine by decide)]
  walk_at "ev"
end Lib
end
section
set_option Elab.async false
set_option linter.all false
set_option maxRecDepth 100000
set_option maxHeartbeats 4000000
set_option exponentiation.threshold 3000
namespace Lib
open PySem PySem.Spec PyProof.Rows L2 EV
local macro_rules | `(tactic| walk_at "ev") => `(tactic| try simp only [e_bodyM, e_seq, e_nil, e_if, e_set, e_ret, e_drop, e_par, e_asg, e_for, e_app, e_setix, e_aug, e_name, e_c, e_anil, e_acons, e_bin, e_cmp, e_brk, e_cnt, e_retn, e_ix, e_call, e_fn, e_fn0, e_fnD, e_ifx, e_oft, e_tru, e_not, e_and, e_or, e_andv, e_orv, e_notv, e_neg, e_isi, e_chain, e_lst, e_tup, e_it, e_rg1, e_rg2, e_zip, e_enum, e_revi, e_rev, e_o0, e_o1, e_sl, e_dict0, e_yes, e_comp, e_pop, e_asB, e_toDd, e_toDf, e_toDs, e_lkd, e_lkf, e_lks, e_lan, e_lac, e_tdn, e_tdc, e_tsn, e_tsd, e_tsf, e_tss, e_snd, e_snf, e_snn, e_snc, e_sod, e_sof, e_st, e_fln, e_keep, e_itl, e_itt, e_rr1, e_rr2, e_tupRg, e_lstRg, e_revR, e_popAt, e_ext, e_tupRev, e_repL, e_lenSet, e_enumA, e_zipA, e_zip3, d_addT, flat1,
  d_add, d_sub, d_lt, d_le, d_gt, d_ge, d_eq, d_ne, d_ixl, d_ixt, d_lenl, d_lent, d_inti, d_intb, d_abs, d_max2, d_min2, d_tupl, d_tupt, d_lsl, d_lst, d_rb, t_b, t_i, t_l, t_t, is_nb, is_bb, k_ii, k_ib, k_bi, k_bb, k_ni, k_si, k_ti, k_li, k_di, k_tt, isNone, isBl,
  Option.bind_some, Option.bind_none, Option.map_some, Option.map_none, List.append_nil, List.cons_append, List.nil_append, List.replicate, List.getElem?_cons_zero, List.getElem?_cons_succ, List.getElem?_nil, List.set_cons_zero, List.set_cons_succ, List.length_cons, List.length_nil, List.mapIdx_cons, List.mapIdx_nil, List.contains_nil, List.contains_cons, Bool.false_eq_true, if_true, if_false, reduceIte, Bool.not_true, Bool.not_false, Option.getD_some, Function.comp, List.map_cons, List.map_nil,
  Nat.reduceLT, Nat.reduceAdd, Nat.reduceBEq, Nat.reduceEqDiff, Nat.reduceLeDiff, Int.reduceLT, Int.reduceLE, decide_true, decide_false, beq_self_eq_true, Bool.or_false, Bool.or_true, Bool.true_or, Bool.false_or, Bool.and_true, Bool.true_and, Bool.and_false, Bool.false_and, and_self, Nat.zero_add])
theorem poly_last {p : Int} {Y : List Int} (hp : 0 < p) (hy : Poly p Y) (ne : Y ≠ []) : 0 < cf Y (Y.length - 1) ∧ cf Y (Y.length - 1) < p := by
  have h1 := sharp_last hy.2.2 ne
  have h2 := cf_in hp hy.1 (Y.length - 1)
  omega
/-- what undoes the last number -/
def leadOf (p : Int) (Y : List Int) : Int := cf Y (Y.length - 1) ^ (p - 2).toNat % p
theorem lead_one {p : Int} {Y : List Int} (hf : isFld p = true) (hy : Poly p Y) (ne : Y ≠ []) : Cg p (leadOf p Y * cf Y (Y.length - 1)) 1 := by
  have hp := fld_pos hf
  have h := poly_last (by omega) hy ne
  refine cg_of_emod ?_
  rw [show (1 : Int) % p = 1 from Int.emod_eq_of_lt (by omega) (by omega)]
  exact inv_mul hf h.1 h.2
theorem no_zero {p : Int} (hf : isFld p = true) : NoZ p := by
  intro a b h
  have hp := fld_pos hf
  have b0 := Int.emod_nonneg b (show p ≠ 0 by omega)
  have b1 := Int.emod_lt_of_pos b (show 0 < p by omega)
  by_cases e : b % p = 0
  · right
    have := cg_sym (cg_mod p b)
    rw [e] at this
    exact this
  · left
    have i := inv_mul hf (show 0 < b % p by omega) b1
    generalize (b % p) ^ (p - 2).toNat % p = u at i
    have i2 : Cg p (u * (b % p)) 1 := cg_of_emod (by rw [i, Int.emod_eq_of_lt (by omega) (by omega)])
    obtain ⟨k, h⟩ := h
    obtain ⟨l, i2⟩ := i2
    obtain ⟨m, hm⟩ := cg_mod p b
    exact ⟨u * k + a * u * m - a * l, by grind⟩
theorem t_poly_divided {p : Int} {X Y : List Int} (hf : isFld p = true) (hx : Poly p X) (hy : Poly p Y) (ne : Y ≠ []) : F_poly_divided [.val (.int p), .val (.tuple (X.map PyData.int)), .val (.tuple (Y.map PyData.int))] = some (.dat (.tuple [.tuple ((trimL (quoL p (leadOf p Y) X Y)).map PyData.int), .tuple ((trimL (resL p (leadOf p Y) X Y)).map PyData.int)]), [.val (.int p), .val (.tuple (X.map PyData.int)), .val (.tuple (Y.map PyData.int))]) := by
  have hp := fld_pos hf
  have lx := hx.2.1
  have ly := hy.2.1
  have y0 : 0 < Y.length := List.length_pos_iff.mpr ne
  have yl := poly_last (by omega) hy ne
  have l0 : 0 ≤ leadOf p Y ∧ leadOf p Y < p := ⟨Int.emod_nonneg _ (by omega), Int.emod_lt_of_pos _ (by omega)⟩
  have da := div_all (lead := leadOf p Y) (by omega) hx.1 y0 (lead_one hf hy ne)
  have e0 := divInit_is (s0 := .val (.int p)) (s3 := .own (X.map PyData.int)) (s4 := .un) (s5 := .un) (s6 := .un) (s7 := .un) (s8 := .un) (xs := X) (ys := Y) (by omega) (by omega)
  have le : X = [] ∨ X ≠ [] := by cases X <;> simp
  have hle : X.length + 1 - Y.length + Y.length ≤ X.length + 1 ∨ X.length + 1 < Y.length := by omega
  have nq : dEq (.tuple (Y.map PyData.int)) (.tuple []) = some (.dat (.bool false)) := by
    rw [d_eqNilT]
    cases Y with
    | nil => exact absurd rfl ne
    | cons y r => rfl
  have hl : atI (Y.map PyData.int) (-1) = some (.int (cf Y (Y.length - 1))) := by
    have h := List.dropLast_concat_getLast ne
    have e : cf Y (Y.length - 1) = Y.getLast ne := by rw [cf_at (by omega), List.getLast_eq_getElem]
    rw [e]
    conv => lhs; rw [← h]
    rw [List.map_append]
    exact at_last _ _
  have lQ : (quoL p (leadOf p Y) X Y).length ≤ 1000000 := by rw [da.2.2.1]; omega
  have lR : (resL p (leadOf p Y) X Y).length ≤ 1000000 := by rw [da.2.2.2.1]; omega
  rcases hle with hle | hlt
  · obtain ⟨a6, a7, a8, e⟩ := divLoop_is (S1 := .val (.tuple (X.map PyData.int))) hp.1 hp.2 l0 hy.1 (by omega) y0 (List.replicate (X.length + 1 - Y.length) 0) X (by rw [List.length_replicate]; exact hle) (by rw [List.length_replicate]; omega) hx.1
    rw [List.length_replicate] at e
    unfold F_poly_divided
    rw [div_cut]
    exact div_gen hf hx hy nq hl ⟨by omega, yl.2⟩ rfl lR lQ (by rw [List.length_map]; unfold sizeLine; omega) e0 e
  · have z : X.length + 1 - Y.length = 0 := by omega
    have e : divLoop [.val (.int p), .val (.tuple (X.map PyData.int)), .val (.tuple (Y.map PyData.int)), .own (X.map PyData.int), .own ([].map PyData.int), .val (.int (leadOf p Y)), .un, .un, .un] = some (.nx, [.val (.int p), .val (.tuple (X.map PyData.int)), .val (.tuple (Y.map PyData.int)), .own (X.map PyData.int), .own ([].map PyData.int), .val (.int (leadOf p Y)), .un, .un, .un]) := by
      unfold divLoop
      rw [e_for, revR_of (n := 0) rfl (okRg' (by decide) (by decide)), Option.bind_some]
      rfl
    have q1 : quoL p (leadOf p Y) X Y = [] := by unfold quoL; rw [z]; rfl
    have q2 : resL p (leadOf p Y) X Y = X := by unfold resL; rw [z]; rfl
    rw [z] at e0
    rw [q1, q2]
    unfold F_poly_divided
    rw [div_cut]
    exact div_gen hf hx hy nq hl ⟨by omega, yl.2⟩ rfl (by omega) (by simp) (by rw [List.length_map]; unfold sizeLine; omega) e0 e
end Lib
end
section
set_option Elab.async false
set_option linter.all false
set_option maxRecDepth 100000
set_option maxHeartbeats 4000000
set_option exponentiation.threshold 3000
namespace Lib
open PySem PySem.Spec PyProof.Rows L2 EV
local macro_rules | `(tactic| walk_at "ev") => `(tactic| try simp only [e_bodyM, e_seq, e_nil, e_if, e_set, e_ret, e_drop, e_par, e_asg, e_for, e_app, e_setix, e_aug, e_name, e_c, e_anil, e_acons, e_bin, e_cmp, e_brk, e_cnt, e_retn, e_ix, e_call, e_fn, e_fn0, e_fnD, e_ifx, e_oft, e_tru, e_not, e_and, e_or, e_andv, e_orv, e_notv, e_neg, e_isi, e_chain, e_lst, e_tup, e_it, e_rg1, e_rg2, e_zip, e_enum, e_revi, e_rev, e_o0, e_o1, e_sl, e_dict0, e_yes, e_comp, e_pop, e_asB, e_toDd, e_toDf, e_toDs, e_lkd, e_lkf, e_lks, e_lan, e_lac, e_tdn, e_tdc, e_tsn, e_tsd, e_tsf, e_tss, e_snd, e_snf, e_snn, e_snc, e_sod, e_sof, e_st, e_fln, e_keep, e_itl, e_itt, e_rr1, e_rr2, e_tupRg, e_lstRg, e_revR, e_popAt, e_ext, e_tupRev, e_repL, e_lenSet, e_enumA, e_zipA, e_zip3, d_addT, flat1,
  d_add, d_sub, d_lt, d_le, d_gt, d_ge, d_eq, d_ne, d_ixl, d_ixt, d_lenl, d_lent, d_inti, d_intb, d_abs, d_max2, d_min2, d_tupl, d_tupt, d_lsl, d_lst, d_rb, t_b, t_i, t_l, t_t, is_nb, is_bb, k_ii, k_ib, k_bi, k_bb, k_ni, k_si, k_ti, k_li, k_di, k_tt, isNone, isBl,
  Option.bind_some, Option.bind_none, Option.map_some, Option.map_none, List.append_nil, List.cons_append, List.nil_append, List.replicate, List.getElem?_cons_zero, List.getElem?_cons_succ, List.getElem?_nil, List.set_cons_zero, List.set_cons_succ, List.length_cons, List.length_nil, List.mapIdx_cons, List.mapIdx_nil, List.contains_nil, List.contains_cons, Bool.false_eq_true, if_true, if_false, reduceIte, Bool.not_true, Bool.not_false, Option.getD_some, Function.comp, List.map_cons, List.map_nil,
  Nat.reduceLT, Nat.reduceAdd, Nat.reduceBEq, Nat.reduceEqDiff, Nat.reduceLeDiff, Int.reduceLT, Int.reduceLE, decide_true, decide_false, beq_self_eq_true, Bool.or_false, Bool.or_true, Bool.true_or, Bool.false_or, Bool.and_true, Bool.true_and, Bool.and_false, Bool.false_and, and_self, Nat.zero_add])
/-! ### places, drawn polys -/
theorem inD_int (a : Int) : ∀ xs : List Int, inD (.int a) (xs.map PyData.int) = decide (a ∈ xs)
  | [] => by simp [inD]
  | x :: xs => by
    have ih := inD_int a xs
    unfold inD at ih ⊢
    simp only [List.map_cons, List.any_cons, ih, List.mem_cons]
    by_cases h : a = x
    · subst h
      simp [PyData.eqv]
    · by_cases h2 : a ∈ xs <;> simp [PyData.eqv, h, h2, Ne.symm h]
theorem d_inL (neg : Bool) (a : Int) (xs : List Int) : dIn neg (.int a) (.list (xs.map PyData.int)) = some (.dat (.bool (if neg then !decide (a ∈ xs) else decide (a ∈ xs)))) := by
  unfold dIn
  rw [show itemsD (.list (xs.map PyData.int)) = some (xs.map PyData.int) from rfl, Option.bind_some, inD_int, if_pos]
  rw [show flatD (.int a) = true from rfl, Bool.true_and, List.all_eq_true]
  intro x hx
  obtain ⟨i, _, rfl⟩ := List.mem_map.mp hx
  rfl
theorem compL_inv {vs : List Nat} {tg : Wv → Gh → Option Gh} {el : ME} (P : Nat → Gh → Prop) (R : Da → Prop) : ∀ (ds : List Da) (i : Nat) (g : Gh), P i g → (∀ j g d, P j g → d ∈ ds → j < i + ds.length → ∃ g1 w g2 r g3, tg (.dat d) g = some g1 ∧ el g1 = some (w, g2) ∧ toD w g2 = some (r, g3) ∧ R r ∧ P (j + 1) (wipeG g3 vs)) → ∃ rs g', compL vs tg mYes el ds g = some (rs, g') ∧ rs.length = ds.length ∧ (∀ r ∈ rs, R r) ∧ P (i + ds.length) g'
  | [], i, g, h, _ => ⟨[], g, rfl, rfl, (fun r hr => by cases hr), h⟩
  | d :: ds, i, g, h, st => by
    obtain ⟨g1, w, g2, r, g3, h1, h2, h3, h4, h5⟩ := st i g d h List.mem_cons_self (by rw [List.length_cons]; omega)
    obtain ⟨rs, g', e, e2, e3, e4⟩ := compL_inv P R ds (i + 1) (wipeG g3 vs) h5 fun j g d p hd hj => st j g d p (List.mem_cons_of_mem _ hd) (by rw [List.length_cons]; omega)
    refine ⟨r :: rs, g', ?_, by rw [List.length_cons, e2, List.length_cons], (fun x hx => ?_), by rw [List.length_cons]; rw [show i + (ds.length + 1) = i + 1 + ds.length by omega]; exact e4⟩
    · unfold compL
      rw [h1, Option.bind_some]
      show (el g1).bind _ = _
      rw [h2, Option.bind_some, h3, Option.bind_some, e]
      rfl
    · rcases List.mem_cons.mp hx with rfl | hx
      · exact h4
      · exact e3 x hx
theorem ints_of_all {Q : Int → Prop} : ∀ rs : List Da, (∀ r ∈ rs, ∃ x, r = .int x ∧ Q x) → ∃ xs : List Int, rs = xs.map PyData.int ∧ ∀ x ∈ xs, Q x
  | [], _ => ⟨[], rfl, fun x hx => by cases hx⟩
  | r :: rs, h => by
    obtain ⟨x, rfl, hx⟩ := h r List.mem_cons_self
    obtain ⟨xs, rfl, hxs⟩ := ints_of_all rs fun r hr => h r (List.mem_cons_of_mem _ hr)
    exact ⟨x :: xs, rfl, fun y hy => by
      rcases List.mem_cons.mp hy with rfl | hy
      · exact hx
      · exact hxs y hy⟩
theorem t_are_unlike {p : Int} {xs : List Int} (hp : 5 ≤ p) (hx : InF p xs) (hl : xs.length ≤ 60) (nd : xs.Nodup) : F_are_unlike [.val (.int p), .val (.tuple (xs.map PyData.int))] = some (.dat (.bool true), [.val (.int p), .val (.tuple (xs.map PyData.int))]) := by
  unfold F_are_unlike m_are_unlike
  walk_at "ev"
  rw [t_are_numbers hp hx (by omega)]
  walk_at "ev"
  rw [decide_eq_true (by rw [List.length_map]; omega)]
  walk_at "ev"
  rw [intsOf_map]
  walk_at "ev"
  rw [if_pos (by omega), uniq_len nd]
  walk_at "ev"
  rw [List.length_map]
  walk_at "ev"
theorem t_check_places {p : Int} {xs : List Int} (hp : 5 ≤ p) (hx : InF p xs) (hl : xs.length ≤ 60) (nd : xs.Nodup) (ne : xs ≠ []) : F_check_places [.val (.int p), .val (.tuple (xs.map PyData.int))] = some (.dat .none, [.val (.int p), .val (.tuple (xs.map PyData.int))]) := by
  unfold F_check_places m_check_places
  walk_at "ev"
  rw [t_are_unlike hp hx hl nd]
  walk_at "ev"
  rw [show (xs.map PyData.int).isEmpty = false by cases xs with | nil => exact absurd rfl ne | cons x r => rfl]
  walk_at "ev"
theorem t_values_at {p : Int} {xs ps : List Int} (hf : isFld p = true) (hx : Poly p xs) (hs : InF p ps) (hl : ps.length ≤ 60) (nd : ps.Nodup) (ne : ps ≠ []) : F_values_at [.val (.int p), .val (.tuple (xs.map PyData.int)), .val (.tuple (ps.map PyData.int))] = some (.dat (.tuple ((ps.map fun a => evZ a xs % p).map PyData.int)), [.val (.int p), .val (.tuple (xs.map PyData.int)), .val (.tuple (ps.map PyData.int))]) := by
  have hp := fld_pos hf
  have q := compL_of (vs := [3]) (tg := setN 3) (el := mFn F_evaluated (mCons (mName 0) (mCons (mName 1) (mCons (mName 3) mNil)))) (e := PyData.int) (F := fun a => .int (evZ a xs % p)) (g := [.val (.int p), .val (.tuple (xs.map PyData.int)), .val (.tuple (ps.map PyData.int)), .un]) (xs := ps) (by
    intro a h
    obtain ⟨h1, h2⟩ := hs a h
    refine ⟨[.val (.int p), .val (.tuple (xs.map PyData.int)), .val (.tuple (ps.map PyData.int)), .val (.int a)], .dat (.int (evZ a xs % p)), [.val (.int p), .val (.tuple (xs.map PyData.int)), .val (.tuple (ps.map PyData.int)), .val (.int a)], [.val (.int p), .val (.tuple (xs.map PyData.int)), .val (.tuple (ps.map PyData.int)), .val (.int a)], rfl, ?_, rfl, rfl⟩
    walk_at "ev"
    rw [t_evaluated hp.1 hp.2 h1 h2 hx.1]
    walk_at "ev")
  unfold F_values_at m_values_at
  walk_at "ev"
  rw [t_check_field hf]
  walk_at "ev"
  rw [t_check_poly hf hx]
  walk_at "ev"
  rw [t_check_places hp.1 hs hl nd ne]
  walk_at "ev"
  rw [if_pos (by rw [List.length_map]; exact sl_lt (by omega))]
  try simp only [wipeG, List.set_cons_zero, List.set_cons_succ]
  rw [q]
  try simp only [Option.bind_some, restore, List.getElem?_cons_zero, List.getElem?_cons_succ, List.set_cons_zero, List.set_cons_succ]
  walk_at "ev"
  rw [List.map_map]
  rfl
theorem t_po_drawn {k : Nat} {ds : List Da} {p : Int} {m : Nat} (h : DiceOk k ds) (hk : k ≤ 100000) (hp : 5 ≤ p) (hp2 : p ≤ 997) (hm : m ≤ 40) : ∃ xs ds', Poly p xs ∧ xs.length ≤ m ∧ DiceOk (k + 1 + 3 * m) ds' ∧ F__law_po_drawn [.own ds, .val (.int p), .val (.int (m : Nat))] = some (.dat (.tuple (xs.map PyData.int)), [.own ds', .val (.int p), .val (.int (m : Nat))]) := by
  obtain ⟨r, ds1, r0, r1, h1, e1⟩ := t_roll (m := (m : Nat) + 1) h (by omega) (by omega) (by omega)
  obtain ⟨rs, g', e2, e3, e4, ds', e5, h2⟩ := compL_inv (vs := [3]) (tg := setN 3) (el := mFnD Lib.F__law_pick (mCons (mName 0) (mCons (mLst (mCons (mFnD Lib.F__law_roll (mCons (mName 0) (mCons (mName 1) mNil))) (mCons (mFnD Lib.F__law_roll (mCons (mName 0) (mCons (mName 1) mNil))) (mCons (mC (.int 0)) (mCons (mC (.int 1)) (mCons (mBin dSub (mName 1) (mC (.int 1))) mNil)))))) mNil)))
    (fun j g => ∃ ds, g = [.own ds, .val (.int p), .val (.int (m : Nat)), .un] ∧ DiceOk (k + 1 + 3 * j) ds) (fun d => ∃ x, d = .int x ∧ 0 ≤ x ∧ x < p) (rgD 0 r) 0 [.own ds1, .val (.int p), .val (.int (m : Nat)), .un] ⟨ds1, rfl, h1⟩ (by
    rintro j g d ⟨ds2, rfl, h2⟩ hd hj
    obtain ⟨i, rfl, i0, i1⟩ := mem_rgD.mp hd
    rw [rgD_len] at hj
    obtain ⟨a, ds3, a0, a1, h3, e3⟩ := t_roll (m := p) h2 (by omega) (by omega) (by omega)
    obtain ⟨b, ds4, b0, b1, h4, e4⟩ := t_roll (m := p) h3 (by omega) (by omega) (by omega)
    obtain ⟨x, ds5, hx, h5, e5⟩ := t_pickI (xs := [a, b, 0, 1, p - 1]) h4 (by omega) (by simp) (by simp)
    refine ⟨[.own ds2, .val (.int p), .val (.int (m : Nat)), .val (.int i)], .dat (.int x), [.own ds5, .val (.int p), .val (.int (m : Nat)), .val (.int i)], .int x, [.own ds5, .val (.int p), .val (.int (m : Nat)), .val (.int i)], rfl, ?_, rfl, ⟨x, rfl, ?_⟩, ⟨ds5, rfl, ?_⟩⟩
    · walk_at "ev"
      rw [e3]
      walk_at "ev"
      rw [e4]
      walk_at "ev"
      try rw [if_pos (show 5 ≤ sizeLine by decide)]
      walk_at "ev"
      rw [show [PyData.int a, .int b, .int 0, .int 1, .int (p - 1)] = [a, b, 0, 1, p - 1].map PyData.int from rfl, e5]
      walk_at "ev"
    · simp only [List.mem_cons, List.not_mem_nil, or_false] at hx
      omega
    · exact d_keep h5 (by omega))
  subst e5
  obtain ⟨xs, rfl, hx⟩ := ints_of_all rs e4
  rw [rgD_len, List.length_map] at e3
  have hl : xs.length ≤ m := by omega
  refine ⟨trimL xs, ds', trim_poly hx (by omega), ?_, d_keep h2 (by rw [rgD_len]; omega), ?_⟩
  · have := trimL_le xs.reverse
    rw [List.reverse_reverse, List.length_reverse] at this
    omega
  · unfold F__law_po_drawn m__law_po_drawn
    walk_at "ev"
    rw [e1]
    walk_at "ev"
    rw [if_pos (okRg' (by omega) (by omega))]
    walk_at "ev"
    rw [if_pos (by rw [rgD_len]; exact sl_lt (by omega))]
    try simp only [wipeG, List.set_cons_zero, List.set_cons_succ]
    rw [e2]
    try simp only [Option.bind_some, restore, List.getElem?_cons_zero, List.getElem?_cons_succ, List.set_cons_zero, List.set_cons_succ]
    walk_at "ev"
    rw [t_po_trimL xs (by omega)]
    walk_at "ev"
theorem places_step {k : Nat} {ds : List Da} {p l n : Int} {xs : List Int} {s5 s6 : Sl} (h : DiceOk k ds) (hk : k ≤ 100000) (hp : 5 ≤ p) (hp2 : p ≤ 997) (hl : 0 ≤ l) (hl2 : l < p) (lx : xs.length ≤ 100) (nd : xs.Nodup) (hx : ∀ x ∈ xs, l ≤ x ∧ x < p) (hx2 : (xs.length : Int) ≤ n) : ∃ (ds' : List Da) (ys : List Int) (s6' : Sl), (sSeq (sSet 6 (mBin dAdd (mName 3) (mFnD Lib.F__law_roll (mCons (mName 0) (mCons (mBin dSub (mName 1) (mName 3)) mNil)))))
    (sIf (mAnd (mCmp (dIn true) (mName 6) (mName 4)) (mCmp dLt (mCall dLen (mCons (mName 4) mNil)) (mName 2))) (sApp 4 (mName 6)) sNil)) [.own ds, .val (.int p), .val (.int n), .val (.int l), .own (xs.map PyData.int), s5, s6] = some (.nx, [.own ds', .val (.int p), .val (.int n), .val (.int l), .own (ys.map PyData.int), s5, s6']) ∧ DiceOk (k + 1) ds' ∧ ys.Nodup ∧ (∀ x ∈ ys, l ≤ x ∧ x < p) ∧ (ys.length : Int) ≤ n := by
  obtain ⟨a, ds3, a0, a1, h3, e3⟩ := t_roll (m := p - l) h (by omega) (by omega) (by omega)
  have la := d_inL true (l + a) xs
  have ap : (xs.map PyData.int) ++ [.int (l + a)] = (xs ++ [l + a]).map PyData.int := by rw [List.map_append]; rfl
  have lX : (xs.map PyData.int).length < sizeLine := by rw [List.length_map]; exact sl_lt (by omega)
  have ll : (((xs.map PyData.int).length : Nat) : Int) = ((xs.length : Nat) : Int) := by rw [List.length_map]
  by_cases hin : l + a ∈ xs
  · refine ⟨ds3, xs, .val (.int (l + a)), ?_, h3, nd, hx, hx2⟩
    generalize hX : xs.map PyData.int = X at la ⊢
    walk_at "ev"
    rw [e3]
    walk_at "ev"
    rw [la]
    walk_at "ev"
    rw [decide_eq_true hin]
    walk_at "ev"
  · by_cases hl3 : ((xs.length : Nat) : Int) < n
    · refine ⟨ds3, xs ++ [l + a], .val (.int (l + a)), ?_, h3, ?_, ?_, by rw [List.length_append, List.length_singleton]; omega⟩
      · rw [← ap]
        generalize hX : xs.map PyData.int = X at la lX ll ⊢
        walk_at "ev"
        rw [e3]
        walk_at "ev"
        rw [la]
        walk_at "ev"
        rw [decide_eq_false hin]
        walk_at "ev"
        rw [ll, decide_eq_true hl3]
        walk_at "ev"
        rw [if_pos lX]
      · rw [List.nodup_append]
        refine ⟨nd, by simp, ?_⟩
        intro x hx3 y hy
        rw [List.mem_singleton] at hy
        subst hy
        intro e
        exact hin (e ▸ hx3)
      · intro x hx3
        rcases List.mem_append.mp hx3 with h4 | h4
        · exact hx x h4
        · rw [List.mem_singleton] at h4
          omega
    · refine ⟨ds3, xs, .val (.int (l + a)), ?_, h3, nd, hx, hx2⟩
      generalize hX : xs.map PyData.int = X at la lX ll ⊢
      walk_at "ev"
      rw [e3]
      walk_at "ev"
      rw [la]
      walk_at "ev"
      rw [decide_eq_false hin]
      walk_at "ev"
      rw [ll, decide_eq_false hl3]
      walk_at "ev"
theorem places_end {ds ds' : List Da} {p n l : Int} {xs : List Int} {s5 s6 : Sl} (ok : okRg (n * 3) = true) (n0 : 0 ≤ n) (n1 : n < 100000000000000000000000000000) (e : forL (setN 5) (sSeq (sSet 6 (mBin dAdd (mName 3) (mFnD Lib.F__law_roll (mCons (mName 0) (mCons (mBin dSub (mName 1) (mName 3)) mNil)))))
    (sIf (mAnd (mCmp (dIn true) (mName 6) (mName 4)) (mCmp dLt (mCall dLen (mCons (mName 4) mNil)) (mName 2))) (sApp 4 (mName 6)) sNil)) (rgD 0 (n * 3)) [.own ds, .val (.int p), .val (.int n), .val (.int l), .own [], .un, .un] = some (.nx, [.own ds', .val (.int p), .val (.int n), .val (.int l), .own (xs.map PyData.int), s5, s6])) : F__law_po_places [.own ds, .val (.int p), .val (.int n), .val (.int l)] = some (.dat (.tuple ((if xs = [] then [l] else xs).map PyData.int)), [.own ds', .val (.int p), .val (.int n), .val (.int l)]) := by
  have ne := d_neNil xs
  unfold F__law_po_places m__law_po_places
  walk_at "ev"
  try rw [if_pos (show 0 ≤ sizeLine by decide)]
  walk_at "ev"
  rw [d_mul _ _ (big n0 n1) (big (by decide) (by decide))]
  walk_at "ev"
  rw [if_pos ok]
  walk_at "ev"
  rw [e]
  walk_at "ev"
  rw [if_pos (show 0 ≤ sizeLine by decide)]
  walk_at "ev"
  rw [ne]
  walk_at "ev"
  cases xs with
  | nil =>
    simp only [List.isEmpty_nil]
    walk_at "ev"
    try rw [if_pos (show 1 ≤ sizeLine by decide)]
    walk_at "ev"
  | cons x r =>
    simp only [List.isEmpty_cons]
    walk_at "ev"
    rw [if_neg (by simp)]
    rfl
theorem t_po_places {k : Nat} {ds : List Da} {p l n : Int} (h : DiceOk k ds) (hk : k ≤ 90000) (hp : 5 ≤ p) (hp2 : p ≤ 997) (hl : 0 ≤ l) (hl2 : l < p) (hn : 0 < n) (hn2 : n ≤ 60) : ∃ (xs : List Int) (ds' : List Da), xs ≠ [] ∧ xs.Nodup ∧ InF p xs ∧ (∀ x ∈ xs, l ≤ x) ∧ (xs.length : Int) ≤ n ∧ DiceOk (k + 180) ds' ∧ F__law_po_places [.own ds, .val (.int p), .val (.int n), .val (.int l)] = some (.dat (.tuple (xs.map PyData.int)), [.own ds', .val (.int p), .val (.int n), .val (.int l)]) := by
  obtain ⟨g', e, xs, ds', s5, s6, rfl, h2, nd, hx, hx2⟩ := forL_inv (tg := setN 5) (body := sSeq (sSet 6 (mBin dAdd (mName 3) (mFnD Lib.F__law_roll (mCons (mName 0) (mCons (mBin dSub (mName 1) (mName 3)) mNil)))))
    (sIf (mAnd (mCmp (dIn true) (mName 6) (mName 4)) (mCmp dLt (mCall dLen (mCons (mName 4) mNil)) (mName 2))) (sApp 4 (mName 6)) sNil))
    (fun j g => ∃ (xs : List Int) (ds : List Da) (s5 s6 : Sl), g = [.own ds, .val (.int p), .val (.int n), .val (.int l), .own (xs.map PyData.int), s5, s6] ∧ DiceOk (k + j) ds ∧ xs.Nodup ∧ (∀ x ∈ xs, l ≤ x ∧ x < p) ∧ (xs.length : Int) ≤ n) (rgD 0 (n * 3)) 0 [.own ds, .val (.int p), .val (.int n), .val (.int l), .own ([].map PyData.int), .un, .un] ⟨[], ds, .un, .un, rfl, h, List.nodup_nil, (fun x hx => by cases hx), by rw [List.length_nil]; omega⟩ (by
    rintro j g d ⟨xs, ds2, s5, s6, rfl, h2, nd, hx, hx2⟩ hd hj
    rw [rgD_len] at hj
    obtain ⟨i, rfl, i0, i1⟩ := mem_rgD.mp hd
    obtain ⟨ds3, ys, s6', e, h3, nd3, hy, hy2⟩ := places_step (s5 := .val (.int i)) (s6 := s6) h2 (by omega) hp hp2 hl hl2 (by omega) nd hx hx2
    exact ⟨[.own ds2, .val (.int p), .val (.int n), .val (.int l), .own (xs.map PyData.int), .val (.int i), s6], _, rfl, e, ⟨ys, ds3, .val (.int i), s6', rfl, h3, nd3, hy, hy2⟩⟩)
  have dk : DiceOk (k + 180) ds' := d_keep h2 (by rw [rgD_len]; omega)
  refine ⟨if xs = [] then [l] else xs, ds', ?_, ?_, ?_, ?_, ?_, dk, places_end (okRg' (by omega) (by omega)) (by omega) (by omega) e⟩
  all_goals by_cases ex : xs = []
  · rw [if_pos ex]; simp
  · rw [if_neg ex]; exact ex
  · rw [if_pos ex]; simp
  · rw [if_neg ex]; exact nd
  · rw [if_pos ex]; intro x hx3; rw [List.mem_singleton] at hx3; omega
  · rw [if_neg ex]; intro x hx3; have := hx x hx3; omega
  · rw [if_pos ex]; intro x hx3; rw [List.mem_singleton] at hx3; omega
  · rw [if_neg ex]; intro x hx3; exact (hx x hx3).1
  · rw [if_pos ex]; simp; omega
  · rw [if_neg ex]; exact hx2
end Lib
end
section
set_option Elab.async false
set_option linter.all false
set_option maxRecDepth 100000
set_option maxHeartbeats 4000000
set_option exponentiation.threshold 3000
namespace Lib
open PySem PySem.Spec PyProof.Rows L2 EV
local macro_rules | `(tactic| walk_at "ev") => `(tactic| try simp only [e_bodyM, e_seq, e_nil, e_if, e_set, e_ret, e_drop, e_par, e_asg, e_for, e_app, e_setix, e_aug, e_name, e_c, e_anil, e_acons, e_bin, e_cmp, e_brk, e_cnt, e_retn, e_ix, e_call, e_fn, e_fn0, e_fnD, e_ifx, e_oft, e_tru, e_not, e_and, e_or, e_andv, e_orv, e_notv, e_neg, e_isi, e_chain, e_lst, e_tup, e_it, e_rg1, e_rg2, e_zip, e_enum, e_revi, e_rev, e_o0, e_o1, e_sl, e_dict0, e_yes, e_comp, e_pop, e_asB, e_toDd, e_toDf, e_toDs, e_lkd, e_lkf, e_lks, e_lan, e_lac, e_tdn, e_tdc, e_tsn, e_tsd, e_tsf, e_tss, e_snd, e_snf, e_snn, e_snc, e_sod, e_sof, e_st, e_fln, e_keep, e_itl, e_itt, e_rr1, e_rr2, e_tupRg, e_lstRg, e_revR, e_popAt, e_ext, e_tupRev, e_repL, e_lenSet, e_enumA, e_zipA, e_zip3, d_addT, flat1,
  d_add, d_sub, d_lt, d_le, d_gt, d_ge, d_eq, d_ne, d_ixl, d_ixt, d_lenl, d_lent, d_inti, d_intb, d_abs, d_max2, d_min2, d_tupl, d_tupt, d_lsl, d_lst, d_rb, t_b, t_i, t_l, t_t, is_nb, is_bb, k_ii, k_ib, k_bi, k_bb, k_ni, k_si, k_ti, k_li, k_di, k_tt, isNone, isBl,
  Option.bind_some, Option.bind_none, Option.map_some, Option.map_none, List.append_nil, List.cons_append, List.nil_append, List.replicate, List.getElem?_cons_zero, List.getElem?_cons_succ, List.getElem?_nil, List.set_cons_zero, List.set_cons_succ, List.length_cons, List.length_nil, List.mapIdx_cons, List.mapIdx_nil, List.contains_nil, List.contains_cons, Bool.false_eq_true, if_true, if_false, reduceIte, Bool.not_true, Bool.not_false, Option.getD_some, Function.comp, List.map_cons, List.map_nil,
  Nat.reduceLT, Nat.reduceAdd, Nat.reduceBEq, Nat.reduceEqDiff, Nat.reduceLeDiff, Int.reduceLT, Int.reduceLE, decide_true, decide_false, beq_self_eq_true, Bool.or_false, Bool.or_true, Bool.true_or, Bool.false_or, Bool.and_true, Bool.true_and, Bool.and_false, Bool.false_and, and_self, Nat.zero_add])
/-! ### sums, multiples and values, in general -/
theorem sharp_id {xs : List Int} (h : Sharp xs) : trimL xs = xs := by
  refine sharp_eq (sharp_trim _) h fun i => cf_trim xs i
theorem cf_map {f : Int → Int} (h : f 0 = 0) (xs : List Int) (i : Nat) : cf (xs.map f) i = f (cf xs i) := by
  by_cases hi : i < xs.length
  · rw [cf_at (by rw [List.length_map]; exact hi), cf_at hi, List.getElem_map]
  · rw [cf_out (by rw [List.length_map]; omega), cf_out (by omega), h]
theorem in_map {p c : Int} (hp : 0 < p) (xs : List Int) : InF p (xs.map fun x => c * x % p) := by
  intro y hy
  obtain ⟨x, _, rfl⟩ := List.mem_map.mp hy
  exact ⟨Int.emod_nonneg _ (by omega), Int.emod_lt_of_pos _ hp⟩
theorem zeros_trim {xs : List Int} (h : ∀ i, cf xs i = 0) : trimL xs = [] := by
  refine sharp_eq (sharp_trim _) (.inl rfl) fun i => ?_
  rw [cf_trim, h, cf_nil]
theorem times_zero (p : Int) (xs : List Int) : trimL (xs.map fun x => 0 * x % p) = [] := by
  refine zeros_trim fun i => ?_
  rw [cf_map (by simp)]
  simp
theorem minus_self {p : Int} (hp : 0 < p) {xs : List Int} (hx : InF p xs) : trimL (addL p xs (trimL (xs.map fun x => (p - 1) * x % p))) = [] := by
  refine zeros_trim fun i => ?_
  have r := cf_in hp (addL_in' hp xs (trimL (xs.map fun x => (p - 1) * x % p))) i
  refine cg_eq (cg_tr (cf_addL i) ?_) r.1 r.2 (Int.le_refl 0) hp
  rw [cf_trim, cf_map (by simp)]
  obtain ⟨k, h⟩ := cg_mod p ((p - 1) * cf xs i)
  rw [h]
  exact ⟨cf xs i + k, by grind⟩
theorem mul_poly {p : Int} (hf : isFld p = true) {xs ys : List Int} (hx : Poly p xs) (hy : Poly p ys) (hl : xs.length + ys.length ≤ 62) : Poly p (mulL p xs ys) := by
  have hp := fld_pos hf
  refine ⟨mulL_in (by omega) xs ys, ?_, mulL_sharp (by omega) (no_zero hf) hx.1 hy.1 hx.2.2 hy.2.2⟩
  by_cases ex : xs = []
  · unfold mulL; rw [if_pos (.inl ex)]; simp
  by_cases ey : ys = []
  · unfold mulL; rw [if_pos (.inr ey)]; simp
  rw [mulL_len ex ey]
  omega
def fieldPs : List Int := [5, 7, 11, 13, 17, 31, 101, 499, 991, 997]
theorem fieldPs_fld : ∀ p ∈ fieldPs, isFld p = true := by decide +kernel
theorem t_po_field {k : Nat} {ds : List Da} (h : DiceOk k ds) (hk : k ≤ 1000000) : ∃ p ds', isFld p = true ∧ DiceOk (k + 1) ds' ∧ F__law_po_field [.own ds] = some (.dat (.int p), [.own ds']) := by
  obtain ⟨p, ds', hp, h1, e⟩ := t_pickI (xs := fieldPs) h hk (by decide) (by decide)
  refine ⟨p, ds', fieldPs_fld p hp, h1, ?_⟩
  unfold F__law_po_field m__law_po_field
  walk_at "ev"
  rw [if_pos (show 10 ≤ sizeLine by decide)]
  walk_at "ev"
  rw [show [PyData.int 5, .int 7, .int 11, .int 13, .int 17, .int 31, .int 101, .int 499, .int 991, .int 997] = fieldPs.map PyData.int from rfl, e]
  walk_at "ev"
end Lib
end
section
set_option Elab.async false
set_option linter.all false
set_option maxRecDepth 100000
set_option maxHeartbeats 4000000
set_option exponentiation.threshold 3000
namespace K03
open PySem PySem.Spec PyProof.Rows L2 EV
local macro_rules | `(tactic| walk_at "ev") => `(tactic| try simp only [e_bodyM, e_seq, e_nil, e_if, e_set, e_ret, e_drop, e_par, e_asg, e_for, e_app, e_setix, e_aug, e_name, e_c, e_anil, e_acons, e_bin, e_cmp, e_brk, e_cnt, e_retn, e_ix, e_call, e_fn, e_fn0, e_fnD, e_ifx, e_oft, e_tru, e_not, e_and, e_or, e_andv, e_orv, e_notv, e_neg, e_isi, e_chain, e_lst, e_tup, e_it, e_rg1, e_rg2, e_zip, e_enum, e_revi, e_rev, e_o0, e_o1, e_sl, e_dict0, e_yes, e_comp, e_pop, e_asB, e_toDd, e_toDf, e_toDs, e_lkd, e_lkf, e_lks, e_lan, e_lac, e_tdn, e_tdc, e_tsn, e_tsd, e_tsf, e_tss, e_snd, e_snf, e_snn, e_snc, e_sod, e_sof, e_st, e_fln, e_keep, e_itl, e_itt, e_rr1, e_rr2, e_tupRg, e_lstRg, e_revR, e_popAt, e_ext, e_tupRev, e_repL, e_lenSet, e_enumA, e_zipA, e_zip3, d_addT, flat1,
  d_add, d_sub, d_lt, d_le, d_gt, d_ge, d_eq, d_ne, d_ixl, d_ixt, d_lenl, d_lent, d_inti, d_intb, d_abs, d_max2, d_min2, d_tupl, d_tupt, d_lsl, d_lst, d_rb, t_b, t_i, t_l, t_t, is_nb, is_bb, k_ii, k_ib, k_bi, k_bb, k_ni, k_si, k_ti, k_li, k_di, k_tt, isNone, isBl,
  Option.bind_some, Option.bind_none, Option.map_some, Option.map_none, List.append_nil, List.cons_append, List.nil_append, List.replicate, List.getElem?_cons_zero, List.getElem?_cons_succ, List.getElem?_nil, List.set_cons_zero, List.set_cons_succ, List.length_cons, List.length_nil, List.mapIdx_cons, List.mapIdx_nil, List.contains_nil, List.contains_cons, Bool.false_eq_true, if_true, if_false, reduceIte, Bool.not_true, Bool.not_false, Option.getD_some, Function.comp, List.map_cons, List.map_nil,
  Nat.reduceLT, Nat.reduceAdd, Nat.reduceBEq, Nat.reduceEqDiff, Nat.reduceLeDiff, Int.reduceLT, Int.reduceLE, decide_true, decide_false, beq_self_eq_true, Bool.or_false, Bool.or_true, Bool.true_or, Bool.false_or, Bool.and_true, Bool.true_and, Bool.and_false, Bool.false_and, and_self, Nat.zero_add])
open Lib
theorem dr_gen {A0 A1 A2 A3 : MF} {p : Int} {X Y Q R M : List Da} {g1 : Gh} (e1 : A0 [.val (.int p), .val (.tuple X), .val (.tuple Y)] = some (.dat (.tuple [.tuple Q, .tuple R]), g1)) {g2 : Gh} (e2 : A1 [.val (.int p), .val (.tuple Q)] = some (.dat (.bool true), g2)) {g3 : Gh} (e3 : A1 [.val (.int p), .val (.tuple R)] = some (.dat (.bool true), g3)) (hl : R.length < Y.length) {g4 : Gh} (e4 : A3 [.val (.int p), .val (.tuple Q), .val (.tuple Y)] = some (.dat (.tuple M), g4)) {g5 : Gh} (e5 : A2 [.val (.int p), .val (.tuple M), .val (.tuple R)] = some (.dat (.tuple X), g5)) (e6 : dEq (.tuple X) (.tuple X) = some (.dat (.bool true))) : bodyM [] 2 ((sSeq (sAsg (mFn A0 (mCons (mName 0) (mCons (mName 1) (mCons (mName 2) mNil)))) (setT [3, 4]))
    (sSeq (sIf (mOr (mNot (mTru (mFn A1 (mCons (mName 0) (mCons (mName 3) mNil))))) (mOr (mNot (mTru (mFn A1 (mCons (mName 0) (mCons (mName 4) mNil))))) (mCmp dGe (mCall dLen (mCons (mName 4) mNil)) (mCall dLen (mCons (mName 2) mNil))))) (sRet [] (mC (.bool false))) sNil)
    (sRet [] (mBin dEq (mFn A2 (mCons (mName 0) (mCons (mFn A3 (mCons (mName 0) (mCons (mName 3) (mCons (mName 2) mNil)))) (mCons (mName 4) mNil)))) (mName 1)))))) [.val (.int p), .val (.tuple X), .val (.tuple Y)] = some (.dat (.bool true), [.val (.int p), .val (.tuple X), .val (.tuple Y)]) := by
  have hl2 : decide (((Y.length : Nat) : Int) ≤ ((R.length : Nat) : Int)) = false := decide_eq_false (by omega)
  walk_at "ev"
  rw [e1]
  walk_at "ev"
  rw [e2]
  walk_at "ev"
  rw [e3]
  walk_at "ev"
  rw [hl2]
  walk_at "ev"
  rw [e4]
  walk_at "ev"
  rw [e5]
  walk_at "ev"
  rw [e6]
  walk_at "ev"
theorem t_divided_right {p : Int} {X Y : List Int} (hf : isFld p = true) (hx : Poly p X) (hy : Poly p Y) (ne : Y ≠ []) : F__law_divided_right [.val (.int p), .val (.tuple (X.map PyData.int)), .val (.tuple (Y.map PyData.int))] = some (.dat (.bool true), [.val (.int p), .val (.tuple (X.map PyData.int)), .val (.tuple (Y.map PyData.int))]) := by
  have hp := fld_pos hf
  have lx := hx.2.1
  have ly := hy.2.1
  have y0 : 0 < Y.length := List.length_pos_iff.mpr ne
  have l1 := lead_one hf hy ne
  obtain ⟨d1, d2, d3, d4, d5, d6⟩ := div_all (lead := leadOf p Y) (by omega) hx.1 y0 l1
  have hr := div_rest (lead := leadOf p Y) (by omega) hx.1 y0 l1
  have hb := div_back (lead := leadOf p Y) (by omega) hx.1 hx.2.2 y0 l1
  have e := t_poly_divided hf hx hy ne
  have hQ := trim_poly d1 (by omega)
  have hR := trim_poly d2 (by omega)
  generalize trimL (quoL p (leadOf p Y) X Y) = Q at e hb hQ
  generalize trimL (resL p (leadOf p Y) X Y) = R at e hb hQ hR hr
  have lQ := hQ.2.1
  have lR := hR.2.1
  have lm : (trimL (mulL p Q Y)).length ≤ 500 := by
    have h1 := trimL_le (mulL p Q Y).reverse
    rw [List.reverse_reverse, List.length_reverse] at h1
    have h2 : (mulL p Q Y).length ≤ 200 := by
      by_cases ex : Q = []
      · unfold mulL; rw [if_pos (.inl ex)]; simp
      rw [mulL_len ex ne]
      omega
    omega
  have inm : InF p (trimL (mulL p Q Y)) := by
    have := trim_in (p := p) (mulL p Q Y).reverse (by rw [List.reverse_reverse]; exact mulL_in (by omega) Q Y)
    rwa [List.reverse_reverse] at this
  exact dr_gen e (t_is_poly hf hQ) (t_is_poly hf hR) (by rw [List.length_map, List.length_map]; omega) (t_po_times hp.1 hp.2 hQ.1 hy.1 (by omega) (by omega)) (by rw [t_po_sum hp.1 inm lm (by omega), hb]) (d_eqS (flat_ti X))
def rightC : MS :=
    (sSeq (sSet 6 (mFnD Lib.F__law_po_places (mCons (mName 0) (mCons (mName 1) (mCons (mBin dAdd (mC (.int 1)) (mFnD Lib.F__law_roll (mCons (mName 0) (mCons (mC (.int 9)) mNil)))) (mCons (mC (.int 0)) mNil))))))
    (sSeq (sIf (mCmp dNe (mFn Lib.F_values_at (mCons (mName 1) (mCons (mName 2) (mCons (mName 6) mNil)))) (mCall dTuple (mCons (mComp [7] (mIt (mName 6)) (setN 7) mYes (mFn Lib.F__law_po_value (mCons (mName 1) (mCons (mName 2) (mCons (mName 7) mNil))))) mNil))) (sRet [0] (mC (.bool false))) sNil)
    (sRet [0] (mBin dEq (mFn Lib.F_value_at (mCons (mName 1) (mCons (mName 5) (mCons (mName 4) mNil)))) (mBin dMod (mCall dInt (mCons (mBin dMul (mFn Lib.F__law_po_value (mCons (mName 1) (mCons (mName 2) (mCons (mName 4) mNil)))) (mFn Lib.F__law_po_value (mCons (mName 1) (mCons (mName 3) (mCons (mName 4) mNil))))) mNil)) (mName 1))))))
def rightB : MS :=
    (sSeq (sSet 5 (mFn Lib.F__law_po_times (mCons (mName 1) (mCons (mName 2) (mCons (mName 3) mNil)))))
    (sSeq (sIf (mOr (mCmp dNe (mFn Lib.F_poly_sum (mCons (mName 1) (mCons (mName 2) (mCons (mName 3) mNil)))) (mFn Lib.F__law_po_sum (mCons (mName 1) (mCons (mName 2) (mCons (mName 3) mNil))))) (mCmp dNe (mFn Lib.F_poly_scaled (mCons (mName 1) (mCons (mName 2) (mCons (mName 4) mNil)))) (mFn Lib.F__law_po_scaled (mCons (mName 1) (mCons (mName 2) (mCons (mName 4) mNil)))))) (sRet [0] (mC (.bool false))) sNil)
    (sSeq (sIf (mOr (mCmp dNe (mFn Lib.F_poly_product (mCons (mName 1) (mCons (mName 2) (mCons (mName 3) mNil)))) (mName 5)) (mOr (mCmp dNe (mFn Lib.F_poly_scaled (mCons (mName 1) (mCons (mName 2) (mCons (mC (.int 0)) mNil)))) (mTup mNil)) (mCmp dNe (mFn Lib.F_poly_sum (mCons (mName 1) (mCons (mName 2) (mCons (mFn Lib.F__law_po_scaled (mCons (mName 1) (mCons (mName 2) (mCons (mBin dSub (mName 1) (mC (.int 1))) mNil)))) mNil)))) (mTup mNil)))) (sRet [0] (mC (.bool false))) sNil)
    (sSeq (sIf (mAnd (mCmp dNe (mName 3) (mTup mNil)) (mOr (mNot (mTru (mFn F__law_divided_right (mCons (mName 1) (mCons (mName 2) (mCons (mName 3) mNil)))))) (mCmp dNe (mFn Lib.F_poly_divided (mCons (mName 1) (mCons (mName 5) (mCons (mName 3) mNil)))) (mTup (mCons (mName 2) (mCons (mTup mNil) mNil)))))) (sRet [0] (mC (.bool false))) sNil)
    rightC))))
theorem right_cut : m__law_right =
    (sSeq (sSet 1 (mFnD Lib.F__law_po_field (mCons (mName 0) mNil)))
    (sSeq (sPar [2, 3, 4] (mCons (mFnD Lib.F__law_po_drawn (mCons (mName 0) (mCons (mName 1) (mCons (mC (.int 25)) mNil)))) (mCons (mFnD Lib.F__law_po_drawn (mCons (mName 0) (mCons (mName 1) (mCons (mC (.int 25)) mNil)))) (mCons (mFnD Lib.F__law_roll (mCons (mName 0) (mCons (mName 1) mNil))) mNil))))
    (sSeq (sIf (mCmp dEq (mFnD Lib.F__law_roll (mCons (mName 0) (mCons (mC (.int 4)) mNil))) (mC (.int 0))) (sSet 3 (mFn Lib.F__law_po_sum (mCons (mName 1) (mCons (mFn Lib.F__law_po_scaled (mCons (mName 1) (mCons (mName 2) (mCons (mBin dSub (mName 1) (mC (.int 1))) mNil)))) (mCons (mFnD Lib.F__law_po_drawn (mCons (mName 0) (mCons (mName 1) (mCons (mC (.int 3)) mNil)))) mNil))))) sNil)
    rightB))) := rfl
theorem ne_nil : dNe (.tuple []) (.tuple []) = some (.dat (.bool false)) := d_neS (flat_ti [])
theorem d_neNilT (xs : List Int) : dNe (.tuple (xs.map PyData.int)) (.tuple []) = some (.dat (.bool (!xs.isEmpty))) := by
  rw [d_neD _ _ (ok_flat (flat_ti xs)) (ok_flat (flat_tuple (n := 0) (xs := []) fun x hx => by cases hx))]
  cases xs <;> simp only [PyData.eqv, PyData.eqvAll, List.isEmpty, List.map_cons, List.map_nil]
theorem t_rightC {k : Nat} {ds : List Da} {p c : Int} {X Y : List Int} (h : DiceOk k ds) (hk : k ≤ 50000) (hf : isFld p = true) (hx : Poly p X) (hy : Poly p Y) (lx : X.length ≤ 25) (ly : Y.length ≤ 25) (c0 : 0 ≤ c) (c1 : c < p) : ∃ ds' g, DiceOk (k + 200) ds' ∧ rightC [.own ds, .val (.int p), .val (.tuple (X.map PyData.int)), .val (.tuple (Y.map PyData.int)), .val (.int c), .val (.tuple ((mulL p X Y).map PyData.int)), .un, .un] = some (.rt (.dat (.bool true)), .own ds' :: g) := by
  have hp := fld_pos hf
  have hZ := mul_poly hf hx hy (by omega)
  have eZ := sharp_id hZ.2.2
  have sx := sharp_id hx.2.2
  have i1 := in_map (c := p - 1) (show 0 < p by omega) X
  have hS := trim_poly (p := p) i1 (by rw [List.length_map]; omega)
  have ms := minus_self (show 0 < p by omega) hx.1
  obtain ⟨m, d1, m0, m1, h1, e1⟩ := t_roll (m := 9) h (by omega) (by decide) (by decide)
  obtain ⟨ps, d2, pne, pnd, pin, pl, plen, h2, e2⟩ := t_po_places (l := 0) (n := 1 + m) h1 (by omega) hp.1 hp.2 (by decide) (by omega) (by omega) (by omega)
  have q := compL_of (vs := [7]) (tg := setN 7) (el := mFn Lib.F__law_po_value (mCons (mName 1) (mCons (mName 2) (mCons (mName 7) mNil)))) (e := PyData.int) (F := fun a => .int (evZ a X % p)) (g := [.own d2, .val (.int p), .val (.tuple (X.map PyData.int)), .val (.tuple (Y.map PyData.int)), .val (.int c), .val (.tuple ((mulL p X Y).map PyData.int)), .val (.tuple (ps.map PyData.int)), .un]) (xs := ps) (by
    intro a h
    obtain ⟨h1, h2⟩ := pin a h
    refine ⟨[.own d2, .val (.int p), .val (.tuple (X.map PyData.int)), .val (.tuple (Y.map PyData.int)), .val (.int c), .val (.tuple ((mulL p X Y).map PyData.int)), .val (.tuple (ps.map PyData.int)), .val (.int a)], .dat (.int (evZ a X % p)), [.own d2, .val (.int p), .val (.tuple (X.map PyData.int)), .val (.tuple (Y.map PyData.int)), .val (.int c), .val (.tuple ((mulL p X Y).map PyData.int)), .val (.tuple (ps.map PyData.int)), .val (.int a)], [.own d2, .val (.int p), .val (.tuple (X.map PyData.int)), .val (.tuple (Y.map PyData.int)), .val (.int c), .val (.tuple ((mulL p X Y).map PyData.int)), .val (.tuple (ps.map PyData.int)), .val (.int a)], rfl, ?_, rfl, rfl⟩
    walk_at "ev"
    rw [t_po_value hp.1 hp.2 h1 h2 hx.1]
    walk_at "ev")
  have ee : (ps.map fun a => PyData.int (evZ a X % p)) = (ps.map fun a => evZ a X % p).map PyData.int := by rw [List.map_map]; rfl
  have ev : evZ c (mulL p X Y) % p = evZ c X % p * (evZ c Y % p) % p := by
    rw [mm]
    exact cg_emod (ev_mulL p c X Y)
  have r1 : 0 ≤ evZ c X % p ∧ evZ c X % p < p := ⟨Int.emod_nonneg _ (by omega), Int.emod_lt_of_pos _ (by omega)⟩
  have r2 : 0 ≤ evZ c Y % p ∧ evZ c Y % p < p := ⟨Int.emod_nonneg _ (by omega), Int.emod_lt_of_pos _ (by omega)⟩
  have lZ := hZ.2.1
  have lps : ps.length ≤ 60 := by omega
  refine ⟨d2, [.val (.int p), .val (.tuple (X.map PyData.int)), .val (.tuple (Y.map PyData.int)), .val (.int c), .val (.tuple ((mulL p X Y).map PyData.int)), .val (.tuple (ps.map PyData.int)), .un], d_keep h2 (by omega), ?_⟩
  unfold rightC
  walk_at "ev"
  rw [e1]
  walk_at "ev"
  rw [e2]
  walk_at "ev"
  rw [t_values_at hf hx pin lps pnd pne]
  walk_at "ev"
  rw [if_pos (by rw [List.length_map]; exact sl_lt (by omega))]
  try simp only [wipeG, List.set_cons_zero, List.set_cons_succ]
  rw [q]
  try simp only [Option.bind_some, restore, List.getElem?_cons_zero, List.getElem?_cons_succ, List.set_cons_zero, List.set_cons_succ]
  walk_at "ev"
  rw [ee, d_neS (flat_ti _)]
  walk_at "ev"
  rw [t_value_at hf hZ c0 c1]
  walk_at "ev"
  rw [t_po_value hp.1 hp.2 c0 c1 hx.1]
  walk_at "ev"
  rw [t_po_value hp.1 hp.2 c0 c1 hy.1]
  walk_at "ev"
  rw [d_mul _ _ (big r1.1 (by omega)) (big r2.1 (by omega))]
  walk_at "ev"
  rw [d_mod _ _ (by omega), ← ev]
  walk_at "ev"
theorem rb_gen {A0 A1 A2 A3 A4 A5 A6 A7 : MF} {C : MS} {ds ds' : List Da} {p c : Int} {X Y Z S1 S2 N : List Da} {h0 h1 h2 h3 h4 h5 h6 h7 h8 h9 h10 : Gh} {g : Gh}
  (e0 : A0 [.val (.int p), .val (.tuple X), .val (.tuple Y)] = some (.dat (.tuple Z), h0))
  (e1 : A1 [.val (.int p), .val (.tuple X), .val (.tuple Y)] = some (.dat (.tuple S1), h1))
  (e2 : A2 [.val (.int p), .val (.tuple X), .val (.tuple Y)] = some (.dat (.tuple S1), h2))
  (e3 : A3 [.val (.int p), .val (.tuple X), .val (.int c)] = some (.dat (.tuple S2), h3))
  (e4 : A4 [.val (.int p), .val (.tuple X), .val (.int c)] = some (.dat (.tuple S2), h4))
  (e5 : A5 [.val (.int p), .val (.tuple X), .val (.tuple Y)] = some (.dat (.tuple Z), h5))
  (e6 : A3 [.val (.int p), .val (.tuple X), .val (.int 0)] = some (.dat (.tuple []), h6))
  (e7 : A4 [.val (.int p), .val (.tuple X), .val (.int (p - 1))] = some (.dat (.tuple N), h7))
  (e8 : A1 [.val (.int p), .val (.tuple X), .val (.tuple N)] = some (.dat (.tuple []), h8))
  (n1 : dNe (.tuple S1) (.tuple S1) = some (.dat (.bool false))) (n2 : dNe (.tuple S2) (.tuple S2) = some (.dat (.bool false))) (n3 : dNe (.tuple Z) (.tuple Z) = some (.dat (.bool false)))
  (n4 : dNe (.tuple Y) (.tuple []) = some (.dat (.bool (!Y.isEmpty)))) (n5 : dNe (.tuple [.tuple X, .tuple []]) (.tuple [.tuple X, .tuple []]) = some (.dat (.bool false)))
  (hY : Y = [] ∨ Y ≠ [] ∧ A6 [.val (.int p), .val (.tuple X), .val (.tuple Y)] = some (.dat (.bool true), h9) ∧ A7 [.val (.int p), .val (.tuple Z), .val (.tuple Y)] = some (.dat (.tuple [.tuple X, .tuple []]), h10))
  (eC : C [.own ds, .val (.int p), .val (.tuple X), .val (.tuple Y), .val (.int c), .val (.tuple Z), .un, .un] = some (.rt (.dat (.bool true)), .own ds' :: g)) :
  ((sSeq (sSet 5 (mFn A0 (mCons (mName 1) (mCons (mName 2) (mCons (mName 3) mNil)))))
    (sSeq (sIf (mOr (mCmp dNe (mFn A1 (mCons (mName 1) (mCons (mName 2) (mCons (mName 3) mNil)))) (mFn A2 (mCons (mName 1) (mCons (mName 2) (mCons (mName 3) mNil))))) (mCmp dNe (mFn A3 (mCons (mName 1) (mCons (mName 2) (mCons (mName 4) mNil)))) (mFn A4 (mCons (mName 1) (mCons (mName 2) (mCons (mName 4) mNil)))))) (sRet [0] (mC (.bool false))) sNil)
    (sSeq (sIf (mOr (mCmp dNe (mFn A5 (mCons (mName 1) (mCons (mName 2) (mCons (mName 3) mNil)))) (mName 5)) (mOr (mCmp dNe (mFn A3 (mCons (mName 1) (mCons (mName 2) (mCons (mC (.int 0)) mNil)))) (mTup mNil)) (mCmp dNe (mFn A1 (mCons (mName 1) (mCons (mName 2) (mCons (mFn A4 (mCons (mName 1) (mCons (mName 2) (mCons (mBin dSub (mName 1) (mC (.int 1))) mNil)))) mNil)))) (mTup mNil)))) (sRet [0] (mC (.bool false))) sNil)
    (sSeq (sIf (mAnd (mCmp dNe (mName 3) (mTup mNil)) (mOr (mNot (mTru (mFn A6 (mCons (mName 1) (mCons (mName 2) (mCons (mName 3) mNil)))))) (mCmp dNe (mFn A7 (mCons (mName 1) (mCons (mName 5) (mCons (mName 3) mNil)))) (mTup (mCons (mName 2) (mCons (mTup mNil) mNil)))))) (sRet [0] (mC (.bool false))) sNil)
    C))))) [.own ds, .val (.int p), .val (.tuple X), .val (.tuple Y), .val (.int c), .un, .un, .un] = some (.rt (.dat (.bool true)), .own ds' :: g) := by
  have n0 : dNe (.tuple []) (.tuple []) = some (.dat (.bool false)) := ne_nil
  walk_at "ev"
  rw [e0]
  walk_at "ev"
  rw [e1]
  walk_at "ev"
  rw [e2]
  walk_at "ev"
  rw [n1]
  walk_at "ev"
  rw [e3]
  walk_at "ev"
  rw [e4]
  walk_at "ev"
  rw [n2]
  walk_at "ev"
  rw [e5]
  walk_at "ev"
  rw [n3]
  walk_at "ev"
  rw [e6]
  walk_at "ev"
  rw [if_pos (show 0 ≤ sizeLine by decide)]
  walk_at "ev"
  rw [n0]
  walk_at "ev"
  rw [e7]
  walk_at "ev"
  rw [e8]
  walk_at "ev"
  rw [if_pos (show 0 ≤ sizeLine by decide)]
  walk_at "ev"
  rw [n0]
  walk_at "ev"
  rw [if_pos (show 0 ≤ sizeLine by decide)]
  walk_at "ev"
  rw [n4]
  walk_at "ev"
  rcases hY with rfl | ⟨hY, e9, e10⟩
  · simp only [List.isEmpty_nil, Bool.not_true]
    walk_at "ev"
    rw [eC]
  · have ye : Y.isEmpty = false := by cases Y with | nil => exact absurd rfl hY | cons y r => rfl
    rw [ye]
    walk_at "ev"
    rw [e9]
    walk_at "ev"
    rw [e10]
    walk_at "ev"
    rw [if_pos (show 0 ≤ sizeLine by decide)]
    walk_at "ev"
    rw [if_pos (show 2 ≤ sizeLine by decide)]
    walk_at "ev"
    rw [n5]
    walk_at "ev"
    rw [eC]
theorem t_rightB {k : Nat} {ds : List Da} {p c : Int} {X Y : List Int} (h : DiceOk k ds) (hk : k ≤ 50000) (hf : isFld p = true) (hx : Poly p X) (hy : Poly p Y) (lx : X.length ≤ 25) (ly : Y.length ≤ 25) (c0 : 0 ≤ c) (c1 : c < p) : ∃ ds' g, DiceOk (k + 200) ds' ∧ rightB [.own ds, .val (.int p), .val (.tuple (X.map PyData.int)), .val (.tuple (Y.map PyData.int)), .val (.int c), .un, .un, .un] = some (.rt (.dat (.bool true)), .own ds' :: g) := by
  have hp := fld_pos hf
  have hZ := mul_poly hf hx hy (by omega)
  have eZ := sharp_id hZ.2.2
  have sx := sharp_id hx.2.2
  have i1 := in_map (c := p - 1) (show 0 < p by omega) X
  have hS := trim_poly (p := p) i1 (by rw [List.length_map]; omega)
  have ms := minus_self (show 0 < p by omega) hx.1
  obtain ⟨ds', g, hd, eC⟩ := t_rightC h hk hf hx hy lx ly c0 c1
  have lZ := hZ.2.1
  refine ⟨ds', g, hd, ?_⟩
  have hmap : (Y.map PyData.int).isEmpty = Y.isEmpty := by cases Y <;> rfl
  have n4 := d_neNilT Y
  rw [← hmap] at n4
  refine rb_gen (h9 := [.val (.int p), .val (.tuple (X.map PyData.int)), .val (.tuple (Y.map PyData.int))]) (h10 := [.val (.int p), .val (.tuple ((mulL p X Y).map PyData.int)), .val (.tuple (Y.map PyData.int))]) (by rw [t_po_times hp.1 hp.2 hx.1 hy.1 (by omega) (by omega), eZ]) (t_poly_sum hf hx hy) (t_po_sum hp.1 hx.1 (by omega) (by omega)) (t_poly_scaled hf c0 c1 hx) (t_po_scaled hp.1 hp.2 c0 c1 hx.1 (by omega)) (t_poly_product hf hx hy (by omega)) (by rw [t_poly_scaled hf (by decide) (by omega) hx, times_zero]; rfl) (t_po_scaled hp.1 hp.2 (by omega) (by omega) hx.1 (by omega)) (by rw [t_poly_sum hf hx hS, ms]; rfl) (d_neS (flat_ti _)) (d_neS (flat_ti _)) (d_neS (flat_ti _)) n4 (d_neS (flat_tuple (n := 1) fun z hz => by
      simp only [List.mem_cons, List.not_mem_nil, or_false] at hz
      rcases hz with rfl | rfl
      · exact flat_ti X
      · exact flat_ti [])) ?_ eC
  by_cases ey : Y = []
  · left
    rw [ey]
    rfl
  · right
    have y0 : 0 < Y.length := List.length_pos_iff.mpr ey
    have yl := poly_last (by omega) hy ey
    have de := div_exact (show 0 < p by omega) (no_zero hf) hZ.1 hx.1 hx.2.2 y0 (lead_one hf hy ey) (fun h => by have := in_cg0 h (by omega) yl.2; omega) (fun i => cf_mulL X Y i)
    refine ⟨fun h => ey (List.map_eq_nil_iff.mp h), t_divided_right hf hx hy ey, ?_⟩
    rw [t_poly_divided hf hZ hy ey, de.1, de.2]
    rfl
end K03
end
section
set_option Elab.async false
set_option linter.all false
set_option maxRecDepth 100000
set_option maxHeartbeats 4000000
set_option exponentiation.threshold 3000
namespace K03
open PySem PySem.Spec PyProof.Rows L2 EV
local macro_rules | `(tactic| walk_at "ev") => `(tactic| try simp only [e_bodyM, e_seq, e_nil, e_if, e_set, e_ret, e_drop, e_par, e_asg, e_for, e_app, e_setix, e_aug, e_name, e_c, e_anil, e_acons, e_bin, e_cmp, e_brk, e_cnt, e_retn, e_ix, e_call, e_fn, e_fn0, e_fnD, e_ifx, e_oft, e_tru, e_not, e_and, e_or, e_andv, e_orv, e_notv, e_neg, e_isi, e_chain, e_lst, e_tup, e_it, e_rg1, e_rg2, e_zip, e_enum, e_revi, e_rev, e_o0, e_o1, e_sl, e_dict0, e_yes, e_comp, e_pop, e_asB, e_toDd, e_toDf, e_toDs, e_lkd, e_lkf, e_lks, e_lan, e_lac, e_tdn, e_tdc, e_tsn, e_tsd, e_tsf, e_tss, e_snd, e_snf, e_snn, e_snc, e_sod, e_sof, e_st, e_fln, e_keep, e_itl, e_itt, e_rr1, e_rr2, e_tupRg, e_lstRg, e_revR, e_popAt, e_ext, e_tupRev, e_repL, e_lenSet, e_enumA, e_zipA, e_zip3, d_addT, flat1,
  d_add, d_sub, d_lt, d_le, d_gt, d_ge, d_eq, d_ne, d_ixl, d_ixt, d_lenl, d_lent, d_inti, d_intb, d_abs, d_max2, d_min2, d_tupl, d_tupt, d_lsl, d_lst, d_rb, t_b, t_i, t_l, t_t, is_nb, is_bb, k_ii, k_ib, k_bi, k_bb, k_ni, k_si, k_ti, k_li, k_di, k_tt, isNone, isBl,
  Option.bind_some, Option.bind_none, Option.map_some, Option.map_none, List.append_nil, List.cons_append, List.nil_append, List.replicate, List.getElem?_cons_zero, List.getElem?_cons_succ, List.getElem?_nil, List.set_cons_zero, List.set_cons_succ, List.length_cons, List.length_nil, List.mapIdx_cons, List.mapIdx_nil, List.contains_nil, List.contains_cons, Bool.false_eq_true, if_true, if_false, reduceIte, Bool.not_true, Bool.not_false, Option.getD_some, Function.comp, List.map_cons, List.map_nil,
  Nat.reduceLT, Nat.reduceAdd, Nat.reduceBEq, Nat.reduceEqDiff, Nat.reduceLeDiff, Int.reduceLT, Int.reduceLE, decide_true, decide_false, beq_self_eq_true, Bool.or_false, Bool.or_true, Bool.true_or, Bool.false_or, Bool.and_true, Bool.true_and, Bool.and_false, Bool.false_and, and_self, Nat.zero_add])
open Lib
theorem right_gen {A0 A1 A2 A3 A4 : MF} {B : MS} {ds d1 d2 d3 d4 d5 d6 d7 : List Da} {p c r : Int} {X Y Y1 N D : List Da} {h7 h8 : Gh} {g : Gh}
  (e0 : A0 [.own ds] = some (.dat (.int p), [.own d1]))
  (e1 : A1 [.own d1, .val (.int p), .val (.int 25)] = some (.dat (.tuple X), [.own d2, .val (.int p), .val (.int 25)]))
  (e2 : A1 [.own d2, .val (.int p), .val (.int 25)] = some (.dat (.tuple Y), [.own d3, .val (.int p), .val (.int 25)]))
  (e3 : A2 [.own d3, .val (.int p)] = some (.dat (.int c), [.own d4, .val (.int p)]))
  (e4 : A2 [.own d4, .val (.int 4)] = some (.dat (.int r), [.own d5, .val (.int 4)]))
  (e5 : A4 [.val (.int p), .val (.tuple X), .val (.int (p - 1))] = some (.dat (.tuple N), h7))
  (e6 : A1 [.own d5, .val (.int p), .val (.int 3)] = some (.dat (.tuple D), [.own d6, .val (.int p), .val (.int 3)]))
  (e7 : A3 [.val (.int p), .val (.tuple N), .val (.tuple D)] = some (.dat (.tuple Y1), h8))
  (eB : if r = 0 then B [.own d6, .val (.int p), .val (.tuple X), .val (.tuple Y1), .val (.int c), .un, .un, .un] = some (.rt (.dat (.bool true)), .own d7 :: g) else B [.own d5, .val (.int p), .val (.tuple X), .val (.tuple Y), .val (.int c), .un, .un, .un] = some (.rt (.dat (.bool true)), .own d7 :: g)) :
  bodyM [0] 7 ((sSeq (sSet 1 (mFnD A0 (mCons (mName 0) mNil)))
    (sSeq (sPar [2, 3, 4] (mCons (mFnD A1 (mCons (mName 0) (mCons (mName 1) (mCons (mC (.int 25)) mNil)))) (mCons (mFnD A1 (mCons (mName 0) (mCons (mName 1) (mCons (mC (.int 25)) mNil)))) (mCons (mFnD A2 (mCons (mName 0) (mCons (mName 1) mNil))) mNil))))
    (sSeq (sIf (mCmp dEq (mFnD A2 (mCons (mName 0) (mCons (mC (.int 4)) mNil))) (mC (.int 0))) (sSet 3 (mFn A3 (mCons (mName 1) (mCons (mFn A4 (mCons (mName 1) (mCons (mName 2) (mCons (mBin dSub (mName 1) (mC (.int 1))) mNil)))) (mCons (mFnD A1 (mCons (mName 0) (mCons (mName 1) (mCons (mC (.int 3)) mNil)))) mNil))))) sNil)
    B)))) [.own ds] = some (.dat (.bool true), [.own d7]) := by
  walk_at "ev"
  rw [e0]
  walk_at "ev"
  rw [e1]
  walk_at "ev"
  rw [e2]
  walk_at "ev"
  rw [e3]
  walk_at "ev"
  rw [e4]
  walk_at "ev"
  by_cases h : r = 0
  · rw [if_pos h] at eB
    rw [show (r == 0) = true by simpa using h]
    walk_at "ev"
    rw [e5]
    walk_at "ev"
    rw [e6]
    walk_at "ev"
    rw [e7]
    walk_at "ev"
    rw [eB]
    rfl
  · rw [if_neg h] at eB
    rw [show (r == 0) = false by simpa using h]
    walk_at "ev"
    rw [eB]
    rfl
theorem t_right {k : Nat} {ds : List Da} (h : DiceOk k ds) (hk : k ≤ 40000) : ∃ ds', DiceOk (k + 600) ds' ∧ F__law_right [.own ds] = some (.dat (.bool true), [.own ds']) := by
  obtain ⟨p, d1, hf, h1, e1⟩ := t_po_field h (by omega)
  have hp := fld_pos hf
  obtain ⟨X, d2, hX, lX, h2, e2⟩ := t_po_drawn (m := 25) h1 (by omega) hp.1 hp.2 (by decide)
  obtain ⟨Y, d3, hY, lY, h3, e3⟩ := t_po_drawn (m := 25) h2 (by omega) hp.1 hp.2 (by decide)
  obtain ⟨c, d4, c0, c1, h4, e4⟩ := t_roll (m := p) h3 (by omega) (by omega) (by omega)
  obtain ⟨r, d5, r0, r1, h5, e5⟩ := t_roll (m := 4) h4 (by omega) (by decide) (by decide)
  obtain ⟨D, d6, hD, lD, h6, e6⟩ := t_po_drawn (m := 3) h5 (by omega) hp.1 hp.2 (by decide)
  have i1 := in_map (c := p - 1) (show 0 < p by omega) X
  have hN := trim_poly (p := p) i1 (by rw [List.length_map]; omega)
  have lN : (trimL (X.map fun x => (p - 1) * x % p)).length ≤ 25 := by
    have := trimL_le (X.map fun x => (p - 1) * x % p).reverse
    rw [List.reverse_reverse, List.length_reverse, List.length_map] at this
    omega
  have eN := t_po_scaled (c := p - 1) hp.1 hp.2 (by omega) (by omega) hX.1 (by omega)
  generalize trimL (X.map fun x => (p - 1) * x % p) = N at hN lN eN
  have iS := addL_in' (show 0 < p by omega) N D
  have lS : (addL p N D).length ≤ 25 := by unfold addL; rw [List.length_map, List.length_range]; omega
  have hY1 := trim_poly iS (by omega)
  have lY1 : (trimL (addL p N D)).length ≤ 25 := by
    have := trimL_le (addL p N D).reverse
    rw [List.reverse_reverse, List.length_reverse] at this
    omega
  have eY1 := t_po_sum hp.1 hN.1 (show N.length ≤ 500 by omega) (show D.length ≤ 500 by omega)
  unfold F__law_right
  rw [right_cut]
  by_cases h0 : r = 0
  · obtain ⟨d7, g, h7, eB⟩ := t_rightB h6 (by omega) hf hX hY1 lX lY1 c0 c1
    exact ⟨d7, d_keep h7 (by omega), right_gen e1 e2 e3 e4 e5 eN e6 eY1 (by rw [if_pos h0]; exact eB)⟩
  · obtain ⟨d7, g, h7, eB⟩ := t_rightB h5 (by omega) hf hX hY lX lY c0 c1
    exact ⟨d7, d_keep h7 (by omega), right_gen e1 e2 e3 e4 e5 eN e6 eY1 (by rw [if_neg h0]; exact eB)⟩
end K03
end
section
set_option Elab.async false
set_option linter.all false
set_option maxRecDepth 100000
set_option maxHeartbeats 4000000
set_option exponentiation.threshold 3000
namespace K03
open PySem PySem.Spec PyProof.Rows L2 EV
local macro_rules | `(tactic| walk_at "ev") => `(tactic| try simp only [e_bodyM, e_seq, e_nil, e_if, e_set, e_ret, e_drop, e_par, e_asg, e_for, e_app, e_setix, e_aug, e_name, e_c, e_anil, e_acons, e_bin, e_cmp, e_brk, e_cnt, e_retn, e_ix, e_call, e_fn, e_fn0, e_fnD, e_ifx, e_oft, e_tru, e_not, e_and, e_or, e_andv, e_orv, e_notv, e_neg, e_isi, e_chain, e_lst, e_tup, e_it, e_rg1, e_rg2, e_zip, e_enum, e_revi, e_rev, e_o0, e_o1, e_sl, e_dict0, e_yes, e_comp, e_pop, e_asB, e_toDd, e_toDf, e_toDs, e_lkd, e_lkf, e_lks, e_lan, e_lac, e_tdn, e_tdc, e_tsn, e_tsd, e_tsf, e_tss, e_snd, e_snf, e_snn, e_snc, e_sod, e_sof, e_st, e_fln, e_keep, e_itl, e_itt, e_rr1, e_rr2, e_tupRg, e_lstRg, e_revR, e_popAt, e_ext, e_tupRev, e_repL, e_lenSet, e_enumA, e_zipA, e_zip3, d_addT, flat1,
  d_add, d_sub, d_lt, d_le, d_gt, d_ge, d_eq, d_ne, d_ixl, d_ixt, d_lenl, d_lent, d_inti, d_intb, d_abs, d_max2, d_min2, d_tupl, d_tupt, d_lsl, d_lst, d_rb, t_b, t_i, t_l, t_t, is_nb, is_bb, k_ii, k_ib, k_bi, k_bb, k_ni, k_si, k_ti, k_li, k_di, k_tt, isNone, isBl,
  Option.bind_some, Option.bind_none, Option.map_some, Option.map_none, List.append_nil, List.cons_append, List.nil_append, List.replicate, List.getElem?_cons_zero, List.getElem?_cons_succ, List.getElem?_nil, List.set_cons_zero, List.set_cons_succ, List.length_cons, List.length_nil, List.mapIdx_cons, List.mapIdx_nil, List.contains_nil, List.contains_cons, Bool.false_eq_true, if_true, if_false, reduceIte, Bool.not_true, Bool.not_false, Option.getD_some, Function.comp, List.map_cons, List.map_nil,
  Nat.reduceLT, Nat.reduceAdd, Nat.reduceBEq, Nat.reduceEqDiff, Nat.reduceLeDiff, Int.reduceLT, Int.reduceLE, decide_true, decide_false, beq_self_eq_true, Bool.or_false, Bool.or_true, Bool.true_or, Bool.false_or, Bool.and_true, Bool.true_and, Bool.and_false, Bool.false_and, and_self, Nat.zero_add])
open Lib
/-! ### roots -/
def prd (a : Int) : List Int → Int
  | [] => 1
  | r :: rs => (a - r) * prd a rs
theorem prd_zero {p a : Int} (np : NoZ p) (hp : 1 < p) (ha : 0 ≤ a ∧ a < p) : ∀ rs : List Int, InF p rs → Cg p (prd a rs) 0 → a ∈ rs
  | [], _, h => by
    have : (1 : Int) = 0 := cg_eq h (by decide) hp (Int.le_refl 0) (by omega)
    omega
  | r :: rs, hr, h => by
    rcases np _ _ h with h1 | h1
    · have hr0 := hr r List.mem_cons_self
      obtain ⟨k, h1⟩ := h1
      have : a = r := cg_eq ⟨k, by omega⟩ ha.1 ha.2 hr0.1 hr0.2
      exact this ▸ List.mem_cons_self
    · exact List.mem_cons_of_mem _ (prd_zero np hp ha rs (fun x hx => hr x (List.mem_cons_of_mem _ hx)) h1)
theorem prd_mem {a : Int} : ∀ rs : List Int, a ∈ rs → prd a rs = 0
  | r :: rs, h => by
    rcases List.mem_cons.mp h with rfl | h
    · show (a - a) * prd a rs = 0
      rw [Int.sub_self, Int.zero_mul]
    · show (a - r) * prd a rs = 0
      rw [prd_mem rs h, Int.mul_zero]
theorem lin_poly {p r : Int} (hp : 5 ≤ p) : Poly p [(0 - r) % p, 1] := by
  refine ⟨fun x hx => ?_, by simp, .inr ⟨[(0 - r) % p], 1, rfl, by decide⟩⟩
  rcases List.mem_cons.mp hx with rfl | hx
  · exact ⟨Int.emod_nonneg _ (by omega), Int.emod_lt_of_pos _ (by omega)⟩
  · rw [List.mem_singleton] at hx
    omega
theorem rstep_gen {A3 A4 : MF} {p r v : Int} {S0 S2 S5 s4 : Sl} {P N : List Da} {h1 h2 : Gh} (hp : 0 < p) (hv : v = (0 - r) % p)
  (e4 : A4 [.val (.tuple [.int v, .int 1])] = some (.dat (.tuple [.int v, .int 1]), h1))
  (e3 : A3 [.val (.int p), .val (.tuple P), .val (.tuple [.int v, .int 1])] = some (.dat (.tuple N), h2)) :
  ((sSet 3 (mFn A3 (mCons (mName 1) (mCons (mName 3) (mCons (mFn A4 (mCons (mTup (mCons (mBin dMod (mCall dInt (mCons (mBin dSub (mC (.int 0)) (mName 4)) mNil)) (mName 1)) (mCons (mC (.int 1)) mNil))) mNil)) mNil)))))) [S0, .val (.int p), S2, .val (.tuple P), .val (.int r), S5] = some (.nx, [S0, .val (.int p), S2, .val (.tuple N), .val (.int r), S5]) := by
  subst hv
  walk_at "ev"
  rw [d_mod _ _ hp]
  walk_at "ev"
  try rw [if_pos (show 2 ≤ sizeLine by decide)]
  walk_at "ev"
  rw [e4]
  walk_at "ev"
  rw [e3]
  walk_at "ev"
theorem roots_loop {p : Int} (hf : isFld p = true) {S0 S2 S5 : Sl} : ∀ (rs P : List Int) (s4 : Sl), InF p rs → Poly p P → P ≠ [] → P.length + rs.length ≤ 20 → ∃ P' s4', Poly p P' ∧ P'.length = P.length + rs.length ∧ (∀ a, Cg p (evZ a P') (evZ a P * prd a rs)) ∧ forL (setN 4) (sSet 3 (mFn Lib.F_poly_product (mCons (mName 1) (mCons (mName 3) (mCons (mFn Lib.F__law_po_trim (mCons (mTup (mCons (mBin dMod (mCall dInt (mCons (mBin dSub (mC (.int 0)) (mName 4)) mNil)) (mName 1)) (mCons (mC (.int 1)) mNil))) mNil)) mNil))))) (rs.map PyData.int) [S0, .val (.int p), S2, .val (.tuple (P.map PyData.int)), s4, S5] = some (.nx, [S0, .val (.int p), S2, .val (.tuple (P'.map PyData.int)), s4', S5])
  | [], P, s4, _, hP, _, _ => ⟨P, s4, hP, rfl, (fun a => ⟨0, by simp [prd]⟩), rfl⟩
  | r :: rs, P, s4, hr, hP, ne, hl => by
    have hp := fld_pos hf
    rw [List.length_cons] at hl
    have hq := lin_poly (r := r) hp.1
    have hM := mul_poly hf hP hq (by simp; omega)
    have lM := mulL_len (p := p) ne (show [(0 - r) % p, 1] ≠ [] by simp)
    have e4 := t_po_trimT [(0 - r) % p, 1] (by simp)
    rw [poly_trim hq] at e4
    have st := rstep_gen (S0 := S0) (S2 := S2) (S5 := S5) (s4 := s4) (r := r) (show 0 < p by omega) rfl e4 (t_poly_product hf hP hq (by simp; omega))
    have lM2 : (mulL p P [(0 - r) % p, 1]).length = P.length + 1 := by rw [lM]; simp
    obtain ⟨P', s4', h1, h2, h3, h4⟩ := roots_loop hf (S0 := S0) (S2 := S2) (S5 := S5) rs (mulL p P [(0 - r) % p, 1]) (.val (.int r)) (fun x hx => hr x (List.mem_cons_of_mem _ hx)) hM (fun e => by rw [e] at lM2; simp at lM2) (by omega)
    refine ⟨P', s4', h1, by rw [h2, lM2, List.length_cons]; omega, fun a => ?_, ?_⟩
    · refine cg_tr (h3 a) ?_
      obtain ⟨k, hk⟩ := ev_mulL p a P [(0 - r) % p, 1]
      obtain ⟨l, hl⟩ := cg_mod p (0 - r)
      rw [hk]
      simp only [evZ, prd]
      rw [hl]
      exact ⟨(evZ a P * l + k) * prd a rs, by grind⟩
    · rw [List.map_cons]
      unfold forL
      show ((sSet 3 (mFn Lib.F_poly_product (mCons (mName 1) (mCons (mName 3) (mCons (mFn Lib.F__law_po_trim (mCons (mTup (mCons (mBin dMod (mCall dInt (mCons (mBin dSub (mC (.int 0)) (mName 4)) mNil)) (mName 1)) (mCons (mC (.int 1)) mNil))) mNil)) mNil))))) [S0, .val (.int p), S2, .val (.tuple (P.map PyData.int)), .val (.int r), S5]).bind _ = _
      rw [st, Option.bind_some]
      exact h4
/-- the numbers of a field -/
def numI (p : Int) : List Int := (List.range p.toNat).map fun k : Nat => (k : Int)
theorem rg_numI (p : Int) : rgD 0 p = (numI p).map PyData.int := by
  unfold rgD numI
  rw [List.map_map, Int.sub_zero]
  apply List.map_congr_left
  intro k _
  show PyData.int (0 + (k : Int)) = .int (k : Int)
  rw [Int.zero_add]
theorem mem_numI {p a : Int} : a ∈ numI p ↔ 0 ≤ a ∧ a < p := by
  unfold numI
  rw [List.mem_map]
  constructor
  · rintro ⟨k, hk, rfl⟩
    rw [List.mem_range] at hk
    omega
  · rintro ⟨h1, h2⟩
    exact ⟨a.toNat, List.mem_range.mpr (by omega), by omega⟩
theorem nodup_numI (p : Int) : (numI p).Nodup := by
  unfold numI
  rw [List.nodup_iff_pairwise_ne, List.pairwise_map]
  refine List.Pairwise.imp (R := (· ≠ ·)) (fun {a b} h e => h (Int.ofNat.inj e)) ?_
  exact List.nodup_range
theorem sorted_numI (p : Int) : (numI p).Pairwise (· ≤ ·) := by
  unfold numI
  rw [List.pairwise_map]
  refine List.Pairwise.imp (R := (· < ·)) (fun h => by omega) ?_
  exact List.pairwise_lt_range
theorem roots_sorted {p : Int} {rs : List Int} {q : Int → Bool} (hr : InF p rs) (nd : rs.Nodup) (h : ∀ a, 0 ≤ a → a < p → (q a = true ↔ a ∈ rs)) : (numI p).filter q = sortI rs := by
  refine sortI_eq ?_ ((sorted_numI p).filter q)
  refine (List.perm_ext_iff_of_nodup ((nodup_numI p).filter q) nd).mpr fun a => ?_
  rw [List.mem_filter, mem_numI]
  constructor
  · rintro ⟨⟨h1, h2⟩, h3⟩
    exact (h a h1 h2).mp h3
  · intro h1
    obtain ⟨h2, h3⟩ := hr a h1
    exact ⟨⟨h2, h3⟩, (h a h2 h3).mpr h1⟩
theorem rcomp {p : Int} {P : List Int} (hf : isFld p = true) (hP : Poly p P) {d : List Da} {S2 S4 : Sl} : (mComp [5] (mRg1 (mCons (mName 1) mNil)) (setN 5) (mCmp dEq (mFn Lib.F_value_at (mCons (mName 1) (mCons (mName 3) (mCons (mName 5) mNil)))) (mC (.int 0))) (mName 5)) [.own d, .val (.int p), S2, .val (.tuple (P.map PyData.int)), S4, .un] = some (.fresh (((numI p).filter fun a => decide (evZ a P % p = 0)).map PyData.int), [.own d, .val (.int p), S2, .val (.tuple (P.map PyData.int)), S4, .un]) := by
  have hp := fld_pos hf
  have q := compL_filter (vs := [5]) (tg := setN 5) (ts := mCmp dEq (mFn Lib.F_value_at (mCons (mName 1) (mCons (mName 3) (mCons (mName 5) mNil)))) (mC (.int 0))) (el := mName 5) (f := id) (q := fun d => match d with | .int a => decide (evZ a P % p = 0) | _ => false) (g := [.own d, .val (.int p), S2, .val (.tuple (P.map PyData.int)), S4, .un]) (ds := (numI p).map PyData.int) (by
    intro x hx
    obtain ⟨a, ha, rfl⟩ := List.mem_map.mp hx
    obtain ⟨h1, h2⟩ := mem_numI.mp ha
    refine ⟨[.own d, .val (.int p), S2, .val (.tuple (P.map PyData.int)), S4, .val (.int a)], [.own d, .val (.int p), S2, .val (.tuple (P.map PyData.int)), S4, .val (.int a)], rfl, ?_, fun _ => ⟨.dat (.int a), [.own d, .val (.int p), S2, .val (.tuple (P.map PyData.int)), S4, .val (.int a)], [.own d, .val (.int p), S2, .val (.tuple (P.map PyData.int)), S4, .val (.int a)], rfl, rfl, rfl⟩, fun _ => rfl⟩
    walk_at "ev"
    rw [t_value_at hf hP h1 h2]
    walk_at "ev"
    rfl)
  rw [List.map_id, List.filter_map, ← rg_numI] at q
  rw [e_comp, rg1_of (n := p) (ws := [.dat (.int p)]) (g' := [.own d, .val (.int p), S2, .val (.tuple (P.map PyData.int)), S4, .un]) rfl rfl (okRg' (by omega) (by omega)), Option.bind_some, if_pos (by rw [rgD_len]; exact sl_lt (by omega))]
  show (compL _ _ _ _ _ [.own d, .val (.int p), S2, .val (.tuple (P.map PyData.int)), S4, .un]).bind _ = _
  rw [q]
  rfl
theorem roots_gen {A0 A1 A2 : MF} {L : MS} {C : ME} {ds d1 d2 d3 d4 : List Da} {p m c : Int} {rs ss P : List Int} {s4 : Sl}
  (e0 : A0 [.own ds, .val (.list [.int 5, .int 7, .int 11, .int 13])] = some (.dat (.int p), [.own d1, .val (.list [.int 5, .int 7, .int 11, .int 13])]))
  (e1 : A2 [.own d1, .val (.int 4)] = some (.dat (.int m), [.own d2, .val (.int 4)]))
  (e2 : A1 [.own d2, .val (.int p), .val (.int (1 + m)), .val (.int 0)] = some (.dat (.tuple (rs.map PyData.int)), [.own d3, .val (.int p), .val (.int (1 + m)), .val (.int 0)]))
  (e3 : A2 [.own d3, .val (.int (p - 1))] = some (.dat (.int c), [.own d4, .val (.int (p - 1))]))
  (eL : L [.own d4, .val (.int p), .val (.tuple (rs.map PyData.int)), .val (.tuple [.int (1 + c)]), .un, .un] = some (.nx, [.own d4, .val (.int p), .val (.tuple (rs.map PyData.int)), .val (.tuple (P.map PyData.int)), s4, .un]))
  (hl : (((P.map PyData.int).length : Nat) : Int) = (((rs.map PyData.int).length : Nat) : Int) + 1)
  (eC : C [.own d4, .val (.int p), .val (.tuple (rs.map PyData.int)), .val (.tuple (P.map PyData.int)), s4, .un] = some (.fresh (ss.map PyData.int), [.own d4, .val (.int p), .val (.tuple (rs.map PyData.int)), .val (.tuple (P.map PyData.int)), s4, .un]))
  (hs : sortI rs = ss) :
  bodyM [0] 5 ((sSeq (sSet 1 (mFnD A0 (mCons (mName 0) (mCons (mLst (mCons (mC (.int 5)) (mCons (mC (.int 7)) (mCons (mC (.int 11)) (mCons (mC (.int 13)) mNil))))) mNil))))
    (sSeq (sPar [2, 3] (mCons (mFnD A1 (mCons (mName 0) (mCons (mName 1) (mCons (mBin dAdd (mC (.int 1)) (mFnD A2 (mCons (mName 0) (mCons (mC (.int 4)) mNil)))) (mCons (mC (.int 0)) mNil))))) (mCons (mTup (mCons (mBin dAdd (mC (.int 1)) (mFnD A2 (mCons (mName 0) (mCons (mBin dSub (mName 1) (mC (.int 1))) mNil)))) mNil)) mNil)))
    (sSeq L
    (sSeq (sIf (mCmp dNe (mCall dLen (mCons (mName 3) mNil)) (mBin dAdd (mCall dLen (mCons (mName 2) mNil)) (mC (.int 1)))) (sRet [0] (mC (.bool false))) sNil)
    (sRet [0] (mBin dEq C (mCall dSortedA (mCons (mName 2) mNil))))))))) [.own ds] = some (.dat (.bool true), [.own d4]) := by
  have es := d_sortT rs
  rw [hs] at es
  have ee : dEq (.list (ss.map PyData.int)) (.list (ss.map PyData.int)) = some (.dat (.bool true)) := d_eqS (flat_li ss)
  have ne : dNe (.int ((((rs.map PyData.int).length : Nat) : Int) + 1)) (.int ((((rs.map PyData.int).length : Nat) : Int) + 1)) = some (.dat (.bool false)) := d_neS (flat_int (n := 0) _)
  generalize hR : rs.map PyData.int = R at e2 eL hl eC es ne
  generalize hP : P.map PyData.int = Q at eL hl eC
  walk_at "ev"
  try rw [if_pos (show 4 ≤ sizeLine by decide)]
  walk_at "ev"
  rw [e0]
  walk_at "ev"
  rw [e1]
  walk_at "ev"
  rw [e2]
  walk_at "ev"
  rw [e3]
  walk_at "ev"
  try rw [if_pos (show 1 ≤ sizeLine by decide)]
  walk_at "ev"
  rw [eL]
  walk_at "ev"
  rw [hl]
  walk_at "ev"
  rw [eC]
  walk_at "ev"
  rw [es]
  walk_at "ev"
  rw [ee]
  walk_at "ev"
end K03
end
section
set_option Elab.async false
set_option linter.all false
set_option maxRecDepth 100000
set_option maxHeartbeats 4000000
set_option exponentiation.threshold 3000
namespace K03
open PySem PySem.Spec PyProof.Rows L2 EV
local macro_rules | `(tactic| walk_at "ev") => `(tactic| try simp only [e_bodyM, e_seq, e_nil, e_if, e_set, e_ret, e_drop, e_par, e_asg, e_for, e_app, e_setix, e_aug, e_name, e_c, e_anil, e_acons, e_bin, e_cmp, e_brk, e_cnt, e_retn, e_ix, e_call, e_fn, e_fn0, e_fnD, e_ifx, e_oft, e_tru, e_not, e_and, e_or, e_andv, e_orv, e_notv, e_neg, e_isi, e_chain, e_lst, e_tup, e_it, e_rg1, e_rg2, e_zip, e_enum, e_revi, e_rev, e_o0, e_o1, e_sl, e_dict0, e_yes, e_comp, e_pop, e_asB, e_toDd, e_toDf, e_toDs, e_lkd, e_lkf, e_lks, e_lan, e_lac, e_tdn, e_tdc, e_tsn, e_tsd, e_tsf, e_tss, e_snd, e_snf, e_snn, e_snc, e_sod, e_sof, e_st, e_fln, e_keep, e_itl, e_itt, e_rr1, e_rr2, e_tupRg, e_lstRg, e_revR, e_popAt, e_ext, e_tupRev, e_repL, e_lenSet, e_enumA, e_zipA, e_zip3, d_addT, flat1,
  d_add, d_sub, d_lt, d_le, d_gt, d_ge, d_eq, d_ne, d_ixl, d_ixt, d_lenl, d_lent, d_inti, d_intb, d_abs, d_max2, d_min2, d_tupl, d_tupt, d_lsl, d_lst, d_rb, t_b, t_i, t_l, t_t, is_nb, is_bb, k_ii, k_ib, k_bi, k_bb, k_ni, k_si, k_ti, k_li, k_di, k_tt, isNone, isBl,
  Option.bind_some, Option.bind_none, Option.map_some, Option.map_none, List.append_nil, List.cons_append, List.nil_append, List.replicate, List.getElem?_cons_zero, List.getElem?_cons_succ, List.getElem?_nil, List.set_cons_zero, List.set_cons_succ, List.length_cons, List.length_nil, List.mapIdx_cons, List.mapIdx_nil, List.contains_nil, List.contains_cons, Bool.false_eq_true, if_true, if_false, reduceIte, Bool.not_true, Bool.not_false, Option.getD_some, Function.comp, List.map_cons, List.map_nil,
  Nat.reduceLT, Nat.reduceAdd, Nat.reduceBEq, Nat.reduceEqDiff, Nat.reduceLeDiff, Int.reduceLT, Int.reduceLE, decide_true, decide_false, beq_self_eq_true, Bool.or_false, Bool.or_true, Bool.true_or, Bool.false_or, Bool.and_true, Bool.true_and, Bool.and_false, Bool.false_and, and_self, Nat.zero_add])
open Lib
theorem t_roots_right {k : Nat} {ds : List Da} (h : DiceOk k ds) (hk : k ≤ 40000) : ∃ ds', DiceOk (k + 300) ds' ∧ F__law_roots_right [.own ds] = some (.dat (.bool true), [.own ds']) := by
  obtain ⟨p, d1, hp, h1, e1⟩ := t_pickI (xs := [5, 7, 11, 13]) h (by omega) (by decide) (by decide)
  have hf : isFld p = true := by
    simp only [List.mem_cons, List.not_mem_nil, or_false] at hp
    rcases hp with rfl | rfl | rfl | rfl <;> decide +kernel
  have hp5 := fld_pos hf
  obtain ⟨m, d2, m0, m1, h2, e2⟩ := t_roll (m := 4) h1 (by omega) (by decide) (by decide)
  obtain ⟨rs, d3, rne, rnd, rin, rl, rlen, h3, e3⟩ := t_po_places (l := 0) (n := 1 + m) h2 (by omega) hp5.1 hp5.2 (by decide) (by omega) (by omega) (by omega)
  obtain ⟨c, d4, c0, c1, h4, e4⟩ := t_roll (m := p - 1) h3 (by omega) (by omega) (by omega)
  have hP : Poly p [1 + c] := by
    refine ⟨fun x hx => ?_, by simp, .inr ⟨[], 1 + c, rfl, by omega⟩⟩
    rw [List.mem_singleton] at hx
    omega
  obtain ⟨P, s4, hP', lP, vP, eL⟩ := roots_loop hf (S0 := .own d4) (S2 := .val (.tuple (rs.map PyData.int))) (S5 := .un) rs [1 + c] .un rin hP (by simp) (by simp; omega)
  have np := no_zero hf
  have hs : (numI p).filter (fun a => decide (evZ a P % p = 0)) = sortI rs := by
    refine roots_sorted rin rnd fun a a0 a1 => ?_
    rw [decide_eq_true_iff]
    have v := vP a
    have e : evZ a [1 + c] = 1 + c := by simp [evZ]
    rw [e] at v
    constructor
    · intro hz
      have z : Cg p (evZ a P) 0 := by
        have := cg_sym (cg_mod p (evZ a P))
        rwa [hz] at this
      rcases np _ _ (cg_tr (cg_sym v) z) with h5 | h5
      · have := in_cg0 h5 (by omega) (by omega)
        omega
      · exact prd_zero np (by omega) ⟨a0, a1⟩ rs rin h5
    · intro hm
      rw [prd_mem rs hm, Int.mul_zero] at v
      have := cg_emod v
      rw [this]
      exact Int.zero_emod p
  refine ⟨d4, d_keep h4 (by omega), ?_⟩
  unfold F__law_roots_right
  exact roots_gen e1 e2 e3 e4 eL (by rw [List.length_map, List.length_map, lP]; simp; omega) (rcomp hf hP') hs.symm
theorem turn_gen {A1 A2 : MF} {d1 d2 d3 : List Da} {S0 S1 S3 S4 S5 S6 S7 : Sl} (e1 : A1 [.own d1] = some (.dat (.bool true), [.own d2])) (e2 : A2 [.own d2] = some (.dat (.bool true), [.own d3])) :
  (sIf (mOr (mNot (mTru (mFnD A1 (mCons (mName 2) mNil)))) (mNot (mTru (mFnD A2 (mCons (mName 2) mNil))))) (sRet [] (mC (.bool false))) sNil) [S0, S1, .own d1, S3, S4, S5, S6, S7] = some (.nx, [S0, S1, .own d3, S3, S4, S5, S6, S7]) := by
  walk_at "ev"
  rw [e1]
  walk_at "ev"
  rw [e2]
  walk_at "ev"
theorem spot_gen {A0 : MF} {T : MS} {S0 S1 s2 s3 S4 S5 S6 S7 : Sl} {d1 d2 : List Da} {s3' : Sl} {d n : Da} (hS0 : S0 = .val n) (hS1 : S1 = .val d) (e0 : A0 [.val n, .val d] = some (.fresh d1, [.val n, .val d])) (eT : T [S0, S1, .own d1, s3, S4, S5, S6, S7] = some (.nx, [S0, S1, .own d2, s3', S4, S5, S6, S7])) :
  (sSeq (sSet 2 (mFn A0 (mCons (mName 0) (mCons (mName 1) mNil)))) T) [S0, S1, s2, s3, S4, S5, S6, S7] = some (.nx, [S0, S1, .own d2, s3', S4, S5, S6, S7]) := by
  subst hS0 hS1
  walk_at "ev"
  rw [e0]
  walk_at "ev"
  rw [eT]
theorem spots {ns : List Int} {M : Int} (hM : 1 ≤ M) (hM2 : M ≤ 3) : ∃ s1 s2 s3, forL (setN 1) (sSeq (sSet 2 (mFn Lib.F__law_dice (mCons (mName 0) (mCons (mName 1) mNil))))
    (sFor (mRg1 (mCons (mC (.int 4)) mNil)) (setN 3) (sIf (mOr (mNot (mTru (mFnD F__law_right (mCons (mName 2) mNil)))) (mNot (mTru (mFnD F__law_roots_right (mCons (mName 2) mNil))))) (sRet [] (mC (.bool false))) sNil))) (rgD 0 M) [.val (.list (ns.map PyData.int)), .un, .un, .un, .un, .un, .un, .un] = some (.nx, [.val (.list (ns.map PyData.int)), s1, s2, s3, .un, .un, .un, .un]) := by
  obtain ⟨g', e, s1, s2, s3, rfl⟩ := forL_inv (tg := setN 1) (body := (sSeq (sSet 2 (mFn Lib.F__law_dice (mCons (mName 0) (mCons (mName 1) mNil))))
    (sFor (mRg1 (mCons (mC (.int 4)) mNil)) (setN 3) (sIf (mOr (mNot (mTru (mFnD F__law_right (mCons (mName 2) mNil)))) (mNot (mTru (mFnD F__law_roots_right (mCons (mName 2) mNil))))) (sRet [] (mC (.bool false))) sNil)))) (fun j g => ∃ s1 s2 s3, g = [.val (.list (ns.map PyData.int)), s1, s2, s3, .un, .un, .un, .un]) (rgD 0 M) 0 [.val (.list (ns.map PyData.int)), .un, .un, .un, .un, .un, .un, .un] ⟨.un, .un, .un, rfl⟩ (by
    rintro j g d ⟨s1, s2, s3, rfl⟩ hd hj
    obtain ⟨i, rfl, i0, i1⟩ := mem_rgD.mp hd
    obtain ⟨n, rfl⟩ : ∃ n : Nat, i = n := ⟨i.toNat, by omega⟩
    obtain ⟨d0, h0, e0⟩ := t_dice (ns := ns) (s := n) (by omega)
    obtain ⟨g2, eT, d2, s3', hg, hd2⟩ := forL_inv (tg := setN 3) (body := (sIf (mOr (mNot (mTru (mFnD F__law_right (mCons (mName 2) mNil)))) (mNot (mTru (mFnD F__law_roots_right (mCons (mName 2) mNil))))) (sRet [] (mC (.bool false))) sNil)) (fun j g => ∃ d2 s3, g = [.val (.list (ns.map PyData.int)), .val (.int (n : Nat)), .own d2, s3, .un, .un, .un, .un] ∧ DiceOk (900 * j) d2) (rgD 0 4) 0 [.val (.list (ns.map PyData.int)), .val (.int (n : Nat)), .own d0, s3, .un, .un, .un, .un] ⟨d0, s3, rfl, h0⟩ (by
      rintro j g d ⟨d2, s3, rfl, h2⟩ hd hj
      rw [rgD_len] at hj
      obtain ⟨d3, h3, e3⟩ := t_right h2 (by omega)
      obtain ⟨d4, h4, e4⟩ := t_roots_right h3 (by omega)
      exact ⟨[.val (.list (ns.map PyData.int)), .val (.int (n : Nat)), .own d2, .val d, .un, .un, .un, .un], _, rfl, turn_gen e3 e4, d4, .val d, rfl, d_keep h4 (by omega)⟩)
    subst hg
    refine ⟨[.val (.list (ns.map PyData.int)), .val (.int (n : Nat)), s2, s3, .un, .un, .un, .un], _, rfl, spot_gen (n := .list (ns.map PyData.int)) (d := .int (n : Nat)) rfl rfl e0 (s3' := s3') (d2 := d2) ?_, ⟨_, _, _, rfl⟩⟩
    rw [e_for, rg1_of (n := 4) (ws := [.dat (.int 4)]) (g' := [.val (.list (ns.map PyData.int)), .val (.int (n : Nat)), .own d0, s3, .un, .un, .un, .un]) rfl rfl (okRg' (by decide) (by decide)), Option.bind_some]
    exact eT)
  exact ⟨s1, s2, s3, e⟩
theorem law_gen {L : MS} {S C W : ME} {A4 A5 A6 A7 : MF} {N : Da} {s1 s2 s3 : Sl} {SL LG PL : List Da} {h1 h2 h3 h4 h5 h6 : Gh}
  (eL : L [.val N, .un, .un, .un, .un, .un, .un, .un] = some (.nx, [.val N, s1, s2, s3, .un, .un, .un, .un]))
  (eS : S [.val N, s1, s2, s3, .un, .un, .un, .un] = some (.fresh SL, [.val N, s1, s2, s3, .un, .un, .un, .un]))
  (eC : C [.val N, s1, s2, s3, .own SL, .un, .un, .un] = some (.fresh ([true, false, false, false, true, false, false, false, false, true, false, false, false].map PyData.bool), [.val N, s1, s2, s3, .val (.list SL), .un, .un, .un]))
  (eW : W [.val N, s1, s2, s3, .val (.list SL), .own ([true, false, false, false, true, false, false, false, false, true, false, false, false].map PyData.bool), .un, .un] = some (.dat (.tuple LG), [.val N, s1, s2, s3, .val (.list SL), .own ([true, false, false, false, true, false, false, false, false, true, false, false, false].map PyData.bool), .un, .un]))
  (e1 : A4 [.val (.int 5), .val (.tuple LG), .val (.tuple LG)] = some (.dat (.tuple PL), h1)) (hl : ((PL.length : Nat) : Int) = 61)
  (e2 : A5 [.val (.int 7), .val (.tuple [.int 3, .int 1, .int 2]), .val (.tuple [.int 6, .int 1])] = some (.dat (.tuple [.tuple [.int 3, .int 2], .tuple [.int 6]]), h2))
  (e3 : A6 [.val (.int 7), .val (.tuple [.int 3, .int 1]), .val (.tuple [.int 4, .int 6])] = some (.dat (.tuple []), h3))
  (e4 : A4 [.val (.int 7), .val (.tuple []), .val (.tuple [.int 1])] = some (.dat (.tuple []), h4))
  (e5 : A7 [.val (.int 7), .val (.tuple []), .val (.int 3)] = some (.dat (.int 0), h5))
  (e6 : A5 [.val (.int 7), .val (.tuple []), .val (.tuple [.int 2])] = some (.dat (.tuple [.tuple [], .tuple []]), h6)) :
  ∃ g', bodyM [] 7 ((sSeq L
    (sSeq (sSet 4 S)
    (sSeq (sSet 5 C)
    (sSeq (sIf (mOr (mCmp dNe (mName 5) (mLst (mCons (mC (.bool true)) (mCons (mC (.bool false)) (mCons (mC (.bool false)) (mCons (mC (.bool false)) (mCons (mC (.bool true)) (mCons (mC (.bool false)) (mCons (mC (.bool false)) (mCons (mC (.bool false)) (mCons (mC (.bool false)) (mCons (mC (.bool true)) (mCons (mC (.bool false)) (mCons (mC (.bool false)) (mCons (mC (.bool false)) mNil))))))))))))))) (mCmp dNe (mC (.int 60)) (mC (.int 60)))) (sRet [] (mC (.bool false))) sNil)
    (sSeq (sSet 6 W)
    (sSeq (sIf (mOr (mCmp dNe (mCall dLen (mCons (mFn A4 (mCons (mC (.int 5)) (mCons (mName 6) (mCons (mName 6) mNil)))) mNil)) (mC (.int 61))) (mCmp dNe (mFn A5 (mCons (mC (.int 7)) (mCons (mTup (mCons (mC (.int 3)) (mCons (mC (.int 1)) (mCons (mC (.int 2)) mNil)))) (mCons (mTup (mCons (mC (.int 6)) (mCons (mC (.int 1)) mNil))) mNil)))) (mTup (mCons (mTup (mCons (mC (.int 3)) (mCons (mC (.int 2)) mNil))) (mCons (mTup (mCons (mC (.int 6)) mNil)) mNil))))) (sRet [] (mC (.bool false))) sNil)
    (sRet [] (mBin dEq (mLst (mCons (mFn A6 (mCons (mC (.int 7)) (mCons (mTup (mCons (mC (.int 3)) (mCons (mC (.int 1)) mNil))) (mCons (mTup (mCons (mC (.int 4)) (mCons (mC (.int 6)) mNil))) mNil)))) (mCons (mFn A4 (mCons (mC (.int 7)) (mCons (mTup mNil) (mCons (mTup (mCons (mC (.int 1)) mNil)) mNil)))) (mCons (mFn A7 (mCons (mC (.int 7)) (mCons (mTup mNil) (mCons (mC (.int 3)) mNil)))) (mCons (mFn A5 (mCons (mC (.int 7)) (mCons (mTup mNil) (mCons (mTup (mCons (mC (.int 2)) mNil)) mNil)))) mNil))))) (mLst (mCons (mTup mNil) (mCons (mTup mNil) (mCons (mC (.int 0)) (mCons (mTup (mCons (mTup mNil) (mCons (mTup mNil) mNil))) mNil)))))))))))))) [.val N] = some (.dat (.bool true), g') := by
  have n1 : dNe (.list ([true, false, false, false, true, false, false, false, false, true, false, false, false].map PyData.bool)) (.list ([true, false, false, false, true, false, false, false, false, true, false, false, false].map PyData.bool)) = some (.dat (.bool false)) := d_neS (flat_list (n := 0) (flat_bools _))
  have f0 : ∀ {n}, Flat (n + 1) (.tuple []) := fun {n} => flat_tuple (n := n) fun x hx => by cases hx
  have n2 : dNe (.tuple [.tuple [.int 3, .int 2], .tuple [.int 6]]) (.tuple [.tuple [.int 3, .int 2], .tuple [.int 6]]) = some (.dat (.bool false)) := d_neS (flat_tuple (n := 1) fun x hx => by
    simp only [List.mem_cons, List.not_mem_nil, or_false] at hx
    rcases hx with rfl | rfl
    · exact flat_ti [3, 2]
    · exact flat_ti [6])
  have n3 : dEq (.list [.tuple [], .tuple [], .int 0, .tuple [.tuple [], .tuple []]]) (.list [.tuple [], .tuple [], .int 0, .tuple [.tuple [], .tuple []]]) = some (.dat (.bool true)) := d_eqS (flat_list (n := 2) fun x hx => by
    simp only [List.mem_cons, List.not_mem_nil, or_false] at hx
    rcases hx with rfl | rfl | rfl | rfl
    · exact f0
    · exact f0
    · exact flat_int _
    · exact flat_tuple (n := 1) fun x hx => by
        simp only [List.mem_cons, List.not_mem_nil, or_false] at hx
        rcases hx with rfl | rfl <;> exact f0)
  refine ⟨[.val N], ?_⟩
  walk_at "ev"
  rw [eL]
  walk_at "ev"
  rw [eS]
  walk_at "ev"
  rw [eC]
  walk_at "ev"
  rw [if_pos (show 13 ≤ sizeLine by decide)]
  walk_at "ev"
  try simp only [List.map_cons, List.map_nil] at n1
  rw [n1]
  walk_at "ev"
  try simp only [List.map_cons, List.map_nil] at eW
  rw [eW]
  walk_at "ev"
  rw [e1]
  walk_at "ev"
  rw [hl]
  walk_at "ev"
  try rw [if_pos (show 3 ≤ sizeLine by decide)]
  walk_at "ev"
  try rw [if_pos (show 2 ≤ sizeLine by decide)]
  walk_at "ev"
  rw [e2]
  walk_at "ev"
  rw [if_pos (show 2 ≤ sizeLine by decide)]
  walk_at "ev"
  try rw [if_pos (show 1 ≤ sizeLine by decide)]
  walk_at "ev"
  rw [if_pos (show 2 ≤ sizeLine by decide)]
  walk_at "ev"
  rw [n2]
  walk_at "ev"
  repeat (
    first | rw [if_pos (show 0 ≤ sizeLine by decide)] | rw [if_pos (show 1 ≤ sizeLine by decide)] | rw [if_pos (show 2 ≤ sizeLine by decide)] | rw [if_pos (show 4 ≤ sizeLine by decide)]
    walk_at "ev")
  rw [e3]
  walk_at "ev"
  repeat (
    first | rw [if_pos (show 0 ≤ sizeLine by decide)] | rw [if_pos (show 1 ≤ sizeLine by decide)] | rw [if_pos (show 2 ≤ sizeLine by decide)] | rw [if_pos (show 4 ≤ sizeLine by decide)]
    walk_at "ev")
  rw [e4]
  walk_at "ev"
  repeat (
    first | rw [if_pos (show 0 ≤ sizeLine by decide)] | rw [if_pos (show 1 ≤ sizeLine by decide)] | rw [if_pos (show 2 ≤ sizeLine by decide)] | rw [if_pos (show 4 ≤ sizeLine by decide)]
    walk_at "ev")
  rw [e5]
  walk_at "ev"
  repeat (
    first | rw [if_pos (show 0 ≤ sizeLine by decide)] | rw [if_pos (show 1 ≤ sizeLine by decide)] | rw [if_pos (show 2 ≤ sizeLine by decide)] | rw [if_pos (show 4 ≤ sizeLine by decide)]
    walk_at "ev")
  rw [e6]
  walk_at "ev"
  repeat (
    first | rw [if_pos (show 0 ≤ sizeLine by decide)] | rw [if_pos (show 1 ≤ sizeLine by decide)] | rw [if_pos (show 2 ≤ sizeLine by decide)] | rw [if_pos (show 4 ≤ sizeLine by decide)]
    walk_at "ev")
  rw [n3]
  walk_at "ev"
end K03
end
section
set_option Elab.async false
set_option linter.all false
set_option maxRecDepth 100000
set_option maxHeartbeats 4000000
set_option exponentiation.threshold 3000
namespace K03
open PySem PySem.Spec PyProof.Rows L2 EV
local macro_rules | `(tactic| walk_at "ev") => `(tactic| try simp only [e_bodyM, e_seq, e_nil, e_if, e_set, e_ret, e_drop, e_par, e_asg, e_for, e_app, e_setix, e_aug, e_name, e_c, e_anil, e_acons, e_bin, e_cmp, e_brk, e_cnt, e_retn, e_ix, e_call, e_fn, e_fn0, e_fnD, e_ifx, e_oft, e_tru, e_not, e_and, e_or, e_andv, e_orv, e_notv, e_neg, e_isi, e_chain, e_lst, e_tup, e_it, e_rg1, e_rg2, e_zip, e_enum, e_revi, e_rev, e_o0, e_o1, e_sl, e_dict0, e_yes, e_comp, e_pop, e_asB, e_toDd, e_toDf, e_toDs, e_lkd, e_lkf, e_lks, e_lan, e_lac, e_tdn, e_tdc, e_tsn, e_tsd, e_tsf, e_tss, e_snd, e_snf, e_snn, e_snc, e_sod, e_sof, e_st, e_fln, e_keep, e_itl, e_itt, e_rr1, e_rr2, e_tupRg, e_lstRg, e_revR, e_popAt, e_ext, e_tupRev, e_repL, e_lenSet, e_enumA, e_zipA, e_zip3, d_addT, flat1,
  d_add, d_sub, d_lt, d_le, d_gt, d_ge, d_eq, d_ne, d_ixl, d_ixt, d_lenl, d_lent, d_inti, d_intb, d_abs, d_max2, d_min2, d_tupl, d_tupt, d_lsl, d_lst, d_rb, t_b, t_i, t_l, t_t, is_nb, is_bb, k_ii, k_ib, k_bi, k_bb, k_ni, k_si, k_ti, k_li, k_di, k_tt, isNone, isBl,
  Option.bind_some, Option.bind_none, Option.map_some, Option.map_none, List.append_nil, List.cons_append, List.nil_append, List.replicate, List.getElem?_cons_zero, List.getElem?_cons_succ, List.getElem?_nil, List.set_cons_zero, List.set_cons_succ, List.length_cons, List.length_nil, List.mapIdx_cons, List.mapIdx_nil, List.contains_nil, List.contains_cons, Bool.false_eq_true, if_true, if_false, reduceIte, Bool.not_true, Bool.not_false, Option.getD_some, Function.comp, List.map_cons, List.map_nil,
  Nat.reduceLT, Nat.reduceAdd, Nat.reduceBEq, Nat.reduceEqDiff, Nat.reduceLeDiff, Int.reduceLT, Int.reduceLE, decide_true, decide_false, beq_self_eq_true, Bool.or_false, Bool.or_true, Bool.true_or, Bool.false_or, Bool.and_true, Bool.true_and, Bool.and_false, Bool.false_and, and_self, Nat.zero_add])
open Lib
theorem nums_tuple {xs : List Da} (hl : xs.length ≤ 1000000) : F_are_numbers [.val (.int 5), .val (.tuple xs)] = some (.dat (.bool (xs.all (inRg 0 4))), [.val (.int 5), .val (.tuple xs)]) := t_are_numbersA hl
theorem nums_other {d : Da} (hk : kitB (tyName d) "tuple" = some false) : F_are_numbers [.val (.int 5), .val d] = some (.dat (.bool false), [.val (.int 5), .val d]) := t_are_numbers_no hk
theorem f5 : isFld 5 = true := by decide +kernel
theorem poly_not {A : MF} {d : Da} (ha : A [.val (.int 5), .val d] = some (.dat (.bool false), [.val (.int 5), .val d])) : bodyM [] 0 (sSeq (sDrop (mFn Lib.F_check_field (mCons (mName 0) mNil)))
    (sSeq (sIf (mOr (mNot (mTru (mFn A (mCons (mName 0) (mCons (mName 1) mNil))))) (mCmp dGt (mCall dLen (mCons (mName 1) mNil)) (mBin dAdd (mC (.int 60)) (mC (.int 1))))) (sRet [] (mC (.bool false))) sNil)
    (sRet [] (mOrV (mBin dEq (mName 1) (mTup mNil)) (mBin dNe (mIx (mName 1) (mNeg (mC (.int 1)))) (mC (.int 0))))))) [.val (.int 5), .val d] = some (.dat (.bool false), [.val (.int 5), .val d]) := by
  walk_at "ev"
  rw [t_check_field f5]
  walk_at "ev"
  rw [ha]
  walk_at "ev"
theorem poly_long {A : MF} {X : List Da} {n : Int} (hn : ((X.length : Nat) : Int) = n) (hl : 61 < n) (ha : A [.val (.int 5), .val (.tuple X)] = some (.dat (.bool true), [.val (.int 5), .val (.tuple X)])) : bodyM [] 0 (sSeq (sDrop (mFn Lib.F_check_field (mCons (mName 0) mNil)))
    (sSeq (sIf (mOr (mNot (mTru (mFn A (mCons (mName 0) (mCons (mName 1) mNil))))) (mCmp dGt (mCall dLen (mCons (mName 1) mNil)) (mBin dAdd (mC (.int 60)) (mC (.int 1))))) (sRet [] (mC (.bool false))) sNil)
    (sRet [] (mOrV (mBin dEq (mName 1) (mTup mNil)) (mBin dNe (mIx (mName 1) (mNeg (mC (.int 1)))) (mC (.int 0))))))) [.val (.int 5), .val (.tuple X)] = some (.dat (.bool false), [.val (.int 5), .val (.tuple X)]) := by
  walk_at "ev"
  rw [t_check_field f5]
  walk_at "ev"
  rw [ha]
  walk_at "ev"
  rw [hn, decide_eq_true (show (60 : Int) + 1 < n by omega)]
  walk_at "ev"
theorem poly_zero {A : MF} {X : List Da} {n : Int} (hn : ((X.length : Nat) : Int) = n) (hl : n ≤ 61) (h0 : dEq (.tuple X) (.tuple []) = some (.dat (.bool false))) (hz : atI X (-1) = some (.int 0)) (ha : A [.val (.int 5), .val (.tuple X)] = some (.dat (.bool true), [.val (.int 5), .val (.tuple X)])) : bodyM [] 0 (sSeq (sDrop (mFn Lib.F_check_field (mCons (mName 0) mNil)))
    (sSeq (sIf (mOr (mNot (mTru (mFn A (mCons (mName 0) (mCons (mName 1) mNil))))) (mCmp dGt (mCall dLen (mCons (mName 1) mNil)) (mBin dAdd (mC (.int 60)) (mC (.int 1))))) (sRet [] (mC (.bool false))) sNil)
    (sRet [] (mOrV (mBin dEq (mName 1) (mTup mNil)) (mBin dNe (mIx (mName 1) (mNeg (mC (.int 1)))) (mC (.int 0))))))) [.val (.int 5), .val (.tuple X)] = some (.dat (.bool false), [.val (.int 5), .val (.tuple X)]) := by
  walk_at "ev"
  rw [t_check_field f5]
  walk_at "ev"
  rw [ha]
  walk_at "ev"
  rw [hn, decide_eq_false (show ¬ (60 : Int) + 1 < n by omega)]
  walk_at "ev"
  try rw [if_pos (show 0 ≤ sizeLine by decide)]
  walk_at "ev"
  rw [h0]
  walk_at "ev"
  rw [hz]
  walk_at "ev"
theorem ones_poly {p : Int} (hp : 5 ≤ p) {n : Nat} (hn : n + 1 ≤ 61) : Poly p (List.replicate (n + 1) 1) := by
  refine ⟨fun x hx => ?_, by rw [List.length_replicate]; exact hn, .inr ⟨List.replicate n 1, 1, List.replicate_succ', by decide⟩⟩
  rw [(List.mem_replicate.mp hx).2]
  omega
/-- the values that are judged, and what is told of them -/
def someL : List Da := [.tuple [], .tuple [.int 0], .tuple [.int 1, .int 0], .tuple [.int 5], .tuple [.int 0, .int 1], .list [.int 1], .tuple [.bool true], .int 3, .none, .tuple (List.replicate 61 (.int 1)), .tuple (List.replicate 62 (.int 1)), .tuple [.int (-1)], .tuple [.int 1, .str "1"]]
def tellP (d : Da) : Da := .bool (match d with | .tuple [] => true | .tuple [.int 0, .int 1] => true | .tuple xs => xs.length == 61 | _ => false)
theorem told_some : someL.map tellP = [true, false, false, false, true, false, false, false, false, true, false, false, false].map PyData.bool := by rfl
theorem is_poly_some : ∀ d ∈ someL, F_is_poly [.val (.int 5), .val d] = some (.dat (tellP d), [.val (.int 5), .val d]) := by
  intro d hd
  simp only [someL, List.mem_cons, List.not_mem_nil, or_false] at hd
  rcases hd with rfl | rfl | rfl | rfl | rfl | rfl | rfl | rfl | rfl | rfl | rfl | rfl | rfl
  · exact t_is_poly (xs := []) f5 ⟨fun x hx => (by cases hx), by decide, .inl rfl⟩
  · exact poly_zero (n := 1) rfl (by decide) (d_eqNilT [0]) rfl (nums_tuple (by decide))
  · exact poly_zero (n := 2) rfl (by decide) (d_eqNilT [1, 0]) rfl (nums_tuple (by decide))
  · exact poly_not (nums_tuple (by decide))
  · exact t_is_poly (xs := [0, 1]) f5 ⟨fun x hx => (by simp only [List.mem_cons, List.not_mem_nil, or_false] at hx; omega), by decide, .inr ⟨[0], 1, rfl, by decide⟩⟩
  · exact poly_not (nums_other (by decide +kernel))
  · exact poly_not (nums_tuple (by decide))
  · exact poly_not (nums_other (by decide +kernel))
  · exact poly_not (nums_other (by decide +kernel))
  · have := t_is_poly (xs := List.replicate (60 + 1) 1) f5 (ones_poly (by decide) (by decide))
    rw [List.map_replicate] at this
    exact this
  · have e := nums_tuple (xs := List.replicate 62 (.int 1)) (by rw [List.length_replicate]; decide)
    rw [show (List.replicate 62 (PyData.int 1)).all (inRg 0 4) = true by decide +kernel] at e
    exact poly_long (n := 62) (by rw [List.length_replicate]; rfl) (by decide) e
  · exact poly_not (nums_tuple (by decide))
  · exact poly_not (nums_tuple (by decide))
end K03
end
section
set_option Elab.async false
set_option linter.all false
set_option maxRecDepth 100000
set_option maxHeartbeats 4000000
set_option exponentiation.threshold 3000
namespace K03
open PySem PySem.Spec PyProof.Rows L2 EV
local macro_rules | `(tactic| walk_at "ev") => `(tactic| try simp only [e_bodyM, e_seq, e_nil, e_if, e_set, e_ret, e_drop, e_par, e_asg, e_for, e_app, e_setix, e_aug, e_name, e_c, e_anil, e_acons, e_bin, e_cmp, e_brk, e_cnt, e_retn, e_ix, e_call, e_fn, e_fn0, e_fnD, e_ifx, e_oft, e_tru, e_not, e_and, e_or, e_andv, e_orv, e_notv, e_neg, e_isi, e_chain, e_lst, e_tup, e_it, e_rg1, e_rg2, e_zip, e_enum, e_revi, e_rev, e_o0, e_o1, e_sl, e_dict0, e_yes, e_comp, e_pop, e_asB, e_toDd, e_toDf, e_toDs, e_lkd, e_lkf, e_lks, e_lan, e_lac, e_tdn, e_tdc, e_tsn, e_tsd, e_tsf, e_tss, e_snd, e_snf, e_snn, e_snc, e_sod, e_sof, e_st, e_fln, e_keep, e_itl, e_itt, e_rr1, e_rr2, e_tupRg, e_lstRg, e_revR, e_popAt, e_ext, e_tupRev, e_repL, e_lenSet, e_enumA, e_zipA, e_zip3, d_addT, flat1,
  d_add, d_sub, d_lt, d_le, d_gt, d_ge, d_eq, d_ne, d_ixl, d_ixt, d_lenl, d_lent, d_inti, d_intb, d_abs, d_max2, d_min2, d_tupl, d_tupt, d_lsl, d_lst, d_rb, t_b, t_i, t_l, t_t, is_nb, is_bb, k_ii, k_ib, k_bi, k_bb, k_ni, k_si, k_ti, k_li, k_di, k_tt, isNone, isBl,
  Option.bind_some, Option.bind_none, Option.map_some, Option.map_none, List.append_nil, List.cons_append, List.nil_append, List.replicate, List.getElem?_cons_zero, List.getElem?_cons_succ, List.getElem?_nil, List.set_cons_zero, List.set_cons_succ, List.length_cons, List.length_nil, List.mapIdx_cons, List.mapIdx_nil, List.contains_nil, List.contains_cons, Bool.false_eq_true, if_true, if_false, reduceIte, Bool.not_true, Bool.not_false, Option.getD_some, Function.comp, List.map_cons, List.map_nil,
  Nat.reduceLT, Nat.reduceAdd, Nat.reduceBEq, Nat.reduceEqDiff, Nat.reduceLeDiff, Int.reduceLT, Int.reduceLE, decide_true, decide_false, beq_self_eq_true, Bool.or_false, Bool.or_true, Bool.true_or, Bool.false_or, Bool.and_true, Bool.true_and, Bool.and_false, Bool.false_and, and_self, Nat.zero_add])
open Lib
theorem someIs {N : Da} {s1 s2 s3 : Sl} : (mLst (mCons (mTup mNil) (mCons (mTup (mCons (mC (.int 0)) mNil)) (mCons (mTup (mCons (mC (.int 1)) (mCons (mC (.int 0)) mNil))) (mCons (mTup (mCons (mC (.int 5)) mNil)) (mCons (mTup (mCons (mC (.int 0)) (mCons (mC (.int 1)) mNil))) (mCons (mLst (mCons (mC (.int 1)) mNil)) (mCons (mTup (mCons (mC (.bool true)) mNil)) (mCons (mC (.int 3)) (mCons (mC .none) (mCons (mBin dMulT (mTup (mCons (mC (.int 1)) mNil)) (mC (.int 61))) (mCons (mBin dMulT (mTup (mCons (mC (.int 1)) mNil)) (mC (.int 62))) (mCons (mTup (mCons (mNeg (mC (.int 1))) mNil)) (mCons (mTup (mCons (mC (.int 1)) (mCons (mC (.str "1")) mNil))) mNil)))))))))))))) [.val N, s1, s2, s3, .un, .un, .un, .un] = some (.fresh someL, [.val N, s1, s2, s3, .un, .un, .un, .un]) := by
  have m1 : dMulT (.tuple [.int 1]) (.int 61) = some (.dat (.tuple (List.replicate 61 (.int 1)))) := by
    rw [d_mulTT 61 [.int 1] (okRg' (by decide) (by decide)) (.inr (.inr ⟨by decide, by decide⟩)), flat1]
    rfl
  have m2 : dMulT (.tuple [.int 1]) (.int 62) = some (.dat (.tuple (List.replicate 62 (.int 1)))) := by
    rw [d_mulTT 62 [.int 1] (okRg' (by decide) (by decide)) (.inr (.inr ⟨by decide, by decide⟩)), flat1]
    rfl
  unfold someL
  generalize List.replicate 61 (PyData.int 1) = R at m1
  generalize List.replicate 62 (PyData.int 1) = R2 at m2
  walk_at "ev"
  repeat (
    first | rw [if_pos (show 0 ≤ sizeLine by decide)] | rw [if_pos (show 1 ≤ sizeLine by decide)] | rw [if_pos (show 2 ≤ sizeLine by decide)] | rw [if_pos (show 13 ≤ sizeLine by decide)] | rw [m1] | rw [m2]
    walk_at "ev")
theorem compIs {N : Da} {s1 s2 s3 : Sl} : (mComp [7] (mIt (mName 4)) (setN 7) mYes (mFn Lib.F_is_poly (mCons (mC (.int 5)) (mCons (mName 7) mNil)))) [.val N, s1, s2, s3, .own someL, .un, .un, .un] = some (.fresh ([true, false, false, false, true, false, false, false, false, true, false, false, false].map PyData.bool), [.val N, s1, s2, s3, .val (.list someL), .un, .un, .un]) := by
  have q := compL_map (vs := [7]) (tg := setN 7) (el := mFn Lib.F_is_poly (mCons (mC (.int 5)) (mCons (mName 7) mNil))) (f := tellP) (g := [.val N, s1, s2, s3, .val (.list someL), .un, .un, .un]) (ds := someL) (by
    intro d h
    refine ⟨[.val N, s1, s2, s3, .val (.list someL), .un, .un, .val d], .dat (tellP d), [.val N, s1, s2, s3, .val (.list someL), .un, .un, .val d], [.val N, s1, s2, s3, .val (.list someL), .un, .un, .val d], rfl, ?_, rfl, rfl⟩
    walk_at "ev"
    rw [is_poly_some d h]
    walk_at "ev")
  have hl : someL.length < sizeLine := by
    rw [show someL.length = 13 from rfl]
    decide
  have ts := told_some
  generalize someL = X at q hl ts ⊢
  walk_at "ev"
  rw [if_pos hl]
  try simp only [wipeG, List.set_cons_zero, List.set_cons_succ]
  rw [q]
  try simp only [Option.bind_some, restore, List.getElem?_cons_zero, List.getElem?_cons_succ, List.set_cons_zero, List.set_cons_succ]
  rw [ts]
  rfl
theorem wIs {g : Gh} : (mBin dMulT (mTup (mCons (mC (.int 1)) mNil)) (mC (.int 31))) g = some (.dat (.tuple ((List.replicate 31 (1 : Int)).map PyData.int)), g) := by
  have m1 : dMulT (.tuple [.int 1]) (.int 31) = some (.dat (.tuple ((List.replicate 31 (1 : Int)).map PyData.int))) := by
    rw [d_mulTT 31 [.int 1] (okRg' (by decide) (by decide)) (.inr (.inr ⟨by decide, by decide⟩)), flat1]
    rfl
  walk_at "ev"
  rw [if_pos (show 1 ≤ sizeLine by decide)]
  walk_at "ev"
  rw [m1]
  walk_at "ev"
theorem f7 : isFld 7 = true := by decide +kernel
theorem pl {p : Int} (xs : List Int) (h : InF p xs) (hl : xs.length ≤ 61) (hs : trimL xs = xs) : Poly p xs := by
  have := trim_poly h hl
  rwa [hs] at this
theorem in7 {xs : List Int} (h : xs.all (fun x => decide (0 ≤ x) && decide (x < 7)) = true) : InF 7 xs := fun x hx => by
  have := List.all_eq_true.mp h x hx
  simp only [Bool.and_eq_true, decide_eq_true_eq] at this
  exact this
theorem loopIs {ns : List Int} (hl : ns.length ≤ 63) : ∃ s1 s2 s3, (sFor (mRg1 (mCons (mCall dMax (mCons (mC (.int 1)) (mCons (mCall dMin (mCons (mC (.int 3)) (mCons (mCall dLen (mCons (mName 0) mNil)) mNil))) mNil))) mNil)) (setN 1) (sSeq (sSet 2 (mFn Lib.F__law_dice (mCons (mName 0) (mCons (mName 1) mNil))))
    (sFor (mRg1 (mCons (mC (.int 4)) mNil)) (setN 3) (sIf (mOr (mNot (mTru (mFnD F__law_right (mCons (mName 2) mNil)))) (mNot (mTru (mFnD F__law_roots_right (mCons (mName 2) mNil))))) (sRet [] (mC (.bool false))) sNil)))) [.val (.list (ns.map PyData.int)), .un, .un, .un, .un, .un, .un, .un] = some (.nx, [.val (.list (ns.map PyData.int)), s1, s2, s3, .un, .un, .un, .un]) := by
  generalize hM : (if (if (ns.length : Int) < 3 then (ns.length : Int) else 3) > 1 then (if (ns.length : Int) < 3 then (ns.length : Int) else 3) else 1) = M
  have m0 : 1 ≤ M ∧ M ≤ 3 := by
    rw [← hM]
    split <;> split <;> omega
  obtain ⟨s1, s2, s3, e⟩ := spots (ns := ns) m0.1 m0.2
  refine ⟨s1, s2, s3, ?_⟩
  rw [e_for, rg1_of (n := M) (ws := [.dat (.int M)]) (g' := [.val (.list (ns.map PyData.int)), .un, .un, .un, .un, .un, .un, .un]) (by walk_at "ev"; rw [List.length_map]; rw [hM]) rfl (okRg' (by omega) (by omega)), Option.bind_some]
  exact e
theorem law_true (ns : List Int) (hl : ns.length ≤ 63) (hb : ∀ z ∈ ns, PySem.Builtin.Int.intBits z ≤ 1048576) : ∃ g', F_law [.val (.list (ns.map PyData.int))] = some (.dat (.bool true), g') := by
  obtain ⟨s1, s2, s3, eL⟩ := loopIs hl
  have o31 : Poly 5 (List.replicate (30 + 1) 1) := ones_poly (by decide) (by decide)
  have lm : (mulL 5 (List.replicate (30 + 1) 1) (List.replicate (30 + 1) 1)).length = 61 := by
    rw [mulL_len (by decide) (by decide), List.length_replicate]
  have p1 : Poly 7 [3, 1, 2] := pl _ (in7 (by decide)) (by decide) (by decide +kernel)
  have p2 : Poly 7 [6, 1] := pl _ (in7 (by decide)) (by decide) (by decide +kernel)
  have p3 : Poly 7 [3, 1] := pl _ (in7 (by decide)) (by decide) (by decide +kernel)
  have p4 : Poly 7 [4, 6] := pl _ (in7 (by decide)) (by decide) (by decide +kernel)
  have p5 : Poly 7 [1] := pl _ (in7 (by decide)) (by decide) (by decide +kernel)
  have p6 : Poly 7 [2] := pl _ (in7 (by decide)) (by decide) (by decide +kernel)
  have p0 : Poly 7 [] := pl _ (in7 (by decide)) (by decide) (by decide +kernel)
  unfold F_law m_law
  refine law_gen eL someIs compIs wIs (t_poly_product f5 o31 o31 (by decide)) (by rw [List.length_map, lm]; rfl) (h2 := [.val (.int 7), .val (.tuple [.int 3, .int 1, .int 2]), .val (.tuple [.int 6, .int 1])]) ?_ (h3 := [.val (.int 7), .val (.tuple [.int 3, .int 1]), .val (.tuple [.int 4, .int 6])]) ?_ (h4 := [.val (.int 7), .val (.tuple []), .val (.tuple [.int 1])]) ?_ (h5 := [.val (.int 7), .val (.tuple []), .val (.int 3)]) ?_ (h6 := [.val (.int 7), .val (.tuple []), .val (.tuple [.int 2])]) ?_
  · have e := t_poly_divided f7 p1 p2 (by decide)
    rw [show trimL (quoL 7 (leadOf 7 [6, 1]) [3, 1, 2] [6, 1]) = [3, 2] by decide +kernel, show trimL (resL 7 (leadOf 7 [6, 1]) [3, 1, 2] [6, 1]) = [6] by decide +kernel] at e
    exact e
  · have e := t_poly_sum f7 p3 p4
    rw [show trimL (addL 7 [3, 1] [4, 6]) = [] by decide +kernel] at e
    exact e
  · have e := t_poly_product f7 p0 p5 (by decide)
    rw [show mulL 7 [] [1] = [] by decide +kernel] at e
    exact e
  · have e := t_value_at (a := 3) f7 p0 (by decide) (by decide)
    exact e
  · have e := t_poly_divided f7 p0 p6 (by decide)
    rw [show trimL (quoL 7 (leadOf 7 [2]) [] [2]) = [] by decide +kernel, show trimL (resL 7 (leadOf 7 [2]) [] [2]) = [] by decide +kernel] at e
    exact e
end K03
end
open PySem PySem.W PyProof.Rows
set_option maxHeartbeats 0 in
theorem PySem.Challenge.cw_evencoins_k03_whole_polys_added_multipli_holds : PySem.Challenge.rw_evencoins_k03_whole_polys_added_multipli.Holds := by
  w_on; o_law; k_head; (case hw => w_witness2)
  k_fill
  refine L2.walk_ofB (l := PySem.Challenge.rw_evencoins_k03_whole_polys_added_multipli) (n := 63) (k := 9) (x := "script") (CX := fun _ => L2.CX0) (sp := fun w => EV.spM _ 1 [] K03.F_law) rfl (by decide) rfl ⟨rfl, by decide, by decide⟩ (fun w h Y => PySem.W.kIn_of Y) ?F (fun w H a ns hl hb hO hS => EV.law_sp hS (K03.law_true ns hl hb)) (fun _ _ _ _ _ h => h)
  case F =>
    intro w mg fa h KX G hmg
    refine' K03.all_mk KX G hmg ?a_is_integer ?l_is_integer ?c_is_integer ?k_is_integer ?a_is_field ?l_is_field ?c_is_field ?k_is_field ?a_are_numbers ?l_are_numbers ?c_are_numbers ?k_are_numbers ?a_check_integer ?l_check_integer ?c_check_integer ?k_check_integer ?a_check_field ?l_check_field ?c_check_field ?k_check_field ?a_check_number ?l_check_number ?c_check_number ?k_check_number ?a_raised ?l_raised ?c_raised ?k_raised ?a_inverse ?l_inverse ?c_inverse ?k_inverse ?a_is_poly ?l_is_poly ?c_is_poly ?k_is_poly ?a_are_unlike ?l_are_unlike ?c_are_unlike ?k_are_unlike ?a_check_poly ?l_check_poly ?c_check_poly ?k_check_poly ?a_check_places ?l_check_places ?c_check_places ?k_check_places ?a_trimmed ?l_trimmed ?c_trimmed ?k_trimmed ?a_padded ?l_padded ?c_padded ?k_padded ?a_scaled ?l_scaled ?c_scaled ?k_scaled ?a_added ?l_added ?c_added ?k_added ?a_multiplied ?l_multiplied ?c_multiplied ?k_multiplied ?a_evaluated ?l_evaluated ?c_evaluated ?k_evaluated ?a_poly_sum ?l_poly_sum ?c_poly_sum ?k_poly_sum ?a_poly_scaled ?l_poly_scaled ?c_poly_scaled ?k_poly_scaled ?a_poly_product ?l_poly_product ?c_poly_product ?k_poly_product ?a_poly_divided ?l_poly_divided ?c_poly_divided ?k_poly_divided ?a_value_at ?l_value_at ?c_value_at ?k_value_at ?a_values_at ?l_values_at ?c_values_at ?k_values_at ?a__law_dice ?l__law_dice ?c__law_dice ?k__law_dice ?a__law_roll ?l__law_roll ?c__law_roll ?k__law_roll ?a__law_pick ?l__law_pick ?c__law_pick ?k__law_pick ?a__law_po_trim ?l__law_po_trim ?c__law_po_trim ?k__law_po_trim ?a__law_po_sum ?l__law_po_sum ?c__law_po_sum ?k__law_po_sum ?a__law_po_scaled ?l__law_po_scaled ?c__law_po_scaled ?k__law_po_scaled ?a__law_po_times ?l__law_po_times ?c__law_po_times ?k__law_po_times ?a__law_po_value ?l__law_po_value ?c__law_po_value ?k__law_po_value ?a__law_po_drawn ?l__law_po_drawn ?c__law_po_drawn ?k__law_po_drawn ?a__law_po_places ?l__law_po_places ?c__law_po_places ?k__law_po_places ?a__law_po_field ?l__law_po_field ?c__law_po_field ?k__law_po_field ?a__law_divided_right ?l__law_divided_right ?c__law_divided_right ?k__law_divided_right ?a__law_right ?l__law_right ?c__law_right ?k__law_right ?a__law_roots_right ?l__law_roots_right ?c__law_roots_right ?k__law_roots_right ?a_law ?l_law ?c_law ?k_law ?z_abs ?z_enumerate ?z_int ?z_isinstance ?z_len ?z_list ?z_max ?z_min ?z_range ?z_reversed ?z_set ?z_sorted ?z_tuple ?z_zip ?q_LEAST_FIELD ?q_MAX_DEGREE ?q_MAX_FIELD ?q_MAX_SIDE ?q_SMALL_PRIMES ?r_SMALL_PRIMES
    (case a_is_integer => k_is)
    (case l_is_integer => k_is)
    (case c_is_integer => k_is)
    (case k_is_integer => k_is)
    (case a_is_field => k_is)
    (case l_is_field => k_is)
    (case c_is_field => k_is)
    (case k_is_field => k_is)
    (case a_are_numbers => k_is)
    (case l_are_numbers => k_is)
    (case c_are_numbers => k_is)
    (case k_are_numbers => k_is)
    (case a_check_integer => k_is)
    (case l_check_integer => k_is)
    (case c_check_integer => k_is)
    (case k_check_integer => k_is)
    (case a_check_field => k_is)
    (case l_check_field => k_is)
    (case c_check_field => k_is)
    (case k_check_field => k_is)
    (case a_check_number => k_is)
    (case l_check_number => k_is)
    (case c_check_number => k_is)
    (case k_check_number => k_is)
    (case a_raised => k_is)
    (case l_raised => k_is)
    (case c_raised => k_is)
    (case k_raised => k_is)
    (case a_inverse => k_is)
    (case l_inverse => k_is)
    (case c_inverse => k_is)
    (case k_inverse => k_is)
    (case a_is_poly => k_is)
    (case l_is_poly => k_is)
    (case c_is_poly => k_is)
    (case k_is_poly => k_is)
    (case a_are_unlike => k_is)
    (case l_are_unlike => k_is)
    (case c_are_unlike => k_is)
    (case k_are_unlike => k_is)
    (case a_check_poly => k_is)
    (case l_check_poly => k_is)
    (case c_check_poly => k_is)
    (case k_check_poly => k_is)
    (case a_check_places => k_is)
    (case l_check_places => k_is)
    (case c_check_places => k_is)
    (case k_check_places => k_is)
    (case a_trimmed => k_is)
    (case l_trimmed => k_is)
    (case c_trimmed => k_is)
    (case k_trimmed => k_is)
    (case a_padded => k_is)
    (case l_padded => k_is)
    (case c_padded => k_is)
    (case k_padded => k_is)
    (case a_scaled => k_is)
    (case l_scaled => k_is)
    (case c_scaled => k_is)
    (case k_scaled => k_is)
    (case a_added => k_is)
    (case l_added => k_is)
    (case c_added => k_is)
    (case k_added => k_is)
    (case a_multiplied => k_is)
    (case l_multiplied => k_is)
    (case c_multiplied => k_is)
    (case k_multiplied => k_is)
    (case a_evaluated => k_is)
    (case l_evaluated => k_is)
    (case c_evaluated => k_is)
    (case k_evaluated => k_is)
    (case a_poly_sum => k_is)
    (case l_poly_sum => k_is)
    (case c_poly_sum => k_is)
    (case k_poly_sum => k_is)
    (case a_poly_scaled => k_is)
    (case l_poly_scaled => k_is)
    (case c_poly_scaled => k_is)
    (case k_poly_scaled => k_is)
    (case a_poly_product => k_is)
    (case l_poly_product => k_is)
    (case c_poly_product => k_is)
    (case k_poly_product => k_is)
    (case a_poly_divided => k_is)
    (case l_poly_divided => k_is)
    (case c_poly_divided => k_is)
    (case k_poly_divided => k_is)
    (case a_value_at => k_is)
    (case l_value_at => k_is)
    (case c_value_at => k_is)
    (case k_value_at => k_is)
    (case a_values_at => k_is)
    (case l_values_at => k_is)
    (case c_values_at => k_is)
    (case k_values_at => k_is)
    (case a__law_dice => k_is)
    (case l__law_dice => k_is)
    (case c__law_dice => k_is)
    (case k__law_dice => k_is)
    (case a__law_roll => k_is)
    (case l__law_roll => k_is)
    (case c__law_roll => k_is)
    (case k__law_roll => k_is)
    (case a__law_pick => k_is)
    (case l__law_pick => k_is)
    (case c__law_pick => k_is)
    (case k__law_pick => k_is)
    (case a__law_po_trim => k_is)
    (case l__law_po_trim => k_is)
    (case c__law_po_trim => k_is)
    (case k__law_po_trim => k_is)
    (case a__law_po_sum => k_is)
    (case l__law_po_sum => k_is)
    (case c__law_po_sum => k_is)
    (case k__law_po_sum => k_is)
    (case a__law_po_scaled => k_is)
    (case l__law_po_scaled => k_is)
    (case c__law_po_scaled => k_is)
    (case k__law_po_scaled => k_is)
    (case a__law_po_times => k_is)
    (case l__law_po_times => k_is)
    (case c__law_po_times => k_is)
    (case k__law_po_times => k_is)
    (case a__law_po_value => k_is)
    (case l__law_po_value => k_is)
    (case c__law_po_value => k_is)
    (case k__law_po_value => k_is)
    (case a__law_po_drawn => k_is)
    (case l__law_po_drawn => k_is)
    (case c__law_po_drawn => k_is)
    (case k__law_po_drawn => k_is)
    (case a__law_po_places => k_is)
    (case l__law_po_places => k_is)
    (case c__law_po_places => k_is)
    (case k__law_po_places => k_is)
    (case a__law_po_field => k_is)
    (case l__law_po_field => k_is)
    (case c__law_po_field => k_is)
    (case k__law_po_field => k_is)
    (case a__law_divided_right => k_is)
    (case l__law_divided_right => k_is)
    (case c__law_divided_right => k_is)
    (case k__law_divided_right => k_is)
    (case a__law_right => k_is)
    (case l__law_right => k_is)
    (case c__law_right => k_is)
    (case k__law_right => k_is)
    (case a__law_roots_right => k_is)
    (case l__law_roots_right => k_is)
    (case c__law_roots_right => k_is)
    (case k__law_roots_right => k_is)
    (case a_law => k_is)
    (case l_law => k_is)
    (case c_law => k_is)
    (case k_law => k_is)
    (case z_abs => k_is)
    (case z_enumerate => k_is)
    (case z_int => k_is)
    (case z_isinstance => k_is)
    (case z_len => k_is)
    (case z_list => k_is)
    (case z_max => k_is)
    (case z_min => k_is)
    (case z_range => k_is)
    (case z_reversed => k_is)
    (case z_set => k_is)
    (case z_sorted => k_is)
    (case z_tuple => k_is)
    (case z_zip => k_is)
    (case q_LEAST_FIELD => k_is)
    (case q_MAX_DEGREE => k_is)
    (case q_MAX_FIELD => k_is)
    (case q_MAX_SIDE => k_is)
    (case q_SMALL_PRIMES => k_is)
    (case r_SMALL_PRIMES => k_is)
