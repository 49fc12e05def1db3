import PyProof.Rows.All
import Wide.All
import OpenK.AllK
import Wide.FinOn
import HandS.ForMost
import HandS.Wide
import HandS.Zip
import HandS.Rev
import HandS.IsInst
import HandS.Walk
import HandS.TupAny
import HandS.Conv
import HandS.EndBits
import HandS.RaiseMore
import HandS.Flow
import HandS.Evl
import HandS.Style
import HandS.TupMul
import HandS.TupLe
import HandS.Iter
import HandS.RevRange
import HandS.SortInts
import HandS.SetFor
import HandS.Strs
import KE.GoesMore
import KE.GoesEnum
import KE.GoesZip
import KE.KItemsList
import PyProof.ListNew
import HandS.List
import HandS.NamedTupSort
import KE.KSortTup
import PyProof.ListOps
import PyProof.Rows.SeqMore
import HandS.Dict
import HandS.More
import KE.KDictSum
import KE.KDictList
import KE.KRevSl
import HandS.Deep
import HandS.Sort
import HandS.Small
import HandS.ListItems
import HandS.DictEq
import HandS.TryOnly
import PyProof.TupleOps
import PyProof.WalksMore
import PyProof.WalkInts
import HandS.RepeatKit
import HandS.TupSets
import PySem.Challenge.RW_evencoins_k01_whole_even_sums_and_moved
set_option Elab.async false
set_option linter.all false
set_option maxRecDepth 100000
set_option maxHeartbeats 4000000
section
set_option maxHeartbeats 2000000
set_option autoImplicit false
/-! EV: a mirror of plain functions over data, with its soundness over the hand layer's readings. -/
namespace EV
open PySem PySem.Spec PyProof.Rows L2
abbrev Da := PyData
abbrev Frag := PySem.W.Frag
/-! ### data that stands in a heap -/
def keyD : Key → PyData
  | .inl i => .int i
  | .inr x => .str x
def zipK (ks : List Key) (ds : List PyData) : List (PyData × PyData) := List.zipWith (fun k d => (keyD k, d)) ks ds
def zipT (ks : List (List Key)) (ds : List PyData) : List (PyData × PyData) := List.zipWith (fun k d => (.tuple (k.map keyD), d)) ks ds
mutual
inductive Rep (K : Frag) (H : Hp) : V → PyData → Prop
  | non : Rep K H .non .none
  | bl (b : Bool) : Rep K H (.bl b) (.bool b)
  | int (i : Int) : Rep K H (.int i) (.int i)
  | str (x : Str) : Rep K H (.str x) (.str x)
  | lst {a : Addr} {xs : List V} {ds : List PyData} : SqL K H a xs → RepAll K H xs ds → Rep K H (.ref a) (.list ds)
  | tup {a : Addr} {xs : List V} {ds : List PyData} : SqT K H a xs → RepAll K H xs ds → Rep K H (.ref a) (.tuple ds)
  | dk {a : Addr} {o : Obj} {kvs : List (Key × V)} {ds : List PyData} : H a = some (.frz o (.dK kvs)) → RepAll K H (kvs.map fun q => q.2) ds → Rep K H (.ref a) (.dict (zipK (kvs.map fun q => q.1) ds))
inductive RepAll (K : Frag) (H : Hp) : List V → List PyData → Prop
  | nil : RepAll K H [] []
  | cons {v : V} {vs : List V} {d : PyData} {ds : List PyData} : Rep K H v d → RepAll K H vs ds → RepAll K H (v :: vs) (d :: ds)
end
section
variable {K : Frag} {H H' : Hp}
mutual
theorem Rep.mono (e : Evl.Ex H H') : ∀ {v : V} {d : PyData}, Rep K H v d → Rep K H' v d
  | _, _, .non => .non
  | _, _, .bl b => .bl b
  | _, _, .int i => .int i
  | _, _, .str x => .str x
  | _, _, .lst h r => .lst (Evl.ex_l e h) (RepAll.mono e r)
  | _, _, .tup h r => .tup (Evl.ex_t e h) (RepAll.mono e r)
  | _, _, .dk h r => .dk (e _ _ h) (RepAll.mono e r)
theorem RepAll.mono (e : Evl.Ex H H') : ∀ {vs : List V} {ds : List PyData}, RepAll K H vs ds → RepAll K H' vs ds
  | _, _, .nil => .nil
  | _, _, .cons a b => .cons (Rep.mono e a) (RepAll.mono e b)
end
theorem RepAll.length : ∀ {vs : List V} {ds : List PyData}, RepAll K H vs ds → vs.length = ds.length
  | _, _, .nil => rfl
  | _, _, .cons _ b => by rw [List.length_cons, List.length_cons, RepAll.length b]
theorem RepAll.append : ∀ {vs ws : List V} {ds es : List PyData}, RepAll K H vs ds → RepAll K H ws es → RepAll K H (vs ++ ws) (ds ++ es)
  | _, _, _, _, .nil, h => h
  | _, _, _, _, .cons a b, h => .cons a (RepAll.append b h)
theorem RepAll.get : ∀ {vs : List V} {ds : List PyData} {i : Nat} {d : PyData}, RepAll K H vs ds → ds[i]? = some d → ∃ v, vs[i]? = some v ∧ Rep K H v d
  | _, _, _, _, .nil, e => by simp at e
  | _, _, 0, _, .cons a _, e => by simp at e; subst e; exact ⟨_, rfl, a⟩
  | _, _, i + 1, d, .cons _ b, e => by
    obtain ⟨v, h1, h2⟩ := RepAll.get (i := i) (d := d) b (by simpa using e)
    exact ⟨v, by simpa using h1, h2⟩
theorem RepAll.set : ∀ {vs : List V} {ds : List PyData} {v : V} {d : PyData} (i : Nat), RepAll K H vs ds → Rep K H v d → RepAll K H (vs.set i v) (ds.set i d)
  | _, _, _, _, _, .nil, _ => .nil
  | _, _, _, _, 0, .cons _ b, r => .cons r b
  | _, _, _, _, i + 1, .cons a b, r => .cons a (RepAll.set i b r)
theorem RepAll.take : ∀ {vs : List V} {ds : List PyData} (n : Nat), RepAll K H vs ds → RepAll K H (vs.take n) (ds.take n)
  | _, _, 0, _ => .nil
  | _, _, _ + 1, .nil => .nil
  | _, _, n + 1, .cons a b => .cons a (RepAll.take n b)
theorem RepAll.drop : ∀ {vs : List V} {ds : List PyData} (n : Nat), RepAll K H vs ds → RepAll K H (vs.drop n) (ds.drop n)
  | _, _, 0, r => r
  | _, _, _ + 1, .nil => .nil
  | _, _, n + 1, .cons _ b => RepAll.drop n b
theorem RepAll.dropLast {vs : List V} {ds : List PyData} (r : RepAll K H vs ds) : RepAll K H vs.dropLast ds.dropLast := by
  rw [List.dropLast_eq_take, List.dropLast_eq_take, r.length]
  exact r.take _
theorem RepAll.reverse : ∀ {vs : List V} {ds : List PyData}, RepAll K H vs ds → RepAll K H vs.reverse ds.reverse
  | _, _, .nil => .nil
  | _, _, .cons a b => by
    rw [List.reverse_cons, List.reverse_cons]
    exact RepAll.append (RepAll.reverse b) (.cons a .nil)
theorem RepAll.ints : ∀ {vs : List V} {ns : List Int}, RepAll K H vs (ns.map PyData.int) → vs = ns.map V.int
  | _, [], .nil => rfl
  | _, _ :: _, .cons (.int _) b => by rw [List.map_cons, RepAll.ints b]
theorem RepAll.bools : ∀ {vs : List V} {ns : List Bool}, RepAll K H vs (ns.map PyData.bool) → vs = ns.map V.bl
  | _, [], .nil => rfl
  | _, _ :: _, .cons (.bl _) b => by rw [List.map_cons, RepAll.bools b]
theorem RepAll.of_ints : ∀ (ns : List Int), RepAll K H (ns.map V.int) (ns.map PyData.int)
  | [] => .nil
  | n :: ns => .cons (.int n) (RepAll.of_ints ns)
mutual
def noDict : PyData → Bool
  | .dict _ => false
  | .list xs => noDictAll xs
  | .tuple xs => noDictAll xs
  | _ => true
def noDictAll : List PyData → Bool
  | [] => true
  | d :: ds => noDict d && noDictAll ds
end
mutual
theorem Rep.dp : ∀ {v : V} {d : PyData}, Rep K H v d → noDict d = true → Dp K H v d
  | _, _, .non, _ => .non
  | _, _, .bl b, _ => .bl b
  | _, _, .int i, _ => .int i
  | _, _, .str x, _ => .str x
  | _, _, .lst h r, n => .lst h (RepAll.dp r (by simpa [noDict] using n))
  | _, _, .tup h r, n => .tup h (RepAll.dp r (by simpa [noDict] using n))
  | _, _, .dk h _, n => by simp [noDict] at n
theorem RepAll.dp : ∀ {vs : List V} {ds : List PyData}, RepAll K H vs ds → noDictAll ds = true → DpAll K H vs ds
  | _, _, .nil, _ => .nil
  | _, _, .cons a b, n => by
    simp only [noDictAll, Bool.and_eq_true] at n
    exact .cons (Rep.dp a n.1) (RepAll.dp b n.2)
end
end
/-! ### slots, values on the way -/
inductive Sl where
  | un | val (d : Da) | own (ds : List Da) | raw (v : V) | dic (t : Bool) (es : List (Da × Da)) | tab (qs : List Addr) (rs : List (List Da)) | grp (qs : List Addr) (rs : List (List Da)) | rg (lo hi : Int)
def Sl.ow : Sl → Bool
  | .own _ => true
  | .dic _ _ => true
  | .tab _ _ => true
  | .grp _ _ => true
  | _ => false
/-- what stands behind a slot besides its own object: the rows of a table -/
def Sl.inn : Sl → List Addr
  | .tab qs _ => qs
  | .grp qs _ => qs
  | _ => []
/-- the object of a slot, or one of its rows -/
def At (s : Sl) (v : Option (Option V)) (p : Addr) : Prop := v = some (some (.ref p)) ∨ p ∈ s.inn
theorem At.imp {s : Sl} {v v' : Option (Option V)} {p : Addr} (h : At s v p) (f : v = some (some (.ref p)) → v' = some (some (.ref p))) : At s v' p := h.elim (fun z => .inl (f z)) .inr
theorem At.eq {s : Sl} {v : Option (Option V)} {p : Addr} (h : At s v p) (n : s.inn = [] := by rfl) : v = some (some (.ref p)) := by
  rcases h with h | h
  · exact h
  · rw [n] at h; cases h
/-- a dict of one's own: its keys ints and texts, or tuples of them -/
def DicOk (K : Frag) (Hf : Hp) (o : Option HO) : Bool → List (Da × Da) → Prop
  | false, es => ∃ (kvs : List (Key × V)) (ds : List Da), o = some (.dK kvs) ∧ RepAll K Hf (kvs.map fun q => q.2) ds ∧ es = zipK (kvs.map fun q => q.1) ds
  | true, es => ∃ (kvs : List (List Key × V)) (ds : List Da), o = some (.dT kvs) ∧ RepAll K Hf (kvs.map fun q => q.2) ds ∧ es = zipT (kvs.map fun q => q.1) ds
theorem DicOk.mono {K : Frag} {Hf Hf' : Hp} {o : Option HO} {t : Bool} {es : List (Da × Da)} (e : Evl.Ex Hf Hf') (h : DicOk K Hf o t es) : DicOk K Hf' o t es := by
  cases t with
  | false => obtain ⟨kvs, ds, h1, h2, h3⟩ := h; exact ⟨kvs, ds, h1, h2.mono e, h3⟩
  | true => obtain ⟨kvs, ds, h1, h2, h3⟩ := h; exact ⟨kvs, ds, h1, h2.mono e, h3⟩
theorem DicOk.some {K : Frag} {Hf : Hp} {o : Option HO} {t : Bool} {es : List (Da × Da)} (h : DicOk K Hf o t es) : ∃ u, o = some u := by
  cases t with
  | false => obtain ⟨kvs, ds, h1, _⟩ := h; exact ⟨_, h1⟩
  | true => obtain ⟨kvs, ds, h1, _⟩ := h; exact ⟨_, h1⟩
inductive Wv where
  | dat (d : Da) | fresh (ds : List Da) | slot (i : Nat) | raw (v : V)
abbrev Gh := List Sl
/-- the rows of a table of one's own -/
inductive TabOk (K : Frag) (Hf H : Hp) : List Addr → List (List Da) → Prop
  | nil : TabOk K Hf H [] []
  | cons {q : Addr} {vs : List V} {r : List Da} {qs : List Addr} {rs : List (List Da)} : Hf q = none → H q = some (.lst vs) → RepAll K Hf vs r → TabOk K Hf H qs rs → TabOk K Hf H (q :: qs) (r :: rs)
theorem TabOk.stay {K : Frag} {Hf Hf' H H' : Hp} (ex : Evl.Ex Hf Hf') : ∀ {qs : List Addr} {rs : List (List Da)}, TabOk K Hf H qs rs → (∀ p u, p ∈ qs → H p = some u → Hf p = none → H' p = some u ∧ Hf' p = none) → TabOk K Hf' H' qs rs
  | _, _, .nil, _ => .nil
  | _, _, .cons (q := q) a b c d, k => by
    obtain ⟨k1, k2⟩ := k q _ List.mem_cons_self b a
    exact .cons k2 k1 (c.mono ex) (TabOk.stay ex d fun p u hp => k p u (List.mem_cons_of_mem _ hp))
theorem TabOk.there {K : Frag} {Hf H : Hp} {p : Addr} : ∀ {qs : List Addr} {rs : List (List Da)}, TabOk K Hf H qs rs → p ∈ qs → ∃ u, H p = some u ∧ Hf p = none
  | _, _, .cons a b c d, h => by
    rcases List.mem_cons.mp h with rfl | h
    · exact ⟨_, b, a⟩
    · exact d.there h
/-- the pairs of a dict of lists of one's own: its keys are 0, 1, .. -/
def kvG (qs : List Addr) : List (Key × V) := qs.mapIdx fun i q => (.inl ((i : Nat) : Int), .ref q)
def SlotOk (K : Frag) (Hf H : Hp) (s : Sl) (v : V) : Prop :=
  match s with
  | .un => True
  | .val d => Rep K Hf v d
  | .own ds => ∃ p vs, v = .ref p ∧ Hf p = none ∧ H p = some (.lst vs) ∧ RepAll K Hf vs ds
  | .raw w => v = w
  | .dic t es => ∃ p, v = .ref p ∧ Hf p = none ∧ DicOk K Hf (H p) t es
  | .tab qs rs => ∃ p, v = .ref p ∧ Hf p = none ∧ H p = some (.lst (qs.map V.ref)) ∧ (p :: qs).Nodup ∧ TabOk K Hf H qs rs
  | .grp qs rs => ∃ p, v = .ref p ∧ Hf p = none ∧ H p = some (.dK (kvG qs)) ∧ (p :: qs).Nodup ∧ TabOk K Hf H qs rs
  | .rg lo hi => ∃ p, v = .ref p ∧ Hf p = some (.rng lo hi)
def Own (g : Gh) (σ : L2.St) (p : Addr) : Prop := ∃ (i : Nat) (s : Sl), g[i]? = some s ∧ s.ow = true ∧ At s σ[i]? p
structure En (K : Frag) (pr : List Nat) (B : Addr → Prop) (Hf H : Hp) (g : Gh) (σ : L2.St) : Prop where
  ex : Evl.Ex Hf H
  len : g.length = σ.length
  ok : ∀ (i : Nat) (s : Sl), g[i]? = some s → s ≠ .un → ∃ v, σ[i]? = some (some v) ∧ SlotOk K Hf H s v
  dis : ∀ (i j : Nat) (s t : Sl) (p : Addr), g[i]? = some s → s.ow = true → g[j]? = some t → t.ow = true → At s σ[i]? p → At t σ[j]? p → i = j
  nb : ∀ p, H p = none → B p
  ob : ∀ (i : Nat) (s : Sl) (p : Addr), g[i]? = some s → s.ow = true → σ[i]? = some (some (.ref p)) → i ∈ pr ∨ B p
  obi : ∀ (i : Nat) (s : Sl) (p : Addr), g[i]? = some s → p ∈ s.inn → B p ∧ i ∉ pr
structure Tr (O : Addr → Prop) (Hf H Hf' H' : Hp) : Prop where
  ex : Evl.Ex Hf Hf'
  keep : ∀ p o, H p = some o → ¬ O p → H' p = some o ∧ Hf' p = Hf p
  stay : ∀ p, H' p = none → H p = none
/-- a value on the way, as it stands -/
def WOk (K : Frag) (B : Addr → Prop) (Hf H : Hp) (g : Gh) (σ : L2.St) (w : Wv) (v : V) : Prop :=
  match w with
  | .dat d => Rep K Hf v d
  | .fresh ds => ∃ p vs, v = .ref p ∧ B p ∧ Hf p = none ∧ H p = some (.lst vs) ∧ RepAll K Hf vs ds ∧ ¬ Own g σ p
  | .slot i => σ[i]? = some (some v)
  | .raw x => v = x
section
variable {K : Frag} {pr : List Nat} {B : Addr → Prop} {Hf H Hf' H' Hf1 H1 Hf2 H2 : Hp} {g g' g1 g2 : Gh} {σ σ' : L2.St} {O O1 : Addr → Prop} {v : V} {w : Wv} {d : Da}
theorem upd_none {H : Hp} {p q : Addr} {o : HO} (h : upd H p o q = none) : H q = none := by
  by_cases e : q = p
  · subst e; rw [upd_same] at h; cases h
  · rw [upd_ne e] at h; exact h
theorem Tr.refl : Tr O Hf H Hf H := ⟨Evl.Ex.refl Hf, fun _ _ h _ => ⟨h, rfl⟩, fun _ h => h⟩
theorem Tr.trans (a : Tr O Hf H Hf1 H1) (b : Tr O1 Hf1 H1 Hf2 H2) (s : ∀ p, O1 p → O p ∨ H p = none) : Tr O Hf H Hf2 H2 :=
  ⟨a.ex.trans b.ex, fun p o h n => by
    obtain ⟨h1, e1⟩ := a.keep p o h n
    obtain ⟨h2, e2⟩ := b.keep p o h1 fun z => by
      rcases s p z with z | z
      · exact n z
      · rw [h] at z; cases z
    exact ⟨h2, e2.trans e1⟩, fun p h => a.stay p (b.stay p h)⟩
theorem Tr.trans' (a : Tr O Hf H Hf1 H1) (b : Tr O1 Hf1 H1 Hf2 H2) (s : ∀ p, O1 p → O p) : Tr O Hf H Hf2 H2 := a.trans b fun p h => .inl (s p h)
theorem Tr.wide (a : Tr O Hf H Hf1 H1) (s : ∀ p, O p → O1 p) : Tr O1 Hf H Hf1 H1 := ⟨a.ex, fun p o h n => a.keep p o h fun z => n (s p z), a.stay⟩
theorem En.frz (E : En K pr B Hf H g σ) {p : Addr} (h : H p = none) : Hf p = none := Evl.fresh_back E.ex h
theorem SlotOk.there {s : Sl} {v : V} (h : SlotOk K Hf H s v) (o : s.ow = true) : ∃ p u, v = .ref p ∧ H p = some u ∧ Hf p = none := by
  cases s with
  | own ds =>
    obtain ⟨p, vs, e, h1, h2, _⟩ := h
    exact ⟨p, _, e, h2, h1⟩
  | dic t es =>
    obtain ⟨p, e, h1, h2⟩ := h
    obtain ⟨u, hu⟩ := h2.some
    exact ⟨p, u, e, hu, h1⟩
  | tab qs rs =>
    obtain ⟨p, e, h1, h2, _⟩ := h
    exact ⟨p, _, e, h2, h1⟩
  | grp qs rs =>
    obtain ⟨p, e, h1, h2, _⟩ := h
    exact ⟨p, _, e, h2, h1⟩
  | un => cases o
  | val d => cases o
  | raw w => cases o
  | rg a b => cases o
theorem SlotOk.inn {s : Sl} {v : V} {p : Addr} (h : SlotOk K Hf H s v) (hp : p ∈ s.inn) : ∃ u, H p = some u ∧ Hf p = none := by
  cases s with
  | tab qs rs =>
    obtain ⟨_, _, _, _, _, t⟩ := h
    exact t.there hp
  | grp qs rs =>
    obtain ⟨_, _, _, _, _, t⟩ := h
    exact t.there hp
  | _ => cases hp
theorem SlotOk.atS {s : Sl} {v : V} {p : Addr} (h : SlotOk K Hf H s v) (o : s.ow = true) (a : At s (some (some v)) p) : ∃ u, H p = some u ∧ Hf p = none := by
  rcases a with a | a
  · obtain ⟨q, u, rfl, h1, h2⟩ := h.there o
    cases a
    exact ⟨u, h1, h2⟩
  · exact h.inn a
theorem SlotOk.stay {s : Sl} {v : V} (h : SlotOk K Hf H s v) (ex : Evl.Ex Hf Hf') (k : ∀ p u, s.ow = true → At s (some (some v)) p → H p = some u → Hf p = none → H' p = some u ∧ Hf' p = none) : SlotOk K Hf' H' s v := by
  cases s with
  | un => trivial
  | val d => exact Rep.mono ex h
  | own ds =>
    obtain ⟨q, vs, rfl, h1, h2, h3⟩ := h
    obtain ⟨k1, k2⟩ := k q _ rfl (.inl rfl) h2 h1
    exact ⟨q, vs, rfl, k2, k1, h3.mono ex⟩
  | dic t es =>
    obtain ⟨q, rfl, h1, h2⟩ := h
    obtain ⟨u, hu⟩ := h2.some
    obtain ⟨k1, k2⟩ := k q _ rfl (.inl rfl) hu h1
    exact ⟨q, rfl, k2, by rw [k1, ← hu]; exact h2.mono ex⟩
  | tab qs rs =>
    obtain ⟨q, rfl, h1, h2, h3, h4⟩ := h
    obtain ⟨k1, k2⟩ := k q _ rfl (.inl rfl) h2 h1
    exact ⟨q, rfl, k2, k1, h3, h4.stay ex fun p u hp => k p u rfl (.inr hp)⟩
  | grp qs rs =>
    obtain ⟨q, rfl, h1, h2, h3, h4⟩ := h
    obtain ⟨k1, k2⟩ := k q _ rfl (.inl rfl) h2 h1
    exact ⟨q, rfl, k2, k1, h3, h4.stay ex fun p u hp => k p u rfl (.inr hp)⟩
  | rg a b =>
    obtain ⟨q, rfl, h1⟩ := h
    exact ⟨q, rfl, ex _ _ h1⟩
  | raw w => exact h
theorem inn_ow {s : Sl} {p : Addr} (h : p ∈ s.inn) : s.ow = true := by
  cases s with
  | tab qs rs => rfl
  | grp qs rs => rfl
  | _ => cases h
theorem ow_ne {s : Sl} (o : s.ow = true) : s ≠ .un := fun z => by rw [z] at o; cases o
theorem En.own_some (E : En K pr B Hf H g σ) {p : Addr} (h : Own g σ p) : ∃ u, H p = some u ∧ Hf p = none := by
  obtain ⟨i, s, e1, o, e2⟩ := h
  obtain ⟨v, e3, sl⟩ := E.ok i _ e1 (ow_ne o)
  rw [e3] at e2
  exact sl.atS o e2
theorem En.own_none (E : En K pr B Hf H g σ) {p : Addr} (h : H p = none) : ¬ Own g σ p := fun z => by
  obtain ⟨u, h1, _⟩ := E.own_some z
  rw [h] at h1; cases h1
/-- a new object, frozen at once -/
theorem En.new (E : En K pr B Hf H g σ) {p : Addr} {o : HO} (h : H p = none) : En K pr B (upd Hf p o) (upd H p o) g σ where
  ex := fun a u e => by
    by_cases q : a = p
    · subst q; rw [upd_same] at e ⊢; exact e
    · rw [upd_ne q] at e ⊢; exact E.ex a u e
  len := E.len
  ok := fun i s e n => by
    obtain ⟨v, e1, s1⟩ := E.ok i s e n
    refine ⟨v, e1, ?_⟩
    exact s1.stay (Evl.Ex.new (E.frz h)) fun q u _ _ h2 h1 => by
      have ne : q ≠ p := ne_of_none h2 h
      exact ⟨by rw [upd_ne ne]; exact h2, by rw [upd_ne ne]; exact h1⟩
  dis := E.dis
  nb := fun q hq => by
    by_cases e : q = p
    · subst e; rw [upd_same] at hq; cases hq
    · rw [upd_ne e] at hq; exact E.nb q hq
  ob := E.ob
  obi := E.obi
theorem Tr.new {p : Addr} {o : HO} (hf : Hf p = none) (h : H p = none) : Tr O Hf H (upd Hf p o) (upd H p o) :=
  ⟨Evl.Ex.new hf, fun q u e _ => by
    have ne : q ≠ p := ne_of_none e h
    exact ⟨by rw [upd_ne ne]; exact e, upd_ne ne⟩, fun q hq => upd_none hq⟩
/-- a new object that is not frozen -/
theorem En.mut (E : En K pr B Hf H g σ) {p : Addr} {o : HO} (h : H p = none) : En K pr B Hf (upd H p o) g σ where
  ex := Evl.Ex.mut E.ex (E.frz h)
  len := E.len
  ok := fun i s e n => by
    obtain ⟨v, e1, s1⟩ := E.ok i s e n
    refine ⟨v, e1, ?_⟩
    exact s1.stay (Evl.Ex.refl _) fun q u _ _ h2 h1 => ⟨by rw [upd_ne (ne_of_none h2 h)]; exact h2, h1⟩
  dis := E.dis
  nb := fun q hq => by
    by_cases e : q = p
    · subst e; rw [upd_same] at hq; cases hq
    · rw [upd_ne e] at hq; exact E.nb q hq
  ob := E.ob
  obi := E.obi
theorem Tr.mut {p : Addr} {o : HO} (h : H p = none) : Tr O Hf H Hf (upd H p o) :=
  ⟨Evl.Ex.refl _, fun q u e _ => ⟨by rw [upd_ne (ne_of_none e h)]; exact e, rfl⟩, fun q hq => upd_none hq⟩
/-- an object that no slot owns and that is not frozen, changed -/
theorem En.put (E : En K pr B Hf H g σ) {p : Addr} {o : HO} (hf : Hf p = none) (n : ¬ Own g σ p) : En K pr B Hf (upd H p o) g σ where
  ex := Evl.Ex.mut E.ex hf
  len := E.len
  ok := fun i s e m => by
    obtain ⟨v, e1, s1⟩ := E.ok i s e m
    refine ⟨v, e1, ?_⟩
    exact s1.stay (Evl.Ex.refl _) fun q u o z h2 h1 => by
      have ne : q ≠ p := fun y => by subst y; exact n ⟨i, s, e, o, by rw [e1]; exact z⟩
      exact ⟨by rw [upd_ne ne]; exact h2, h1⟩
  dis := E.dis
  nb := fun q hq => by
    by_cases e : q = p
    · subst e; rw [upd_same] at hq; cases hq
    · rw [upd_ne e] at hq; exact E.nb q hq
  ob := E.ob
  obi := E.obi
/-- such an object is frozen as it stands -/
theorem En.freeze (E : En K pr B Hf H g σ) {p : Addr} {o : HO} (h : H p = some o) (hf : Hf p = none) (n : ¬ Own g σ p) : En K pr B (upd Hf p o) H g σ where
  ex := fun a u e => by
    by_cases q : a = p
    · subst q; rw [upd_same] at e; cases e; exact h
    · rw [upd_ne q] at e; exact E.ex a u e
  len := E.len
  ok := fun i s e m => by
    obtain ⟨v, e1, s1⟩ := E.ok i s e m
    refine ⟨v, e1, ?_⟩
    exact s1.stay (Evl.Ex.new hf) fun q u o z h2 h1 => by
      have ne : q ≠ p := fun y => by subst y; exact n ⟨i, s, e, o, by rw [e1]; exact z⟩
      exact ⟨h2, by rw [upd_ne ne]; exact h1⟩
  dis := E.dis
  nb := E.nb
  ob := E.ob
  obi := E.obi
theorem get_set {α : Type} {l : List α} {i j : Nat} {a b : α} (h : (l.set i a)[j]? = some b) : (j = i ∧ b = a) ∨ (j ≠ i ∧ l[j]? = some b) := by
  by_cases e : i = j
  · subst e
    by_cases hl : i < l.length
    · rw [List.getElem?_set_self hl] at h
      cases h
      exact .inl ⟨rfl, rfl⟩
    · rw [List.getElem?_eq_none (by simpa using hl)] at h
      cases h
  · rw [List.getElem?_set_ne e] at h
    exact .inr ⟨fun z => e z.symm, h⟩
/-- a slot given up -/
theorem get_un {g : Gh} {i j : Nat} {s : Sl} (h : (g.set i .un)[j]? = some s) (o : s.ow = true) : j ≠ i ∧ g[j]? = some s := by
  rcases get_set h with ⟨_, z⟩ | ⟨n, h⟩
  · rw [z] at o; cases o
  · exact ⟨n, h⟩
theorem En.drop (E : En K pr B Hf H g σ) (i : Nat) : En K pr B Hf H (g.set i .un) σ where
  ex := E.ex
  len := by rw [List.length_set]; exact E.len
  ok := fun j s e n => by
    rcases get_set e with ⟨_, z⟩ | ⟨_, e⟩
    · exact absurd z n
    · exact E.ok j s e n
  dis := fun a b s t p h1 o1 h2 o2 => E.dis a b s t p (get_un h1 o1).2 o1 (get_un h2 o2).2 o2
  nb := E.nb
  ob := fun a s p h1 o1 => E.ob a s p (get_un h1 o1).2 o1
  obi := fun a s p h1 hp => E.obi a s p (get_un h1 (inn_ow hp)).2 hp
theorem own_drop {i : Nat} {p : Addr} (h : Own (g.set i .un) σ p) : Own g σ p := by
  obtain ⟨j, s, e1, o, e2⟩ := h
  exact ⟨j, s, (get_un e1 o).2, o, e2⟩
/-- behind giving up, the object is nobody's -/
theorem En.not_own_dropS (E : En K pr B Hf H g σ) {i : Nat} {s : Sl} {p : Addr} (h : g[i]? = some s) (o : s.ow = true) (e : At s σ[i]? p) : ¬ Own (g.set i .un) σ p := fun z => by
  obtain ⟨j, t, e1, o1, e2⟩ := z
  obtain ⟨ne, e1⟩ := get_un e1 o1
  exact ne (E.dis j i t s p e1 o1 h o e2 e)
theorem En.not_own_drop (E : En K pr B Hf H g σ) {i : Nat} {ds : List Da} {p : Addr} (h : g[i]? = some (.own ds)) (e : σ[i]? = some (some (.ref p))) : ¬ Own (g.set i .un) σ p := E.not_own_dropS h rfl (.inl e)
/-- a slot's word replaced, the value as it stands -/
theorem En.put_slotT (E : En K pr B Hf H g σ) {i : Nat} {s : Sl} {v : V} (hv : σ[i]? = some (some v)) (hs : SlotOk K Hf H s v) (ho : s.ow = true → ∀ p, v = .ref p → ¬ Own (g.set i .un) σ p ∧ (i ∈ pr ∨ B p)) (hi : ∀ p, p ∈ s.inn → ¬ Own (g.set i .un) σ p ∧ B p ∧ i ∉ pr) : En K pr B Hf H (g.set i s) σ where
  ex := E.ex
  len := by rw [List.length_set]; exact E.len
  ok := fun j t e n => by
    rcases get_set e with ⟨rfl, rfl⟩ | ⟨_, e⟩
    · exact ⟨v, hv, hs⟩
    · exact E.ok j t e n
  dis := fun a b s1 t1 p h1 o1 h2 o2 e1 e2 => by
    have no : s.ow = true → At s σ[i]? p → ¬ Own (g.set i .un) σ p := fun o z => by
      rcases z with z | z
      · rw [hv] at z
        exact (ho o p (Option.some.inj (Option.some.inj z))).1
      · exact (hi p z).1
    rcases get_set h1 with ⟨rfl, rfl⟩ | ⟨na, h1'⟩
    · rcases get_set h2 with ⟨rfl, _⟩ | ⟨nb, h2'⟩
      · rfl
      · exact absurd ⟨b, t1, by rw [List.getElem?_set_ne (Ne.symm nb)]; exact h2', o2, e2⟩ (no o1 e1)
    · rcases get_set h2 with ⟨rfl, rfl⟩ | ⟨nb, h2'⟩
      · exact absurd ⟨a, s1, by rw [List.getElem?_set_ne (Ne.symm na)]; exact h1', o1, e1⟩ (no o2 e2)
      · exact E.dis a b s1 t1 p h1' o1 h2' o2 e1 e2
  nb := E.nb
  ob := fun a s1 p h1 o1 e1 => by
    rcases get_set h1 with ⟨rfl, rfl⟩ | ⟨na, h1'⟩
    · rw [e1] at hv; cases hv
      exact (ho o1 p rfl).2
    · exact E.ob a s1 p h1' o1 e1
  obi := fun a s1 p h1 hp => by
    rcases get_set h1 with ⟨rfl, rfl⟩ | ⟨na, h1'⟩
    · exact (hi p hp).2
    · exact E.obi a s1 p h1' hp
theorem En.put_slotS (E : En K pr B Hf H g σ) {i : Nat} {s : Sl} {v : V} (hv : σ[i]? = some (some v)) (hs : SlotOk K Hf H s v) (ho : s.ow = true → ∀ p, v = .ref p → ¬ Own (g.set i .un) σ p ∧ (i ∈ pr ∨ B p)) (ni : s.inn = []) : En K pr B Hf H (g.set i s) σ :=
  E.put_slotT hv hs ho fun p hp => by rw [ni] at hp; cases hp
theorem En.put_slot (E : En K pr B Hf H g σ) {i : Nat} {s : Sl} {v : V} (hv : σ[i]? = some (some v)) (hs : SlotOk K Hf H s v) (ho : ∀ ds, s = .own ds → ∀ p, v = .ref p → ¬ Own (g.set i .un) σ p ∧ (i ∈ pr ∨ B p)) (nd : ∀ t es, s ≠ .dic t es := by intro _ _ z; cases z) (nt : ∀ t es, s ≠ .tab t es := by intro _ _ z; cases z) (ng : ∀ t es, s ≠ .grp t es := by intro _ _ z; cases z) : En K pr B Hf H (g.set i s) σ :=
  E.put_slotS hv hs (fun o p => by
    cases s with
    | own ds => exact ho ds rfl p
    | dic t es => exact absurd rfl (nd t es)
    | tab t es => exact absurd rfl (nt t es)
    | grp t es => exact absurd rfl (ng t es)
    | un => cases o
    | val d => cases o
    | raw w => cases o
    | rg a b => cases o) (by cases s <;> first | rfl | exact absurd rfl (nt _ _) | exact absurd rfl (ng _ _))
theorem own_putS {i : Nat} {s : Sl} {p : Addr} (h : Own (g.set i s) σ p) : Own (g.set i .un) σ p ∨ (s.ow = true ∧ At s σ[i]? p) := by
  obtain ⟨j, t, e1, o, e2⟩ := h
  rcases get_set e1 with ⟨rfl, rfl⟩ | ⟨n, e1⟩
  · exact .inr ⟨o, e2⟩
  · exact .inl ⟨j, t, by rw [List.getElem?_set_ne (Ne.symm n)]; exact e1, o, e2⟩
theorem own_put {i : Nat} {s : Sl} {p : Addr} (h : Own (g.set i s) σ p) (nd : ∀ t es, s ≠ .dic t es := by intro _ _ z; cases z) (nt : ∀ t es, s ≠ .tab t es := by intro _ _ z; cases z) (ng : ∀ t es, s ≠ .grp t es := by intro _ _ z; cases z) : Own (g.set i .un) σ p ∨ (∃ ds, s = .own ds ∧ σ[i]? = some (some (.ref p))) := by
  rcases own_putS h with z | ⟨o, z⟩
  · exact .inl z
  · refine .inr ?_
    cases s with
    | own ds => exact ⟨ds, rfl, z.eq⟩
    | dic t es => exact absurd rfl (nd t es)
    | tab t es => exact absurd rfl (nt t es)
    | grp t es => exact absurd rfl (ng t es)
    | un => cases o
    | val d => cases o
    | raw w => cases o
    | rg a b => cases o
/-- a slot's word weakened -/
theorem En.own_val (E : En K pr B Hf H g σ) {i : Nat} {ds : List Da} (h : g[i]? = some (.own ds)) :
    ∃ p vs, σ[i]? = some (some (.ref p)) ∧ H p = some (.lst vs) ∧ Hf p = none ∧ RepAll K Hf vs ds ∧ Own g σ p := by
  obtain ⟨v, e1, p, vs, rfl, h1, h2, h3⟩ := E.ok i _ h (by simp)
  exact ⟨p, vs, e1, h2, h1, h3, i, .own ds, h, rfl, .inl e1⟩
theorem lt_of_get {α : Type} {l : List α} {i : Nat} {a : α} (h : l[i]? = some a) : i < l.length := by
  rcases Nat.lt_or_ge i l.length with q | q
  · exact q
  · rw [List.getElem?_eq_none q] at h; cases h
/-- a slot that owns is frozen -/
theorem En.freezeSlot (E : En K pr B Hf H g σ) {i : Nat} {ds : List Da} {p : Addr} {vs : List V} (h : g[i]? = some (.own ds)) (e : σ[i]? = some (some (.ref p))) (hp : H p = some (.lst vs)) :
    En K pr B (upd Hf p (.lst vs)) H (g.set i (.val (.list ds))) σ ∧ Rep K (upd Hf p (.lst vs)) (.ref p) (.list ds) ∧ Tr (Own g σ) Hf H (upd Hf p (.lst vs)) H ∧ (∀ q, Own (g.set i (.val (.list ds))) σ q → Own g σ q) := by
  obtain ⟨p', vs', e1, h1, h2, h3, ow⟩ := E.own_val h
  rw [e] at e1; cases e1
  rw [hp] at h1; cases h1
  have n := E.not_own_drop h e
  have E1 := (E.drop i).freeze hp h2 n
  have r : Rep K (upd Hf p (.lst vs)) (.ref p) (.list ds) := .lst (.inl (.inl upd_same)) (h3.mono (Evl.Ex.new h2))
  have E2 := E1.put_slot (i := i) (s := .val (.list ds)) e r (fun _ z => by cases z)
  rw [List.set_set] at E2
  refine ⟨E2, r, ⟨Evl.Ex.new h2, fun q o hq no => ⟨hq, upd_ne (fun z => no (z ▸ ow))⟩, fun _ h => h⟩, fun q hq => ?_⟩
  rcases own_put hq with z | ⟨_, z, _⟩
  · exact own_drop z
  · cases z
/-- the word of a value on the way, further on -/
theorem WOk.step (h : WOk K B Hf1 H1 g1 σ w v) (E1 : En K pr B Hf1 H1 g1 σ) (t : Tr (Own g1 σ) Hf1 H1 Hf2 H2) (s : ∀ p, Own g2 σ p → Own g1 σ p ∨ H1 p = none) : WOk K B Hf2 H2 g2 σ w v := by
  cases w with
  | dat d => exact Rep.mono t.ex h
  | fresh ds =>
    obtain ⟨p, vs, rfl, hb, hf, hp, r, n⟩ := h
    obtain ⟨k1, k2⟩ := t.keep p _ hp n
    refine ⟨p, vs, rfl, hb, k2.trans hf, k1, r.mono t.ex, fun z => ?_⟩
    rcases s p z with z | z
    · exact n z
    · rw [hp] at z; cases z
  | slot i => exact h
  | raw x => exact h
end
/-! ### from a value on the way to data -/
def toD : Wv → Gh → Option (Da × Gh)
  | .dat d, g => some (d, g)
  | .fresh ds, g => some (.list ds, g)
  | .slot i, g => match g[i]? with
    | some (.own ds) => some (.list ds, g.set i (.val (.list ds)))
    | some (.val d) => some (d, g)
    | _ => none
  | .raw _, _ => none
def look : Wv → Gh → Option Da
  | .dat d, _ => some d
  | .fresh ds, _ => some (.list ds)
  | .slot i, g => match g[i]? with
    | some (.own ds) => some (.list ds)
    | some (.val d) => some d
    | _ => none
  | .raw _, _ => none
section
variable {K : Frag} {pr : List Nat} {B : Addr → Prop} {Hf H Hf' H' Hf1 H1 Hf2 H2 : Hp} {g g' g1 g2 : Gh} {σ σ' : L2.St} {O O1 : Addr → Prop} {v : V} {w : Wv} {d : Da}
/-- the step: what an expression leaves -/
structure Stp (K : Frag) (pr : List Nat) (B : Addr → Prop) (Hf H : Hp) (g : Gh) (σ : L2.St) (Hf' H' : Hp) (g' : Gh) : Prop where
  tr : Tr (Own g σ) Hf H Hf' H'
  env : En K pr B Hf' H' g' σ
  sub : ∀ p, Own g' σ p → Own g σ p
theorem Stp.refl (E : En K pr B Hf H g σ) : Stp K pr B Hf H g σ Hf H g := ⟨Tr.refl, E, fun _ h => h⟩
theorem Stp.trans (a : Stp K pr B Hf H g σ Hf1 H1 g1) (b : Stp K pr B Hf1 H1 g1 σ Hf2 H2 g2) : Stp K pr B Hf H g σ Hf2 H2 g2 :=
  ⟨a.tr.trans' b.tr a.sub, b.env, fun p h => a.sub p (b.sub p h)⟩
theorem Stp.way (a : Stp K pr B Hf1 H1 g1 σ Hf2 H2 g2) (E : En K pr B Hf1 H1 g1 σ) (h : WOk K B Hf1 H1 g1 σ w v) : WOk K B Hf2 H2 g2 σ w v := h.step E a.tr fun p z => .inl (a.sub p z)
/-- freezing a fresh list: the step is from ahead of its making (B p: it is young) -/
theorem toD_ok (E : En K pr B Hf H g σ) (h : WOk K B Hf H g σ w v) (e : toD w g = some (d, g')) :
    ∃ Hf', En K pr B Hf' H g' σ ∧ Rep K Hf' v d ∧ Evl.Ex Hf Hf' ∧ (∀ p, Own g' σ p → Own g σ p) ∧ (∀ p o, H p = some o → ¬ Own g σ p → Hf' p = Hf p ∨ ((∃ ds, w = .fresh ds) ∧ v = .ref p)) := by
  cases w with
  | dat d' =>
    cases e
    exact ⟨Hf, E, h, Evl.Ex.refl _, fun _ h => h, fun _ _ _ _ => .inl rfl⟩
  | fresh ds =>
    cases e
    obtain ⟨p, vs, rfl, hb, hf, hp, r, n⟩ := h
    refine ⟨upd Hf p (.lst vs), E.freeze hp hf n, .lst (.inl (.inl upd_same)) (r.mono (Evl.Ex.new hf)), Evl.Ex.new hf, fun _ h => h, fun q o hq nq => ?_⟩
    by_cases z : q = p
    · subst z; exact .inr ⟨⟨ds, rfl⟩, rfl⟩
    · exact .inl (upd_ne z)
  | slot i =>
    have h : σ[i]? = some (some v) := h
    unfold toD at e
    dsimp only at e
    cases hg : g[i]? with
    | none => rw [hg] at e; cases e
    | some sl =>
      rw [hg] at e
      cases sl with
      | own ds =>
        cases e
        obtain ⟨p, vs, e1, h1, h2, h3, ow⟩ := E.own_val hg
        rw [h] at e1; cases e1
        obtain ⟨E2, r, t, s⟩ := E.freezeSlot hg h h1
        exact ⟨_, E2, r, t.ex, s, fun q o hq nq => .inl (t.keep q o hq nq).2⟩
      | val d' =>
        cases e
        obtain ⟨v', e1, r⟩ := E.ok i _ hg (by simp)
        rw [h] at e1; cases e1
        exact ⟨Hf, E, r, Evl.Ex.refl _, fun _ h => h, fun _ _ _ _ => .inl rfl⟩
      | un => cases e
      | raw x => cases e
      | dic t es => cases e
      | tab t es => cases e
      | grp t es => cases e
      | rg a b => cases e
  | raw x => cases e
/-- .. as a step from ahead, where the fresh list did not stand -/
theorem Stp.toD (a : Stp K pr B Hf H g σ Hf1 H1 g1) (hn : ∀ ds, w = .fresh ds → ∀ p, v = .ref p → H p = none) (h : WOk K B Hf1 H1 g1 σ w v) (e : toD w g1 = some (d, g')) :
    ∃ Hf', Stp K pr B Hf H g σ Hf' H1 g' ∧ Rep K Hf' v d := by
  obtain ⟨Hf', E', r, ex, s, k⟩ := toD_ok a.env h e
  refine ⟨Hf', ⟨⟨a.tr.ex.trans ex, fun p o hp no => ?_, a.tr.stay⟩, E', fun p z => a.sub p (s p z)⟩, r⟩
  obtain ⟨k1, k2⟩ := a.tr.keep p o hp no
  refine ⟨k1, ?_⟩
  rcases k p o k1 (fun z => no (a.sub p z)) with z | ⟨⟨ds, z⟩, z2⟩
  · exact z.trans k2
  · have := hn ds z p z2
    rw [hp] at this; cases this
theorem look_ok (E : En K pr B Hf H g σ) (h : WOk K B Hf H g σ w v) (e : look w g = some d) : Rep K H v d ∧ (Rep K Hf v d ∨ ∃ p vs ds, v = .ref p ∧ d = .list ds ∧ H p = some (.lst vs) ∧ RepAll K Hf vs ds) := by
  cases w with
  | dat d' => cases e; exact ⟨Rep.mono E.ex h, .inl h⟩
  | fresh ds =>
    cases e
    obtain ⟨p, vs, rfl, hb, hf, hp, r, n⟩ := h
    exact ⟨.lst (.inl (.inl hp)) (r.mono E.ex), .inr ⟨p, vs, ds, rfl, rfl, hp, r⟩⟩
  | slot i =>
    have h : σ[i]? = some (some v) := h
    unfold look at e
    dsimp only at e
    cases hg : g[i]? with
    | none => rw [hg] at e; cases e
    | some sl =>
      rw [hg] at e
      cases sl with
      | own ds =>
        cases e
        obtain ⟨p, vs, e1, h1, h2, h3, ow⟩ := E.own_val hg
        rw [h] at e1; cases e1
        exact ⟨.lst (.inl (.inl h1)) (h3.mono E.ex), .inr ⟨p, vs, ds, rfl, rfl, h1, h3⟩⟩
      | val d' =>
        cases e
        obtain ⟨v', e1, r⟩ := E.ok i _ hg (by simp)
        rw [h] at e1; cases e1
        exact ⟨Rep.mono E.ex r, .inl r⟩
      | un => cases e
      | raw x => cases e
      | dic t es => cases e
      | tab t es => cases e
      | grp t es => cases e
      | rg a b => cases e
  | raw x => cases e
end
end EV
end
section
set_option maxHeartbeats 2000000
set_option autoImplicit false
namespace EV
open PySem PySem.Spec PyProof.Rows L2
/-! ### families of contexts -/
structure Fam where
  ι : Type
  X : ι → Cx
  K : Frag
  hK : ∀ i, (X i).K = K
def Fam.one (X : Cx) : Fam := ⟨Unit, fun _ => X, X.K, fun _ => rfl⟩
def Fam.blk (F : Fam) (scope : Scope) : Fam :=
  ⟨F.ι × Shared × Hp × Addr × List (Str × Addr) × List Addr, fun i => (F.X i.1).blk i.2.1 i.2.2.1 scope (compEnvC scope i.2.2.2.2.1 i.2.2.2.1 (F.X i.1).env) i.2.2.2.2.2, F.K, fun i => F.hK i.1⟩
section
variable (F : Fam)
def U (e : Expr) : TE := fun σ H Q => ∃ t : TE, (∀ i, PE (F.X i) e t) ∧ t σ H Q
def UT (e : Expr) : TT := fun σ H Q => ∃ t : TT, (∀ i, PT (F.X i) e t) ∧ t σ H Q
def UW (e : Expr) : TT := fun σ H Q => ∃ t : TT, (∀ i, PW (F.X i) e t) ∧ t σ H Q
def UTs (e : List Expr) : TT := fun σ H Q => ∃ t : TT, (∀ i, PTs (F.X i) e t) ∧ t σ H Q
def UA (es : List Expr) : TA := fun σ H Q => ∃ t : TA, (∀ i, PA (F.X i) es t) ∧ t σ H Q
def US (st : Stmt) : TS := fun D σ H => ∃ t : TS, (∀ i, PS (F.X i) st t) ∧ t D σ H
def USs (st : List Stmt) : TS := fun D σ H => ∃ t : TS, (∀ i, PSs (F.X i) st t) ∧ t D σ H
def UG (tg : Expr) : TG := fun v σ H Q => ∃ t : TG, (∀ i, PG (F.X i) tg t) ∧ t v σ H Q
def UI (tg it : Expr) : TI := fun σ H R => ∃ t : TI, (∀ i, PI (F.X i) tg it t) ∧ t σ H R
def UO (e : Option Expr) : TO := fun σ H Q => ∃ t : TO, (∀ i, PO (F.X i) e t) ∧ t σ H Q
variable {F}
theorem pe_U {e : Expr} (i : F.ι) : PE (F.X i) e (U F e) := ⟨fun pins s σ H Q I ⟨t, ht, h⟩ => (ht i).run pins s σ H Q I h⟩
theorem pt_U {e : Expr} (i : F.ι) : PT (F.X i) e (UT F e) := ⟨fun pins s σ H Q I ⟨t, ht, h⟩ => (ht i).run pins s σ H Q I h⟩
theorem pw_U {e : Expr} (i : F.ι) : PW (F.X i) e (UW F e) := ⟨fun wh pins s σ H Q I ⟨t, ht, h⟩ => (ht i).run wh pins s σ H Q I h⟩
theorem pts_U {e : List Expr} (i : F.ι) : PTs (F.X i) e (UTs F e) := ⟨fun pins s σ H Q I ⟨t, ht, h⟩ => (ht i).run pins s σ H Q I h⟩
theorem pa_U {e : List Expr} (i : F.ι) : PA (F.X i) e (UA F e) := ⟨fun pos pins s σ H Q I ⟨t, ht, h⟩ => (ht i).run pos pins s σ H Q I h⟩
theorem ps_U {e : Stmt} (i : F.ι) : PS (F.X i) e (US F e) := ⟨fun pins s σ H D I ⟨t, ht, h⟩ => (ht i).run pins s σ H D I h⟩
theorem pss_U {e : List Stmt} (i : F.ι) : PSs (F.X i) e (USs F e) := ⟨fun pins s σ H D I ⟨t, ht, h⟩ => (ht i).run pins s σ H D I h⟩
theorem pg_U {e : Expr} (i : F.ι) : PG (F.X i) e (UG F e) := ⟨fun pins s σ H v u Q I r ⟨t, ht, h⟩ => (ht i).run pins s σ H v u Q I r h⟩
theorem pi_U {tg e : Expr} (i : F.ι) : PI (F.X i) tg e (UI F tg e) := ⟨fun pins s σ H Q I ⟨t, ht, h⟩ => (ht i).run pins s σ H Q I h⟩
theorem po_U {e : Option Expr} (i : F.ι) : PO (F.X i) e (UO F e) := ⟨fun pins s σ H Q I ⟨t, ht, h⟩ => (ht i).run pins s σ H Q I h⟩
end
/-! ### the judgements -/
abbrev ME := Gh → Option (Wv × Gh)
abbrev MT := Gh → Option (Bool × Gh)
abbrev MA := Gh → Option (List Wv × Gh)
abbrev MI := Gh → Option (List Da × Gh)
inductive Fl where
  | nx | rt (w : Wv) | bk | ct
abbrev MS := Gh → Option (Fl × Gh)
/-- a fresh list did not stand at H -/
def Yng (H : Hp) (w : Wv) (v : V) : Prop := ∀ ds, w = .fresh ds → ∀ p, v = .ref p → H p = none
def Apart (w : Wv) (v : V) (ws : List Wv) (vs : List V) : Prop := ∀ ds p, w = .fresh ds → v = .ref p → ∀ (i : Nat) es, ws[i]? = some (.fresh es) → vs[i]? = some (.ref p) → False
inductive WAll (K : Frag) (B : Addr → Prop) (Hf H : Hp) (g : Gh) (σ : L2.St) : List Wv → List V → Prop
  | nil : WAll K B Hf H g σ [] []
  | cons {w : Wv} {v : V} {ws : List Wv} {vs : List V} : WOk K B Hf H g σ w v → Apart w v ws vs → WAll K B Hf H g σ ws vs → WAll K B Hf H g σ (w :: ws) (v :: vs)
inductive YAll (H : Hp) : List Wv → List V → Prop
  | nil : YAll H [] []
  | cons {w : Wv} {v : V} {ws : List Wv} {vs : List V} : Yng H w v → YAll H ws vs → YAll H (w :: ws) (v :: vs)
section
variable (F : Fam) (pr : List Nat)
def Ev (e : Expr) (f : ME) : Prop := ∀ (B : Addr → Prop) (Hf H : Hp) (g : Gh) (σ : L2.St) (w : Wv) (g' : Gh) (Q : VK), En F.K pr B Hf H g σ → f g = some (w, g') →
  (∀ v Hf' H', Stp F.K pr B Hf H g σ Hf' H' g' → WOk F.K B Hf' H' g' σ w v → Yng H w v → Q v H') → U F e σ H Q
def EvT (e : Expr) (f : MT) : Prop := ∀ (B : Addr → Prop) (Hf H : Hp) (g : Gh) (σ : L2.St) (b : Bool) (g' : Gh) (Q : Bool → Hp → Prop), En F.K pr B Hf H g σ → f g = some (b, g') →
  (∀ Hf' H', Stp F.K pr B Hf H g σ Hf' H' g' → Q b H') → UT F e σ H Q
def EvW (e : Expr) (f : MT) : Prop := ∀ (B : Addr → Prop) (Hf H : Hp) (g : Gh) (σ : L2.St) (b : Bool) (g' : Gh) (Q : Bool → Hp → Prop), En F.K pr B Hf H g σ → f g = some (b, g') →
  (∀ Hf' H', Stp F.K pr B Hf H g σ Hf' H' g' → Q b H') → UW F e σ H Q
def EvTs (e : List Expr) (f : MT) : Prop := ∀ (B : Addr → Prop) (Hf H : Hp) (g : Gh) (σ : L2.St) (b : Bool) (g' : Gh) (Q : Bool → Hp → Prop), En F.K pr B Hf H g σ → f g = some (b, g') →
  (∀ Hf' H', Stp F.K pr B Hf H g σ Hf' H' g' → Q b H') → UTs F e σ H Q
def EvA (es : List Expr) (f : MA) : Prop := ∀ (B : Addr → Prop) (Hf H : Hp) (g : Gh) (σ : L2.St) (ws : List Wv) (g' : Gh) (Q : List V → Hp → Prop), En F.K pr B Hf H g σ → f g = some (ws, g') →
  (∀ vs Hf' H', Stp F.K pr B Hf H g σ Hf' H' g' → WAll F.K B Hf' H' g' σ ws vs → YAll H ws vs → Q vs H') → UA F es σ H Q
/-- how a walk goes over data -/
def WalkD (K : Frag) (J : It) (Hf : Hp) (ds : List Da) : Prop := ∀ Hf1 H1, Evl.Ex Hf Hf1 → Evl.Ex Hf1 H1 →
  (∀ i, i < ds.length → J.go i H1) ∧ J.stop ds.length H1 ∧ ∀ i d x H2, ds[i]? = some d → J.yld i H1 x H2 → ∃ Hf2, Tr (fun _ => False) Hf1 H1 Hf2 H2 ∧ (∀ pr B g σ, En K pr B Hf1 H1 g σ → En K pr B Hf2 H2 g σ) ∧ Rep K Hf2 x d
def EvI (tg e : Expr) (f : MI) : Prop := ∀ (B : Addr → Prop) (Hf H : Hp) (g : Gh) (σ : L2.St) (ds : List Da) (g' : Gh) (R : It → Hp → Prop), En F.K pr B Hf H g σ → f g = some (ds, g') →
  (∀ J Hf' H', Stp F.K pr B Hf H g σ Hf' H' g' → WalkD F.K J Hf' ds → R J H') → UI F tg e σ H R
/-- behind a statement -/
structure SStp (K : Frag) (pr : List Nat) (B : Addr → Prop) (Hf H : Hp) (g : Gh) (σ : L2.St) (Hf' H' : Hp) (g' : Gh) (σ' : L2.St) : Prop where
  tr : Tr (Own g σ) Hf H Hf' H'
  env : En K pr B Hf' H' g' σ'
  sub : ∀ p, Own g' σ' p → Own g σ p ∨ H p = none
  prk : ∀ i ∈ pr, σ'[i]? = σ[i]?
def FlOk (K : Frag) (B : Addr → Prop) (Hf H : Hp) (g : Gh) (σ : L2.St) (D : Ends) : Fl → Prop
  | .nx => D.nx σ H
  | .rt w => ∀ v, WOk K B Hf H g σ w v → (∀ i, w ≠ .slot i) → D.rt v H
  | .bk => D.bk σ H
  | .ct => D.ct σ H
def EvS (st : Stmt) (f : MS) : Prop := ∀ (B : Addr → Prop) (Hf H : Hp) (g : Gh) (σ : L2.St) (fl : Fl) (g' : Gh) (D : Ends), En F.K pr B Hf H g σ → f g = some (fl, g') →
  (∀ σ' Hf' H', SStp F.K pr B Hf H g σ Hf' H' g' σ' → FlOk F.K B Hf' H' g' σ' D fl) → US F st D σ H
def EvSs (st : List Stmt) (f : MS) : Prop := ∀ (B : Addr → Prop) (Hf H : Hp) (g : Gh) (σ : L2.St) (fl : Fl) (g' : Gh) (D : Ends), En F.K pr B Hf H g σ → f g = some (fl, g') →
  (∀ σ' Hf' H', SStp F.K pr B Hf H g σ Hf' H' g' σ' → FlOk F.K B Hf' H' g' σ' D fl) → USs F st D σ H
end
section
variable {F : Fam} {pr : List Nat} {B : Addr → Prop} {Hf H Hf' H' Hf1 H1 Hf2 H2 : Hp} {g g' g1 g2 : Gh} {σ σ' σ1 σ2 : L2.St} {K : Frag}
theorem SStp.refl (E : En K pr B Hf H g σ) : SStp K pr B Hf H g σ Hf H g σ := ⟨Tr.refl, E, fun _ h => .inl h, fun _ _ => rfl⟩
theorem SStp.trans (a : SStp K pr B Hf H g σ Hf1 H1 g1 σ1) (b : SStp K pr B Hf1 H1 g1 σ1 Hf2 H2 g2 σ2) : SStp K pr B Hf H g σ Hf2 H2 g2 σ2 :=
  ⟨a.tr.trans b.tr a.sub, b.env, fun p h => by
    rcases b.sub p h with z | z
    · exact a.sub p z
    · exact .inr (a.tr.stay p z), fun i hi => (b.prk i hi).trans (a.prk i hi)⟩
theorem Stp.s (a : Stp K pr B Hf H g σ Hf1 H1 g1) : SStp K pr B Hf H g σ Hf1 H1 g1 σ := ⟨a.tr, a.env, fun p h => .inl (a.sub p h), fun _ _ => rfl⟩
theorem WAll.step : ∀ {ws : List Wv} {vs : List V}, WAll K B Hf1 H1 g1 σ ws vs → En K pr B Hf1 H1 g1 σ → Stp K pr B Hf1 H1 g1 σ Hf2 H2 g2 → WAll K B Hf2 H2 g2 σ ws vs
  | _, _, .nil, _, _ => .nil
  | _, _, .cons a b c, E, s => .cons (s.way E a) b (WAll.step c E s)
theorem YAll.weak (t : ∀ p, H1 p = none → H p = none) : ∀ {ws : List Wv} {vs : List V}, YAll H1 ws vs → YAll H ws vs
  | _, _, .nil => .nil
  | _, _, .cons a b => .cons (fun ds e p e2 => t p (a ds e p e2)) (YAll.weak t b)
end
end EV
end
section
set_option maxHeartbeats 2000000
set_option autoImplicit false
namespace EV
open PySem PySem.Spec PyProof.Rows L2
section
variable {F : Fam} {pr : List Nat} {B : Addr → Prop} {Hf H Hf' H' Hf1 H1 Hf2 H2 : Hp} {g g' g1 g2 : Gh} {σ σ' σ1 σ2 : L2.St} {K : Frag}
/-! ### names and constants -/
def mName (i : Nat) : ME := fun g => match g[i]? with
  | some (.val d) => some (.dat d, g)
  | some (.own _) => some (.slot i, g)
  | some (.raw v) => some (.raw v, g)
  | _ => none
theorem ev_name (i : Nat) {x : Str} {pos : Pos} (hN : ∀ j, (F.X j).N[i]? = some x := by intro _; rfl) (hv : ∀ j, Vis (F.X j).env.scope x := by intro _; first | exact Or.inl rfl | exact Or.inr (Or.inl rfl) | exact Or.inr (Or.inr rfl))
    (hd : (x == ("__debug__" : Str)) = false := by decide) (hcd : (x == ("__classdict__" : Str)) = false := by decide) : Ev F pr (.Name x pos) (mName i) := by
  intro B Hf H g σ w g' Q E e q
  unfold mName at e
  cases hg : g[i]? with
  | none => rw [hg] at e; cases e
  | some s =>
    rw [hg] at e
    have hs : s ≠ .un := fun z => by subst z; cases e
    obtain ⟨v, hv1, so⟩ := E.ok i s hg hs
    refine ⟨tVar i, fun j => pe_var (hN j) (hv j) hd hcd, v, hv1, ?_⟩
    cases s with
    | un => cases e
    | val d => cases e; exact q v Hf H (Stp.refl E) so (fun _ z => nomatch z)
    | own ds => cases e; exact q v Hf H (Stp.refl E) hv1 (fun _ z => nomatch z)
    | raw x => cases e; exact q v Hf H (Stp.refl E) so (fun _ z => nomatch z)
    | dic t es => cases e
    | tab t es => cases e
    | grp t es => cases e
    | rg a b => cases e
def mC (d : Da) : ME := fun g => some (.dat d, g)
theorem ev_c {e : Expr} {v : V} {d : Da} (h : ∀ i, PE (F.X i) e (tC v)) (r : ∀ Hf, Rep F.K Hf v d) : Ev F pr e (mC d) := by
  intro B Hf H g σ w g' Q E e q
  cases e
  exact ⟨_, h, q v Hf H (Stp.refl E) (r Hf) (fun _ z => nomatch z)⟩
theorem ev_int {i : Int} {j pos} : Ev F pr (.Constant (.int i) j pos) (mC (.int i)) := ev_c (fun _ => pe_int) fun _ => .int i
theorem ev_bl {b j pos} : Ev F pr (.Constant (.bool b) j pos) (mC (.bool b)) := ev_c (fun _ => pe_bl) fun _ => .bl b
theorem ev_non {j pos} : Ev F pr (.Constant .none j pos) (mC .none) := ev_c (fun _ => pe_non) fun _ => .non
/-- a constant of the module -/
theorem ev_glob {x : Str} {v : V} {u : Value} {d : Da} {pos : Pos} (hg : ∀ i, Gl (F.X i) x) (hm : ∀ i, (F.X i).mg x = some u) (r : RelV v u) (hr : ∀ Hf, Rep F.K Hf v d) (hd : (x == ("__debug__" : Str)) = false := by decide) : Ev F pr (.Name x pos) (mC d) :=
  ev_c (fun i => pe_glob (hg i) (hm i) r hd) hr
/-! ### argument lists -/
def mNil : MA := fun g => some ([], g)
def mCons (f : ME) (fs : MA) : MA := fun g => (f g).bind fun a => (fs a.2).bind fun b => some (a.1 :: b.1, b.2)
theorem ea_nil : EvA F pr [] mNil := by
  intro B Hf H g σ ws g' Q E e q
  cases e
  exact ⟨tNil, fun _ => pa_nil, q [] Hf H (Stp.refl E) .nil .nil⟩
theorem yall_apart {w : Wv} {v : V} (h : WOk K B Hf H g σ w v) : ∀ {ws : List Wv} {vs : List V}, YAll H ws vs → Apart w v ws vs
  | _, _, .nil => fun ds p _ _ i es h _ => by simp at h
  | _, _, .cons y ys => fun ds p e1 e2 i es h1 h2 => by
    cases i with
    | zero =>
      simp at h1 h2
      subst h1; subst h2; subst e1; subst e2
      obtain ⟨q, vs, e3, _, _, hp, _⟩ := h
      cases e3
      rw [y es rfl _ rfl] at hp; cases hp
    | succ i => exact yall_apart h ys ds p e1 e2 i es (by simpa using h1) (by simpa using h2)
theorem ea_cons {e : Expr} {es : List Expr} {f : ME} {fs : MA} (h : Ev F pr e f) (hs : EvA F pr es fs) (hst : ∀ i, starEach (e :: es) (F.X i).env = (false, eval e (F.X i).env) :: starEach es (F.X i).env := by intro _; rfl) : EvA F pr (e :: es) (mCons f fs) := by
  intro B Hf H g σ ws g' Q E eq q
  obtain ⟨⟨w, g1⟩, e1, eq⟩ := Option.bind_eq_some_iff.mp eq
  obtain ⟨⟨ws', g2⟩, e2, eq⟩ := Option.bind_eq_some_iff.mp eq
  cases eq
  refine ⟨tCons (U F e) (UA F es), fun i => pa_cons (pe_U i) (pa_U i) (hst i), ?_⟩
  refine h B Hf H g σ w g1 _ E e1 fun v Hf1 H1 s1 w1 y1 => ?_
  refine hs B Hf1 H1 g1 σ ws' g2 _ s1.env e2 fun vs Hf2 H2 s2 w2 y2 => ?_
  exact q _ Hf2 H2 (s1.trans s2) (.cons (s2.way s1.env w1) (yall_apart w1 y2 ) w2) (.cons y1 (YAll.weak s1.tr.stay y2))
/-! ### from values on the way to data -/
def toDs : List Wv → Gh → Option (List Da × Gh)
  | [], g => some ([], g)
  | w :: ws, g => (toD w g).bind fun a => (toDs ws a.2).bind fun b => some (a.1 :: b.1, b.2)
def lookAll : List Wv → Gh → Option (List Da)
  | [], _ => some []
  | w :: ws, g => (look w g).bind fun a => (lookAll ws g).bind fun b => some (a :: b)
theorem WOk.frz {w' : Wv} {v' : V} {w : Wv} {v : V} (h : WOk K B Hf H g σ w' v') (ex : Evl.Ex Hf Hf') (s : ∀ p, Own g' σ p → Own g σ p) (k : ∀ p o, H p = some o → ¬ Own g σ p → Hf' p = Hf p ∨ ((∃ ds, w = .fresh ds) ∧ v = .ref p))
    (a : ∀ ds es p, w = .fresh ds → w' = .fresh es → v = .ref p → v' = .ref p → False) : WOk K B Hf' H g' σ w' v' := by
  cases w' with
  | dat d => exact Rep.mono ex h
  | fresh es =>
    obtain ⟨p, vs, rfl, hb, hf, hp, r, n⟩ := h
    refine ⟨p, vs, rfl, hb, ?_, hp, r.mono ex, fun z => n (s p z)⟩
    rcases k p _ hp n with z | ⟨⟨ds, z⟩, z2⟩
    · exact z.trans hf
    · exact (a ds es p z rfl z2 rfl).elim
  | slot i => exact h
  | raw x => exact h
theorem WAll.frz {w : Wv} {v : V} (ex : Evl.Ex Hf Hf') (s : ∀ p, Own g' σ p → Own g σ p) (k : ∀ p o, H p = some o → ¬ Own g σ p → Hf' p = Hf p ∨ ((∃ ds, w = .fresh ds) ∧ v = .ref p)) :
    ∀ {ws : List Wv} {vs : List V}, WAll K B Hf H g σ ws vs → Apart w v ws vs → WAll K B Hf' H g' σ ws vs
  | _, _, .nil, _ => .nil
  | _, _, .cons a b c, ap => .cons (a.frz ex s k fun ds es p e1 e2 e3 e4 => ap ds p e1 e3 0 es (by simp [e2]) (by simp [e4])) b (WAll.frz ex s k c fun ds p e1 e2 i es h1 h2 => ap ds p e1 e2 (i + 1) es (by simpa using h1) (by simpa using h2))
theorem toDs_ok : ∀ {ws : List Wv} {vs : List V} {ds : List Da} {Hf1 : Hp} {g1 g' : Gh}, Stp K pr B Hf H g σ Hf1 H1 g1 → WAll K B Hf1 H1 g1 σ ws vs → YAll H ws vs → toDs ws g1 = some (ds, g') →
    ∃ Hf', Stp K pr B Hf H g σ Hf' H1 g' ∧ Evl.Ex Hf1 Hf' ∧ RepAll K Hf' vs ds
  | _, _, ds, Hf1, g1, g2, s, .nil, _, e => by cases e; exact ⟨Hf1, s, Evl.Ex.refl _, .nil⟩
  | _, _, ds, Hf1, g1, g3, s, .cons a b c, .cons y ys, e => by
    obtain ⟨⟨d, g2⟩, e1, e⟩ := Option.bind_eq_some_iff.mp e
    obtain ⟨⟨ds', g4⟩, e2, e⟩ := Option.bind_eq_some_iff.mp e
    cases e
    obtain ⟨Hf2, E2, r, ex, sb, k⟩ := toD_ok s.env a e1
    have s2 : Stp K pr B Hf H g σ Hf2 H1 g2 := by
      refine ⟨⟨s.tr.ex.trans ex, fun p o hp no => ?_, s.tr.stay⟩, E2, fun p z => s.sub p (sb p z)⟩
      obtain ⟨k1, k2⟩ := s.tr.keep p o hp no
      refine ⟨k1, ?_⟩
      rcases k p o k1 (fun z => no (s.sub p z)) with z | ⟨⟨es, z⟩, z2⟩
      · exact z.trans k2
      · have := y es z p z2
        rw [hp] at this; cases this
    obtain ⟨Hf', s3, ex3, r3⟩ := toDs_ok s2 (WAll.frz ex sb k c b) ys e2
    exact ⟨Hf', s3, ex.trans ex3, .cons (r.mono ex3) r3⟩
/-- what is looked at, as it stands -/
def RL (K : Frag) (Hf H : Hp) (v : V) (d : Da) : Prop := Rep K H v d ∧ (Rep K Hf v d ∨ ∃ p vs ds, v = .ref p ∧ d = .list ds ∧ H p = some (.lst vs) ∧ RepAll K Hf vs ds)
inductive RLs (K : Frag) (Hf H : Hp) : List V → List Da → Prop
  | nil : RLs K Hf H [] []
  | cons {v : V} {vs : List V} {d : Da} {ds : List Da} : RL K Hf H v d → RLs K Hf H vs ds → RLs K Hf H (v :: vs) (d :: ds)
theorem lookAll_ok (E : En K pr B Hf H g σ) : ∀ {ws : List Wv} {vs : List V} {ds : List Da}, WAll K B Hf H g σ ws vs → lookAll ws g = some ds → RLs K Hf H vs ds
  | _, _, ds, .nil, e => by cases e; exact .nil
  | _, _, ds, .cons a b c, e => by
    obtain ⟨d, e1, e⟩ := Option.bind_eq_some_iff.mp e
    obtain ⟨ds', e2, e⟩ := Option.bind_eq_some_iff.mp e
    cases e
    exact .cons (look_ok E a e1) (lookAll_ok E c e2)
theorem RL.seqL {v : V} {ds : List Da} (h : RL K Hf H v (.list ds)) (ex : Evl.Ex Hf H) : ∃ p xs, v = .ref p ∧ SqL K H p xs ∧ RepAll K Hf xs ds := by
  rcases h.2 with r | ⟨p, vs, es, rfl, e, hp, r⟩
  · cases r with
    | lst q r => exact ⟨_, _, rfl, Evl.ex_l ex q, r⟩
  · cases e
    exact ⟨p, vs, rfl, .inl (.inl hp), r⟩
theorem RL.seqT {v : V} {ds : List Da} (h : RL K Hf H v (.tuple ds)) (ex : Evl.Ex Hf H) : ∃ p xs, v = .ref p ∧ SqT K H p xs ∧ RepAll K Hf xs ds := by
  rcases h.2 with r | ⟨p, vs, es, rfl, e, hp, r⟩
  · cases r with
    | tup q r => exact ⟨_, _, rfl, Evl.ex_t ex q, r⟩
  · cases e
theorem RL.int {v : V} {i : Int} (h : RL K Hf H v (.int i)) : v = .int i := by
  cases h.1; rfl
theorem RL.bool {v : V} {i : Bool} (h : RL K Hf H v (.bool i)) : v = .bl i := by
  cases h.1; rfl
theorem RL.str {v : V} {i : Str} (h : RL K Hf H v (.str i)) : v = .str i := by
  cases h.1; rfl
theorem RL.none {v : V} (h : RL K Hf H v .none) : v = .non := by
  cases h.1; rfl
/-! ### displays -/
def mTup (fa : MA) : ME := fun g => (fa g).bind fun a => (toDs a.1 a.2).bind fun r => if r.1.length ≤ sizeLine then some (.dat (.tuple r.1), r.2) else none
def mLst (fa : MA) : ME := fun g => (fa g).bind fun a => (toDs a.1 a.2).bind fun r => if r.1.length ≤ sizeLine then some (.fresh r.1, r.2) else none
theorem ev_tup {es : List Expr} {fa : MA} {x1} {pos : Pos} (h : EvA F pr es fa) : Ev F pr (.Tuple es x1 pos) (mTup fa) := by
  intro B Hf H g σ w g' Q E eq q
  obtain ⟨⟨ws, g1⟩, e1, eq⟩ := Option.bind_eq_some_iff.mp eq
  obtain ⟨⟨ds, g2⟩, e2, eq⟩ := Option.bind_eq_some_iff.mp eq
  dsimp only at eq
  split at eq
  · rename_i hl
    cases eq
    refine ⟨tTup (UA F es), fun i => pe_tup (pa_U i), ?_⟩
    refine h B Hf H g σ ws g1 _ E e1 fun vs Hf1 H1 s1 w1 y1 => ?_
    obtain ⟨Hf2, s2, _, r2⟩ := toDs_ok s1 w1 y1 e2
    refine ⟨by rw [r2.length]; exact hl, fun p hp => ?_⟩
    have hf := s2.env.frz hp
    refine q _ (upd Hf2 p (.tup vs)) (upd H1 p (.tup vs)) (s2.trans ⟨Tr.new hf hp, s2.env.new hp, fun _ h => h⟩) ?_ (fun _ z => nomatch z)
    exact .tup (.inl (.inl upd_same)) (r2.mono (Evl.Ex.new hf))
  · cases eq
theorem ev_lst {es : List Expr} {fa : MA} {pos : Pos} (h : EvA F pr es fa) : Ev F pr (.List es pos) (mLst fa) := by
  intro B Hf H g σ w g' Q E eq q
  obtain ⟨⟨ws, g1⟩, e1, eq⟩ := Option.bind_eq_some_iff.mp eq
  obtain ⟨⟨ds, g2⟩, e2, eq⟩ := Option.bind_eq_some_iff.mp eq
  dsimp only at eq
  split at eq
  · rename_i hl
    cases eq
    refine ⟨tLst (UA F es), fun i => pe_lst (pa_U i), ?_⟩
    refine h B Hf H g σ ws g1 _ E e1 fun vs Hf1 H1 s1 w1 y1 => ?_
    obtain ⟨Hf2, s2, _, r2⟩ := toDs_ok s1 w1 y1 e2
    refine ⟨by rw [r2.length]; exact hl, fun p hp => ?_⟩
    have hf := s2.env.frz hp
    refine q _ Hf2 (upd H1 p (.lst vs)) (s2.trans ⟨Tr.mut hp, s2.env.mut hp, fun _ h => h⟩) ?_ (fun ds _ p' e => ?_)
    · exact ⟨p, vs, rfl, s2.env.nb p hp, hf, upd_same, r2, s2.env.own_none hp⟩
    · cases e; exact s2.tr.stay _ hp
  · cases eq
/-- an empty dict -/
def mDict0 : ME := fun g => some (.dat (.dict []), g)
/-! ### operators -/
/-- what a way's end hands over -/
def Cont (K : Frag) (pr : List Nat) (B : Addr → Prop) (Hf H : Hp) (g : Gh) (σ : L2.St) (w : Wv) (Q : VK) : Prop := ∀ v Hf' H', Stp K pr B Hf H g σ Hf' H' g → WOk K B Hf' H' g σ w v → Yng H w v → Q v H'
theorem Cont.dat {d : Da} {Q : VK} {v : V} (E : En K pr B Hf H g σ) (c : Cont K pr B Hf H g σ (.dat d) Q) (r : Rep K Hf v d) : Q v H := c v Hf H (Stp.refl E) r (fun _ z => nomatch z)
theorem Cont.newT {ds : List Da} {Q : VK} {vs : List V} {p : Addr} (E : En K pr B Hf H g σ) (c : Cont K pr B Hf H g σ (.dat (.tuple ds)) Q) (r : RepAll K Hf vs ds) (hp : H p = none) : Q (.ref p) (upd H p (.tup vs)) := by
  have hf := E.frz hp
  exact c _ (upd Hf p (.tup vs)) _ ⟨Tr.new hf hp, E.new hp, fun _ h => h⟩ (.tup (.inl (.inl upd_same)) (r.mono (Evl.Ex.new hf))) (fun _ z => nomatch z)
theorem Cont.newL {ds : List Da} {Q : VK} {vs : List V} {p : Addr} (E : En K pr B Hf H g σ) (c : Cont K pr B Hf H g σ (.fresh ds) Q) (r : RepAll K Hf vs ds) (hp : H p = none) : Q (.ref p) (upd H p (.lst vs)) := by
  have hf := E.frz hp
  exact c _ Hf _ ⟨Tr.mut hp, E.mut hp, fun _ h => h⟩ ⟨p, vs, rfl, E.nb p hp, hf, upd_same, r, E.own_none hp⟩ (fun ds _ p' e => by cases e; exact hp)
def OpD (F : Fam) (f : Value → Value → Sem Value) (Fn : Da → Da → Option Wv) : Prop := ∀ x y w, Fn x y = some w → ∃ r : R2, (∀ i, OpR (F.X i) f r) ∧
  ∀ pr B Hf H g σ vx vy (Q : VK), En F.K pr B Hf H g σ → RL F.K Hf H vx x → RL F.K Hf H vy y → Cont F.K pr B Hf H g σ w Q → r vx vy H Q
def mBin (Fn : Da → Da → Option Wv) (fa fb : ME) : ME := fun g => (fa g).bind fun a => (fb a.2).bind fun b => (look a.1 b.2).bind fun x => (look b.1 b.2).bind fun y => (Fn x y).bind fun w => some (w, b.2)
theorem bin_ok {a b : Expr} {fa fb : ME} {Fn : Da → Da → Option Wv} {f : Value → Value → Sem Value} (ha : Ev F pr a fa) (hb : Ev F pr b fb) (ho : OpD F f Fn) {w : Wv} {Q : VK} (E : En F.K pr B Hf H g σ) (eq : mBin Fn fa fb g = some (w, g'))
    (q : ∀ v Hf' H', Stp F.K pr B Hf H g σ Hf' H' g' → WOk F.K B Hf' H' g' σ w v → Yng H w v → Q v H') : ∃ r : R2, (∀ i, OpR (F.X i) f r) ∧ tOp r (U F a) (U F b) σ H Q := by
  obtain ⟨⟨wa, g1⟩, e1, eq⟩ := Option.bind_eq_some_iff.mp eq
  obtain ⟨⟨wb, g2⟩, e2, eq⟩ := Option.bind_eq_some_iff.mp eq
  obtain ⟨x, e3, eq⟩ := Option.bind_eq_some_iff.mp eq
  obtain ⟨y, e4, eq⟩ := Option.bind_eq_some_iff.mp eq
  obtain ⟨w', e5, eq⟩ := Option.bind_eq_some_iff.mp eq
  cases eq
  obtain ⟨r, hr, hk⟩ := ho x y w e5
  refine ⟨r, hr, ?_⟩
  refine ha B Hf H g σ wa g1 _ E e1 fun v Hf1 H1 s1 w1 y1 => ?_
  refine hb B Hf1 H1 g1 σ wb _ _ s1.env e2 fun u Hf2 H2 s2 w2 y2 => ?_
  refine hk pr B Hf2 H2 _ σ v u Q s2.env (look_ok s2.env (s2.way s1.env w1) e3) (look_ok s2.env w2 e4) fun z Hf3 H3 s3 w3 y3 => ?_
  exact q z Hf3 H3 ((s1.trans s2).trans s3) w3 fun ds e p e' => s1.tr.stay p (s2.tr.stay p (y3 ds e p e'))
theorem ev_bin {a b : Expr} {fa fb : ME} {Fn : Da → Da → Option Wv} {op : Operator} {pos : Pos} (ho : OpD F (binaryOp op) Fn) (ha : Ev F pr a fa) (hb : Ev F pr b fb) : Ev F pr (.BinOp a op b pos) (mBin Fn fa fb) := by
  intro B Hf H g σ w g' Q E eq q
  obtain ⟨r, hr, t⟩ := bin_ok ha hb ho E eq q
  exact ⟨_, fun i => pe_op (hr i) (pe_U i) (pe_U i), t⟩
/-- a comparison as a value -/
theorem ev_cmp {a b : Expr} {fa fb : ME} {Fn : Da → Da → Option Wv} {op : CmpOp} {pos : Pos} (ho : OpD F (compareOp op) Fn) (ha : Ev F pr a fa) (hb : Ev F pr b fb) (hm : behindInMarks op b = false := by first | exact nomark _ | rfl) : Ev F pr (.Compare a [op] [b] pos) (mBin Fn fa fb) := by
  intro B Hf H g σ w g' Q E eq q
  obtain ⟨r, hr, t⟩ := bin_ok ha hb ho E eq q
  exact ⟨_, fun i => pe_cmpR (hr i) (pe_U i) (pe_U i) hm, t⟩
/-- a comparison as a test -/
def asB : Option (Wv × Gh) → Option (Bool × Gh)
  | some (.dat (.bool b), g) => some (b, g)
  | _ => none
theorem asB_some {o : Option (Wv × Gh)} {b : Bool} (h : asB o = some (b, g)) : o = some (.dat (.bool b), g) := by
  unfold asB at h
  split at h
  · cases h; rfl
  · cases h
/-- a comparison as a test -/
def mCmp (Fn : Da → Da → Option Wv) (fa fb : ME) : MT := fun g => asB (mBin Fn fa fb g)
theorem et_cmp {a b : Expr} {fa fb : ME} {Fn : Da → Da → Option Wv} {op : CmpOp} {pos : Pos} (ho : OpD F (compareOp op) Fn) (ha : Ev F pr a fa) (hb : Ev F pr b fb) (hm : behindInMarks op b = false := by first | exact nomark _ | rfl) :
    EvT F pr (.Compare a [op] [b] pos) (mCmp Fn fa fb) := by
  intro B Hf H g σ k g' Q E eq q
  obtain ⟨r, hr, t⟩ := bin_ok (Q := fun x H' => ∃ k, x = .bl k ∧ Q k H') ha hb ho E (asB_some eq) fun v Hf' H' s w y => by
    cases w
    exact ⟨_, rfl, q Hf' H' s⟩
  exact ⟨_, fun i => pt_cmpR (hr i) (pe_U i) (pe_U i) hm, t⟩
end
end EV
end
section
set_option maxHeartbeats 2000000
set_option autoImplicit false
namespace EV
open PySem PySem.Spec PyProof.Rows L2
section
variable {F : Fam} {pr : List Nat} {B : Addr → Prop} {Hf H Hf' H' Hf1 H1 Hf2 H2 : Hp} {g g' g1 g2 : Gh} {σ σ' σ1 σ2 : L2.St} {K : Frag}
/-! ### the operators over data -/
def dII (c : Int → Int → Bool) (h : Int → Int → Int) : Da → Da → Option Wv
  | .int a, .int b => if c a b = true then some (.dat (.int (h a b))) else none
  | _, _ => none
def dIB (h : Int → Int → Bool) : Da → Da → Option Wv
  | .int a, .int b => some (.dat (.bool (h a b)))
  | _, _ => none
theorem opd_II {f : Value → Value → Sem Value} {c : Int → Int → Bool} {h : Int → Int → Int} {C : Int → Int → Prop} (hr : ∀ i, OpR (F.X i) f (rI C fun i j => .int (h i j))) (hc : ∀ a b, c a b = true → C a b) : OpD F f (dII c h) := by
  intro x y w e
  unfold dII at e
  split at e
  · rename_i a b
    split at e
    · rename_i h1
      cases e
      exact ⟨_, hr, fun pr B Hf H g σ vx vy Q E hx hy c => ⟨a, b, hx.int, hy.int, hc a b h1, c.dat E (.int _)⟩⟩
    · cases e
  · cases e
theorem opd_IB {f : Value → Value → Sem Value} {h : Int → Int → Bool} (hr : ∀ i, OpR (F.X i) f (rI0 fun i j => .bl (h i j))) : OpD F f (dIB h) := by
  intro x y w e
  unfold dIB at e
  split at e
  · rename_i a b
    cases e
    exact ⟨_, hr, fun pr B Hf H g σ vx vy Q E hx hy c => ⟨a, b, hx.int, hy.int, c.dat E (.bl _)⟩⟩
  · cases e
def dSub := dII (fun _ _ => true) (fun a b => a - b)
theorem rI_of0 {g : Int → Int → V} {X : Cx} {f : Value → Value → Sem Value} (h : OpR X f (rI0 g)) : OpR X f (rI (fun _ _ => True) g) := fun pins s σ H x y v u Q I rx ry ⟨i, j, e1, e2, _, q⟩ => h pins s σ H x y v u Q I rx ry ⟨i, j, e1, e2, q⟩
theorem od_sub : OpD F (binaryOp .Sub) dSub := opd_II (fun _ => rI_of0 op_sub) (fun _ _ _ => trivial)
def dMod := dII (fun _ b => decide (0 < b)) (fun a b => a % b)
theorem od_mod : OpD F (binaryOp .Mod) dMod := opd_II (fun _ => op_mod) (fun _ _ h => of_decide_eq_true h)
def dFdiv := dII (fun _ b => decide (0 < b) && decide (b.natAbs.log2 < 9000)) (fun a b => a / b)
theorem od_fdiv : OpD F (binaryOp .FloorDiv) dFdiv := opd_II (fun _ => op_fdivW) (fun _ _ h => by
  rw [Bool.and_eq_true] at h
  exact ⟨of_decide_eq_true h.1, of_decide_eq_true h.2⟩)
def dPow := dII (fun a b => decide (0 ≤ b) && decide (b ≤ 1000000) && decide (a.natAbs < 2 ^ 64)) (fun a b => a ^ b.toNat)
theorem od_pow : OpD F (binaryOp .Pow) dPow := opd_II (fun _ => op_pow) (fun _ _ h => by
  rw [Bool.and_eq_true, Bool.and_eq_true] at h
  exact ⟨of_decide_eq_true h.1.1, of_decide_eq_true h.1.2, of_decide_eq_true h.2⟩)
def dLt := dIB fun a b => decide (a < b)
def dLe := dIB fun a b => decide (a ≤ b)
def dGt := dIB fun a b => decide (b < a)
def dGe := dIB fun a b => decide (b ≤ a)
theorem od_lt : OpD F (compareOp .Lt) dLt := opd_IB fun _ => op_lt
theorem od_le : OpD F (compareOp .LtE) dLe := opd_IB fun _ => op_le
theorem od_gt : OpD F (compareOp .Gt) dGt := opd_IB fun _ => op_gt
/-- a * b: ints; a tuple times an int -/
def dMul : Da → Da → Option Wv
  | .int a, .int b => if a.natAbs.log2 + b.natAbs.log2 < 1000000 then some (.dat (.int (a * b))) else none
  | _, _ => none
theorem od_mul : OpD F (binaryOp .Mult) dMul := by
  intro x y w e
  unfold dMul at e
  split at e
  · rename_i a b
    split at e
    · rename_i h1
      cases e
      exact ⟨_, fun i => op_mulW, fun pr B Hf H g σ vx vy Q E hx hy c => ⟨a, b, hx.int, hy.int, h1, c.dat E (.int _)⟩⟩
    · cases e
  · cases e
/-- a + b: ints, tuples, texts -/
def dAdd : Da → Da → Option Wv
  | .int a, .int b => some (.dat (.int (a + b)))
  | .tuple xs, .tuple ys => if xs.length + ys.length ≤ sizeLine then some (.dat (.tuple (xs ++ ys))) else none
  | .str a, .str b => if a.length + b.length ≤ sizeLine then some (.dat (.str (a ++ b))) else none
  | _, _ => none
theorem od_add : OpD F (binaryOp .Add) dAdd := by
  intro x y w e
  unfold dAdd at e
  split at e
  · rename_i a b
    cases e
    exact ⟨_, fun i => op_add, fun pr B Hf H g σ vx vy Q E hx hy c => ⟨a, b, hx.int, hy.int, c.dat E (.int _)⟩⟩
  · rename_i xs ys
    split at e
    · rename_i h1
      cases e
      refine ⟨rCatA F.K, fun i => by have h := @op_catA (F.X i); rw [F.hK i] at h; exact h, fun pr B Hf H g σ vx vy Q E hx hy c => ?_⟩
      obtain ⟨p, us, rfl, h2, r2⟩ := hx.seqT E.ex
      obtain ⟨q, ws, rfl, h3, r3⟩ := hy.seqT E.ex
      refine ⟨p, q, us, ws, rfl, rfl, h2, h3, by rw [r2.length, r3.length]; exact h1, fun z => ?_, fun _ z => ?_, fun _ _ a ha => c.newT E (r2.append r3) ha⟩
      · subst z
        cases r2
        rcases hy.2 with r | ⟨_, _, _, _, z, _⟩
        · exact c.dat E r
        · cases z
      · subst z
        cases r3
        rcases hx.2 with r | ⟨_, _, _, _, z, _⟩
        · exact c.dat E (by rw [List.append_nil]; exact r)
        · cases z
    · cases e
  · rename_i a b
    split at e
    · rename_i h1
      cases e
      exact ⟨_, fun i => op_add_str, fun pr B Hf H g σ vx vy Q E hx hy c => ⟨a, b, hx.str, hy.str, h1, c.dat E (.str _)⟩⟩
    · cases e
  · cases e
/-- == of data -/
def okEq (d : Da) : Bool := noDict d && SeqAt.shaped d
def eqB (x y : Da) : Option Bool := match x, y with
  | .int a, .int b => some (a == b)
  | x, y => if okEq x && okEq y then some (PyData.eqv x y) else none
def dEq (x y : Da) : Option Wv := (eqB x y).map fun b => .dat (.bool b)
def dNe (x y : Da) : Option Wv := (eqB x y).map fun b => .dat (.bool (!b))
theorem eqB_ok {x y : Da} {b : Bool} (e : eqB x y = some b) : (∃ i j, x = .int i ∧ y = .int j ∧ b = (i == j)) ∨ (okEq x = true ∧ okEq y = true ∧ b = PyData.eqv x y) := by
  unfold eqB at e
  split at e
  · cases e; exact .inl ⟨_, _, rfl, rfl, rfl⟩
  · split at e
    · rename_i h
      cases e
      rw [Bool.and_eq_true] at h
      exact .inr ⟨h.1, h.2, rfl⟩
    · cases e
theorem okEq_dp {v : V} {d : Da} (h : RL K Hf H v d) (o : okEq d = true) : Dp K H v d ∧ SeqAt.shaped d = true := by
  unfold okEq at o
  rw [Bool.and_eq_true] at o
  exact ⟨h.1.dp o.1, o.2⟩
theorem od_eq (hu : ∀ i, (F.X i).A.units + 64 < cLine) : OpD F (compareOp .Eq) dEq := by
  intro x y w e
  obtain ⟨b, e1, e2⟩ := Option.map_eq_some_iff.mp e
  subst e2
  rcases eqB_ok e1 with ⟨i, j, rfl, rfl, rfl⟩ | ⟨o1, o2, rfl⟩
  · refine ⟨rEq, fun i => op_eq, fun pr B Hf H g σ vx vy Q E hx hy c => ?_⟩
    cases hx.int
    cases hy.int
    exact ⟨rfl, by rw [dec_int]; exact c.dat E (.bl _)⟩
  · refine ⟨rEqD F.K, fun i => by have h := op_eqD (hu i); rw [F.hK i] at h; exact h, fun pr B Hf H g σ vx vy Q E hx hy c => ?_⟩
    exact ⟨x, y, (okEq_dp hx o1).1, (okEq_dp hy o2).1, (okEq_dp hx o1).2, (okEq_dp hy o2).2, c.dat E (.bl _)⟩
theorem od_ne (hu : ∀ i, (F.X i).A.units + 64 < cLine) : OpD F (compareOp .NotEq) dNe := by
  intro x y w e
  obtain ⟨b, e1, e2⟩ := Option.map_eq_some_iff.mp e
  subst e2
  rcases eqB_ok e1 with ⟨i, j, rfl, rfl, rfl⟩ | ⟨o1, o2, rfl⟩
  · refine ⟨rNe, fun i => op_ne, fun pr B Hf H g σ vx vy Q E hx hy c => ?_⟩
    cases hx.int
    cases hy.int
    exact ⟨rfl, by rw [dec_int]; exact c.dat E (.bl _)⟩
  · refine ⟨rNeD F.K, fun i => by have h := op_neD (hu i); rw [F.hK i] at h; exact h, fun pr B Hf H g σ vx vy Q E hx hy c => ?_⟩
    exact ⟨x, y, (okEq_dp hx o1).1, (okEq_dp hy o2).1, (okEq_dp hx o1).2, (okEq_dp hy o2).2, c.dat E (.bl _)⟩
def itemsD : Da → Option (List Da)
  | .list xs => some xs
  | .tuple xs => some xs
  | _ => none
def inD (x : Da) (xs : List Da) : Bool := xs.any fun y => PyData.eqv y x
/-- is None, is not None; is True, is False -/
def isNone : Da → Bool
  | .none => true
  | _ => false
def isBl (b : Bool) : Da → Bool
  | .bool a => if b then a else !a
  | _ => false
def dIs (neg : Bool) : Da → Da → Option Wv
  | x, .none => some (.dat (.bool (if neg then !isNone x else isNone x)))
  | x, .bool b => some (.dat (.bool (if neg then !isBl b x else isBl b x)))
  | _, _ => none
theorem op_isB {X : Cx} : OpR X (compareOp .Is) (fun x y H Q => ∃ b, y = .bl b ∧ Q (.bl (decide (x = .bl b))) H) := by
  intro pins s σ H x y v u Q I rx ry h
  obtain ⟨b, rfl, q⟩ := h
  cases (show u = Value.bool b from ry)
  refine wpAny_is_plain ?_ (fin_bl I q ?_)
  · cases x <;> first
      | (cases rx; rfl)
      | (obtain ⟨t, rfl⟩ := rx; rfl)
  · cases x <;> first
      | (obtain ⟨t, rfl⟩ := rx; cases b <;> rfl)
      | (rename_i a; cases (show v = Value.bool a from rx); cases a <;> cases b <;> rfl)
      | (cases rx; cases b <;> rfl)
theorem op_isnotB {X : Cx} : OpR X (compareOp .IsNot) (fun x y H Q => ∃ b, y = .bl b ∧ Q (.bl (!decide (x = .bl b))) H) := by
  intro pins s σ H x y v u Q I rx ry h
  obtain ⟨b, rfl, q⟩ := h
  cases (show u = Value.bool b from ry)
  refine wpAny_isNot_plain ?_ (fin_bl I q ?_)
  · cases x <;> first
      | (cases rx; rfl)
      | (obtain ⟨t, rfl⟩ := rx; rfl)
  · cases x <;> first
      | (obtain ⟨t, rfl⟩ := rx; cases b <;> rfl)
      | (rename_i a; cases (show v = Value.bool a from rx); cases a <;> cases b <;> rfl)
      | (cases rx; cases b <;> rfl)
theorem isB_rep {v : V} {d : Da} {b : Bool} (h : Rep K H v d) : decide (v = .bl b) = isBl b d := by
  cases h <;> cases b <;> simp [isBl]
theorem isN_rep {v : V} {d : Da} (h : Rep K H v d) : decide (v = .non) = isNone d := by
  cases h <;> simp [isNone]
theorem od_is : OpD F (compareOp .Is) (dIs false) := by
  intro x y w e
  unfold dIs at e
  split at e
  · cases e
    refine ⟨_, fun i => op_isN, fun pr B Hf H g σ vx vy Q E hx hy c => ⟨hy.none, ?_⟩⟩
    rw [isN_rep hx.1]
    exact c.dat E (.bl _)
  · rename_i b
    cases e
    refine ⟨_, fun i => op_isB, fun pr B Hf H g σ vx vy Q E hx hy c => ⟨b, hy.bool, ?_⟩⟩
    rw [isB_rep hx.1]
    exact c.dat E (.bl _)
  · cases e
theorem od_isnot : OpD F (compareOp .IsNot) (dIs true) := by
  intro x y w e
  unfold dIs at e
  split at e
  · cases e
    refine ⟨_, fun i => op_notN, fun pr B Hf H g σ vx vy Q E hx hy c => ⟨hy.none, ?_⟩⟩
    rw [isN_rep hx.1]
    exact c.dat E (.bl _)
  · rename_i b
    cases e
    refine ⟨_, fun i => op_isnotB, fun pr B Hf H g σ vx vy Q E hx hy c => ⟨b, hy.bool, ?_⟩⟩
    rw [isB_rep hx.1]
    exact c.dat E (.bl _)
  · cases e
/-! ### -a -/
def mNeg (f : ME) : ME := fun g => (f g).bind fun a => (look a.1 a.2).bind fun x => match x with | .int i => some (.dat (.int (-i)), a.2) | _ => none
theorem ev_neg {a : Expr} {f : ME} {pos : Pos} (h : Ev F pr a f) : Ev F pr (.UnaryOp .USub a pos) (mNeg f) := by
  intro B Hf H g σ w g' Q E eq q
  obtain ⟨⟨wa, g1⟩, e1, eq⟩ := Option.bind_eq_some_iff.mp eq
  obtain ⟨x, e2, eq⟩ := Option.bind_eq_some_iff.mp eq
  dsimp only at eq
  split at eq
  · rename_i i
    cases eq
    refine ⟨_, fun j => pe_un un_neg (pe_U j), ?_⟩
    refine h B Hf H g σ wa _ _ E e1 fun v Hf1 H1 s1 w1 y1 => ?_
    have l := look_ok s1.env w1 e2
    exact ⟨i, RL.int (Hf := Hf1) l, q _ Hf1 H1 s1 (Rep.int _) (fun _ z => nomatch z)⟩
  · cases eq
/-! ### tests -/
def truthD : Da → Option Bool
  | .none => some false
  | .bool b => some b
  | .int i => some (i != 0)
  | .str y => if y.length ≤ sizeLine then some ((y.length : Int) != 0) else none
  | .list xs => some (!xs.isEmpty)
  | .tuple xs => some (!xs.isEmpty)
  | .dict _ => none
theorem isEmpty_rep {vs : List V} {ds : List Da} (r : RepAll K H vs ds) : (!vs.isEmpty) = !ds.isEmpty := by
  cases r <;> rfl
theorem truth_ok {v : V} {d : Da} {b : Bool} (E : En K pr B Hf H g σ) (h : RL K Hf H v d) (e : truthD d = some b) : TruV K v H b := by
  cases d with
  | none => cases e; cases h.none; rfl
  | bool c => cases e; cases h.bool; rfl
  | int i => cases e; cases h.int; rfl
  | str y =>
    have e : (if y.length ≤ sizeLine then some ((y.length : Int) != 0) else none) = some b := e
    split at e
    · rename_i hl
      cases e; cases h.str; exact ⟨hl, rfl⟩
    · cases e
  | list xs =>
    cases e
    obtain ⟨p, us, rfl, s, r⟩ := h.seqL E.ex
    exact .inl ⟨us, s, (isEmpty_rep r).symm⟩
  | tuple xs =>
    cases e
    obtain ⟨p, us, rfl, s, r⟩ := h.seqT E.ex
    exact .inr (.inl ⟨us, s, (isEmpty_rep r).symm⟩)
  | dict kvs => cases e
def mTru (f : ME) : MT := fun g => (f g).bind fun a => (look a.1 a.2).bind fun x => (truthD x).bind fun b => some (b, a.2)
theorem et_tru {a : Expr} {f : ME} (h : Ev F pr a f) (he : ∀ i, ∀ whole, isTrue a (F.X i).env whole = (do let v ← whole; standAt a.pos; holding [v] (truthy v)) := by intro _ _; rfl) : EvT F pr a (mTru f) := by
  intro B Hf H g σ b g' Q E eq q
  obtain ⟨⟨wa, g1⟩, e1, eq⟩ := Option.bind_eq_some_iff.mp eq
  obtain ⟨x, e2, eq⟩ := Option.bind_eq_some_iff.mp eq
  obtain ⟨b', e3, eq⟩ := Option.bind_eq_some_iff.mp eq
  cases eq
  refine ⟨fun σ H Q => U F a σ H fun x H' => ∃ k, TruV F.K x H' k ∧ Q k H', fun i => by have z := pt_truth (pe_U (F := F) (e := a) i) (he i); rw [F.hK i] at z; exact z, ?_⟩
  refine h B Hf H g σ wa _ _ E e1 fun v Hf1 H1 s1 w1 y1 => ?_
  exact ⟨b, truth_ok s1.env (look_ok s1.env w1 e2) e3, q Hf1 H1 s1⟩
def mNot (f : MT) : MT := fun g => (f g).bind fun a => some (!a.1, a.2)
theorem et_not {a : Expr} {f : MT} {pos : Pos} (h : EvT F pr a f) : EvT F pr (.UnaryOp .Not a pos) (mNot f) := by
  intro B Hf H g σ b g' Q E eq q
  obtain ⟨⟨c, g1⟩, e1, eq⟩ := Option.bind_eq_some_iff.mp eq
  cases eq
  exact ⟨tNot (UT F a), fun i => pt_not (pt_U i), h B Hf H g σ c _ _ E e1 fun Hf1 H1 s1 => q Hf1 H1 s1⟩
def mAnd (f h : MT) : MT := fun g => (f g).bind fun a => if a.1 = true then h a.2 else some (false, a.2)
def mOr (f h : MT) : MT := fun g => (f g).bind fun a => if a.1 = true then some (true, a.2) else h a.2
theorem et_w {a : Expr} {f : MT} (h : EvW F pr a f) : EvT F pr a f := by
  intro B Hf H g σ b g' Q E eq q
  exact ⟨UW F a, fun i => (pw_U i).pt, h B Hf H g σ b g' Q E eq q⟩
theorem ew_and1 {a : Expr} {f : MT} {pos : Pos} (h : EvT F pr a f) : EvW F pr (.BoolOp .And [a] pos) f := by
  intro B Hf H g σ b g' Q E eq q
  exact ⟨UT F a, fun i => pw_and1 (pt_U i), h B Hf H g σ b g' Q E eq q⟩
theorem ew_or1 {a : Expr} {f : MT} {pos : Pos} (h : EvT F pr a f) : EvW F pr (.BoolOp .Or [a] pos) f := by
  intro B Hf H g σ b g' Q E eq q
  exact ⟨UT F a, fun i => pw_or1 (pt_U i), h B Hf H g σ b g' Q E eq q⟩
theorem ew_and {a c : Expr} {r : List Expr} {f h : MT} {pos : Pos} (ha : EvT F pr a f) (hb : EvW F pr (.BoolOp .And (c :: r) pos) h) : EvW F pr (.BoolOp .And (a :: c :: r) pos) (mAnd f h) := by
  intro B Hf H g σ b g' Q E eq q
  obtain ⟨⟨k, g1⟩, e1, eq⟩ := Option.bind_eq_some_iff.mp eq
  refine ⟨tAnd (UT F a) (UW F (.BoolOp .And (c :: r) pos)), fun i => pw_and (pt_U i) (pw_U i), ?_⟩
  refine ha B Hf H g σ k g1 _ E e1 fun Hf1 H1 s1 => ?_
  cases k with
  | true => exact hb B Hf1 H1 g1 σ b g' Q s1.env eq fun Hf2 H2 s2 => q Hf2 H2 (s1.trans s2)
  | false => cases eq; exact q Hf1 H1 s1
theorem ew_or {a c : Expr} {r : List Expr} {f h : MT} {pos : Pos} (ha : EvT F pr a f) (hb : EvW F pr (.BoolOp .Or (c :: r) pos) h) : EvW F pr (.BoolOp .Or (a :: c :: r) pos) (mOr f h) := by
  intro B Hf H g σ b g' Q E eq q
  obtain ⟨⟨k, g1⟩, e1, eq⟩ := Option.bind_eq_some_iff.mp eq
  refine ⟨tOr (UT F a) (UW F (.BoolOp .Or (c :: r) pos)), fun i => pw_or (pt_U i) (pw_U i), ?_⟩
  refine ha B Hf H g σ k g1 _ E e1 fun Hf1 H1 s1 => ?_
  cases k with
  | false => exact hb B Hf1 H1 g1 σ b g' Q s1.env eq fun Hf2 H2 s2 => q Hf2 H2 (s1.trans s2)
  | true => cases eq; exact q Hf1 H1 s1
/-- a chain of two comparisons -/
def mChain (F1 F2 : Da → Da → Option Wv) (fa fb fc : ME) : MT := fun g => (fa g).bind fun a => (fb a.2).bind fun b => (look a.1 b.2).bind fun x => (look b.1 b.2).bind fun y => match F1 x y with
  | some (.dat (.bool true)) => (fc b.2).bind fun c => (look b.1 c.2).bind fun y' => (look c.1 c.2).bind fun z => match F2 y' z with | some (.dat (.bool k)) => some (k, c.2) | _ => none
  | some (.dat (.bool false)) => some (false, b.2)
  | _ => none
theorem chain_ok {a b c : Expr} {fa fb fc : ME} {F1 F2 : Da → Da → Option Wv} {f1 f2 : Value → Value → Sem Value} (ha : Ev F pr a fa) (hb : Ev F pr b fb) (hc : Ev F pr c fc) (h1 : OpD F f1 F1) (h2 : OpD F f2 F2) (d1 : ∃ r : R2, ∀ i, OpR (F.X i) f2 r) {k : Bool} {Q : VK} (E : En F.K pr B Hf H g σ)
    (eq : mChain F1 F2 fa fb fc g = some (k, g')) (q : ∀ Hf' H', Stp F.K pr B Hf H g σ Hf' H' g' → Q (.bl k) H') : ∃ r r' : R2, (∀ i, OpR (F.X i) f1 r) ∧ (∀ i, OpR (F.X i) f2 r') ∧ tChain r r' (U F a) (U F b) (U F c) σ H Q := by
  obtain ⟨⟨wa, g1⟩, e1, eq⟩ := Option.bind_eq_some_iff.mp eq
  obtain ⟨⟨wb, g2⟩, e2, eq⟩ := Option.bind_eq_some_iff.mp eq
  obtain ⟨x, e3, eq⟩ := Option.bind_eq_some_iff.mp eq
  obtain ⟨y, e4, eq⟩ := Option.bind_eq_some_iff.mp eq
  dsimp only at eq
  split at eq
  · rename_i e5
    obtain ⟨⟨wc, g3⟩, e6, eq⟩ := Option.bind_eq_some_iff.mp eq
    obtain ⟨y', e7, eq⟩ := Option.bind_eq_some_iff.mp eq
    obtain ⟨z, e8, eq⟩ := Option.bind_eq_some_iff.mp eq
    dsimp only at eq
    split at eq
    · rename_i k' e9
      cases eq
      obtain ⟨r, hr, hk⟩ := h1 x y _ e5
      obtain ⟨r', hr', hk'⟩ := h2 y' z _ e9
      refine ⟨r, r', hr, hr', ?_⟩
      refine ha B Hf H g σ wa g1 _ E e1 fun v Hf1 H1 s1 w1 y1 => ?_
      refine hb B Hf1 H1 g1 σ wb g2 _ s1.env e2 fun u Hf2 H2 s2 w2 y2 => ?_
      refine hk pr B Hf2 H2 g2 σ v u _ s2.env (look_ok s2.env (s2.way s1.env w1) e3) (look_ok s2.env w2 e4) fun t Hf3 H3 s3 w3 y3 => ?_
      have w3 : Rep F.K Hf3 t (.bool true) := w3
      cases w3
      refine ⟨true, rfl, ?_⟩
      rw [if_pos rfl]
      refine hc B Hf3 H3 g2 σ wc _ _ s3.env e6 fun s Hf4 H4 s4 w4 y4 => ?_
      refine hk' pr B Hf4 H4 _ σ u s _ s4.env (look_ok s4.env (s4.way s3.env (s3.way s2.env w2)) e7) (look_ok s4.env w4 e8) fun o Hf5 H5 s5 w5 y5 => ?_
      have w5 : Rep F.K Hf5 o (.bool _) := w5
      cases w5
      exact q Hf5 H5 ((((s1.trans s2).trans s3).trans s4).trans s5)
    · cases eq
  · rename_i e5
    cases eq
    obtain ⟨r, hr, hk⟩ := h1 x y _ e5
    obtain ⟨r', hr'⟩ := d1
    refine ⟨r, r', hr, hr', ?_⟩
    refine ha B Hf H g σ wa g1 _ E e1 fun v Hf1 H1 s1 w1 y1 => ?_
    refine hb B Hf1 H1 g1 σ wb _ _ s1.env e2 fun u Hf2 H2 s2 w2 y2 => ?_
    refine hk pr B Hf2 H2 _ σ v u _ s2.env (look_ok s2.env (s2.way s1.env w1) e3) (look_ok s2.env w2 e4) fun t Hf3 H3 s3 w3 y3 => ?_
    have w3 : Rep F.K Hf3 t (.bool false) := w3
    cases w3
    refine ⟨false, rfl, ?_⟩
    rw [if_neg Bool.false_ne_true]
    exact q Hf3 H3 ((s1.trans s2).trans s3)
  · cases eq
theorem et_chain {a b c : Expr} {fa fb fc : ME} {F1 F2 : Da → Da → Option Wv} {op op' : CmpOp} {pos : Pos} (h1 : OpD F (compareOp op) F1) (h2 : OpD F (compareOp op') F2) (d1 : ∃ r : R2, ∀ i, OpR (F.X i) (compareOp op') r) (ha : Ev F pr a fa) (hb : Ev F pr b fb) (hc : Ev F pr c fc)
    (hm : lastMarks [op, op'] [b, c] = false := by with_unfolding_all rfl) : EvT F pr (.Compare a [op, op'] [b, c] pos) (mChain F1 F2 fa fb fc) := by
  intro B Hf H g σ k g' Q E eq q
  obtain ⟨r, r', hr, hr', t⟩ := chain_ok (Q := fun x H' => ∃ k, x = .bl k ∧ Q k H') ha hb hc h1 h2 d1 E eq fun Hf' H' s => ⟨k, rfl, q Hf' H' s⟩
  exact ⟨_, fun i => pt_chain (hr i) (hr' i) (pe_U i) (pe_U i) (pe_U i) hm, t⟩
/-! ### tests as values -/
def mOfT (f : MT) : ME := fun g => (f g).bind fun a => some (.dat (.bool a.1), a.2)
theorem ev_chain {a b c : Expr} {fa fb fc : ME} {F1 F2 : Da → Da → Option Wv} {op op' : CmpOp} {pos : Pos} (h1 : OpD F (compareOp op) F1) (h2 : OpD F (compareOp op') F2) (d1 : ∃ r : R2, ∀ i, OpR (F.X i) (compareOp op') r) (ha : Ev F pr a fa) (hb : Ev F pr b fb) (hc : Ev F pr c fc)
    (hm : lastMarks [op, op'] [b, c] = false := by with_unfolding_all rfl) : Ev F pr (.Compare a [op, op'] [b, c] pos) (mOfT (mChain F1 F2 fa fb fc)) := by
  intro B Hf H g σ w g' Q E eq q
  obtain ⟨⟨k, g1⟩, e1, eq⟩ := Option.bind_eq_some_iff.mp eq
  cases eq
  obtain ⟨r, r', hr, hr', t⟩ := chain_ok ha hb hc h1 h2 d1 E e1 fun Hf' H' s => q _ Hf' H' s (.bl k) (fun _ z => nomatch z)
  exact ⟨_, fun i => pe_chain (hr i) (hr' i) (pe_U i) (pe_U i) (pe_U i) hm, t⟩
theorem d1_lt : ∃ r : R2, ∀ i, OpR (F.X i) (compareOp .Lt) r := ⟨_, fun _ => op_lt⟩
theorem d1_le : ∃ r : R2, ∀ i, OpR (F.X i) (compareOp .LtE) r := ⟨_, fun _ => op_le⟩
def mNotV (f : ME) : ME := fun g => (f g).bind fun a => match a.1 with | .dat (.bool b) => some (.dat (.bool (!b)), a.2) | _ => none
def mAndV (f h : ME) : ME := fun g => (f g).bind fun a => match a.1 with | .dat (.bool true) => h a.2 | .dat (.bool false) => some (.dat (.bool false), a.2) | _ => none
def mOrV (f h : ME) : ME := fun g => (f g).bind fun a => match a.1 with | .dat (.bool false) => h a.2 | .dat (.bool true) => some (.dat (.bool true), a.2) | _ => none
theorem ev_one {op} {a : Expr} {f : ME} {pos : Pos} (h : Ev F pr a f) : Ev F pr (.BoolOp op [a] pos) f := by
  intro B Hf H g σ w g' Q E eq q
  exact ⟨U F a, fun i => pe_one (pe_U i), h B Hf H g σ w g' Q E eq q⟩
theorem ev_and {a c : Expr} {r : List Expr} {f h : ME} {pos : Pos} (ha : Ev F pr a f) (hb : Ev F pr (.BoolOp .And (c :: r) pos) h) : Ev F pr (.BoolOp .And (a :: c :: r) pos) (mAndV f h) := by
  intro B Hf H g σ w g' Q E eq q
  obtain ⟨⟨wa, g1⟩, e1, eq⟩ := Option.bind_eq_some_iff.mp eq
  refine ⟨tAndV (U F a) (U F (.BoolOp .And (c :: r) pos)), fun i => pe_and (pe_U i) (pe_U i), ?_⟩
  refine ha B Hf H g σ wa g1 _ E e1 fun v Hf1 H1 s1 w1 y1 => ?_
  dsimp only at eq
  split at eq
  · have w1 : Rep F.K Hf1 v (.bool true) := w1
    cases w1
    exact ⟨true, rfl, hb B Hf1 H1 g1 σ w g' Q s1.env eq fun v Hf2 H2 s2 w2 y2 => q v Hf2 H2 (s1.trans s2) w2 fun ds e p e' => s1.tr.stay p (y2 ds e p e')⟩
  · cases eq
    have w1 : Rep F.K Hf1 v (.bool false) := w1
    cases w1
    exact ⟨false, rfl, q _ Hf1 H1 s1 (.bl _) (fun _ z => nomatch z)⟩
  · cases eq
/-- a if t else b -/
def mIf (t : MT) (f h : ME) : ME := fun g => (t g).bind fun a => if a.1 = true then f a.2 else h a.2
theorem ev_if {t a b : Expr} {ft : MT} {f h : ME} {pos : Pos} (ht : EvT F pr t ft) (ha : Ev F pr a f) (hb : Ev F pr b h) : Ev F pr (.IfExp t a b pos) (mIf ft f h) := by
  intro B Hf H g σ w g' Q E eq q
  obtain ⟨⟨k, g1⟩, e1, eq⟩ := Option.bind_eq_some_iff.mp eq
  refine ⟨tIf (UT F t) (U F a) (U F b), fun i => pe_ifExp (pt_U i) (pe_U i) (pe_U i), ?_⟩
  refine ht B Hf H g σ k g1 _ E e1 fun Hf1 H1 s1 => ?_
  cases k with
  | true => exact ha B Hf1 H1 g1 σ w g' Q s1.env eq fun v Hf2 H2 s2 w2 y2 => q v Hf2 H2 (s1.trans s2) w2 fun ds e p e' => s1.tr.stay p (y2 ds e p e')
  | false => exact hb B Hf1 H1 g1 σ w g' Q s1.env eq fun v Hf2 H2 s2 w2 y2 => q v Hf2 H2 (s1.trans s2) w2 fun ds e p e' => s1.tr.stay p (y2 ds e p e')
end
end EV
end
section
set_option maxHeartbeats 2000000
set_option autoImplicit false
namespace EV
open PySem PySem.Spec PyProof.Rows L2
section
variable {F : Fam} {pr : List Nat} {B : Addr → Prop} {Hf H Hf' H' Hf1 H1 Hf2 H2 : Hp} {g g' g1 g2 : Gh} {σ σ' σ1 σ2 : L2.St} {K : Frag}
/-! ### subscripts -/
theorem atI_rep {vs : List V} {ds : List Da} {i : Int} {d : Da} (r : RepAll K H vs ds) (e : atI ds i = some d) : ∃ v, atI vs i = some v ∧ Rep K H v d := by
  unfold atI at e ⊢
  rw [r.length]
  cases h : ixN ds.length i with
  | none => rw [h] at e; cases e
  | some j =>
    rw [h] at e
    obtain ⟨v, e1, e2⟩ := r.get (i := j) (d := d) e
    exact ⟨v, e1, e2⟩
def dIx : Da → Da → Option Da
  | .list xs, .int i => atI xs i
  | .tuple xs, .int i => atI xs i
  | _, _ => none
theorem dIx_some {x y d : Da} (e : dIx x y = some d) : ∃ xs i, y = .int i ∧ ((x = .list xs ∧ atI xs i = some d) ∨ (x = .tuple xs ∧ atI xs i = some d)) := by
  unfold dIx at e
  split at e
  · exact ⟨_, _, rfl, .inl ⟨rfl, e⟩⟩
  · exact ⟨_, _, rfl, .inr ⟨rfl, e⟩⟩
  · cases e
def mIx (fa fb : ME) : ME := fun g => (fa g).bind fun a => (fb a.2).bind fun b => (look a.1 b.2).bind fun x => (look b.1 b.2).bind fun y => (dIx x y).bind fun d => some (.dat d, b.2)
theorem ev_ix {a b : Expr} {fa fb : ME} {pos : Pos} (ha : Ev F pr a fa) (hb : Ev F pr b fb) (hs : PlainIx b := by exact fun _ _ => rfl) : Ev F pr (.Subscript a b pos) (mIx fa fb) := by
  intro B Hf H g σ w g' Q E eq q
  obtain ⟨⟨wa, g1⟩, e1, eq⟩ := Option.bind_eq_some_iff.mp eq
  obtain ⟨⟨wb, g2⟩, e2, eq⟩ := Option.bind_eq_some_iff.mp eq
  obtain ⟨x, e3, eq⟩ := Option.bind_eq_some_iff.mp eq
  obtain ⟨y, e4, eq⟩ := Option.bind_eq_some_iff.mp eq
  obtain ⟨d, e5, eq⟩ := Option.bind_eq_some_iff.mp eq
  cases eq
  obtain ⟨xs, i, rfl, ⟨rfl, e5⟩ | ⟨rfl, e5⟩⟩ := dIx_some e5
  · refine ⟨tOp (rIxL F.K) (U F a) (U F b), fun j => pe_ix (by have h := @ix_list (F.X j); rw [F.hK j] at h; exact h) (pe_U j) (pe_U j) hs, ?_⟩
    refine ha B Hf H g σ wa g1 _ E e1 fun v Hf1 H1 s1 w1 y1 => ?_
    refine hb B Hf1 H1 g1 σ wb _ _ s1.env e2 fun u Hf2 H2 s2 w2 y2 => ?_
    have l1 : RL F.K Hf2 H2 v _ := look_ok s2.env (s2.way s1.env w1) e3
    have l2 : RL F.K Hf2 H2 u _ := look_ok s2.env w2 e4
    obtain ⟨p, us, rfl, hp, r⟩ := l1.seqL s2.env.ex
    obtain ⟨z, hz, rz⟩ := atI_rep r e5
    exact ⟨p, us, i, z, rfl, l2.int, hp, hz, q z Hf2 H2 (s1.trans s2) rz (fun _ z => nomatch z)⟩
  · refine ⟨tOp (rIxT F.K) (U F a) (U F b), fun j => pe_ix (by have h := @ix_tup (F.X j); rw [F.hK j] at h; exact h) (pe_U j) (pe_U j) hs, ?_⟩
    refine ha B Hf H g σ wa g1 _ E e1 fun v Hf1 H1 s1 w1 y1 => ?_
    refine hb B Hf1 H1 g1 σ wb _ _ s1.env e2 fun u Hf2 H2 s2 w2 y2 => ?_
    have l1 : RL F.K Hf2 H2 v _ := look_ok s2.env (s2.way s1.env w1) e3
    have l2 : RL F.K Hf2 H2 u _ := look_ok s2.env w2 e4
    obtain ⟨p, us, rfl, hp, r⟩ := l1.seqT s2.env.ex
    obtain ⟨z, hz, rz⟩ := atI_rep r e5
    exact ⟨p, us, i, z, rfl, l2.int, hp, hz, q z Hf2 H2 (s1.trans s2) rz (fun _ z => nomatch z)⟩
/-! ### slices -/
abbrev MO := Gh → Option (Option Int × Gh)
def EvO (F : Fam) (pr : List Nat) (e : Option Expr) (f : MO) : Prop := ∀ (B : Addr → Prop) (Hf H : Hp) (g : Gh) (σ : L2.St) (o : Option Int) (g' : Gh) (Q : Option Int → Hp → Prop), En F.K pr B Hf H g σ → f g = some (o, g') →
  (∀ Hf' H', Stp F.K pr B Hf H g σ Hf' H' g' → Q o H') → UO F e σ H Q
def mO0 : MO := fun g => some (none, g)
def mO1 (f : ME) : MO := fun g => (f g).bind fun a => (look a.1 a.2).bind fun x => match x with | .int i => some (some i, a.2) | _ => none
theorem eo_none : EvO F pr none mO0 := by
  intro B Hf H g σ o g' Q E eq q
  cases eq
  exact ⟨tNoPart, fun _ => po_none, q Hf H (Stp.refl E)⟩
theorem eo_some {e : Expr} {f : ME} (h : Ev F pr e f) : EvO F pr (some e) (mO1 f) := by
  intro B Hf H g σ o g' Q E eq q
  obtain ⟨⟨wa, g1⟩, e1, eq⟩ := Option.bind_eq_some_iff.mp eq
  obtain ⟨x, e2, eq⟩ := Option.bind_eq_some_iff.mp eq
  dsimp only at eq
  split at eq
  · rename_i i
    cases eq
    refine ⟨tPart (U F e), fun j => po_some (pe_U j), ?_⟩
    refine h B Hf H g σ wa _ _ E e1 fun v Hf1 H1 s1 w1 y1 => ?_
    exact ⟨i, RL.int (Hf := Hf1) (look_ok s1.env w1 e2), q Hf1 H1 s1⟩
  · cases eq
def cutD (xs : List Da) (lo hi : Option Int) : List Da := (xs.drop (HT.sIx xs.length 0 lo)).take (HT.sIx xs.length xs.length hi - HT.sIx xs.length 0 lo)
theorem cut_rep {vs : List V} {ds : List Da} (r : RepAll K H vs ds) (lo hi : Option Int) : RepAll K H (cutV vs lo hi) (cutD ds lo hi) := by
  unfold cutV cutD
  rw [r.length]
  exact (r.drop _).take _
def mSl (fa : ME) (fl fh : MO) : ME := fun g => (fa g).bind fun a => (fl a.2).bind fun l => (fh l.2).bind fun h => (look a.1 h.2).bind fun x => match x with
  | .list xs => some (.fresh (cutD xs l.1 h.1), h.2)
  | .tuple xs => some (.dat (.tuple (cutD xs l.1 h.1)), h.2)
  | _ => none
theorem sIx_whole {xs : List Da} {lo hi : Option Int} (h : HT.sIx xs.length 0 lo = 0 ∧ HT.sIx xs.length xs.length hi = xs.length) : cutD xs lo hi = xs := by
  unfold cutD
  rw [h.1, h.2, List.drop_zero, Nat.sub_zero, List.take_length]
theorem ev_sl {a : Expr} {lo hi : Option Expr} {fa : ME} {fl fh : MO} {p2 pos : Pos} (ha : Ev F pr a fa) (hl : EvO F pr lo fl) (hh : EvO F pr hi fh) : Ev F pr (.Subscript a (.Slice lo hi none p2) pos) (mSl fa fl fh) := by
  intro B Hf H g σ w g' Q E eq q
  obtain ⟨⟨wa, g1⟩, e1, eq⟩ := Option.bind_eq_some_iff.mp eq
  obtain ⟨⟨ol, g2⟩, e2, eq⟩ := Option.bind_eq_some_iff.mp eq
  obtain ⟨⟨oh, g3⟩, e3, eq⟩ := Option.bind_eq_some_iff.mp eq
  obtain ⟨x, e4, eq⟩ := Option.bind_eq_some_iff.mp eq
  have go : ∀ r : V → Option Int → Option Int → Hp → VK → Prop, (∀ j, SlR (F.X j) r) →
      (∀ v Hf' H', Stp F.K pr B Hf H g σ Hf' H' g3 → RL F.K Hf' H' v x → r v ol oh H' Q) → U F (.Subscript a (.Slice lo hi none p2) pos) σ H Q := fun r hr hk => by
    refine ⟨tSl r (U F a) (UO F lo) (UO F hi), fun j => pe_slice (hr j) (pe_U j) (po_U j) (po_U j), ?_⟩
    refine ha B Hf H g σ wa g1 _ E e1 fun v Hf1 H1 s1 w1 y1 => ?_
    refine hl B Hf1 H1 g1 σ ol g2 _ s1.env e2 fun Hf2 H2 s2 => ?_
    refine hh B Hf2 H2 g2 σ oh g3 _ s2.env e3 fun Hf3 H3 s3 => ?_
    exact hk v Hf3 H3 ((s1.trans s2).trans s3) (look_ok s3.env (s3.way s2.env (s2.way s1.env w1)) e4)
  dsimp only at eq
  split at eq
  · rename_i xs
    cases eq
    refine go (rSlL F.K) (fun j => by have h := @sl_list (F.X j); rw [F.hK j] at h; exact h) fun v Hf1 H1 s1 l => ?_
    obtain ⟨p, us, rfl, hp, r⟩ := l.seqL s1.env.ex
    have c : Cont F.K pr B Hf1 H1 _ σ (.fresh (cutD xs ol oh)) Q := fun v Hf' H' s w y => q v Hf' H' (s1.trans s) w fun ds e p e' => s1.tr.stay p (y ds e p e')
    exact ⟨p, us, rfl, hp, fun z hz => c.newL s1.env (cut_rep r ol oh) hz⟩
  · rename_i xs
    cases eq
    refine go (rSlA F.K) (fun j => by have h := @sl_tupA (F.X j); rw [F.hK j] at h; exact h) fun v Hf1 H1 s1 l => ?_
    obtain ⟨p, us, rfl, hp, r⟩ := l.seqT s1.env.ex
    have c : Cont F.K pr B Hf1 H1 _ σ (.dat (.tuple (cutD xs ol oh))) Q := fun v Hf' H' s w y => q v Hf' H' (s1.trans s) w fun ds e p e' => s1.tr.stay p (y ds e p e')
    refine ⟨p, us, rfl, hp, fun hw => ?_, fun _ z hz => c.newT s1.env (cut_rep r ol oh) hz⟩
    rw [r.length] at hw
    rw [sIx_whole hw] at c
    rcases l.2 with z | ⟨_, _, _, _, z, _⟩
    · exact c.dat s1.env z
    · cases z
  · cases eq
/-- xs[::-1], a list -/
def mRev (fa : ME) : ME := fun g => (fa g).bind fun a => (look a.1 a.2).bind fun x => match x with | .list xs => some (.fresh xs.reverse, a.2) | _ => none
/-! ### built-in calls -/
def CallD (F : Fam) (f : Value) (Fn : List Da → Option Wv) : Prop := ∀ ds w, Fn ds = some w → ∃ r : List V → Hp → VK → Prop, (∀ i, CallR (F.X i) f r) ∧
  ∀ pr B Hf H g σ vs (Q : VK), En F.K pr B Hf H g σ → RLs F.K Hf H vs ds → Cont F.K pr B Hf H g σ w Q → r vs H Q
def mCall (Fn : List Da → Option Wv) (fa : MA) : ME := fun g => (fa g).bind fun a => (lookAll a.1 a.2).bind fun ds => (Fn ds).bind fun w => some (w, a.2)
theorem callD_ok {es : List Expr} {fa : MA} {f : Value} {Fn : List Da → Option Wv} (hc : CallD F f Fn) (ha : EvA F pr es fa) {w : Wv} {Q : VK} (E : En F.K pr B Hf H g σ) (eq : mCall Fn fa g = some (w, g'))
    (q : ∀ v Hf' H', Stp F.K pr B Hf H g σ Hf' H' g' → WOk F.K B Hf' H' g' σ w v → Yng H w v → Q v H') : ∃ r : List V → Hp → VK → Prop, (∀ i, CallR (F.X i) f r) ∧ tCB r (UA F es) σ H Q := by
  obtain ⟨⟨ws, g1⟩, e1, eq⟩ := Option.bind_eq_some_iff.mp eq
  obtain ⟨ds, e2, eq⟩ := Option.bind_eq_some_iff.mp eq
  obtain ⟨w', e3, eq⟩ := Option.bind_eq_some_iff.mp eq
  cases eq
  obtain ⟨r, hr, hk⟩ := hc ds w e3
  refine ⟨r, hr, ?_⟩
  refine ha B Hf H g σ ws _ _ E e1 fun vs Hf1 H1 s1 w1 y1 => ?_
  exact hk pr B Hf1 H1 _ σ vs Q s1.env (lookAll_ok s1.env w1 e2) fun v Hf' H' s w y => q v Hf' H' (s1.trans s) w fun ds e p e' => s1.tr.stay p (y ds e p e')
theorem ev_callB {x : Str} {p pos : Pos} {e : Expr} {es : List Expr} {id : String} {fa : MA} {Fn : List Da → Option Wv} (hc : CallD F (.builtin id) Fn) (hm : ∀ i, (F.X i).mg x = none) (ha : EvA F pr (e :: es) fa)
    (hg : ∀ i, Gl (F.X i) x := by intro _; rfl) (hv : bootBuiltins x = some (.builtin id) := by decide +kernel) (hn : x ≠ "__name__" := by decide) (hdb : (x == ("__debug__" : Str)) = false := by decide)
    (he : ∀ i, starEach (e :: es) (F.X i).env = (false, eval e (F.X i).env) :: starEach es (F.X i).env := by intro _; rfl) (hpl : ∀ i, (backTo pos (starEach es (F.X i).env)).any (·.1) = false := by intro _; rfl) : Ev F pr (.Call (.Name x p) (e :: es) [] pos) (mCall Fn fa) := by
  intro B Hf H g σ w g' Q E eq q
  obtain ⟨r, hr, t⟩ := callD_ok hc ha E eq q
  exact ⟨_, fun i => pe_callB (hr i) (hg i) (hm i) hv (pa_U i) hn hdb (he i) (hpl i), t⟩
theorem ev_callTy {x : Str} {p pos : Pos} {e : Expr} {es : List Expr} {T : String} {fa : MA} {Fn : List Da → Option Wv} (hc : CallD F (.type T) Fn) (hm : ∀ i, (F.X i).mg x = none) (ha : EvA F pr (e :: es) fa)
    (hg : ∀ i, Gl (F.X i) x := by intro _; rfl) (hv : bootBuiltins x = some (.type T) := by decide +kernel) (hn : x ≠ "__name__" := by decide) (hdb : (x == ("__debug__" : Str)) = false := by decide)
    (he : ∀ i, starEach (e :: es) (F.X i).env = (false, eval e (F.X i).env) :: starEach es (F.X i).env := by intro _; rfl) (hpl : ∀ i, (backTo pos (starEach es (F.X i).env)).any (·.1) = false := by intro _; rfl) : Ev F pr (.Call (.Name x p) (e :: es) [] pos) (mCall Fn fa) := by
  intro B Hf H g σ w g' Q E eq q
  obtain ⟨r, hr, t⟩ := callD_ok hc ha E eq q
  exact ⟨_, fun i => pe_callTy (hr i) (hg i) (hm i) hv (pa_U i) hn hdb (he i) (hpl i), t⟩
def dLen : List Da → Option Wv
  | [.list xs] => some (.dat (.int xs.length))
  | [.tuple xs] => some (.dat (.int xs.length))
  | [.str x] => if x.length ≤ sizeLine then some (.dat (.int x.length)) else none
  | _ => none
theorem RLs.one {vs : List V} {d : Da} (h : RLs K Hf H vs [d]) : ∃ v, vs = [v] ∧ RL K Hf H v d := by
  cases h with
  | cons a b => cases b; exact ⟨_, rfl, a⟩
theorem RLs.two {vs : List V} {d e : Da} (h : RLs K Hf H vs [d, e]) : ∃ v u, vs = [v, u] ∧ RL K Hf H v d ∧ RL K Hf H u e := by
  cases h with
  | cons a b => cases b with | cons b c => cases c; exact ⟨_, _, rfl, a, b⟩
theorem cd_len : CallD F (.builtin "len") dLen := by
  intro ds w e
  unfold dLen at e
  split at e
  · rename_i xs
    cases e
    refine ⟨fun vs H Q => ∃ p ys, vs = [.ref p] ∧ (SqL F.K H p ys ∨ SqT F.K H p ys) ∧ Q (.int ys.length) H, fun i => by have h := @call_len_seq (F.X i); rw [F.hK i] at h; exact h, fun pr B Hf H g σ vs Q E h c => ?_⟩
    obtain ⟨v, rfl, l⟩ := h.one
    obtain ⟨p, us, rfl, s, r⟩ := l.seqL E.ex
    exact ⟨p, us, rfl, .inl s, by rw [r.length]; exact c.dat E (.int _)⟩
  · rename_i xs
    cases e
    refine ⟨fun vs H Q => ∃ p ys, vs = [.ref p] ∧ (SqL F.K H p ys ∨ SqT F.K H p ys) ∧ Q (.int ys.length) H, fun i => by have h := @call_len_seq (F.X i); rw [F.hK i] at h; exact h, fun pr B Hf H g σ vs Q E h c => ?_⟩
    obtain ⟨v, rfl, l⟩ := h.one
    obtain ⟨p, us, rfl, s, r⟩ := l.seqT E.ex
    exact ⟨p, us, rfl, .inr s, by rw [r.length]; exact c.dat E (.int _)⟩
  · rename_i x
    split at e
    · rename_i hl
      cases e
      refine ⟨_, fun i => call_len_str, fun pr B Hf H g σ vs Q E h c => ?_⟩
      obtain ⟨v, rfl, l⟩ := h.one
      cases l.str
      exact ⟨x, rfl, hl, c.dat E (.int _)⟩
    · cases e
  · cases e
def dInt : List Da → Option Wv
  | [.int i] => some (.dat (.int i))
  | [.bool k] => some (.dat (.int (if k then 1 else 0)))
  | _ => none
theorem cd_int : CallD F (.type "int") dInt := by
  intro ds w e
  unfold dInt at e
  split at e
  · rename_i i
    cases e
    refine ⟨_, fun i => call_int1, fun pr B Hf H g σ vs Q E h c => ?_⟩
    obtain ⟨v, rfl, l⟩ := h.one
    cases l.int
    exact .inl ⟨i, rfl, c.dat E (.int _)⟩
  · rename_i k
    cases e
    refine ⟨_, fun i => call_int1, fun pr B Hf H g σ vs Q E h c => ?_⟩
    obtain ⟨v, rfl, l⟩ := h.one
    cases l.bool
    exact .inr ⟨k, rfl, c.dat E (.int _)⟩
  · cases e
def dAbs : List Da → Option Wv
  | [.int i] => some (.dat (.int (if i < 0 then -i else i)))
  | _ => none
theorem cd_abs : CallD F (.builtin "abs") dAbs := by
  intro ds w e
  unfold dAbs at e
  split at e
  · rename_i i
    cases e
    refine ⟨_, fun i => call_abs, fun pr B Hf H g σ vs Q E h c => ?_⟩
    obtain ⟨v, rfl, l⟩ := h.one
    cases l.int
    exact ⟨i, rfl, c.dat E (.int _)⟩
  · cases e
def intsOf : List Da → Option (List Int)
  | [] => some []
  | .int i :: r => (intsOf r).map fun s => i :: s
  | _ :: _ => none
theorem intsOf_some : ∀ {ds : List Da} {ns : List Int}, intsOf ds = some ns → ds = ns.map PyData.int
  | [], ns, e => by cases e; rfl
  | .int i :: r, ns, e => by
    obtain ⟨s, e1, e2⟩ := Option.map_eq_some_iff.mp (show (intsOf r).map (fun s => i :: s) = some ns from e)
    subst e2
    rw [List.map_cons, ← intsOf_some e1]
theorem intsOf_map : ∀ ns : List Int, intsOf (ns.map PyData.int) = some ns
  | [] => rfl
  | n :: ns => by
    show (intsOf (ns.map PyData.int)).map (fun s => n :: s) = _
    rw [intsOf_map ns]; rfl
def boolsOf : List Da → Option (List Bool)
  | [] => some []
  | .bool i :: r => (boolsOf r).map fun s => i :: s
  | _ :: _ => none
theorem boolsOf_some : ∀ {ds : List Da} {ns : List Bool}, boolsOf ds = some ns → ds = ns.map PyData.bool
  | [], ns, e => by cases e; rfl
  | .bool i :: r, ns, e => by
    obtain ⟨s, e1, e2⟩ := Option.map_eq_some_iff.mp (show (boolsOf r).map (fun s => i :: s) = some ns from e)
    subst e2
    rw [List.map_cons, ← boolsOf_some e1]
theorem boolsOf_map : ∀ ns : List Bool, boolsOf (ns.map PyData.bool) = some ns
  | [] => rfl
  | n :: ns => by
    show (boolsOf (ns.map PyData.bool)).map (fun s => n :: s) = _
    rw [boolsOf_map ns]; rfl
/-- max, min: of two ints, of a list of ints -/
def maxL : List Int → Option Int
  | [] => none
  | [x] => some x
  | x :: y :: r => (maxL (y :: r)).map fun m => if m < x then x else m
def minL : List Int → Option Int
  | [] => none
  | [x] => some x
  | x :: y :: r => (minL (y :: r)).map fun m => if x < m then x else m
theorem maxL_is : ∀ {ns : List Int} {m : Int}, maxL ns = some m → m ∈ ns ∧ ∀ y ∈ ns, y ≤ m
  | [x], m, e => by cases e; simp
  | x :: y :: r, m, e => by
    obtain ⟨k, e1, e2⟩ := Option.map_eq_some_iff.mp (show (maxL (y :: r)).map _ = some m from e)
    obtain ⟨h1, h2⟩ := maxL_is e1
    subst e2
    split
    · refine ⟨List.mem_cons_self, fun z hz => ?_⟩
      rcases List.mem_cons.mp hz with q | q
      · omega
      · have := h2 z q; omega
    · refine ⟨List.mem_cons_of_mem _ h1, fun z hz => ?_⟩
      rcases List.mem_cons.mp hz with q | q
      · omega
      · exact h2 z q
theorem minL_is : ∀ {ns : List Int} {m : Int}, minL ns = some m → m ∈ ns ∧ ∀ y ∈ ns, m ≤ y
  | [x], m, e => by cases e; simp
  | x :: y :: r, m, e => by
    obtain ⟨k, e1, e2⟩ := Option.map_eq_some_iff.mp (show (minL (y :: r)).map _ = some m from e)
    obtain ⟨h1, h2⟩ := minL_is e1
    subst e2
    split
    · refine ⟨List.mem_cons_self, fun z hz => ?_⟩
      rcases List.mem_cons.mp hz with q | q
      · omega
      · have := h2 z q; omega
    · refine ⟨List.mem_cons_of_mem _ h1, fun z hz => ?_⟩
      rcases List.mem_cons.mp hz with q | q
      · omega
      · exact h2 z q
def dMax : List Da → Option Wv
  | [.int a, .int b] => some (.dat (.int (if b > a then b else a)))
  | [.list xs] => (intsOf xs).bind fun ns => (maxL ns).map fun m => .dat (.int m)
  | _ => none
def dMin : List Da → Option Wv
  | [.int a, .int b] => some (.dat (.int (if b < a then b else a)))
  | [.list xs] => (intsOf xs).bind fun ns => (minL ns).map fun m => .dat (.int m)
  | _ => none
theorem cd_max (hc : ∀ i, (F.X i).calm = true) : CallD F (.builtin "max") dMax := by
  intro ds w e
  unfold dMax at e
  split at e
  · rename_i a b
    cases e
    refine ⟨_, fun i => call_max2 (hc i), fun pr B Hf H g σ vs Q E h c => ?_⟩
    obtain ⟨v, u, rfl, l1, l2⟩ := h.two
    cases l1.int; cases l2.int
    exact ⟨a, b, rfl, c.dat E (.int _)⟩
  · rename_i xs
    obtain ⟨ns, e1, e⟩ := Option.bind_eq_some_iff.mp e
    obtain ⟨m, e2, e3⟩ := Option.map_eq_some_iff.mp e
    subst e3
    have e1 := intsOf_some e1
    subst e1
    obtain ⟨k1, k2⟩ := maxL_is e2
    refine ⟨rMax F.K, fun i => by have h := cr_max (hc i); rw [F.hK i] at h; exact h, fun pr B Hf H g σ vs Q E h c => ?_⟩
    obtain ⟨v, rfl, l⟩ := h.one
    obtain ⟨p, us, rfl, s, r⟩ := l.seqL E.ex
    have := r.ints
    subst this
    refine ⟨p, ns, rfl, s, ?_, fun z h1 h2 => ?_⟩
    · cases ns with
      | nil => cases e2
      | cons _ _ => simp
    · have e : z = m := Int.le_antisymm (k2 z h1) (h2 m k1)
      rw [e]; exact c.dat E (.int _)
  · cases e
theorem cd_min (hc : ∀ i, (F.X i).calm = true) : CallD F (.builtin "min") dMin := by
  intro ds w e
  unfold dMin at e
  split at e
  · rename_i a b
    cases e
    refine ⟨_, fun i => call_min2 (hc i), fun pr B Hf H g σ vs Q E h c => ?_⟩
    obtain ⟨v, u, rfl, l1, l2⟩ := h.two
    cases l1.int; cases l2.int
    exact ⟨a, b, rfl, c.dat E (.int _)⟩
  · rename_i xs
    obtain ⟨ns, e1, e⟩ := Option.bind_eq_some_iff.mp e
    obtain ⟨m, e2, e3⟩ := Option.map_eq_some_iff.mp e
    subst e3
    have e1 := intsOf_some e1
    subst e1
    obtain ⟨k1, k2⟩ := minL_is e2
    refine ⟨rMin F.K, fun i => by have h := cr_min (hc i); rw [F.hK i] at h; exact h, fun pr B Hf H g σ vs Q E h c => ?_⟩
    obtain ⟨v, rfl, l⟩ := h.one
    obtain ⟨p, us, rfl, s, r⟩ := l.seqL E.ex
    have := r.ints
    subst this
    refine ⟨p, ns, rfl, s, ?_, fun z h1 h2 => ?_⟩
    · cases ns with
      | nil => cases e2
      | cons _ _ => simp
    · have e : z = m := Int.le_antisymm (h2 m k1) (k2 z h1)
      rw [e]; exact c.dat E (.int _)
  · cases e
def dSum : List Da → Option Wv
  | [.list xs] => (intsOf xs).map fun ns => .dat (.int ns.sum)
  | _ => none
theorem cd_sum (hc : ∀ i, (F.X i).calm = true) : CallD F (.builtin "sum") dSum := by
  intro ds w e
  unfold dSum at e
  split at e
  · rename_i xs
    obtain ⟨ns, e1, e3⟩ := Option.map_eq_some_iff.mp e
    subst e3
    have e1 := intsOf_some e1
    subst e1
    refine ⟨rSum F.K, fun i => by have h := cr_sum (hc i); rw [F.hK i] at h; exact h, fun pr B Hf H g σ vs Q E h c => ?_⟩
    obtain ⟨v, rfl, l⟩ := h.one
    obtain ⟨p, us, rfl, s, r⟩ := l.seqL E.ex
    have := r.ints
    subst this
    exact ⟨p, ns, rfl, s, c.dat E (.int _)⟩
  · cases e
def dAny : List Da → Option Wv
  | [.list xs] => (boolsOf xs).map fun ns => .dat (.bool (ns.any id))
  | _ => none
theorem cd_any (hc : ∀ i, (F.X i).calm = true) : CallD F (.builtin "any") dAny := by
  intro ds w e
  unfold dAny at e
  split at e
  · rename_i xs
    obtain ⟨ns, e1, e3⟩ := Option.map_eq_some_iff.mp e
    subst e3
    have e1 := boolsOf_some e1
    subst e1
    refine ⟨rAny F.K, fun i => by have h := cr_any (hc i); rw [F.hK i] at h; exact h, fun pr B Hf H g σ vs Q E h c => ?_⟩
    obtain ⟨v, rfl, l⟩ := h.one
    obtain ⟨p, us, rfl, s, r⟩ := l.seqL E.ex
    have := r.bools
    subst this
    exact ⟨p, ns, rfl, s, c.dat E (.bl _)⟩
  · cases e
def dTuple : List Da → Option Wv
  | [.list xs] => some (.dat (.tuple xs))
  | [.tuple xs] => some (.dat (.tuple xs))
  | _ => none
def dList : List Da → Option Wv
  | [.list xs] => some (.fresh xs)
  | [.tuple xs] => some (.fresh xs)
  | _ => none
theorem cd_tuple : CallD F (.type "tuple") dTuple := by
  intro ds w e
  have hr : ∀ i, CallR (F.X i) (.type "tuple") (fun xs H Q => ∃ p ys, xs = [.ref p] ∧ ((SqL F.K H p ys ∧ ∀ l, H l = none → Q (.ref l) (upd H l (.tup ys))) ∨ (SqT F.K H p ys ∧ Q (.ref p) H))) := fun i => by have h := @call_tuple_of (F.X i); rw [F.hK i] at h; exact h
  unfold dTuple at e
  split at e
  · rename_i xs
    cases e
    refine ⟨_, hr, fun pr B Hf H g σ vs Q E h c => ?_⟩
    obtain ⟨v, rfl, l⟩ := h.one
    obtain ⟨p, us, rfl, s, r⟩ := l.seqL E.ex
    exact ⟨p, us, rfl, .inl ⟨s, fun l hl => c.newT E r hl⟩⟩
  · rename_i xs
    cases e
    refine ⟨_, hr, fun pr B Hf H g σ vs Q E h c => ?_⟩
    obtain ⟨v, rfl, l⟩ := h.one
    obtain ⟨p, us, rfl, s, r⟩ := l.seqT E.ex
    rcases l.2 with z | ⟨_, _, _, _, z, _⟩
    · exact ⟨p, us, rfl, .inr ⟨s, c.dat E z⟩⟩
    · cases z
  · cases e
theorem cd_list : CallD F (.type "list") dList := by
  intro ds w e
  have hr : ∀ i, CallR (F.X i) (.type "list") (fun xs H Q => ∃ p ys, xs = [.ref p] ∧ (SqL F.K H p ys ∨ SqT F.K H p ys) ∧ ∀ l, H l = none → Q (.ref l) (upd H l (.lst ys))) := fun i => by have h := @call_list_of (F.X i); rw [F.hK i] at h; exact h
  unfold dList at e
  split at e
  · rename_i xs
    cases e
    refine ⟨_, hr, fun pr B Hf H g σ vs Q E h c => ?_⟩
    obtain ⟨v, rfl, l⟩ := h.one
    obtain ⟨p, us, rfl, s, r⟩ := l.seqL E.ex
    exact ⟨p, us, rfl, .inl s, fun l hl => c.newL E r hl⟩
  · rename_i xs
    cases e
    refine ⟨_, hr, fun pr B Hf H g σ vs Q E h c => ?_⟩
    obtain ⟨v, rfl, l⟩ := h.one
    obtain ⟨p, us, rfl, s, r⟩ := l.seqT E.ex
    exact ⟨p, us, rfl, .inr s, fun l hl => c.newL E r hl⟩
  · cases e
/-- isinstance(e, T), T a built-in class -/
def tyName : Da → String
  | .none => "NoneType" | .bool _ => "bool" | .int _ => "int" | .str _ => "str" | .list _ => "list" | .tuple _ => "tuple" | .dict _ => "dict"
theorem tyx_rep {v : V} {d : Da} (h : Rep K H v d) : TyX K H v (.type (tyName d)) := by
  cases h with
  | non => exact .base .non
  | bl b => exact .base (.bl b)
  | int i => exact .base (.int i)
  | str x => exact .base (.str x)
  | lst q r =>
    rcases q with (q | ⟨o, q⟩) | ⟨o, its, n, q, c, _⟩
    · exact .base (.lst q)
    · exact .base (.frz q)
    · exact .kList q c
  | tup q r =>
    rcases q with (q | ⟨o, q⟩) | ⟨o, its, n, q, c, _⟩
    · exact .base (.tup q)
    · exact .fTuple q
    · exact .kTuple q c
  | dk q r => exact .fDict q
def mIsi (T : String) (f : ME) : ME := fun g => (f g).bind fun a => (look a.1 a.2).bind fun x => (kitB (tyName x) T).bind fun b => some (.dat (.bool b), a.2)
theorem ev_isi {T : String} {x : Str} {e : Expr} {f : ME} {p p2 pos : Pos} (h : Ev F pr e f) (hm : ∀ i, (F.X i).mg "isinstance" = none) (hmT : ∀ i, (F.X i).mg x = none) (hg : ∀ i, Gl (F.X i) "isinstance" := by intro _; rfl) (hgT : ∀ i, Gl (F.X i) x := by intro _; rfl)
    (hvT : bootBuiltins x = some (.type T) := by decide +kernel) (hn : x ≠ "__name__" := by decide) (hd : (x == ("__debug__" : Str)) = false := by decide)
    (hv : bootBuiltins "isinstance" = some (.builtin "isinstance") := by decide +kernel)
    (he : ∀ i, starEach (e :: [.Name x p2]) (F.X i).env = (false, eval e (F.X i).env) :: starEach [.Name x p2] (F.X i).env := by intro _; rfl) (he2 : ∀ i, starEach [.Name x p2] (F.X i).env = (false, eval (.Name x p2) (F.X i).env) :: starEach [] (F.X i).env := by intro _; rfl) (hpl : ∀ i, (backTo pos (starEach [.Name x p2] (F.X i).env)).any (·.1) = false := by intro _; rfl) :
    Ev F pr (.Call (.Name "isinstance" p) [e, .Name x p2] [] pos) (mIsi T f) := by
  intro B Hf H g σ w g' Q E eq q
  obtain ⟨⟨wa, g1⟩, e1, eq⟩ := Option.bind_eq_some_iff.mp eq
  obtain ⟨d, e2, eq⟩ := Option.bind_eq_some_iff.mp eq
  obtain ⟨b, e3, eq⟩ := Option.bind_eq_some_iff.mp eq
  cases eq
  refine ⟨tCB (rIsi F.K) (tCons (U F e) (tCons (tC (.ty T)) tNil)), fun i => pe_callB (by have h := @call_isi (F.X i); rw [F.hK i] at h; exact h) (hg i) (hm i) hv (pa_cons (pe_U i) (pa_cons (pe_bltn (hgT i) (hmT i) hvT rfl hn hd) pa_nil (he2 i)) (he i)) (by decide) (by decide) (he i) (hpl i), ?_⟩
  refine h B Hf H g σ wa _ _ E e1 fun v Hf1 H1 s1 w1 y1 => ?_
  have l := look_ok s1.env w1 e2
  exact ⟨v, .ty T, _, _, b, rfl, .ty T, tyx_rep l.1, kit_ty e3, q _ Hf1 H1 s1 (.bl b) (fun _ z => nomatch z)⟩
/-- repr of what is flat -/
def dRepr : List Da → Option Wv
  | [.bool b] => some (.dat (.str (if b then "True" else "False")))
  | [.none] => some (.dat (.str "None"))
  | [.int i] => if i.natAbs.log2 < 1920 then some (.dat (.str (toString i))) else none
  | _ => none
theorem pe_lockBehind {X : Cx} {e : Expr} {t : TE} (h : PE X e t) : PE X e (fun σ H Q => t σ H fun v H1 => ∃ d u, H1 d = some u ∧ Mut (some u) ∧ ∀ od, Q v (upd H1 d (.frz od u))) := by
  refine ⟨fun pins s σ H Q I hw => ?_⟩
  refine thn (h.run pins s σ H _ I hw) fun v s1 ⟨x, H1, I1, r, d, u, hd, mu, q⟩ => ?_
  obtain ⟨od, I2⟩ := I1.lock hd mu
  exact ⟨x, _, I2, r, q od⟩
end
end EV
end
section
set_option maxHeartbeats 2000000
set_option autoImplicit false
namespace EV
open PySem PySem.Spec PyProof.Rows L2
section
variable {F : Fam} {pr : List Nat} {B : Addr → Prop} {Hf H Hf' H' Hf1 H1 Hf2 H2 : Hp} {g g' g1 g2 : Gh} {σ σ' σ1 σ2 : L2.St} {K : Frag}
/-! ### targets -/
structure GStp (K : Frag) (pr : List Nat) (B : Addr → Prop) (vs : List Nat) (w : Wv) (v : V) (Hf H : Hp) (g : Gh) (σ : L2.St) (Hf' H' : Hp) (g' : Gh) (σ' : L2.St) : Prop where
  tr : Tr (Own g σ) Hf H Hf' H'
  env : En K pr B Hf' H' g' σ'
  sub : ∀ p, Own g' σ' p → Own g σ p ∨ ((∃ ds, w = .fresh ds) ∧ v = .ref p)
  prk : ∀ i ∈ pr, σ'[i]? = σ[i]?
  oth : ∀ i, i ∉ vs → σ'[i]? = σ[i]?
  slen : σ'.length = σ.length
def EvG (F : Fam) (pr : List Nat) (vs : List Nat) (tg : Expr) (m : Wv → Gh → Option Gh) : Prop := ∀ (B : Addr → Prop) (Hf H : Hp) (g : Gh) (σ : L2.St) (w : Wv) (v : V) (g' : Gh) (Q : L2.St → Hp → Prop), En F.K pr B Hf H g σ → WOk F.K B Hf H g σ w v → m w g = some g' →
  (∀ σ' Hf' H', GStp F.K pr B vs w v Hf H g σ Hf' H' g' σ' → Q σ' H') → UG F tg v σ H Q
theorem own_storeS {i : Nat} {s : Sl} {v : V} {p : Addr} (h : Own (g.set i s) (σ.set i (some v)) p) (ni : s.inn = []) : Own g σ p ∨ (s.ow = true ∧ v = .ref p) := by
  obtain ⟨j, t, e1, o, e2⟩ := h
  rcases get_set e1 with ⟨rfl, rfl⟩ | ⟨n, e1⟩
  · rcases get_set (e2.eq ni) with ⟨_, z2⟩ | ⟨n, _⟩
    · cases z2; exact .inr ⟨o, rfl⟩
    · exact absurd rfl n
  · rw [List.getElem?_set_ne (Ne.symm n)] at e2
    exact .inl ⟨j, t, e1, o, e2⟩
theorem own_store {i : Nat} {s : Sl} {v : V} {p : Addr} (h : Own (g.set i s) (σ.set i (some v)) p) (nd : ∀ t es, s ≠ .dic t es := by intro _ _ z; cases z) (nt : ∀ t es, s ≠ .tab t es := by intro _ _ z; cases z) (ng : ∀ t es, s ≠ .grp t es := by intro _ _ z; cases z) : Own g σ p ∨ (∃ ds, s = .own ds ∧ v = .ref p) := by
  rcases own_storeS h (by cases s <;> first | rfl | exact absurd rfl (nt _ _) | exact absurd rfl (ng _ _)) with z | ⟨o, z⟩
  · exact .inl z
  · refine .inr ?_
    cases s with
    | own ds => exact ⟨ds, rfl, z⟩
    | dic t es => exact absurd rfl (nd t es)
    | tab t es => exact absurd rfl (nt t es)
    | grp t es => exact absurd rfl (ng t es)
    | un => cases o
    | val d => cases o
    | raw w => cases o
    | rg a b => cases o
theorem En.storeT (E : En K pr B Hf H g σ) {i : Nat} {s : Sl} {v : V} (hi : i < g.length) (hs : SlotOk K Hf H s v) (ho : s.ow = true → ∀ p, At s (some (some v)) p → ¬ Own g σ p ∧ B p) (hp : s.inn = [] ∨ i ∉ pr) : En K pr B Hf H (g.set i s) (σ.set i (some v)) where
  ex := E.ex
  len := by rw [List.length_set, List.length_set]; exact E.len
  ok := fun j t e n => by
    rcases get_set e with ⟨rfl, rfl⟩ | ⟨ne, e⟩
    · exact ⟨v, List.getElem?_set_self (by rw [← E.len]; exact hi), hs⟩
    · obtain ⟨u, e1, h1⟩ := E.ok j t e n
      exact ⟨u, by rw [List.getElem?_set_ne (Ne.symm ne)]; exact e1, h1⟩
  dis := fun a b s1 t1 p h1 o1 h2 o2 e1 e2 => by
    have sv : (σ.set i (some v))[i]? = some (some v) := List.getElem?_set_self (by rw [← E.len]; exact hi)
    rcases get_set h1 with ⟨rfl, rfl⟩ | ⟨na, h1'⟩
    · rcases get_set h2 with ⟨rfl, _⟩ | ⟨nb, h2'⟩
      · rfl
      · rw [List.getElem?_set_ne (Ne.symm nb)] at e2
        rw [sv] at e1
        exact absurd ⟨b, t1, h2', o2, e2⟩ (ho o1 p e1).1
    · rcases get_set h2 with ⟨rfl, rfl⟩ | ⟨nb, h2'⟩
      · rw [List.getElem?_set_ne (Ne.symm na)] at e1
        rw [sv] at e2
        exact absurd ⟨a, s1, h1', o1, e1⟩ (ho o2 p e2).1
      · rw [List.getElem?_set_ne (Ne.symm na)] at e1
        rw [List.getElem?_set_ne (Ne.symm nb)] at e2
        exact E.dis a b s1 t1 p h1' o1 h2' o2 e1 e2
  nb := E.nb
  ob := fun a s1 p h1 o1 e1 => by
    rcases get_set h1 with ⟨rfl, rfl⟩ | ⟨na, h1'⟩
    · rcases get_set e1 with ⟨_, z1⟩ | ⟨n, _⟩
      · cases z1; exact .inr (ho o1 p (.inl rfl)).2
      · exact absurd rfl n
    · rw [List.getElem?_set_ne (Ne.symm na)] at e1
      exact E.ob a s1 p h1' o1 e1
  obi := fun a s1 p h1 hm => by
    rcases get_set h1 with ⟨rfl, rfl⟩ | ⟨na, h1'⟩
    · refine ⟨(ho (inn_ow hm) p (.inr hm)).2, ?_⟩
      rcases hp with z | z
      · rw [z] at hm; cases hm
      · exact z
    · exact E.obi a s1 p h1' hm
theorem En.storeS (E : En K pr B Hf H g σ) {i : Nat} {s : Sl} {v : V} (hi : i < g.length) (hs : SlotOk K Hf H s v) (ho : s.ow = true → ∀ p, v = .ref p → ¬ Own g σ p ∧ B p) (ni : s.inn = []) : En K pr B Hf H (g.set i s) (σ.set i (some v)) :=
  E.storeT hi hs (fun o p z => ho o p (by cases z.eq ni; rfl)) (.inl ni)
theorem En.store (E : En K pr B Hf H g σ) {i : Nat} {s : Sl} {v : V} (hi : i < g.length) (hs : SlotOk K Hf H s v) (ho : ∀ ds, s = .own ds → ∀ p, v = .ref p → ¬ Own g σ p ∧ B p) (nd : ∀ t es, s ≠ .dic t es := by intro _ _ z; cases z) (nt : ∀ t es, s ≠ .tab t es := by intro _ _ z; cases z) (ng : ∀ t es, s ≠ .grp t es := by intro _ _ z; cases z) : En K pr B Hf H (g.set i s) (σ.set i (some v)) :=
  E.storeS hi hs (fun o p => by
    cases s with
    | own ds => exact ho ds rfl p
    | dic t es => exact absurd rfl (nd t es)
    | tab t es => exact absurd rfl (nt t es)
    | grp t es => exact absurd rfl (ng t es)
    | un => cases o
    | val d => cases o
    | raw w => cases o
    | rg a b => cases o) (by cases s <;> first | rfl | exact absurd rfl (nt _ _) | exact absurd rfl (ng _ _))
def setN (i : Nat) (w : Wv) (g : Gh) : Option Gh := if i < g.length then (match w with
  | .dat d => some (g.set i (.val d))
  | .fresh ds => some (g.set i (.own ds))
  | .raw v => some (g.set i (.raw v))
  | .slot j => (toD (.slot j) g).map fun r => r.2.set i (.val r.1)) else none
theorem toD_len : ∀ {w : Wv} {d : Da}, toD w g = some (d, g') → g'.length = g.length
  | .dat _, _, e => by cases e; rfl
  | .fresh _, _, e => by cases e; rfl
  | .raw _, _, e => by cases e
  | .slot i, d, e => by
    unfold toD at e
    dsimp only at e
    split at e
    · cases e; rw [List.length_set]
    · cases e; rfl
    · cases e
theorem setN_ok {i : Nat} {w : Wv} {v : V} (E : En K pr B Hf H g σ) (h : WOk K B Hf H g σ w v) (e : setN i w g = some g') (hp : i ∉ pr) : ∃ Hf', GStp K pr B [i] w v Hf H g σ Hf' H g' (σ.set i (some v)) := by
  unfold setN at e
  split at e
  · rename_i hi
    have prk : ∀ j ∈ pr, (σ.set i (some v))[j]? = σ[j]? := fun j hj => List.getElem?_set_ne (fun z => by subst z; exact hp hj)
    have oth : ∀ j, j ∉ [i] → (σ.set i (some v))[j]? = σ[j]? := fun j hj => List.getElem?_set_ne (fun z => hj (by simp [z]))
    cases w with
    | dat d =>
      cases e
      refine ⟨Hf, Tr.refl, E.store hi h (fun _ z => nomatch z), fun p z => ?_, prk, oth, List.length_set⟩
      rcases own_store z with z | ⟨_, z, _⟩
      · exact .inl z
      · cases z
    | fresh ds =>
      cases e
      obtain ⟨p, us, rfl, hb, hf, hq, r, n⟩ := h
      refine ⟨Hf, Tr.refl, E.store hi ⟨p, us, rfl, hf, hq, r⟩ (fun _ _ q z => by cases z; exact ⟨n, hb⟩), fun q z => ?_, prk, oth, List.length_set⟩
      rcases own_store z with z | ⟨_, z, z2⟩
      · exact .inl z
      · exact .inr ⟨⟨ds, rfl⟩, z2⟩
    | raw x =>
      cases e
      refine ⟨Hf, Tr.refl, E.store hi h (fun _ z => nomatch z), fun p z => ?_, prk, oth, List.length_set⟩
      rcases own_store z with z | ⟨_, z, _⟩
      · exact .inl z
      · cases z
    | slot j =>
      obtain ⟨⟨d, g1⟩, e1, e2⟩ := Option.map_eq_some_iff.mp e
      subst e2
      obtain ⟨Hf', E', r, ex, s, k⟩ := toD_ok E h e1
      refine ⟨Hf', ⟨ex, fun p o hp no => ⟨hp, ?_⟩, fun _ h => h⟩, E'.store (by rw [toD_len e1]; exact hi) r (fun _ z => nomatch z), fun p z => ?_, prk, oth, List.length_set⟩
      · rcases k p o hp no with z | ⟨⟨_, z⟩, _⟩
        · exact z
        · cases z
      · rcases own_store z with z | ⟨_, z, _⟩
        · exact .inl (s p z)
        · cases z
  · cases e
theorem eg_name (i : Nat) {x : Str} {pos : Pos} (hN : ∀ j, (F.X j).N.Nodup) (hi : ∀ j, (F.X j).N[i]? = some x := by intro _; rfl) (hx : ∀ j, Loc (F.X j).env.scope x := by intro _; first | exact Or.inl rfl | exact Or.inr rfl)
    (hf : ∀ j, (F.X j).fn x = true ∨ (F.X j).env.scope.names.lookup x = some .local := by intro _; first | exact .inl rfl | exact .inr rfl) (hp : i ∉ pr := by decide) : EvG F pr [i] (.Name x pos) (setN i) := by
  intro B Hf H g σ w v g' Q E h e q
  obtain ⟨Hf', s⟩ := setN_ok E h e hp
  exact ⟨gName i, fun j => pg_name (hN j) (hi j) (hx j) (hf j), q _ Hf' H s⟩
/-- names, from the left -/
def gNames : List Nat → TGs
  | [] => gNil
  | i :: is => gCons (gName i) (gNames is)
def slOf : Wv → Option Sl
  | .dat d => some (.val d)
  | .fresh ds => some (.own ds)
  | .raw v => some (.raw v)
  | .slot _ => none
def setNs : List Nat → List Wv → Gh → Option Gh
  | [], [], g => some g
  | i :: is, w :: ws, g => (slOf w).bind fun s => if i < g.length then setNs is ws (g.set i s) else none
  | _, _, _ => none
theorem slOf_store {i : Nat} {w : Wv} {v : V} {s : Sl} (E : En K pr B Hf H g σ) (h : WOk K B Hf H g σ w v) (e : slOf w = some s) (hi : i < g.length) : En K pr B Hf H (g.set i s) (σ.set i (some v)) ∧ ∀ p, Own (g.set i s) (σ.set i (some v)) p → Own g σ p ∨ ((∃ ds, w = .fresh ds) ∧ v = .ref p) := by
  cases w with
  | dat d =>
    cases e
    refine ⟨E.store hi h (fun _ z => nomatch z), fun p z => ?_⟩
    rcases own_store z with z | ⟨_, z, _⟩
    · exact .inl z
    · cases z
  | fresh ds =>
    cases e
    obtain ⟨p, us, rfl, hb, hf, hq, r, n⟩ := h
    refine ⟨E.store hi ⟨p, us, rfl, hf, hq, r⟩ (fun _ _ q z => by cases z; exact ⟨n, hb⟩), fun q z => ?_⟩
    rcases own_store z with z | ⟨_, z, z2⟩
    · exact .inl z
    · exact .inr ⟨⟨ds, rfl⟩, z2⟩
  | raw x =>
    cases e
    refine ⟨E.store hi h (fun _ z => nomatch z), fun p z => ?_⟩
    rcases own_store z with z | ⟨_, z, _⟩
    · exact .inl z
    · cases z
  | slot j => cases e
theorem WOk.by_own {w : Wv} {v : V} (h : WOk K B Hf H g σ w v) (e : (slOf w).isSome = true) (o : ∀ ds p, w = .fresh ds → v = .ref p → Own g1 σ1 p → Own g σ p) : WOk K B Hf H g1 σ1 w v := by
  cases w with
  | dat d => exact h
  | fresh ds =>
    obtain ⟨p, us, rfl, hb, hf, hq, r, n⟩ := h
    exact ⟨p, us, rfl, hb, hf, hq, r, fun z => n (o ds p rfl rfl z)⟩
  | raw x => exact h
  | slot j => cases e
theorem setNs_all : ∀ {is : List Nat} {ws : List Wv} {g g' : Gh}, setNs is ws g = some g' → ∀ w ∈ ws, (slOf w).isSome = true
  | [], [], _, _, _, _, h => by cases h
  | i :: is, w :: ws, g, g', e, u, h => by
    obtain ⟨s, e1, e⟩ := Option.bind_eq_some_iff.mp (show ((slOf w).bind fun s => if i < g.length then setNs is ws (g.set i s) else none) = some g' from e)
    split at e
    · rcases List.mem_cons.mp h with q | q
      · subst q; rw [e1]; rfl
      · exact setNs_all e u q
    · cases e
theorem WAll.by_own {w : Wv} {v : V} (o : ∀ p, Own g1 σ1 p → Own g σ p ∨ ((∃ ds, w = .fresh ds) ∧ v = .ref p)) : ∀ {ws : List Wv} {us : List V}, WAll K B Hf H g σ ws us → Apart w v ws us → (∀ w ∈ ws, (slOf w).isSome = true) → WAll K B Hf H g1 σ1 ws us
  | _, _, .nil, _, _ => .nil
  | _, _, .cons a b c, ap, n => by
    refine .cons (a.by_own (n _ List.mem_cons_self) fun ds p e1 e2 z => ?_) b (WAll.by_own o c (fun ds p e1 e2 i es h1 h2 => ap ds p e1 e2 (i + 1) es (by simpa using h1) (by simpa using h2)) fun w h => n w (List.mem_cons_of_mem _ h))
    rcases o p z with z | ⟨⟨es, z⟩, z2⟩
    · exact z
    · exact (ap es p z z2 0 ds (by simp [e1]) (by simp [e2])).elim
theorem setNs_ok : ∀ {is : List Nat} {ws : List Wv} {us : List V} {g g' : Gh} {σ : L2.St} {D : L2.St → Hp → Prop}, En K pr B Hf H g σ → WAll K B Hf H g σ ws us → setNs is ws g = some g' → (∀ i ∈ is, i ∉ pr) →
    (∀ σ', En K pr B Hf H g' σ' → (∀ p, Own g' σ' p → Own g σ p ∨ ∃ (i : Nat) (ds : List Da), ws[i]? = some (.fresh ds) ∧ us[i]? = some (.ref p)) → (∀ i ∈ pr, σ'[i]? = σ[i]?) → (∀ i, i ∉ is → σ'[i]? = σ[i]?) → σ'.length = σ.length → D σ' H) → gNames is us σ H D
  | [], _, _, g, g', σ, D, E, .nil, e, hp, k => by
    cases e
    exact ⟨rfl, k σ E (fun _ h => .inl h) (fun _ _ => rfl) (fun _ _ => rfl) rfl⟩
  | i :: is, _, _, g, g', σ, D, E, @WAll.cons _ _ _ _ _ _ w v ws us a b c, e, hp, k => by
    have all := setNs_all e
    obtain ⟨s, e1, e⟩ := Option.bind_eq_some_iff.mp (show ((slOf w).bind fun s => if i < g.length then setNs is ws (g.set i s) else none) = some g' from e)
    split at e
    · rename_i hi
      obtain ⟨E1, o1⟩ := slOf_store E a e1 hi
      have hip : i ∉ pr := hp i List.mem_cons_self
      refine ⟨v, us, rfl, setNs_ok E1 (WAll.by_own o1 c b fun w h => all w (List.mem_cons_of_mem _ h)) e (fun j hj => hp j (List.mem_cons_of_mem _ hj)) fun σ' E' o2 p2 t2 l2 => ?_⟩
      refine k σ' E' (fun p hq => ?_) (fun j hj => (p2 j hj).trans (List.getElem?_set_ne fun z => by subst z; exact hip hj)) (fun j hj => (t2 j fun z => hj (List.mem_cons_of_mem _ z)).trans (List.getElem?_set_ne fun z => by subst z; exact hj List.mem_cons_self)) (l2.trans List.length_set)
      rcases o2 p hq with z | ⟨j, ds, z, z2⟩
      · rcases o1 p z with z | ⟨⟨ds, z⟩, z2⟩
        · exact .inl z
        · exact .inr ⟨0, ds, by simp [z], by simp [z2]⟩
      · exact .inr ⟨j + 1, ds, by simpa using z, by simpa using z2⟩
    · cases e
  | _ :: _, _, _, _, _, _, _, _, .nil, e, _, _ => by cases e
/-- (a, b, ..), a tuple of data -/
def setT (is : List Nat) : Wv → Gh → Option Gh
  | .dat (.tuple ds), g => if ds.length = is.length then setNs is (ds.map Wv.dat) g else none
  | _, _ => none
theorem wall_dats : ∀ {us : List V} {ds : List Da}, RepAll K Hf us ds → WAll K B Hf H g σ (ds.map Wv.dat) us
  | _, _, .nil => .nil
  | _, _, .cons a b => .cons a (fun _ _ z => nomatch z) (wall_dats b)
theorem eg_tup (is : List Nat) {es : List Expr} {k : Nat} {pos : Pos} (hc : ∀ i, (F.X i).calm = true) (h : ∀ i, PGs (F.X i) es (gNames is)) (hn : ∀ i, (assignEach es (F.X i).env).length = is.length := by intro _; rfl)
    (hst : ∀ i, (assignEach es (F.X i).env).findIdx? (·.1) = none := by intro _; rfl) (hp : ∀ i ∈ is, i ∉ pr := by decide) : EvG F pr is (.Tuple es k pos) (setT is) := by
  intro B Hf H g σ w v g' Q E h1 e q
  unfold setT at e
  split at e
  · rename_i ds
    split at e
    · rename_i hl
      have h1 : Rep F.K Hf v (.tuple ds) := h1
      cases h1 with
      | @tup a xs _ sq r =>
        refine ⟨gTup F.K is.length (gNames is), fun i => by have z := pg_tup (hc i) (h i) (hn i) (hst i) (k := k) (pos := pos); rw [F.hK i] at z; exact z, a, xs, rfl, Evl.ex_t E.ex sq, r.length.trans hl, ?_⟩
        refine setNs_ok E (wall_dats r) e hp fun σ' E' o p2 t2 l2 => q σ' Hf H ⟨Tr.refl, E', fun p hq => ?_, p2, t2, l2⟩
        rcases o p hq with z | ⟨j, es, z, _⟩
        · exact .inl z
        · rw [List.getElem?_map] at z
          cases q2 : ds[j]? with
          | none => rw [q2] at z; cases z
          | some d => rw [q2] at z; cases z
    · cases e
  · cases e
end
end EV
end
section
set_option maxHeartbeats 2000000
set_option autoImplicit false
namespace EV
open PySem PySem.Spec PyProof.Rows L2
section
variable {F : Fam} {pr : List Nat} {B : Addr → Prop} {Hf H Hf' H' Hf1 H1 Hf2 H2 : Hp} {g g' g1 g2 : Gh} {σ σ' σ1 σ2 : L2.St} {K : Frag}
/-! ### what is walked -/
theorem walkd_list {a : Addr} {xs : List V} {ds : List Da} (sq : SqL K Hf a xs) (r : RepAll K Hf xs ds) : WalkD K (Itl K a) Hf ds := by
  intro Hf1 H1 e1 e2
  have s1 : SqL K H1 a xs := Evl.ex_l (e1.trans e2) sq
  refine ⟨fun i hi => ⟨xs, xs[i]'(by rw [r.length]; exact hi), s1, by simp [r.length, hi]⟩, ⟨xs, s1, by rw [r.length]; exact Nat.le_refl _⟩, fun i d x H2 hd y => ?_⟩
  obtain ⟨rfl, y⟩ := y
  obtain ⟨v, hv, rv⟩ := r.get hd
  have := y xs s1
  rw [hv] at this; cases this
  exact ⟨Hf1, Tr.refl, fun _ _ _ _ E => E, rv.mono e1⟩
theorem walkd_tup {a : Addr} {xs : List V} {ds : List Da} (sq : SqT K Hf a xs) (r : RepAll K Hf xs ds) : WalkD K (Itt K a) Hf ds := by
  intro Hf1 H1 e1 e2
  have s1 : SqT K H1 a xs := Evl.ex_t (e1.trans e2) sq
  refine ⟨fun i hi => ⟨xs, xs[i]'(by rw [r.length]; exact hi), s1, by simp [r.length, hi]⟩, ⟨xs, s1, by rw [r.length]; exact Nat.le_refl _⟩, fun i d x H2 hd y => ?_⟩
  obtain ⟨rfl, y⟩ := y
  obtain ⟨v, hv, rv⟩ := r.get hd
  have := y xs s1
  rw [hv] at this; cases this
  exact ⟨Hf1, Tr.refl, fun _ _ _ _ E => E, rv.mono e1⟩
def mIt (f : ME) : MI := fun g => (f g).bind fun a => (toD a.1 a.2).bind fun r => (itemsD r.1).bind fun ds => some (ds, r.2)
theorem ei_val {tg e : Expr} {f : ME} (h : Ev F pr e f) : EvI F pr tg e (mIt f) := by
  intro B Hf H g σ ds g' R E eq q
  obtain ⟨⟨wa, g1⟩, e1, eq⟩ := Option.bind_eq_some_iff.mp eq
  obtain ⟨⟨d, g2⟩, e2, eq⟩ := Option.bind_eq_some_iff.mp eq
  obtain ⟨ds', e3, eq⟩ := Option.bind_eq_some_iff.mp eq
  cases eq
  cases d with
  | list xs =>
    cases e3
    refine ⟨iList F.K (U F e), fun i => by have z := pi_list (tg := tg) (pe_U (F := F) (e := e) i); rw [F.hK i] at z; exact z, ?_⟩
    refine h B Hf H g σ wa g1 _ E e1 fun v Hf1 H1 s1 w1 y1 => ?_
    obtain ⟨Hf2, s2, r⟩ := s1.toD y1 w1 e2
    cases r with
    | lst sq r => exact ⟨_, rfl, ⟨_, Evl.ex_l s2.env.ex sq⟩, q _ Hf2 H1 s2 (walkd_list sq r)⟩
  | tuple xs =>
    cases e3
    refine ⟨iTup F.K (U F e), fun i => by have z := pi_tup (tg := tg) (pe_U (F := F) (e := e) i); rw [F.hK i] at z; exact z, ?_⟩
    refine h B Hf H g σ wa g1 _ E e1 fun v Hf1 H1 s1 w1 y1 => ?_
    obtain ⟨Hf2, s2, r⟩ := s1.toD y1 w1 e2
    cases r with
    | tup sq r => exact ⟨_, rfl, ⟨_, Evl.ex_t s2.env.ex sq⟩, q _ Hf2 H1 s2 (walkd_tup sq r)⟩
  | _ => cases e3
def rgD (lo hi : Int) : List Da := (List.range (hi - lo).toNat).map fun k => .int (lo + (k : Nat))
theorem walkd_range {lo : Int} {n : Nat} : WalkD K (Itr lo n) Hf ((List.range n).map fun (k : Nat) => PyData.int (lo + k)) := by
  intro Hf1 H1 e1 e2
  refine ⟨fun i hi => by show i < n; simpa using hi, by show n ≤ _; simp, fun i d x H2 hd y => ?_⟩
  obtain ⟨rfl, rfl⟩ := y
  rw [List.getElem?_map] at hd
  by_cases hi : i < n
  · rw [List.getElem?_range hi] at hd
    cases hd
    exact ⟨Hf1, Tr.refl, fun _ _ _ _ E => E, .int _⟩
  · rw [List.getElem?_eq_none (by simpa using hi)] at hd; cases hd
def okRg (i : Int) : Bool := decide (-(2 ^ 62) ≤ i) && decide (i < 2 ^ 62)
theorem okRg_of {i : Int} (h : okRg i = true) : -(2 ^ 62) ≤ i ∧ i < 2 ^ 62 := by
  unfold okRg at h
  rw [Bool.and_eq_true] at h
  exact ⟨of_decide_eq_true h.1, of_decide_eq_true h.2⟩
def mRg1 (fa : MA) : MI := fun g => (fa g).bind fun a => (lookAll a.1 a.2).bind fun ds => match ds with
  | [.int j] => if okRg j = true then some (rgD 0 j, a.2) else none
  | _ => none
def mRg2 (fa : MA) : MI := fun g => (fa g).bind fun a => (lookAll a.1 a.2).bind fun ds => match ds with
  | [.int i, .int j] => if okRg i = true ∧ okRg j = true then some (rgD i j, a.2) else none
  | _ => none
theorem ei_range1 {tg a : Expr} {fa : MA} {p pos : Pos} (hm : ∀ i, (F.X i).mg "range" = none) (ha : EvA F pr [a] fa) (hg : ∀ i, Gl (F.X i) "range" := by intro _; rfl) (hs : ∀ i, starEach [a] (F.X i).env = [(false, eval a (F.X i).env)] := by intro _; rfl) :
    EvI F pr tg (.Call (.Name "range" p) [a] [] pos) (mRg1 fa) := by
  intro B Hf H g σ ds g' R E eq q
  obtain ⟨⟨ws, g1⟩, e1, eq1⟩ := Option.bind_eq_some_iff.mp eq
  obtain ⟨xs, e2, eq2⟩ := Option.bind_eq_some_iff.mp eq1
  refine ⟨iRng1 (UA F [a]), fun i => pi_range1 (hg i) (hm i) (pa_U i) (hs i), ?_⟩
  refine ha B Hf H g σ ws g1 _ E e1 fun vs Hf1 H1 s1 w1 y1 => ?_
  have l := lookAll_ok s1.env w1 e2
  dsimp only at eq2
  split at eq2
  · rename_i j
    split at eq2
    · rename_i hj
      cases eq2
      obtain ⟨v, rfl, l2⟩ := l.one
      cases l2.int
      obtain ⟨h1, h2⟩ := okRg_of hj
      refine ⟨j, rfl, h1, h2, q _ Hf1 H1 s1 ?_⟩
      unfold rgD
      rw [Int.sub_zero]
      exact walkd_range
    · cases eq2
  · cases eq2
/-- pairs -/
def zipD : List Da → List Da → List Da := List.zipWith fun x y => .tuple [x, y]
theorem new_pair {x y : V} {d e : Da} {T : Addr} (E2 : Evl.Ex Hf1 H1) (rx : Rep K Hf1 x d) (ry : Rep K Hf1 y e) (h : H1 T = none) :
    ∃ Hf2, Tr (fun _ => False) Hf1 H1 Hf2 (upd H1 T (.tup [x, y])) ∧ (∀ pr B g σ, En K pr B Hf1 H1 g σ → En K pr B Hf2 (upd H1 T (.tup [x, y])) g σ) ∧ Rep K Hf2 (.ref T) (.tuple [d, e]) := by
  have hf := Evl.fresh_back E2 h
  exact ⟨upd Hf1 T (.tup [x, y]), Tr.new hf h, fun _ _ _ _ E => E.new h, .tup (.inl (.inl upd_same)) (.cons (rx.mono (Evl.Ex.new hf)) (.cons (ry.mono (Evl.Ex.new hf)) .nil))⟩
theorem zip_get {ds es : List Da} {i : Nat} {d : Da} (h : (zipD ds es)[i]? = some d) : ∃ x y, ds[i]? = some x ∧ es[i]? = some y ∧ d = .tuple [x, y] := by
  unfold zipD at h
  rw [List.getElem?_zipWith] at h
  cases h1 : ds[i]? with
  | none => rw [h1] at h; cases h
  | some x =>
    cases h2 : es[i]? with
    | none => rw [h1, h2] at h; cases h
    | some y => rw [h1, h2] at h; cases h; exact ⟨x, y, rfl, rfl, rfl⟩
theorem zip_len {ds es : List Da} : (zipD ds es).length = min ds.length es.length := by unfold zipD; rw [List.length_zipWith]
def mZip (fa : MA) : MI := fun g => (fa g).bind fun a => (toDs a.1 a.2).bind fun r => match r.1 with
  | [.list ds, .list es] => some (zipD ds es, r.2)
  | [.tuple ds, .tuple es] => some (zipD ds es, r.2)
  | _ => none
def enumD : Nat → List Da → List Da
  | _, [] => []
  | n, d :: ds => .tuple [.int n, d] :: enumD (n + 1) ds
def mEnum (fa : MA) : MI := fun g => (fa g).bind fun a => (toDs a.1 a.2).bind fun r => match r.1 with
  | [.list ds] => some (enumD 0 ds, r.2)
  | _ => none
def mRevI (f : ME) : MI := fun g => (f g).bind fun a => (toD a.1 a.2).bind fun r => (itemsD r.1).bind fun ds => some (ds.reverse, r.2)
end
end EV
end
section
set_option maxHeartbeats 2000000
set_option autoImplicit false
namespace EV
open PySem PySem.Spec PyProof.Rows L2
section
variable {F : Fam} {pr : List Nat} {B : Addr → Prop} {Hf H Hf' H' Hf1 H1 Hf2 H2 : Hp} {g g' g1 g2 : Gh} {σ σ' σ1 σ2 : L2.St} {K : Frag}
/-! ### list comprehensions -/
def wipeG (g : Gh) : List Nat → Gh
  | [] => g
  | v :: vs => (wipeG g vs).set v .un
def restore : List Nat → Gh → Gh → Gh
  | [], _, g => g
  | v :: vs, g0, g => match g0[v]? with
    | some s => (restore vs g0 g).set v s
    | none => restore vs g0 g
theorem wipeG_len (g : Gh) : ∀ vs, (wipeG g vs).length = g.length
  | [] => rfl
  | v :: vs => by unfold wipeG; rw [List.length_set, wipeG_len]
theorem wipeG_get {i : Nat} {s : Sl} : ∀ {vs : List Nat}, (wipeG g vs)[i]? = some s → s ≠ .un → g[i]? = some s ∧ i ∉ vs
  | [], h, _ => ⟨h, by simp⟩
  | v :: vs, h, n => by
    unfold wipeG at h
    rcases get_set h with ⟨_, z⟩ | ⟨ne, h⟩
    · exact absurd z n
    · obtain ⟨h1, h2⟩ := wipeG_get h n
      exact ⟨h1, by simp only [List.mem_cons, not_or]; exact ⟨ne, h2⟩⟩
theorem wipe_get {i : Nat} : ∀ {vs : List Nat}, i ∉ vs → (wipe σ vs)[i]? = σ[i]?
  | [], _ => rfl
  | v :: vs, h => by
    unfold wipe
    rw [List.getElem?_set_ne (fun z => h (by simp [z]))]
    exact wipe_get fun z => h (List.mem_cons_of_mem _ z)
theorem wipe_eq {vs : List Nat} (hl : σ1.length = σ2.length) (h : ∀ i, i ∉ vs → σ1[i]? = σ2[i]?) : wipe σ1 vs = wipe σ2 vs := by
  apply List.ext_getElem?
  intro i
  by_cases hi : i ∈ vs
  · have : ∀ (σ : L2.St) (vs : List Nat), i ∈ vs → (wipe σ vs)[i]? = if i < σ.length then some none else none := by
      intro σ vs hm
      induction vs with
      | nil => cases hm
      | cons v vs ih =>
        unfold wipe
        by_cases e : v = i
        · subst e
          by_cases hl : v < σ.length
          · rw [List.getElem?_set_self (by rw [wipe_length]; exact hl), if_pos hl]
          · rw [List.getElem?_eq_none (by rw [List.length_set, wipe_length]; omega), if_neg hl]
        · rw [List.getElem?_set_ne e]
          rcases List.mem_cons.mp hm with z | z
          · exact absurd z.symm e
          · exact ih z
    rw [this σ1 vs hi, this σ2 vs hi, hl]
  · rw [wipe_get hi, wipe_get hi]; exact h i hi
theorem En.wipe (E : En K pr B Hf H g σ) (vs : List Nat) : En K pr B Hf H (wipeG g vs) (wipe σ vs) where
  ex := E.ex
  len := by rw [wipeG_len, wipe_length]; exact E.len
  ok := fun i s e n => by
    obtain ⟨e1, h1⟩ := wipeG_get e n
    obtain ⟨v, e2, h2⟩ := E.ok i s e1 n
    exact ⟨v, by rw [wipe_get h1]; exact e2, h2⟩
  dis := fun i j s t p h1 o1 h2 o2 e1 e2 => E.dis i j s t p (wipeG_get h1 (ow_ne o1)).1 o1 (wipeG_get h2 (ow_ne o2)).1 o2 (e1.imp fun z => (wipe_some z).1) (e2.imp fun z => (wipe_some z).1)
  nb := E.nb
  ob := fun i s p h o e => E.ob i s p (wipeG_get h (ow_ne o)).1 o (wipe_some e).1
  obi := fun i s p h hp => E.obi i s p (wipeG_get h (ow_ne (inn_ow hp))).1 hp
theorem own_wipe {vs : List Nat} {p : Addr} (h : Own (wipeG g vs) (wipe σ vs) p) : Own g σ p := by
  obtain ⟨i, s, e1, o, e2⟩ := h
  exact ⟨i, s, (wipeG_get e1 (ow_ne o)).1, o, e2.imp fun z => (wipe_some z).1⟩
theorem restore_len (g0 : Gh) : ∀ vs, (restore vs g0 g).length = g.length
  | [] => rfl
  | v :: vs => by
    unfold restore
    split
    · rw [List.length_set, restore_len]
    · exact restore_len g0 vs
theorem restore_get (g0 : Gh) (hl : g0.length = g.length) {i : Nat} : ∀ vs, (restore vs g0 g)[i]? = if i ∈ vs then g0[i]? else g[i]?
  | [] => by simp [restore]
  | v :: vs => by
    unfold restore
    have ih := restore_get g0 hl vs (i := i)
    by_cases e : v = i
    · subst e
      cases h : g0[v]? with
      | none =>
        have : g[v]? = none := by
          rw [List.getElem?_eq_none_iff] at h ⊢; omega
        dsimp only
        rw [ih]
        simp [h, this]
      | some s =>
        dsimp only
        rw [List.getElem?_set_self (by rw [restore_len]; have := lt_of_get h; omega)]
        simp
    · have m : (i ∈ v :: vs) ↔ i ∈ vs := by simp [Ne.symm e]
      split
      · rw [List.getElem?_set_ne e, ih]; simp [m]
      · rw [ih]; simp [m]
def compL (vs : List Nat) (tg : Wv → Gh → Option Gh) (ts : MT) (el : ME) : List Da → Gh → Option (List Da × Gh)
  | [], g => some ([], g)
  | d :: ds, g => (tg (.dat d) g).bind fun g1 => (ts g1).bind fun b => if b.1 = true then
      (el b.2).bind fun w => (toD w.1 w.2).bind fun r => (compL vs tg ts el ds (wipeG r.2 vs)).bind fun q => some (r.1 :: q.1, q.2)
    else compL vs tg ts el ds (wipeG b.2 vs)
def mComp (vs : List Nat) (it : MI) (tg : Wv → Gh → Option Gh) (ts : MT) (el : ME) : ME := fun g => (it g).bind fun a => if a.1.length < sizeLine then (compL vs tg ts el a.1 (wipeG a.2 vs)).bind fun r => some (.fresh r.1, restore vs a.2 r.2) else none
def mYes : MT := fun g => some (true, g)
theorem ets_nil : EvTs F pr [] mYes := by
  intro B Hf H g σ b g' Q E eq q
  cases eq
  exact ⟨tYes, fun _ => pts_nil, q Hf H (Stp.refl E)⟩
theorem ets_one {c : Expr} {f : MT} (h : EvT F pr c f) : EvTs F pr [c] f := by
  intro B Hf H g σ b g' Q E eq q
  exact ⟨UT F c, fun i => pts_one (pt_U i), h B Hf H g σ b g' Q E eq q⟩
/-- the state between two turns -/
structure CInv (K : Frag) (pr : List Nat) (B : Addr → Prop) (Hf1 H1 : Hp) (g1 : Gh) (σ : L2.St) (vs : List Nat) (D : Addr) (Hf' H' : Hp) (g' : Gh) (acc : List Da) : Prop where
  env : En K pr B Hf' H' g' (wipe σ vs)
  tr : Tr (Own (wipeG g1 vs) (wipe σ vs)) Hf1 H1 Hf' H'
  sub : ∀ p, Own g' (wipe σ vs) p → Own (wipeG g1 vs) (wipe σ vs) p
  at_ : ∃ xs, H' D = some (.lst xs) ∧ RepAll K Hf' xs acc
  fz : Hf' D = none
  no : ¬ Own g' (wipe σ vs) D
theorem comp_ok {scope : Scope} {vs : List Nat} {tg iter elt : Expr} {ifs : List Expr} {it : MI} {tm : Wv → Gh → Option Gh} {ts : MT} {el : ME} (hi : EvI F pr tg iter it) (hg : EvG (F.blk scope) pr vs tg tm) (ht : EvTs (F.blk scope) pr ifs ts) (he : Ev (F.blk scope) pr elt el)
    {w : Wv} {Q : VK} (E : En F.K pr B Hf H g σ) (eq : mComp vs it tm ts el g = some (w, g')) (q : ∀ v Hf' H', Stp F.K pr B Hf H g σ Hf' H' g' → WOk F.K B Hf' H' g' σ w v → Yng H w v → Q v H') :
    tLc (UI F tg iter) (UG (F.blk scope) tg) (UTs (F.blk scope) ifs) (U (F.blk scope) elt) vs σ H Q := by
  obtain ⟨⟨ds, g1⟩, e1, eq1⟩ := Option.bind_eq_some_iff.mp eq
  dsimp only at eq1
  split at eq1
  · rename_i hlen
    obtain ⟨⟨out, g2⟩, e2, eq2⟩ := Option.bind_eq_some_iff.mp eq1
    cases eq2
    refine hi B Hf H g σ ds g1 _ E e1 fun J Hf1 H1 s1 wk D hD => ?_
    have hfD : Hf1 D = none := s1.env.frz hD
    -- the invariant by the turn
    let Pv : Nat → Hp → Prop := fun i H' => ∃ Hf' g' acc rest, CInv F.K pr B Hf1 H1 g1 σ vs D Hf' H' g' acc ∧ compL vs tm ts el (ds.drop i) g' = some (rest, g2) ∧ acc ++ rest = out ∧ acc.length ≤ i
    refine ⟨fun i m H' => m = ds.length - i ∧ i ≤ ds.length ∧ Pv i H', ⟨ds.length, by simp, Nat.zero_le _, Hf1, wipeG g1 vs, [], out, ⟨?_, ?_, fun _ h => h, ⟨[], upd_same, .nil⟩, hfD, ?_⟩, by rw [List.drop_zero]; exact e2, rfl, Nat.le_refl _⟩, ?_⟩
    · exact (s1.env.wipe vs).mut hD
    · exact Tr.mut hD
    · exact fun z => s1.env.own_none hD (own_wipe z)
    rintro i m H' ⟨rfl, hi, Hf', g', acc, rest, c, er, eo, ha⟩
    have ex1 : Evl.Ex Hf1 Hf' := c.tr.ex
    obtain ⟨go, stop, yld⟩ := wk Hf' H' ex1 c.env.ex
    by_cases hlt : i < ds.length
    · refine .inr ⟨go i hlt, Pv (i + 1), fun H'' p => ⟨ds.length - (i + 1), by omega, rfl, hlt, p⟩, fun x H'' y => ?_⟩
      have hd : ds[i]? = some ds[i] := by simp [hlt]
      rw [List.drop_eq_getElem_cons hlt] at er
      obtain ⟨Hf2, t2, en2, rx⟩ := yld i _ x H'' hd y
      have E2 := en2 pr B g' (wipe σ vs) c.env
      obtain ⟨gt, k1, er1⟩ := Option.bind_eq_some_iff.mp (show ((tm (.dat ds[i]) g').bind _) = some (rest, g2) from er)
      obtain ⟨⟨b, gb⟩, k2, er2⟩ := Option.bind_eq_some_iff.mp er1
      obtain ⟨xs, hxs, rxs⟩ := c.at_
      -- D through the yield
      obtain ⟨hD2, fD2⟩ := t2.keep D _ hxs (fun z => z)
      refine hg B Hf2 H'' g' (wipe σ vs) (.dat ds[i]) x gt _ E2 rx k1 fun σ3 Hf3 H3 s3 => ?_
      have nD3 : ¬ Own gt σ3 D := fun z => by
        rcases s3.sub D z with z | ⟨⟨_, z⟩, _⟩
        · exact c.no z
        · cases z
      obtain ⟨hD3, fD3⟩ := s3.tr.keep D _ hD2 c.no
      have wl : wipe σ3 vs = wipe σ vs := by
        rw [wipe_eq (σ1 := σ3) (σ2 := wipe σ vs) ?_ s3.oth]
        · rw [wipe_eq (σ1 := wipe σ vs) (σ2 := σ) (by rw [wipe_length]) fun i hi => wipe_get hi]
        · exact s3.slen
      refine ⟨wl, ?_⟩
      refine ht B Hf3 H3 gt σ3 b gb _ s3.env k2 fun Hf4 H4 s4 => ?_
      obtain ⟨hD4, fD4⟩ := s4.tr.keep D _ hD3 nD3
      have nD4 : ¬ Own gb σ3 D := fun z => nD3 (s4.sub D z)
      -- from the block's start to here
      have sub3 : ∀ p, Own gt σ3 p → Own (wipeG g1 vs) (wipe σ vs) p := fun p z => by
        rcases s3.sub p z with z | ⟨⟨_, z⟩, _⟩
        · exact c.sub p z
        · cases z
      have sub4 : ∀ p, Own gb σ3 p → Own (wipeG g1 vs) (wipe σ vs) p := fun p z => sub3 p (s4.sub p z)
      have T4 : Tr (Own (wipeG g1 vs) (wipe σ vs)) Hf1 H1 Hf4 H4 := ((c.tr.trans' t2 fun p z => z.elim).trans' s3.tr c.sub).trans' s4.tr sub3
      have e0 : ∀ {Hx : Hp}, Evl.Ex Hf2 Hx → Evl.Ex Hf' Hx := fun z => t2.ex.trans z
      cases b with
      | false =>
        dsimp only at er2
        rw [if_neg Bool.false_ne_true] at er2
        show if false = true then _ else Pv (i + 1) H4
        rw [if_neg Bool.false_ne_true]
        refine ⟨Hf4, wipeG gb vs, acc, rest, ⟨?_, T4, fun p z => ?_, ⟨xs, hD4, rxs.mono (e0 (s3.tr.ex.trans s4.tr.ex))⟩, ?_, fun z => ?_⟩, er2, eo, by omega⟩
        · have := s4.env.wipe vs
          rw [wl] at this; exact this
        · rw [← wl] at z; exact sub4 p (own_wipe z)
        · rw [fD4, fD3, fD2]; exact c.fz
        · rw [← wl] at z; exact nD4 (own_wipe z)
      | true =>
        dsimp only at er2
        rw [if_pos rfl] at er2
        rw [if_pos rfl]
        obtain ⟨⟨we, ge⟩, k3, er3⟩ := Option.bind_eq_some_iff.mp er2
        obtain ⟨⟨d, gr⟩, k4, er4⟩ := Option.bind_eq_some_iff.mp er3
        obtain ⟨⟨rest', g3⟩, k5, er5⟩ := Option.bind_eq_some_iff.mp er4
        cases er5
        refine he B Hf4 H4 gb σ3 we ge _ s4.env k3 fun y' Hf5 H5 s5 w5 y5 => ?_
        obtain ⟨Hf6, s6, r6⟩ := s5.toD y5 w5 k4
        obtain ⟨hD6, fD6⟩ := s6.tr.keep D _ hD4 nD4
        have nD6 : ¬ Own gr σ3 D := fun z => nD4 (s6.sub D z)
        have fD : Hf6 D = none := by rw [fD6, fD4, fD3, fD2]; exact c.fz
        have T6 := T4.trans' s6.tr sub4
        have la := rxs.length
        refine ⟨xs, hD6, by omega, Hf6, wipeG gr vs, acc ++ [d], rest', ⟨?_, ⟨T6.ex, fun p o hp no => ?_, fun p hp => T6.stay p (upd_none hp)⟩, fun p z => ?_, ⟨xs ++ [y'], upd_same, ?_⟩, fD, fun z => ?_⟩, k5, by rw [← eo]; simp, by simp; omega⟩
        · have := (s6.env.put (o := .lst (xs ++ [y'])) fD nD6).wipe vs
          rw [wl] at this; exact this
        · obtain ⟨k1, k2⟩ := T6.keep p o hp no
          exact ⟨by rw [upd_ne (ne_of_none hp hD)]; exact k1, k2⟩
        · rw [← wl] at z; exact sub4 p (s6.sub p (own_wipe z))
        · exact (rxs.mono (e0 (s3.tr.ex.trans (s4.tr.ex.trans s6.tr.ex)))).append (.cons r6 .nil)
        · rw [← wl] at z; exact nD6 (own_wipe z)
    · have e : i = ds.length := by omega
      subst e
      refine .inl ⟨stop, ?_⟩
      rw [List.drop_length] at er
      cases er
      rw [List.append_nil] at eo
      subst eo
      obtain ⟨xs, hxs, rxs⟩ := c.at_
      have gl : g1.length = g2.length := by
        have h1 := s1.env.len
        have h2 := c.env.len
        rw [wipe_length] at h2; omega
      have apart : ∀ (i : Nat) (s : Sl) p, i ∈ vs → g1[i]? = some s → s.ow = true → At s σ[i]? p → ¬ Own (wipeG g1 vs) (wipe σ vs) p := fun i s p hi h1 o1 h2 z => by
        obtain ⟨j, t, e1, o2, e2⟩ := z
        obtain ⟨e1, nj⟩ := wipeG_get e1 (ow_ne o2)
        have := s1.env.dis i j s t p h1 o1 e1 o2 h2 (e2.imp fun z => (wipe_some z).1)
        exact nj (this ▸ hi)
      have own_r : ∀ p, Own (restore vs g1 g2) σ p → Own g1 σ p := fun p ⟨i, s, e1, o1, e2⟩ => by
        rw [restore_get g1 gl] at e1
        split at e1
        · exact ⟨i, s, e1, o1, e2⟩
        · rename_i hi
          exact own_wipe (c.sub p ⟨i, s, e1, o1, by rw [wipe_get hi]; exact e2⟩)
      have er : En F.K pr B Hf' H' (restore vs g1 g2) σ := by
        refine ⟨c.env.ex, by rw [restore_len, ← gl]; exact s1.env.len, fun i s e n => ?_, fun i j es fs p h1 o1 h2 o2 e1 e2 => ?_, c.env.nb, fun i es p h1 o1 e1 => ?_, fun i es p h1 hp => ?_⟩
        · rw [restore_get g1 gl] at e
          split at e
          · rename_i hi
            obtain ⟨v, e1, so⟩ := s1.env.ok i s e n
            refine ⟨v, e1, ?_⟩
            exact so.stay c.tr.ex fun p u o z h2 h1 => by
              obtain ⟨k1, k2⟩ := c.tr.keep p _ h2 (apart i s p hi e o (by rw [e1]; exact z))
              exact ⟨k1, k2.trans h1⟩
          · rename_i hi
            obtain ⟨v, e1, so⟩ := c.env.ok i s e n
            exact ⟨v, by rw [wipe_get hi] at e1; exact e1, so⟩
        · rw [restore_get g1 gl] at h1 h2
          split at h1
          · rename_i hi
            split at h2
            · exact s1.env.dis i j es fs p h1 o1 h2 o2 e1 e2
            · rename_i hj
              exact (apart i es p hi h1 o1 e1 (c.sub p ⟨j, fs, h2, o2, by rw [wipe_get hj]; exact e2⟩)).elim
          · rename_i hi
            split at h2
            · rename_i hj
              exact (apart j fs p hj h2 o2 e2 (c.sub p ⟨i, es, h1, o1, by rw [wipe_get hi]; exact e1⟩)).elim
            · rename_i hj
              exact c.env.dis i j es fs p h1 o1 h2 o2 (by rw [wipe_get hi]; exact e1) (by rw [wipe_get hj]; exact e2)
        · rw [restore_get g1 gl] at h1
          split at h1
          · exact s1.env.ob i es p h1 o1 e1
          · rename_i hi
            exact c.env.ob i es p h1 o1 (by rw [wipe_get hi]; exact e1)
        · rw [restore_get g1 gl] at h1
          split at h1
          · exact s1.env.obi i es p h1 hp
          · exact c.env.obi i es p h1 hp
      refine q _ Hf' H' ⟨s1.tr.trans' c.tr fun p z => s1.sub p (own_wipe z), er, fun p z => s1.sub p (own_r p z)⟩ ⟨D, xs, rfl, s1.env.nb D hD, c.fz, hxs, rxs, fun z => ?_⟩ (fun _ _ p e => by cases e; exact s1.tr.stay _ hD)
      exact s1.env.own_none hD (own_r D z)
  · cases eq1
theorem ev_comp {scope : Scope} {own : List (Str × Nat)} {tg iter elt : Expr} {ifs : List Expr} {it : MI} {tm : Wv → Gh → Option Gh} {ts : MT} {el : ME} {pos : Pos} (hc : ∀ i, (F.X i).calm = true) (hN : ∀ i, (F.X i).N.Nodup) (ok : ∀ i, BlkOk (F.X i).N (F.X i).env.scope scope own)
    (hi : EvI F pr tg iter it) (hg : EvG (F.blk scope) pr (own.map (·.2)) tg tm) (ht : EvTs (F.blk scope) pr ifs ts) (he : Ev (F.blk scope) pr elt el) (hs : ∀ i, ∀ x, foldedSetIterable iter (F.X i).env x = pure x := by intro _ _; rfl) :
    Ev F pr (.ListComp elt [⟨tg, iter, ifs, 0⟩] scope pos) (mComp (own.map (·.2)) it tm ts el) := by
  intro B Hf H g σ w g' Q E eq q
  exact ⟨_, fun i => pe_lc (hc i) (hN i) (pi_U i) (ok i) (fun s H C cl fp => pg_U (F := F.blk scope) (i, s, H, C, cl, fp)) (fun s H C cl fp => pts_U (F := F.blk scope) (i, s, H, C, cl, fp)) (fun s H C cl fp => pe_U (F := F.blk scope) (i, s, H, C, cl, fp)) (hs i), comp_ok hi hg ht he E eq q⟩
end
end EV
end
section
set_option maxHeartbeats 2000000
set_option autoImplicit false
namespace EV
open PySem PySem.Spec PyProof.Rows L2
section
variable {F : Fam} {pr : List Nat} {B : Addr → Prop} {Hf H Hf' H' Hf1 H1 Hf2 H2 : Hp} {g g' g1 g2 : Gh} {σ σ' σ1 σ2 : L2.St} {K : Frag}
/-! ### statements -/
theorem FlOk.step {D : Ends} {fl : Fl} : FlOk K B Hf H g σ D fl → FlOk K B Hf H g σ D fl := id
def sNil : MS := fun g => some (.nx, g)
def sSeq (f h : MS) : MS := fun g => (f g).bind fun a => match a.1 with
  | .nx => h a.2
  | fl => some (fl, a.2)
theorem ss_nil : EvSs F pr [] sNil := by
  intro B Hf H g σ fl g' D E eq q
  cases eq
  exact ⟨tNext, fun _ => pss_nil, q σ Hf H (SStp.refl E)⟩
theorem ss_one {st : Stmt} {f : MS} (h : EvS F pr st f) : EvSs F pr [st] f := by
  intro B Hf H g σ fl g' D E eq q
  exact ⟨US F st, fun i => pss_one (ps_U i), h B Hf H g σ fl g' D E eq q⟩
theorem ss_cons {st : Stmt} {r : List Stmt} {f h : MS} (h1 : EvS F pr st f) (h2 : EvSs F pr r h) : EvSs F pr (st :: r) (sSeq f h) := by
  intro B Hf H g σ fl g' D E eq q
  obtain ⟨⟨fl1, g1⟩, e1, eq1⟩ := Option.bind_eq_some_iff.mp eq
  refine ⟨tSeq (US F st) (USs F r), fun i => pss_cons (ps_U i) (pss_U i), ?_⟩
  refine h1 B Hf H g σ fl1 g1 _ E e1 fun σ1 Hf1 H1 s1 => ?_
  cases fl1 with
  | nx => exact h2 B Hf1 H1 g1 σ1 fl g' D s1.env eq1 fun σ2 Hf2 H2 s2 => q σ2 Hf2 H2 (s1.trans s2)
  | rt w => cases eq1; exact q σ1 Hf1 H1 s1
  | bk => cases eq1; exact q σ1 Hf1 H1 s1
  | ct => cases eq1; exact q σ1 Hf1 H1 s1
def sBrk : MS := fun g => some (.bk, g)
def sCnt : MS := fun g => some (.ct, g)
/-- code that is never come to -/
def sNo : MS := fun _ => none
theorem s_never {st : Stmt} : EvS F pr st sNo := by
  intro B Hf H g σ fl g' D E eq q
  cases eq
def sDrop (f : ME) : MS := fun g => (f g).bind fun a => some (.nx, a.2)
theorem s_expr {e : Expr} {f : ME} {pos : Pos} (h : Ev F pr e f) (hs : ∀ i, swapsWith e none pos.line (F.X i).env = pure false := by intro _; rfl) : EvS F pr (.Expr e pos) (sDrop f) := by
  intro B Hf H g σ fl g' D E eq q
  obtain ⟨⟨w, g1⟩, e1, eq1⟩ := Option.bind_eq_some_iff.mp eq
  cases eq1
  refine ⟨tDrop (U F e), fun i => ps_expr (pe_U i) (hs i), ?_⟩
  exact h B Hf H g σ w _ _ E e1 fun v Hf1 H1 s1 w1 y1 => q σ Hf1 H1 s1.s
def sRet (pr : List Nat) (f : ME) : MS := fun g => (f g).bind fun a => match a.1 with
  | .slot i => if pr.contains i then (toD (.slot i) a.2).bind fun r => some (.rt (.dat r.1), r.2) else match a.2[i]? with
    | some (.own ds) => some (.rt (.fresh ds), a.2.set i .un)
    | some (.val d) => some (.rt (.dat d), a.2)
    | _ => none
  | w => some (.rt w, a.2)
theorem s_ret {e : Expr} {f : ME} {pos : Pos} (h : Ev F pr e f) : EvS F pr (.Return (some e) pos) (sRet pr f) := by
  intro B Hf H g σ fl g' D E eq q
  obtain ⟨⟨w, g1⟩, e1, eq1⟩ := Option.bind_eq_some_iff.mp eq
  refine ⟨tRet (U F e), fun i => ps_ret (pe_U i), ?_⟩
  refine h B Hf H g σ w g1 _ E e1 fun v Hf1 H1 s1 w1 y1 => ?_
  cases w with
  | dat d => cases eq1; exact q σ Hf1 H1 s1.s v w1 (fun _ z => nomatch z)
  | fresh ds => cases eq1; exact q σ Hf1 H1 s1.s v w1 (fun _ z => nomatch z)
  | raw x => cases eq1; exact q σ Hf1 H1 s1.s v w1 (fun _ z => nomatch z)
  | slot i =>
    dsimp only at eq1
    split at eq1
    · obtain ⟨⟨d, g2⟩, e2, eq2⟩ := Option.bind_eq_some_iff.mp eq1
      cases eq2
      obtain ⟨Hf2, s2, r⟩ := s1.toD y1 w1 e2
      exact q σ Hf2 H1 s2.s v r (fun _ z => nomatch z)
    · rename_i hp
      cases hg : g1[i]? with
      | none => rw [hg] at eq1; cases eq1
      | some sl =>
        rw [hg] at eq1
        have w1 : σ[i]? = some (some v) := w1
        cases sl with
        | own ds =>
          cases eq1
          obtain ⟨p, us, e3, k1, k2, k3, ow⟩ := s1.env.own_val hg
          rw [w1] at e3; cases e3
          have hb : B p := by
            rcases s1.env.ob i _ p hg rfl w1 with z | z
            · exact absurd (List.contains_iff_mem.mpr z) hp
            · exact z
          refine q σ Hf1 H1 ⟨s1.tr, s1.env.drop i, fun p z => .inl (s1.sub p (own_drop z)), fun _ _ => rfl⟩ _ ⟨p, us, rfl, hb, k2, k1, k3, s1.env.not_own_drop hg w1⟩ (fun _ z => nomatch z)
        | val d =>
          cases eq1
          obtain ⟨v', e3, r⟩ := s1.env.ok i _ hg (by simp)
          rw [w1] at e3; cases e3
          exact q σ Hf1 H1 s1.s v r (fun _ z => nomatch z)
        | un => cases eq1
        | raw x => cases eq1
        | dic t es => cases eq1
        | tab t es => cases eq1
        | grp t es => cases eq1
        | rg a b => cases eq1
def sRetN : MS := fun g => some (.rt (.dat .none), g)
def sIf (t : MT) (f h : MS) : MS := fun g => (t g).bind fun a => if a.1 = true then f a.2 else h a.2
theorem s_if {t : Expr} {a b : List Stmt} {ft : MT} {f h : MS} {pos : Pos} (ht : EvT F pr t ft) (ha : EvSs F pr a f) (hb : EvSs F pr b h) : EvS F pr (.If t a b pos) (sIf ft f h) := by
  intro B Hf H g σ fl g' D E eq q
  obtain ⟨⟨k, g1⟩, e1, eq1⟩ := Option.bind_eq_some_iff.mp eq
  refine ⟨tIfS (UT F t) (USs F a) (USs F b), fun i => ps_if (pt_U i) (pss_U i) (pss_U i), ?_⟩
  refine ht B Hf H g σ k g1 _ E e1 fun Hf1 H1 s1 => ?_
  cases k with
  | true => exact ha B Hf1 H1 g1 σ fl g' D s1.env eq1 fun σ2 Hf2 H2 s2 => q σ2 Hf2 H2 (s1.s.trans s2)
  | false => exact hb B Hf1 H1 g1 σ fl g' D s1.env eq1 fun σ2 Hf2 H2 s2 => q σ2 Hf2 H2 (s1.s.trans s2)
/-- x = e -/
def sSet (i : Nat) (f : ME) : MS := fun g => (f g).bind fun a => (setN i a.1 a.2).bind fun g' => some (.nx, g')
theorem set_sstp {w : Wv} {v : V} {vs : List Nat} (s : Stp K pr B Hf H g σ Hf1 H1 g1) (y : Yng H w v) (t : GStp K pr B vs w v Hf1 H1 g1 σ Hf2 H2 g2 σ2) : SStp K pr B Hf H g σ Hf2 H2 g2 σ2 :=
  ⟨s.tr.trans' t.tr s.sub, t.env, fun p z => by
    rcases t.sub p z with z | ⟨⟨ds, z⟩, z2⟩
    · exact .inl (s.sub p z)
    · exact .inr (y ds z p z2), t.prk⟩
theorem s_set (i : Nat) {x : Str} {e : Expr} {f : ME} {pos pos' : Pos} (h : Ev F pr e f) (hN : ∀ j, (F.X j).N.Nodup) (hi : ∀ j, (F.X j).N[i]? = some x := by intro _; rfl) (hx : ∀ j, Loc (F.X j).env.scope x := by intro _; first | exact Or.inl rfl | exact Or.inr rfl)
    (hs : ∀ j, swapsWith e (some (.Name x pos')) pos.line (F.X j).env = pure false := by intro _; rfl) (hf : ∀ j, (F.X j).fn x = true ∨ (F.X j).env.scope.names.lookup x = some .local := by intro _; first | exact .inl rfl | exact .inr rfl) (hp : i ∉ pr := by decide) :
    EvS F pr (.Assign [.Name x pos'] e pos) (sSet i f) := by
  intro B Hf H g σ fl g' D E eq q
  obtain ⟨⟨w, g1⟩, e1, eq1⟩ := Option.bind_eq_some_iff.mp eq
  obtain ⟨g2, e2, eq2⟩ := Option.bind_eq_some_iff.mp eq1
  cases eq2
  refine ⟨tAsg (U F e) (gName i), fun j => ps_set (hN j) (hi j) (hx j) (pe_U j) (hs j) (hf j), ?_⟩
  refine h B Hf H g σ w g1 _ E e1 fun v Hf1 H1 s1 w1 y1 => ?_
  obtain ⟨Hf2, t⟩ := setN_ok s1.env w1 e2 hp
  exact q _ Hf2 H1 (set_sstp s1 y1 t)
/-- y = [.. for ..], y a local: stored within -/
theorem s_setLc (i : Nat) {y : Str} {scope : Scope} {own : List (Str × Nat)} {tg iter elt : Expr} {ifs : List Expr} {it : MI} {tm : Wv → Gh → Option Gh} {ts : MT} {el : ME} {pos spos py : Pos} (hc : ∀ i, (F.X i).calm = true) (hN : ∀ i, (F.X i).N.Nodup) (ok : ∀ i, BlkOk (F.X i).N (F.X i).env.scope scope own)
    (hi : EvI F pr tg iter it) (hg : EvG (F.blk scope) pr (own.map (·.2)) tg tm) (ht : EvTs (F.blk scope) pr ifs ts) (he : Ev (F.blk scope) pr elt el)
    (hy : ∀ j, (F.X j).N[i]? = some y := by intro _; rfl) (hyl : ∀ j, (F.X j).env.scope.names.lookup y = some .local := by intro _; rfl) (hsw : ∀ j, swapsWith (.ListComp elt [⟨tg, iter, ifs, 0⟩] scope pos) (some (.Name y py)) spos.line (F.X j).env = pure true := by intro _; exact sw_true rfl rfl rfl (by decide +kernel))
    (hs : ∀ i, ∀ x, foldedSetIterable iter (F.X i).env x = pure x := by intro _ _; rfl) (hp : i ∉ pr := by decide) :
    EvS F pr (.Assign [.Name y py] (.ListComp elt [⟨tg, iter, ifs, 0⟩] scope pos) spos) (sSet i (mComp (own.map (·.2)) it tm ts el)) := by
  intro B Hf H g σ fl g' D E eq q
  obtain ⟨⟨w, g1⟩, e1, eq1⟩ := Option.bind_eq_some_iff.mp eq
  obtain ⟨g2, e2, eq2⟩ := Option.bind_eq_some_iff.mp eq1
  cases eq2
  refine ⟨_, fun j => ps_setLc (hc j) (hN j) (hy j) (hyl j) (hsw j) (pi_U j) (ok j) (fun s H C cl fp => pg_U (F := F.blk scope) (j, s, H, C, cl, fp)) (fun s H C cl fp => pts_U (F := F.blk scope) (j, s, H, C, cl, fp)) (fun s H C cl fp => pe_U (F := F.blk scope) (j, s, H, C, cl, fp)) (hs j), ?_⟩
  refine comp_ok (Q := fun x H1 => gName i x σ H1 D.nx) hi hg ht he E e1 fun v Hf1 H1 s1 w1 y1 => ?_
  obtain ⟨Hf2, t⟩ := setN_ok s1.env w1 e2 hp
  exact q _ Hf2 H1 (set_sstp s1 y1 t)
/-- target = e, a target of names -/
def sAsg (f : ME) (m : Wv → Gh → Option Gh) : MS := fun g => (f g).bind fun a => (m a.1 a.2).bind fun g' => some (.nx, g')
/-- a, b, .. = x, y, .. -/
def sPar (is : List Nat) (fa : MA) : MS := fun g => (fa g).bind fun a => (setNs is a.1 a.2).bind fun g' => some (.nx, g')
theorem par_sstp {ws : List Wv} {us : List V} {is : List Nat} (s : Stp K pr B Hf H g σ Hf1 H1 g1) (y : YAll H ws us) (E2 : En K pr B Hf1 H1 g2 σ2) (o : ∀ p, Own g2 σ2 p → Own g1 σ p ∨ ∃ (i : Nat) (ds : List Da), ws[i]? = some (.fresh ds) ∧ us[i]? = some (.ref p)) (pk : ∀ i ∈ pr, σ2[i]? = σ[i]?) : SStp K pr B Hf H g σ Hf1 H1 g2 σ2 :=
  ⟨s.tr, E2, fun p z => by
    rcases o p z with z | ⟨i, ds, z, z2⟩
    · exact .inl (s.sub p z)
    · refine .inr ?_
      have go : ∀ {ws : List Wv} {us : List V} {i : Nat}, YAll H ws us → ws[i]? = some (.fresh ds) → us[i]? = some (.ref p) → H p = none := by
        intro ws us i y
        induction y generalizing i with
        | nil => intro h; simp at h
        | cons a b ih =>
          intro h h2
          cases i with
          | zero => simp at h h2; exact a ds h p h2
          | succ i => exact ih (by simpa using h) (by simpa using h2)
      exact go y z z2, pk⟩
theorem s_parT (is : List Nat) {es : List Expr} {tes : List Expr} {fa : MA} {pt pos : Pos} {kt k2 pt2} (ha : EvA F pr es fa) (hc : ∀ q, (F.X q).calm = true) (h : ∀ i, PGs (F.X i) tes (gNames is)) (hn : ∀ i, (assignEach tes (F.X i).env).length = is.length := by intro _; rfl) (hst : ∀ i, (assignEach tes (F.X i).env).findIdx? (·.1) = none := by intro _; rfl)
    (hs : ∀ j, swapsWithSole [.Tuple tes kt pt] (.Tuple es k2 pt2) pos.line (F.X j).env = pure false := by intro _; rfl) (hw : ∀ j, swappedStores [.Tuple tes kt pt] (.Tuple es k2 pt2) (F.X j).env = pure none := by intro _; rfl)
    (h1 : ∀ j, (assignEach [.Tuple tes kt pt] (F.X j).env).map (·.2) = [assign (.Tuple tes kt pt) (F.X j).env] := by intro _; rfl) (hp : ∀ q ∈ is, q ∉ pr := by decide) (hlen : is.length ≤ 1000 := by decide) :
    EvS F pr (.Assign [.Tuple tes kt pt] (.Tuple es k2 pt2) pos) (sPar is fa) := by
  intro B Hf H g σ fl g' D E eq q
  obtain ⟨⟨ws, g1⟩, e1, eq1⟩ := Option.bind_eq_some_iff.mp eq
  obtain ⟨g2, e2, eq2⟩ := Option.bind_eq_some_iff.mp eq1
  cases eq2
  refine ⟨tAsg (tTup (UA F es)) (gTup F.K is.length (gNames is)), fun j => ps_asg (pe_tup (pa_U j)) (by have z := pg_tup (hc j) (h j) (hn j) (hst j) (k := kt) (pos := pt); rw [F.hK j] at z; exact z) (hs j) (hw j) (h1 j), ?_⟩
  refine ha B Hf H g σ ws g1 _ E e1 fun vs Hf1 H1 s1 w1 y1 => ?_
  have hl : vs.length = is.length := (wall_len w1).symm.trans (setNs_len e2)
  refine ⟨Nat.le_trans (by rw [hl]; exact hlen) (by decide : 1000 ≤ sizeLine), fun p hp1 => ⟨p, vs, rfl, .inl (.inl upd_same), hl, ?_⟩⟩
  have s2 : Stp F.K pr B Hf1 H1 g1 σ Hf1 (upd H1 p (.tup vs)) g1 := ⟨Tr.mut hp1, s1.env.mut hp1, fun _ h => h⟩
  exact setNs_ok (D := fun σ' H' => D.nx σ' H') s2.env (w1.step s1.env s2) e2 hp fun σ' E' o p2 t2 l2 => q σ' Hf1 _ (par_sstp (is := is) (s1.trans s2) y1 E' o p2)
where
  wall_len {B : Addr → Prop} {Hf H : Hp} {g : Gh} {σ : L2.St} {ws : List Wv} {vs : List V} (h : WAll F.K B Hf H g σ ws vs) : ws.length = vs.length := by
    induction h with
    | nil => rfl
    | cons a b c ih => simp [ih]
  setNs_len : ∀ {is : List Nat} {ws : List Wv} {g g' : Gh}, setNs is ws g = some g' → ws.length = is.length
    | [], [], _, _, _ => rfl
    | i :: is, w :: ws, g, g', e => by
      obtain ⟨s, e1, e⟩ := Option.bind_eq_some_iff.mp (show ((slOf w).bind fun s => if i < g.length then setNs is ws (g.set i s) else none) = some g' from e)
      split at e
      · simp [setNs_len e]
      · cases e
    | [], _ :: _, _, _, e => by cases e
    | _ :: _, [], _, _, e => by cases e
/-! ### lists that a name owns -/
/-- an owned list changed -/
theorem En.change (E : En K pr B Hf H g σ) {i : Nat} {ds es : List Da} {p : Addr} {us : List V} (h : g[i]? = some (.own ds)) (e : σ[i]? = some (some (.ref p))) (r : RepAll K Hf us es) : En K pr B Hf (upd H p (.lst us)) (g.set i (.own es)) σ := by
  obtain ⟨p', vs', e1, h1, h2, h3, ow⟩ := E.own_val h
  rw [e] at e1; cases e1
  have n := E.not_own_drop h e
  have E1 := (E.drop i).put (o := .lst us) h2 n
  have E2 := E1.put_slot (i := i) (s := .own es) e ⟨p, us, rfl, h2, upd_same, r⟩ (fun ds' _ q z => by cases z; exact ⟨by rw [List.set_set]; exact n, E.ob i _ p h rfl e⟩)
  rw [List.set_set] at E2
  exact E2
theorem own_change {i : Nat} {ds es : List Da} {p q : Addr} (h : g[i]? = some (.own ds)) (e : σ[i]? = some (some (.ref p))) (z : Own (g.set i (.own es)) σ q) : Own g σ q := by
  rcases own_put z with z | ⟨_, _, z⟩
  · exact own_drop z
  · rw [e] at z; cases z; exact ⟨i, _, h, rfl, .inl e⟩
theorem Stp.change (s : Stp K pr B Hf H g σ Hf1 H1 g1) {i : Nat} {ds es : List Da} {p : Addr} {us : List V} (h : g1[i]? = some (.own ds)) (e : σ[i]? = some (some (.ref p))) (r : RepAll K Hf1 us es) : Stp K pr B Hf H g σ Hf1 (upd H1 p (.lst us)) (g1.set i (.own es)) := by
  have ow : Own g σ p := s.sub p ⟨i, _, h, rfl, .inl e⟩
  refine ⟨⟨s.tr.ex, fun q o hq no => ?_, fun q hq => s.tr.stay q (upd_none hq)⟩, s.env.change h e r, fun q z => s.sub q (own_change h e z)⟩
  obtain ⟨k1, k2⟩ := s.tr.keep q o hq no
  exact ⟨by rw [upd_ne (fun z => no (by subst z; exact ow))]; exact k1, k2⟩
/-- xs.append(e) -/
def sApp (i : Nat) (f : ME) : MS := fun g => match g[i]? with
  | some (.own _) => (f g).bind fun a => (toD a.1 a.2).bind fun r => match r.2[i]? with
    | some (.own ds) => if ds.length < sizeLine then some (.nx, r.2.set i (.own (ds ++ [r.1]))) else none
    | _ => none
  | _ => none
/-- xs.pop(), its value dropped or taken -/
def mPop (i : Nat) : ME := fun g => match g[i]? with
  | some (.own ds) => (ds.getLast?).bind fun d => some (.dat d, g.set i (.own ds.dropLast))
  | _ => none
/-- xs[j] = e -/
def sSetIx (i : Nat) (f fi : ME) : MS := fun g => (f g).bind fun a => (toD a.1 a.2).bind fun r => match r.2[i]? with
  | some (.own _) => (fi r.2).bind fun b => (look b.1 b.2).bind fun y => match y, b.2[i]? with
    | .int k, some (.own ds) => (ixN ds.length k).bind fun j => some (.nx, b.2.set i (.own (ds.set j r.1)))
    | _, _ => none
  | _ => none
theorem s_setix (i : Nat) {x : Str} {e ie : Expr} {f fi : ME} {p1 tpos pos : Pos} (h : Ev F pr e f) (hi : Ev F pr ie fi) (hN : ∀ j, (F.X j).N[i]? = some x := by intro _; rfl) (hv : ∀ j, Vis (F.X j).env.scope x := by intro _; first | exact Or.inl rfl | exact Or.inr (Or.inl rfl) | exact Or.inr (Or.inr rfl))
    (hps : ∀ (t ti : TE), (∀ j, PE (F.X j) e t) → (∀ j, PE (F.X j) ie ti) → ∀ j, PS (F.X j) (.Assign [.Subscript (.Name x p1) ie tpos] e pos) (tAsg t (gSub (tVar i) ti rSetL)) := by
      intro t ti ht hti j
      exact ps_asg (ht j) (pg_sub (pv _) (hti j) set_list)) : EvS F pr (.Assign [.Subscript (.Name x p1) ie tpos] e pos) (sSetIx i f fi) := by
  intro B Hf H g σ fl g' D E eq q
  obtain ⟨⟨w, g1⟩, e1, eq1⟩ := Option.bind_eq_some_iff.mp eq
  obtain ⟨⟨d, g2⟩, e2, eq2⟩ := Option.bind_eq_some_iff.mp eq1
  dsimp only at eq2
  split at eq2
  · rename_i ds0 hg0
    obtain ⟨⟨wb, g3⟩, e3, eq3⟩ := Option.bind_eq_some_iff.mp eq2
    obtain ⟨y, e4, eq4⟩ := Option.bind_eq_some_iff.mp eq3
    dsimp only at eq4
    split at eq4
    · rename_i k ds hg
      obtain ⟨j, e5, eq5⟩ := Option.bind_eq_some_iff.mp eq4
      cases eq5
      refine ⟨tAsg (U F e) (gSub (tVar i) (U F ie) rSetL), fun q => hps _ _ (fun q => pe_U q) (fun q => pe_U q) q, ?_⟩
      refine h B Hf H g σ w g1 _ E e1 fun v Hf1 H1 s1 w1 y1 => ?_
      obtain ⟨Hf2, s2, r⟩ := s1.toD y1 w1 e2
      obtain ⟨p, us0, k0, k1, k2, k3, _⟩ := s2.env.own_val hg0
      refine ⟨.ref p, k0, ?_⟩
      refine hi B Hf2 H1 g2 σ wb _ _ s2.env e3 fun u Hf3 H3 s3 w3 y3 => ?_
      obtain ⟨p', us, k4, k5, k6, k7, _⟩ := s3.env.own_val hg
      rw [k0] at k4; cases k4
      have l := look_ok s3.env w3 e4
      have hu := RL.int (Hf := Hf3) l
      subst hu
      refine ⟨p, us, k, j, rfl, rfl, k5, by rw [k7.length]; exact e5, ?_⟩
      exact q σ Hf3 _ ((s2.trans s3).change hg k0 (k7.set j (r.mono s3.tr.ex))).s
    · cases eq4
  · cases eq2
/-- x += e, x -= e: ints -/
def sAug (i : Nat) (h : Int → Int → Int) (f : ME) : MS := fun g => match g[i]? with
  | some (.val (.int a)) => (f g).bind fun b => (look b.1 b.2).bind fun y => match y with
    | .int k => if i < b.2.length then some (.nx, b.2.set i (.val (.int (h a k)))) else none
    | _ => none
  | _ => none
/-! ### loops -/
def forL (tg : Wv → Gh → Option Gh) (body : MS) : List Da → Gh → Option (Fl × Gh)
  | [], g => some (.nx, g)
  | d :: ds, g => (tg (.dat d) g).bind fun g1 => (body g1).bind fun a => match a.1 with
    | .nx => forL tg body ds a.2
    | .ct => forL tg body ds a.2
    | .bk => some (.nx, a.2)
    | .rt w => some (.rt w, a.2)
def sFor (it : MI) (tg : Wv → Gh → Option Gh) (body : MS) : MS := fun g => (it g).bind fun a => forL tg body a.1 a.2
theorem s_for {tg iter : Expr} {body : List Stmt} {it : MI} {tm : Wv → Gh → Option Gh} {fb : MS} {vs : List Nat} {pos : Pos} (hp : ∀ i, PassesOwn (model (F.X i).prog (F.X i).w) (F.X i).A (F.X i).env (F.X i).xe) (hc : ∀ i, (F.X i).calm = true) (hi : EvI F pr tg iter it) (hg : EvG F pr vs tg tm) (hb : EvSs F pr body fb)
    (hs : ∀ i, ∀ x, foldedSetIterable iter (F.X i).env x = pure x := by intro _ _; rfl) : EvS F pr (.For tg iter body [] pos) (sFor it tm fb) := by
  intro B Hf H g σ fl g' D E eq q
  obtain ⟨⟨ds, g1⟩, e1, e2⟩ := Option.bind_eq_some_iff.mp eq
  refine ⟨tFor (UI F tg iter) (UG F tg) (USs F body), fun i => ps_for (hp i) (hc i) (pi_U i) (pg_U i) (pss_U i) (hs i), ?_⟩
  refine hi B Hf H g σ ds g1 _ E e1 fun J Hf1 H1 s1 wk => ?_
  let Pv : Nat → L2.St → Hp → Prop := fun i σ' H' => ∃ Hf' g'', SStp F.K pr B Hf H g σ Hf' H' g'' σ' ∧ Evl.Ex Hf1 Hf' ∧ forL tm fb (ds.drop i) g'' = some (fl, g')
  refine ⟨fun i m σ' H' => m = ds.length - i ∧ i ≤ ds.length ∧ Pv i σ' H', ⟨ds.length, by simp, Nat.zero_le _, Hf1, g1, s1.s, Evl.Ex.refl _, by rw [List.drop_zero]; exact e2⟩, ?_⟩
  rintro i m σ' H' ⟨rfl, hi', Hf', g'', s, ex, er⟩
  obtain ⟨go, stop, yld⟩ := wk Hf' H' ex s.env.ex
  by_cases hlt : i < ds.length
  · refine .inr ⟨go i hlt, Pv (i + 1), fun σ2 H2 p => ⟨ds.length - (i + 1), by omega, rfl, hlt, p⟩, fun x H'' y => ?_⟩
    have hd : ds[i]? = some ds[i] := by simp [hlt]
    rw [List.drop_eq_getElem_cons hlt] at er
    obtain ⟨Hf2, t2, en2, rx⟩ := yld i _ x H'' hd y
    have E2 := en2 pr B g'' σ' s.env
    obtain ⟨gt, k1, er1⟩ := Option.bind_eq_some_iff.mp (show ((tm (.dat ds[i]) g'').bind _) = some (fl, g') from er)
    obtain ⟨⟨f1, gb⟩, k2, er2⟩ := Option.bind_eq_some_iff.mp er1
    refine hg B Hf2 H'' g'' σ' (.dat ds[i]) x gt _ E2 rx k1 fun σ3 Hf3 H3 s3 => ?_
    have T3 : SStp F.K pr B Hf H g σ Hf3 H3 gt σ3 := by
      refine s.trans (⟨(t2.wide (fun _ z => z.elim)).trans' s3.tr (fun _ z => z), s3.env, fun p z => ?_, s3.prk⟩ : SStp F.K pr B Hf' H' g'' σ' Hf3 H3 gt σ3)
      rcases s3.sub p z with z | ⟨⟨_, z⟩, _⟩
      · exact .inl z
      · cases z
    have x3 : Evl.Ex Hf1 Hf3 := ex.trans (t2.ex.trans s3.tr.ex)
    refine hb B Hf3 H3 gt σ3 f1 gb _ s3.env k2 fun σ4 Hf4 H4 s4 => ?_
    have T4 := T3.trans s4
    have x4 := x3.trans s4.tr.ex
    cases f1 with
    | nx => exact ⟨Hf4, gb, T4, x4, er2⟩
    | ct => exact ⟨Hf4, gb, T4, x4, er2⟩
    | bk => cases er2; exact q σ4 Hf4 H4 T4
    | rt w => cases er2; exact q σ4 Hf4 H4 T4
  · have e : i = ds.length := by omega
    subst e
    rw [List.drop_length] at er
    cases er
    exact .inl ⟨stop, q σ' Hf' H' s⟩
def whileL (t : MT) (body : MS) : Nat → Gh → Option (Fl × Gh)
  | 0, _ => none
  | n + 1, g => (t g).bind fun b => if b.1 = true then (body b.2).bind fun a => match a.1 with
      | .nx => whileL t body n a.2
      | .ct => whileL t body n a.2
      | .bk => some (.nx, a.2)
      | .rt w => some (.rt w, a.2)
    else some (.nx, b.2)
def sWhile (n : Nat) (t : MT) (body : MS) : MS := whileL t body n
theorem s_while (n : Nat) {c : Expr} {body : List Stmt} {ft : MT} {fb : MS} {pos : Pos} (hp : ∀ i, PassesOwn (model (F.X i).prog (F.X i).w) (F.X i).A (F.X i).env (F.X i).xe) (ht : EvT F pr c ft) (hb : EvSs F pr body fb) : EvS F pr (.While c body [] pos) (sWhile n ft fb) := by
  intro B Hf H g σ fl g' D E eq q
  refine ⟨tWhile (UT F c) (USs F body), fun i => ps_while (hp i) (pt_U i) (pss_U i), ?_⟩
  refine ⟨fun m σ' H' => ∃ Hf' g'', SStp F.K pr B Hf H g σ Hf' H' g'' σ' ∧ whileL ft fb m g'' = some (fl, g'), ⟨n, Hf, g, SStp.refl E, eq⟩, ?_⟩
  rintro m σ' H' ⟨Hf', g'', s, er⟩
  cases m with
  | zero => cases er
  | succ m =>
    obtain ⟨⟨b, g1⟩, k1, er1⟩ := Option.bind_eq_some_iff.mp (show ((ft g'').bind _) = some (fl, g') from er)
    refine ht B Hf' H' g'' σ' b g1 _ s.env k1 fun Hf1 H1 s1 => ?_
    have T1 := s.trans s1.s
    cases b with
    | false => cases er1; exact q σ' Hf1 H1 T1
    | true =>
      rw [if_pos rfl]
      dsimp only at er1
      rw [if_pos rfl] at er1
      obtain ⟨⟨f1, gb⟩, k2, er2⟩ := Option.bind_eq_some_iff.mp er1
      refine ⟨fun σ2 H2 => ∃ Hf2 g2, SStp F.K pr B Hf H g σ Hf2 H2 g2 σ2 ∧ whileL ft fb m g2 = some (fl, g'), fun σ2 H2 p => ⟨m, Nat.lt_succ_self _, p⟩, ?_⟩
      refine hb B Hf1 H1 g1 σ' f1 gb _ s1.env k2 fun σ4 Hf4 H4 s4 => ?_
      have T4 := T1.trans s4
      cases f1 with
      | nx => exact ⟨Hf4, gb, T4, er2⟩
      | ct => exact ⟨Hf4, gb, T4, er2⟩
      | bk => cases er2; exact q σ4 Hf4 H4 T4
      | rt w => cases er2; exact q σ4 Hf4 H4 T4
end
end EV
end
section
set_option maxHeartbeats 2000000
set_option autoImplicit false
namespace EV
open PySem PySem.Spec PyProof.Rows L2
section
variable {F : Fam} {pr : List Nat} {B : Addr → Prop} {Hf H Hf' H' Hf1 H1 Hf2 H2 : Hp} {g g' g1 g2 : Gh} {σ σ' σ1 σ2 : L2.St} {K : Frag} {O : Addr → Prop}
/-! ### what a def promises -/
abbrev MF := Gh → Option (Wv × Gh)
def spM (K : Frag) (n : Nat) (pr : List Nat) (m : MF) : Sp := fun vs H Q _ => vs.length = n ∧ ∃ Hf G w G', En K pr (fun p => H p = none) Hf H G (vs.map some) ∧ (∀ i ∈ pr, ∃ ds, G[i]? = some (.own ds)) ∧ m G = some (w, G') ∧
  ∀ v Hf' H', Stp K pr (fun p => H p = none) Hf H G (vs.map some) Hf' H' G' → WOk K (fun p => H p = none) Hf' H' G' (vs.map some) w v → (∀ i, w ≠ .slot i) → Q v H'
def keepArgs (pr : List Nat) (g0 g1 : Gh) : Gh := g0.mapIdx fun i s => if pr.contains i then g1[i]?.getD .un else s
def bodyM (pr : List Nat) (n : Nat) (f : MS) : MF := fun G => (f (G ++ List.replicate n .un)).bind fun a => match a.1 with
  | .rt w => some (w, keepArgs pr G a.2)
  | .nx => some (.dat .none, keepArgs pr G a.2)
  | _ => none
theorem keep_get {g0 g1 : Gh} {i : Nat} {s : Sl} (h : (keepArgs pr g0 g1)[i]? = some s) (n : s ≠ .un) : (i ∈ pr ∧ g1[i]? = some s) ∨ (i ∉ pr ∧ g0[i]? = some s) := by
  unfold keepArgs at h
  rw [List.getElem?_mapIdx] at h
  cases e : g0[i]? with
  | none => rw [e] at h; cases h
  | some s0 =>
    rw [e] at h
    have h : (if pr.contains i = true then g1[i]?.getD .un else s0) = s := Option.some.inj h
    by_cases c : pr.contains i = true
    · rw [if_pos c] at h
      refine .inl ⟨List.contains_iff_mem.mp c, ?_⟩
      cases e2 : g1[i]? with
      | none => rw [e2] at h; exact absurd h.symm n
      | some s1 => rw [e2] at h; exact congrArg some h
    · rw [if_neg c] at h
      exact .inr ⟨fun z => c (List.contains_iff_mem.mpr z), congrArg some h⟩
theorem start_get {N : List Str} {vs : List V} {i : Nat} {v : V} (h : (L2.start N vs)[i]? = some (some v)) : vs[i]? = some v := by
  unfold L2.start at h
  by_cases hi : i < vs.length
  · rw [List.getElem?_append_left (by simpa using hi), List.getElem?_map] at h
    cases e : vs[i]? with
    | none => rw [e] at h; cases h
    | some a => rw [e] at h; cases h; rfl
  · rw [List.getElem?_append_right (by simpa using hi), List.getElem?_replicate] at h
    split at h <;> cases h
theorem start_of {N : List Str} {vs : List V} {i : Nat} {o : Option V} (h : (vs.map some)[i]? = some o) : (L2.start N vs)[i]? = some o := by
  unfold L2.start
  rw [List.getElem?_append_left (lt_of_get h)]
  exact h
theorem map_get {vs : List V} {i : Nat} {v : V} (h : vs[i]? = some v) : (vs.map some)[i]? = some (some v) := by
  rw [List.getElem?_map, h]; rfl
theorem def_ok {P : Program} {w : World} {mg : Str → Option Value} {base : Heap} {x qual : Str} {st : Stmt} {f : Addr} {fd : FuncData} {N ps : List Str} {k n : Nat} {m : MS} (Fu : Fun K x qual st f fd) (S : FnScope N ps (defScope st))
    (hn : N.length = ps.length + n) (hb : ∀ (cdv : Value) (A : Around) (outer : List PySem.Env) (s : Shared) (H : Hp) (E : XK), Room k (A.deeper (envOfC qual (defScope st) s.heap.objs.size f cdv)) →
      EvSs (Fam.one (cxOf CX0 P w K mg base N qual (defScope st) f cdv A outer s H E).nox) pr (defBody st) m) : FnOk P w K mg base CX0 (k + 1) f fd ps (spM K ps.length pr (bodyM pr n m)) := by
  refine Fu.ok S (fun vs H Q E h => h.1) fun cdv A outer s H vs Q E hr h => ?_
  obtain ⟨hl, Hf, G, w, G', En0, hown, em, q⟩ := h
  obtain ⟨⟨fl, g2⟩, e1, e2⟩ := Option.bind_eq_some_iff.mp em
  have lenG : G.length = vs.length := by have := En0.len; rwa [List.length_map] at this
  have ga : ∀ {i : Nat} {sl : Sl}, (G ++ List.replicate n Sl.un)[i]? = some sl → sl ≠ .un → G[i]? = some sl := fun {i sl} h1 h2 => by
    by_cases hi : i < G.length
    · rwa [List.getElem?_append_left hi] at h1
    · rw [List.getElem?_append_right (by omega), List.getElem?_replicate] at h1
      split at h1
      · cases h1; exact absurd rfl h2
      · cases h1
  have E1 : En K pr (fun p => H p = none) Hf H (G ++ List.replicate n .un) (L2.start N vs) := by
    refine ⟨En0.ex, ?_, fun i sl h1 h2 => ?_, fun i j ds es p h1 o1 h2 o2 k1 k2 => ?_, En0.nb, fun i ds p h1 o1 k1 => ?_, fun i ds p h1 hp => En0.obi i ds p (ga h1 (ow_ne (inn_ow hp))) hp⟩
    · unfold L2.start
      rw [List.length_append, List.length_append, List.length_map, List.length_replicate, List.length_replicate]; omega
    · obtain ⟨v, e, so⟩ := En0.ok i sl (ga h1 h2) h2
      exact ⟨v, start_of e, so⟩
    · exact En0.dis i j ds es p (ga h1 (ow_ne o1)) o1 (ga h2 (ow_ne o2)) o2 (k1.imp fun z => map_get (start_get z)) (k2.imp fun z => map_get (start_get z))
    · exact En0.ob i ds p (ga h1 (ow_ne o1)) o1 (map_get (start_get k1))
  have ow : ∀ p, Own (G ++ List.replicate n .un) (L2.start N vs) p → Own G (vs.map some) p := fun p ⟨i, ds, h1, o, h2⟩ => ⟨i, ds, ga h1 (ow_ne o), o, h2.imp fun z => map_get (start_get z)⟩
  have fin : ∀ σ' Hf' H', SStp K pr (fun p => H p = none) Hf H (G ++ List.replicate n .un) (L2.start N vs) Hf' H' g2 σ' → Stp K pr (fun p => H p = none) Hf H G (vs.map some) Hf' H' (keepArgs pr G g2) ∧ ∀ p, Own (keepArgs pr G g2) (vs.map some) p → Own g2 σ' p := fun σ' Hf' H' s => by
    -- the slots that are handed on stand as they stood
    have at_ : ∀ {i : Nat} {v : V}, i ∈ pr → (vs.map some)[i]? = some (some v) → σ'[i]? = some (some v) := fun {i v} hi e => (s.prk i hi).trans (start_of e)
    have noown : ∀ (i : Nat) (sl : Sl), i ∉ pr → G[i]? = some sl → sl.ow = true → False := fun i sl hi h o => by
      obtain ⟨v, k0, so⟩ := En0.ok i sl h (ow_ne o)
      obtain ⟨p, u, rfl, k1, _⟩ := so.there o
      rcases En0.ob i sl p h o k0 with z | z
      · exact hi z
      · rw [k1] at z; cases z
    have o2 : ∀ p, Own (keepArgs pr G g2) (vs.map some) p → Own g2 σ' p := fun p ⟨i, ds, h1, o, h2⟩ => by
      rcases keep_get h1 (ow_ne o) with ⟨hi, h3⟩ | ⟨hi, h3⟩
      · exact ⟨i, ds, h3, o, h2.imp (at_ hi)⟩
      · exact (noown i ds hi h3 o).elim
    refine ⟨⟨⟨s.tr.ex, fun p o hp no => s.tr.keep p o hp fun z => no (ow p z), s.tr.stay⟩, ⟨s.env.ex, ?_, fun i sl h1 h2 => ?_, fun i j ds es p h1 o1 h2 o2 k1 k2 => ?_, s.env.nb, fun i ds p h1 o1 k1 => ?_, fun i ds p h1 hp => ?_⟩, fun p z => ?_⟩, o2⟩
    · unfold keepArgs
      rw [List.length_mapIdx]; exact En0.len
    · rcases keep_get h1 h2 with ⟨hi, h3⟩ | ⟨hi, h3⟩
      · obtain ⟨ds0, hg⟩ := hown i hi
        obtain ⟨p, us, k0, _⟩ := En0.own_val hg
        obtain ⟨v, e, so⟩ := s.env.ok i sl h3 h2
        rw [at_ hi k0] at e; cases e
        exact ⟨_, k0, so⟩
      · obtain ⟨v, e, so⟩ := En0.ok i sl h3 h2
        refine ⟨v, e, ?_⟩
        cases sl with
        | un => trivial
        | val d => exact Rep.mono s.tr.ex so
        | own ds => exact (noown i _ hi h3 rfl).elim
        | raw x => exact so
        | dic t es => exact (noown i _ hi h3 rfl).elim
        | tab t es => exact (noown i _ hi h3 rfl).elim
        | grp t es => exact (noown i _ hi h3 rfl).elim
        | rg a b =>
          obtain ⟨q, e, h1⟩ := so
          exact ⟨q, e, s.tr.ex _ _ h1⟩
    · rcases keep_get h1 (ow_ne o1) with ⟨hi, h3⟩ | ⟨hi, h3⟩
      · rcases keep_get h2 (ow_ne o2) with ⟨hj, h4⟩ | ⟨hj, h4⟩
        · exact s.env.dis i j ds es p h3 o1 h4 o2 (k1.imp (at_ hi)) (k2.imp (at_ hj))
        · exact (noown j es hj h4 o2).elim
      · exact (noown i ds hi h3 o1).elim
    · rcases keep_get h1 (ow_ne o1) with ⟨hi, h3⟩ | ⟨hi, h3⟩
      · exact .inl hi
      · exact (noown i ds hi h3 o1).elim
    · rcases keep_get h1 (ow_ne (inn_ow hp)) with ⟨hi, h3⟩ | ⟨hi, h3⟩
      · exact absurd hi (s.env.obi i ds p h3 hp).2
      · exact (noown i ds hi h3 (inn_ow hp)).elim
    · obtain ⟨i, ds, h1, o1, h2⟩ := z
      rcases keep_get h1 (ow_ne o1) with ⟨hi, h3⟩ | ⟨hi, h3⟩
      · have nin : ds.inn = [] := by
          cases hq : ds.inn with
          | nil => rfl
          | cons a b => exact absurd hi (s.env.obi i ds a h3 (by rw [hq]; exact List.mem_cons_self)).2
        have h2 := h2.eq nin
        rcases s.sub p ⟨i, ds, h3, o1, .inl (at_ hi h2)⟩ with z | z
        · exact ow p z
        · obtain ⟨ds0, hg⟩ := hown i hi
          obtain ⟨p', us, k0, k1, _⟩ := En0.own_val hg
          rw [k0] at h2; cases h2
          rw [k1] at z; cases z
      · exact (noown i ds hi h3 o1).elim
  have wk : ∀ {σ' : L2.St} {Hf' H' : Hp} {w' : Wv} {v : V}, (∀ p, Own (keepArgs pr G g2) (vs.map some) p → Own g2 σ' p) → WOk K (fun p => H p = none) Hf' H' g2 σ' w' v → (∀ i, w' ≠ .slot i) → WOk K (fun p => H p = none) Hf' H' (keepArgs pr G g2) (vs.map some) w' v := fun {σ' Hf' H' w' v} o2 h hs => by
    cases w' with
    | dat d => exact h
    | fresh ds =>
      obtain ⟨p, us, rfl, hb, hf, hq, r, no⟩ := h
      exact ⟨p, us, rfl, hb, hf, hq, r, fun z => no (o2 p z)⟩
    | slot i => exact absurd rfl (hs i)
    | raw x => exact h
  have body := hb cdv A outer s H E hr (fun p => H p = none) Hf H _ (L2.start N vs) fl g2 { nx := fun _ H' => Q .non H', rt := Q } E1 e1 fun σ' Hf' H' s => by
    obtain ⟨s2, o2⟩ := fin σ' Hf' H' s
    cases fl with
    | nx => cases e2; exact q .non Hf' H' s2 .non (fun _ z => nomatch z)
    | rt w' => cases e2; exact fun v h hs => q v Hf' H' s2 (wk o2 h hs) hs
    | bk => cases e2
    | ct => cases e2
  obtain ⟨t, ht, hq⟩ := body
  exact ⟨t, ht (), hq⟩
/-! ### calls -/
theorem En.step (E : En K pr B Hf H g σ) (t : Tr O Hf H Hf' H') (no : ∀ p, Own g σ p → ¬ O p) (ex : Evl.Ex Hf' H') : En K pr B Hf' H' g σ where
  ex := ex
  len := E.len
  ok := fun i s e n => by
    obtain ⟨v, e1, s1⟩ := E.ok i s e n
    refine ⟨v, e1, ?_⟩
    exact s1.stay t.ex fun q u o z h2 h1 => by
      obtain ⟨k1, k2⟩ := t.keep q _ h2 (no q ⟨i, s, e, o, by rw [e1]; exact z⟩)
      exact ⟨k1, k2.trans h1⟩
  dis := E.dis
  nb := fun p h => E.nb p (t.stay p h)
  ob := E.ob
  obi := E.obi
/-- arguments that are handed on as data -/
def toSls : List Wv → Gh → Option (List Sl × Gh)
  | [], g => some ([], g)
  | .raw v :: ws, g => (toSls ws g).bind fun b => some (.raw v :: b.1, b.2)
  | w :: ws, g => (toD w g).bind fun a => (toSls ws a.2).bind fun b => some (.val a.1 :: b.1, b.2)
/-- the slots of a callee: data alone -/
inductive SlAll (K : Frag) (Hf : Hp) : List Sl → List V → Prop
  | nil : SlAll K Hf [] []
  | val {d : Da} {v : V} {ss : List Sl} {vs : List V} : Rep K Hf v d → SlAll K Hf ss vs → SlAll K Hf (.val d :: ss) (v :: vs)
  | raw {v : V} {ss : List Sl} {vs : List V} : SlAll K Hf ss vs → SlAll K Hf (.raw v :: ss) (v :: vs)
theorem SlAll.mono (e : Evl.Ex Hf Hf') : ∀ {ss : List Sl} {vs : List V}, SlAll K Hf ss vs → SlAll K Hf' ss vs
  | _, _, .nil => .nil
  | _, _, .val a b => .val (a.mono e) (SlAll.mono e b)
  | _, _, .raw b => .raw (SlAll.mono e b)
theorem SlAll.len : ∀ {ss : List Sl} {vs : List V}, SlAll K Hf ss vs → ss.length = vs.length
  | _, _, .nil => rfl
  | _, _, .val _ b => by simp [SlAll.len b]
  | _, _, .raw b => by simp [SlAll.len b]
theorem SlAll.get : ∀ {ss : List Sl} {vs : List V} {i : Nat} {s : Sl}, SlAll K Hf ss vs → ss[i]? = some s → ∃ v, vs[i]? = some v ∧ SlotOk K Hf H s v ∧ s.ow = false
  | _, _, _, _, .nil, h => by simp at h
  | _, _, 0, _, .val a b, h => by simp at h; subst h; exact ⟨_, rfl, a, rfl⟩
  | _, _, 0, _, .raw b, h => by simp at h; subst h; exact ⟨_, rfl, rfl, rfl⟩
  | _, _, i + 1, _, .val a b, h => by
    obtain ⟨v, e, r⟩ := SlAll.get b (i := i) (by simpa using h)
    exact ⟨v, by simpa using e, r⟩
  | _, _, i + 1, _, .raw b, h => by
    obtain ⟨v, e, r⟩ := SlAll.get b (i := i) (by simpa using h)
    exact ⟨v, by simpa using e, r⟩
theorem toSls_ok : ∀ {ws : List Wv} {vs : List V} {ss : List Sl} {Hf1 : Hp} {g1 g' : Gh}, Stp K pr B Hf H g σ Hf1 H1 g1 → WAll K B Hf1 H1 g1 σ ws vs → YAll H ws vs → toSls ws g1 = some (ss, g') →
    ∃ Hf', Stp K pr B Hf H g σ Hf' H1 g' ∧ Evl.Ex Hf1 Hf' ∧ SlAll K Hf' ss vs
  | _, _, ds, Hf1, g1, g2, s, .nil, _, e => by cases e; exact ⟨Hf1, s, Evl.Ex.refl _, .nil⟩
  | _, _, ds, Hf1, g1, g3, s, @WAll.cons _ _ _ _ _ _ w v ws vs a b c, .cons y ys, e => by
    have dat : ∀ (_ : (toD w g1).bind (fun a => (toSls ws a.2).bind fun b => some (Sl.val a.1 :: b.1, b.2)) = some (ds, g3)), ∃ Hf', Stp K pr B Hf H g σ Hf' H1 g3 ∧ Evl.Ex Hf1 Hf' ∧ SlAll K Hf' ds (v :: vs) := fun e => by
      obtain ⟨⟨d, g2⟩, e1, e⟩ := Option.bind_eq_some_iff.mp e
      obtain ⟨⟨ds', g4⟩, e2, e⟩ := Option.bind_eq_some_iff.mp e
      cases e
      obtain ⟨Hf2, E2, r, ex, sb, k⟩ := toD_ok s.env a e1
      have s2 : Stp K pr B Hf H g σ Hf2 H1 g2 := by
        refine ⟨⟨s.tr.ex.trans ex, fun p o hp no => ?_, s.tr.stay⟩, E2, fun p z => s.sub p (sb p z)⟩
        obtain ⟨k1, k2⟩ := s.tr.keep p o hp no
        refine ⟨k1, ?_⟩
        rcases k p o k1 (fun z => no (s.sub p z)) with z | ⟨⟨es, z⟩, z2⟩
        · exact z.trans k2
        · have := y es z p z2
          rw [hp] at this; cases this
      obtain ⟨Hf', s3, ex3, r3⟩ := toSls_ok s2 (WAll.frz ex sb k c b) ys e2
      exact ⟨Hf', s3, ex.trans ex3, .val (r.mono ex3) r3⟩
    cases w with
    | raw x =>
      obtain ⟨⟨ss', g4⟩, e2, e⟩ := Option.bind_eq_some_iff.mp (show ((toSls ws g1).bind fun b => some (Sl.raw x :: b.1, b.2)) = some (ds, g3) from e)
      cases e
      have a : v = x := a
      subst a
      obtain ⟨Hf', s3, ex3, r3⟩ := toSls_ok s c ys e2
      exact ⟨Hf', s3, ex3, .raw r3⟩
    | dat d => exact dat e
    | fresh es => exact dat e
    | slot i => exact dat e
/-- a call of a def whose arguments are data -/
def mFn (m : MF) (fa : MA) : ME := fun g => (fa g).bind fun a => (toSls a.1 a.2).bind fun r => (m r.1).bind fun c => some (c.1, r.2)
theorem yall_len : ∀ {ws : List Wv} {vs : List V}, YAll H ws vs → ws.length = vs.length
  | _, _, .nil => rfl
  | _, _, .cons a b => by simp [yall_len b]
theorem fn_core {n : Nat} {m : MF} {ws : List Wv} {vs : List V} {ss : List Sl} {wc : Wv} {gc : Gh} {Q : VK} {E : XK} (s1 : Stp F.K pr B Hf H g σ Hf1 H1 g1) (w1 : WAll F.K B Hf1 H1 g1 σ ws vs) (y1 : YAll H ws vs) (e2 : toSls ws g1 = some (ss, g2)) (hl : ws.length = n) (e3 : m ss = some (wc, gc))
    (q : ∀ v Hf' H', Stp F.K pr B Hf H g σ Hf' H' g2 → WOk F.K B Hf' H' g2 σ wc v → Yng H wc v → Q v H') : spM F.K n [] m vs H1 Q E := by
  obtain ⟨Hf2, s2, _, sa⟩ := toSls_ok s1 w1 y1 e2
  have noown : ∀ (i : Nat) (t : Sl), ss[i]? = some t → t.ow = true → False := fun i t h o => by
    obtain ⟨v, _, _, no⟩ := SlAll.get (H := H1) sa h
    rw [o] at no; cases no
  refine ⟨by rw [← yall_len y1]; exact hl, Hf2, ss, wc, gc, ⟨s2.env.ex, by rw [List.length_map]; exact sa.len, fun i s h _ => ?_, fun i j ds es p h1 o1 => (noown i ds h1 o1).elim, fun p h => h, fun i ds p h1 o1 => (noown i ds h1 o1).elim, fun i ds p h1 hp => (noown i ds h1 (inn_ow hp)).elim⟩, fun i hi => absurd hi (by simp), e3, fun v Hf' H' sc wk ns => ?_⟩
  · obtain ⟨v, e, so, _⟩ := SlAll.get (H := H1) sa h
    exact ⟨v, map_get e, so⟩
  · have no : ∀ p, ¬ Own ss (vs.map some) p := fun p ⟨i, ds, h1, o, _⟩ => noown i ds h1 o
    have E3 : En F.K pr B Hf' H' g2 σ := s2.env.step sc.tr (fun p _ => no p) sc.env.ex
    have s3 : Stp F.K pr B Hf H g σ Hf' H' g2 := ⟨s2.tr.trans' (sc.tr.wide (O1 := Own g2 σ) fun p z => (no p z).elim) s2.sub, E3, s2.sub⟩
    refine q v Hf' H' s3 ?_ ?_
    · cases wc with
      | dat d => exact wk
      | fresh ds =>
        obtain ⟨p, us, rfl, hb, hf, hq, r, n'⟩ := wk
        exact ⟨p, us, rfl, s2.env.nb p hb, hf, hq, r, s2.env.own_none hb⟩
      | slot i => exact absurd rfl (ns i)
      | raw x => exact wk
    · intro ds e p e'
      subst e
      obtain ⟨p', us, e'', hb, _⟩ := wk
      rw [e'] at e''; cases e''
      exact s2.tr.stay _ hb
theorem fn_ok {es : List Expr} {fa : MA} {n : Nat} {m : MF} (ha : EvA F pr es fa) (hn : ∀ g ws g', fa g = some (ws, g') → ws.length = n) {w : Wv} {Q : VK} {E : XK} (En0 : En F.K pr B Hf H g σ) (eq : mFn m fa g = some (w, g'))
    (q : ∀ v Hf' H', Stp F.K pr B Hf H g σ Hf' H' g' → WOk F.K B Hf' H' g' σ w v → Yng H w v → Q v H') : tCall (spM F.K n [] m) [] E (UA F es) σ H Q := by
  obtain ⟨⟨ws, g1⟩, e1, eq1⟩ := Option.bind_eq_some_iff.mp eq
  obtain ⟨⟨ss, g2⟩, e2, eq2⟩ := Option.bind_eq_some_iff.mp eq1
  obtain ⟨⟨wc, gc⟩, e3, eq3⟩ := Option.bind_eq_some_iff.mp eq2
  cases eq3
  refine ha B Hf H g σ ws g1 _ En0 e1 fun vs Hf1 H1 s1 w1 y1 => ?_
  rw [List.append_nil]
  exact fn_core s1 w1 y1 e2 (hn g ws g1 e1) e3 q
theorem ev_fn {x : Str} {e : Expr} {es : List Expr} {fa : MA} {n k : Nat} {m : MF} {f : Addr} {fd : FuncData} {ps : List Str} {p pos : Pos} (FO : ∀ i, FnOk (F.X i).prog (F.X i).w (F.X i).K (F.X i).mg (F.X i).base CX0 k f fd ps (spM F.K n [] m)) (hr : ∀ i, Room k (F.X i).A) (hm : ∀ i, (F.X i).mg x = some (.ref f)) (hk : ∀ i, PySem.W.keepIn (F.X i).K (.ref f) = true) (hb : ∀ i, Binds (F.X i).K fd ps [])
    (ha : EvA F pr (e :: es) fa) (hn : ∀ g ws g', fa g = some (ws, g') → ws.length = n) (hg : ∀ i, Gl (F.X i) x := by intro _; rfl) (hdb : (x == ("__debug__" : Str)) = false := by decide)
    (he : ∀ i, starEach (e :: es) (F.X i).env = (false, eval e (F.X i).env) :: starEach es (F.X i).env := by intro _; rfl) (hpl : ∀ i, (backTo pos (starEach es (F.X i).env)).any (·.1) = false := by intro _; rfl) : Ev F pr (.Call (.Name x p) (e :: es) [] pos) (mFn m fa) := by
  intro B Hf H g σ w g' Q E eq q
  exact ⟨_, fun i => pe_call (FO i) (hr i) (hg i) (hm i) (hk i) (hb i) .nil pass0 (pa_U i) hdb (he i) (hpl i), fn_ok ha hn E eq q⟩
def mFn0 (m : MF) : ME := fun g => (m []).bind fun c => some (c.1, g)
theorem ev_fn0 {x : Str} {k : Nat} {m : MF} {f : Addr} {fd : FuncData} {ps : List Str} {p pos : Pos} (FO : ∀ i, FnOk (F.X i).prog (F.X i).w (F.X i).K (F.X i).mg (F.X i).base CX0 k f fd ps (spM F.K 0 [] m)) (hr : ∀ i, Room k (F.X i).A) (hm : ∀ i, (F.X i).mg x = some (.ref f)) (hk : ∀ i, PySem.W.keepIn (F.X i).K (.ref f) = true) (hb : ∀ i, Binds (F.X i).K fd ps [])
    (hg : ∀ i, Gl (F.X i) x := by intro _; rfl) (hdb : (x == ("__debug__" : Str)) = false := by decide) : Ev F pr (.Call (.Name x p) [] [] pos) (mFn0 m) := by
  intro B Hf H g σ w g' Q E eq q
  obtain ⟨⟨wc, gc⟩, e3, eq3⟩ := Option.bind_eq_some_iff.mp eq
  cases eq3
  refine ⟨_, fun i => pe_call0 (FO i) (hr i) (hg i) (hm i) (hk i) (hb i) .nil pass0 hdb, ?_⟩
  exact fn_core (E := E0) (Stp.refl E) .nil .nil rfl rfl e3 q
/-- a call whose first argument is a list that a name owns: the callee may change it -/
def mFnD (m : MF) (fa : MA) : ME := fun g => (fa g).bind fun a => match a.1 with
  | .slot i :: ws => (toSls ws a.2).bind fun r => match r.2[i]? with
    | some (.own ds) => (m (.own ds :: r.1)).bind fun c => match c.2 with
      | s :: _ => some (c.1, r.2.set i s)
      | [] => none
    | _ => none
  | _ => none
theorem fnD_ok {es : List Expr} {fa : MA} {n : Nat} {m : MF} (ha : EvA F pr es fa) (hn : ∀ g ws g', fa g = some (ws, g') → ws.length = n) {w : Wv} {Q : VK} {E : XK} (En0 : En F.K pr B Hf H g σ) (eq : mFnD m fa g = some (w, g'))
    (q : ∀ v Hf' H', Stp F.K pr B Hf H g σ Hf' H' g' → WOk F.K B Hf' H' g' σ w v → Yng H w v → Q v H') : tCall (spM F.K n [0] m) [] E (UA F es) σ H Q := by
  obtain ⟨⟨ws0, g1⟩, e1, eq1⟩ := Option.bind_eq_some_iff.mp eq
  dsimp only at eq1
  split at eq1
  · rename_i i ws
    obtain ⟨⟨ss, g2⟩, e2, eq2⟩ := Option.bind_eq_some_iff.mp eq1
    dsimp only at eq2
    split at eq2
    · rename_i ds hg
      obtain ⟨⟨wc, gc⟩, e3, eq3⟩ := Option.bind_eq_some_iff.mp eq2
      dsimp only at eq3
      split at eq3
      · rename_i s rest
        cases eq3
        refine ha B Hf H g σ _ g1 _ En0 e1 fun vs0 Hf1 H1 s1 w1 y1 => ?_
        rw [List.append_nil]
        have lw : (Wv.slot i :: ws).length = vs0.length := by
          have go : ∀ {ws : List Wv} {vs : List V}, YAll H ws vs → ws.length = vs.length := by
            intro ws vs h
            induction h with
            | nil => rfl
            | cons a b ih => simp [ih]
          exact go y1
        cases w1 with
        | @cons _ v0 _ vs a b c =>
          cases y1 with
          | cons y ys =>
            obtain ⟨Hf2, s2, _, sa⟩ := toSls_ok s1 c ys e2
            have a : σ[i]? = some (some v0) := a
            obtain ⟨p, us, k0, k1, k2, k3, ow⟩ := s2.env.own_val hg
            rw [a] at k0; cases k0
            have noown : ∀ (j : Nat) (t : Sl), ss[j]? = some t → t.ow = true → False := fun j t h o => by
              obtain ⟨v, _, _, no⟩ := SlAll.get (H := H1) sa h
              rw [o] at no; cases no
            have own0 : ∀ z, Own (.own ds :: ss) ((V.ref p :: vs).map some) z → z = p := fun z ⟨j, es, h1, o, h2⟩ => by
              cases j with
              | zero => simp at h1; subst h1; have h2 := h2.eq; simp at h2; exact h2.symm
              | succ j => exact (noown j es (by simpa using h1) o).elim
            refine ⟨by rw [← lw]; exact hn g _ g1 e1, Hf2, .own ds :: ss, w, s :: rest, ⟨s2.env.ex, by rw [List.length_map, List.length_cons, List.length_cons, sa.len], fun j t h _ => ?_, fun j1 j2 ds' es z h1 o1 h2 o2 l1 l2 => ?_, fun p h => h, fun j ds' z h1 o1 _ => ?_, fun j ds' z h1 hp => by
              cases j with
              | zero => simp at h1; subst h1; cases hp
              | succ j => exact (noown j ds' (by simpa using h1) (inn_ow hp)).elim⟩, fun j hj => ⟨ds, by simp at hj; subst hj; rfl⟩, e3, fun v Hf' H' sc wk ns => ?_⟩
            · cases j with
              | zero => simp at h; subst h; exact ⟨.ref p, rfl, p, us, rfl, k2, k1, k3⟩
              | succ j =>
                obtain ⟨v, e, so, _⟩ := SlAll.get (H := H1) sa (i := j) (by simpa using h)
                exact ⟨v, map_get (by simpa using e), so⟩
            · cases j1 with
              | zero =>
                cases j2 with
                | zero => rfl
                | succ j2 => exact (noown j2 es (by simpa using h2) o2).elim
              | succ j1 => exact (noown j1 ds' (by simpa using h1) o1).elim
            · cases j with
              | zero => exact .inl (by simp)
              | succ j => exact (noown j ds' (by simpa using h1) o1).elim
            · -- behind the call
              have n2 := s2.env.not_own_drop hg a
              have Ed : En F.K pr B Hf' H' (g2.set i .un) σ := (s2.env.drop i).step sc.tr (fun z hz hz2 => by
                have := own0 z hz2
                subst this
                exact n2 hz) sc.env.ex
              have nin : s.inn = [] := by
                cases hq : s.inn with
                | nil => rfl
                | cons a b => exact absurd (by simp) (sc.env.obi 0 s a rfl (by rw [hq]; exact List.mem_cons_self)).2
              have so : SlotOk F.K Hf' H' s (.ref p) := by
                cases s with
                | un => trivial
                | val d => obtain ⟨v', e, so⟩ := sc.env.ok 0 _ rfl (by simp); cases e; exact so
                | own es => obtain ⟨v', e, so⟩ := sc.env.ok 0 _ rfl (by simp); cases e; exact so
                | raw x => obtain ⟨v', e, so⟩ := sc.env.ok 0 _ rfl (by simp); cases e; exact so
                | dic t es => obtain ⟨v', e, so⟩ := sc.env.ok 0 _ rfl (by simp); cases e; exact so
                | tab t es => obtain ⟨v', e, so⟩ := sc.env.ok 0 _ rfl (by simp); cases e; exact so
                | grp t es => obtain ⟨v', e, so⟩ := sc.env.ok 0 _ rfl (by simp); cases e; exact so
                | rg x y => obtain ⟨v', e, so⟩ := sc.env.ok 0 _ rfl (by simp); cases e; exact so
              have E3 := Ed.put_slotS (i := i) (s := s) a so (fun _ z e => by cases e; exact ⟨by rw [List.set_set]; exact n2, s2.env.ob i _ p hg rfl a⟩) nin
              rw [List.set_set] at E3
              have sub3 : ∀ z, Own (g2.set i s) σ z → Own g2 σ z := fun z hz => by
                rcases own_putS hz with hz | ⟨_, hz⟩
                · exact own_drop hz
                · have hz := hz.eq nin; rw [a] at hz; cases hz; exact ow
              have s3 : Stp F.K pr B Hf H g σ Hf' H' (g2.set i s) := ⟨s2.tr.trans' (sc.tr.wide (O1 := Own g2 σ) fun z hz => by rw [own0 z hz]; exact ow) s2.sub, E3, fun z hz => s2.sub z (sub3 z hz)⟩
              refine q v Hf' H' s3 ?_ ?_
              · cases w with
                | dat d => exact wk
                | fresh es =>
                  obtain ⟨z, us', rfl, hb, hf, hq, r, n'⟩ := wk
                  exact ⟨z, us', rfl, s2.env.nb z hb, hf, hq, r, fun hz => s2.env.own_none hb (sub3 z hz)⟩
                | slot i => exact absurd rfl (ns i)
                | raw x => exact wk
              · intro es e z e'
                subst e
                obtain ⟨z', us', e'', hb, _⟩ := wk
                rw [e'] at e''; cases e''
                exact s2.tr.stay _ hb
      · cases eq3
    · cases eq2
  · cases eq1
theorem ev_fnD {x : Str} {e : Expr} {es : List Expr} {fa : MA} {n k : Nat} {m : MF} {f : Addr} {fd : FuncData} {ps : List Str} {p pos : Pos} (FO : ∀ i, FnOk (F.X i).prog (F.X i).w (F.X i).K (F.X i).mg (F.X i).base CX0 k f fd ps (spM F.K n [0] m)) (hr : ∀ i, Room k (F.X i).A) (hm : ∀ i, (F.X i).mg x = some (.ref f)) (hk : ∀ i, PySem.W.keepIn (F.X i).K (.ref f) = true) (hb : ∀ i, Binds (F.X i).K fd ps [])
    (ha : EvA F pr (e :: es) fa) (hn : ∀ g ws g', fa g = some (ws, g') → ws.length = n) (hg : ∀ i, Gl (F.X i) x := by intro _; rfl) (hdb : (x == ("__debug__" : Str)) = false := by decide)
    (he : ∀ i, starEach (e :: es) (F.X i).env = (false, eval e (F.X i).env) :: starEach es (F.X i).env := by intro _; rfl) (hpl : ∀ i, (backTo pos (starEach es (F.X i).env)).any (·.1) = false := by intro _; rfl) : Ev F pr (.Call (.Name x p) (e :: es) [] pos) (mFnD m fa) := by
  intro B Hf H g σ w g' Q E eq q
  exact ⟨_, fun i => pe_call (FO i) (hr i) (hg i) (hm i) (hk i) (hb i) .nil pass0 (pa_U i) hdb (he i) (hpl i), fnD_ok ha hn E eq q⟩
/-- how many an argument list gives -/
theorem na_nil : ∀ g ws g', mNil g = some (ws, g') → ws.length = 0 := fun g ws g' e => by cases e; rfl
theorem na_cons {f : ME} {fs : MA} {n : Nat} (h : ∀ g ws g', fs g = some (ws, g') → ws.length = n) : ∀ g ws g', mCons f fs g = some (ws, g') → ws.length = n + 1 := fun g ws g' e => by
  obtain ⟨a, e1, e⟩ := Option.bind_eq_some_iff.mp e
  obtain ⟨b, e2, e⟩ := Option.bind_eq_some_iff.mp e
  cases e
  rw [List.length_cons, h a.2 b.1 b.2 e2]
/-- the law's promise, from its mirror -/
theorem law_sp {m : MF} {a : Addr} {ns : List Int} {E : XK} (hS : SqL K H a (ns.map V.int)) (h : ∃ g', m [.val (.list (ns.map PyData.int))] = some (.dat (.bool true), g')) : spM K 1 [] m [.ref a] H (fun v _ => v = .bl true) E := by
  obtain ⟨g', e⟩ := h
  refine ⟨rfl, H, [.val (.list (ns.map PyData.int))], _, g', ⟨Evl.Ex.refl H, rfl, fun i s h _ => ?_, fun i j ds es p h1 => ?_, fun p h => h, fun i ds p h1 => ?_, fun i ds p h1 hp => by
    cases i with
    | zero => simp at h1; subst h1; cases hp
    | succ i => simp at h1⟩, fun i hi => absurd hi (by simp), e, fun v Hf' H' s w _ => ?_⟩
  · cases i with
    | zero => simp at h; subst h; exact ⟨_, rfl, .lst hS (RepAll.of_ints ns)⟩
    | succ i => simp at h
  · cases i with
    | zero => simp at h1; subst h1; intro o; cases o
    | succ i => simp at h1
  · cases i with
    | zero => simp at h1; subst h1; intro o; cases o
    | succ i => simp at h1
  · have w : Rep K Hf' v (.bool true) := w
    cases w; rfl
theorem vals_ints' : ∀ (ns : List Int) (ts : List Tok), ns.length = ts.length → Vals (ns.map V.int) (List.zipWith Value.int ns ts)
  | [], [], _ => .nil
  | n :: ns, t :: ts, h => .cons ⟨t, rfl⟩ (vals_ints' ns ts (by simpa using h))
/-- a tuple of ints of the module -/
theorem rep_tupK {a : Addr} {dd : Option Addr} {n : Nat} {sl : Array (Option Value)} (ns : List Int) (ts : List Tok) {its : Array Value} (h : K.lookup a = some ⟨.type "tuple", dd, .seq its n, sl⟩) (e : its.toList = List.zipWith Value.int ns ts) (hl : ns.length = ts.length) (hz : ns.length ≤ 1000) (Hf : Hp) :
    Rep K Hf (.ref a) (.tuple (ns.map PyData.int)) := by
  refine .tup (xs := ns.map V.int) (.inr ⟨_, its, n, h, rfl, rfl, ?_, ?_⟩) (RepAll.of_ints ns)
  · have : its.size = ns.length := by
      rw [← Array.length_toList, e, List.length_zipWith, hl, Nat.min_self]
    rw [this]
    exact Nat.le_trans hz (by decide)
  · rw [e]; exact vals_ints' ns ts hl
def fuel : Nat := 18446744073709551616
end
end EV
end
section
set_option maxHeartbeats 2000000
set_option autoImplicit false
/-! further: ranges made to tuples and lists, walked backwards; pop(i); extend; sorted ints -/
namespace EV
open PySem PySem.Spec PyProof.Rows L2
section
variable {F : Fam} {pr : List Nat} {K : Frag} {B : Addr → Prop} {Hf H : Hp} {g g' : Gh} {σ : L2.St}
/-! ### ranges -/
abbrev MR := Gh → Option ((Int × Int) × Gh)
def mRr1 (f : ME) : MR := fun g => (f g).bind fun a => (look a.1 a.2).bind fun x => match x with
  | .int j => if okRg j = true then some ((0, j), a.2) else none
  | _ => none
def mRr2 (f h : ME) : MR := fun g => (f g).bind fun a => (h a.2).bind fun b => (look a.1 b.2).bind fun x => (look b.1 b.2).bind fun y => match x, y with
  | .int i, .int j => if okRg i = true ∧ okRg j = true then some ((i, j), b.2) else none
  | _, _ => none
def mTupRg (m : MR) : ME := fun g => (m g).bind fun a => if (a.1.2 - a.1.1).toNat ≤ sizeLine then some (.dat (.tuple (rgD a.1.1 a.1.2)), a.2) else none
def mLstRg (m : MR) : ME := fun g => (m g).bind fun a => if (a.1.2 - a.1.1).toNat ≤ sizeLine then some (.fresh (rgD a.1.1 a.1.2), a.2) else none
/-- reversed(range(..)) -/
def mRevR (m : MR) : MI := fun g => (m g).bind fun a => some ((rgD a.1.1 a.1.2).reverse, a.2)
/-! ### lists that change -/
theorem RepAll.eraseIdx {vs : List V} {ds : List Da} (r : RepAll K H vs ds) (j : Nat) : RepAll K H (vs.eraseIdx j) (ds.eraseIdx j) := by
  rw [List.eraseIdx_eq_take_drop_succ, List.eraseIdx_eq_take_drop_succ]
  exact (r.take j).append (r.drop (j + 1))
/-- xs.pop(k) -/
def mPopAt (i : Nat) (f : ME) : ME := fun g => match g[i]? with
  | some (.own _) => (f g).bind fun b => (look b.1 b.2).bind fun y => match y, b.2[i]? with
    | .int k, some (.own ds) => if okRg k = true then (ixN ds.length k).bind fun j => (ds[j]?).bind fun d => some (.dat d, b.2.set i (.own (ds.eraseIdx j))) else none
    | _, _ => none
  | _ => none
/-- xs.extend(e), e a new list -/
def sExt (i : Nat) (f : ME) : MS := fun g => match g[i]? with
  | some (.own _) => (f g).bind fun a => match a.1, a.2[i]? with
    | .fresh es, some (.own ds) => if ds.length + es.length ≤ sizeLine then some (.nx, a.2.set i (.own (ds ++ es))) else none
    | _, _ => none
  | _ => none
theorem s_ext (i : Nat) {x : Str} {e : Expr} {f : ME} {p1 p2 pos pos' : Pos} (h : Ev F pr e f) (hN : ∀ j, (F.X j).N[i]? = some x := by intro _; rfl) (hv : ∀ j, Vis (F.X j).env.scope x := by intro _; first | exact Or.inl rfl | exact Or.inr (Or.inl rfl) | exact Or.inr (Or.inr rfl))
    (hpe : ∀ (t : TE), (∀ j, PE (F.X j) e t) → ∀ j, PE (F.X j) (.Call (.Attribute (.Name x p1) "extend" p2) [e] [] pos) (tBM (F.X j).K "list" rExtend (tVar i) (tCons t tNil)) := by
      intro t ht j
      exact pe_bm PySem.F.plainAttrs_list PySem.F.slot_list_extend PySem.F.type_list_extend mt_extend (pv _) (pa_cons (ht j) pa_nil))
    (hs : ∀ j, swapsWith (.Call (.Attribute (.Name x p1) "extend" p2) [e] [] pos) none pos'.line (F.X j).env = pure false := by intro _; rfl) : EvS F pr (.Expr (.Call (.Attribute (.Name x p1) "extend" p2) [e] [] pos) pos') (sExt i f) := by
  intro B Hf H g σ fl g' D E eq q
  unfold sExt at eq
  split at eq
  · rename_i ds0 hg0
    obtain ⟨⟨w, g1⟩, e1, eq1⟩ := Option.bind_eq_some_iff.mp eq
    dsimp only at eq1
    split at eq1
    · rename_i es ds hg
      split at eq1
      · rename_i hl
        cases eq1
        obtain ⟨p, us0, k0, k1, k2, k3, _⟩ := E.own_val hg0
        refine ⟨tDrop (tBM F.K "list" rExtend (tVar i) (tCons (U F e) tNil)), fun j => ps_expr (by have z := hpe (U F e) (fun j => pe_U j) j; rw [F.hK j] at z; exact z) (hs j), ?_⟩
        refine ⟨.ref p, k0, .inl ⟨rfl, _, .inl (.inl k1)⟩, ?_⟩
        refine h B Hf H g σ _ g1 _ E e1 fun v Hf1 H1 s1 w1 y1 => ?_
        obtain ⟨b, vs, rfl, _, _, hb, rb, _⟩ := w1
        obtain ⟨p', us, k4, k5, k6, k7, _⟩ := s1.env.own_val hg
        rw [k0] at k4; cases k4
        refine ⟨p, b, us, vs, rfl, rfl, k5, hb, by rw [k7.length, rb.length]; exact hl, ?_⟩
        exact q σ Hf1 _ (s1.change hg k0 (k7.append rb)).s
      · cases eq1
    · cases eq1
  · cases eq
/-! ### sorted ints -/
def sortI (ns : List Int) : List Int := ns.mergeSort (fun a b => decide (a ≤ b))
theorem sortI_perm (ns : List Int) : (sortI ns).Perm ns := List.mergeSort_perm _ _
theorem sortI_le (ns : List Int) : (sortI ns).Pairwise (· ≤ ·) := by
  refine (List.pairwise_mergeSort (le := fun a b : Int => decide (a ≤ b)) ?_ ?_ ns).imp ?_
  · intro a b c h1 h2
    exact decide_eq_true (Int.le_trans (of_decide_eq_true h1) (of_decide_eq_true h2))
  · intro a b
    rcases Int.le_total a b with h | h
    · rw [decide_eq_true h]; rfl
    · rw [decide_eq_true h, Bool.or_true]
  · intro a b h
    exact of_decide_eq_true h
theorem sortI_eq {ns ms : List Int} (p : ms.Perm ns) (s : ms.Pairwise (· ≤ ·)) : ms = sortI ns :=
  List.Perm.eq_of_pairwise (le := fun a b : Int => a ≤ b) (fun a b _ _ h1 h2 => Int.le_antisymm h1 h2) s (sortI_le ns) (p.trans (sortI_perm ns).symm)
def dSorted : List Da → Option Wv
  | [.list xs] => (intsOf xs).map fun ns => .fresh ((sortI ns).map PyData.int)
  | _ => none
theorem cd_sorted : CallD F (.builtin "sorted") dSorted := by
  intro ds w e
  unfold dSorted at e
  split at e
  · rename_i xs
    obtain ⟨ns, e1, e3⟩ := Option.map_eq_some_iff.mp e
    subst e3
    have e1 := intsOf_some e1
    subst e1
    refine ⟨rSortedI F.K, fun i => by have h := @cr_sortedI (F.X i); rw [F.hK i] at h; exact h, fun pr B Hf H g σ vs Q E h c => ?_⟩
    obtain ⟨v, rfl, l⟩ := h.one
    obtain ⟨p, us, rfl, s, r⟩ := l.seqL E.ex
    have := r.ints
    subst this
    exact ⟨p, ns, rfl, s, fun ns' q h1 h2 hq => by rw [sortI_eq h1 h2]; exact c.newL E (RepAll.of_ints _) hq⟩
  · cases e
/-! ### tuple(reversed(list)) -/
def mTupRev (f : ME) : ME := fun g => (f g).bind fun a => (look a.1 a.2).bind fun x => match x with | .list xs => some (.dat (.tuple xs.reverse), a.2) | _ => none
end
end EV
end
section
set_option maxHeartbeats 2000000
set_option autoImplicit false
/-! a new list, or a tuple, times an int -/
namespace EV
open PySem PySem.Spec PyProof.Rows L2
section
variable {F : Fam} {pr : List Nat} {K : Frag} {B : Addr → Prop} {Hf H : Hp} {g g' : Gh} {σ : L2.St}
theorem RepAll.rep {vs : List V} {ds : List Da} (r : RepAll K H vs ds) : ∀ n : Nat, RepAll K H (List.replicate n vs).flatten (List.replicate n ds).flatten
  | 0 => .nil
  | n + 1 => by
    rw [List.replicate_succ, List.replicate_succ, List.flatten_cons, List.flatten_cons]
    exact r.append (RepAll.rep r n)
/-! ### a tuple times an int: the same one, or the empty one -/
/-- [..] * k -/
def mRepL (f h : ME) : ME := fun g => (f g).bind fun a => (h a.2).bind fun b => (look b.1 b.2).bind fun y => match a.1, y with
  | .fresh xs, .int k => if okRg k = true ∧ xs.length * k.toNat ≤ sizeLine then some (.fresh (List.replicate k.toNat xs).flatten, b.2) else none
  | _, _ => none
theorem ev_repL {a b : Expr} {fa fb : ME} {pos : Pos} (ha : Ev F pr a fa) (hb : Ev F pr b fb) : Ev F pr (.BinOp a .Mult b pos) (mRepL fa fb) := by
  intro B Hf H g σ w g' Q E eq q
  obtain ⟨⟨wa, g1⟩, e1, eq⟩ := Option.bind_eq_some_iff.mp eq
  obtain ⟨⟨wb, g2⟩, e2, eq⟩ := Option.bind_eq_some_iff.mp eq
  obtain ⟨y, e4, eq⟩ := Option.bind_eq_some_iff.mp eq
  dsimp only at eq
  split at eq
  · split at eq
    · rename_i hk
      cases eq
      obtain ⟨b1, b2⟩ := okRg_of hk.1
      refine ⟨_, fun i => pe_op (op_rep (X := F.X i)) (pe_U i) (pe_U i), ?_⟩
      refine ha B Hf H g σ _ g1 _ E e1 fun v Hf1 H1 s1 w1 y1 => ?_
      refine hb B Hf1 H1 g1 σ wb _ _ s1.env e2 fun u Hf2 H2 s2 w2 y2 => ?_
      have l2 : RL F.K Hf2 H2 u (.int _) := look_ok s2.env w2 e4
      cases l2.int
      have w3 := s2.way s1.env w1
      obtain ⟨p, vs, rfl, _, _, hp, rp, _⟩ := w3
      refine ⟨p, _, vs, rfl, rfl, hp, by omega, by omega, by rw [rp.length]; exact hk.2, fun z hz => ?_⟩
      have hf := s2.env.frz hz
      refine q _ Hf2 _ ((s1.trans s2).trans ⟨Tr.mut hz, s2.env.mut hz, fun _ h => h⟩) ?_ (fun ds _ p' e => ?_)
      · exact ⟨z, _, rfl, s2.env.nb z hz, hf, upd_same, rp.rep _, s2.env.own_none hz⟩
      · cases e; exact s1.tr.stay _ (s2.tr.stay _ hz)
    · cases eq
  · cases eq
end
end EV
end
section
set_option maxHeartbeats 2000000
set_option autoImplicit false
/-! how many unlike ints a tuple has -/
namespace EV
open PySem PySem.Spec PyProof.Rows L2
/-- unlike ones -/
def uniq : List Int → List Int
  | [] => []
  | x :: r => if x ∈ r then uniq r else x :: uniq r
section
variable {F : Fam} {pr : List Nat} {K : Frag} {B : Addr → Prop} {Hf H : Hp} {g g' : Gh} {σ : L2.St}
def mLenSet (f : ME) : ME := fun g => (f g).bind fun a => (look a.1 a.2).bind fun x => match x with | .tuple xs => (intsOf xs).bind fun ns => if ns.length ≤ 1000 then some (.dat (.int (uniq ns).length), a.2) else none | _ => none
end
end EV
end
section
set_option maxHeartbeats 2000000
set_option autoImplicit false
/-! sorted(tuple of ints) -/
namespace EV
open PySem PySem.Spec PyProof.Rows L2
section
variable {P : Program} {w : World} {A : Around} {E : Value → Shared → Prop} {s : Shared}
abbrev hUp (h : Heap) (vs : List Value) : Heap := Heap.update (Heap.push h (seqObj "list" #[] 0)) h.objs.size (Obj.mapSeq fun b => b ++ vs.toArray)
theorem coll_tup {l : Addr} {vs : List Value} {Q : List Value → Shared → Prop} (pt : s.heap.IsTuple l vs.toArray) (sz : vs.length ≤ sizeLine) (q : Q vs { s with heap := hUp s.heap vs }) : wpAny (model P w) A (collect (.ref l)) Q E s := by
  obtain ⟨ob, g1, g2, m, g3⟩ := id pt
  have g4 : (s.heap.push (seqObj "list" #[] 0)).get? l = some ob := Heap.get?_push_of_some _ g1
  unfold collect
  refine wpAny_bind (wpAny_runValue (codeAny_builtin entry_proto_collect' (wpAny_bind (wpAny_newList (wpAny_pure ⟨Code.quiet_builtin _ (by decide +kernel), codeAny_builtin entry_list_iadd' ?_⟩)))))
  show wpAny _ _ (Builtin.List.listExtendWith (.ref s.heap.objs.size) (.ref l) _) _ _ _
  unfold Builtin.List.listExtendWith -- the tuple's own
  refine wpAny_bind (wpAny_typeOf (T := "tuple") ⟨ob, g4, g2⟩ ?_)
  rw [if_pos (show (Builtin.List.listSameRef _ _ || Value.type "tuple" == Value.type "list" || Value.type "tuple" == Value.type "tuple") = true by rw [show (Value.type "tuple" == Value.type "tuple") = true from rfl, Bool.or_true])]
  refine wpAny_bind (listItems_at g4 g3 (wpAny_bind (listItems_at (xs := #[]) (n := 0) (Heap.get?_push_size _ rfl) rfl ?_)))
  rw [if_neg (show ¬ (!(#[] : Array Value).isEmpty && _) = true by simp)]
  refine wpAny_bind (listUpdate_at (xs := #[]) (n := 0) (Heap.get?_push_size _ rfl) rfl (wpAny_pure ?_) (Nat.zero_le _) (by show (#[] ++ vs.toArray).size ≤ sizeLine + 1; rw [Array.size_append, List.size_toArray]; simp; omega))
  refine wpAny_bind (wpAny_load (get?_update_seq (Heap.get?_push_size s.heap rfl) _) ?_)
  rw [show ((#[] : Array Value) ++ vs.toArray) = vs.toArray by simp]
  exact wpAny_pure q
theorem srt_tup {l : Addr} {vs : List Value} {ltv : Value → Value → Bool} {Q : Value → Shared → Prop} (O : SrtO.Swo ltv) (pt : s.heap.IsTuple l vs.toArray) (sz : vs.length ≤ sizeLine)
    (can : 2 ≤ vs.length → ∀ (g : Heap) (a : Addr), SrtO.SortableO P w A.in1.in1 { s with heap := g } a vs ltv)
    (q : ∀ out : List Value, SrtO.Srtd ltv out → SrtO.Stb ltv out vs → Q (.ref (s.heap.objs.size + 1)) { s with heap := sortedAll s.heap vs out.toArray }) : wpAny (model P w) A (call (.builtin "sorted") [.ref l]) Q E s := by
  refine Calls.call_function_entry kind_sorted plain_sorted entry_sorted (args_sorted1 (.ref l)) ?_
  unfold Builtin.«sorted»
  refine wpAny_bind (m := checkCount "sorted" 1 1 _) (wpAny_pure (wpAny_bind (coll_tup pt sz (wpAny_bind (wpAny_newList ?_ sz)))))
  have n1 : (hUp s.heap vs).objs.size = s.heap.objs.size + 1 := by rw [Heap.size_update, size_push']
  have n2 : ((hUp s.heap vs).push (seqObj "list" vs.toArray 0)).get? (s.heap.objs.size + 1) = some (seqObj "list" vs.toArray 0) := by
    rw [← n1]
    exact Heap.get?_push_size _ rfl
  show wpAny _ _ _ _ _ { s with heap := (hUp s.heap vs).push (seqObj "list" vs.toArray 0) }
  rw [n1]
  exact wpAny_bind (wpAny_holding (wpAny_call_entry slot_list_sort ⟨_, n2, rfl⟩ entry_list_sort (SrtO.list_sort_ord O n2 sz (fun h2 => can h2 _ _) fun out o1 o2 => ⟨_, rfl, wpAny_pure ⟨_, rfl, q out o1 o2⟩⟩) (args_list_sort _)))
end
section
variable {X : Cx}
def rSortedIT (K : Frag) : List V → Hp → VK → Prop := fun vs H Q => ∃ (a : Addr) (ns : List Int), vs = [V.ref a] ∧ SqT K H a (ns.map V.int) ∧ ∀ p : Addr, H p = none → Q (.ref p) (upd H p (.lst ((sortI ns).map V.int)))
theorem cr_sortedIT : CallR X (.builtin "sorted") (rSortedIT X.K) := by
  intro pins s σ H vs us Q I r hh
  obtain ⟨a, ns, rfl, hs, q⟩ := hh
  obtain ⟨its, rv, pt, hz⟩ := I.tuple hs
  rw [Vals.ref1 r]
  have hi := rv.ints
  have hz2 : its.length ≤ sizeLine := by rw [← rv.length]; exact hz
  refine srt_tup SrtO.swo_int (show s.heap.IsTuple a its.toArray from pt) hz2 (fun h2 _ _ => SrtO.ints_sortable hi h2) fun out o1 o2 => ?_
  obtain ⟨k1, k2, k3⟩ := SrtO.ints_out hi o1 o2
  obtain ⟨ep, he⟩ := PyProof.Rows.sortedAll_at s.heap its out.toArray
  have e := sortI_eq k2 k3
  rw [e] at k1
  have hlen : ((sortI ns).map V.int).length ≤ sizeLine := by
    rw [List.length_map, (sortI_perm ns).length_eq]
    rw [List.length_map] at hz
    exact hz
  exact ⟨.ref _, _, I.laid (t' := s.toks) (o := .lst ((sortI ns).map V.int)) (fun _ _ => PyProof.Rows.sortedAll_old) (Nat.le_succ _) ⟨hlen, out, ep, vals_of_ints k1, he⟩, rfl, q _ (I.hok.fresh (Nat.le_succ _))⟩
end
section
variable {F : Fam} {pr : List Nat} {K : Frag} {B : Addr → Prop} {Hf H : Hp} {g g' : Gh} {σ : L2.St}
/-- sorted ints, of a list or a tuple -/
def dSortedA : List Da → Option Wv
  | [.list xs] => dSorted [.list xs]
  | [.tuple xs] => (intsOf xs).map fun ns => .fresh ((sortI ns).map PyData.int)
  | _ => none
theorem cd_sortedA : CallD F (.builtin "sorted") dSortedA := by
  intro ds w e
  unfold dSortedA at e
  split at e
  · exact cd_sorted _ w e
  · rename_i xs
    obtain ⟨ns, e1, e3⟩ := Option.map_eq_some_iff.mp e
    subst e3
    have e1 := intsOf_some e1
    subst e1
    refine ⟨rSortedIT F.K, fun i => by have h := @cr_sortedIT (F.X i); rw [F.hK i] at h; exact h, fun pr B Hf H g σ vs Q E h c => ?_⟩
    obtain ⟨v, rfl, l⟩ := h.one
    obtain ⟨p, us, rfl, s, r⟩ := l.seqT E.ex
    have := r.ints
    subst this
    exact ⟨p, ns, rfl, s, fun q hq => c.newL E (RepAll.of_ints _) hq⟩
  · cases e
end
end EV
end
section
set_option maxHeartbeats 2000000
set_option autoImplicit false
/-! enumerate(tuple) -/
namespace EV
open PySem PySem.Spec PyProof.Rows L2
section
variable {F : Fam} {pr : List Nat} {K : Frag} {B : Addr → Prop} {Hf H : Hp} {g g' : Gh} {σ : L2.St}
/-- enumerate of a list or a tuple -/
def mEnumA (fa : MA) : MI := fun g => (fa g).bind fun a => (toDs a.1 a.2).bind fun r => match r.1 with
  | [.list ds] => some (enumD 0 ds, r.2)
  | [.tuple ds] => some (enumD 0 ds, r.2)
  | _ => none
end
end EV
end
section
set_option maxHeartbeats 2000000
set_option autoImplicit false
/-! zip of two, and of three, each a list or a tuple -/
namespace EV
open PySem PySem.Spec PyProof.Rows L2
section
/-- a list (false) or a tuple (true) -/
def SqA (K : Frag) (b : Bool) (H : Hp) (a : Addr) (xs : List V) : Prop := cond b (SqT K H a xs) (SqL K H a xs)
def ItA (b : Bool) (h : Heap) (it a : Addr) (i : Nat) : Prop := cond b (h.IsTupleIter it a i) (h.IsListIter it a i)
def IsA (b : Bool) (h : Heap) (a : Addr) (xs : Array Value) : Prop := cond b (h.IsTuple a xs) (h.IsList a xs)
def obA (b : Bool) (a : Addr) : Obj := cond b { cls := .type "tuple_iterator", data := .fields #[.ref a, .int 0 0] } { cls := .type "list_iterator", data := .fields #[.ref a, .int 0 0] }
theorem draws_A {P : Program} {w : World} {A : Around} (hh : A.handled = none) (b : Bool) (it a : Addr) (ne : a ≠ it) (xs : Array Value) :
    Draws P w A it [it, a] xs.size (fun i v => xs[i]? = some v) (fun i h => ItA b h it a i ∧ IsA b h a xs) := by
  cases b
  · exact Draws.list hh it a ne xs
  · exact Draws.tuple hh it a ne xs
theorem begins_A (b : Bool) (a : Addr) (xs : Array Value) : Begins (.ref a) (obA b a) fun h => IsA b h a xs := by
  cases b
  · exact begins_list a xs
  · exact begins_tuple a xs
theorem SqA.ex {K : Frag} {b : Bool} {H H' : Hp} {a : Addr} {xs : List V} (e : Evl.Ex H H') (h : SqA K b H a xs) : SqA K b H' a xs := by
  cases b
  · exact Evl.ex_l e h
  · exact Evl.ex_t e h
theorem inv_A {X : Cx} {pns : List (Addr × Obj)} {σ : L2.St} {H : Hp} {s : Shared} {b : Bool} {a : Addr} {xs : List V} (I : L2.Inv X pns σ H s) (h : SqA X.K b H a xs) : ∃ its : List Value, Vals xs its ∧ IsA b s.heap a its.toArray ∧ xs.length ≤ sizeLine := by
  cases b
  · obtain ⟨its, rv, pl, hz⟩ := I.list h
    exact ⟨its, rv, pl.isList, hz⟩
  · obtain ⟨its, rv, pt, hz⟩ := I.tuple h
    exact ⟨its, rv, pt, hz⟩
theorem inj_A {X : Cx} {pns : List (Addr × Obj)} {σ : L2.St} {H : Hp} {s : Shared} {b : Bool} {a : Addr} {xs ys : List V} (I : L2.Inv X pns σ H s) (h : SqA X.K b H a xs) (h2 : SqA X.K b H a ys) : xs = ys := by
  cases b
  · exact I.list_inj h h2
  · exact I.tuple_inj h h2
theorem itA_at {b : Bool} {h h' : Heap} {it a : Addr} {i : Nat} (x : ItA b h it a i) (k : ∀ o, h.get? it = some o → h'.get? it = some o) : ItA b h' it a i := by
  cases b
  · exact Heap.IsListIter.at x k
  · exact Heap.IsTupleIter.at x k
theorem itA_get {b : Bool} {h : Heap} {it a : Addr} {i : Nat} (x : ItA b h it a i) : ∃ o, h.get? it = some o ∧ ∀ v, o.data ≠ .cell v := by
  cases b
  · obtain ⟨o, ho, hc, hd⟩ := x
    exact ⟨o, ho, fun v q => by rw [hd] at q; cases q⟩
  · obtain ⟨o, ho, hc, hd⟩ := x
    exact ⟨o, ho, fun v q => by rw [hd] at q; cases q⟩
theorem itA_new {b : Bool} {h : Heap} {it a : Addr} (x : h.get? it = some (obA b a)) : ItA b h it a 0 := by
  cases b
  · exact ⟨_, x, rfl, rfl⟩
  · exact ⟨_, x, rfl, rfl⟩
def Itz2 (K : Frag) (b1 b2 : Bool) (a1 a2 : Addr) : It :=
  ⟨fun i H => ∃ (xs ys : List V) (x y : V), SqA K b1 H a1 xs ∧ SqA K b2 H a2 ys ∧ xs[i]? = some x ∧ ys[i]? = some y,
   fun i H v H' => ∃ T x y, v = .ref T ∧ H T = none ∧ H' = upd H T (.tup [x, y]) ∧ (∀ xs, SqA K b1 H a1 xs → xs[i]? = some x) ∧ (∀ ys, SqA K b2 H a2 ys → ys[i]? = some y),
   fun i H => ∃ xs ys : List V, SqA K b1 H a1 xs ∧ SqA K b2 H a2 ys ∧ min xs.length ys.length = i⟩
theorem turn_z2 {P : Program} {w : World} {K : Frag} {elts : List Expr} {kk : Nat} {tpos : Pos} {b1 b2 : Bool} {a1 a2 z TI TO i1 i2 : Addr} (sep : ZipSep2 z TI TO i1 i2 [i1, a1] [i2, a2]) :
    Turn P w K (.Tuple elts kk tpos) (Itz2 K b1 b2 a1 a2) [z, TI, TO, i1, i2] z (fun i h => IsZip h z TI TO .none ∧ IsTupOf2 h TI (.ref i1) (.ref i2) ∧ (∃ x y, IsTupOf2 h TO x y) ∧ ItA b1 h i1 a1 i ∧ ItA b2 h i2 a2 i) where
  mem := List.mem_cons_self
  obj := fun i h st b hb => by
    obtain ⟨hz, hI, ⟨x, y, hO⟩, h1, h2⟩ := st
    rcases (show b = z ∨ b = TI ∨ b = TO ∨ b = i1 ∨ b = i2 by simpa using hb) with rfl | rfl | rfl | rfl | rfl
    · exact ⟨_, hz, fun v q => nomatch q⟩
    · exact ⟨_, hI, fun v q => nomatch q⟩
    · exact ⟨_, hO, fun v q => nomatch q⟩
    · exact itA_get h1
    · exact itA_get h2
  keep := fun i h h' st k => by
    obtain ⟨hz, hI, ⟨x, y, hO⟩, h1, h2⟩ := st
    exact ⟨k z (by simp) _ hz, k TI (by simp) _ hI, ⟨x, y, k TO (by simp) _ hO⟩, itA_at h1 (k i1 (by simp)), itA_at h2 (k i2 (by simp))⟩
  item := by
    intro X hQ hw hK hcm i pns s σ H E I hf st hg
    subst hQ hw hK
    obtain ⟨hz, hI, ⟨o1, o2, hO⟩, h1, h2⟩ := st
    obtain ⟨xs, ys, x, y, q1, q2, hx, hy⟩ := hg
    obtain ⟨is1, rv1, p1, _⟩ := inv_A I q1
    obtain ⟨is2, rv2, p2, _⟩ := inv_A I q2
    obtain ⟨u1, hu1, ru1⟩ := rv1.get hx
    obtain ⟨u2, hu2, ru2⟩ := rv2.get hy
    have n1 : a1 ≠ i1 := fun e => by
      cases b1
      · obtain ⟨_, c1, c2, _⟩ := h1
        obtain ⟨_, c3, c4, _⟩ := p1
        rw [e, c1] at c3
        cases c3
        rw [c2] at c4
        simp at c4
      · obtain ⟨_, c1, c2, _⟩ := h1
        obtain ⟨_, c3, c4, _⟩ := p1
        rw [e, c1] at c3
        cases c3
        rw [c2] at c4
        simp at c4
    have n2 : a2 ≠ i2 := fun e => by
      cases b2
      · obtain ⟨_, c1, c2, _⟩ := h2
        obtain ⟨_, c3, c4, _⟩ := p2
        rw [e, c1] at c3
        cases c3
        rw [c2] at c4
        simp at c4
      · obtain ⟨_, c1, c2, _⟩ := h2
        obtain ⟨_, c3, c4, _⟩ := p2
        rw [e, c1] at c3
        cases c3
        rw [c2] at c4
        simp at c4
    have lz : z < s.heap.objs.size := Heap.lt_size hz
    have lI : TI < s.heap.objs.size := Heap.lt_size hI
    have lO : TO < s.heap.objs.size := Heap.lt_size hO
    have l1 : i1 < s.heap.objs.size := by obtain ⟨_, q, _⟩ := itA_get h1; exact Heap.lt_size q
    have l2 : i2 < s.heap.objs.size := by obtain ⟨_, q, _⟩ := itA_get h2; exact Heap.lt_size q
    have z1 : i1 ≠ z := fun e => sep.zf1 (by simp [e])
    have z2 : i2 ≠ z := fun e => sep.zf2 (by simp [e])
    have t1 : TI ≠ i1 := sep.TIi1
    have t2 : TI ≠ i2 := sep.TIi2
    refine wpAny_pyNext_zipD2_item sep (draws_A (A := X.A.in1) (I.ok.hd hcm) b1 i1 a1 n1 is1.toArray) (draws_A (A := X.A.in1) (I.ok.hd hcm) b2 i2 a2 n2 is2.toArray) hz hI hO ⟨h1, p1⟩ ⟨h2, p2⟩ (by rw [List.size_toArray]; exact lt_of_get hu1) (by rw [List.size_toArray]; exact lt_of_get hu2) fun y1 y2 h' tk k1 k2 hz' hO' st1 st2 hT hsz hk => ?_
    have e1 : y1 = u1 := by
      have c : is1[i]? = some y1 := by simpa using k1
      rw [hu1] at c
      cases c
      rfl
    have e2 : y2 = u2 := by
      have c : is2[i]? = some y2 := by simpa using k2
      rw [hu2] at c
      cases c
      rfl
    subst e1 e2
    refine ⟨_, rfl, wpAny_letOwnedTupleGo_zip (s := { s with heap := h', toks := tk }) hz' fun h3 hz3 sb => ?_⟩
    have hT3 : h3.get? s.heap.objs.size = some { cls := .type "tuple", data := .seq #[y1, y2] } := (sb.2 _ (Nat.ne_of_gt lz)).trans hT
    have J1 : Inv X pns σ (upd H s.heap.objs.size (.tup [x, y])) { s with heap := h3, toks := tk } :=
      I.turnedNew (ch := [z, TO, i1, i2]) (fun b ob hb q => (sb.2 b (fun c => hb (by simp [c]))).trans (hk b ob (fun c => hb (by simp [c])) (fun c => hb (by simp [c])) (fun c => hb (by simp [c])) (fun c => hb (by simp [c])) q)) (fun b hb => hf b (by
          rcases (show b = z ∨ b = TO ∨ b = i1 ∨ b = i2 by simpa using hb) with rfl | rfl | rfl | rfl <;> simp)) (Nat.le_refl _)
        ⟨by show 2 ≤ sizeLine; decide, [y1, y2], .cons ru1 (.cons ru2 .nil), ⟨_, hT3, rfl, _, rfl⟩⟩
    refine ⟨.ref s.heap.objs.size, _, J1, rfl, ⟨_, x, y, rfl, I.hok.fresh (Nat.le_refl _), rfl, (fun vs hv => by rw [inj_A I hv q1]; exact hx), fun vs hv => by rw [inj_A I hv q2]; exact hy⟩, ⟨hz3, ?_, ⟨y1, y2, (sb.2 TO sep.TOz).trans hO'⟩, itA_at st1.1 fun o q => (sb.2 i1 z1).trans q, itA_at st2.1 fun o q => (sb.2 i2 z2).trans q⟩, fun b hb => ?_⟩
    · exact (sb.2 TI sep.TIz).trans (hk TI _ sep.TIz sep.TITO t1 t2 hI)
    · have hb2 : b < s.heap.objs.size := by
        rcases (show b = z ∨ b = TI ∨ b = TO ∨ b = i1 ∨ b = i2 by simpa using hb) with rfl | rfl | rfl | rfl | rfl <;> assumption
      rw [upd_ne (Nat.ne_of_lt hb2)]
      exact (hf b hb).1
  done := by
    intro X hQ hw hK hcm i pns s σ H E I hf st hg
    subst hQ hw hK
    obtain ⟨hz, hI, ⟨o1, o2, hO⟩, h1, h2⟩ := st
    obtain ⟨xs, ys, q1, q2, hm⟩ := hg
    obtain ⟨is1, rv1, p1, _⟩ := inv_A I q1
    obtain ⟨is2, rv2, p2, _⟩ := inv_A I q2
    have n1 : a1 ≠ i1 := fun e => by
      cases b1
      · obtain ⟨_, c1, c2, _⟩ := h1
        obtain ⟨_, c3, c4, _⟩ := p1
        rw [e, c1] at c3
        cases c3
        rw [c2] at c4
        simp at c4
      · obtain ⟨_, c1, c2, _⟩ := h1
        obtain ⟨_, c3, c4, _⟩ := p1
        rw [e, c1] at c3
        cases c3
        rw [c2] at c4
        simp at c4
    have n2 : a2 ≠ i2 := fun e => by
      cases b2
      · obtain ⟨_, c1, c2, _⟩ := h2
        obtain ⟨_, c3, c4, _⟩ := p2
        rw [e, c1] at c3
        cases c3
        rw [c2] at c4
        simp at c4
      · obtain ⟨_, c1, c2, _⟩ := h2
        obtain ⟨_, c3, c4, _⟩ := p2
        rw [e, c1] at c3
        cases c3
        rw [c2] at c4
        simp at c4
    have e1 := rv1.length
    have e2 := rv2.length
    refine wpAny_pyNext_zipD2_end sep (draws_A (A := X.A.in1) (I.ok.hd hcm) b1 i1 a1 n1 is1.toArray) (draws_A (A := X.A.in1) (I.ok.hd hcm) b2 i2 a2 n2 is2.toArray) hz hI hO ⟨h1, p1⟩ ⟨h2, p2⟩ (by rw [List.size_toArray]; omega) (by rw [List.size_toArray]; omega) (by rw [List.size_toArray, List.size_toArray]; omega) fun h' tk hk => ⟨rfl, I.turnedL (ch := [z, TO, i1, i2]) (fun b o hb q => hk b o (fun c => hb (by simp [c])) (fun c => hb (by simp [c])) (fun c => hb (by simp [c])) (fun c => hb (by simp [c])) q) (fun b hb => hf b (by
          rcases (show b = z ∨ b = TO ∨ b = i1 ∨ b = i2 by simpa using hb) with rfl | rfl | rfl | rfl <;> simp))⟩
  self := fun A i s Q E st h => wpAny_pyIter_zip st.1 h
end
end EV
namespace EV
open PySem PySem.Spec PyProof.Rows L2
section
theorem isA_lt {b : Bool} {h : Heap} {a : Addr} {xs : Array Value} (x : IsA b h a xs) : a < h.objs.size := by
  cases b
  · obtain ⟨_, q, _⟩ := x
    exact Heap.lt_size q
  · obtain ⟨_, q, _⟩ := x
    exact Heap.lt_size q
def iZ2 (K : Frag) (ta : TA) : TI := fun σ H R => ta σ H fun vs H1 => ∃ (b1 b2 : Bool) (a1 a2 : Addr) (xs ys : List V), vs = [.ref a1, .ref a2] ∧ SqA K b1 H1 a1 xs ∧ SqA K b2 H1 a2 ys ∧ R (Itz2 K b1 b2 a1 a2) H1
theorem pi_z2 {X : Cx} {e e2 : Expr} {ta : TA} {p pos tpos : Pos} {elts : List Expr} {kk : Nat} (hg : Gl X "zip") (hm : X.mg "zip" = none) (ha : PA X [e, e2] ta)
    (hs : starEach [e, e2] X.env = (false, eval e X.env) :: starEach [e2] X.env) (hpl : (backTo pos (starEach [e2] X.env)).any (·.1) = false) :
    PI X (.Tuple elts kk tpos) (.Call (.Name "zip" p) [e, e2] [] pos) (iZ2 X.K ta) := by
  refine ⟨fun pns s σ H R I hh => Call_ (ld_blt I hg hm boot_zip (PyProof.Rows.callWith_type1 (thn (ha.run pos pns s σ H _ I hh) fun us s1 ⟨vs, H1, J1, r1, q1⟩ => ?_) hs hpl))⟩
  obtain ⟨b1, b2, a1, a2, xs, ys, rfl, s1', s2', q⟩ := q1
  cases r1 with
  | cons r rr =>
    cases rr with
    | cons r' rr' =>
      cases rr'
      cases r
      cases r'
      obtain ⟨is1, rv1, p1, _⟩ := inv_A J1 s1'
      obtain ⟨is2, rv2, p2, _⟩ := inv_A J1 s2'
      have m1 := isA_lt p1
      have m2 := isA_lt p2
      refine zip_begins2 (begins_A b1 a1 is1.toArray) (begins_A b2 a2 is2.toArray) p1 p2 fun h' hz hI hO ho1 ho2 hsz hk => wpAny_pyIter_zip hz ?_
      have fp : ∀ b ∈ [s1.heap.objs.size + 4, s1.heap.objs.size + 2, s1.heap.objs.size + 3, s1.heap.objs.size, s1.heap.objs.size + 1], FpOk X pns H1 b := fun b hb => by
        have hls : s1.heap.objs.size ≤ b := by
          rcases (show b = s1.heap.objs.size + 4 ∨ b = s1.heap.objs.size + 2 ∨ b = s1.heap.objs.size + 3 ∨ b = s1.heap.objs.size ∨ b = s1.heap.objs.size + 1 by simpa using hb) with z | z | z | z | z <;> omega
        exact J1.fpOk hls (J1.hok.fresh hls)
      exact ⟨s1.heap.objs.size + 4, [s1.heap.objs.size + 4, s1.heap.objs.size + 2, s1.heap.objs.size + 3, s1.heap.objs.size, s1.heap.objs.size + 1], _, _, H1, rfl, J1.kept (t' := s1.toks) hk, turn_z2 (zip_sep2 (by simpa using m1) (by simpa using m2)), ⟨hz, hI, ⟨_, _, hO⟩, itA_new ho1, itA_new ho2⟩, fp, q⟩
end
section
variable {F : Fam} {pr : List Nat} {K : Frag} {B : Addr → Prop} {Hf H Hf1 H1 : Hp} {g g' : Gh} {σ : L2.St}
theorem rep_seq {v : V} {d : Da} {ds : List Da} (r : Rep K Hf v d) (h : itemsD d = some ds) : ∃ (b : Bool) (a : Addr) (xs : List V), v = .ref a ∧ SqA K b Hf a xs ∧ RepAll K Hf xs ds := by
  cases r with
  | lst sa ra => cases h; exact ⟨false, _, _, rfl, sa, ra⟩
  | tup sa ra => cases h; exact ⟨true, _, _, rfl, sa, ra⟩
  | _ => cases h
theorem walkd_z2 {b1 b2 : Bool} {a b : Addr} {xs ys : List V} {ds es : List Da} (sa : SqA K b1 Hf a xs) (sb : SqA K b2 Hf b ys) (ra : RepAll K Hf xs ds) (rb : RepAll K Hf ys es) : WalkD K (Itz2 K b1 b2 a b) Hf (zipD ds es) := by
  intro Hf1 H1 e1 e2
  have s1 : SqA K b1 H1 a xs := sa.ex (e1.trans e2)
  have s2 : SqA K b2 H1 b ys := sb.ex (e1.trans e2)
  have l1 := ra.length
  have l2 := rb.length
  refine ⟨fun i hi => ?_, ⟨xs, ys, s1, s2, ?_⟩, fun i d x H2 hd y => ?_⟩
  · rw [zip_len] at hi
    exact ⟨xs, ys, xs[i]'(by omega), ys[i]'(by omega), s1, s2, by simp [show i < xs.length by omega], by simp [show i < ys.length by omega]⟩
  · rw [zip_len]; omega
  · obtain ⟨T, u, v, rfl, hT, rfl, h1, h2⟩ := y
    obtain ⟨dx, dy, k1, k2, rfl⟩ := zip_get hd
    obtain ⟨u', hu, ru⟩ := ra.get k1
    obtain ⟨v', hv, rv⟩ := rb.get k2
    have q1 := h1 xs s1
    have q2 := h2 ys s2
    rw [hu] at q1; cases q1
    rw [hv] at q2; cases q2
    exact new_pair e2 (ru.mono e1) (rv.mono e1) hT
/-- zip of two, each a list or a tuple -/
def mZipA (fa : MA) : MI := fun g => (fa g).bind fun a => (toDs a.1 a.2).bind fun r => match r.1 with
  | [x, y] => (itemsD x).bind fun ds => (itemsD y).bind fun es => some (zipD ds es, r.2)
  | _ => none
theorem ei_zipA {a b : Expr} {fa : MA} {p pos tpos : Pos} {elts : List Expr} {kk : Nat} (hm : ∀ i, (F.X i).mg "zip" = none) (ha : EvA F pr [a, b] fa) (hg : ∀ i, Gl (F.X i) "zip" := by intro _; rfl)
    (hs : ∀ i, starEach [a, b] (F.X i).env = (false, eval a (F.X i).env) :: starEach [b] (F.X i).env := by intro _; rfl) (hpl : ∀ i, (backTo pos (starEach [b] (F.X i).env)).any (·.1) = false := by intro _; rfl) :
    EvI F pr (.Tuple elts kk tpos) (.Call (.Name "zip" p) [a, b] [] pos) (mZipA fa) := by
  intro B Hf H g σ ds g' R E eq q
  obtain ⟨⟨ws, g1⟩, e1, eq1⟩ := Option.bind_eq_some_iff.mp eq
  obtain ⟨⟨xs, g2⟩, e2, eq2⟩ := Option.bind_eq_some_iff.mp eq1
  refine ⟨iZ2 F.K (UA F [a, b]), fun i => by have z := pi_z2 (hg i) (hm i) (pa_U (F := F) (e := [a, b]) i) (hs i) (hpl i) (p := p) (tpos := tpos) (elts := elts) (kk := kk); rw [F.hK i] at z; exact z, ?_⟩
  refine ha B Hf H g σ ws g1 _ E e1 fun vs Hf1 H1 s1 w1 y1 => ?_
  obtain ⟨Hf2, s2, _, r2⟩ := toDs_ok s1 w1 y1 e2
  dsimp only at eq2
  split at eq2
  · obtain ⟨d1, i1, eq3⟩ := Option.bind_eq_some_iff.mp eq2
    obtain ⟨d2, i2, eq4⟩ := Option.bind_eq_some_iff.mp eq3
    cases eq4
    cases r2 with
    | cons r r' =>
      cases r' with
      | cons r' r'' =>
        cases r''
        obtain ⟨b1, a1, x1, rfl, sa, ra⟩ := rep_seq r i1
        obtain ⟨b2, a2, x2, rfl, sb, rb⟩ := rep_seq r' i2
        exact ⟨b1, b2, a1, a2, x1, x2, rfl, sa.ex s2.env.ex, sb.ex s2.env.ex, q _ Hf2 H1 s2 (walkd_z2 sa sb ra rb)⟩
  · cases eq2
end
end EV
namespace EV
open PySem PySem.Spec PyProof.Rows L2
section
variable {F : Fam} {pr : List Nat} {K : Frag} {B : Addr → Prop} {Hf H Hf1 H1 : Hp} {g g' : Gh} {σ : L2.St}
/-- triples -/
def zipD3 : List Da → List Da → List Da → List Da
  | d :: ds, e :: es, f :: fs => .tuple [d, e, f] :: zipD3 ds es fs
  | _, _, _ => []
/-- zip of three, each a list or a tuple -/
def mZip3 (fa : MA) : MI := fun g => (fa g).bind fun a => (toDs a.1 a.2).bind fun r => match r.1 with
  | [x, y, z] => (itemsD x).bind fun ds => (itemsD y).bind fun es => (itemsD z).bind fun fs => some (zipD3 ds es fs, r.2)
  | _ => none
end
end EV
end
section
set_option autoImplicit false
namespace Lib
open PySem PySem.Spec PyProof.Rows L2 EV
def m_is_integer : MS :=
    (sRet [] (mAndV (mIsi "int" (mName 0)) (mAndV (mBin (dIs true) (mName 0) (mC (.bool true))) (mAndV (mBin (dIs true) (mName 0) (mC (.bool false))) (mOfT (mChain dLe dLe (mName 1) (mName 0) (mName 2)))))))
def F_is_integer : MF := bodyM [] 0 m_is_integer
def m_is_field : MS :=
    (sSeq (sIf (mNot (mTru (mFn F_is_integer (mCons (mName 0) (mCons (mC (.int 5)) (mCons (mC (.int 997)) mNil)))))) (sRet [] (mC (.bool false))) sNil)
    (sSeq (sFor (mIt (mC (.tuple [(.int 2), (.int 3), (.int 5), (.int 7), (.int 11), (.int 13), (.int 17), (.int 19), (.int 23), (.int 29), (.int 31)]))) (setN 1) (sIf (mCmp dEq (mBin dMod (mName 0) (mName 1)) (mC (.int 0))) (sRet [] (mBin dEq (mName 0) (mName 1))) sNil))
    (sRet [] (mC (.bool true)))))
def F_is_field : MF := bodyM [] 1 m_is_field
def m_check_field : MS :=
    (sIf (mNot (mTru (mFn F_is_field (mCons (mName 0) mNil)))) sNo sNil)
def F_check_field : MF := bodyM [] 0 m_check_field
def m_check_integer : MS :=
    (sIf (mNot (mTru (mFn F_is_integer (mCons (mName 0) (mCons (mName 1) (mCons (mName 2) mNil)))))) sNo sNil)
def F_check_integer : MF := bodyM [] 0 m_check_integer
def m_check_number : MS :=
    (sDrop (mFn F_check_integer (mCons (mName 1) (mCons (mC (.int 0)) (mCons (mBin dSub (mName 0) (mC (.int 1))) mNil)))))
def F_check_number : MF := bodyM [] 0 m_check_number
def m_raised : MS :=
    (sSeq (sSet 3 (mC (.int 1)))
    (sSeq (sSet 4 (mBin dMod (mName 1) (mName 0)))
    (sSeq (sSet 5 (mName 2))
    (sSeq (sWhile EV.fuel (mCmp dGt (mName 5) (mC (.int 0))) (sSeq (sIf (mCmp dEq (mBin dMod (mName 5) (mC (.int 2))) (mC (.int 1))) (sSet 3 (mBin dMod (mBin dMul (mName 3) (mName 4)) (mName 0))) sNil)
    (sSeq (sSet 4 (mBin dMod (mBin dMul (mName 4) (mName 4)) (mName 0)))
    (sSet 5 (mBin dFdiv (mName 5) (mC (.int 2)))))))
    (sRet [] (mName 3))))))
def F_raised : MF := bodyM [] 3 m_raised
def m_inverse : MS :=
    (sRet [] (mFn F_raised (mCons (mName 0) (mCons (mName 1) (mCons (mBin dSub (mName 0) (mC (.int 2))) mNil)))))
def F_inverse : MF := bodyM [] 0 m_inverse
def m__law_dice : MS :=
    (sSeq (sSet 2 (mIf (mCmp dLt (mName 1) (mCall dLen (mCons (mName 0) mNil))) (mCall dInt (mCons (mIx (mName 0) (mName 1)) mNil)) (mBin dAdd (mBin dMul (mC (.int 103)) (mName 1)) (mC (.int 67)))))
    (sSeq (sSet 3 (mBin dMod (mCall dMax (mCons (mC (.int 0)) (mCons (mBin dSub (mCall dAbs (mCons (mName 2) mNil)) (mBin dPow (mC (.int 10)) (mC (.int 16)))) mNil))) (mBin dMul (mBin dPow (mC (.int 10)) (mC (.int 57))) (mBin dPow (mC (.int 10)) (mC (.int 60))))))
    (sRet [] (mLst (mCons (mName 3) (mCons (mBin dAdd (mBin dAdd (mBin dAdd (mBin dMul (mBin dMod (mCall dAbs (mCons (mName 2) mNil)) (mC (.int 1152921504606846733))) (mC (.int 97))) (mBin dMul (mC (.int 1013)) (mName 1))) (mBin dMul (mC (.int 53)) (mCall dInt (mCons (mBin dLt (mName 2) (mC (.int 0))) mNil)))) (mC (.int 41))) (mCons (mC (.int 0)) mNil)))))))
def F__law_dice : MF := bodyM [] 2 m__law_dice
def m__law_roll : MS :=
    (sSeq (sIf (mCmp dGt (mIx (mName 0) (mC (.int 0))) (mC (.int 0))) (sSeq (sSet 2 (mBin dMod (mCall dInt (mCons (mIx (mName 0) (mC (.int 0))) mNil)) (mName 1)))
    (sSeq (sSetIx 0 (mBin dFdiv (mIx (mName 0) (mC (.int 0))) (mName 1)) (mC (.int 0)))
    (sRet [0] (mName 2)))) sNil)
    (sSeq (sSetIx 0 (mBin dAdd (mIx (mName 0) (mC (.int 2))) (mC (.int 1))) (mC (.int 2)))
    (sSeq (sSet 3 (mBin dMod (mCall dInt (mCons (mBin dAdd (mIx (mName 0) (mC (.int 1))) (mBin dMul (mC (.int 86028157)) (mIx (mName 0) (mC (.int 2))))) mNil)) (mC (.int 2305843009213693487))))
    (sSeq (sSet 4 (mBin dAdd (mBin dMul (mBin dMod (mCall dInt (mCons (mBin dAdd (mBin dMul (mName 3) (mName 3)) (mBin dMul (mC (.int 101)) (mIx (mName 0) (mC (.int 2))))) mNil)) (mC (.int 2305843009213693669))) (mC (.int 6700417))) (mName 3)))
    (sRet [0] (mBin dMod (mCall dInt (mCons (mBin dFdiv (mName 4) (mC (.int 65537))) mNil)) (mName 1)))))))
def F__law_roll : MF := bodyM [0] 3 m__law_roll
def m__law_pick : MS :=
    (sRet [0] (mIx (mName 1) (mFnD F__law_roll (mCons (mName 0) (mCons (mCall dLen (mCons (mName 1) mNil)) mNil)))))
def F__law_pick : MF := bodyM [0] 0 m__law_pick
def m__law_fd_primes : MS :=
    (sRet [] (mLst (mCons (mC (.int 5)) (mCons (mC (.int 7)) (mCons (mC (.int 11)) (mCons (mC (.int 13)) (mCons (mC (.int 17)) (mCons (mC (.int 29)) (mCons (mC (.int 31)) (mCons (mC (.int 97)) (mCons (mC (.int 101)) (mCons (mC (.int 499)) (mCons (mC (.int 991)) (mCons (mC (.int 997)) mNil))))))))))))))
def F__law_fd_primes : MF := bodyM [] 0 m__law_fd_primes
def m_are_numbers : MS :=
    (sSeq (sIf (mNot (mTru (mIsi "tuple" (mName 1)))) (sRet [] (mC (.bool false))) sNil)
    (sSeq (sFor (mIt (mName 1)) (setN 2) (sIf (mOr (mNot (mTru (mIsi "int" (mName 2)))) (mOr (mCmp (dIs false) (mName 2) (mC (.bool true))) (mOr (mCmp (dIs false) (mName 2) (mC (.bool false))) (mNot (mChain dLe dLt (mC (.int 0)) (mName 2) (mName 0)))))) (sRet [] (mC (.bool false))) sNil))
    (sRet [] (mC (.bool true)))))
def F_are_numbers : MF := bodyM [] 1 m_are_numbers
end Lib
end
section
set_option autoImplicit false
set_option exponentiation.threshold 1000
/-! the mirrors' equations, for simp: each where it is applied to the slots -/
namespace EV
open PySem PySem.Spec PyProof.Rows L2
section
variable (g g0 : Gh) (f h : ME) (t u : MT) (fa : MA) (it : MI) (s r : MS) (n i : Nat) (Fn F2 : Da → Da → Option Wv) (d : Da) (m : MF) (w : Wv) (ws : List Wv)
theorem e_bodyM (pr : List Nat) : bodyM pr n s g = (s (g ++ List.replicate n .un)).bind fun a => match a.1 with | .rt w => some (w, keepArgs pr g a.2) | .nx => some (.dat .none, keepArgs pr g a.2) | _ => none := rfl
theorem e_seq : sSeq s r g = (s g).bind fun a => match a.1 with | .nx => r a.2 | fl => some (fl, a.2) := rfl
theorem e_nil : sNil g = some (.nx, g) := rfl
theorem e_if : sIf t s r g = (t g).bind fun a => if a.1 = true then s a.2 else r a.2 := rfl
theorem e_set : sSet i f g = (f g).bind fun a => (setN i a.1 a.2).bind fun g' => some (.nx, g') := rfl
theorem e_ret (pr : List Nat) : sRet pr f g = (f g).bind fun a => match a.1 with
  | .slot i => if pr.contains i then (toD (.slot i) a.2).bind fun r => some (.rt (.dat r.1), r.2) else match a.2[i]? with
    | some (.own ds) => some (.rt (.fresh ds), a.2.set i .un)
    | some (.val d) => some (.rt (.dat d), a.2)
    | _ => none
  | w => some (.rt w, a.2) := rfl
theorem e_drop : sDrop f g = (f g).bind fun a => some (.nx, a.2) := rfl
theorem e_par (is : List Nat) : sPar is fa g = (fa g).bind fun a => (setNs is a.1 a.2).bind fun g' => some (.nx, g') := rfl
theorem e_asg (mm : Wv → Gh → Option Gh) : sAsg f mm g = (f g).bind fun a => (mm a.1 a.2).bind fun g' => some (.nx, g') := rfl
theorem e_for (tg : Wv → Gh → Option Gh) : sFor it tg s g = (it g).bind fun a => forL tg s a.1 a.2 := rfl
theorem e_app : sApp i f g = match g[i]? with
  | some (.own _) => (f g).bind fun a => (toD a.1 a.2).bind fun r => match r.2[i]? with
    | some (.own ds) => if ds.length < sizeLine then some (.nx, r.2.set i (.own (ds ++ [r.1]))) else none
    | _ => none
  | _ => none := rfl
theorem e_setix : sSetIx i f h g = (f g).bind fun a => (toD a.1 a.2).bind fun r => match r.2[i]? with
  | some (.own _) => (h r.2).bind fun b => (look b.1 b.2).bind fun y => match y, b.2[i]? with
    | .int k, some (.own ds) => (ixN ds.length k).bind fun j => some (.nx, b.2.set i (.own (ds.set j r.1)))
    | _, _ => none
  | _ => none := rfl
theorem e_aug (k : Int → Int → Int) : sAug i k f g = match g[i]? with
  | some (.val (.int a)) => (f g).bind fun b => (look b.1 b.2).bind fun y => match y with
    | .int j => if i < b.2.length then some (.nx, b.2.set i (.val (.int (k a j)))) else none
    | _ => none
  | _ => none := rfl
theorem e_while : sWhile n t s g = whileL t s n g := rfl
theorem e_name : mName i g = match g[i]? with | some (.val d) => some (.dat d, g) | some (.own _) => some (.slot i, g) | some (.raw v) => some (.raw v, g) | _ => none := rfl
theorem e_c : mC d g = some (.dat d, g) := rfl
theorem e_anil : mNil g = some ([], g) := rfl
theorem e_acons : mCons f fa g = (f g).bind fun a => (fa a.2).bind fun b => some (a.1 :: b.1, b.2) := rfl
theorem e_bin : mBin Fn f h g = (f g).bind fun a => (h a.2).bind fun b => (look a.1 b.2).bind fun x => (look b.1 b.2).bind fun y => (Fn x y).bind fun w => some (w, b.2) := rfl
theorem e_cmp : mCmp Fn f h g = asB (mBin Fn f h g) := rfl
theorem e_brk : sBrk g = some (.bk, g) := rfl
theorem e_cnt : sCnt g = some (.ct, g) := rfl
theorem e_retn : sRetN g = some (.rt (.dat .none), g) := rfl
theorem e_ix : mIx f h g = (f g).bind fun a => (h a.2).bind fun b => (look a.1 b.2).bind fun x => (look b.1 b.2).bind fun y => (dIx x y).bind fun d => some (.dat d, b.2) := rfl
theorem e_call (Fc : List Da → Option Wv) : mCall Fc fa g = (fa g).bind fun a => (lookAll a.1 a.2).bind fun ds => (Fc ds).bind fun w => some (w, a.2) := rfl
theorem e_fn : mFn m fa g = (fa g).bind fun a => (toSls a.1 a.2).bind fun r => (m r.1).bind fun c => some (c.1, r.2) := rfl
theorem e_fn0 : mFn0 m g = (m []).bind fun c => some (c.1, g) := rfl
theorem e_fnD : mFnD m fa g = (fa g).bind fun a => match a.1 with
  | .slot i :: ws => (toSls ws a.2).bind fun r => match r.2[i]? with
    | some (.own ds) => (m (.own ds :: r.1)).bind fun c => match c.2 with
      | s :: _ => some (c.1, r.2.set i s)
      | [] => none
    | _ => none
  | _ => none := rfl
theorem e_ifx : mIf t f h g = (t g).bind fun a => if a.1 = true then f a.2 else h a.2 := rfl
theorem e_oft : mOfT t g = (t g).bind fun a => some (.dat (.bool a.1), a.2) := rfl
theorem e_tru : mTru f g = (f g).bind fun a => (look a.1 a.2).bind fun x => (truthD x).bind fun b => some (b, a.2) := rfl
theorem e_not : mNot t g = (t g).bind fun a => some (!a.1, a.2) := rfl
theorem e_and : mAnd t u g = (t g).bind fun a => if a.1 = true then u a.2 else some (false, a.2) := rfl
theorem e_or : mOr t u g = (t g).bind fun a => if a.1 = true then some (true, a.2) else u a.2 := rfl
theorem e_andv : mAndV f h g = (f g).bind fun a => match a.1 with | .dat (.bool true) => h a.2 | .dat (.bool false) => some (.dat (.bool false), a.2) | _ => none := rfl
theorem e_orv : mOrV f h g = (f g).bind fun a => match a.1 with | .dat (.bool false) => h a.2 | .dat (.bool true) => some (.dat (.bool true), a.2) | _ => none := rfl
theorem e_notv : mNotV f g = (f g).bind fun a => match a.1 with | .dat (.bool b) => some (.dat (.bool (!b)), a.2) | _ => none := rfl
theorem e_neg : mNeg f g = (f g).bind fun a => (look a.1 a.2).bind fun x => match x with | .int i => some (.dat (.int (-i)), a.2) | _ => none := rfl
theorem e_isi (T : String) : mIsi T f g = (f g).bind fun a => (look a.1 a.2).bind fun x => (kitB (tyName x) T).bind fun b => some (.dat (.bool b), a.2) := rfl
theorem e_chain (fc : ME) : mChain Fn F2 f h fc g = (f g).bind fun a => (h a.2).bind fun b => (look a.1 b.2).bind fun x => (look b.1 b.2).bind fun y => match Fn x y with
  | some (.dat (.bool true)) => (fc b.2).bind fun c => (look b.1 c.2).bind fun y' => (look c.1 c.2).bind fun z => match F2 y' z with | some (.dat (.bool k)) => some (k, c.2) | _ => none
  | some (.dat (.bool false)) => some (false, b.2)
  | _ => none := rfl
theorem e_lst : mLst fa g = (fa g).bind fun a => (toDs a.1 a.2).bind fun r => if r.1.length ≤ sizeLine then some (.fresh r.1, r.2) else none := rfl
theorem e_tup : mTup fa g = (fa g).bind fun a => (toDs a.1 a.2).bind fun r => if r.1.length ≤ sizeLine then some (.dat (.tuple r.1), r.2) else none := rfl
theorem e_it : mIt f g = (f g).bind fun a => (toD a.1 a.2).bind fun r => (itemsD r.1).bind fun ds => some (ds, r.2) := rfl
theorem e_rg1 : mRg1 fa g = (fa g).bind fun a => (lookAll a.1 a.2).bind fun ds => match ds with | [.int j] => if okRg j = true then some (rgD 0 j, a.2) else none | _ => none := rfl
theorem e_rg2 : mRg2 fa g = (fa g).bind fun a => (lookAll a.1 a.2).bind fun ds => match ds with | [.int i, .int j] => if okRg i = true ∧ okRg j = true then some (rgD i j, a.2) else none | _ => none := rfl
theorem e_zip : mZip fa g = (fa g).bind fun a => (toDs a.1 a.2).bind fun r => match r.1 with | [.list ds, .list es] => some (zipD ds es, r.2) | [.tuple ds, .tuple es] => some (zipD ds es, r.2) | _ => none := rfl
theorem e_enum : mEnum fa g = (fa g).bind fun a => (toDs a.1 a.2).bind fun r => match r.1 with | [.list ds] => some (enumD 0 ds, r.2) | _ => none := rfl
theorem e_revi : mRevI f g = (f g).bind fun a => (toD a.1 a.2).bind fun r => (itemsD r.1).bind fun ds => some (ds.reverse, r.2) := rfl
theorem e_rev : mRev f g = (f g).bind fun a => (look a.1 a.2).bind fun x => match x with | .list xs => some (.fresh xs.reverse, a.2) | _ => none := rfl
theorem e_o0 : mO0 g = some (none, g) := rfl
theorem e_o1 : mO1 f g = (f g).bind fun a => (look a.1 a.2).bind fun x => match x with | .int i => some (some i, a.2) | _ => none := rfl
theorem e_sl (fl fh : MO) : mSl f fl fh g = (f g).bind fun a => (fl a.2).bind fun l => (fh l.2).bind fun h => (look a.1 h.2).bind fun x => match x with
  | .list xs => some (.fresh (cutD xs l.1 h.1), h.2)
  | .tuple xs => some (.dat (.tuple (cutD xs l.1 h.1)), h.2)
  | _ => none := rfl
theorem e_dict0 : mDict0 g = some (.dat (.dict []), g) := rfl
theorem e_yes : mYes g = some (true, g) := rfl
theorem e_comp (vs : List Nat) (tg : Wv → Gh → Option Gh) : mComp vs it tg t f g = (it g).bind fun a => if a.1.length < sizeLine then (compL vs tg t f a.1 (wipeG a.2 vs)).bind fun r => some (.fresh r.1, restore vs a.2 r.2) else none := rfl
theorem e_pop : mPop i g = match g[i]? with | some (.own ds) => (ds.getLast?).bind fun d => some (.dat d, g.set i (.own ds.dropLast)) | _ => none := rfl
theorem e_asB (b : Bool) : asB (some (.dat (.bool b), g)) = some (b, g) := rfl
theorem e_toDd : toD (.dat d) g = some (d, g) := rfl
theorem e_toDf (ds : List Da) : toD (.fresh ds) g = some (.list ds, g) := rfl
theorem e_toDs : toD (.slot i) g = match g[i]? with | some (.own ds) => some (.list ds, g.set i (.val (.list ds))) | some (.val d) => some (d, g) | _ => none := rfl
theorem e_lkd : look (.dat d) g = some d := rfl
theorem e_lkf (ds : List Da) : look (.fresh ds) g = some (.list ds) := rfl
theorem e_lks : look (.slot i) g = match g[i]? with | some (.own ds) => some (.list ds) | some (.val d) => some d | _ => none := rfl
theorem e_lan : lookAll [] g = some [] := rfl
theorem e_lac : lookAll (w :: ws) g = (look w g).bind fun a => (lookAll ws g).bind fun b => some (a :: b) := rfl
theorem e_tdn : toDs [] g = some ([], g) := rfl
theorem e_tdc : toDs (w :: ws) g = (toD w g).bind fun a => (toDs ws a.2).bind fun b => some (a.1 :: b.1, b.2) := rfl
theorem e_tsn : toSls [] g = some ([], g) := rfl
theorem e_tsd : toSls (.dat d :: ws) g = (toSls ws g).bind fun b => some (.val d :: b.1, b.2) := rfl
theorem e_tsf (ds : List Da) : toSls (.fresh ds :: ws) g = (toSls ws g).bind fun b => some (.val (.list ds) :: b.1, b.2) := rfl
theorem e_tss : toSls (.slot i :: ws) g = (toD (.slot i) g).bind fun a => (toSls ws a.2).bind fun b => some (.val a.1 :: b.1, b.2) := rfl
theorem e_snd : setN i (.dat d) g = if i < g.length then some (g.set i (.val d)) else none := rfl
theorem e_snf (ds : List Da) : setN i (.fresh ds) g = if i < g.length then some (g.set i (.own ds)) else none := rfl
theorem e_snn : setNs [] [] g = some g := rfl
theorem e_snc (is : List Nat) : setNs (i :: is) (w :: ws) g = (slOf w).bind fun s => if i < g.length then setNs is ws (g.set i s) else none := rfl
theorem e_sod : slOf (.dat d) = some (.val d) := rfl
theorem e_sof (ds : List Da) : slOf (.fresh ds) = some (.own ds) := rfl
theorem e_st (is : List Nat) (ds : List Da) : setT is (.dat (.tuple ds)) g = if ds.length = is.length then setNs is (ds.map Wv.dat) g else none := rfl
theorem e_fln (tg : Wv → Gh → Option Gh) : forL tg s [] g = some (.nx, g) := rfl
theorem e_keep (pr : List Nat) : keepArgs pr g0 g = g0.mapIdx fun i s => if pr.contains i then g[i]?.getD .un else s := rfl
theorem e_itl (ds : List Da) : itemsD (.list ds) = some ds := rfl
theorem e_itt (ds : List Da) : itemsD (.tuple ds) = some ds := rfl
end
section
variable (a b : Int) (k : Bool) (xs ys : List Da) (d e : Da)
theorem d_add : dAdd (.int a) (.int b) = some (.dat (.int (a + b))) := rfl
theorem d_addT : dAdd (.tuple xs) (.tuple ys) = if xs.length + ys.length ≤ sizeLine then some (.dat (.tuple (xs ++ ys))) else none := rfl
theorem d_sub : dSub (.int a) (.int b) = some (.dat (.int (a - b))) := rfl
theorem d_mod (h : 0 < b) : dMod (.int a) (.int b) = some (.dat (.int (a % b))) := if_pos (decide_eq_true h)
theorem d_fdiv (h : 0 < b) (h2 : b < 1000000000000000000000) : dFdiv (.int a) (.int b) = some (.dat (.int (a / b))) := by
  have : b.natAbs.log2 < 9000 := by
    have h3 : b.natAbs < 2 ^ 100 := by omega
    exact Nat.lt_of_lt_of_le (PySem.Flt.log2_lt_of (by decide) h3) (by decide)
  exact if_pos (show (decide (0 < b) && decide (b.natAbs.log2 < 9000)) = true by rw [decide_eq_true h, decide_eq_true this]; rfl)
theorem d_pow (h : 0 ≤ b) (h2 : b ≤ 1000000) (h3 : a.natAbs < 2 ^ 64) : dPow (.int a) (.int b) = some (.dat (.int (a ^ b.toNat))) := if_pos (show (decide (0 ≤ b) && decide (b ≤ 1000000) && decide (a.natAbs < 2 ^ 64)) = true by rw [decide_eq_true h, decide_eq_true h2, decide_eq_true h3]; rfl)
theorem d_mulW (h : a.natAbs.log2 + b.natAbs.log2 < 1000000) : dMul (.int a) (.int b) = some (.dat (.int (a * b))) := if_pos h
theorem log2_le {x : Int} {k : Nat} (h : x.natAbs < 2 ^ (k + 1)) : x.natAbs.log2 ≤ k := Nat.le_of_lt_succ (PySem.Flt.log2_lt_of (Nat.succ_pos k) h)
/-- where one factor is below 2^64 and the other below 2^900000 -/
theorem d_mul (h : a.natAbs < 2 ^ 400) (h2 : b.natAbs < 2 ^ 400) : dMul (.int a) (.int b) = some (.dat (.int (a * b))) := by
  refine d_mulW a b ?_
  have h1 := log2_le (k := 399) h
  have h3 := log2_le (k := 399) h2
  omega
theorem d_lt : dLt (.int a) (.int b) = some (.dat (.bool (decide (a < b)))) := rfl
theorem d_le : dLe (.int a) (.int b) = some (.dat (.bool (decide (a ≤ b)))) := rfl
theorem d_gt : dGt (.int a) (.int b) = some (.dat (.bool (decide (b < a)))) := rfl
theorem d_ge : dGe (.int a) (.int b) = some (.dat (.bool (decide (b ≤ a)))) := rfl
theorem d_eq : dEq (.int a) (.int b) = some (.dat (.bool (a == b))) := rfl
theorem d_ne : dNe (.int a) (.int b) = some (.dat (.bool (!(a == b)))) := rfl
theorem eqB_D (h : okEq d = true) (h2 : okEq e = true) : eqB d e = some (PyData.eqv d e) := by
  unfold eqB
  split
  · simp only [PyData.eqv]
  · rw [h, h2]; rfl
theorem d_eqD (h : okEq d = true) (h2 : okEq e = true) : dEq d e = some (.dat (.bool (PyData.eqv d e))) := by
  unfold dEq; rw [eqB_D d e h h2]; rfl
theorem d_neD (h : okEq d = true) (h2 : okEq e = true) : dNe d e = some (.dat (.bool (!PyData.eqv d e))) := by
  unfold dNe; rw [eqB_D d e h h2]; rfl
theorem d_ixl : dIx (.list xs) (.int a) = atI xs a := rfl
theorem d_ixt : dIx (.tuple xs) (.int a) = atI xs a := rfl
theorem d_lenl : dLen [.list xs] = some (.dat (.int xs.length)) := rfl
theorem d_lent : dLen [.tuple xs] = some (.dat (.int xs.length)) := rfl
theorem d_inti : dInt [.int a] = some (.dat (.int a)) := rfl
theorem d_intb : dInt [.bool k] = some (.dat (.int (if k then 1 else 0))) := rfl
theorem d_abs : dAbs [.int a] = some (.dat (.int (if a < 0 then -a else a))) := rfl
theorem d_max2 : dMax [.int a, .int b] = some (.dat (.int (if b > a then b else a))) := rfl
theorem d_min2 : dMin [.int a, .int b] = some (.dat (.int (if b < a then b else a))) := rfl
theorem d_tupl : dTuple [.list xs] = some (.dat (.tuple xs)) := rfl
theorem d_tupt : dTuple [.tuple xs] = some (.dat (.tuple xs)) := rfl
theorem d_lsl : dList [.list xs] = some (.fresh xs) := rfl
theorem d_lst : dList [.tuple xs] = some (.fresh xs) := rfl
theorem d_sum (ns : List Int) : dSum [.list (ns.map PyData.int)] = some (.dat (.int ns.sum)) := by
  show (intsOf (ns.map PyData.int)).map _ = _
  rw [intsOf_map]; rfl
theorem d_any (bs : List Bool) : dAny [.list (bs.map PyData.bool)] = some (.dat (.bool (bs.any id))) := by
  show (boolsOf (bs.map PyData.bool)).map _ = _
  rw [boolsOf_map]; rfl
theorem d_rb : dRepr [.bool k] = some (.dat (.str (if k then "True" else "False"))) := rfl
theorem t_b : truthD (.bool k) = some k := rfl
theorem t_i : truthD (.int a) = some (a != 0) := rfl
theorem t_l : truthD (.list xs) = some (!xs.isEmpty) := rfl
theorem t_t : truthD (.tuple xs) = some (!xs.isEmpty) := rfl
theorem is_nb (neg : Bool) : dIs neg d .none = some (.dat (.bool (if neg then !isNone d else isNone d))) := by unfold dIs; cases d <;> rfl
theorem is_bb (neg : Bool) (j : Bool) : dIs neg d (.bool j) = some (.dat (.bool (if neg then !isBl j d else isBl j d))) := by unfold dIs; cases d <;> rfl
theorem k_ii : kitB (tyName (.int a)) "int" = some true := by show kitB "int" "int" = _; decide +kernel
theorem k_ib : kitB (tyName (.int a)) "bool" = some false := by show kitB "int" "bool" = _; decide +kernel
theorem k_bi : kitB (tyName (.bool k)) "int" = some true := by show kitB "bool" "int" = _; decide +kernel
theorem k_bb : kitB (tyName (.bool k)) "bool" = some true := by show kitB "bool" "bool" = _; decide +kernel
theorem k_ni : kitB (tyName .none) "int" = some false := by show kitB "NoneType" "int" = _; decide +kernel
theorem k_si (x : Str) : kitB (tyName (.str x)) "int" = some false := by show kitB "str" "int" = _; decide +kernel
theorem k_ti : kitB (tyName (.tuple xs)) "int" = some false := by show kitB "tuple" "int" = _; decide +kernel
theorem k_li : kitB (tyName (.list xs)) "int" = some false := by show kitB "list" "int" = _; decide +kernel
theorem k_di (q : List (Da × Da)) : kitB (tyName (.dict q)) "int" = some false := by show kitB "dict" "int" = _; decide +kernel
theorem k_tt : kitB (tyName (.tuple xs)) "tuple" = some true := by show kitB "tuple" "tuple" = _; decide +kernel
end
end EV
end
section
set_option exponentiation.threshold 3000
namespace Lib
open PySem PySem.Spec PyProof.Rows L2 EV
local macro_rules | `(tactic| walk_at "ev") => `(tactic| simp only [e_bodyM, e_seq, e_nil, e_if, e_set, e_ret, e_drop, e_par, e_asg, e_for, e_app, e_setix, e_aug, e_name, e_c, e_anil, e_acons, e_bin, e_cmp, e_brk, e_cnt, e_retn, e_ix, e_call, e_fn, e_fn0, e_fnD, e_ifx, e_oft, e_tru, e_not, e_and, e_or, e_andv, e_orv, e_notv, e_neg, e_isi, e_chain, e_lst, e_tup, e_it, e_rg1, e_rg2, e_zip, e_enum, e_revi, e_rev, e_o0, e_o1, e_sl, e_dict0, e_yes, e_comp, e_pop, e_asB, e_toDd, e_toDf, e_toDs, e_lkd, e_lkf, e_lks, e_lan, e_lac, e_tdn, e_tdc, e_tsn, e_tsd, e_tsf, e_tss, e_snd, e_snf, e_snn, e_snc, e_sod, e_sof, e_st, e_fln, e_keep, e_itl, e_itt,
  d_add, d_sub, d_lt, d_le, d_gt, d_ge, d_eq, d_ne, d_ixl, d_ixt, d_lenl, d_lent, d_inti, d_intb, d_abs, d_max2, d_min2, d_tupl, d_tupt, d_lsl, d_lst, d_rb, t_b, t_i, t_l, t_t, is_nb, is_bb, k_ii, k_ib, k_bi, k_bb, k_ni, k_si, k_ti, k_li, k_di, k_tt, isNone, isBl,
  Option.bind_some, Option.bind_none, Option.map_some, Option.map_none, List.append_nil, List.cons_append, List.nil_append, List.replicate, List.getElem?_cons_zero, List.getElem?_cons_succ, List.getElem?_nil, List.set_cons_zero, List.set_cons_succ, List.length_cons, List.length_nil, List.mapIdx_cons, List.mapIdx_nil, List.contains_nil, List.contains_cons, Bool.false_eq_true, if_true, if_false, reduceIte, Bool.not_true, Bool.not_false, Option.getD_some, Function.comp, List.map_cons, List.map_nil,
  Nat.reduceLT, Nat.reduceAdd, Nat.reduceBEq, Nat.reduceEqDiff, Nat.reduceLeDiff, Int.reduceLT, Int.reduceLE, decide_true, decide_false, beq_self_eq_true, Bool.or_false, Bool.or_true, Bool.true_or, Bool.false_or, Bool.and_true, Bool.true_and, Bool.and_false, Bool.false_and, and_self, Nat.zero_add])
theorem t_is_integer (v lo hi : Int) : F_is_integer [.val (.int v), .val (.int lo), .val (.int hi)] = some (.dat (.bool (decide (lo ≤ v) && decide (v ≤ hi))), [.val (.int v), .val (.int lo), .val (.int hi)]) := by
  unfold F_is_integer m_is_integer
  by_cases h : lo ≤ v
  · walk_at "ev"
    simp [h]
  · walk_at "ev"
    simp [h]
/-- is_field of ints -/
def fldGo (v : Int) : List Int → Bool
  | [] => true
  | q :: r => if v % q = 0 then v == q else fldGo v r
def isFld (v : Int) : Bool := decide (5 ≤ v) && decide (v ≤ 997) && fldGo v [2, 3, 5, 7, 11, 13, 17, 19, 23, 29, 31]
theorem fld_loop (v : Int) : ∀ (qs : List Int) (s : Sl), (∀ q ∈ qs, 0 < q) → ∃ s', forL (setN 1) (sIf (mCmp dEq (mBin dMod (mName 0) (mName 1)) (mC (.int 0))) (sRet [] (mBin dEq (mName 0) (mName 1))) sNil) (qs.map PyData.int) [.val (.int v), s] = some (.nx, [.val (.int v), s']) ∧ fldGo v qs = true
    ∨ forL (setN 1) (sIf (mCmp dEq (mBin dMod (mName 0) (mName 1)) (mC (.int 0))) (sRet [] (mBin dEq (mName 0) (mName 1))) sNil) (qs.map PyData.int) [.val (.int v), s] = some (.rt (.dat (.bool (fldGo v qs))), [.val (.int v), s']) := by
  intro qs
  induction qs with
  | nil => intro s _; exact ⟨s, .inl ⟨rfl, rfl⟩⟩
  | cons q qs ih =>
    intro s hq
    have h0 : 0 < q := hq q List.mem_cons_self
    rw [List.map_cons]
    unfold forL
    by_cases h : v % q = 0
    · refine ⟨.val (.int q), .inr ?_⟩
      walk_at "ev"
      simp only [d_mod v q h0, h, Option.bind_some, e_lkd, d_eq, beq_self_eq_true, e_asB, if_true, fldGo]
      walk_at "ev"
    · have hb : (v % q == 0) = false := by simpa using h
      obtain ⟨s', hs⟩ := ih (.val (.int q)) fun q h => hq q (List.mem_cons_of_mem _ h)
      refine ⟨s', ?_⟩
      walk_at "ev"
      simp only [d_mod v q h0, hb, Option.bind_some, e_lkd, d_eq, e_asB, Bool.false_eq_true, if_false, fldGo, if_neg h]
      exact hs
theorem t_is_field (v : Int) : F_is_field [.val (.int v)] = some (.dat (.bool (isFld v)), [.val (.int v)]) := by
  unfold F_is_field m_is_field isFld
  by_cases h1 : (decide (5 ≤ v) && decide (v ≤ 997)) = true
  · obtain ⟨s', h | h⟩ := fld_loop v [2, 3, 5, 7, 11, 13, 17, 19, 23, 29, 31] .un (by decide)
    · walk_at "ev"
      rw [t_is_integer]
      simp only [h1]
      walk_at "ev"
      rw [List.map_cons] at h
      simp only [List.map_cons, List.map_nil] at h
      rw [h.1]
      walk_at "ev"
      rw [h.2]
    · walk_at "ev"
      rw [t_is_integer]
      simp only [h1]
      walk_at "ev"
      simp only [List.map_cons, List.map_nil] at h
      rw [h]
      walk_at "ev"
  · have h1 : (decide (5 ≤ v) && decide (v ≤ 997)) = false := by simpa using h1
    walk_at "ev"
    rw [t_is_integer]
    simp only [h1]
    walk_at "ev"
end Lib
end
section
set_option autoImplicit false
set_option exponentiation.threshold 1000
/-! comparing data: what may be compared, and what comes out -/
namespace EV
open PySem PySem.Spec PyProof.Rows L2
/-- data without dicts, of at most so deep a nesting -/
def Flat (n : Nat) (d : Da) : Prop := noDict d = true ∧ d.canLay0 = true ∧ d.depth ≤ n
theorem flat_int {n : Nat} (i : Int) : Flat n (.int i) := ⟨rfl, by simp only [PyData.canLay0], by simp only [PyData.depth]; omega⟩
theorem flat_bool {n : Nat} (b : Bool) : Flat n (.bool b) := ⟨rfl, by simp only [PyData.canLay0], by simp only [PyData.depth]; omega⟩
theorem flat_none {n : Nat} : Flat n .none := ⟨rfl, by simp only [PyData.canLay0], by simp only [PyData.depth]; omega⟩
theorem flat_all {n : Nat} : ∀ {xs : List Da}, (∀ x ∈ xs, Flat n x) → noDictAll xs = true ∧ PyData.canLayAll0 xs = true ∧ PyData.depthAll xs ≤ n
  | [], _ => ⟨rfl, by simp only [PyData.canLayAll0], by simp only [PyData.depthAll]; omega⟩
  | x :: xs, h => by
    obtain ⟨h1, h2, h3⟩ := h x List.mem_cons_self
    obtain ⟨k1, k2, k3⟩ := flat_all fun x hx => h x (List.mem_cons_of_mem _ hx)
    refine ⟨?_, ?_, ?_⟩
    · simp only [noDictAll, h1, k1, Bool.and_true]
    · simp only [PyData.canLayAll0, h2, k2, Bool.and_true]
    · simp only [PyData.depthAll]; omega
theorem flat_list {n : Nat} {xs : List Da} (h : ∀ x ∈ xs, Flat n x) : Flat (n + 1) (.list xs) := by
  obtain ⟨k1, k2, k3⟩ := flat_all h
  exact ⟨by simp only [noDict, k1], by simp only [PyData.canLay0, k2], by simp only [PyData.depth]; omega⟩
theorem flat_tuple {n : Nat} {xs : List Da} (h : ∀ x ∈ xs, Flat n x) : Flat (n + 1) (.tuple xs) := by
  obtain ⟨k1, k2, k3⟩ := flat_all h
  exact ⟨by simp only [noDict, k1], by simp only [PyData.canLay0, k2], by simp only [PyData.depth]; omega⟩
theorem flat_ints {n : Nat} (ns : List Int) : ∀ x ∈ ns.map PyData.int, Flat n x := by
  intro x hx
  obtain ⟨i, _, rfl⟩ := List.mem_map.mp hx
  exact flat_int i
theorem ok_flat {n : Nat} {d : Da} (h : Flat n d) (hn : n ≤ 64 := by decide) : okEq d = true := by
  show (noDict d && SeqAt.shaped d) = true
  rw [h.1]
  show (d.canLay0 && decide (d.depth ≤ 64)) = true
  rw [h.2.1, decide_eq_true (Nat.le_trans h.2.2 hn)]
  rfl
mutual
theorem eqv_self : ∀ d : Da, noDict d = true → PyData.eqv d d = true
  | .none, _ => by simp only [PyData.eqv]
  | .bool b, _ => by simp only [PyData.eqv, beq_self_eq_true]
  | .int b, _ => by simp only [PyData.eqv, beq_self_eq_true]
  | .str b, _ => by simp only [PyData.eqv, beq_self_eq_true]
  | .list xs, h => by simp only [PyData.eqv]; exact eqvAll_self xs (by simpa only [noDict] using h)
  | .tuple xs, h => by simp only [PyData.eqv]; exact eqvAll_self xs (by simpa only [noDict] using h)
  | .dict _, h => by simp [noDict] at h
theorem eqvAll_self : ∀ xs : List Da, noDictAll xs = true → PyData.eqvAll xs xs = true
  | [], _ => by simp only [PyData.eqvAll]
  | x :: xs, h => by
    simp only [noDictAll, Bool.and_eq_true] at h
    simp only [PyData.eqvAll, eqv_self x h.1, eqvAll_self xs h.2, Bool.and_self]
end
theorem d_eqS {n : Nat} {d : Da} (h : Flat n d) (hn : n ≤ 64 := by decide) : dEq d d = some (.dat (.bool true)) := by
  rw [d_eqD _ _ (ok_flat h hn) (ok_flat h hn), eqv_self d h.1]
theorem d_neS {n : Nat} {d : Da} (h : Flat n d) (hn : n ≤ 64 := by decide) : dNe d d = some (.dat (.bool false)) := by
  rw [d_neD _ _ (ok_flat h hn) (ok_flat h hn), eqv_self d h.1]; rfl
theorem d_eqNil {n : Nat} {xs : List Da} (h : Flat n (.list xs)) (hn : n ≤ 64 := by decide) : dEq (.list xs) (.list []) = some (.dat (.bool xs.isEmpty)) := by
  rw [d_eqD _ _ (ok_flat h hn) (ok_flat (flat_list (n := 0) (xs := []) fun x hx => by cases hx))]
  cases xs <;> simp only [PyData.eqv, PyData.eqvAll, List.isEmpty]
end EV
end
section
set_option autoImplicit false
/-! the later mirrors' equations, for simp -/
namespace EV
open PySem PySem.Spec PyProof.Rows L2
section
variable (g : Gh) (f h : ME) (i : Nat) (m : MR) (a b : Int) (k : Bool) (xs ys : List Da) (ns : List Int)
theorem e_rr1 : mRr1 f g = (f g).bind fun a => (look a.1 a.2).bind fun x => match x with
  | .int j => if okRg j = true then some (((0 : Int), j), a.2) else none
  | _ => none := rfl
theorem e_rr2 : mRr2 f h g = (f g).bind fun a => (h a.2).bind fun b => (look a.1 b.2).bind fun x => (look b.1 b.2).bind fun y => match x, y with
  | .int i, .int j => if okRg i = true ∧ okRg j = true then some ((i, j), b.2) else none
  | _, _ => none := rfl
theorem e_tupRg : mTupRg m g = (m g).bind fun a => if (a.1.2 - a.1.1).toNat ≤ sizeLine then some (.dat (.tuple (rgD a.1.1 a.1.2)), a.2) else none := rfl
theorem e_lstRg : mLstRg m g = (m g).bind fun a => if (a.1.2 - a.1.1).toNat ≤ sizeLine then some (.fresh (rgD a.1.1 a.1.2), a.2) else none := rfl
theorem e_revR : mRevR m g = (m g).bind fun a => some ((rgD a.1.1 a.1.2).reverse, a.2) := rfl
theorem e_popAt : mPopAt i f g = match g[i]? with
  | some (.own _) => (f g).bind fun b => (look b.1 b.2).bind fun y => match y, b.2[i]? with
    | .int k, some (.own ds) => if okRg k = true then (ixN ds.length k).bind fun j => (ds[j]?).bind fun d => some (.dat d, b.2.set i (.own (ds.eraseIdx j))) else none
    | _, _ => none
  | _ => none := rfl
theorem e_ext : sExt i f g = match g[i]? with
  | some (.own _) => (f g).bind fun a => match a.1, a.2[i]? with
    | .fresh es, some (.own ds) => if ds.length + es.length ≤ sizeLine then some (.nx, a.2.set i (.own (ds ++ es))) else none
    | _, _ => none
  | _ => none := rfl
theorem e_tupRev : mTupRev f g = (f g).bind fun a => (look a.1 a.2).bind fun x => match x with | .list xs => some (.dat (.tuple xs.reverse), a.2) | _ => none := rfl
theorem e_repL : mRepL f h g = (f g).bind fun a => (h a.2).bind fun b => (look b.1 b.2).bind fun y => match a.1, y with
  | .fresh xs, .int k => if okRg k = true ∧ xs.length * k.toNat ≤ sizeLine then some (.fresh (List.replicate k.toNat xs).flatten, b.2) else none
  | _, _ => none := rfl
theorem e_lenSet : mLenSet f g = (f g).bind fun a => (look a.1 a.2).bind fun x => match x with | .tuple xs => (intsOf xs).bind fun ns => if ns.length ≤ 1000 then some (.dat (.int (uniq ns).length), a.2) else none | _ => none := rfl
theorem e_zipA (fa : MA) : mZipA fa g = (fa g).bind fun a => (toDs a.1 a.2).bind fun r => match r.1 with | [x, y] => (itemsD x).bind fun ds => (itemsD y).bind fun es => some (zipD ds es, r.2) | _ => none := rfl
theorem e_zip3 (fa : MA) : mZip3 fa g = (fa g).bind fun a => (toDs a.1 a.2).bind fun r => match r.1 with | [x, y, z] => (itemsD x).bind fun ds => (itemsD y).bind fun es => (itemsD z).bind fun fs => some (zipD3 ds es fs, r.2) | _ => none := rfl
theorem e_enumA (fa : MA) : mEnumA fa g = (fa g).bind fun a => (toDs a.1 a.2).bind fun r => match r.1 with | [.list ds] => some (enumD 0 ds, r.2) | [.tuple ds] => some (enumD 0 ds, r.2) | _ => none := rfl
theorem flat1 {α : Type} (x : α) : ∀ n : Nat, (List.replicate n [x]).flatten = List.replicate n x
  | 0 => rfl
  | n + 1 => by rw [List.replicate_succ, List.flatten_cons, flat1 x n]; rfl
end
end EV
end
local macro_rules | `(tactic| walk_at "ev") => `(tactic| try simp only [EV.e_bodyM, EV.e_seq, EV.e_nil, EV.e_if, EV.e_set, EV.e_ret, EV.e_drop, EV.e_par, EV.e_asg, EV.e_for, EV.e_app, EV.e_setix, EV.e_aug, EV.e_name, EV.e_c, EV.e_anil, EV.e_acons, EV.e_bin, EV.e_cmp, EV.e_brk, EV.e_cnt, EV.e_retn, EV.e_ix, EV.e_call, EV.e_fn, EV.e_fn0, EV.e_fnD, EV.e_ifx, EV.e_oft, EV.e_tru, EV.e_not, EV.e_and, EV.e_or, EV.e_andv, EV.e_orv, EV.e_notv, EV.e_neg, EV.e_isi, EV.e_chain, EV.e_lst, EV.e_tup, EV.e_it, EV.e_rg1, EV.e_rg2, EV.e_zip, EV.e_enum, EV.e_revi, EV.e_rev, EV.e_o0, EV.e_o1, EV.e_sl, EV.e_dict0, EV.e_yes, EV.e_comp, EV.e_pop, EV.e_asB, EV.e_toDd, EV.e_toDf, EV.e_toDs, EV.e_lkd, EV.e_lkf, EV.e_lks, EV.e_lan, EV.e_lac, EV.e_tdn, EV.e_tdc, EV.e_tsn, EV.e_tsd, EV.e_tsf, EV.e_tss, EV.e_snd, EV.e_snf, EV.e_snn, EV.e_snc, EV.e_sod, EV.e_sof, EV.e_st, EV.e_fln, EV.e_keep, EV.e_itl, EV.e_itt, EV.e_rr1, EV.e_rr2, EV.e_tupRg, EV.e_lstRg, EV.e_revR, EV.e_popAt, EV.e_ext, EV.e_tupRev, EV.e_repL, EV.e_lenSet, EV.e_enumA, EV.e_zipA, EV.e_zip3, EV.d_addT, EV.flat1,
  EV.d_add, EV.d_sub, EV.d_lt, EV.d_le, EV.d_gt, EV.d_ge, EV.d_eq, EV.d_ne, EV.d_ixl, EV.d_ixt, EV.d_lenl, EV.d_lent, EV.d_inti, EV.d_intb, EV.d_abs, EV.d_max2, EV.d_min2, EV.d_tupl, EV.d_tupt, EV.d_lsl, EV.d_lst, EV.d_rb, EV.t_b, EV.t_i, EV.t_l, EV.t_t, EV.is_nb, EV.is_bb, EV.k_ii, EV.k_ib, EV.k_bi, EV.k_bb, EV.k_ni, EV.k_si, EV.k_ti, EV.k_li, EV.k_di, EV.k_tt, EV.isNone, EV.isBl,
  Option.bind_some, Option.bind_none, Option.map_some, Option.map_none, List.append_nil, List.cons_append, List.nil_append, List.replicate, List.getElem?_cons_zero, List.getElem?_cons_succ, List.getElem?_nil, List.set_cons_zero, List.set_cons_succ, List.length_cons, List.length_nil, List.mapIdx_cons, List.mapIdx_nil, List.contains_nil, List.contains_cons, Bool.false_eq_true, if_true, if_false, reduceIte, Bool.not_true, Bool.not_false, Option.getD_some, Function.comp, List.map_cons, List.map_nil,
  Nat.reduceLT, Nat.reduceAdd, Nat.reduceBEq, Nat.reduceEqDiff, Nat.reduceLeDiff, Int.reduceLT, Int.reduceLE, decide_true, decide_false, beq_self_eq_true, Bool.or_false, Bool.or_true, Bool.true_or, Bool.false_or, Bool.and_true, Bool.true_and, Bool.and_false, Bool.false_and, and_self, Nat.zero_add])
section
set_option exponentiation.threshold 3000
namespace Lib
open PySem PySem.Spec PyProof.Rows L2 EV
theorem t_check_field {v : Int} (h : isFld v = true) : F_check_field [.val (.int v)] = some (.dat .none, [.val (.int v)]) := by
  unfold F_check_field m_check_field
  walk_at "ev"
  rw [t_is_field, h]
  walk_at "ev"
theorem t_check_integer {v lo hi : Int} (h1 : lo ≤ v) (h2 : v ≤ hi) : F_check_integer [.val (.int v), .val (.int lo), .val (.int hi)] = some (.dat .none, [.val (.int v), .val (.int lo), .val (.int hi)]) := by
  unfold F_check_integer m_check_integer
  walk_at "ev"
  rw [t_is_integer, decide_eq_true h1, decide_eq_true h2]
  walk_at "ev"
theorem t_check_number {p v : Int} (h1 : 0 ≤ v) (h2 : v < p) : F_check_number [.val (.int p), .val (.int v)] = some (.dat .none, [.val (.int p), .val (.int v)]) := by
  unfold F_check_number m_check_number
  walk_at "ev"
  rw [t_check_integer h1 (by omega)]
  walk_at "ev"
theorem fld_pos {p : Int} (h : isFld p = true) : 5 ≤ p ∧ p ≤ 997 := by
  unfold isFld at h
  simp only [Bool.and_eq_true, decide_eq_true_eq] at h
  exact h.1
theorem big {x : Int} (h1 : 0 ≤ x) (h2 : x < 100000000000000000000000000000) : x.natAbs < 2 ^ 400 := Nat.lt_of_lt_of_le (show x.natAbs < 2 ^ 100 by omega) (Nat.pow_le_pow_right (by decide) (by decide))
/-! ### powers modulo -/
theorem mm (a b p : Int) : (a % p * (b % p)) % p = (a * b) % p := (Int.mul_emod a b p).symm
theorem mml (a b p : Int) : (a % p * b) % p = (a * b) % p := by rw [Int.mul_emod, Int.emod_emod_of_dvd a (Int.dvd_refl p), ← Int.mul_emod]
theorem mmr (a b p : Int) : (a * (b % p)) % p = (a * b) % p := by rw [Int.mul_emod, Int.emod_emod_of_dvd b (Int.dvd_refl p), ← Int.mul_emod]
theorem emod_pow' (a p : Int) : ∀ k : Nat, ((a % p) ^ k) % p = (a ^ k) % p
  | 0 => by rw [Int.pow_zero, Int.pow_zero]
  | k + 1 => by
    rw [Int.pow_succ, Int.pow_succ, mmr, ← mml, emod_pow' a p k, mml]
theorem pw_step (p r s : Int) (l : Nat) : (r * s ^ l) % p = ((if l % 2 = 1 then r * s % p else r) * (s * s % p) ^ (l / 2)) % p := by
  have e : s ^ l = s ^ (l % 2) * (s * s) ^ (l / 2) := by
    have h : s * s = s ^ 2 := by rw [Int.pow_succ, Int.pow_succ, Int.pow_zero, Int.one_mul]
    rw [h, ← Int.pow_mul, ← Int.pow_add, Nat.mod_add_div]
  by_cases h : l % 2 = 1
  · rw [if_pos h, mml (r * s), ← mmr (r * s), emod_pow', mmr, e, h, Int.pow_succ, Int.pow_zero, Int.one_mul, Int.mul_assoc]
  · have h0 : l % 2 = 0 := by omega
    rw [if_neg h, ← mmr r ((s * s % p) ^ (l / 2)), emod_pow', mmr, e, h0, Int.pow_zero, Int.one_mul]
/-- what the loop of raised gives -/
def pwGo (p : Int) (r s : Int) : Nat → Nat → Int
  | 0, _ => r
  | _ + 1, 0 => r
  | n + 1, l + 1 => pwGo p (if (l + 1) % 2 = 1 then r * s % p else r) (s * s % p) n ((l + 1) / 2)
theorem pwGo_mod {p : Int} : ∀ (n l : Nat) (r s : Int), l ≤ n → pwGo p r s n l % p = (r * s ^ l) % p
  | 0, 0, r, s, _ => by simp [pwGo]
  | 0, l + 1, r, s, h => by omega
  | n + 1, 0, r, s, _ => by simp [pwGo]
  | n + 1, l + 1, r, s, h => by
    unfold pwGo
    rw [pwGo_mod n ((l + 1) / 2) _ _ (by omega), pw_step p r s (l + 1)]
theorem pwGo_range {p : Int} (hp : 0 < p) : ∀ (n l : Nat) (r s : Int), 0 ≤ r → r < p → 0 ≤ pwGo p r s n l ∧ pwGo p r s n l < p
  | 0, l, r, s, h1, h2 => by unfold pwGo; exact ⟨h1, h2⟩
  | n + 1, 0, r, s, h1, h2 => by unfold pwGo; exact ⟨h1, h2⟩
  | n + 1, l + 1, r, s, h1, h2 => by
    unfold pwGo
    split
    · exact pwGo_range hp n _ _ _ (Int.emod_nonneg _ (by omega)) (Int.emod_lt_of_pos _ hp)
    · exact pwGo_range hp n _ _ _ h1 h2
theorem raised_loop {p a k : Int} (hp : 5 ≤ p) (hp2 : p ≤ 997) : ∀ (n l : Nat) (r s : Int), l ≤ n → 0 ≤ r → r < p → 0 ≤ s → s < p → ∀ m, n < m → ∃ s', whileL (mCmp dGt (mName 5) (mC (.int 0))) (sSeq (sIf (mCmp dEq (mBin dMod (mName 5) (mC (.int 2))) (mC (.int 1))) (sSet 3 (mBin dMod (mBin dMul (mName 3) (mName 4)) (mName 0))) sNil)
    (sSeq (sSet 4 (mBin dMod (mBin dMul (mName 4) (mName 4)) (mName 0))) (sSet 5 (mBin dFdiv (mName 5) (mC (.int 2)))))) m [.val (.int p), .val (.int a), .val (.int k), .val (.int r), .val (.int s), .val (.int l)] = some (.nx, [.val (.int p), .val (.int a), .val (.int k), .val (.int (pwGo p r s n l)), .val (.int s'), .val (.int 0)]) := by
  intro n
  induction n with
  | zero =>
    intro l r s hl _ _ _ _ m hm
    obtain ⟨m, rfl⟩ : ∃ k, m = k + 1 := ⟨m - 1, by omega⟩
    have : l = 0 := by omega
    subst this
    refine ⟨s, ?_⟩
    unfold whileL
    walk_at "ev"
    simp [pwGo]
  | succ n ih =>
    intro l r s hl h1 h2 h3 h4 m hm
    obtain ⟨m, rfl⟩ : ∃ k, m = k + 1 := ⟨m - 1, by omega⟩
    cases l with
    | zero =>
      refine ⟨s, ?_⟩
      unfold whileL
      walk_at "ev"
      simp [pwGo]
    | succ l =>
      have hp0 : 0 < p := by omega
      have k1 := Int.emod_nonneg (s * s) (show p ≠ 0 by omega)
      have k2 := Int.emod_lt_of_pos (s * s) hp0
      have k3 := Int.emod_nonneg (r * s) (show p ≠ 0 by omega)
      have k4 := Int.emod_lt_of_pos (r * s) hp0
      have c1 : decide ((0 : Int) < ((l + 1 : Nat) : Int)) = true := decide_eq_true (by omega)
      have c2 : (((l + 1 : Nat) : Int) % 2 == 1) = decide ((l + 1) % 2 = 1) := by
        rw [Bool.eq_iff_iff, beq_iff_eq, decide_eq_true_eq]; omega
      have c3 : ((l + 1 : Nat) : Int) / 2 = (((l + 1) / 2 : Nat) : Int) := by omega
      have fin : ∀ r', 0 ≤ r' → r' < p → pwGo p r s (n + 1) (l + 1) = pwGo p r' (s * s % p) n ((l + 1) / 2) → ∃ s', whileL (mCmp dGt (mName 5) (mC (.int 0))) (sSeq (sIf (mCmp dEq (mBin dMod (mName 5) (mC (.int 2))) (mC (.int 1))) (sSet 3 (mBin dMod (mBin dMul (mName 3) (mName 4)) (mName 0))) sNil)
          (sSeq (sSet 4 (mBin dMod (mBin dMul (mName 4) (mName 4)) (mName 0))) (sSet 5 (mBin dFdiv (mName 5) (mC (.int 2)))))) m [.val (.int p), .val (.int a), .val (.int k), .val (.int r'), .val (.int (s * s % p)), .val (.int (((l + 1) / 2 : Nat) : Int))] = some (.nx, [.val (.int p), .val (.int a), .val (.int k), .val (.int (pwGo p r s (n + 1) (l + 1))), .val (.int s'), .val (.int 0)]) := fun r' j1 j2 e => by
        rw [e]
        exact ih ((l + 1) / 2) r' (s * s % p) (by omega) j1 j2 k1 k2 m (by omega)
      unfold whileL
      walk_at "ev"
      simp only [c1, if_true]
      walk_at "ev"
      rw [d_mod _ 2 (by decide)]
      walk_at "ev"
      simp only [c2]
      by_cases h : (l + 1) % 2 = 1
      · simp only [h, decide_true, if_true]
        walk_at "ev"
        rw [d_mul _ _ (big h1 (by omega)) (big h3 (by omega))]
        walk_at "ev"
        rw [d_mod _ _ hp0]
        walk_at "ev"
        rw [d_mul _ _ (big h3 (by omega)) (big h3 (by omega))]
        walk_at "ev"
        rw [d_mod _ _ hp0]
        walk_at "ev"
        rw [d_fdiv _ _ (by decide) (by decide)]
        walk_at "ev"
        rw [c3]
        exact fin _ k3 k4 (by rw [pwGo, if_pos h])
      · simp only [h, decide_false, if_false, Bool.false_eq_true]
        walk_at "ev"
        rw [d_mul _ _ (big h3 (by omega)) (big h3 (by omega))]
        walk_at "ev"
        rw [d_mod _ _ hp0]
        walk_at "ev"
        rw [d_fdiv _ _ (by decide) (by decide)]
        walk_at "ev"
        rw [c3]
        exact fin _ h1 h2 (by rw [pwGo, if_neg h])
theorem t_raised {p a k : Int} (hp : 5 ≤ p) (hp2 : p ≤ 997) (ha : 0 ≤ a) (ha2 : a < p) (hk : 0 ≤ k) (hk2 : k < 1000000000) : F_raised [.val (.int p), .val (.int a), .val (.int k)] = some (.dat (.int (a ^ k.toNat % p)), [.val (.int p), .val (.int a), .val (.int k)]) := by
  obtain ⟨n, rfl⟩ : ∃ n : Nat, k = n := ⟨k.toNat, by omega⟩
  have hp0 : 0 < p := by omega
  have e : a % p = a := Int.emod_eq_of_lt ha ha2
  obtain ⟨s', h⟩ := raised_loop (a := a) (k := n) hp hp2 n n 1 a (Nat.le_refl _) (by decide) (by omega) ha ha2 EV.fuel (by unfold EV.fuel; omega)
  have m := pwGo_mod (p := p) n n 1 a (Nat.le_refl _)
  obtain ⟨r1, r2⟩ := pwGo_range hp0 n n 1 a (by decide) (by omega)
  rw [Int.emod_eq_of_lt r1 r2, Int.one_mul] at m
  unfold F_raised m_raised
  walk_at "ev"
  rw [d_mod _ _ hp0, e]
  walk_at "ev"
  rw [e_while, h]
  walk_at "ev"
  rw [m, Int.toNat_natCast]
end Lib
end
section
set_option exponentiation.threshold 3000
namespace Lib
open PySem PySem.Spec PyProof.Rows L2 EV
theorem t_inverse {p a : Int} (hp : 5 ≤ p) (hp2 : p ≤ 997) (ha : 0 ≤ a) (ha2 : a < p) : F_inverse [.val (.int p), .val (.int a)] = some (.dat (.int (a ^ (p - 2).toNat % p)), [.val (.int p), .val (.int a)]) := by
  unfold F_inverse m_inverse
  walk_at "ev"
  rw [t_raised hp hp2 ha ha2 (by omega) (by omega)]
  walk_at "ev"
/-! ### dice -/
/-- the dice: what is left of a great cell, a number mixed, how many were mixed -/
def DiceOk (k : Nat) (ds : List Da) : Prop := ∃ a b c : Int, ds = [.int a, .int b, .int c] ∧ 0 ≤ a ∧ a < 10 ^ 117 ∧ 0 ≤ b ∧ b < 10 ^ 23 ∧ 0 ≤ c ∧ c ≤ k
theorem at0 {α : Type} {x y z : α} : atI [x, y, z] (0 : Int) = some x := rfl
theorem at1 {α : Type} {x y z : α} : atI [x, y, z] (1 : Int) = some y := rfl
theorem at2 {α : Type} {x y z : α} : atI [x, y, z] (2 : Int) = some z := rfl
theorem ix30 : ixN 3 0 = some 0 := rfl
theorem ix32 : ixN 3 2 = some 2 := rfl
theorem t_roll {k : Nat} {ds : List Da} {m : Int} (h : DiceOk k ds) (hk : k ≤ 1000000) (hm : 0 < m) (hm2 : m ≤ 1000000000) : ∃ r ds', 0 ≤ r ∧ r < m ∧ DiceOk (k + 1) ds' ∧ F__law_roll [.own ds, .val (.int m)] = some (.dat (.int r), [.own ds', .val (.int m)]) := by
  obtain ⟨a, b, c, rfl, a0, a1, b0, b1, c0, c1⟩ := h
  by_cases ha : 0 < a
  · refine ⟨a % m, [.int (a / m), .int b, .int c], Int.emod_nonneg _ (by omega), Int.emod_lt_of_pos _ hm, ⟨a / m, b, c, rfl, Int.ediv_nonneg a0 (by omega), ?_, b0, b1, c0, by omega⟩, ?_⟩
    · exact Int.lt_of_le_of_lt (Int.ediv_le_self _ a0) a1
    · unfold F__law_roll m__law_roll
      walk_at "ev"
      rw [at0]
      walk_at "ev"
      simp only [ha, decide_true, if_true]
      walk_at "ev"
      rw [at0]
      walk_at "ev"
      rw [d_mod _ _ hm]
      walk_at "ev"
      rw [at0]
      walk_at "ev"
      rw [d_fdiv _ _ hm (by omega)]
      walk_at "ev"
      rw [ix30]
      walk_at "ev"
  · have ha : a = 0 := by omega
    subst ha
    have e1 := Int.emod_nonneg (b + 86028157 * (c + 1)) (show (2305843009213693487 : Int) ≠ 0 by decide)
    have e2 := Int.emod_lt_of_pos (b + 86028157 * (c + 1)) (show (0 : Int) < 2305843009213693487 by decide)
    generalize hone : (b + 86028157 * (c + 1)) % 2305843009213693487 = one at e1 e2
    have e3 := Int.emod_nonneg (one * one + 101 * (c + 1)) (show (2305843009213693669 : Int) ≠ 0 by decide)
    have e4 := Int.emod_lt_of_pos (one * one + 101 * (c + 1)) (show (0 : Int) < 2305843009213693669 by decide)
    generalize htwo : (one * one + 101 * (c + 1)) % 2305843009213693669 = two at e3 e4
    refine ⟨(two * 6700417 + one) / 65537 % m, [.int 0, .int b, .int (c + 1)], Int.emod_nonneg _ (by omega), Int.emod_lt_of_pos _ hm, ⟨0, b, c + 1, rfl, a0, a1, b0, b1, by omega, by omega⟩, ?_⟩
    unfold F__law_roll m__law_roll
    walk_at "ev"
    rw [at0]
    walk_at "ev"
    rw [at2]
    walk_at "ev"
    rw [ix32]
    walk_at "ev"
    rw [at1]
    walk_at "ev"
    rw [at2]
    walk_at "ev"
    rw [d_mul _ _ (big (by decide) (by decide)) (big (by omega) (by omega))]
    walk_at "ev"
    rw [d_mod _ _ (by decide), hone]
    walk_at "ev"
    rw [d_mul _ _ (big e1 (by omega)) (big e1 (by omega))]
    walk_at "ev"
    rw [at2]
    walk_at "ev"
    rw [d_mul _ _ (big (by decide) (by decide)) (big (by omega) (by omega))]
    walk_at "ev"
    rw [d_mod _ _ (by decide), htwo]
    walk_at "ev"
    rw [d_mul _ _ (big e3 (by omega)) (big (by decide) (by decide))]
    walk_at "ev"
    rw [d_fdiv _ _ (by decide) (by decide)]
    walk_at "ev"
    rw [d_mod _ _ hm]
    walk_at "ev"
theorem t_pick {k : Nat} {ds xs : List Da} (h : DiceOk k ds) (hk : k ≤ 1000000) (hx : 0 < xs.length) (hx2 : xs.length ≤ 1000000) : ∃ x ds', x ∈ xs ∧ DiceOk (k + 1) ds' ∧ F__law_pick [.own ds, .val (.list xs)] = some (.dat x, [.own ds', .val (.list xs)]) := by
  obtain ⟨r, ds', r0, r1, hd, e⟩ := t_roll (m := xs.length) h hk (by omega) (by omega)
  obtain ⟨n, rfl⟩ : ∃ n : Nat, r = n := ⟨r.toNat, by omega⟩
  have hn : n < xs.length := by omega
  refine ⟨xs[n], ds', List.getElem_mem hn, hd, ?_⟩
  unfold F__law_pick m__law_pick
  walk_at "ev"
  rw [e]
  walk_at "ev"
  rw [atI_nat (v := xs[n]) (by simp [hn])]
  walk_at "ev"
end Lib
end
section
set_option exponentiation.threshold 3000
namespace Lib
open PySem PySem.Spec PyProof.Rows L2 EV
/-! ### loops and comprehensions, in general -/
theorem forL_inv {tg : Wv → Gh → Option Gh} {body : MS} (P : Nat → Gh → Prop) : ∀ (ds : List Da) (i : Nat) (g : Gh), P i g → (∀ j g d, P j g → d ∈ ds → j < i + ds.length → ∃ g1 g2, tg (.dat d) g = some g1 ∧ body g1 = some (.nx, g2) ∧ P (j + 1) g2) → ∃ g', forL tg body ds g = some (.nx, g') ∧ P (i + ds.length) g'
  | [], i, g, h, _ => ⟨g, rfl, h⟩
  | d :: ds, i, g, h, st => by
    obtain ⟨g1, g2, h1, h2, h3⟩ := st i g d h List.mem_cons_self (by rw [List.length_cons]; omega)
    obtain ⟨g', h4, h5⟩ := forL_inv P ds (i + 1) g2 h3 fun j g d p hd hj => st j g d p (List.mem_cons_of_mem _ hd) (by rw [List.length_cons]; omega)
    refine ⟨g', ?_, by rw [List.length_cons]; rw [show i + (ds.length + 1) = i + 1 + ds.length by omega]; exact h5⟩
    unfold forL
    rw [h1, Option.bind_some, h2, Option.bind_some]
    exact h4
theorem mem_rgD {a b : Int} {d : Da} : d ∈ rgD a b ↔ ∃ i, d = .int i ∧ a ≤ i ∧ i < b := by
  unfold rgD
  rw [List.mem_map]
  constructor
  · rintro ⟨k, hk, rfl⟩
    rw [List.mem_range] at hk
    exact ⟨_, rfl, by omega, by omega⟩
  · rintro ⟨i, rfl, h1, h2⟩
    exact ⟨(i - a).toNat, by rw [List.mem_range]; omega, by congr 1; omega⟩
theorem rgD_len {a b : Int} : (rgD a b).length = (b - a).toNat := by unfold rgD; rw [List.length_map, List.length_range]
theorem okRg' {i : Int} (h : -1000000 ≤ i) (h2 : i ≤ 1000000) : okRg i = true := by
  unfold okRg
  rw [decide_eq_true (by omega), decide_eq_true (by omega)]; rfl
/-! ### dice of a script -/
def diceR : MS := (sSeq (sSet 3 (mBin dMod (mCall dMax (mCons (mC (.int 0)) (mCons (mBin dSub (mCall dAbs (mCons (mName 2) mNil)) (mBin dPow (mC (.int 10)) (mC (.int 16)))) mNil))) (mBin dMul (mBin dPow (mC (.int 10)) (mC (.int 57))) (mBin dPow (mC (.int 10)) (mC (.int 60))))))
    (sRet [] (mLst (mCons (mName 3) (mCons (mBin dAdd (mBin dAdd (mBin dAdd (mBin dMul (mBin dMod (mCall dAbs (mCons (mName 2) mNil)) (mC (.int 1152921504606846733))) (mC (.int 97))) (mBin dMul (mC (.int 1013)) (mName 1))) (mBin dMul (mC (.int 53)) (mCall dInt (mCons (mBin dLt (mName 2) (mC (.int 0))) mNil)))) (mC (.int 41))) (mCons (mC (.int 0)) mNil))))))
theorem dice_cut : m__law_dice = sSeq (sSet 2 (mIf (mCmp dLt (mName 1) (mCall dLen (mCons (mName 0) mNil))) (mCall dInt (mCons (mIx (mName 0) (mName 1)) mNil)) (mBin dAdd (mBin dMul (mC (.int 103)) (mName 1)) (mC (.int 67))))) diceR := rfl
theorem t_diceR {ns : List Da} {s : Nat} (hs : s < 1000) (cell : Int) : ∃ ds, DiceOk 0 ds ∧ ∃ g', diceR [.val (.list ns), .val (.int s), .val (.int cell), .un] = some (.rt (.fresh ds), g') := by
  generalize hA : (if cell < 0 then -cell else cell) = A
  have hA0 : 0 ≤ A := by rw [← hA]; split <;> omega
  have m1 := Int.emod_nonneg A (show (1152921504606846733 : Int) ≠ 0 by decide)
  have m2 := Int.emod_lt_of_pos A (show (0 : Int) < 1152921504606846733 by decide)
  generalize hB : (if A - 10 ^ 16 > 0 then A - 10 ^ 16 else 0) = B
  have hB0 : 0 ≤ B := by rw [← hB]; split <;> omega
  have pos : (0 : Int) < 10 ^ 57 * 10 ^ 60 := by decide
  refine ⟨[.int (B % (10 ^ 57 * 10 ^ 60)), .int (A % 1152921504606846733 * 97 + 1013 * s + 53 * (if decide (cell < 0) = true then 1 else 0) + 41), .int 0], ⟨_, _, _, rfl, Int.emod_nonneg _ (by decide), ?_, ?_, ?_, Int.le_refl _, Int.le_refl _⟩, [.val (.list ns), .val (.int s), .val (.int cell), .val (.int (B % (10 ^ 57 * 10 ^ 60)))], ?_⟩
  · exact Int.lt_of_lt_of_le (Int.emod_lt_of_pos _ pos) (by decide)
  · split <;> omega
  · split <;> omega
  · unfold diceR
    walk_at "ev"
    rw [hA]
    rw [d_pow 10 16 (by decide) (by decide) (by decide), d_pow 10 57 (by decide) (by decide) (by decide), d_pow 10 60 (by decide) (by decide) (by decide)]
    walk_at "ev"
    rw [d_mul _ _ (by decide) (by decide)]
    walk_at "ev"
    rw [show (Int.toNat 16) = 16 from rfl, show (Int.toNat 57) = 57 from rfl, show (Int.toNat 60) = 60 from rfl, hB, d_mod _ _ pos]
    walk_at "ev"
    rw [hA, d_mod _ _ (by decide)]
    walk_at "ev"
    rw [d_mul _ _ (big m1 (by omega)) (by decide)]
    walk_at "ev"
    rw [d_mul _ _ (by decide) (big (by omega) (by omega))]
    walk_at "ev"
    rw [d_mul _ _ (by decide) (by split <;> decide)]
    walk_at "ev"
    rfl
theorem t_dice {ns : List Int} {s : Nat} (hs : s < 1000) : ∃ ds, DiceOk 0 ds ∧ F__law_dice [.val (.list (ns.map PyData.int)), .val (.int s)] = some (.fresh ds, [.val (.list (ns.map PyData.int)), .val (.int s)]) := by
  unfold F__law_dice
  rw [dice_cut]
  by_cases h : s < ns.length
  · obtain ⟨ds, hd, g', e⟩ := t_diceR (ns := ns.map PyData.int) hs ns[s]
    refine ⟨ds, hd, ?_⟩
    walk_at "ev"
    rw [List.length_map, decide_eq_true (show (s : Int) < (ns.length : Int) by omega)]
    walk_at "ev"
    rw [atI_nat (v := .int ns[s]) (by simp [h])]
    walk_at "ev"
    rw [e]
    walk_at "ev"
  · obtain ⟨ds, hd, g', e⟩ := t_diceR (ns := ns.map PyData.int) hs (103 * s + 67)
    refine ⟨ds, hd, ?_⟩
    walk_at "ev"
    rw [List.length_map, decide_eq_false (show ¬ (s : Int) < (ns.length : Int) by omega)]
    walk_at "ev"
    rw [d_mul _ _ (by decide) (big (by omega) (by omega))]
    walk_at "ev"
    rw [e]
    walk_at "ev"
theorem t_primes : F__law_fd_primes [] = some (.fresh ([5, 7, 11, 13, 17, 29, 31, 97, 101, 499, 991, 997].map PyData.int), []) := rfl
theorem t_pickI {k : Nat} {ds : List Da} {xs : List Int} (h : DiceOk k ds) (hk : k ≤ 1000000) (hx : 0 < xs.length) (hx2 : xs.length ≤ 1000000) : ∃ x ds', x ∈ xs ∧ DiceOk (k + 1) ds' ∧ F__law_pick [.own ds, .val (.list (xs.map PyData.int))] = some (.dat (.int x), [.own ds', .val (.list (xs.map PyData.int))]) := by
  obtain ⟨x, ds', hm, hd, e⟩ := t_pick (xs := xs.map PyData.int) h hk (by rw [List.length_map]; exact hx) (by rw [List.length_map]; exact hx2)
  obtain ⟨i, hi, rfl⟩ := List.mem_map.mp hm
  exact ⟨i, ds', hi, hd, e⟩
end Lib
end
section
set_option exponentiation.threshold 3000
namespace Lib
open PySem PySem.Spec PyProof.Rows L2 EV
/-! ### what undoes a number, by trying -/
/-! ### powers, by the law's own steps -/
/-! ### great powers -/
end Lib
end
section
set_option exponentiation.threshold 3000
namespace Lib
open PySem PySem.Spec PyProof.Rows L2 EV
/-! ### primes by trying all divisors -/
end Lib
end
section
set_option exponentiation.threshold 3000
namespace Lib
open PySem PySem.Spec PyProof.Rows L2 EV
/-! ### Fermat, for all fields -/
theorem fermat_table : ((List.range 998).all fun v => !isFld (v : Int) || (List.range v).all fun a => Nat.ble a 0 || a ^ (v - 1) % v == 1) = true := by decide +kernel
theorem fermat {p a : Int} (h : isFld p = true) (ha : 0 < a) (ha2 : a < p) : a ^ (p - 1).toNat % p = 1 := by
  have hp := fld_pos h
  obtain ⟨n, rfl⟩ : ∃ n : Nat, p = n := ⟨p.toNat, by omega⟩
  obtain ⟨b, rfl⟩ : ∃ b : Nat, a = b := ⟨a.toNat, by omega⟩
  have t := List.all_eq_true.mp fermat_table n (by rw [List.mem_range]; omega)
  rw [h] at t
  simp only [Bool.not_true, Bool.false_or] at t
  have t2 := List.all_eq_true.mp t b (by rw [List.mem_range]; omega)
  have e : Nat.ble b 0 = false := by
    rw [Bool.eq_false_iff]
    intro hc
    have := Nat.le_of_ble_eq_true hc
    omega
  rw [e, Bool.false_or, beq_iff_eq] at t2
  rw [show ((n : Int) - 1).toNat = n - 1 by omega, ← Int.natCast_pow, ← Int.natCast_emod, t2]
  rfl
theorem inv_mul {p a : Int} (h : isFld p = true) (ha : 0 < a) (ha2 : a < p) : a ^ (p - 2).toNat % p * a % p = 1 := by
  have hp := fld_pos h
  rw [mml, ← Int.pow_succ, show (p - 2).toNat.succ = (p - 1).toNat by omega, fermat h ha ha2]
end Lib
end
section
set_option exponentiation.threshold 3000
namespace Lib
open PySem PySem.Spec PyProof.Rows L2 EV
end Lib
end
section
set_option exponentiation.threshold 3000
namespace Lib
open PySem PySem.Spec PyProof.Rows L2 EV
/-! ### any values -/
def inRg (lo hi : Int) (d : Da) : Bool := match d with | .int v => decide (lo ≤ v) && decide (v ≤ hi) | _ => false
theorem compL_of {α : Type} {vs : List Nat} {tg : Wv → Gh → Option Gh} {el : ME} {e F : α → Da} {g : Gh} : ∀ {xs : List α}, (∀ x ∈ xs, ∃ g1 w g2 g3, tg (.dat (e x)) g = some g1 ∧ el g1 = some (w, g2) ∧ toD w g2 = some (F x, g3) ∧ wipeG g3 vs = g) → compL vs tg mYes el (xs.map e) g = some (xs.map F, g)
  | [], _ => rfl
  | x :: xs, h => by
    obtain ⟨g1, w, g2, g3, h1, h2, h3, h4⟩ := h x List.mem_cons_self
    rw [List.map_cons]
    unfold compL
    rw [h1, Option.bind_some]
    show (el g1).bind _ = _
    rw [h2, Option.bind_some, h3, Option.bind_some, h4, compL_of fun d hd => h d (List.mem_cons_of_mem _ hd)]
    rfl
end Lib
end
section
set_option exponentiation.threshold 3000
namespace Lib
open PySem PySem.Spec PyProof.Rows L2 EV
/-! ### lists without zeros at their end -/
def trimL (xs : List Int) : List Int := (xs.reverse.dropWhile (fun x => x == 0)).reverse
theorem flat_ti (xs : List Int) : Flat 1 (.tuple (xs.map PyData.int)) := flat_tuple (n := 0) (flat_ints xs)
theorem at_last (xs : List Da) (x : Da) : atI (xs ++ [x]) (-1) = some x := by
  unfold atI ixN
  rw [if_neg (by decide), List.length_append, List.length_singleton, if_pos (by omega), Option.bind_some, show ((-1 : Int) + ((xs.length + 1 : Nat) : Int)).toNat = xs.length by omega]
  simp
end Lib
end
section
set_option exponentiation.threshold 3000
namespace Lib
open PySem PySem.Spec PyProof.Rows L2 EV
/-! ### multiples of polys; which tuples are polys -/
def InF (p : Int) (xs : List Int) : Prop := ∀ x ∈ xs, 0 ≤ x ∧ x < p
theorem sl_lt {n : Nat} (h : n ≤ 1000000) : n < sizeLine := by unfold sizeLine; omega
/-- the loop of `are_numbers`: true of all, or it ends at the first that is none -/
theorem nums_go {p : Int} {D : Da} : ∀ (ds : List Da) (s : Sl), ∃ s', forL (setN 2) (sIf (mOr (mNot (mTru (mIsi "int" (mName 2)))) (mOr (mCmp (dIs false) (mName 2) (mC (.bool true))) (mOr (mCmp (dIs false) (mName 2) (mC (.bool false))) (mNot (mChain dLe dLt (mC (.int 0)) (mName 2) (mName 0)))))) (sRet [] (mC (.bool false))) sNil) ds [.val (.int p), .val D, s] = some (if ds.all (inRg 0 (p - 1)) then .nx else .rt (.dat (.bool false)), [.val (.int p), .val D, s'])
  | [], s => ⟨s, rfl⟩
  | d :: ds, s => by
    obtain ⟨s', ih⟩ := nums_go (p := p) (D := D) ds (.val d)
    by_cases h : inRg 0 (p - 1) d = true
    · refine ⟨s', ?_⟩
      rw [List.all_cons, h, Bool.true_and, ← ih]
      conv => lhs; unfold forL
      show (setN 2 (.dat d) _).bind _ = _
      cases d with
      | int v =>
        unfold inRg at h
        rw [Bool.and_eq_true, decide_eq_true_eq, decide_eq_true_eq] at h
        have h1 : (0 : Int) ≤ v := h.1
        have h2 : v < p := by omega
        walk_at "ev"
        rw [decide_eq_true h1]
        walk_at "ev"
        rw [decide_eq_true h2]
        walk_at "ev"
      | _ => simp [inRg] at h
    · refine ⟨.val d, ?_⟩
      have h' : inRg 0 (p - 1) d = false := by simpa using h
      rw [List.all_cons, h', Bool.false_and]
      conv => lhs; unfold forL
      cases d with
      | int v =>
        unfold inRg at h'
        rw [Bool.and_eq_false_iff, decide_eq_false_iff_not, decide_eq_false_iff_not] at h'
        walk_at "ev"
        by_cases h1 : (0 : Int) ≤ v
        · have h2 : ¬ v < p := by omega
          rw [decide_eq_true h1]
          walk_at "ev"
          rw [decide_eq_false h2]
          walk_at "ev"
        · rw [decide_eq_false h1]
          walk_at "ev"
      | bool b => cases b <;> walk_at "ev"
      | _ => walk_at "ev"
theorem t_are_numbersA {p : Int} {xs : List Da} (hl : xs.length ≤ 1000000) : F_are_numbers [.val (.int p), .val (.tuple xs)] = some (.dat (.bool (xs.all (inRg 0 (p - 1)))), [.val (.int p), .val (.tuple xs)]) := by
  obtain ⟨s', e⟩ := nums_go (p := p) (D := .tuple xs) xs .un
  unfold F_are_numbers m_are_numbers
  walk_at "ev"
  rw [e]
  cases xs.all (inRg 0 (p - 1)) <;> walk_at "ev"
theorem t_are_numbers {p : Int} {xs : List Int} (hp : 5 ≤ p) (hx : InF p xs) (hl : xs.length ≤ 1000000) : F_are_numbers [.val (.int p), .val (.tuple (xs.map PyData.int))] = some (.dat (.bool true), [.val (.int p), .val (.tuple (xs.map PyData.int))]) := by
  rw [t_are_numbersA (by rw [List.length_map]; exact hl)]
  rw [show (xs.map PyData.int).all (inRg 0 (p - 1)) = true by
    rw [List.all_eq_true]
    intro d hd
    obtain ⟨x, hx', rfl⟩ := List.mem_map.mp hd
    have := hx x hx'
    show (decide (0 ≤ x) && decide (x ≤ p - 1)) = true
    rw [decide_eq_true this.1, decide_eq_true (show x ≤ p - 1 by omega)]
    rfl]
end Lib
end
section
set_option exponentiation.threshold 3000
namespace Lib
open PySem PySem.Spec PyProof.Rows L2 EV
/-! ### polys -/
/-! ### sums of polys -/
end Lib
end
section
set_option exponentiation.threshold 3000
namespace Lib
open PySem PySem.Spec PyProof.Rows L2 EV
/-! ### the law's own sum -/
theorem ix_nat {n i : Nat} (h : i < n) : ixN n (i : Int) = some i := by
  unfold ixN
  rw [if_pos (by omega), if_pos (by omega), Int.toNat_natCast]
end Lib
end
section
set_option exponentiation.threshold 3000
namespace Lib
open PySem PySem.Spec PyProof.Rows L2 EV
end Lib
end
section
set_option exponentiation.threshold 3000
namespace Lib
open PySem PySem.Spec PyProof.Rows L2 EV
/-! ### products -/
end Lib
end
section
set_option exponentiation.threshold 3000
namespace Lib
open PySem PySem.Spec PyProof.Rows L2 EV
/-! ### numbers modulo p, and products of rows of numbers -/
def Cg (p a b : Int) : Prop := ∃ k, a = b + p * k
theorem cg_refl (p a : Int) : Cg p a a := ⟨0, by grind⟩
theorem cg_sym {p a b : Int} (h : Cg p a b) : Cg p b a := by
  obtain ⟨k, h⟩ := h
  exact ⟨-k, by grind⟩
theorem cg_tr {p a b c : Int} (h : Cg p a b) (h2 : Cg p b c) : Cg p a c := by
  obtain ⟨k, h⟩ := h
  obtain ⟨l, h2⟩ := h2
  exact ⟨k + l, by grind⟩
theorem cg_add {p a b c d : Int} (h : Cg p a b) (h2 : Cg p c d) : Cg p (a + c) (b + d) := by
  obtain ⟨k, h⟩ := h
  obtain ⟨l, h2⟩ := h2
  exact ⟨k + l, by grind⟩
theorem cg_sub {p a b c d : Int} (h : Cg p a b) (h2 : Cg p c d) : Cg p (a - c) (b - d) := by
  obtain ⟨k, h⟩ := h
  obtain ⟨l, h2⟩ := h2
  exact ⟨k - l, by grind⟩
theorem cg_mul {p a b c d : Int} (h : Cg p a b) (h2 : Cg p c d) : Cg p (a * c) (b * d) := by
  obtain ⟨k, h⟩ := h
  obtain ⟨l, h2⟩ := h2
  exact ⟨b * l + d * k + p * k * l, by grind⟩
theorem cg_mod (p a : Int) : Cg p (a % p) a := ⟨-(a / p), by have := Int.emod_add_mul_ediv a p; grind⟩
theorem cg_eq {p a b : Int} (h : Cg p a b) (a0 : 0 ≤ a) (a1 : a < p) (b0 : 0 ≤ b) (b1 : b < p) : a = b := by
  obtain ⟨k, h⟩ := h
  have e : a % p = b % p := by rw [h, Int.add_mul_emod_self_left]
  rwa [Int.emod_eq_of_lt a0 a1, Int.emod_eq_of_lt b0 b1] at e
theorem cg_emod {p a b : Int} (h : Cg p a b) : a % p = b % p := by
  obtain ⟨k, h⟩ := h
  rw [h, Int.add_mul_emod_self_left]
theorem cg_of_emod {p a b : Int} (h : a % p = b % p) : Cg p a b := cg_tr (cg_sym (cg_mod p a)) (by rw [h]; exact cg_mod p b)
/-! ### rows of numbers as lists -/
def cf (xs : List Int) (i : Nat) : Int := xs.getD i 0
theorem cf_nil (i : Nat) : cf [] i = 0 := rfl
theorem cf_zero (x : Int) (xs : List Int) : cf (x :: xs) 0 = x := rfl
theorem cf_succ (x : Int) (xs : List Int) (i : Nat) : cf (x :: xs) (i + 1) = cf xs i := by unfold cf; simp
theorem cf_out {xs : List Int} {i : Nat} (h : xs.length ≤ i) : cf xs i = 0 := by
  unfold cf
  rw [List.getD_eq_getElem?_getD, List.getElem?_eq_none h]
  rfl
theorem cf_at {xs : List Int} {i : Nat} (h : i < xs.length) : cf xs i = xs[i] := by
  unfold cf
  rw [List.getD_eq_getElem?_getD, List.getElem?_eq_getElem h]
  rfl
theorem cf_app1 {xs ys : List Int} {i : Nat} (h : i < xs.length) : cf (xs ++ ys) i = cf xs i := by
  rw [cf_at h, cf_at (by rw [List.length_append]; omega), List.getElem_append_left]
theorem cf_app2 {xs ys : List Int} {i : Nat} (h : xs.length ≤ i) : cf (xs ++ ys) i = cf ys (i - xs.length) := by
  unfold cf
  rw [List.getD_eq_getElem?_getD, List.getElem?_append_right h, List.getD_eq_getElem?_getD]
theorem cf_repl (m i : Nat) : cf (List.replicate m 0) i = 0 := by
  unfold cf
  rw [List.getD_eq_getElem?_getD, List.getElem?_replicate]
  split <;> rfl
theorem cf_in {p : Int} {xs : List Int} (hp : 0 < p) (h : InF p xs) (i : Nat) : 0 ≤ cf xs i ∧ cf xs i < p := by
  by_cases hi : i < xs.length
  · rw [cf_at hi]
    exact h _ (List.getElem_mem hi)
  · rw [cf_out (by omega)]
    exact ⟨Int.le_refl 0, hp⟩
end Lib
end
section
set_option exponentiation.threshold 3000
namespace Lib
open PySem PySem.Spec PyProof.Rows L2 EV
/-! ### division of rows of numbers -/
theorem cf_set {Q : List Int} {k : Nat} {f : Int} (h : k < Q.length) (j : Nat) : cf (Q.set k f) j = if j = k then f else cf Q j := by
  unfold cf
  rw [List.getD_eq_getElem?_getD, List.getElem?_set]
  by_cases e : k = j
  · subst e
    rw [if_pos rfl, if_pos rfl, if_pos h]
    rfl
  · rw [if_neg e, if_neg (fun h => e h.symm), List.getD_eq_getElem?_getD]
/-! ### values of rows of numbers -/
def evZ (a : Int) : List Int → Int
  | [] => 0
  | x :: xs => evZ a xs * a + x
end Lib
end
section
set_option exponentiation.threshold 3000
namespace Lib
open PySem PySem.Spec PyProof.Rows L2 EV
/-! ### the program's product -/
theorem rg1_of {fa : MA} {g g' : Gh} {n : Int} {ws : List Wv} (h : fa g = some (ws, g')) (h2 : lookAll ws g' = some [.int n]) (ok : okRg n = true) : mRg1 fa g = some (rgD 0 n, g') := by
  rw [e_rg1, h, Option.bind_some, h2, Option.bind_some]
  exact if_pos ok
end Lib
end
section
set_option exponentiation.threshold 3000
namespace Lib
open PySem PySem.Spec PyProof.Rows L2 EV
/-! ### calls of products and values -/
/-! values -/
end Lib
end
section
set_option exponentiation.threshold 3000
namespace Lib
open PySem PySem.Spec PyProof.Rows L2 EV
/-! ### the program's division -/
end Lib
end
section
set_option exponentiation.threshold 3000
namespace Lib
open PySem PySem.Spec PyProof.Rows L2 EV
end Lib
end
section
set_option exponentiation.threshold 3000
namespace Lib
open PySem PySem.Spec PyProof.Rows L2 EV
/-! ### places, drawn polys -/
end Lib
end
section
set_option exponentiation.threshold 3000
namespace Lib
open PySem PySem.Spec PyProof.Rows L2 EV
/-! ### sums, multiples and values, in general -/
theorem cf_map {f : Int → Int} (h : f 0 = 0) (xs : List Int) (i : Nat) : cf (xs.map f) i = f (cf xs i) := by
  by_cases hi : i < xs.length
  · rw [cf_at (by rw [List.length_map]; exact hi), cf_at hi, List.getElem_map]
  · rw [cf_out (by rw [List.length_map]; omega), cf_out (by omega), h]
end Lib
end
section
set_option exponentiation.threshold 3000
namespace Lib
open PySem PySem.Spec PyProof.Rows L2 EV
/-! ### division by x - r, and polys with as many roots as numbers -/
/-- unlike modulo p -/
def Apart (p : Int) : List Int → Prop
  | [] => True
  | r :: rs => (∀ b ∈ rs, ¬ Cg p (b - r) 0) ∧ Apart p rs
/-! ### rows of numbers added and multiplied, without a modulus -/
/-! ### polys through points: places bs with parts and units -/
/-- the sum of products -/
def dotZ : List Int → List Int → Int
  | x :: xs, y :: ys => x * y + dotZ xs ys
  | _, _ => 0
end Lib
end
section
set_option exponentiation.threshold 3000
namespace Lib
open PySem PySem.Spec PyProof.Rows L2 EV
/-! ### the product of x - b over some places b, and its parts -/
def rv (p r : Int) : List Int → List Int
  | [] => []
  | x :: xs => evZ r (x :: xs) % p :: rv p r xs
end Lib
end
section
set_option exponentiation.threshold 3000
namespace Lib
open PySem PySem.Spec PyProof.Rows L2 EV
/-! ### the product of x - b, and its parts -/
/-- a list or a tuple -/
def sqD (b : Bool) (xs : List Da) : Da := cond b (.tuple xs) (.list xs)
theorem it_sq (b : Bool) (xs : List Da) : itemsD (sqD b xs) = some xs := by cases b <;> rfl
theorem it_of {g : Gh} {i : Nat} {d : Da} {xs : List Da} (h : g[i]? = some (.val d)) (hd : itemsD d = some xs) : mIt (mName i) g = some (xs, g) := by
  unfold mIt mName
  simp only [h, Option.bind_some]
  show (itemsD d).bind _ = _
  rw [hd]
  rfl
/-! division by x - r -/
end Lib
end
section
set_option exponentiation.threshold 3000
namespace Lib
open PySem PySem.Spec PyProof.Rows L2 EV
/-! ### sums with a list -/
/-! ### parts, units, polys through points -/
theorem comp_of {α : Type} {vs : List Nat} {tg : Wv → Gh → Option Gh} {el : ME} {it : MI} {e F : α → Da} {g : Gh} {xs : List α} (hi : it g = some (xs.map e, g)) (hl : xs.length ≤ 1000000) (hw : wipeG g vs = g) (hr : restore vs g g = g) (h : ∀ x ∈ xs, ∃ g1 w g2 g3, tg (.dat (e x)) g = some g1 ∧ el g1 = some (w, g2) ∧ toD w g2 = some (F x, g3) ∧ wipeG g3 vs = g) : mComp vs it tg mYes el g = some (.fresh (xs.map F), g) := by
  rw [e_comp, hi, Option.bind_some, if_pos (by rw [List.length_map]; exact sl_lt hl), hw, compL_of h, Option.bind_some, hr]
def tupI (xs : List Int) : Da := .tuple (xs.map PyData.int)
theorem zipA_of {g : Gh} {i j : Nat} {d e : Da} {xs ys : List Da} (h1 : g[i]? = some (.val d)) (h2 : g[j]? = some (.val e)) (i1 : itemsD d = some xs) (i2 : itemsD e = some ys) : mZipA (mCons (mName i) (mCons (mName j) mNil)) g = some (zipD xs ys, g) := by
  unfold mZipA
  have : mCons (mName i) (mCons (mName j) mNil) g = some ([.dat d, .dat e], g) := by
    rw [e_acons, e_name, h1]
    show (mCons (mName j) mNil g).bind _ = _
    rw [e_acons, e_name, h2]
    rfl
  rw [this, Option.bind_some]
  show ((itemsD d).bind fun ds => (itemsD e).bind fun es => some (zipD ds es, g)) = _
  rw [i1, i2]
  rfl
end Lib
end
section
set_option exponentiation.threshold 3000
namespace Lib
open PySem PySem.Spec PyProof.Rows L2 EV
/-! ### the poly through points -/
end Lib
end
section
set_option exponentiation.threshold 3000
namespace Lib
open PySem PySem.Spec PyProof.Rows L2 EV
/-! ### weights and checks -/
/-! checks -/
end Lib
end
section
set_option exponentiation.threshold 3000
namespace Lib
open PySem PySem.Spec PyProof.Rows L2 EV
/-! ### the law's own steps for checks -/
/-! sums of products -/
/-! the products of differences -/
end Lib
end
section
set_option exponentiation.threshold 3000
namespace Lib
open PySem PySem.Spec PyProof.Rows L2 EV
/-! ### the law's checks -/
theorem comp_of3 {α : Type} {vs : List Nat} {tg : Wv → Gh → Option Gh} {el : ME} {it : MI} {e F : α → Da} {g g' gw : Gh} {xs : List α} (hi : it g = some (xs.map e, g')) (hl : xs.length ≤ 1000000) (hw : wipeG g' vs = gw) (hr : restore vs g' gw = g') (h : ∀ x ∈ xs, ∃ g1 w g2 g3, tg (.dat (e x)) gw = some g1 ∧ el g1 = some (w, g2) ∧ toD w g2 = some (F x, g3) ∧ wipeG g3 vs = gw) : mComp vs it tg mYes el g = some (.fresh (xs.map F), g') := by
  rw [e_comp, hi, Option.bind_some, if_pos (by rw [List.length_map]; exact sl_lt hl), hw, compL_of h, Option.bind_some, hr]
end Lib
end
section
set_option exponentiation.threshold 3000
namespace Lib
open PySem PySem.Spec PyProof.Rows L2 EV
/-! ### checks, points -/
def prD (t : Int × Int) : Da := .tuple [.int t.1, .int t.2]
/-! ### powers -/
end Lib
end
section
set_option exponentiation.threshold 3000
namespace Lib
open PySem PySem.Spec PyProof.Rows L2 EV
/-! ### what the law of polys through points asks -/
end Lib
end
section
set_option exponentiation.threshold 3000
namespace Lib
open PySem PySem.Spec PyProof.Rows L2 EV
end Lib
end
section
set_option exponentiation.threshold 3000
namespace Lib
open PySem PySem.Spec PyProof.Rows L2 EV
/-! ### hiding polys -/
/-! ### the program's -/
end Lib
end
section
set_option exponentiation.threshold 3000
namespace Lib
open PySem PySem.Spec PyProof.Rows L2 EV
/-! ### all polys to a degree, counted -/
def nI (p : Int) : List Int := (List.range p.toNat).map fun k : Nat => (k : Int)
theorem mem_nI {p a : Int} : a ∈ nI p ↔ 0 ≤ a ∧ a < p := by
  unfold nI
  rw [List.mem_map]
  refine ⟨fun ⟨k, h, e⟩ => ?_, fun h => ⟨a.toNat, ?_, by omega⟩⟩
  · rw [List.mem_range] at h; omega
  · rw [List.mem_range]; omega
theorem nodup_nI (p : Int) : (nI p).Nodup := by
  refine List.pairwise_map.mpr ((List.nodup_range).imp fun {a b} h e => h (by omega))
theorem len_nI (p : Int) : (nI p).length = p.toNat := by unfold nI; rw [List.length_map, List.length_range]
def vecs (p : Int) : Nat → List (List Int)
  | 0 => [[]]
  | n + 1 => (vecs p n).flatMap fun row => (nI p).map fun k => row ++ [k]
theorem mem_vecs {p : Int} : ∀ {n : Nat} {v : List Int}, v ∈ vecs p n ↔ v.length = n ∧ InF p v
  | 0, v => by
    rw [vecs, List.mem_singleton]
    refine ⟨fun h => by rw [h]; exact ⟨rfl, fun x hx => nomatch hx⟩, fun h => List.length_eq_zero_iff.mp h.1⟩
  | n + 1, v => by
    rw [vecs, List.mem_flatMap]
    constructor
    · rintro ⟨row, hr, hv⟩
      obtain ⟨k, hk, rfl⟩ := List.mem_map.mp hv
      obtain ⟨h1, h2⟩ := mem_vecs.mp hr
      refine ⟨by rw [List.length_append, h1]; rfl, fun x hx => ?_⟩
      rcases List.mem_append.mp hx with hx | hx
      · exact h2 x hx
      · rw [List.mem_singleton] at hx; rw [hx]; exact mem_nI.mp hk
    · rintro ⟨h1, h2⟩
      have hne : v ≠ [] := fun e => by rw [e] at h1; cases h1
      refine ⟨v.dropLast, mem_vecs.mpr ⟨by rw [List.length_dropLast, h1]; rfl, fun x hx => h2 x (List.dropLast_subset _ hx)⟩, List.mem_map.mpr ⟨v.getLast hne, mem_nI.mpr (h2 _ (List.getLast_mem hne)), List.dropLast_concat_getLast hne⟩⟩
theorem nodup_vecs (p : Int) : ∀ n : Nat, (vecs p n).Nodup
  | 0 => List.pairwise_singleton _ _
  | n + 1 => by
    rw [vecs]
    refine List.pairwise_flatMap.mpr ⟨fun row _ => List.pairwise_map.mpr ((nodup_nI p).imp fun {a b} h e => h ?_), (nodup_vecs p n).imp fun {a b} h x hx y hy e => h ?_⟩
    · have := List.append_cancel_left e
      injection this
    · obtain ⟨k, _, rfl⟩ := List.mem_map.mp hx
      obtain ⟨m, _, rfl⟩ := List.mem_map.mp hy
      have := congrArg List.dropLast e
      simpa using this
theorem len_vecs (p : Int) : ∀ n : Nat, (vecs p n).length = p.toNat ^ n
  | 0 => rfl
  | n + 1 => by
    rw [vecs, List.length_flatMap]
    have : ((vecs p n).map fun row => ((nI p).map fun k => row ++ [k]).length) = List.replicate (vecs p n).length p.toNat := by
      refine List.eq_replicate_iff.mpr ⟨by rw [List.length_map], fun b hb => ?_⟩
      obtain ⟨r, _, rfl⟩ := List.mem_map.mp hb
      rw [List.length_map, len_nI]
    rw [this, List.sum_replicate_nat, len_vecs p n, Nat.pow_succ]
def ap (p : Int) (n : Nat) : List (List Int) := (vecs p n).map trimL
end Lib
end
section
set_option maxHeartbeats 2000000
set_option autoImplicit false
/-! list(zip(..)): zip whose last tuple is out and kept -/
namespace EV
open PySem PySem.Spec
section
variable {P : Program} {w : World} {A : Around} {E : Value → Shared → Prop} {s : Shared} {z TI TO T i1 i2 : Addr} {fp1 fp2 : List Addr} {n1 n2 i : Nat} {P1 P2 : Nat → Value → Prop} {St1 St2 : Nat → Heap → Prop} {f : Bool} {oT : Obj}
/-- the cell of a zip when the tuple that it gave last is still held -/
abbrev ZOut (h : Heap) (z TI TO T : Addr) (f : Bool) : Prop := h.get? z = some { cls := .type "zip", dict := none, data := .fields #[rawInt T, .bool f, .bool false, .ref TI, .ref TO], slots := #[] }
/-- the cell of a zip: its tuple is free, or out and held -/
def ZSt (h : Heap) (z TI TO i1 i2 : Addr) : Prop := (IsZip h z TI TO .none ∧ ∃ x y, IsTupOf2 h TO x y) ∨ ∃ (T : Addr) (f : Bool) (o : Obj), ZOut h z TI TO T f ∧ h.get? T = some o ∧ T ≠ z ∧ T ≠ TO ∧ T ≠ i1 ∧ T ≠ i2 ∧ ∃ x y, IsTupOf2 h TO x y
theorem ZSt.get {h : Heap} (x : ZSt h z TI TO i1 i2) : ∃ fs, h.get? z = some { cls := .type "zip", dict := none, data := .fields fs, slots := #[] } := by
  rcases x with ⟨hz, _⟩ | ⟨T, f, o, hz, _⟩
  · exact ⟨_, hz⟩
  · exact ⟨_, hz⟩
theorem ZSt.at {h h' : Heap} (x : ZSt h z TI TO i1 i2) {S : Addr} (nz : S ≠ z) (nTO : S ≠ TO) (ne : ∀ T f, ZOut h z TI TO T f → T ≠ S) (k : ∀ b o, b ≠ S → h.get? b = some o → h'.get? b = some o) : ZSt h' z TI TO i1 i2 := by
  rcases x with ⟨hz, a, b, hT⟩ | ⟨T, f, o, hz, hT, r1, r2, r3, r4, a, b, hO⟩
  · exact .inl ⟨k _ _ nz.symm hz, a, b, k _ _ nTO.symm hT⟩
  · exact .inr ⟨T, f, o, k _ _ nz.symm hz, k _ _ (ne T f hz) hT, r1, r2, r3, r4, a, b, k _ _ nTO.symm hO⟩
end
end EV
end
section
set_option maxHeartbeats 2000000
set_option autoImplicit false
/-! list(zip(..)) -/
namespace EV
open PySem PySem.Spec PyProof.Rows L2
/-- tuples laid one behind the other -/
inductive TN : Hp → List (V × V) → List Addr → Hp → Prop
  | nil {H : Hp} : TN H [] [] H
  | snoc {H G : Hp} {ps : List (V × V)} {Ts : List Addr} {T : Addr} {x y : V} : TN H ps Ts G → G T = none → TN H (ps ++ [(x, y)]) (Ts ++ [T]) (upd G T (.tup [x, y]))
theorem TN.ex {H G : Hp} {ps : List (V × V)} {Ts : List Addr} (t : TN H ps Ts G) : Evl.Ex H G := by
  induction t with
  | nil => exact Evl.Ex.refl _
  | snoc t n ih => exact ih.trans (Evl.Ex.new n)
theorem TN.len {H G : Hp} {ps : List (V × V)} {Ts : List Addr} (t : TN H ps Ts G) : Ts.length = ps.length := by
  induction t with
  | nil => rfl
  | snoc t n ih => rw [List.length_append, List.length_append, ih]; rfl
end EV
namespace EV
open PySem PySem.Spec PyProof.Rows L2
end EV
namespace EV
open PySem PySem.Spec PyProof.Rows L2
end EV
end
section
set_option maxHeartbeats 2000000
set_option autoImplicit false
/-! sorted(rows), each row a tuple of ints, of any length -/
namespace EV
open PySem PySem.Spec PyProof.Rows
section
variable {P : Program} {w : World} {A : Around} {E : Value → Shared → Prop} {s : Shared}
/-- a tuple of these ints -/
def T1 (h : Heap) (v : Value) (ns : List Int) : Prop := ∃ (a : Addr) (items : Array Value), v = .ref a ∧ IsTup h a items ∧ IntsAre items.toList ns
theorem T1.keeps {h h' : Heap} {v : Value} {ns : List Int} (x : T1 h v ns) (k : ∀ b o, h.get? b = some o → o.cls = .type "tuple" → h'.get? b = some o) : T1 h' v ns := by
  obtain ⟨a, its, e, ⟨o, ho, hc, n, hd⟩, r⟩ := x
  exact ⟨a, its, e, ⟨o, k _ _ ho hc, hc, n, hd⟩, r⟩
theorem katlex_ints {b fin : Bool} {Q : Bool → Shared → Prop} : ∀ (xs ys : List Value) (ns ms : List Int) (i : Nat), IntsAre xs ns → IntsAre ys ms → Q (HT.lexLt ns ms) s → (∀ ns' ms' : List Int, ns.length + ms'.length = ns'.length + ms.length → (ns' = [] ∨ ms' = []) → fin = HT.lexLt ns' ms') → W.KatLex P w A b fin Q (xs.zip ys) i s := by
  intro xs
  induction xs with
  | nil =>
    intro ys ns ms i hx hy q hf
    cases hx
    rw [List.zip_nil_left]
    refine W.kat_nil ?_
    rw [hf [] ms rfl (.inl rfl)]; exact q
  | cons x xs ih =>
    intro ys ns ms i hx hy q hf
    cases hy with
    | nil =>
      rw [List.zip_nil_right]
      refine W.kat_nil ?_
      rw [hf ns [] rfl (.inr rfl)]; exact q
    | @cons ms' ys' y u hy =>
      cases hx with
      | @cons ns' _ x t hx =>
        rw [List.zip_cons_cons]
        refine W.kat_cons (SeqAt.EqAt.int_int _ _ _ _ P w _ _ ?_)
        rw [HT.lexLt_cons] at q
        refine W.kat_go (fun e => ?_) (fun e => ?_)
        · have ex := by simpa using e
          rw [if_pos ex] at q
          exact W.kat_yes (ih _ _ _ (i + 1) hx hy q fun ns' ms' e o => hf ns' ms' (by simp; omega) o)
        · have ex := by simpa using e
          rw [if_neg ex] at q
          refine W.kat_no ?_
          cases hb : (b && i == 0) with
          | true => exact PyProof.Rows.oneLt_int q
          | false => exact W.kat_one _ _ (PyProof.Rows.lt_int q)
theorem lex_len : ∀ {ns ms : List Int}, (ns = [] ∨ ms = []) → HT.lexLt ns ms = decide (ns.length < ms.length)
  | [], [], _ => rfl
  | [], m :: ms, _ => by rw [HT.lexLt_nil_cons]; exact (decide_eq_true (by simp)).symm
  | n :: ns, [], _ => by rw [HT.lexLt_cons_nil]; exact (decide_eq_false (by simp)).symm
  | n :: ns, m :: ms, h => by rcases h with h | h <;> cases h
theorem t1_lt_tup {v u : Value} {ns ms : List Int} {Q : Bool → Shared → Prop} (hv : T1 s.heap v ns) (hw : T1 s.heap u ms) (q : Q (HT.lexLt ns ms) s) : wpAny (model P w) A (keyLt' (tuples' true) v u) Q (fun _ _ => False) s := by
  obtain ⟨a, xs, rfl, ⟨o, ho, hc, n, hd⟩, r⟩ := hv
  obtain ⟨b, ys, rfl, ⟨o2, ho2, hc2, n2, hd2⟩, r2⟩ := hw
  have l1 : xs.size = ns.length := by rw [← r.length]; simp
  have l2 : ys.size = ms.length := by rw [← r2.length]; simp
  have key : ∀ ns' ms' : List Int, ns.length + ms'.length = ns'.length + ms.length → (ns' = [] ∨ ms' = []) → decide (xs.size < ys.size) = HT.lexLt ns' ms' := fun ns' ms' e o => by
    rw [lex_len o, l1, l2]
    exact decide_eq_decide.mpr (by omega)
  exact W.kat_lt ho hd ho2 hd2 (katlex_ints _ _ _ _ 0 r r2 q key)
theorem t1_lt_gen {v u : Value} {ns ms : List Int} {Q : Bool → Shared → Prop} (hu : A.units < cLine) (hv : T1 s.heap v ns) (hw : T1 s.heap u ms) (q : Q (HT.lexLt ns ms) s) : wpAny (model P w) A (keyLt' general' v u) Q E s := by
  obtain ⟨a, xs, rfl, t, r⟩ := hv
  obtain ⟨b, ys, rfl, t2, r2⟩ := hw
  show wpAny _ _ (oneLt' false (.ref a) (.ref b)) _ _ _
  exact W.kat_one _ _ (HT.lt_tupInts t t2 r r2 hu q)
theorem t1_lt_one {v u : Value} {ns ms : List Int} {Q : Bool → Shared → Prop} (hu : A.units < cLine) (hv : T1 s.heap v ns) (hw : T1 s.heap u ms) (q : Q (HT.lexLt ns ms) s) : wpAny (model P w) A (keyLt' oneType' v u) Q E s := by
  obtain ⟨a, xs, rfl, t, r⟩ := hv
  obtain ⟨b, ys, rfl, t2, r2⟩ := hw
  obtain ⟨⟨cls, dd, data, sl⟩, ho, hc, n, hd⟩ := id t
  obtain ⟨⟨cls2, dd2, data2, sl2⟩, ho2, hc2, n2, hd2⟩ := id t2
  simp only at hc hd hc2 hd2
  subst hc hd hc2 hd2
  rw [keyLt'_oneType, oneLt'_eq]; simp only [if_true]
  refine wpAny_bind (wpAny_cRoomFor hu (wpAny_bind ?_))
  have sp : W.Looks (model P w) s.heap (specialOf (.ref a) "__lt__") (some (.builtin "tuple.__lt__")) := fun A Q E s' k q => wpAny_specialOf ⟨_, k _ _ ho, rfl⟩ PySem.F.slot_tuple_lt.lookup q
  have iv : W.Looks (model P w) s.heap (isInstance (.ref a) (.type "tuple")) true := fun A Q E s' k q => wpAny_isInstance (T := "tuple") (b := true) ⟨_, k _ _ ho, rfl⟩ AutoSeq1.sub_tuple_tuple q
  have key : ∀ Q' : Value → Shared → Prop, Q' (.bool (HT.lexLt ns ms)) s → wpAny (model P w) A (call (.builtin "tuple.__lt__") [.ref a, .ref b]) Q' E s := fun Q' q' => by
    refine wpAny_call (codeAny_call_builtin PySem.F.slot_tuple_lt.plain PySem.F.entry_tuple_lt (W.check_slot (owner := "tuple") (n := "__lt__") (by decide +kernel) (by decide +kernel) iv (PySem.F.args_tuple_lt_2 _ _) ?_))
    refine wpAny_mono (HT.tuple_lt_ints a b xs ys n n2 dd dd2 sl sl2 ns ms r r2 P w _ (wants Q' E) s ⟨ho, ho2, q'⟩) (fun fin s' q => ?_) fun _ _ z => z
    cases fin with
    | done f => exact q
    | again c => exact q
  exact NtL.csib (E := E) sp (PySem.F.slot_tuple_lt.bind _) (key _ (wpAny_truthy_bool q))
theorem t1_firsts : ∀ (vs : List Value), (∀ v ∈ vs, ∃ ns, T1 s.heap v ns) → ∃ fs : List (Option Value), fs.length = vs.length ∧ (∀ f ∈ fs, ∀ x, f = some x → ∃ n t, x = .int n t) ∧ ∀ (M : Model) (A : Around) (E : Value → Shared → Prop) (Q : List (Option Value) → Shared → Prop), Q fs s → wpAny M A (vs.mapM firstOfTuple') Q E s
  | [], _ => ⟨[], rfl, (fun f hf => nomatch hf), fun M A E Q q => by rw [List.mapM_nil]; exact wpAny_pure q⟩
  | v :: vs, h => by
    obtain ⟨fs, hl, hf, hw⟩ := t1_firsts vs fun v hv => h v (List.mem_cons_of_mem _ hv)
    obtain ⟨ns, a, xs, rfl, ⟨o, ho, hc, n, hd⟩, r⟩ := h v List.mem_cons_self
    refine ⟨xs[0]? :: fs, by simp [hl], fun f hm x hx => ?_, fun M A E Q q => ?_⟩
    · rcases List.mem_cons.mp hm with rfl | hm
      · cases r0 : xs.toList with
        | nil =>
          have : xs[0]? = none := by rw [← Array.getElem?_toList, r0]; rfl
          rw [this] at hx; cases hx
        | cons y ys =>
          have : xs[0]? = some y := by rw [← Array.getElem?_toList, r0]; rfl
          rw [this] at hx; cases hx
          rw [r0] at r
          cases r with
          | cons m t _ => exact ⟨m, t, rfl⟩
      · exact hf f hm x hx
    · rw [List.mapM_cons, W.kas_first_eq]
      refine wpAny_bind (wpAny_bind (W.Looks.here (show W.Looks M s.heap (typeOf (.ref a)) o.cls from (W.Looks.ld ho).andThen .now) ?_))
      rw [hc, if_neg (by decide)]
      exact wpAny_bind (listItems_at ho hd (wpAny_pure (wpAny_bind (hw M A E _ (wpAny_pure q)))))
theorem t1_kind {vs : List Value} (h2 : 2 ≤ vs.length) (h : ∀ v ∈ vs, ∃ ns, T1 s.heap v ns) : ∃ κ, (κ = tuples' true ∨ κ = general' ∨ κ = oneType') ∧ ∀ (M : Model) (A : Around) (Q : SortKind → Shared → Prop) (E : Value → Shared → Prop), Q κ s → wpAny M A (keyKind' vs.toArray) Q E s := by
  obtain ⟨fs, hl, hf, hw⟩ := t1_firsts vs h
  by_cases ha : (fs.toArray.all fun x => x.isSome) = true
  · refine ⟨_, .inl rfl, fun M A Q E q => ?_⟩
    rw [kat_kind_eq, List.mapM_toArray, map_eq_pure_bind]
    refine wpAny_bind (wpAny_bind (hw M A E _ (wpAny_pure ?_)))
    rw [if_pos ha]; refine wpAny_bind (wpAny_rule ?_)
    have e : fs.toArray.filterMap id = (fs.filterMap id).toArray := by simp
    rw [e, oneTypeOnly'_eq, List.mapM_toArray, map_eq_pure_bind]
    refine wpAny_bind (wpAny_bind (wpAny_bind (W.kas_mapM (r := Value.type "int") _ (fun v hv Q' hq => ?_) (wpAny_pure ?_))))
    · obtain ⟨f, hm, hx⟩ := List.mem_filterMap.mp hv
      obtain ⟨n, t, rfl⟩ := hf f hm v hx
      exact W.Looks.here W.Looks.now hq
    · cases hg : fs.filterMap id with
      | nil =>
        have ha2 := ha
        cases fs with
        | nil => rw [← hl] at h2; simp at h2
        | cons f fs =>
          cases f with
          | none => simp at ha2
          | some x => simp at hg
      | cons x r =>
        have h0 : (List.map (fun _ => Value.type "int") (x :: r)).toArray[0]? = some (Value.type "int") := by simp
        rw [h0]
        have hall : ((List.map (fun _ => Value.type "int") (x :: r)).toArray.all fun y => y == Value.type "int") = true := by
          simp only [List.all_toArray, List.all_map, List.all_eq_true]
          intro _ _
          exact (by decide +kernel : (Value.type "int" == Value.type "int") = true)
        simp only [hall, if_true]
        refine wpAny_pure (wpAny_pure ?_)
        rw [show Option.any (fun x => x != Value.type "tuple") (some (Value.type "int")) = true by decide +kernel]
        exact q
  · by_cases hb : (fs.toArray[0]?.bind id).isSome = true
    · refine ⟨_, .inr (.inl rfl), fun M A Q E q => ?_⟩
      rw [kat_kind_eq, List.mapM_toArray, map_eq_pure_bind]
      refine wpAny_bind (wpAny_bind (hw M A E _ (wpAny_pure ?_)))
      rw [if_neg ha, if_pos hb]
      exact wpAny_pure q
    · refine ⟨_, .inr (.inr rfl), fun M A Q E q => ?_⟩
      rw [kat_kind_eq, List.mapM_toArray, map_eq_pure_bind]
      refine wpAny_bind (wpAny_bind (hw M A E _ (wpAny_pure ?_)))
      rw [if_neg ha, if_neg hb, oneTypeOnly'_eq, List.mapM_toArray, map_eq_pure_bind]
      refine wpAny_bind (wpAny_bind (wpAny_bind (W.kas_mapM (r := Value.type "tuple") _ (fun v hv Q' hq => ?_) (wpAny_pure ?_))))
      · obtain ⟨ns, a, xs, rfl, ⟨o, ho, hc, n, hd⟩, r⟩ := h v hv
        refine W.Looks.here (show W.Looks M s.heap (typeOf (.ref a)) (Value.type "tuple") from ?_) hq
        rw [← hc]
        exact (W.Looks.ld ho).andThen .now
      · cases vs with
        | nil => simp at h2
        | cons x r =>
          have h0 : (List.map (fun _ => Value.type "tuple") (x :: r)).toArray[0]? = some (Value.type "tuple") := by simp
          rw [h0]
          have hall : ((List.map (fun _ => Value.type "tuple") (x :: r)).toArray.all fun y => y == Value.type "tuple") = true := by
            simp only [List.all_toArray, List.all_map, List.all_eq_true]
            intro _ _
            exact (by decide +kernel : (Value.type "tuple" == Value.type "tuple") = true)
          simp only [hall, if_true]
          exact wpAny_pure (wpAny_pure q)
theorem t1_sortable {a : Addr} {vs : List Value} {k : Value → List Int} (h2 : 2 ≤ vs.length) (hu : A.units < cLine) (hv : ∀ v ∈ vs, T1 s.heap v (k v)) (ha : ∀ o, s.heap.get? a = some o → o.cls ≠ .type "tuple") : SrtO.SortableO P w A s a vs fun v u => HT.lexLt (k v) (k u) := by
  intro h' keep
  have hv' : ∀ v ∈ vs, T1 h' v (k v) := fun v hm => (hv v hm).keeps fun b o e c => keep b o (fun z => by subst z; exact ha o e c) e
  obtain ⟨κ, hκ, hw⟩ := t1_kind (s := { s with heap := h' }) h2 fun v hm => ⟨_, hv' v hm⟩
  refine ⟨κ, fun Q E q => hw _ _ Q E q, fun p q hp hq => ?_⟩
  have z : (fun (r : Bool) (s' : Shared) => s' = { s with heap := h' } ∧ r = SrtO.lt2 (fun v u => HT.lexLt (k v) (k u)) p q) (HT.lexLt (k p.1) (k q.1)) { s with heap := h' } := ⟨rfl, rfl⟩
  rcases hκ with rfl | rfl | rfl
  · exact t1_lt_tup (hv' _ hp) (hv' _ hq) z
  · exact t1_lt_gen hu (hv' _ hp) (hv' _ hq) z
  · exact t1_lt_one hu (hv' _ hp) (hv' _ hq) z
theorem t1_sorted {l : Addr} {vs : List Value} {k : Value → List Int} {Q : Value → Shared → Prop} (hl : s.heap.IsList l vs.toArray) (hz : vs.length ≤ sizeLine) (hu : A.in1.in1.units < cLine) (hv : ∀ v ∈ vs, T1 s.heap v (k v))
    (q : ∀ out : List Value, SrtO.Srtd (fun v u => HT.lexLt (k v) (k u)) out → SrtO.Stb (fun v u => HT.lexLt (k v) (k u)) out vs → Q (.ref (s.heap.objs.size + 1)) { s with heap := sortedAll s.heap vs out.toArray }) :
    wpAny (model P w) A (call (.builtin "sorted") [.ref l]) Q E s :=
  SrtO.sorted_ord (NtL.swo_lexL k) hl hz (fun h2 h1 a ha kk => t1_sortable h2 hu (fun v hm => (hv v hm).keeps fun b o e _ => (kk b o e).2) fun o e c => by rw [ha] at e; cases e; exact absurd c (by simp [seqObj])) q
end
end EV
end
section
set_option maxHeartbeats 2000000
set_option autoImplicit false
/-! sorted(list of tuples of ints), over data -/
namespace EV
open PySem PySem.Spec PyProof.Rows L2
def tupW (n : List Int) : Da := .tuple (n.map PyData.int)
def rowsOf : List Da → Option (List (List Int))
  | [] => some []
  | .tuple xs :: r => (intsOf xs).bind fun n => (rowsOf r).map fun m => n :: m
  | _ => none
theorem rowsOf_some : ∀ {xs : List Da} {rs : List (List Int)}, rowsOf xs = some rs → xs = rs.map tupW := by
  intro xs
  induction xs with
  | nil => intro rs h; cases h; rfl
  | cons x xs ih =>
    intro rs h
    cases x <;> first | (unfold rowsOf at h; cases h; done) | skip
    rename_i ys
    unfold rowsOf at h
    obtain ⟨n, e1, h⟩ := Option.bind_eq_some_iff.mp h
    obtain ⟨m, e2, h⟩ := Option.map_eq_some_iff.mp h
    subst h
    rw [List.map_cons, ← ih e2, intsOf_some e1]; rfl
theorem rowsOf_map : ∀ rs : List (List Int), rowsOf (rs.map tupW) = some rs
  | [] => rfl
  | r :: rs => by
    show (intsOf (r.map PyData.int)).bind _ = _
    rw [intsOf_map, rowsOf_map rs]; rfl
theorem lex_eq : ∀ {a b : List Int}, HT.lexLt a b = false → HT.lexLt b a = false → a = b
  | [], [], _, _ => rfl
  | [], b :: bs, h, _ => by rw [HT.lexLt_nil_cons] at h; cases h
  | a :: as, [], _, h => by rw [HT.lexLt_nil_cons] at h; cases h
  | a :: as, b :: bs, h, g => by
    rw [HT.lexLt_cons] at h g
    by_cases e : a = b
    · subst e
      rw [if_pos rfl] at h g
      rw [lex_eq h g]
    · rw [if_neg e] at h
      rw [if_neg (Ne.symm e)] at g
      have h := of_decide_eq_false h
      have g := of_decide_eq_false g
      omega
def sortR (rs : List (List Int)) : List (List Int) := rs.mergeSort (fun a b => !HT.lexLt b a)
theorem sortR_perm (rs : List (List Int)) : (sortR rs).Perm rs := List.mergeSort_perm _ _
theorem sortR_srtd (rs : List (List Int)) : (sortR rs).Pairwise fun a b => HT.lexLt b a = false := by
  have O := NtL.swo_lexL (fun x : List Int => x)
  refine (List.pairwise_mergeSort (le := fun a b => !HT.lexLt b a) ?_ ?_ rs).imp fun {a b} h => by simpa using h
  · intro a b c h1 h2
    have h1 : HT.lexLt b a = false := by simpa using h1
    have h2 : HT.lexLt c b = false := by simpa using h2
    have : HT.lexLt c a = false := NtL.lex_tr _ _ _ h1 h2
    simp [this]
  · intro a b
    cases h : HT.lexLt b a with
    | false => rfl
    | true => rw [NtL.lex_asym _ _ h]; rfl
theorem sortR_eq {rs ms : List (List Int)} (p : ms.Perm rs) (s : ms.Pairwise fun a b => HT.lexLt b a = false) : ms = sortR rs :=
  List.Perm.eq_of_pairwise (le := fun a b => HT.lexLt b a = false) (fun a b _ _ h1 h2 => lex_eq h2 h1) s (sortR_srtd rs) (p.trans (sortR_perm rs).symm)
section
variable {X : Cx}
def rSortedT (K : Frag) : List V → Hp → VK → Prop := fun vs H Q => ∃ (a : Addr) (zs : List (V × List Int)), vs = [V.ref a] ∧ SqL K H a (zs.map (·.1)) ∧ (∀ z ∈ zs, ∃ q, z.1 = V.ref q ∧ SqT K H q (z.2.map V.int)) ∧
  ∀ (p : Addr) (zs' : List (V × List Int)), H p = none → zs'.Perm zs → zs'.map (·.2) = sortR (zs.map (·.2)) → Q (.ref p) (upd H p (.lst (zs'.map (·.1))))
theorem mapInt_inj : ∀ {a b : List Int}, a.map V.int = b.map V.int → a = b
  | [], [], _ => rfl
  | [], b :: bs, h => by cases h
  | a :: as, [], h => by cases h
  | a :: as, b :: bs, h => by
    rw [List.map_cons, List.map_cons] at h
    injection h with h1 h2
    injection h1 with h1
    rw [h1, mapInt_inj h2]
theorem vals_refs : ∀ {As : List Addr} {its : List Value}, Vals (As.map V.ref) its → its = As.map Value.ref
  | [], _, .nil => rfl
  | A :: As, _, .cons r t => by
    rw [List.map_cons, ← vals_refs t]
    cases r; rfl
theorem cr_sortedT (hu : X.A.units + 64 < cLine) : CallR X (.builtin "sorted") (rSortedT X.K) := by
  classical
  intro pins s σ H vs us Q I r h
  obtain ⟨a, zs, rfl, hs, hz, q⟩ := h
  obtain ⟨its, rv, hl, hsz⟩ := I.list hs
  rw [Vals.ref1 r]
  let kA : Addr → List Int := fun q => if h : ∃ ns : List Int, SqT X.K H q (ns.map V.int) then h.choose else []
  have hkA : ∀ (q : Addr) (ns : List Int), SqT X.K H q (ns.map V.int) → kA q = ns := fun q ns h => by
    have hx : ∃ ns : List Int, SqT X.K H q (ns.map V.int) := ⟨ns, h⟩
    show (if h : ∃ ns : List Int, SqT X.K H q (ns.map V.int) then h.choose else []) = ns
    rw [dif_pos hx]
    exact mapInt_inj (I.tuple_inj hx.choose_spec h)
  obtain ⟨As, eA, hA⟩ : ∃ As : List Addr, zs = As.map (fun q => (V.ref q, kA q)) ∧ ∀ q ∈ As, SqT X.K H q ((kA q).map V.int) := by
    clear hs rv hsz hl q
    induction zs with
    | nil => exact ⟨[], rfl, fun q h => nomatch h⟩
    | cons z zs ih =>
      obtain ⟨As, e, h⟩ := ih fun z hm => hz z (List.mem_cons_of_mem _ hm)
      obtain ⟨q, e1, h1⟩ := hz z List.mem_cons_self
      have e2 := hkA q _ h1
      refine ⟨q :: As, ?_, fun x hx => ?_⟩
      · rw [List.map_cons, ← e, e2, ← e1]
      · rcases List.mem_cons.mp hx with rfl | hx
        · rw [e2]; exact h1
        · exact h x hx
  subst eA
  rw [List.map_map] at rv hs
  have e1 : ((fun z : V × List Int => z.1) ∘ fun q => (V.ref q, kA q)) = V.ref := rfl
  rw [e1] at rv hs
  have ei := vals_refs rv
  subst ei
  have hzA : As.length ≤ sizeLine := by simpa using hsz
  refine t1_sorted (k := fun v => kA (adO v)) hl.isList (by simpa using hzA) ?_ (fun v hv => ?_) fun out h1 h2 => ?_
  · show X.A.units + _ + _ < cLine; omega
  · obtain ⟨q, hq, rfl⟩ := List.mem_map.mp hv
    obtain ⟨its, rv, pt, _⟩ := I.tuple (hA q hq)
    exact ⟨q, its.toArray, rfl, pt, by show IntsAre _ (kA q); simpa using rv.ints⟩
  · obtain ⟨ep, he⟩ := PyProof.Rows.sortedAll_at s.heap (As.map Value.ref) out.toArray
    have eo : out = (out.map adO).map Value.ref := ref_map fun u hm => by
      obtain ⟨t, _, e⟩ := List.mem_map.mp (h2.perm.mem_iff.mp hm)
      exact ⟨t, e.symm⟩
    have hp : (out.map adO).Perm As := by
      have p1 := h2.perm.map adO
      rw [ad_map] at p1
      exact p1
    have hs : (out.map adO).Pairwise (fun p q => HT.lexLt (kA q) (kA p) = false) := List.pairwise_map.mpr (h1.imp fun {x y} z => z)
    have rvo : Vals ((out.map adO).map V.ref) out := by
      have z := of_nts (out.map adO)
      rw [← eo] at z
      exact z
    have hq := q (s.heap.objs.size + 1) ((out.map adO).map fun q => (V.ref q, kA q)) (I.hok.fresh (Nat.le_succ _)) (hp.map _) (by
      have em : ∀ l : List Addr, (l.map fun q => (V.ref q, kA q)).map (fun z : V × List Int => z.2) = l.map kA := fun l => by rw [List.map_map]; rfl
      rw [em, em]
      exact sortR_eq (hp.map _) (List.pairwise_map.mpr hs))
    rw [List.map_map] at hq
    have e2 : ((fun z : V × List Int => z.1) ∘ fun q => (V.ref q, kA q)) = V.ref := rfl
    rw [e2] at hq
    exact ⟨.ref _, _, I.laid (t' := s.toks) (o := .lst ((out.map adO).map V.ref)) (fun _ _ => PyProof.Rows.sortedAll_old) (Nat.le_succ _) ⟨by rw [List.length_map, hp.length_eq]; exact hzA, out, ep, rvo, he⟩, rfl, hq⟩
end
section
variable {F : Fam} {pr : List Nat} {K : Frag} {B : Addr → Prop} {Hf H : Hp} {g g' : Gh} {σ : L2.St}
theorem RepAll.pairs : ∀ {us : List V} {rs : List (List Int)}, RepAll K H us (rs.map tupW) → ∃ zs : List (V × List Int), zs.map (·.1) = us ∧ zs.map (·.2) = rs ∧ ∀ z ∈ zs, ∃ q, z.1 = V.ref q ∧ SqT K H q (z.2.map V.int) := by
  intro us rs
  induction rs generalizing us with
  | nil => intro h; cases h; exact ⟨[], rfl, rfl, fun z h => nomatch h⟩
  | cons r rs ih =>
    intro h
    rw [List.map_cons] at h
    cases h with
    | cons a t =>
      obtain ⟨zs, e1, e2, h⟩ := ih t
      unfold tupW at a
      cases a with
      | tup hs hr =>
        have := hr.ints
        subst this
        refine ⟨(_, r) :: zs, by rw [List.map_cons, e1], by rw [List.map_cons, e2], fun z hz => ?_⟩
        rcases List.mem_cons.mp hz with rfl | hz
        · exact ⟨_, rfl, hs⟩
        · exact h z hz
theorem RepAll.of_pairs : ∀ {zs : List (V × List Int)}, (∀ z ∈ zs, ∃ q, z.1 = V.ref q ∧ SqT K H q (z.2.map V.int)) → RepAll K H (zs.map (·.1)) ((zs.map (·.2)).map tupW)
  | [], _ => .nil
  | z :: zs, h => by
    obtain ⟨q, e, hs⟩ := h z List.mem_cons_self
    rw [List.map_cons, List.map_cons, List.map_cons, e]
    exact .cons (.tup hs (RepAll.of_ints _)) (RepAll.of_pairs fun z hz => h z (List.mem_cons_of_mem _ hz))
def dSortedB : List Da → Option Wv
  | [.list xs] => match intsOf xs with
    | some ns => some (.fresh ((sortI ns).map PyData.int))
    | none => (rowsOf xs).map fun rs => .fresh ((sortR rs).map tupW)
  | ds => dSortedA ds
theorem cd_sortedB (hu : ∀ i, (F.X i).A.units + 64 < cLine) : CallD F (.builtin "sorted") dSortedB := by
  intro ds w e
  unfold dSortedB at e
  split at e
  · rename_i xs
    cases hi : intsOf xs with
    | some ns =>
      rw [hi] at e
      exact cd_sortedA _ w (by rw [show dSortedA [.list xs] = (intsOf xs).map fun ns => Wv.fresh ((sortI ns).map PyData.int) from rfl, hi]; exact e)
    | none =>
      rw [hi] at e
      obtain ⟨rs, e1, e3⟩ := Option.map_eq_some_iff.mp e
      subst e3
      have e1 := rowsOf_some e1
      subst e1
      refine ⟨rSortedT F.K, fun i => by have h := @cr_sortedT (F.X i) (hu i); rw [F.hK i] at h; exact h, fun pr B Hf H g σ vs Q E h c => ?_⟩
      obtain ⟨v, rfl, l⟩ := h.one
      obtain ⟨p, us, rfl, s, r⟩ := l.seqL E.ex
      obtain ⟨zs, rfl, rfl, hz⟩ := r.pairs
      refine ⟨p, zs, rfl, s, fun z hm => ?_, fun q zs' hq hp e => ?_⟩
      · obtain ⟨q, e, hs⟩ := hz z hm
        exact ⟨q, e, Evl.ex_t E.ex hs⟩
      · refine c.newL E ?_ hq
        rw [← e]
        exact RepAll.of_pairs fun z hm => hz z (hp.mem_iff.mp hm)
  · exact cd_sortedA _ w e
theorem intsOf_tups {r : List Int} {rs : List (List Int)} : intsOf ((r :: rs).map tupW) = none := rfl
theorem d_sortB {rs : List (List Int)} : dSortedB [.list (rs.map tupW)] = some (.fresh ((sortR rs).map tupW)) := by
  cases rs with
  | nil => simp [sortR, dSortedB, intsOf, sortI]
  | cons r rs =>
    show (match intsOf ((r :: rs).map tupW) with
      | some ns => some (Wv.fresh ((sortI ns).map PyData.int))
      | none => (rowsOf ((r :: rs).map tupW)).map fun rs => Wv.fresh ((sortR rs).map tupW)) = _
    rw [intsOf_tups, rowsOf_map]; rfl
end
end EV
end
section
set_option maxHeartbeats 2000000
set_option autoImplicit false
/-! list + list -/
namespace EV
open PySem PySem.Spec PyProof.Rows L2
end EV
end
section
set_option autoImplicit false
namespace Lib
open PySem PySem.Spec PyProof.Rows L2 EV
def m_rows_count : MS :=
    (sSeq (sSet 2 (mC (.int 1)))
    (sSeq (sFor (mRg1 (mCons (mName 1) mNil)) (setN 3) (sSet 2 (mBin dMul (mName 2) (mName 0))))
    (sRet [] (mName 2))))
def F_rows_count : MF := bodyM [] 2 m_rows_count
def m__law_fd_times : MS :=
    (sSeq (sSet 2 (mC (.int 1)))
    (sSeq (sFor (mRg1 (mCons (mName 1) mNil)) (setN 3) (sSet 2 (mBin dMul (mName 2) (mName 0))))
    (sRet [] (mName 2))))
def F__law_fd_times : MF := bodyM [] 2 m__law_fd_times
end Lib
end
section
set_option exponentiation.threshold 3000
namespace Lib
open PySem PySem.Spec PyProof.Rows L2 EV
theorem seq_nx {s r : MS} {g g1 : Gh} (h : s g = some (.nx, g1)) : sSeq s r g = r g1 := by rw [e_seq, h]; rfl
theorem z0 : (0 ≤ sizeLine) = True := eq_true (by decide)
theorem z1 : (1 ≤ sizeLine) = True := eq_true (by decide)
theorem z2 : (2 ≤ sizeLine) = True := eq_true (by decide)
theorem z3 : (3 ≤ sizeLine) = True := eq_true (by decide)
theorem z5 : (5 ≤ sizeLine) = True := eq_true (by decide)
theorem e_sns {i j : Nat} {g : Gh} : setN i (.slot j) g = if i < g.length then (toD (.slot j) g).map fun r => r.2.set i (.val r.1) else none := rfl
/-! ### a number, multiplied by itself -/
/-! ### zeros at the end -/
/-! ### the value of a poly -/
/-! ### multiples -/
end Lib
end
section
set_option exponentiation.threshold 3000
namespace Lib
open PySem PySem.Spec PyProof.Rows L2 EV
theorem forL_cons {tg : Wv → Gh → Option Gh} {B : MS} {d : Da} {ds : List Da} {g g1 g2 : Gh} (h1 : tg (.dat d) g = some g1) (h2 : B g1 = some (.nx, g2)) : forL tg B (d :: ds) g = forL tg B ds g2 := by
  conv => lhs; unfold forL
  rw [h1, Option.bind_some, h2]
  rfl
/-! ### sums -/
/-! ### products -/
end Lib
end
section
set_option exponentiation.threshold 3000
namespace Lib
open PySem PySem.Spec PyProof.Rows L2 EV
/-! ### one poly for its values -/
/-! ### the poly that is 1 at one place and 0 at the others -/
end Lib
end
section
set_option exponentiation.threshold 3000
namespace Lib
open PySem PySem.Spec PyProof.Rows L2 EV
/-! ### through points -/
end Lib
end
section
set_option exponentiation.threshold 3000
namespace Lib
open PySem PySem.Spec PyProof.Rows L2 EV
/-! ### all rows of coins -/
theorem rg_nI (p : Int) : rgD 0 p = (nI p).map PyData.int := by
  unfold rgD nI
  rw [List.map_map, Int.sub_zero]
  refine List.map_congr_left fun k _ => ?_
  show PyData.int (0 + _) = _
  rw [Int.zero_add]; rfl
/-! ### what a lot is told -/
/-! ### how many, by the law -/
end Lib
end
section
set_option exponentiation.threshold 3000
namespace Lib
open PySem PySem.Spec PyProof.Rows L2 EV
/-! ### points out of two rows -/
theorem rgD_nat {m : Int} {n : Nat} (h : m = (n : Nat)) : rgD 0 m = (List.range n).map fun i : Nat => PyData.int (i : Nat) := by
  unfold rgD
  rw [Int.sub_zero, show m.toNat = n by omega]
  refine List.map_congr_left fun k _ => ?_
  show PyData.int (0 + _) = _
  rw [Int.zero_add]
theorem at_ints {xs : List Int} {i : Nat} (h : i < xs.length) : atI (xs.map PyData.int) ((i : Nat) : Int) = some (.int xs[i]) := by
  unfold atI
  rw [ix_nat (by rw [List.length_map]; exact h), Option.bind_some, List.getElem?_map, List.getElem?_eq_getElem h]
  rfl
end Lib
end
section
set_option exponentiation.threshold 3000
namespace Lib
open PySem PySem.Spec PyProof.Rows L2 EV
/-! ### a drawn sequence -/
/-! ### drawn numbers -/
end Lib
end
section
set_option exponentiation.threshold 3000
namespace Lib
open PySem PySem.Spec PyProof.Rows L2 EV
/-! ### lots -/
/-- a lot, and its rows -/
def Lot (p : Int) (bs : List Int) : Prop := (∀ x ∈ bs, 1 ≤ x ∧ x < p) ∧ bs.Pairwise (· < ·) ∧ bs.length ≤ 9
theorem Lot.nd {p : Int} {bs : List Int} (h : Lot p bs) : bs.Nodup := h.2.1.imp fun {a b} h e => by omega
end Lib
end
section
set_option exponentiation.threshold 3000
namespace Lib
open PySem PySem.Spec PyProof.Rows L2 EV
/-! ### dealt -/
/-! ### how many rows of coins -/
/-! ### coins behind -/
end Lib
end
section
set_option exponentiation.threshold 3000
namespace Lib
open PySem PySem.Spec PyProof.Rows L2 EV
/-! ### coins behind: what they are -/
section
variable {p c d : Int} {bs cs : List Int}
theorem eq_of_cfs {xs ys : List Int} (hp : 0 < p) (hx : InF p xs) (hy : InF p ys) (hl : xs.length = ys.length) (h : ∀ i, Cg p (cf xs i) (cf ys i)) : xs = ys := by
  refine List.ext_getElem hl fun i h1 h2 => ?_
  have := h i
  rw [cf_at h1, cf_at h2] at this
  exact cg_eq this (hx _ (List.getElem_mem h1)).1 (hx _ (List.getElem_mem h1)).2 (hy _ (List.getElem_mem h2)).1 (hy _ (List.getElem_mem h2)).2
end
/-! ### rows of coins, counted -/
/-! ### rows in their sequence -/
theorem lex_app : ∀ (a b x y : List Int), a.length = b.length → HT.lexLt (a ++ x) (b ++ y) = if a = b then HT.lexLt x y else HT.lexLt a b
  | [], [], x, y, _ => by rw [if_pos rfl]; rfl
  | [], b :: bs, _, _, h => by simp at h
  | a :: as, [], _, _, h => by simp at h
  | a :: as, b :: bs, x, y, h => by
    rw [List.cons_append, List.cons_append, HT.lexLt_cons, HT.lexLt_cons, lex_app as bs x y (by simpa using h)]
    by_cases e : a = b
    · subst e
      rw [if_pos rfl, if_pos rfl]
      by_cases e2 : as = bs
      · subst e2; rw [if_pos rfl, if_pos rfl]
      · rw [if_neg e2, if_neg (fun z => e2 (by injection z))]
    · rw [if_neg e, if_neg e, if_neg (fun z => e (by injection z))]
theorem asc_nI (p : Int) : (nI p).Pairwise (· < ·) := by
  refine List.pairwise_map.mpr ((List.pairwise_lt_range).imp fun {a b} h => by omega)
theorem vecs_asc (p : Int) : ∀ n : Nat, (vecs p n).Pairwise fun a b => HT.lexLt a b = true
  | 0 => List.pairwise_singleton _ _
  | n + 1 => by
    rw [vecs]
    refine List.pairwise_flatMap.mpr ⟨fun row _ => List.pairwise_map.mpr ((asc_nI p).imp fun {a b} h => ?_), (vecs_asc p n).imp_of_mem fun {a b} ha hb h x hx y hy => ?_⟩
    · rw [lex_app _ _ _ _ rfl, if_pos rfl, HT.lexLt_cons, if_neg (by omega), decide_eq_true h]
    · obtain ⟨k, _, rfl⟩ := List.mem_map.mp hx
      obtain ⟨m, _, rfl⟩ := List.mem_map.mp hy
      have la := (mem_vecs.mp ha).1
      have lb := (mem_vecs.mp hb).1
      rw [lex_app _ _ _ _ (by omega), if_neg (fun e => ?_), h]
      subst e
      have := NtL.lex_asym _ _ h
      rw [h] at this
      cases this
end Lib
end
section
set_option exponentiation.threshold 3000
namespace Lib
open PySem PySem.Spec PyProof.Rows L2 EV
/-! ### sums over the first numbers -/
def sumN : Nat → (Nat → Int) → Int
  | 0, _ => 0
  | n + 1, f => sumN n f + f n
theorem sumN_congr {f g : Nat → Int} : ∀ {n : Nat}, (∀ i, i < n → f i = g i) → sumN n f = sumN n g
  | 0, _ => rfl
  | n + 1, h => by rw [sumN, sumN, sumN_congr fun i hi => h i (by omega), h n (by omega)]
theorem sumN_cg {p : Int} {f g : Nat → Int} : ∀ {n : Nat}, (∀ i, i < n → Cg p (f i) (g i)) → Cg p (sumN n f) (sumN n g)
  | 0, _ => cg_refl p 0
  | n + 1, h => cg_add (sumN_cg fun i hi => h i (by omega)) (h n (by omega))
theorem sumN_add (f g : Nat → Int) : ∀ n : Nat, sumN n (fun i => f i + g i) = sumN n f + sumN n g
  | 0 => rfl
  | n + 1 => by rw [sumN, sumN, sumN, sumN_add f g n]; omega
theorem sumN_mul (c : Int) (f : Nat → Int) : ∀ n : Nat, sumN n (fun i => c * f i) = c * sumN n f
  | 0 => by rw [sumN, sumN, Int.mul_zero]
  | n + 1 => by rw [sumN, sumN, sumN_mul c f n, Int.mul_add]
theorem sumN_zero : ∀ {n : Nat} {f : Nat → Int}, (∀ i, i < n → f i = 0) → sumN n f = 0
  | 0, _, _ => rfl
  | n + 1, f, h => by rw [sumN, sumN_zero fun i hi => h i (by omega), h n (by omega)]; rfl
theorem sumN_one {f : Nat → Int} {j : Nat} : ∀ {n : Nat}, j < n → (∀ i, i < n → i ≠ j → f i = 0) → sumN n f = f j
  | 0, h, _ => by omega
  | n + 1, h, hz => by
    rw [sumN]
    by_cases e : j = n
    · subst e
      rw [sumN_zero fun i hi => hz i (by omega) (by omega)]; omega
    · rw [sumN_one (by omega) fun i hi hne => hz i (by omega) hne, hz n (by omega) (by omega)]; omega
theorem sumN_comm (f : Nat → Nat → Int) (m : Nat) : ∀ n : Nat, sumN n (fun i => sumN m (fun k => f i k)) = sumN m (fun k => sumN n (fun i => f i k))
  | 0 => by
    rw [sumN]
    exact (sumN_zero fun i _ => rfl).symm
  | n + 1 => by
    have : (fun k => sumN (n + 1) (fun i => f i k)) = fun k => sumN n (fun i => f i k) + f n k := rfl
    rw [sumN, sumN_comm f m n, this, sumN_add]
/-! ### rows that make 0 -/
def rowK (R : List (List Int)) (k : Nat) (j : Nat) : Int := cf (R.getD k []) j
def headK (hs : List Nat) (k : Nat) : Nat := hs.getD k 0
def Ker (p : Int) (n : Nat) (R : List (List Int)) (v : Nat → Int) : Prop := ∀ k, k < R.length → Cg p (sumN n fun i => rowK R k i * v i) 0
structure Rref (p : Int) (n : Nat) (R : List (List Int)) (hs : List Nat) : Prop where
  len : hs.length = R.length
  rl : ∀ r ∈ R, r.length = n ∧ InF p r
  asc : ∀ k m, k < m → m < hs.length → headK hs k < headK hs m
  lt : ∀ k, k < hs.length → headK hs k < n
  one : ∀ k, k < R.length → rowK R k (headK hs k) = 1
  zer : ∀ k j, k < R.length → j < headK hs k → rowK R k j = 0
  oth : ∀ k m, k < R.length → m < R.length → k ≠ m → rowK R k (headK hs m) = 0
section
variable {p : Int} {n : Nat} {R : List (List Int)} {hs : List Nat}
/-- the vector of a column without a head -/
def freeV (R : List (List Int)) (hs : List Nat) (c : Nat) (j : Nat) : Int := (if j = c then 1 else 0) + (-1) * sumN R.length fun k => rowK R k c * (if j = headK hs k then 1 else 0)
theorem headK_inj (h : Rref p n R hs) {k m : Nat} (hk : k < R.length) (hm : m < R.length) (e : headK hs k = headK hs m) : k = m := by
  have l := h.len
  rcases Nat.lt_trichotomy k m with z | z | z
  · have := h.asc k m z (by omega); omega
  · exact z
  · have := h.asc m k z (by omega); omega
theorem freeV_ker (h : Rref p n R hs) {c : Nat} (hc : c < n) : Ker p n R (freeV R hs c) := by
  intro m hm
  have l := h.len
  have e1 : (fun i => rowK R m i * freeV R hs c i) = fun i => rowK R m i * (if i = c then 1 else 0) + (-1) * sumN R.length (fun k => rowK R k c * (rowK R m i * (if i = headK hs k then 1 else 0))) := by
    funext i
    unfold freeV
    have : sumN R.length (fun k => rowK R k c * (rowK R m i * (if i = headK hs k then 1 else 0))) = rowK R m i * sumN R.length (fun k => rowK R k c * (if i = headK hs k then 1 else 0)) := by
      rw [← sumN_mul]
      exact sumN_congr fun k _ => by grind
    rw [this]
    grind
  rw [e1, sumN_add, sumN_mul, sumN_comm]
  have e2 : sumN n (fun i => rowK R m i * (if i = c then 1 else 0)) = rowK R m c := by
    rw [sumN_one hc fun i _ hne => by rw [if_neg hne, Int.mul_zero], if_pos rfl, Int.mul_one]
  have e3 : sumN R.length (fun k => sumN n (fun i => rowK R k c * (rowK R m i * (if i = headK hs k then 1 else 0)))) = rowK R m c := by
    rw [sumN_one hm fun k hk hne => ?_]
    · rw [sumN_mul, sumN_one (h.lt m (by omega)) fun i _ hne => by rw [if_neg hne, Int.mul_zero], if_pos rfl, h.one m hm]; omega
    · rw [sumN_mul, sumN_one (h.lt k (by omega)) fun i _ hne => by rw [if_neg hne, Int.mul_zero], if_pos rfl, h.oth m k hm hk (Ne.symm hne)]; omega
  rw [e2, e3]
  exact ⟨0, by grind⟩
theorem freeV_at (h : Rref p n R hs) {c k : Nat} (hk : k < R.length) (hne : headK hs k ≠ c) : freeV R hs c (headK hs k) = -rowK R k c := by
  unfold freeV
  rw [if_neg hne, sumN_one hk fun m hm hne => by rw [if_neg (fun e => hne (headK_inj h hk hm e).symm), Int.mul_zero], if_pos rfl]
  omega
theorem freeV_own (h : Rref p n R hs) {c : Nat} (hc : ∀ k, k < R.length → headK hs k ≠ c) : freeV R hs c c = 1 := by
  unfold freeV
  rw [if_pos rfl, sumN_zero fun k hk => by rw [if_neg (Ne.symm (hc k hk)), Int.mul_zero]]
  rfl
theorem freeV_out (h : Rref p n R hs) {c j : Nat} (hj : ∀ k, k < R.length → headK hs k ≠ j) (hne : j ≠ c) : freeV R hs c j = 0 := by
  unfold freeV
  rw [if_neg hne, sumN_zero fun k hk => by rw [if_neg (Ne.symm (hj k hk)), Int.mul_zero]]
  rfl
end
end Lib
end
section
set_option exponentiation.threshold 3000
namespace Lib
open PySem PySem.Spec PyProof.Rows L2 EV
section
variable {p : Int} {n : Nat} {R R' : List (List Int)} {hs hs' : List Nat}
theorem headK_at {hs : List Nat} {k : Nat} (h : k < hs.length) : headK hs k = hs[k] := by
  unfold headK
  rw [List.getD_eq_getElem?_getD, List.getElem?_eq_getElem h]; rfl
theorem mem_heads (h : Rref p n R hs) {c : Nat} : c ∈ hs ↔ ∃ k, k < R.length ∧ headK hs k = c := by
  rw [List.mem_iff_getElem]
  have l := h.len
  constructor
  · rintro ⟨k, hk, e⟩
    exact ⟨k, by omega, by rw [headK_at hk]; exact e⟩
  · rintro ⟨k, hk, e⟩
    exact ⟨k, by omega, by rw [← e, headK_at (by omega)]⟩
end
/-! ### the program's steps -/
/-! ### what a step keeps -/
end Lib
end
section
set_option exponentiation.threshold 3000
namespace Lib
open PySem PySem.Spec PyProof.Rows L2 EV
section
variable {p : Int} {n c : Nat} {rows : List (List Int)} {hs : List Nat}
theorem getD_el {α : Type} {xs : List α} {d : α} {k : Nat} (h : k < xs.length) : xs.getD k d = xs[k] := by
  rw [List.getD_eq_getElem?_getD, List.getElem?_eq_getElem h]; rfl
/-! ### a column, cleared -/
end
end Lib
end
section
set_option exponentiation.threshold 3000
namespace Lib
open PySem PySem.Spec PyProof.Rows L2 EV
section
variable {p : Int} {n c : Nat} {rows : List (List Int)} {hs : List Nat}
theorem cg_one (hp : 1 < p) {x : Int} (h : x % p = 1) : Cg p x 1 := cg_of_emod (by rw [h]; exact (Int.emod_eq_of_lt (by decide) hp).symm)
end
end Lib
end
section
set_option exponentiation.threshold 3000
namespace Lib
open PySem PySem.Spec PyProof.Rows L2 EV
end Lib
end
section
set_option maxHeartbeats 2000000
set_option autoImplicit false
/-! a call of a def that changes its second parameter -/
namespace EV
open PySem PySem.Spec PyProof.Rows L2
end EV
end
section
set_option maxHeartbeats 2000000
set_option autoImplicit false
/-! x[i], x[j] = a, b -/
namespace EV
open PySem PySem.Spec PyProof.Rows L2
end EV
end
section
set_option autoImplicit false
namespace Lib
open PySem PySem.Spec PyProof.Rows L2 EV
def m_is_vector : MS :=
    (sRet [] (mAndV (mFn Lib.F_are_numbers (mCons (mName 0) (mCons (mName 1) mNil))) (mBin dLe (mCall dLen (mCons (mName 1) mNil)) (mC (.int 60)))))
def F_is_vector : MF := bodyM [] 0 m_is_vector
def m_check_vector : MS :=
    (sIf (mNot (mTru (mFn F_is_vector (mCons (mName 0) (mCons (mName 1) mNil))))) sNo sNil)
def F_check_vector : MF := bodyM [] 0 m_check_vector
def m_sum_of_products : MS :=
    (sRet [] (mBin dMod (mCall dSum (mCons (mComp [3, 4] (mZipA (mCons (mName 1) (mCons (mName 2) mNil))) (setT [3, 4]) mYes (mBin dMul (mName 3) (mName 4))) mNil)) (mName 0)))
def F_sum_of_products : MF := bodyM [] 2 m_sum_of_products
end Lib
end
section
set_option maxHeartbeats 2000000
set_option autoImplicit false
/-! list comprehensions with two sources -/
namespace EV
open PySem PySem.Spec PyProof.Rows L2
section
variable {F : Fam} {pr : List Nat} {B : Addr → Prop} {Hf H Hf' H' Hf1 H1 Hf2 H2 : Hp} {g g' g1 g2 : Gh} {σ σ' σ1 σ2 : L2.St} {K : Frag}
theorem eg_weak {vs vs' : List Nat} {tg : Expr} {m : Wv → Gh → Option Gh} (h : EvG F pr vs tg m) (hv : ∀ i ∈ vs, i ∈ vs' := by decide) : EvG F pr vs' tg m := fun B Hf H g σ w v g' Q E W e q =>
  h B Hf H g σ w v g' Q E W e fun σ' Hf' H' s => q σ' Hf' H' ⟨s.tr, s.env, s.sub, s.prk, fun i hi => s.oth i fun z => hi (hv i z), s.slen⟩
def compL2 (vs : List Nat) (tg : Wv → Gh → Option Gh) (ts : MT) (inn : Gh → Option (List Da × Gh)) : List Da → Gh → Option (List Da × Gh)
  | [], g => some ([], g)
  | d :: ds, g => (tg (.dat d) g).bind fun g1 => (ts g1).bind fun b => if b.1 = true then
      (inn b.2).bind fun r => (compL2 vs tg ts inn ds (wipeG r.2 vs)).bind fun q => some (r.1 ++ q.1, q.2)
    else compL2 vs tg ts inn ds (wipeG b.2 vs)
def innL (vs1 : List Nat) (it1 : MI) (tg1 : Wv → Gh → Option Gh) (ts1 : MT) (el : ME) : Gh → Option (List Da × Gh) := fun g => (it1 g).bind fun a => compL vs1 tg1 ts1 el a.1 (wipeG a.2 vs1)
def mComp2 (vs vs1 : List Nat) (it : MI) (tg : Wv → Gh → Option Gh) (ts : MT) (it1 : MI) (tg1 : Wv → Gh → Option Gh) (ts1 : MT) (el : ME) : ME := fun g => (it g).bind fun a => (compL2 vs tg ts (innL vs1 it1 tg1 ts1 el) a.1 (wipeG a.2 vs)).bind fun r => if r.1.length ≤ sizeLine then some (.fresh r.1, restore vs a.2 r.2) else none
/-- the state between two turns of the second source -/
structure CInv2 (K : Frag) (pr : List Nat) (B : Addr → Prop) (Hf1 H1 : Hp) (g1 : Gh) (σ σ3 : L2.St) (vs vs1 : List Nat) (D : Addr) (Hf' H' : Hp) (g' : Gh) (acc : List Da) : Prop where
  env : En K pr B Hf' H' g' (wipe σ3 vs1)
  tr : Tr (Own (wipeG g1 vs) (wipe σ vs)) Hf1 H1 Hf' H'
  sub : ∀ p, Own g' (wipe σ3 vs1) p → Own (wipeG g1 vs) (wipe σ vs) p
  at_ : ∃ xs, H' D = some (.lst xs) ∧ RepAll K Hf' xs acc
  fz : Hf' D = none
  no : ¬ Own g' (wipe σ3 vs1) D
theorem comp2_ok {scope : Scope} {vs vs1 : List Nat} (hv : ∀ i ∈ vs1, i ∈ vs) {tg iter elt tg1 iter1 : Expr} {ifs ifs1 : List Expr} {it it1 : MI} {tm tm1 : Wv → Gh → Option Gh} {ts ts1 : MT} {el : ME} (hi : EvI F pr tg iter it) (hg : EvG (F.blk scope) pr vs tg tm) (ht : EvTs (F.blk scope) pr ifs ts)
    (hi1 : EvI (F.blk scope) pr tg1 iter1 it1) (hg1 : EvG (F.blk scope) pr vs1 tg1 tm1) (ht1 : EvTs (F.blk scope) pr ifs1 ts1) (he : Ev (F.blk scope) pr elt el)
    {w : Wv} {Q : VK} (E : En F.K pr B Hf H g σ) (eq : mComp2 vs vs1 it tm ts it1 tm1 ts1 el g = some (w, g')) (q : ∀ v Hf' H', Stp F.K pr B Hf H g σ Hf' H' g' → WOk F.K B Hf' H' g' σ w v → Yng H w v → Q v H') :
    tLc2 (UI F tg iter) (UG (F.blk scope) tg) (UTs (F.blk scope) ifs) (UI (F.blk scope) tg1 iter1) (UG (F.blk scope) tg1) (UTs (F.blk scope) ifs1) (U (F.blk scope) elt) vs vs1 σ H Q := by
  obtain ⟨⟨ds, g1⟩, e1, eq1⟩ := Option.bind_eq_some_iff.mp eq
  obtain ⟨⟨out, g2⟩, e2, eq2⟩ := Option.bind_eq_some_iff.mp eq1
  dsimp only at eq2 e2
  split at eq2
  · rename_i hlen
    cases eq2
    refine hi B Hf H g σ ds g1 _ E e1 fun J Hf1 H1 s1 wk D hD => ?_
    have hfD : Hf1 D = none := s1.env.frz hD
    let Pv : Nat → Hp → Prop := fun i H' => ∃ Hf' g' acc rest, CInv F.K pr B Hf1 H1 g1 σ vs D Hf' H' g' acc ∧ compL2 vs tm ts (innL vs1 it1 tm1 ts1 el) (ds.drop i) g' = some (rest, g2) ∧ acc ++ rest = out
    refine ⟨fun i m H' => m = ds.length - i ∧ i ≤ ds.length ∧ Pv i H', ⟨ds.length, by simp, Nat.zero_le _, Hf1, wipeG g1 vs, [], out, ⟨?_, ?_, fun _ h => h, ⟨[], upd_same, .nil⟩, hfD, ?_⟩, by rw [List.drop_zero]; exact e2, rfl⟩, ?_⟩
    · exact (s1.env.wipe vs).mut hD
    · exact Tr.mut hD
    · exact fun z => s1.env.own_none hD (own_wipe z)
    rintro i m H' ⟨rfl, hi, Hf', g', acc, rest, c, er, eo⟩
    have ex1 : Evl.Ex Hf1 Hf' := c.tr.ex
    obtain ⟨go, stop, yld⟩ := wk Hf' H' ex1 c.env.ex
    by_cases hlt : i < ds.length
    · refine .inr ⟨go i hlt, Pv (i + 1), fun H'' p => ⟨ds.length - (i + 1), by omega, rfl, hlt, p⟩, fun x H'' y => ?_⟩
      have hd : ds[i]? = some ds[i] := by simp [hlt]
      rw [List.drop_eq_getElem_cons hlt] at er
      obtain ⟨Hf2, t2, en2, rx⟩ := yld i _ x H'' hd y
      have E2 := en2 pr B g' (wipe σ vs) c.env
      obtain ⟨gt, k1, er1⟩ := Option.bind_eq_some_iff.mp (show ((tm (.dat ds[i]) g').bind _) = some (rest, g2) from er)
      obtain ⟨⟨b, gb⟩, k2, er2⟩ := Option.bind_eq_some_iff.mp er1
      obtain ⟨xs, hxs, rxs⟩ := c.at_
      obtain ⟨hD2, fD2⟩ := t2.keep D _ hxs (fun z => z)
      refine hg B Hf2 H'' g' (wipe σ vs) (.dat ds[i]) x gt _ E2 rx k1 fun σ3 Hf3 H3 s3 => ?_
      have nD3 : ¬ Own gt σ3 D := fun z => by
        rcases s3.sub D z with z | ⟨⟨_, z⟩, _⟩
        · exact c.no z
        · cases z
      obtain ⟨hD3, fD3⟩ := s3.tr.keep D _ hD2 c.no
      have wl : wipe σ3 vs = wipe σ vs := by
        rw [wipe_eq (σ1 := σ3) (σ2 := wipe σ vs) ?_ s3.oth]
        · rw [wipe_eq (σ1 := wipe σ vs) (σ2 := σ) (by rw [wipe_length]) fun i hi => wipe_get hi]
        · exact s3.slen
      refine ⟨wl, ?_⟩
      refine ht B Hf3 H3 gt σ3 b gb _ s3.env k2 fun Hf4 H4 s4 => ?_
      obtain ⟨hD4, fD4⟩ := s4.tr.keep D _ hD3 nD3
      have nD4 : ¬ Own gb σ3 D := fun z => nD3 (s4.sub D z)
      have sub3 : ∀ p, Own gt σ3 p → Own (wipeG g1 vs) (wipe σ vs) p := fun p z => by
        rcases s3.sub p z with z | ⟨⟨_, z⟩, _⟩
        · exact c.sub p z
        · cases z
      have sub4 : ∀ p, Own gb σ3 p → Own (wipeG g1 vs) (wipe σ vs) p := fun p z => sub3 p (s4.sub p z)
      have T4 : Tr (Own (wipeG g1 vs) (wipe σ vs)) Hf1 H1 Hf4 H4 := ((c.tr.trans' t2 fun p z => z.elim).trans' s3.tr c.sub).trans' s4.tr sub3
      have e0 : ∀ {Hx : Hp}, Evl.Ex Hf2 Hx → Evl.Ex Hf' Hx := fun z => t2.ex.trans z
      cases b with
      | false =>
        dsimp only at er2
        rw [if_neg Bool.false_ne_true] at er2
        show if false = true then _ else Pv (i + 1) H4
        rw [if_neg Bool.false_ne_true]
        refine ⟨Hf4, wipeG gb vs, acc, rest, ⟨?_, T4, fun p z => ?_, ⟨xs, hD4, rxs.mono (e0 (s3.tr.ex.trans s4.tr.ex))⟩, ?_, fun z => ?_⟩, er2, eo⟩
        · have := s4.env.wipe vs
          rw [wl] at this; exact this
        · rw [← wl] at z; exact sub4 p (own_wipe z)
        · rw [fD4, fD3, fD2]; exact c.fz
        · rw [← wl] at z; exact nD4 (own_wipe z)
      | true =>
        dsimp only at er2
        rw [if_pos rfl] at er2
        rw [if_pos rfl]
        obtain ⟨⟨oin, g3⟩, k3, er3⟩ := Option.bind_eq_some_iff.mp er2
        obtain ⟨⟨rest', g4⟩, k5, er5⟩ := Option.bind_eq_some_iff.mp er3
        cases er5
        obtain ⟨⟨ds1, gi⟩, k6, k7⟩ := Option.bind_eq_some_iff.mp (show ((it1 gb).bind _) = some (oin, g3) from k3)
        dsimp only at k7 k5
        refine hi1 B Hf4 H4 gb σ3 ds1 gi _ s4.env k6 fun J1 Hf5 H5 s5 wk1 => ?_
        obtain ⟨hD5, fD5⟩ := s5.tr.keep D _ hD4 nD4
        have nD5 : ¬ Own gi σ3 D := fun z => nD4 (s5.sub D z)
        have sub5 : ∀ p, Own gi σ3 p → Own (wipeG g1 vs) (wipe σ vs) p := fun p z => sub4 p (s5.sub p z)
        have T5 : Tr (Own (wipeG g1 vs) (wipe σ vs)) Hf1 H1 Hf5 H5 := T4.trans' s5.tr sub4
        have lout : acc.length + oin.length ≤ sizeLine := by
          have := hlen
          rw [← eo] at this
          simp only [List.length_append] at this
          omega
        have ex5 : Evl.Ex Hf' Hf5 := e0 (s3.tr.ex.trans (s4.tr.ex.trans s5.tr.ex))
        let Pw : Nat → Hp → Prop := fun j H' => ∃ Hx g' acc' r', CInv2 F.K pr B Hf1 H1 g1 σ σ3 vs vs1 D Hx H' g' acc' ∧ Evl.Ex Hf5 Hx ∧ compL vs1 tm1 ts1 el (ds1.drop j) g' = some (r', g3) ∧ acc' ++ r' = acc ++ oin
        refine ⟨fun j m H' => m = ds1.length - j ∧ j ≤ ds1.length ∧ Pw j H', ⟨ds1.length, by simp, Nat.zero_le _, Hf5, wipeG gi vs1, acc, oin, ⟨?_, T5, fun p z => ?_, ⟨xs, hD5, rxs.mono ex5⟩, ?_, fun z => ?_⟩, fun _ _ h => h, by rw [List.drop_zero]; exact k7, rfl⟩, ?_⟩
        · exact s5.env.wipe vs1
        · exact sub5 p (own_wipe z)
        · rw [fD5, fD4, fD3, fD2]; exact c.fz
        · exact nD5 (own_wipe z)
        rintro j m Hy ⟨rfl, hj, Hx, gx, acc', r', c', x5, er', eo'⟩
        obtain ⟨go1, stop1, yld1⟩ := wk1 Hx Hy x5 c'.env.ex
        by_cases hlt1 : j < ds1.length
        · refine .inr ⟨go1 j hlt1, Pw (j + 1), fun H'' p => ⟨ds1.length - (j + 1), by omega, rfl, hlt1, p⟩, fun x H'' y => ?_⟩
          have hd1 : ds1[j]? = some ds1[j] := by simp [hlt1]
          rw [List.drop_eq_getElem_cons hlt1] at er'
          obtain ⟨Hf6, t6, en6, rx6⟩ := yld1 j _ x H'' hd1 y
          have E6 := en6 pr B gx (wipe σ3 vs1) c'.env
          obtain ⟨gt1, m1, f1⟩ := Option.bind_eq_some_iff.mp (show ((tm1 (.dat ds1[j]) gx).bind _) = some (r', g3) from er')
          obtain ⟨⟨b1, gb1⟩, m2, f2⟩ := Option.bind_eq_some_iff.mp f1
          obtain ⟨ys, hys, rys⟩ := c'.at_
          obtain ⟨hD6, fD6⟩ := t6.keep D _ hys (fun z => z)
          refine hg1 B Hf6 H'' gx (wipe σ3 vs1) (.dat ds1[j]) x gt1 _ E6 rx6 m1 fun σ7 Hf7 H7 s7 => ?_
          have nD7 : ¬ Own gt1 σ7 D := fun z => by
            rcases s7.sub D z with z | ⟨⟨_, z⟩, _⟩
            · exact c'.no z
            · cases z
          obtain ⟨hD7, fD7⟩ := s7.tr.keep D _ hD6 c'.no
          have wl1 : wipe σ7 vs1 = wipe σ3 vs1 := by
            rw [wipe_eq (σ1 := σ7) (σ2 := wipe σ3 vs1) ?_ s7.oth]
            · rw [wipe_eq (σ1 := wipe σ3 vs1) (σ2 := σ3) (by rw [wipe_length]) fun i hi => wipe_get hi]
            · exact s7.slen
          refine ⟨wl1, ?_⟩
          refine ht1 B Hf7 H7 gt1 σ7 b1 gb1 _ s7.env m2 fun Hf8 H8 s8 => ?_
          obtain ⟨hD8, fD8⟩ := s8.tr.keep D _ hD7 nD7
          have nD8 : ¬ Own gb1 σ7 D := fun z => nD7 (s8.sub D z)
          have sub7 : ∀ p, Own gt1 σ7 p → Own (wipeG g1 vs) (wipe σ vs) p := fun p z => by
            rcases s7.sub p z with z | ⟨⟨_, z⟩, _⟩
            · exact c'.sub p z
            · cases z
          have sub8 : ∀ p, Own gb1 σ7 p → Own (wipeG g1 vs) (wipe σ vs) p := fun p z => sub7 p (s8.sub p z)
          have T8 : Tr (Own (wipeG g1 vs) (wipe σ vs)) Hf1 H1 Hf8 H8 := ((c'.tr.trans' t6 fun p z => z.elim).trans' s7.tr c'.sub).trans' s8.tr sub7
          have e6 : ∀ {Hz : Hp}, Evl.Ex Hf6 Hz → Evl.Ex Hx Hz := fun z => t6.ex.trans z
          cases b1 with
          | false =>
            dsimp only at f2
            rw [if_neg Bool.false_ne_true] at f2
            show if false = true then _ else Pw (j + 1) H8
            rw [if_neg Bool.false_ne_true]
            refine ⟨Hf8, wipeG gb1 vs1, acc', r', ⟨?_, T8, fun p z => ?_, ⟨ys, hD8, rys.mono (e6 (s7.tr.ex.trans s8.tr.ex))⟩, ?_, fun z => ?_⟩, x5.trans (e6 (s7.tr.ex.trans s8.tr.ex)), f2, eo'⟩
            · have := s8.env.wipe vs1
              rw [wl1] at this; exact this
            · rw [← wl1] at z; exact sub8 p (own_wipe z)
            · rw [fD8, fD7, fD6]; exact c'.fz
            · rw [← wl1] at z; exact nD8 (own_wipe z)
          | true =>
            dsimp only at f2
            rw [if_pos rfl] at f2
            rw [if_pos rfl]
            obtain ⟨⟨we, ge⟩, m3, f3⟩ := Option.bind_eq_some_iff.mp f2
            obtain ⟨⟨d, gr⟩, m4, f4⟩ := Option.bind_eq_some_iff.mp f3
            obtain ⟨⟨r'', g5⟩, m5, f5⟩ := Option.bind_eq_some_iff.mp f4
            cases f5
            refine he B Hf8 H8 gb1 σ7 we ge _ s8.env m3 fun y' Hf9 H9 s9 w9 y9 => ?_
            obtain ⟨Hfa, sa, ra⟩ := s9.toD y9 w9 m4
            obtain ⟨hDa, fDa⟩ := sa.tr.keep D _ hD8 nD8
            have nDa : ¬ Own gr σ7 D := fun z => nD8 (sa.sub D z)
            have fD : Hfa D = none := by rw [fDa, fD8, fD7, fD6]; exact c'.fz
            have Ta := T8.trans' sa.tr sub8
            have la := rys.length
            have lt : acc'.length < sizeLine := by
              have := congrArg List.length eo'
              simp only [List.length_append, List.length_cons] at this
              omega
            refine ⟨ys, hDa, by omega, Hfa, wipeG gr vs1, acc' ++ [d], r'', ⟨?_, ⟨Ta.ex, fun p o hp no => ?_, fun p hp => Ta.stay p (upd_none hp)⟩, fun p z => ?_, ⟨ys ++ [y'], upd_same, ?_⟩, fD, fun z => ?_⟩, x5.trans (e6 (s7.tr.ex.trans (s8.tr.ex.trans sa.tr.ex))), m5, by rw [← eo']; simp⟩
            · have := (sa.env.put (o := .lst (ys ++ [y'])) fD nDa).wipe vs1
              rw [wl1] at this; exact this
            · obtain ⟨z1, z2⟩ := Ta.keep p o hp no
              exact ⟨by rw [upd_ne (ne_of_none hp hD)]; exact z1, z2⟩
            · rw [← wl1] at z; exact sub8 p (sa.sub p (own_wipe z))
            · exact (rys.mono (e6 (s7.tr.ex.trans (s8.tr.ex.trans sa.tr.ex)))).append (.cons ra .nil)
            · rw [← wl1] at z; exact nDa (own_wipe z)
        · have ej : j = ds1.length := by omega
          subst ej
          refine .inl ⟨stop1, ?_⟩
          rw [List.drop_length] at er'
          cases er'
          rw [List.append_nil] at eo'
          have wl3 : wipe (wipe σ3 vs1) vs = wipe σ vs := by
            rw [← wl]
            exact wipe_eq (by rw [wipe_length]) fun i hi => wipe_get fun z => hi (hv i z)
          refine ⟨Hx, wipeG g3 vs, acc', rest', ⟨?_, c'.tr, fun p z => ?_, c'.at_, c'.fz, fun z => ?_⟩, k5, by rw [eo', ← eo, List.append_assoc]⟩
          · have := c'.env.wipe vs
            rw [wl3] at this; exact this
          · rw [← wl3] at z; exact c'.sub p (own_wipe z)
          · rw [← wl3] at z; exact c'.no (own_wipe z)
    · have e : i = ds.length := by omega
      subst e
      refine .inl ⟨stop, ?_⟩
      rw [List.drop_length] at er
      cases er
      rw [List.append_nil] at eo
      subst eo
      obtain ⟨xs, hxs, rxs⟩ := c.at_
      have gl : g1.length = g2.length := by
        have h1 := s1.env.len
        have h2 := c.env.len
        rw [wipe_length] at h2; omega
      have apart : ∀ (i : Nat) (s : Sl) p, i ∈ vs → g1[i]? = some s → s.ow = true → At s σ[i]? p → ¬ Own (wipeG g1 vs) (wipe σ vs) p := fun i s p hi h1 o1 h2 z => by
        obtain ⟨j, t, e1, o2, e2⟩ := z
        obtain ⟨e1, nj⟩ := wipeG_get e1 (ow_ne o2)
        have := s1.env.dis i j s t p h1 o1 e1 o2 h2 (e2.imp fun z => (wipe_some z).1)
        exact nj (this ▸ hi)
      have own_r : ∀ p, Own (restore vs g1 g2) σ p → Own g1 σ p := fun p ⟨i, s, e1, o1, e2⟩ => by
        rw [restore_get g1 gl] at e1
        split at e1
        · exact ⟨i, s, e1, o1, e2⟩
        · rename_i hi
          exact own_wipe (c.sub p ⟨i, s, e1, o1, by rw [wipe_get hi]; exact e2⟩)
      have er : En F.K pr B Hf' H' (restore vs g1 g2) σ := by
        refine ⟨c.env.ex, by rw [restore_len, ← gl]; exact s1.env.len, fun i s e n => ?_, fun i j es fs p h1 o1 h2 o2 e1 e2 => ?_, c.env.nb, fun i es p h1 o1 e1 => ?_, fun i es p h1 hp => ?_⟩
        · rw [restore_get g1 gl] at e
          split at e
          · rename_i hi
            obtain ⟨v, e1, so⟩ := s1.env.ok i s e n
            refine ⟨v, e1, ?_⟩
            exact so.stay c.tr.ex fun p u o z h2 h1 => by
              obtain ⟨k1, k2⟩ := c.tr.keep p _ h2 (apart i s p hi e o (by rw [e1]; exact z))
              exact ⟨k1, k2.trans h1⟩
          · rename_i hi
            obtain ⟨v, e1, so⟩ := c.env.ok i s e n
            exact ⟨v, by rw [wipe_get hi] at e1; exact e1, so⟩
        · rw [restore_get g1 gl] at h1 h2
          split at h1
          · rename_i hi
            split at h2
            · exact s1.env.dis i j es fs p h1 o1 h2 o2 e1 e2
            · rename_i hj
              exact (apart i es p hi h1 o1 e1 (c.sub p ⟨j, fs, h2, o2, by rw [wipe_get hj]; exact e2⟩)).elim
          · rename_i hi
            split at h2
            · rename_i hj
              exact (apart j fs p hj h2 o2 e2 (c.sub p ⟨i, es, h1, o1, by rw [wipe_get hi]; exact e1⟩)).elim
            · rename_i hj
              exact c.env.dis i j es fs p h1 o1 h2 o2 (by rw [wipe_get hi]; exact e1) (by rw [wipe_get hj]; exact e2)
        · rw [restore_get g1 gl] at h1
          split at h1
          · exact s1.env.ob i es p h1 o1 e1
          · rename_i hi
            exact c.env.ob i es p h1 o1 (by rw [wipe_get hi]; exact e1)
        · rw [restore_get g1 gl] at h1
          split at h1
          · exact s1.env.obi i es p h1 hp
          · exact c.env.obi i es p h1 hp
      refine q _ Hf' H' ⟨s1.tr.trans' c.tr fun p z => s1.sub p (own_wipe z), er, fun p z => s1.sub p (own_r p z)⟩ ⟨D, xs, rfl, s1.env.nb D hD, c.fz, hxs, rxs, fun z => ?_⟩ (fun _ _ p e => by cases e; exact s1.tr.stay _ hD)
      exact s1.env.own_none hD (own_r D z)
  · cases eq2
theorem ev_comp2 {scope : Scope} {own : List (Str × Nat)} {vs1 : List Nat} {tg iter elt tg1 iter1 : Expr} {ifs ifs1 : List Expr} {it it1 : MI} {tm tm1 : Wv → Gh → Option Gh} {ts ts1 : MT} {el : ME} {pos : Pos} (hc : ∀ i, (F.X i).calm = true) (hN : ∀ i, (F.X i).N.Nodup) (ok : ∀ i, BlkOk (F.X i).N (F.X i).env.scope scope own) (hv : ∀ i ∈ vs1, i ∈ own.map (·.2))
    (hi : EvI F pr tg iter it) (hg : EvG (F.blk scope) pr (own.map (·.2)) tg tm) (ht : EvTs (F.blk scope) pr ifs ts) (hi1 : EvI (F.blk scope) pr tg1 iter1 it1) (hg1 : EvG (F.blk scope) pr vs1 tg1 tm1) (ht1 : EvTs (F.blk scope) pr ifs1 ts1) (he : Ev (F.blk scope) pr elt el)
    (hs : ∀ i, ∀ x, foldedSetIterable iter (F.X i).env x = pure x := by intro _ _; rfl) (hs1 : ∀ env x, foldedSetIterable iter1 env x = pure x := by intro _ _; rfl) :
    Ev F pr (.ListComp elt [⟨tg, iter, ifs, 0⟩, ⟨tg1, iter1, ifs1, 0⟩] scope pos) (mComp2 (own.map (·.2)) vs1 it tm ts it1 tm1 ts1 el) := by
  intro B Hf H g σ w g' Q E eq q
  exact ⟨_, fun i => pe_lc2 (hc i) (hN i) (pi_U i) (ok i) hv (fun s H C cl fp => pg_U (F := F.blk scope) (i, s, H, C, cl, fp)) (fun s H C cl fp => pts_U (F := F.blk scope) (i, s, H, C, cl, fp)) (fun s H C cl fp => pi_U (F := F.blk scope) (i, s, H, C, cl, fp)) (fun s H C cl fp => pg_U (F := F.blk scope) (i, s, H, C, cl, fp)) (fun s H C cl fp => pts_U (F := F.blk scope) (i, s, H, C, cl, fp)) (fun s H C cl fp => pe_U (F := F.blk scope) (i, s, H, C, cl, fp)) (hs i) hs1, comp2_ok hv hi hg ht hi1 hg1 ht1 he E eq q⟩
/-- y = [.. for .. for ..], y a local -/
theorem s_setLc2 (i : Nat) {y : Str} {scope : Scope} {own : List (Str × Nat)} {vs1 : List Nat} {tg iter elt tg1 iter1 : Expr} {ifs ifs1 : List Expr} {it it1 : MI} {tm tm1 : Wv → Gh → Option Gh} {ts ts1 : MT} {el : ME} {pos spos py : Pos} (hc : ∀ i, (F.X i).calm = true) (hN : ∀ i, (F.X i).N.Nodup) (ok : ∀ i, BlkOk (F.X i).N (F.X i).env.scope scope own) (hv : ∀ i ∈ vs1, i ∈ own.map (·.2))
    (hi : EvI F pr tg iter it) (hg : EvG (F.blk scope) pr (own.map (·.2)) tg tm) (ht : EvTs (F.blk scope) pr ifs ts) (hi1 : EvI (F.blk scope) pr tg1 iter1 it1) (hg1 : EvG (F.blk scope) pr vs1 tg1 tm1) (ht1 : EvTs (F.blk scope) pr ifs1 ts1) (he : Ev (F.blk scope) pr elt el)
    (hy : ∀ j, (F.X j).N[i]? = some y := by intro _; rfl) (hyl : ∀ j, (F.X j).env.scope.names.lookup y = some .local := by intro _; rfl) (hsw : ∀ j, swapsWith (.ListComp elt [⟨tg, iter, ifs, 0⟩, ⟨tg1, iter1, ifs1, 0⟩] scope pos) (some (.Name y py)) spos.line (F.X j).env = pure true := by intro _; exact sw_true rfl rfl rfl (by decide +kernel))
    (hs : ∀ i, ∀ x, foldedSetIterable iter (F.X i).env x = pure x := by intro _ _; rfl) (hs1 : ∀ env x, foldedSetIterable iter1 env x = pure x := by intro _ _; rfl) (hp : i ∉ pr := by decide) :
    EvS F pr (.Assign [.Name y py] (.ListComp elt [⟨tg, iter, ifs, 0⟩, ⟨tg1, iter1, ifs1, 0⟩] scope pos) spos) (sSet i (mComp2 (own.map (·.2)) vs1 it tm ts it1 tm1 ts1 el)) := by
  intro B Hf H g σ fl g' D E eq q
  obtain ⟨⟨w, g1⟩, e1, eq1⟩ := Option.bind_eq_some_iff.mp eq
  obtain ⟨g2, e2, eq2⟩ := Option.bind_eq_some_iff.mp eq1
  cases eq2
  refine ⟨_, fun j => ps_setLc2 (hc j) (hN j) (hy j) (hyl j) (hsw j) (pi_U j) (ok j) hv (fun s H C cl fp => pg_U (F := F.blk scope) (j, s, H, C, cl, fp)) (fun s H C cl fp => pts_U (F := F.blk scope) (j, s, H, C, cl, fp)) (fun s H C cl fp => pi_U (F := F.blk scope) (j, s, H, C, cl, fp)) (fun s H C cl fp => pg_U (F := F.blk scope) (j, s, H, C, cl, fp)) (fun s H C cl fp => pts_U (F := F.blk scope) (j, s, H, C, cl, fp)) (fun s H C cl fp => pe_U (F := F.blk scope) (j, s, H, C, cl, fp)) (hs j) hs1, ?_⟩
  refine comp2_ok (Q := fun x H1 => gName i x σ H1 D.nx) hv hi hg ht hi1 hg1 ht1 he E e1 fun v Hf1 H1 s1 w1 y1 => ?_
  obtain ⟨Hf2, t⟩ := setN_ok s1.env w1 e2 hp
  exact q _ Hf2 H1 (set_sstp s1 y1 t)
/-- what it gives: rows of inner lists, the state kept -/
theorem compL2_map {α : Type} {vs : List Nat} {tg : Wv → Gh → Option Gh} {inn : Gh → Option (List Da × Gh)} {e : α → Da} {G : α → List Da} {g : Gh} : ∀ {xs : List α}, (∀ x ∈ xs, ∃ g1 g2, tg (.dat (e x)) g = some g1 ∧ inn g1 = some (G x, g2) ∧ wipeG g2 vs = g) → compL2 vs tg mYes inn (xs.map e) g = some ((xs.map G).flatten, g)
  | [], _ => rfl
  | x :: xs, h => by
    obtain ⟨g1, g2, h1, h2, h3⟩ := h x List.mem_cons_self
    have ih := compL2_map (xs := xs) fun y hy => h y (List.mem_cons_of_mem _ hy)
    rw [List.map_cons, compL2, h1, Option.bind_some]
    show ((inn g1).bind fun r => (compL2 vs tg mYes inn (xs.map e) (wipeG r.2 vs)).bind fun q => some (r.1 ++ q.1, q.2)) = _
    rw [h2, Option.bind_some]
    dsimp only
    rw [h3, ih]
    rfl
end
end EV
end
section
set_option maxHeartbeats 2000000
set_option autoImplicit false
/-! ExE: defs that call themselves: a family of mirrors by fuel; with none left nothing is told. -/
namespace EV
open PySem PySem.Spec PyProof.Rows L2
section
variable {pr : List Nat} {K : Frag}
def noMF : MF := fun _ => none
theorem fn_none {P : Program} {w : World} {mg : Str → Option Value} {base : Heap} {x qual : Str} {st : Stmt} {f : Addr} {fd : FuncData} {N ps : List Str} {k n : Nat} (Fu : Fun K x qual st f fd) (S : FnScope N ps (defScope st)) (hn : n = ps.length) : FnOk P w K mg base CX0 (k + 1) f fd ps (spM K n pr noMF) := by
  refine Fu.ok S (fun vs H Q E h => h.1.trans hn) fun cdv A outer s H vs Q E hr h => ?_
  obtain ⟨hl, Hf, G, w, G', En0, hown, em, q⟩ := h
  cases em
/-- the mirrors of a def that calls itself -/
def fam (b : MF → MF) : Nat → MF
  | 0 => noMF
  | n + 1 => b (fam b n)
end
end EV
end
section
set_option autoImplicit false
namespace Lib
open PySem PySem.Spec PyProof.Rows L2 EV
def m_all_vectors (R : MF) : MS :=
    (sSeq (sIf (mCmp dLt (mName 1) (mC (.int 2))) (sRet [] (mIf (mCmp dEq (mName 1) (mC (.int 1))) (mComp [4] (mRg1 (mCons (mName 0) mNil)) (setN 4) mYes (mTup (mCons (mName 4) mNil))) (mLst (mCons (mTup mNil) mNil)))) sNil)
    (sSeq (sSet 2 (mFn R (mCons (mName 0) (mCons (mBin dFdiv (mName 1) (mC (.int 2))) mNil))))
    (sSeq (sSet 3 (mFn R (mCons (mName 0) (mCons (mBin dSub (mName 1) (mBin dFdiv (mName 1) (mC (.int 2)))) mNil))))
    (sRet [] (mComp2 [5, 6] [6] (mIt (mName 2)) (setN 5) mYes (mIt (mName 3)) (setN 6) mYes (mBin dAdd (mName 5) (mName 6)))))))
def F_all_vectors : Nat → MF := fam fun R => bodyM [] 5 (m_all_vectors R)
end Lib
end
section
set_option maxHeartbeats 2000000
set_option autoImplicit false
/-! sorted(tuple of tuples of ints) -/
namespace EV
open PySem PySem.Spec PyProof.Rows L2
end EV
end
section
set_option autoImplicit false
namespace Lib
open PySem PySem.Spec PyProof.Rows L2 EV
def m_weighted : MS :=
    (sSeq (sDrop (mFn Lib.F_check_field (mCons (mName 0) mNil)))
    (sSeq (sDrop (mFn Lib.F_check_vector (mCons (mName 0) (mCons (mName 1) mNil))))
    (sSeq (sDrop (mFn Lib.F_check_vector (mCons (mName 0) (mCons (mName 2) mNil))))
    (sSeq (sIf (mCmp dNe (mCall dLen (mCons (mName 1) mNil)) (mCall dLen (mCons (mName 2) mNil))) sNo sNil)
    (sRet [] (mFn Lib.F_sum_of_products (mCons (mName 0) (mCons (mName 1) (mCons (mName 2) mNil)))))))))
def F_weighted : MF := bodyM [] 0 m_weighted
def m_vectors_count : MS :=
    (sSeq (sDrop (mFn Lib.F_check_field (mCons (mName 0) mNil)))
    (sSeq (sDrop (mFn Lib.F_check_vector (mCons (mName 0) (mCons (mName 1) mNil))))
    (sSeq (sDrop (mFn Lib.F_check_number (mCons (mName 0) (mCons (mName 2) mNil))))
    (sSeq (sIf (mTru (mCall dAny (mCons (mComp [3] (mIt (mName 1)) (setN 3) mYes (mBin dNe (mName 3) (mC (.int 0)))) mNil))) (sRet [] (mFn Lib.F_rows_count (mCons (mName 0) (mCons (mBin dSub (mCall dLen (mCons (mName 1) mNil)) (mC (.int 1))) mNil)))) sNil)
    (sRet [] (mIf (mCmp dEq (mName 2) (mC (.int 0))) (mFn Lib.F_rows_count (mCons (mName 0) (mCons (mCall dLen (mCons (mName 1) mNil)) mNil))) (mC (.int 0))))))))
def F_vectors_count : MF := bodyM [] 1 m_vectors_count
def m_heavy_places : MS :=
    (sRet [] (mComp [1] (mRg1 (mCons (mCall dLen (mCons (mName 0) mNil)) mNil)) (setN 1) (mCmp dNe (mIx (mName 0) (mName 1)) (mC (.int 0))) (mName 1)))
def F_heavy_places : MF := bodyM [] 1 m_heavy_places
def m_all_lacks : MS :=
    (sSeq (sSet 3 (mLst (mCons (mName 2) mNil)))
    (sSeq (sFor (mIt (mName 1)) (setN 4) (sSeq (sSet 5 (mComp [6] (mRg1 (mCons (mName 0) mNil)) (setN 6) mYes (mBin dMul (mName 4) (mName 6))))
    (sSet 3 (mComp2 [7, 8] [8] (mIt (mName 3)) (setN 7) mYes (mIt (mName 5)) (setN 8) mYes (mBin dSub (mName 7) (mName 8))))))
    (sRet [] (mName 3))))
def F_all_lacks : MF := bodyM [] 6 m_all_lacks
def m_solved_vectors : MS :=
    (sSeq (sSet 4 (mFn Lib.F_inverse (mCons (mName 0) (mCons (mIx (mName 1) (mName 2)) mNil))))
    (sSeq (sSet 5 (mComp [9] (mRg1 (mCons (mName 0) mNil)) (setN 9) mYes (mTup (mCons (mBin dMod (mBin dMul (mName 9) (mName 4)) (mName 0)) mNil))))
    (sSeq (sSet 6 (mFn F_all_lacks (mCons (mName 0) (mCons (mSl (mName 1) mO0 (mO1 (mName 2))) (mCons (mName 3) mNil)))))
    (sSeq (sSet 7 (mComp [10, 9] (mZipA (mCons (mFn (Lib.F_all_vectors 8) (mCons (mName 0) (mCons (mName 2) mNil))) (mCons (mName 6) mNil))) (setT [10, 9]) mYes (mBin dAdd (mName 10) (mIx (mName 5) (mBin dMod (mName 9) (mName 0))))))
    (sSeq (sSet 8 (mFn (Lib.F_all_vectors 8) (mCons (mName 0) (mCons (mBin dSub (mBin dSub (mCall dLen (mCons (mName 1) mNil)) (mName 2)) (mC (.int 1))) mNil))))
    (sRet [] (mComp2 [11, 12] [12] (mIt (mName 7)) (setN 11) mYes (mIt (mName 8)) (setN 12) mYes (mBin dAdd (mName 11) (mName 12)))))))))
def F_solved_vectors : MF := bodyM [] 9 m_solved_vectors
def m_vectors_with : MS :=
    (sSeq (sDrop (mFn Lib.F_check_field (mCons (mName 0) mNil)))
    (sSeq (sDrop (mFn Lib.F_check_vector (mCons (mName 0) (mCons (mName 1) mNil))))
    (sSeq (sDrop (mFn Lib.F_check_number (mCons (mName 0) (mCons (mName 2) mNil))))
    (sSeq (sIf (mCmp dGt (mFn Lib.F_rows_count (mCons (mName 0) (mCons (mCall dLen (mCons (mName 1) mNil)) mNil))) (mC (.int 100000))) sNo sNil)
    (sSeq (sSet 3 (mFn F_heavy_places (mCons (mName 1) mNil)))
    (sSeq (sIf (mTru (mName 3)) (sRet [] (mCall dTuple (mCons (mFn F_solved_vectors (mCons (mName 0) (mCons (mName 1) (mCons (mIx (mName 3) (mNeg (mC (.int 1)))) (mCons (mName 2) mNil))))) mNil))) sNil)
    (sRet [] (mIf (mCmp dEq (mName 2) (mC (.int 0))) (mCall dTuple (mCons (mFn (Lib.F_all_vectors 8) (mCons (mName 0) (mCons (mCall dLen (mCons (mName 1) mNil)) mNil))) mNil)) (mTup mNil)))))))))
def F_vectors_with : MF := bodyM [] 1 m_vectors_with
def m_moved : MS :=
    (sSeq (sDrop (mFn Lib.F_check_field (mCons (mName 0) mNil)))
    (sSeq (sDrop (mFn Lib.F_check_vector (mCons (mName 0) (mCons (mName 1) mNil))))
    (sSeq (sDrop (mFn Lib.F_check_vector (mCons (mName 0) (mCons (mName 2) mNil))))
    (sSeq (sDrop (mFn Lib.F_check_number (mCons (mName 0) (mCons (mName 3) mNil))))
    (sSeq (sIf (mCmp dNe (mCall dLen (mCons (mName 1) mNil)) (mCall dLen (mCons (mName 2) mNil))) sNo sNil)
    (sSeq (sSet 4 (mFn F_heavy_places (mCons (mName 1) mNil)))
    (sSeq (sIf (mNot (mTru (mName 4))) (sRet [] (mC .none)) sNil)
    (sSeq (sSet 5 (mIx (mName 4) (mC (.int 0))))
    (sSeq (sSet 6 (mBin dSub (mName 3) (mFn Lib.F_sum_of_products (mCons (mName 0) (mCons (mName 1) (mCons (mName 2) mNil))))))
    (sSeq (sSet 7 (mBin dMod (mBin dAdd (mIx (mName 2) (mName 5)) (mBin dMul (mName 6) (mFn Lib.F_inverse (mCons (mName 0) (mCons (mIx (mName 1) (mName 5)) mNil))))) (mName 0)))
    (sRet [] (mBin dAdd (mBin dAdd (mSl (mName 2) mO0 (mO1 (mName 5))) (mTup (mCons (mName 7) mNil))) (mSl (mName 2) (mO1 (mBin dAdd (mName 5) (mC (.int 1)))) mO0)))))))))))))
def F_moved : MF := bodyM [] 4 m_moved
def m__law_fd_dot : MS :=
    (sSeq (sSet 3 (mC (.int 0)))
    (sSeq (sFor (mZipA (mCons (mName 1) (mCons (mName 2) mNil))) (setT [4, 5]) (sSet 3 (mBin dMod (mBin dAdd (mName 3) (mBin dMul (mName 4) (mName 5))) (mName 0))))
    (sRet [] (mName 3))))
def F__law_fd_dot : MF := bodyM [] 3 m__law_fd_dot
def m__law_all : MS :=
    (sSeq (sSet 2 (mLst (mCons (mTup mNil) mNil)))
    (sSeq (sFor (mRg1 (mCons (mName 1) mNil)) (setN 3) (sSeq (sSet 4 (mLst mNil))
    (sSeq (sFor (mIt (mCall dList (mCons (mName 2) mNil))) (setN 5) (sExt 4 (mComp [6] (mRg1 (mCons (mName 0) mNil)) (setN 6) mYes (mBin dAdd (mName 5) (mTup (mCons (mName 6) mNil))))))
    (sSet 2 (mName 4)))))
    (sRet [] (mName 2))))
def F__law_all : MF := bodyM [] 5 m__law_all
def m__law_weights_drawn : MS :=
    (sRet [0] (mCall dTuple (mCons (mComp [3] (mRg1 (mCons (mName 2) mNil)) (setN 3) mYes (mFnD Lib.F__law_pick (mCons (mName 0) (mCons (mLst (mCons (mC (.int 0)) (mCons (mC (.int 0)) (mCons (mC (.int 1)) (mCons (mBin dSub (mName 1) (mC (.int 1))) (mCons (mFnD Lib.F__law_roll (mCons (mName 0) (mCons (mName 1) mNil))) mNil)))))) mNil)))) mNil)))
def F__law_weights_drawn : MF := bodyM [0] 1 m__law_weights_drawn
end Lib
end
section
set_option maxHeartbeats 2000000
set_option autoImplicit false
/-! defs of which it is known that no repr is under way (guards): what repr of nested data asks -/
namespace EV
open PySem PySem.Spec PyProof.Rows L2
end EV
end
section
set_option maxHeartbeats 2000000
set_option autoImplicit false
/-! {} != a tuple; str(int) -/
namespace PySem
open PySem PySem.Spec PyProof.Rows
end PySem
namespace EV
open PySem PySem.Spec PyProof.Rows L2
end EV
end
section
set_option maxHeartbeats 2000000
set_option autoImplicit false
/-! EwE: dicts with ints and texts as keys: made, written, read; once they are data they are locked for good. -/
namespace EV
open PySem PySem.Spec PyProof.Rows L2
/-! ### the contents -/
def kOf : Da → Option Key
  | .int i => some (.inl i)
  | .str x => some (.inr x)
  | _ => none
theorem kOf_keyD (k : Key) : kOf (keyD k) = some k := by cases k <;> rfl
def isK (k : Key) (e : Da × Da) : Bool := decide (kOf e.1 = some k)
theorem isK_keyD (k j : Key) (d : Da) : isK k (keyD j, d) = decide (j = k) := by
  unfold isK
  rw [kOf_keyD]
  by_cases h : j = k
  · subst h; simp
  · have : ¬ (some j = some k) := fun z => h (Option.some.inj z)
    simp [h]
def getE (es : List (Da × Da)) (k : Key) : Option Da := (es.find? (isK k)).map fun e => e.2
def putE (es : List (Da × Da)) (k : Key) (d : Da) : List (Da × Da) := if es.any (isK k) then es.map (fun e => if isK k e then (e.1, d) else e) else es ++ [(keyD k, d)]
inductive KDE (K : Frag) (Hf : Hp) : List (Key × V) → List (Da × Da) → Prop
  | nil : KDE K Hf [] []
  | cons {k : Key} {v : V} {d : Da} {kvs : List (Key × V)} {es : List (Da × Da)} : Rep K Hf v d → KDE K Hf kvs es → KDE K Hf ((k, v) :: kvs) ((keyD k, d) :: es)
section
variable {K : Frag} {Hf Hf' : Hp}
theorem KDE.mono (e : Evl.Ex Hf Hf') : ∀ {kvs : List (Key × V)} {es : List (Da × Da)}, KDE K Hf kvs es → KDE K Hf' kvs es
  | _, _, .nil => .nil
  | _, _, .cons r t => .cons (r.mono e) (KDE.mono e t)
theorem KDE.of : ∀ {kvs : List (Key × V)} {ds : List Da}, RepAll K Hf (kvs.map fun q => q.2) ds → KDE K Hf kvs (zipK (kvs.map fun q => q.1) ds)
  | [], _, .nil => .nil
  | (k, v) :: kvs, _, .cons r t => .cons r (KDE.of t)
theorem KDE.length : ∀ {kvs : List (Key × V)} {es : List (Da × Da)}, KDE K Hf kvs es → kvs.length = es.length
  | _, _, .nil => rfl
  | _, _, .cons _ t => by rw [List.length_cons, List.length_cons, KDE.length t]
theorem KDE.get : ∀ {kvs : List (Key × V)} {es : List (Da × Da)}, KDE K Hf kvs es → ∀ k : Key, (getE es k = none ∧ valV kvs k = none) ∨ ∃ v d, valV kvs k = some v ∧ getE es k = some d ∧ Rep K Hf v d
  | _, _, .nil, k => .inl ⟨rfl, rfl⟩
  | _, _, @KDE.cons _ _ j v d kvs es r t, k => by
    by_cases h : j = k
    · refine .inr ⟨v, d, valV_pos h, ?_, r⟩
      unfold getE
      rw [List.find?_cons_of_pos (by rw [isK_keyD]; exact decide_eq_true h)]
      rfl
    · have e : getE ((keyD j, d) :: es) k = getE es k := by
        unfold getE
        rw [List.find?_cons_of_neg (by rw [isK_keyD, decide_eq_false h]; decide)]
      rw [e, valV_neg h]
      exact KDE.get t k
theorem KDE.any : ∀ {kvs : List (Key × V)} {es : List (Da × Da)}, KDE K Hf kvs es → ∀ k : Key, (kvs.any fun kv => decide (kv.1 = k)) = es.any (isK k)
  | _, _, .nil, k => rfl
  | _, _, @KDE.cons _ _ j v d kvs es r t, k => by rw [List.any_cons, List.any_cons, isK_keyD, KDE.any t k]
theorem KDE.repl {k : Key} {v : V} {d : Da} (r : Rep K Hf v d) : ∀ {kvs : List (Key × V)} {es : List (Da × Da)}, KDE K Hf kvs es → KDE K Hf (kvs.map fun kv => if kv.1 = k then (kv.1, v) else kv) (es.map fun e => if isK k e then (e.1, d) else e)
  | _, _, .nil => .nil
  | _, _, @KDE.cons _ _ j w x kvs es q t => by
    rw [List.map_cons, List.map_cons, isK_keyD]
    by_cases h : j = k
    · rw [if_pos h, if_pos (decide_eq_true h)]
      exact .cons r (KDE.repl r t)
    · rw [if_neg h, if_neg (by rw [decide_eq_false h]; decide)]
      exact .cons q (KDE.repl r t)
theorem KDE.snoc {k : Key} {v : V} {d : Da} (r : Rep K Hf v d) : ∀ {kvs : List (Key × V)} {es : List (Da × Da)}, KDE K Hf kvs es → KDE K Hf (kvs ++ [(k, v)]) (es ++ [(keyD k, d)])
  | _, _, .nil => .cons r .nil
  | _, _, .cons q t => .cons q (KDE.snoc r t)
theorem KDE.put {kvs : List (Key × V)} {es : List (Da × Da)} (t : KDE K Hf kvs es) {k : Key} {v : V} {d : Da} (r : Rep K Hf v d) : KDE K Hf (putK kvs k v) (putE es k d) := by
  unfold putK putE
  rw [t.any k]
  split
  · exact t.repl r
  · exact t.snoc r
end
/-! ### locking -/
section
variable {F : Fam} {pr : List Nat} {B : Addr → Prop} {Hf H Hf' H' Hf1 H1 Hf2 H2 : Hp} {g g' g1 g2 : Gh} {σ σ' σ1 σ2 : L2.St} {K : Frag}
/-- a dict that is read: it is locked, or empty -/
theorem Rep.dict {v : V} {es : List (Da × Da)} (h : Rep K Hf v (.dict es)) : ∃ (a : Addr) (o : Obj) (kvs : List (Key × V)), v = .ref a ∧ Hf a = some (.frz o (.dK kvs)) ∧ KDE K Hf kvs es := by
  generalize hd : PyData.dict es = d at h
  cases h with
  | dk h r => cases hd; exact ⟨_, _, _, rfl, h, KDE.of r⟩
  | _ => cases hd
theorem RL.dict {v : V} {es : List (Da × Da)} (h : RL K Hf H v (.dict es)) (ex : Evl.Ex Hf H) : ∃ (a : Addr) (kvs : List (Key × V)), v = .ref a ∧ Rd H a (.dK kvs) ∧ KDE K Hf kvs es := by
  rcases h.2 with r | ⟨p, vs, ds, rfl, e, hp, r⟩
  · obtain ⟨a, o, kvs, e, h1, h2⟩ := r.dict
    exact ⟨a, kvs, e, .inr ⟨o, ex _ _ h1⟩, h2⟩
  · cases e
/-! ### d[k], d.get -/
def dDIx : Da → Da → Option Wv
  | .dict es, k => (kOf k).bind fun k => (getE es k).map Wv.dat
  | _, _ => none
theorem dDIx_some {x y : Da} {w : Wv} (h : dDIx x y = some w) : ∃ es k d, x = .dict es ∧ kOf y = some k ∧ getE es k = some d ∧ w = .dat d := by
  cases x with
  | dict es =>
    obtain ⟨k, k1, k2⟩ := Option.bind_eq_some_iff.mp (show ((kOf y).bind fun k => (getE es k).map Wv.dat) = some w from h)
    obtain ⟨d, k3, k4⟩ := Option.map_eq_some_iff.mp k2
    exact ⟨es, k, d, rfl, k1, k3, k4.symm⟩
  | _ => cases h
def mDIx (fa fb : ME) : ME := fun g => (fa g).bind fun a => (fb a.2).bind fun b => (look a.1 b.2).bind fun x => (look b.1 b.2).bind fun y => (dDIx x y).bind fun w => some (w, b.2)
theorem RL.key {v : V} {d : Da} {k : Key} (h : RL K Hf H v d) (e : kOf d = some k) : v = kV k := by
  cases d <;> cases e
  · exact h.int
  · exact h.str
theorem ev_dix {o i : Expr} {fa fb : ME} {pos : Pos} (hu : ∀ j, (F.X j).A.units + 64 < cLine) (ha : Ev F pr o fa) (hb : Ev F pr i fb) (hs : NoSl i := by intro _ _; rfl) : Ev F pr (.Subscript o i pos) (mDIx fa fb) := by
  intro B Hf H g σ w g' Q E eq q
  obtain ⟨⟨wa, g1⟩, e1, eq⟩ := Option.bind_eq_some_iff.mp eq
  obtain ⟨⟨wb, g2⟩, e2, eq⟩ := Option.bind_eq_some_iff.mp eq
  obtain ⟨x, e3, eq⟩ := Option.bind_eq_some_iff.mp eq
  obtain ⟨y, e4, eq⟩ := Option.bind_eq_some_iff.mp eq
  obtain ⟨w', e5, eq⟩ := Option.bind_eq_some_iff.mp eq
  cases eq
  obtain ⟨es, k, d, rfl, k1, k3, rfl⟩ := dDIx_some e5
  refine ⟨tDGet (U F o) (U F i), fun j => pe_dget (Nat.lt_of_le_of_lt (by omega) (hu j)) (pe_U j) (pe_U j) hs, ?_⟩
  refine ha B Hf H g σ wa g1 _ E e1 fun v Hf1 H1 s1 w1 y1 => ?_
  refine hb B Hf1 H1 g1 σ wb _ _ s1.env e2 fun u Hf2 H2 s2 w2 y2 => ?_
  have l1 : RL F.K Hf2 H2 v (.dict es) := look_ok s2.env (s2.way s1.env w1) e3
  have l2 : RL F.K Hf2 H2 u y := look_ok s2.env w2 e4
  obtain ⟨a, kvs, rfl, hr, kd⟩ := l1.dict s2.env.ex
  have := l2.key k1
  subst this
  rcases kd.get k with ⟨z, _⟩ | ⟨v', d', z1, z2, z3⟩
  · rw [k3] at z; cases z
  · rw [k3] at z2; cases z2
    exact ⟨a, v', rfl, .inl ⟨kvs, k, hr, rfl, z1.symm⟩, q v' Hf2 H2 (s1.trans s2) z3 (fun _ z => nomatch z)⟩
/-! ### d[k] = v -/
end
end EV
end
section
set_option maxHeartbeats 2000000
set_option autoImplicit false
/-! EwF: dicts walked, asked, sorted, made of pairs, written out. -/
namespace EV
open PySem PySem.Spec PyProof.Rows L2
section
variable {F : Fam} {pr : List Nat} {B : Addr → Prop} {Hf H Hf' H' Hf1 H1 Hf2 H2 : Hp} {g g' g1 g2 : Gh} {σ σ' σ1 σ2 : L2.St} {K : Frag}
/-! ### for k in d -/
theorem KDE.key : ∀ {kvs : List (Key × V)} {es : List (Da × Da)}, KDE K Hf kvs es → ∀ {i : Nat} {k : Key} {v : V}, kvs[i]? = some (k, v) → (es.map fun e => e.1)[i]? = some (keyD k)
  | _, _, .cons _ t, 0, k, v, h => by
    simp at h
    obtain ⟨rfl, rfl⟩ := h
    rfl
  | _, _, .cons _ t, i + 1, k, v, h => KDE.key t (i := i) (by simpa using h)
/-! ### k in d -/
theorem KDE.isSome {kvs : List (Key × V)} {es : List (Da × Da)} (h : KDE K Hf kvs es) (k : Key) : (valV kvs k).isSome = (getE es k).isSome := by
  rcases h.get k with ⟨z1, z2⟩ | ⟨v, d, z1, z2, _⟩ <;> rw [z1, z2] <;> rfl
/-! ### sorted(d) -/
theorem KDE.ints : ∀ {kvs : List (Key × V)} {es : List (Da × Da)} {ns : List Int}, KDE K Hf kvs es → (es.map fun e => e.1) = ns.map PyData.int → kvs.map (fun q => q.1) = ns.map Sum.inl
  | _, _, [], .nil, _ => rfl
  | _, _, n :: ns, .nil, h => by simp at h
  | _, _, [], .cons _ _, h => by simp at h
  | _, _, n :: ns, @KDE.cons _ _ k _ _ _ _ _ t, h => by
    simp only [List.map_cons, List.cons.injEq] at h
    rw [List.map_cons, List.map_cons, KDE.ints t h.2]
    congr 1
    cases k with
    | inl i => exact congrArg _ (PyData.int.inj h.1)
    | inr x => cases h.1
/-! ### dict(pairs) -/
inductive KDQ (K : Frag) (Hf : Hp) : List (Key × V) → List (Key × Da) → Prop
  | nil : KDQ K Hf [] []
  | cons {k : Key} {v : V} {d : Da} {kvs : List (Key × V)} {qs : List (Key × Da)} : Rep K Hf v d → KDQ K Hf kvs qs → KDQ K Hf ((k, v) :: kvs) ((k, d) :: qs)
theorem call_dictPF (hc : ∀ i, (F.X i).calm = true) (i : F.ι) : CallR (F.X i) (.type "dict") (fun xs H Q => ∃ (a : Addr) (ps : List Addr) (kvs : List (Key × V)), xs = [.ref a] ∧ SqL F.K H a (ps.map V.ref) ∧ Paired (fun p kv => SqT F.K H p [kV kv.1, kv.2]) ps kvs ∧ ∀ p, H p = none → Q (.ref p) (upd H p (.dK (mergeK [] kvs)))) := by
  have h := call_dictP (hc i)
  rw [F.hK i] at h
  exact h
end
end EV
end
section
set_option maxHeartbeats 2000000
set_option autoImplicit false
/-! EwG: dicts written out; tuple(d.values()); sorted(set(tuple)). -/
namespace EV
open PySem PySem.Spec PyProof.Rows L2
/-! ### {k: v, ..} -/
section
variable {F : Fam} {pr : List Nat} {B : Addr → Prop} {Hf H Hf' H' Hf1 H1 Hf2 H2 : Hp} {g g' g1 g2 : Gh} {σ σ' σ1 σ2 : L2.St} {K : Frag}
abbrev MP := Gh → Option (List (Key × Da) × Gh)
theorem KDQ.mono (e : Evl.Ex Hf Hf') : ∀ {kvs : List (Key × V)} {qs : List (Key × Da)}, KDQ K Hf kvs qs → KDQ K Hf' kvs qs
  | _, _, .nil => .nil
  | _, _, .cons r t => .cons (r.mono e) (KDQ.mono e t)
theorem KDQ.length : ∀ {kvs : List (Key × V)} {qs : List (Key × Da)}, KDQ K Hf kvs qs → kvs.length = qs.length
  | _, _, .nil => rfl
  | _, _, .cons _ t => by rw [List.length_cons, List.length_cons, KDQ.length t]
end
end EV
/-! ### tuple(d.values()) -/
namespace PySem
end PySem
namespace EV
open PySem PySem.Spec PyProof.Rows L2
/-! ### sorted(set(xs)), xs a tuple of ints -/
end EV
end
section
set_option maxHeartbeats 2000000
set_option autoImplicit false
/-! EwH: xs[::-1] of a list or a tuple. -/
namespace PySem
end PySem
namespace EV
open PySem PySem.Spec PyProof.Rows L2
end EV
end
section
set_option maxHeartbeats 2000000
set_option autoImplicit false
/-! EwI: the dict words, applied. -/
namespace EV
open PySem PySem.Spec PyProof.Rows L2
variable {f fa fb fk fv : ME} {m : MP} {g : Gh} {i : Nat} {b : Bool}
theorem e_dix : mDIx fa fb g = (fa g).bind fun a => (fb a.2).bind fun b => (look a.1 b.2).bind fun x => (look b.1 b.2).bind fun y => (dDIx x y).bind fun w => some (w, b.2) := rfl
end EV
end
section
set_option maxHeartbeats 2000000
set_option autoImplicit false
/-! EwJ: x in a tuple of plain items, where x may be data of any depth. -/
namespace EV
open PySem PySem.Spec PyProof.Rows L2
end EV
end
section
set_option maxHeartbeats 2000000
set_option autoImplicit false
/-! ExF: x in a tuple, both data of any depth up to 64 (no dicts). -/
namespace EV
open PySem PySem.Spec PyProof.Rows L2
section
variable {F : Fam} {pr : List Nat} {B : Addr → Prop} {Hf H Hf' H' : Hp} {g g' g1 g2 : Gh} {σ : L2.St} {K : Frag}
def rInD (K : PySem.W.Frag) (neg : Bool) : R2 := fun x y H Q => ∃ d ds, Dp K H x d ∧ Dp K H y (.tuple ds) ∧ SeqAt.shaped d = true ∧ SeqAt.shaped (.tuple ds) = true ∧ Q (.bl (if neg then !inD d ds else inD d ds)) H
theorem room_deep {A : Around} {xs : List PyData} {d : PyData} (h : SeqAt.shaped (.tuple xs) = true) (hu : A.units + 64 < cLine) : A.units + 1 + min (PyData.depthAll xs) d.depth < cLine := by
  have h1 : ((PyData.tuple xs).canLay0 && decide ((PyData.tuple xs).depth ≤ 64)) = true := h
  rw [Bool.and_eq_true, decide_eq_true_eq] at h1
  have h2 := h1.2
  simp only [PyData.depth] at h2
  omega
variable {X : Cx}
theorem op_inD (hu : X.A.units + 64 < cLine) : OpR X (compareOp .In) (rInD X.K false) := by
  intro pins s σ H x y v u Q I rx ry h
  obtain ⟨d, ds, hd, he, sd, se, q⟩ := h
  obtain ⟨as, r1⟩ := Dp.reads I d x v hd rx
  obtain ⟨bs, r2⟩ := Dp.reads I (.tuple ds) y u he ry
  exact SeqAt.in_tuple_reads r2 r1 (SeqAt.canLay_of_shaped se) (SeqAt.canLay_of_shaped sd) (room_deep se hu) ⟨.bl _, H, I, rfl, q⟩
def dInD (neg : Bool) (x : Da) : Da → Option Wv
  | .tuple xs => if okEq x && okEq (.tuple xs) then some (.dat (.bool (if neg then !inD x xs else inD x xs))) else none
  | _ => none
theorem inD_ok {neg : Bool} {f : Value → Value → Sem Value} (hr : ∀ i, OpR (F.X i) f (rInD (F.X i).K neg)) : OpD F f (dInD neg) := by
  intro x y w e
  cases y with
  | tuple xs =>
    simp only [dInD] at e
    split at e
    · rename_i h
      rw [Bool.and_eq_true] at h
      cases e
      refine ⟨rInD F.K neg, fun i => by have h := hr i; rw [F.hK i] at h; exact h, fun pr B Hf H g σ vx vy Q E hx hy c => ?_⟩
      exact ⟨x, xs, (okEq_dp hx h.1).1, (okEq_dp hy h.2).1, (okEq_dp hx h.1).2, (okEq_dp hy h.2).2, c.dat E (.bl _)⟩
    · cases e
  | _ => cases e
theorem od_inDd (hu : ∀ i, (F.X i).A.units + 64 < cLine) : OpD F (compareOp .In) (dInD false) := inD_ok fun i => op_inD (hu i)
theorem d_inDd {n m : Nat} {x : Da} {b : Bool} {xs : List Da} (h : Flat n x) (h2 : Flat m (.tuple xs)) (hn : n ≤ 64 := by decide) (hm : m ≤ 64 := by decide) : dInD b x (.tuple xs) = some (.dat (.bool (if b then !inD x xs else inD x xs))) := by
  simp only [dInD, ok_flat h hn, ok_flat h2 hm, Bool.and_self, if_true]
end
end EV
end
section
set_option autoImplicit false
namespace Lib
open PySem PySem.Spec PyProof.Rows L2 EV
def m__law_great_right : MS :=
    (sSeq (sPar [1, 2] (mCons (mFnD Lib.F__law_pick (mCons (mName 0) (mCons (mFn0 Lib.F__law_fd_primes) mNil))) (mCons (mFnD Lib.F__law_pick (mCons (mName 0) (mCons (mLst (mCons (mC (.int 1)) (mCons (mC (.int 3)) (mCons (mC (.int 9)) (mCons (mC (.int 30)) (mCons (mC (.int 60)) mNil)))))) mNil))) mNil)))
    (sSeq (sSet 3 (mFnD Lib.F__law_weights_drawn (mCons (mName 0) (mCons (mName 1) (mCons (mName 2) mNil)))))
    (sSeq (sPar [4, 5] (mCons (mCall dTuple (mCons (mComp [10] (mRg1 (mCons (mName 2) mNil)) (setN 10) mYes (mFnD Lib.F__law_roll (mCons (mName 0) (mCons (mName 1) mNil)))) mNil)) (mCons (mFnD Lib.F__law_roll (mCons (mName 0) (mCons (mName 1) mNil))) mNil)))
    (sSeq (sIf (mCmp dNe (mFn Lib.F_weighted (mCons (mName 1) (mCons (mName 3) (mCons (mName 4) mNil)))) (mFn Lib.F__law_fd_dot (mCons (mName 1) (mCons (mName 3) (mCons (mName 4) mNil))))) (sRet [0] (mC (.bool false))) sNil)
    (sSeq (sSet 6 (mComp [11] (mRg1 (mCons (mName 2) mNil)) (setN 11) (mCmp dNe (mIx (mName 3) (mName 11)) (mC (.int 0))) (mName 11)))
    (sSeq (sSet 7 (mIf (mCmp dNe (mName 6) (mLst mNil)) (mFn Lib.F__law_fd_times (mCons (mName 1) (mCons (mBin dSub (mName 2) (mC (.int 1))) mNil))) (mIf (mCmp dEq (mName 5) (mC (.int 0))) (mFn Lib.F__law_fd_times (mCons (mName 1) (mCons (mName 2) mNil))) (mC (.int 0)))))
    (sSeq (sIf (mCmp dNe (mFn Lib.F_vectors_count (mCons (mName 1) (mCons (mName 3) (mCons (mName 5) mNil)))) (mName 7)) (sRet [0] (mC (.bool false))) sNil)
    (sSeq (sSet 8 (mFn Lib.F_moved (mCons (mName 1) (mCons (mName 3) (mCons (mName 4) (mCons (mName 5) mNil))))))
    (sSeq (sIf (mCmp dEq (mName 6) (mLst mNil)) (sRet [0] (mBin (dIs false) (mName 8) (mC .none))) sNil)
    (sSeq (sSet 9 (mComp [11] (mRg1 (mCons (mName 2) mNil)) (setN 11) (mCmp dNe (mIx (mName 8) (mName 11)) (mIx (mName 4) (mName 11))) (mName 11)))
    (sRet [0] (mAndV (mBin dEq (mFn Lib.F__law_fd_dot (mCons (mName 1) (mCons (mName 3) (mCons (mName 8) mNil)))) (mName 5)) (mAndV (mBin (dInD false) (mName 9) (mTup (mCons (mLst mNil) (mCons (mSl (mName 6) mO0 (mO1 (mC (.int 1)))) mNil)))) (mBin dEq (mCall dLen (mCons (mName 8) mNil)) (mName 2)))))))))))))))
def F__law_great_right : MF := bodyM [0] 11 m__law_great_right
end Lib
end
section
set_option maxHeartbeats 2000000
set_option autoImplicit false
/-! EwK: a table of one's own: made by a comprehension of new lists, changed at a place, read as data. -/
namespace EV
open PySem PySem.Spec PyProof.Rows L2
section
variable {F : Fam} {pr : List Nat} {B : Addr → Prop} {Hf H Hf' H' Hf1 H1 Hf2 H2 : Hp} {g g' g1 g2 : Gh} {σ σ' σ1 σ2 : L2.St} {K : Frag}
theorem TabOk.length {qs : List Addr} {rs : List (List Da)} (h : TabOk K Hf H qs rs) : qs.length = rs.length := by
  induction h with
  | nil => rfl
  | cons _ _ _ _ ih => simp [ih]
theorem TabOk.snoc {q : Addr} {vs : List V} {r : List Da} : ∀ {qs : List Addr} {rs : List (List Da)}, TabOk K Hf H qs rs → Hf q = none → H q = some (.lst vs) → RepAll K Hf vs r → TabOk K Hf H (qs ++ [q]) (rs ++ [r])
  | _, _, .nil, a, b, c => .cons a b c .nil
  | _, _, .cons x y z t, a, b, c => .cons x y z (t.snoc a b c)
/-! ### a table stored in a name, for what stands behind -/
theorem own_storeT {i : Nat} {s : Sl} {v : V} {p : Addr} (h : Own (g.set i s) (σ.set i (some v)) p) : Own g σ p ∨ At s (some (some v)) p := by
  obtain ⟨j, t, e1, o, e2⟩ := h
  rcases get_set e1 with ⟨rfl, rfl⟩ | ⟨n, e1⟩
  · refine .inr (e2.imp fun z => ?_)
    rcases get_set z with ⟨_, z⟩ | ⟨n, _⟩
    · exact congrArg some z.symm
    · exact absurd rfl n
  · rw [List.getElem?_set_ne (Ne.symm n)] at e2
    exact .inl ⟨j, t, e1, o, e2⟩
open Classical in
/-- what a block answers, whatever the addresses of the rows are -/
noncomputable def anyQ (rs : List (List Da)) (f : List Addr → Option (Fl × Gh)) : Option (Fl × Gh) := if h : ∃ r, ∀ qs : List Addr, qs.length = rs.length → f qs = some r then some h.choose else none
theorem anyQ_some {rs : List (List Da)} {f : List Addr → Option (Fl × Gh)} {r : Fl × Gh} (h : anyQ rs f = some r) : ∀ qs : List Addr, qs.length = rs.length → f qs = some r := by
  unfold anyQ at h
  split at h
  · rename_i z
    cases h
    exact z.choose_spec
  · cases h
theorem anyQ_is {rs : List (List Da)} {f : List Addr → Option (Fl × Gh)} {r : Fl × Gh} (h : ∀ qs : List Addr, qs.length = rs.length → f qs = some r) : anyQ rs f = some r := by
  unfold anyQ
  have z : ∃ r, ∀ qs : List Addr, qs.length = rs.length → f qs = some r := ⟨r, h⟩
  rw [dif_pos z]
  have h1 := z.choose_spec (List.replicate rs.length 0) (List.length_replicate ..)
  rw [h _ (List.length_replicate ..)] at h1
  exact h1.symm
/-! ### x[a][b] = e, a and b names of ints -/
theorem TabOk.get {j : Nat} {q : Addr} {r : List Da} : ∀ {qs : List Addr} {rs : List (List Da)} {j : Nat}, TabOk K Hf H qs rs → qs[j]? = some q → rs[j]? = some r → Hf q = none ∧ ∃ vs, H q = some (.lst vs) ∧ RepAll K Hf vs r
  | _, _, 0, .cons a b c d, h1, h2 => by
    simp at h1 h2
    subst h1 h2
    exact ⟨a, _, b, c⟩
  | _, _, j + 1, .cons a b c d, h1, h2 => TabOk.get (j := j) (q := q) (r := r) d (by simpa using h1) (by simpa using h2)
  | _, _, 0, .nil, h1, _ => by simp at h1
  | _, _, j + 1, .nil, h1, _ => by simp at h1
theorem TabOk.set {q : Addr} {us : List V} {r : List Da} : ∀ {qs : List Addr} {rs : List (List Da)} {j : Nat}, TabOk K Hf H qs rs → qs.Nodup → qs[j]? = some q → RepAll K Hf us r → TabOk K Hf (upd H q (.lst us)) qs (rs.set j r)
  | _, _, j, .nil, _, h1, _ => by simp at h1
  | _, _, 0, .cons (q := q') a b c d, nd, h1, rr => by
    simp at h1
    subst h1
    refine .cons a upd_same rr (d.stay (Evl.Ex.refl _) fun p u hp h1 h2 => ⟨?_, h2⟩)
    rw [upd_ne (fun z => (List.nodup_cons.mp nd).1 (by rw [← z]; exact hp))]
    exact h1
  | _, _, j + 1, .cons (q := q') a b c d, nd, h1, rr => by
    have h1' := (List.getElem?_cons_succ ..).symm.trans h1
    have hm : q ∈ _ := List.mem_of_getElem? h1'
    refine .cons a ?_ c (TabOk.set d (List.nodup_cons.mp nd).2 h1' rr)
    rw [upd_ne (fun z => (List.nodup_cons.mp nd).1 (by rw [z]; exact hm))]
    exact b
/-! ### a table read: it becomes data -/
theorem freeze_rows (E : En K pr B Hf H g σ) : ∀ {qs : List Addr} {rs : List (List Da)}, TabOk K Hf H qs rs → qs.Nodup → (∀ a ∈ qs, ¬ Own g σ a) → ∃ Hf', En K pr B Hf' H g σ ∧ Evl.Ex Hf Hf' ∧ RepAll K Hf' (qs.map V.ref) (rs.map PyData.list) ∧ ∀ a, a ∉ qs → Hf' a = Hf a
  | [], [], .nil, _, _ => ⟨Hf, E, Evl.Ex.refl _, .nil, fun _ _ => rfl⟩
  | q :: qs, r :: rs, .cons (vs := us) a b c d, nd, no => by
    obtain ⟨n1, n2⟩ := List.nodup_cons.mp nd
    obtain ⟨Hf1, E1, x1, r1, k1⟩ := freeze_rows E d n2 fun a ha => no a (List.mem_cons_of_mem _ ha)
    have f1 : Hf1 q = none := (k1 q n1).trans a
    have ex := Evl.Ex.new (o := .lst us) f1
    refine ⟨_, E1.freeze b f1 (no q List.mem_cons_self), x1.trans ex, .cons (.lst (.inl (.inl upd_same)) (c.mono (x1.trans ex))) (r1.mono ex), fun a ha => ?_⟩
    rw [upd_ne (fun z => ha (by subst z; exact List.mem_cons_self))]
    exact k1 a fun z => ha (List.mem_cons_of_mem _ z)
end
/-! ### applied -/
end EV
end
section
set_option maxHeartbeats 2000000
set_option autoImplicit false
/-! EwL: a range in a name, walked. -/
namespace EV
open PySem PySem.Spec PyProof PyProof.Rows L2
end EV
end
section
set_option maxHeartbeats 2000000
set_option autoImplicit false
/-! EwM: a dict of one's own whose keys are written tuples of ints and texts. -/
namespace EV
open PySem PySem.Spec PyProof.Rows L2
def kOfs : List Da → Option (List Key)
  | [] => some []
  | d :: ds => (kOf d).bind fun k => (kOfs ds).map fun r => k :: r
theorem kOfs_map : ∀ ks : List Key, kOfs (ks.map keyD) = some ks
  | [] => rfl
  | k :: ks => by
    show ((kOf (keyD k)).bind fun k => (kOfs (ks.map keyD)).map fun r => k :: r) = _
    rw [kOf_keyD, kOfs_map ks]
    rfl
def isT (k : List Key) (e : Da × Da) : Bool := match e.1 with
  | .tuple ds => decide (kOfs ds = some k)
  | _ => false
theorem isT_key (k j : List Key) (d : Da) : isT k (.tuple (j.map keyD), d) = decide (j = k) := by
  show decide (kOfs (j.map keyD) = some k) = _
  rw [kOfs_map]
  by_cases h : j = k
  · subst h; simp
  · have : ¬ (some j = some k) := fun z => h (Option.some.inj z)
    simp [h]
def getT (es : List (Da × Da)) (k : List Key) : Option Da := (es.find? (isT k)).map fun e => e.2
def putT (es : List (Da × Da)) (k : List Key) (d : Da) : List (Da × Da) := if es.any (isT k) then es.map (fun e => if isT k e then (e.1, d) else e) else es ++ [(.tuple (k.map keyD), d)]
inductive KDT (K : Frag) (Hf : Hp) : List (List Key × V) → List (Da × Da) → Prop
  | nil : KDT K Hf [] []
  | cons {k : List Key} {v : V} {d : Da} {kvs : List (List Key × V)} {es : List (Da × Da)} : Rep K Hf v d → KDT K Hf kvs es → KDT K Hf ((k, v) :: kvs) ((.tuple (k.map keyD), d) :: es)
section
variable {K : Frag} {Hf Hf' : Hp}
theorem KDT.length : ∀ {kvs : List (List Key × V)} {es : List (Da × Da)}, KDT K Hf kvs es → kvs.length = es.length
  | _, _, .nil => rfl
  | _, _, .cons _ t => by rw [List.length_cons, List.length_cons, KDT.length t]
theorem KDT.get : ∀ {kvs : List (List Key × V)} {es : List (Da × Da)}, KDT K Hf kvs es → ∀ k : List Key, (getT es k = none ∧ valV kvs k = none) ∨ ∃ v d, valV kvs k = some v ∧ getT es k = some d ∧ Rep K Hf v d
  | _, _, .nil, k => .inl ⟨rfl, rfl⟩
  | _, _, @KDT.cons _ _ j v d kvs es r t, k => by
    by_cases h : j = k
    · refine .inr ⟨v, d, valV_pos h, ?_, r⟩
      unfold getT
      rw [List.find?_cons_of_pos (by rw [isT_key]; exact decide_eq_true h)]
      rfl
    · have e : getT ((.tuple (j.map keyD), d) :: es) k = getT es k := by
        unfold getT
        rw [List.find?_cons_of_neg (by rw [isT_key, decide_eq_false h]; decide)]
      rw [e, valV_neg h]
      exact KDT.get t k
theorem KDT.any : ∀ {kvs : List (List Key × V)} {es : List (Da × Da)}, KDT K Hf kvs es → ∀ k : List Key, (kvs.any fun kv => decide (kv.1 = k)) = es.any (isT k)
  | _, _, .nil, k => rfl
  | _, _, @KDT.cons _ _ j v d kvs es r t, k => by rw [List.any_cons, List.any_cons, isT_key, KDT.any t k]
theorem KDT.repl {k : List Key} {v : V} {d : Da} (r : Rep K Hf v d) : ∀ {kvs : List (List Key × V)} {es : List (Da × Da)}, KDT K Hf kvs es → KDT K Hf (kvs.map fun kv => if kv.1 = k then (kv.1, v) else kv) (es.map fun e => if isT k e then (e.1, d) else e)
  | _, _, .nil => .nil
  | _, _, @KDT.cons _ _ j w x kvs es q t => by
    rw [List.map_cons, List.map_cons, isT_key]
    by_cases h : j = k
    · rw [if_pos h, if_pos (decide_eq_true h)]
      exact .cons r (KDT.repl r t)
    · rw [if_neg h, if_neg (by rw [decide_eq_false h]; decide)]
      exact .cons q (KDT.repl r t)
theorem KDT.snoc {k : List Key} {v : V} {d : Da} (r : Rep K Hf v d) : ∀ {kvs : List (List Key × V)} {es : List (Da × Da)}, KDT K Hf kvs es → KDT K Hf (kvs ++ [(k, v)]) (es ++ [(.tuple (k.map keyD), d)])
  | _, _, .nil => .cons r .nil
  | _, _, .cons q t => .cons q (KDT.snoc r t)
theorem KDT.put {kvs : List (List Key × V)} {es : List (Da × Da)} (t : KDT K Hf kvs es) {k : List Key} {v : V} {d : Da} (r : Rep K Hf v d) : KDT K Hf (putK kvs k v) (putT es k d) := by
  unfold putK putT
  rw [t.any k]
  split
  · exact t.repl r
  · exact t.snoc r
end
end EV
end
section
set_option maxHeartbeats 2000000
set_option autoImplicit false
/-! EwN: list(d.values()); x, y = dict(list(d.items())), e; two items of one's own dict put at once. -/
namespace EV
open PySem PySem.Spec PyProof.Rows L2
section
variable {F : Fam} {pr : List Nat} {B : Addr → Prop} {Hf H Hf' H' Hf1 H1 Hf2 H2 : Hp} {g g' g1 g2 : Gh} {σ σ' σ1 σ2 : L2.St} {K : Frag}
/-! ### a copy of a dict -/
def pairsE : List (Da × Da) → Option (List (Key × Da))
  | [] => some []
  | e :: es => (kOf e.1).bind fun k => (pairsE es).map fun r => (k, e.2) :: r
theorem KDE.pairs : ∀ {kvs : List (Key × V)} {es : List (Da × Da)} {qs : List (Key × Da)}, KDE K Hf kvs es → pairsE es = some qs → KDQ K Hf kvs qs
  | _, _, qs, .nil, e => by cases e; exact .nil
  | _, _, qs, @KDE.cons _ _ k v d kvs es r t, e => by
    obtain ⟨k', e1, e2⟩ := Option.bind_eq_some_iff.mp (show ((kOf (keyD k)).bind fun k => (pairsE es).map fun r => (k, d) :: r) = some qs from e)
    rw [kOf_keyD] at e1
    cases e1
    obtain ⟨rs, e3, rfl⟩ := Option.map_eq_some_iff.mp e2
    exact .cons r (KDE.pairs t e3)
/-! ### x[i], x[j] = a, b, x a dict of one's own -/
end
end EV
end
section
set_option maxHeartbeats 2000000
set_option autoImplicit false
/-! ExG: a dict of lists of one's own: x, y = e, dict([(k, []) for ..]); y[k].append(e); y read as data. -/
namespace EV
open PySem PySem.Spec PyProof.Rows L2
section
variable {F : Fam} {pr : List Nat} {B : Addr → Prop} {Hf H Hf' H' Hf1 H1 Hf2 H2 : Hp} {g g' g1 g2 : Gh} {σ σ' σ1 σ2 : L2.St} {K : Frag}
/-! ### keys 0, 1, .. -/
def kvF : Nat → List Addr → List (Key × V)
  | _, [] => []
  | o, q :: qs => (.inl (o : Int), .ref q) :: kvF (o + 1) qs
theorem kvG_eqF : ∀ (qs : List Addr) (o : Nat), (qs.mapIdx fun i q => ((.inl ((i + o : Nat) : Int), .ref q) : Key × V)) = kvF o qs
  | [], _ => rfl
  | q :: qs, o => by
    rw [List.mapIdx_cons, kvF, ← kvG_eqF qs (o + 1), Nat.zero_add]
    have z : (fun i (q : Addr) => ((.inl ((i + 1 + o : Nat) : Int), .ref q) : Key × V)) = fun i q => (.inl ((i + (o + 1) : Nat) : Int), .ref q) := by
      funext i q
      rw [show i + 1 + o = i + (o + 1) by omega]
    rw [z]
theorem kvG_F (qs : List Addr) : kvG qs = kvF 0 qs := kvG_eqF qs 0
theorem mergeK_F : ∀ {qs : List Addr} {o : Nat} {kvs : List (Key × V)}, (∀ kv ∈ kvs, ∀ m : Nat, o ≤ m → kv.1 ≠ .inl (m : Int)) → mergeK kvs (kvF o qs) = kvs ++ kvF o qs
  | [], _, kvs, _ => (List.append_nil kvs).symm
  | q :: qs, o, kvs, h => by
    have n : (kvs.any fun kv => decide (kv.1 = (.inl (o : Int) : Key))) = false := by
      rw [List.any_eq_false]
      exact fun kv hk => by rw [decide_eq_true_eq]; exact h kv hk o (Nat.le_refl _)
    have p : putK kvs (.inl (o : Int)) (.ref q) = kvs ++ [(.inl (o : Int), .ref q)] := by
      unfold putK
      rw [n]
      rfl
    show mergeK (putK kvs (.inl (o : Int)) (.ref q)) (kvF (o + 1) qs) = _
    rw [p, mergeK_F (qs := qs) (o := o + 1), List.append_assoc]
    · rfl
    · intro kv hk m hm
      rcases List.mem_append.mp hk with hk | hk
      · exact h kv hk m (by omega)
      · rw [List.mem_singleton] at hk
        subst hk
        intro z
        have : (o : Int) = (m : Int) := Sum.inl.inj z
        omega
theorem val_kvF : ∀ {qs : List Addr} {o m : Nat} {q : Addr}, qs[m]? = some q → valV (kvF o qs) (.inl ((o + m : Nat) : Int)) = some (.ref q)
  | [], _, _, _, h => by simp at h
  | q :: qs, o, 0, q', h => by
    simp at h
    subst h
    exact valV_pos (r := kvF (o + 1) qs) rfl
  | q :: qs, o, m + 1, q', h => by
    have e := val_kvF (o := o + 1) (m := m) (q := q') (by simpa using h)
    rw [show o + (m + 1) = o + 1 + m by omega]
    rw [← e]
    exact valV_neg (p := ((.inl (o : Int), .ref q) : Key × V)) (r := kvF (o + 1) qs) (k := .inl ((o + 1 + m : Nat) : Int)) fun z => by
      have : (o : Int) = ((o + 1 + m : Nat) : Int) := Sum.inl.inj z
      omega
/-- the same as data -/
def grF : Nat → List (List Da) → List (Da × Da)
  | _, [] => []
  | o, r :: rs => (.int (o : Int), .list r) :: grF (o + 1) rs
theorem grF_zip : ∀ {qs : List Addr} {rs : List (List Da)} {o : Nat}, qs.length = rs.length → zipK ((kvF o qs).map fun q => q.1) (rs.map PyData.list) = grF o rs
  | [], [], _, _ => rfl
  | [], _ :: _, _, h => by simp at h
  | _ :: _, [], _, h => by simp at h
  | q :: qs, r :: rs, o, h => by
    have e := grF_zip (qs := qs) (rs := rs) (o := o + 1) (by simpa using h)
    rw [kvF, grF, ← e]
    rfl
theorem kvF_vals : ∀ (qs : List Addr) (o : Nat), (kvF o qs).map (fun q => q.2) = qs.map V.ref
  | [], _ => rfl
  | q :: qs, o => by rw [kvF, List.map_cons, List.map_cons, kvF_vals qs (o + 1)]
theorem getE_F : ∀ {rs : List (List Da)} {o m : Nat}, getE (grF o rs) (.inl ((o + m : Nat) : Int)) = (rs[m]?).map PyData.list
  | [], _, _ => rfl
  | r :: rs, o, 0 => by
    unfold grF getE
    rw [List.find?_cons_of_pos]
    · rfl
    · show isK (.inl ((o : Nat) : Int)) (keyD (.inl (o : Int)), PyData.list r) = true
      rw [isK_keyD]; exact decide_eq_true rfl
  | r :: rs, o, m + 1 => by
    have e := getE_F (rs := rs) (o := o + 1) (m := m)
    rw [List.getElem?_cons_succ, ← e, show o + (m + 1) = o + 1 + m by omega, show grF o (r :: rs) = (.int (o : Int), .list r) :: grF (o + 1) rs from rfl]
    unfold getE
    rw [List.find?_cons_of_neg]
    show ¬ isK (.inl ((o + 1 + m : Nat) : Int)) (keyD (.inl (o : Int)), PyData.list r) = true
    rw [isK_keyD, decide_eq_true_eq]
    intro z
    have : (o : Int) = ((o + 1 + m : Nat) : Int) := Sum.inl.inj z
    omega
/-! ### the pairs that dict takes -/
inductive GPs (Hf H : Hp) : List Addr → List Addr → List Int → Prop
  | nil : GPs Hf H [] [] []
  | cons {t q : Addr} {m : Int} {ts qs : List Addr} {ms : List Int} : H t = some (.tup [.int m, .ref q]) → H q = some (.lst []) → Hf q = none → GPs Hf H ts qs ms → GPs Hf H (t :: ts) (q :: qs) (m :: ms)
theorem GPs.stay : ∀ {ts qs : List Addr} {ms : List Int}, GPs Hf H ts qs ms → (∀ p u, p ∈ ts ++ qs → H p = some u → H' p = some u ∧ Hf' p = Hf p) → GPs Hf' H' ts qs ms
  | _, _, _, .nil, _ => .nil
  | _, _, _, .cons (t := t) (q := q) a b c d, k => by
    obtain ⟨k1, k2⟩ := k t _ (by simp) a
    obtain ⟨k3, k4⟩ := k q _ (by simp) b
    exact .cons k1 k3 (k4.trans c) (d.stay fun p u hp => k p u (by
      rcases List.mem_append.mp hp with hp | hp
      · exact List.mem_append_left _ (List.mem_cons_of_mem _ hp)
      · exact List.mem_append_right _ (List.mem_cons_of_mem _ hp)))
theorem GPs.there : ∀ {ts qs : List Addr} {ms : List Int} {p : Addr}, GPs Hf H ts qs ms → p ∈ ts ++ qs → ∃ u, H p = some u
  | _, _, _, p, .nil, h => by simp at h
  | _, _, _, p, .cons a b c d, h => by
    rcases List.mem_append.mp h with h | h
    · rcases List.mem_cons.mp h with rfl | h
      · exact ⟨_, a⟩
      · exact d.there (List.mem_append_left _ h)
    · rcases List.mem_cons.mp h with rfl | h
      · exact ⟨_, b⟩
      · exact d.there (List.mem_append_right _ h)
theorem GPs.snoc {t q : Addr} {m : Int} : ∀ {ts qs : List Addr} {ms : List Int}, GPs Hf H ts qs ms → H t = some (.tup [.int m, .ref q]) → H q = some (.lst []) → Hf q = none → GPs Hf H (ts ++ [t]) (qs ++ [q]) (ms ++ [m])
  | _, _, _, .nil, a, b, c => .cons a b c .nil
  | _, _, _, .cons x y z w, a, b, c => .cons x y z (w.snoc a b c)
theorem GPs.length : ∀ {ts qs : List Addr} {ms : List Int}, GPs Hf H ts qs ms → ts.length = ms.length ∧ qs.length = ms.length
  | _, _, _, .nil => ⟨rfl, rfl⟩
  | _, _, _, .cons a b c d => by obtain ⟨h1, h2⟩ := d.length; exact ⟨by simp [h1], by simp [h2]⟩
theorem GPs.tab : ∀ {ts qs : List Addr} {ms : List Int}, GPs Hf H ts qs ms → TabOk K Hf H qs (List.replicate ms.length [])
  | _, _, _, .nil => .nil
  | _, _, _, .cons a b c d => .cons c b .nil d.tab
def grI (o : Nat) : Nat → List Int
  | 0 => []
  | n + 1 => (o : Int) :: grI (o + 1) n
theorem GPs.pairs : ∀ {ts qs : List Addr} {ms : List Int} {o : Nat}, GPs Hf H ts qs ms → ms = grI o ms.length → Paired (fun p kv => SqT K H p [kV kv.1, kv.2]) ts (kvF o qs)
  | _, _, _, _, .nil, _ => .nil
  | _, _, _, o, .cons (m := m) (ms := ms) a b c d, e => by
    rw [List.length_cons, grI, List.cons.injEq] at e
    obtain ⟨e1, e2⟩ := e
    subst e1
    exact .cons (.inl (.inl a)) (d.pairs e2)
/-! ### the comprehension -/
def compK (vs : List Nat) (tg : Wv → Gh → Option Gh) (ts : MT) (el : ME) : List Da → Gh → Option (List Int × Gh)
  | [], g => some ([], g)
  | d :: ds, g => (tg (.dat d) g).bind fun g1 => (ts g1).bind fun b => if b.1 = true then
      (el b.2).bind fun w => match w.1 with
        | .dat (.int m) => (compK vs tg ts el ds (wipeG w.2 vs)).bind fun q => some (m :: q.1, q.2)
        | _ => none
    else compK vs tg ts el ds (wipeG b.2 vs)
abbrev MKs := Gh → Option (List Int × Gh)
def mCompK (vs : List Nat) (it : MI) (tg : Wv → Gh → Option Gh) (ts : MT) (el : ME) : MKs := fun g => (it g).bind fun a => if a.1.length < sizeLine then (compK vs tg ts el a.1 (wipeG a.2 vs)).bind fun r => some (r.1, restore vs a.2 r.2) else none
structure KInv (K : Frag) (pr : List Nat) (B : Addr → Prop) (Hf1 H1 : Hp) (g1 : Gh) (σ : L2.St) (vs : List Nat) (D : Addr) (Hf' H' : Hp) (g' : Gh) (acc : List Int) : Prop where
  env : En K pr B Hf' H' g' (wipe σ vs)
  tr : Tr (Own (wipeG g1 vs) (wipe σ vs)) Hf1 H1 Hf' H'
  sub : ∀ p, Own g' (wipe σ vs) p → Own (wipeG g1 vs) (wipe σ vs) p
  at_ : ∃ ts qs, H' D = some (.lst (ts.map V.ref)) ∧ GPs Hf' H' ts qs acc ∧ D ∉ ts ++ qs ∧ qs.Nodup ∧ ∀ a ∈ ts ++ qs, ¬ Own g' (wipe σ vs) a ∧ H1 a = none
  fz : Hf' D = none
  no : ¬ Own g' (wipe σ vs) D
abbrev tEK (te : TE) : TE := tTup (tCons te (tCons (tLst tNil) tNil))
theorem compK_ok {scope : Scope} {vs : List Nat} {tg iter elt : Expr} {ifs : List Expr} {it : MI} {tm : Wv → Gh → Option Gh} {ts : MT} {el : ME} (hi : EvI F pr tg iter it) (hg : EvG (F.blk scope) pr vs tg tm) (ht : EvTs (F.blk scope) pr ifs ts) (he : Ev (F.blk scope) pr elt el)
    {ks : List Int} {Q : VK} (E : En F.K pr B Hf H g σ) (eq : mCompK vs it tm ts el g = some (ks, g'))
    (q : ∀ (D : Addr) (ps qs : List Addr) Hf' H', Stp F.K pr B Hf H g σ Hf' H' g' → (∀ a ∈ qs, H a = none ∧ ¬ Own g' σ a ∧ B a) → qs.Nodup → H' D = some (.lst (ps.map V.ref)) → GPs Hf' H' ps qs ks → Q (.ref D) H') :
    tLc (UI F tg iter) (UG (F.blk scope) tg) (UTs (F.blk scope) ifs) (tEK (U (F.blk scope) elt)) vs σ H Q := by
  obtain ⟨⟨ds, g1⟩, e1, eq1⟩ := Option.bind_eq_some_iff.mp eq
  dsimp only at eq1
  split at eq1
  · rename_i hlen
    obtain ⟨⟨out, g2⟩, e2, eq2⟩ := Option.bind_eq_some_iff.mp eq1
    cases eq2
    refine hi B Hf H g σ ds g1 _ E e1 fun J Hf1 H1 s1 wk D hD => ?_
    have hfD : Hf1 D = none := s1.env.frz hD
    let Pv : Nat → Hp → Prop := fun i H' => ∃ Hf' g' acc rest, KInv F.K pr B Hf1 H1 g1 σ vs D Hf' H' g' acc ∧ compK vs tm ts el (ds.drop i) g' = some (rest, g2) ∧ acc ++ rest = out ∧ acc.length ≤ i
    refine ⟨fun i m H' => m = ds.length - i ∧ i ≤ ds.length ∧ Pv i H', ⟨ds.length, by simp, Nat.zero_le _, Hf1, wipeG g1 vs, [], out, ⟨?_, ?_, fun _ h => h, ⟨[], [], upd_same, .nil, (fun z => nomatch z), List.nodup_nil, fun a ha => nomatch ha⟩, hfD, ?_⟩, by rw [List.drop_zero]; exact e2, rfl, Nat.le_refl _⟩, ?_⟩
    · exact (s1.env.wipe vs).mut hD
    · exact Tr.mut hD
    · exact fun z => s1.env.own_none hD (own_wipe z)
    rintro i m H' ⟨rfl, hi, Hf', g', acc, rest, c, er, eo, ha⟩
    have ex1 : Evl.Ex Hf1 Hf' := c.tr.ex
    obtain ⟨go, stop, yld⟩ := wk Hf' H' ex1 c.env.ex
    by_cases hlt : i < ds.length
    · refine .inr ⟨go i hlt, Pv (i + 1), fun H'' p => ⟨ds.length - (i + 1), by omega, rfl, hlt, p⟩, fun x H'' y => ?_⟩
      have hd : ds[i]? = some ds[i] := by simp [hlt]
      rw [List.drop_eq_getElem_cons hlt] at er
      obtain ⟨Hf2, t2, en2, rx⟩ := yld i _ x H'' hd y
      have E2 := en2 pr B g' (wipe σ vs) c.env
      obtain ⟨gt, k1, er1⟩ := Option.bind_eq_some_iff.mp (show ((tm (.dat ds[i]) g').bind _) = some (rest, g2) from er)
      obtain ⟨⟨b, gb⟩, k2, er2⟩ := Option.bind_eq_some_iff.mp er1
      obtain ⟨ps, qs, hxs, tqs, nDq, ndq, oq⟩ := c.at_
      obtain ⟨hD2, fD2⟩ := t2.keep D _ hxs (fun z => z)
      refine hg B Hf2 H'' g' (wipe σ vs) (.dat ds[i]) x gt _ E2 rx k1 fun σ3 Hf3 H3 s3 => ?_
      have nD3 : ¬ Own gt σ3 D := fun z => by
        rcases s3.sub D z with z | ⟨⟨_, z⟩, _⟩
        · exact c.no z
        · cases z
      obtain ⟨hD3, fD3⟩ := s3.tr.keep D _ hD2 c.no
      have wl : wipe σ3 vs = wipe σ vs := by
        rw [wipe_eq (σ1 := σ3) (σ2 := wipe σ vs) ?_ s3.oth]
        · rw [wipe_eq (σ1 := wipe σ vs) (σ2 := σ) (by rw [wipe_length]) fun i hi => wipe_get hi]
        · exact s3.slen
      refine ⟨wl, ?_⟩
      refine ht B Hf3 H3 gt σ3 b gb _ s3.env k2 fun Hf4 H4 s4 => ?_
      obtain ⟨hD4, fD4⟩ := s4.tr.keep D _ hD3 nD3
      have nD4 : ¬ Own gb σ3 D := fun z => nD3 (s4.sub D z)
      have subA : ∀ p, Own gt σ3 p → Own g' (wipe σ vs) p := fun p z => by
        rcases s3.sub p z with z | ⟨⟨_, z⟩, _⟩
        · exact z
        · cases z
      have subB : ∀ p, Own gb σ3 p → Own g' (wipe σ vs) p := fun p z => subA p (s4.sub p z)
      have sub3 : ∀ p, Own gt σ3 p → Own (wipeG g1 vs) (wipe σ vs) p := fun p z => c.sub p (subA p z)
      have sub4 : ∀ p, Own gb σ3 p → Own (wipeG g1 vs) (wipe σ vs) p := fun p z => sub3 p (s4.sub p z)
      have T4 : Tr (Own (wipeG g1 vs) (wipe σ vs)) Hf1 H1 Hf4 H4 := ((c.tr.trans' t2 fun p z => z.elim).trans' s3.tr c.sub).trans' s4.tr sub3
      have U4 : Tr (Own g' (wipe σ vs)) Hf' H' Hf4 H4 := ((t2.wide (O1 := Own g' (wipe σ vs)) fun p z => z.elim).trans' s3.tr fun p z => z).trans' s4.tr subA
      have t4 : GPs Hf4 H4 ps qs acc := tqs.stay fun p u hp h1 => U4.keep p u h1 (oq p hp).1
      cases b with
      | false =>
        dsimp only at er2
        rw [if_neg Bool.false_ne_true] at er2
        show if false = true then _ else Pv (i + 1) H4
        rw [if_neg Bool.false_ne_true]
        refine ⟨Hf4, wipeG gb vs, acc, rest, ⟨?_, T4, fun p z => ?_, ⟨ps, qs, hD4, t4, nDq, ndq, fun a ha => ⟨fun z => ?_, (oq a ha).2⟩⟩, ?_, fun z => ?_⟩, er2, eo, by omega⟩
        · have := s4.env.wipe vs
          rw [wl] at this; exact this
        · rw [← wl] at z; exact sub4 p (own_wipe z)
        · rw [← wl] at z; exact (oq a ha).1 (subB a (own_wipe z))
        · rw [fD4, fD3, fD2]; exact c.fz
        · rw [← wl] at z; exact nD4 (own_wipe z)
      | true =>
        dsimp only at er2
        rw [if_pos rfl] at er2
        rw [if_pos rfl]
        obtain ⟨⟨we, ge⟩, k3, er3⟩ := Option.bind_eq_some_iff.mp er2
        dsimp only at er3
        split at er3
        · rename_i m
          obtain ⟨⟨rest', g3⟩, k5, er5⟩ := Option.bind_eq_some_iff.mp er3
          cases er5
          refine he B Hf4 H4 gb σ3 _ ge _ s4.env k3 fun y' Hf5 H5 s5 w5 y5 => ?_
          have w5 : Rep F.K Hf5 y' (.int m) := w5
          cases w5
          refine ⟨Nat.zero_le _, fun q0 hq0 => ⟨(by show 2 ≤ sizeLine; decide), fun t0 ht0 => ?_⟩⟩
          have hq5 : H5 q0 = none := hq0
          have net : t0 ≠ q0 := fun z => by rw [z, upd_same] at ht0; cases ht0
          have ht5 : H5 t0 = none := upd_none ht0
          have E5 := s5.env
          have E6 := E5.mut (o := .lst []) hq5
          have E7 := E6.mut (o := .tup [.int m, .ref q0]) ht0
          obtain ⟨hD5, fD5⟩ := s5.tr.keep D _ hD4 nD4
          have nD5 : ¬ Own ge σ3 D := fun z => nD4 (s5.sub D z)
          have fD : Hf5 D = none := by rw [fD5, fD4, fD3, fD2]; exact c.fz
          have T5 : Tr (Own (wipeG g1 vs) (wipe σ vs)) Hf1 H1 Hf5 H5 := T4.trans' s5.tr sub4
          have T7 : Tr (Own (wipeG g1 vs) (wipe σ vs)) Hf1 H1 Hf5 (upd (upd H5 q0 (.lst [])) t0 (.tup [.int m, .ref q0])) := (T5.trans' (Tr.mut (O := Own (wipeG g1 vs) (wipe σ vs)) hq5) fun p z => z).trans' (Tr.mut (O := Own (wipeG g1 vs) (wipe σ vs)) ht0) fun p z => z
          have neDq : D ≠ q0 := ne_of_none hD5 hq5
          have neDt : D ≠ t0 := ne_of_none hD5 ht5
          have hD7 : upd (upd H5 q0 (.lst [])) t0 (.tup [.int m, .ref q0]) D = some (.lst (ps.map V.ref)) := by rw [upd_ne neDt, upd_ne neDq]; exact hD5
          have t5 : GPs Hf5 H5 ps qs acc := t4.stay fun p u hp h1 => s5.tr.keep p u h1 fun z => (oq p hp).1 (subB p z)
          have nin : ∀ z, H5 z = none → z ∉ ps ++ qs := fun z hz hm => by
            obtain ⟨u, h⟩ := t5.there hm
            rw [hz] at h; cases h
          have la := t5.length
          refine ⟨ps.map V.ref, hD7, by rw [List.length_map]; omega, Hf5, wipeG ge vs, acc ++ [m], rest', ⟨?_, ⟨T7.ex, fun p o hp no => ?_, fun p hp => T7.stay p (upd_none hp)⟩, fun p z => ?_, ⟨ps ++ [t0], qs ++ [q0], by rw [List.map_append]; exact upd_same, ?_, ?_, ?_, fun a ha => ?_⟩, fD, fun z => ?_⟩, k5, by rw [← eo]; simp, by simp; omega⟩
          · have := (E7.put (o := .lst (ps.map V.ref ++ [.ref t0])) fD nD5).wipe vs
            rw [wl] at this; exact this
          · obtain ⟨k1, k2⟩ := T7.keep p o hp no
            exact ⟨by rw [upd_ne (ne_of_none hp hD)]; exact k1, k2⟩
          · rw [← wl] at z; exact sub4 p (s5.sub p (own_wipe z))
          · have hn : ∀ z, z ≠ D → z ≠ t0 → z ≠ q0 → upd (upd (upd H5 q0 (.lst [])) t0 (.tup [.int m, .ref q0])) D (.lst (ps.map V.ref ++ [.ref t0])) z = H5 z := fun z h1 h2 h3 => by rw [upd_ne h1, upd_ne h2, upd_ne h3]
            refine GPs.snoc (t5.stay fun p u hp h1 => ⟨?_, rfl⟩) ?_ ?_ ?_
            · rw [hn p (fun z => nDq (z ▸ hp)) (fun z => by subst z; exact nin _ ht5 hp) (fun z => by subst z; exact nin _ hq5 hp)]
              exact h1
            · rw [upd_ne (Ne.symm neDt)]; exact upd_same
            · rw [upd_ne (Ne.symm neDq), upd_ne (Ne.symm net)]; exact upd_same
            · exact E5.frz hq5
          · intro z
            rcases List.mem_append.mp z with z | z
            · rcases List.mem_append.mp z with z | z
              · exact nDq (List.mem_append_left _ z)
              · rw [List.mem_singleton] at z; exact neDt z
            · rcases List.mem_append.mp z with z | z
              · exact nDq (List.mem_append_right _ z)
              · rw [List.mem_singleton] at z; exact neDq z
          · exact List.nodup_append.mpr ⟨ndq, (by simp), fun x hx y hy => by rw [List.mem_singleton] at hy; subst hy; exact fun z => by subst z; exact nin _ hq5 (List.mem_append_right _ hx)⟩
          · have key : a ∈ ps ++ qs ∨ a = t0 ∨ a = q0 := by
              rcases List.mem_append.mp ha with z | z
              · rcases List.mem_append.mp z with z | z
                · exact .inl (List.mem_append_left _ z)
                · rw [List.mem_singleton] at z; exact .inr (.inl z)
              · rcases List.mem_append.mp z with z | z
                · exact .inl (List.mem_append_right _ z)
                · rw [List.mem_singleton] at z; exact .inr (.inr z)
            rcases key with ha | rfl | rfl
            · refine ⟨fun z => ?_, (oq a ha).2⟩
              rw [← wl] at z; exact (oq a ha).1 (subB a (s5.sub a (own_wipe z)))
            · refine ⟨fun z => ?_, T5.stay _ ht5⟩
              rw [← wl] at z; exact E5.own_none ht5 (own_wipe z)
            · refine ⟨fun z => ?_, T5.stay _ hq5⟩
              rw [← wl] at z; exact E5.own_none hq5 (own_wipe z)
          · rw [← wl] at z; exact nD5 (own_wipe z)
        · cases er3
    · have e : i = ds.length := by omega
      subst e
      refine .inl ⟨stop, ?_⟩
      rw [List.drop_length] at er
      cases er
      rw [List.append_nil] at eo
      subst eo
      obtain ⟨ps, qs, hxs, tqs, nDq, ndq, oq⟩ := c.at_
      have gl : g1.length = g2.length := by
        have h1 := s1.env.len
        have h2 := c.env.len
        rw [wipe_length] at h2; omega
      have apart : ∀ (i : Nat) (s : Sl) p, i ∈ vs → g1[i]? = some s → s.ow = true → At s σ[i]? p → ¬ Own (wipeG g1 vs) (wipe σ vs) p := fun i s p hi h1 o1 h2 z => by
        obtain ⟨j, t, e1, o2, e2⟩ := z
        obtain ⟨e1, nj⟩ := wipeG_get e1 (ow_ne o2)
        have := s1.env.dis i j s t p h1 o1 e1 o2 h2 (e2.imp fun z => (wipe_some z).1)
        exact nj (this ▸ hi)
      have own_r : ∀ p, Own (restore vs g1 g2) σ p → Own g1 σ p := fun p ⟨i, s, e1, o1, e2⟩ => by
        rw [restore_get g1 gl] at e1
        split at e1
        · exact ⟨i, s, e1, o1, e2⟩
        · rename_i hi
          exact own_wipe (c.sub p ⟨i, s, e1, o1, by rw [wipe_get hi]; exact e2⟩)
      have er : En F.K pr B Hf' H' (restore vs g1 g2) σ := by
        refine ⟨c.env.ex, by rw [restore_len, ← gl]; exact s1.env.len, fun i s e n => ?_, fun i j es fs p h1 o1 h2 o2 e1 e2 => ?_, c.env.nb, fun i es p h1 o1 e1 => ?_, fun i es p h1 hp => ?_⟩
        · rw [restore_get g1 gl] at e
          split at e
          · rename_i hi
            obtain ⟨v, e1, so⟩ := s1.env.ok i s e n
            refine ⟨v, e1, ?_⟩
            exact so.stay c.tr.ex fun p u o z h2 h1 => by
              obtain ⟨k1, k2⟩ := c.tr.keep p _ h2 (apart i s p hi e o (by rw [e1]; exact z))
              exact ⟨k1, k2.trans h1⟩
          · rename_i hi
            obtain ⟨v, e1, so⟩ := c.env.ok i s e n
            exact ⟨v, by rw [wipe_get hi] at e1; exact e1, so⟩
        · rw [restore_get g1 gl] at h1 h2
          split at h1
          · exact s1.env.dis i j es fs p h1 o1 (by
              split at h2
              · exact h2
              · rename_i hi hj
                exact (apart i es p hi h1 o1 e1 (c.sub p ⟨j, fs, h2, o2, by rw [wipe_get hj]; exact e2⟩)).elim) o2 e1 e2
          · rename_i hi
            split at h2
            · rename_i hj
              exact (apart j fs p hj h2 o2 e2 (c.sub p ⟨i, es, h1, o1, by rw [wipe_get hi]; exact e1⟩)).elim
            · rename_i hj
              exact c.env.dis i j es fs p h1 o1 h2 o2 (by rw [wipe_get hi]; exact e1) (by rw [wipe_get hj]; exact e2)
        · rw [restore_get g1 gl] at h1
          split at h1
          · exact s1.env.ob i es p h1 o1 e1
          · rename_i hi
            exact c.env.ob i es p h1 o1 (by rw [wipe_get hi]; exact e1)
        · rw [restore_get g1 gl] at h1
          split at h1
          · exact s1.env.obi i es p h1 hp
          · exact c.env.obi i es p h1 hp
      refine q D ps qs Hf' H' ⟨s1.tr.trans' c.tr fun p z => s1.sub p (own_wipe z), er, fun p z => s1.sub p (own_r p z)⟩ (fun a ha => ?_) ndq hxs tqs
      have hn : H1 a = none := (oq a (List.mem_append_right _ ha)).2
      exact ⟨s1.tr.stay _ hn, fun z => s1.env.own_none hn (own_r a z), s1.env.nb a hn⟩
  · cases eq1
/-! ### x, y = e, dict([(k, []) for ..]), for what stands behind -/
def slW : Wv → Option Sl
  | .fresh es => some (.own es)
  | .dat d => some (.val d)
  | _ => none
noncomputable def sGrp (i j : Nat) (fe : ME) (C : MKs) (fr : MS) : MS := fun g => (fe g).bind fun a => (slW a.1).bind fun s => (C a.2).bind fun b => if b.1 = grI 0 b.1.length ∧ i < b.2.length ∧ j < b.2.length then anyQ (List.replicate b.1.length []) fun qs => fr ((b.2.set i s).set j (.grp qs (List.replicate b.1.length []))) else none
theorem ss_grp (i j : Nat) {x y : Str} {scope : Scope} {own : List (Str × Nat)} {b tg iter ke : Expr} {ifs : List Expr} {fe : ME} {it : MI} {tm : Wv → Gh → Option Gh} {ts : MT} {el : ME} {r : List Stmt} {fr : MS} {px py pt p1 lp tp lpos dpos pos : Pos} {kt k2 pt2 x1} (hc : ∀ i, (F.X i).calm = true) (hmd : ∀ i, (F.X i).mg "dict" = none) (hN : ∀ i, (F.X i).N.Nodup) (hb : Ev F pr b fe) (ok : ∀ i, BlkOk (F.X i).N (F.X i).env.scope scope own)
    (hi : EvI F pr tg iter it) (hg : EvG (F.blk scope) pr (own.map (·.2)) tg tm) (ht : EvTs (F.blk scope) pr ifs ts) (he : Ev (F.blk scope) pr ke el) (h2 : EvSs F pr r fr)
    (hgd : ∀ i, Gl (F.X i) "dict" := by intro _; rfl)
    (hni : ∀ q, (F.X q).N[i]? = some x := by intro _; rfl) (hnj : ∀ q, (F.X q).N[j]? = some y := by intro _; rfl) (hij : i ≠ j := by decide)
    (hx : ∀ q, (F.X q).env.scope.names.lookup x = some .local := by intro _; rfl) (hy : ∀ q, (F.X q).env.scope.names.lookup y = some .local := by intro _; rfl)
    (hs : ∀ i, ∀ x, foldedSetIterable iter (F.X i).env x = pure x := by intro _ _; rfl)
    (hw : ∀ q, swappedStores [.Tuple [.Name x px, .Name y py] kt pt] (.Tuple [b, .Call (.Name "dict" p1) [.ListComp (.Tuple [ke, .List [] lp] x1 tp) [⟨tg, iter, ifs, 0⟩] scope lpos] [] dpos] k2 pt2) (F.X q).env = pure (some [x, y]) := by intro _; rfl)
    (hsw : ∀ q, swapsWithSole [.Tuple [.Name x px, .Name y py] kt pt] (.Tuple [b, .Call (.Name "dict" p1) [.ListComp (.Tuple [ke, .List [] lp] x1 tp) [⟨tg, iter, ifs, 0⟩] scope lpos] [] dpos] k2 pt2) pos.line (F.X q).env = pure false := by intro _; rfl)
    (hp : ∀ q ∈ [i, j], q ∉ pr := by decide)
    (he1 : ∀ q, starEach [b, .Call (.Name "dict" p1) [.ListComp (.Tuple [ke, .List [] lp] x1 tp) [⟨tg, iter, ifs, 0⟩] scope lpos] [] dpos] (F.X q).env = (false, eval b (F.X q).env) :: starEach [.Call (.Name "dict" p1) [.ListComp (.Tuple [ke, .List [] lp] x1 tp) [⟨tg, iter, ifs, 0⟩] scope lpos] [] dpos] (F.X q).env := by intro _; rfl)
    (he2 : ∀ q, starEach [.Call (.Name "dict" p1) [.ListComp (.Tuple [ke, .List [] lp] x1 tp) [⟨tg, iter, ifs, 0⟩] scope lpos] [] dpos] (F.X q).env = (false, eval (.Call (.Name "dict" p1) [.ListComp (.Tuple [ke, .List [] lp] x1 tp) [⟨tg, iter, ifs, 0⟩] scope lpos] [] dpos) (F.X q).env) :: starEach [] (F.X q).env := by intro _; rfl)
    (hl : ∀ q, starEach [.ListComp (.Tuple [ke, .List [] lp] x1 tp) [⟨tg, iter, ifs, 0⟩] scope lpos] (F.X q).env = (false, eval (.ListComp (.Tuple [ke, .List [] lp] x1 tp) [⟨tg, iter, ifs, 0⟩] scope lpos) (F.X q).env) :: starEach [] (F.X q).env := by intro _; rfl)
    (hk1 : ∀ q, starEach [ke, .List [] lp] ((F.blk scope).X q).env = (false, eval ke ((F.blk scope).X q).env) :: starEach [.List [] lp] ((F.blk scope).X q).env := by intro _; rfl)
    (hk2 : ∀ q, starEach [.List [] lp] ((F.blk scope).X q).env = (false, eval (.List [] lp) ((F.blk scope).X q).env) :: starEach [] ((F.blk scope).X q).env := by intro _; rfl) :
    EvSs F pr (.Assign [.Tuple [.Name x px, .Name y py] kt pt] (.Tuple [b, .Call (.Name "dict" p1) [.ListComp (.Tuple [ke, .List [] lp] x1 tp) [⟨tg, iter, ifs, 0⟩] scope lpos] [] dpos] k2 pt2) pos :: r) (sGrp i j fe (mCompK (own.map (·.2)) it tm ts el) fr) := by
  intro B Hf H g σ fl g' D E eq q
  obtain ⟨⟨wa, g1⟩, e1, eq1⟩ := Option.bind_eq_some_iff.mp eq
  obtain ⟨s, es, eq1⟩ := Option.bind_eq_some_iff.mp eq1
  obtain ⟨⟨ks, g2⟩, e2, eq2⟩ := Option.bind_eq_some_iff.mp eq1
  dsimp only at es e2 eq2
  split at eq2
  · rename_i hk
    obtain ⟨hk, hli, hlj⟩ := hk
    have eq3 := anyQ_some eq2
    refine ⟨tSeq (US F _) (USs F r), fun i => pss_cons (ps_U i) (pss_U i), ?_⟩
    refine ⟨tPar i j (tCons (U F b) (tCons _ tNil)), fun q => ps_par (hc q) (hN q) (hni q) (hnj q) hij (hx q) (hy q) (pa_cons (pe_U q) (pa_cons (pe_callTy (call_dictPF hc q) (hgd q) (hmd q) (by decide +kernel) (pa_cons
      (pe_lc (hc q) (hN q) (pi_U q) (ok q) (fun s H C cl fp => pg_U (F := F.blk scope) (q, s, H, C, cl, fp)) (fun s H C cl fp => pts_U (F := F.blk scope) (q, s, H, C, cl, fp)) (fun s H C cl fp => pe_tup (pa_cons (pe_U (F := F.blk scope) (q, s, H, C, cl, fp)) (pa_cons (pe_lst pa_nil) pa_nil (hk2 (q, s, H, C, cl, fp))) (hk1 (q, s, H, C, cl, fp)))) (hs q)) pa_nil (hl q)) (by decide) (by decide) (hl q) (by rfl)) pa_nil (he2 q)) (he1 q)) (hw q) (hsw q), ?_⟩
    refine hb B Hf H g σ _ g1 _ E e1 fun v Hf1 H1 s1 w1 y1 => ?_
    have key : ((∃ es, s = .own es) ∨ ∃ d, s = .val d) ∧ SlotOk F.K Hf1 H1 s v ∧ ∀ es, s = .own es → ∀ a, v = .ref a → ¬ Own g1 σ a ∧ B a ∧ H a = none ∧ ∃ u, H1 a = some u := by
      cases wa with
      | fresh ds =>
        cases es
        obtain ⟨p0, us, rfl, b0, f0, h0, r0, n0⟩ := w1
        exact ⟨.inl ⟨_, rfl⟩, ⟨p0, us, rfl, f0, h0, r0⟩, fun _ _ a e => by cases e; exact ⟨n0, b0, y1 ds rfl p0 rfl, _, h0⟩⟩
      | dat d =>
        cases es
        exact ⟨.inr ⟨_, rfl⟩, w1, fun _ z => nomatch z⟩
      | slot k => cases es
      | raw w => cases es
    obtain ⟨sf, so1, ow1⟩ := key
    refine compK_ok (Q := fun x H2 => ∃ (a : Addr) (ps : List Addr) (kvs : List (Key × V)), [x] = [V.ref a] ∧ SqL F.K H2 a (ps.map V.ref) ∧ Paired (fun p kv => SqT F.K H2 p [kV kv.1, kv.2]) ps kvs ∧ ∀ p, H2 p = none → ∃ v1 w1, [v, V.ref p] = [v1, w1] ∧ USs F r D ((σ.set i (some v1)).set j (some w1)) (upd H2 p (.dK (mergeK [] kvs)))) hi hg ht he s1.env e2 fun a ps qs Hf2 H2 s2 fr2 nd ha gp => ?_
    refine ⟨a, ps, kvF 0 qs, rfl, .inl (.inl ha), gp.pairs hk, fun p hn => ?_⟩
    have mk : mergeK [] (kvF 0 qs) = kvG qs := by rw [kvG_F, mergeK_F (fun kv h => absurd h List.not_mem_nil)]; rfl
    have tb : TabOk F.K Hf2 H2 qs (List.replicate ks.length []) := gp.tab
    have E3 := s2.env.mut (o := .dK (mergeK [] (kvF 0 qs))) hn
    have lq := gp.length.2
    have pq : ∀ z ∈ qs, z ≠ p := fun z hz => by
      obtain ⟨u, hu, _⟩ := tb.there hz
      exact ne_of_none hu hn
    have so2 : SlotOk F.K Hf2 (upd H2 p (.dK (mergeK [] (kvF 0 qs)))) s v := by
      refine so1.stay s2.tr.ex fun z u o az hu hf => ?_
      have nz : ¬ Own g1 σ z := by
        rcases sf with ⟨l0, rfl⟩ | ⟨d, rfl⟩
        · have az := az.eq
          cases az
          exact (ow1 l0 rfl z rfl).1
        · cases o
      obtain ⟨k1, k2⟩ := s2.tr.keep z _ hu nz
      exact ⟨by rw [upd_ne (ne_of_none k1 hn)]; exact k1, k2.trans hf⟩
    have nds : ∀ t es, s ≠ .dic t es := by rcases sf with ⟨_, rfl⟩ | ⟨_, rfl⟩ <;> intro _ _ z <;> cases z
    have nts : ∀ t es, s ≠ .tab t es := by rcases sf with ⟨_, rfl⟩ | ⟨_, rfl⟩ <;> intro _ _ z <;> cases z
    have ngs : ∀ t es, s ≠ .grp t es := by rcases sf with ⟨_, rfl⟩ | ⟨_, rfl⟩ <;> intro _ _ z <;> cases z
    have E4 := E3.store (i := i) (s := s) (v := v) hli so2 (fun es' e a z => ⟨fun w => (ow1 es' e a z).1 (s2.sub a w), (ow1 es' e a z).2.1⟩) nds nts ngs
    have own4 : ∀ z, Own (g2.set i s) (σ.set i (some v)) z → Own g2 σ z ∨ (H z = none ∧ z ≠ p ∧ z ∉ qs) := fun z h => by
      rcases own_store h nds nts ngs with h | ⟨es, e, h⟩
      · exact .inl h
      · obtain ⟨n0, _, yz, u, hu⟩ := ow1 es e z h
        obtain ⟨k1, _⟩ := s2.tr.keep z _ hu n0
        exact .inr ⟨yz, ne_of_none k1 hn, fun m => by rw [(fr2 z m).1] at hu; cases hu⟩
    have sg : SlotOk F.K Hf2 (upd H2 p (.dK (mergeK [] (kvF 0 qs)))) (.grp qs (List.replicate ks.length [])) (.ref p) := by
      refine ⟨p, rfl, s2.env.frz hn, ?_, ?_, ?_⟩
      · rw [← mk]; exact upd_same
      · exact List.nodup_cons.mpr ⟨fun z => pq p z rfl, nd⟩
      · exact tb.stay (Evl.Ex.refl _) fun z u hz hu _ => ⟨by rw [upd_ne (pq z hz)]; exact hu, (tb.there hz).choose_spec.2⟩
    have at_ : ∀ z, At (.grp qs (List.replicate ks.length [])) (some (some (.ref p))) z → z = p ∨ z ∈ qs := fun z h => by
      rcases h with h | h
      · cases h; exact .inl rfl
      · exact .inr h
    have new_ : ∀ z, z = p ∨ z ∈ qs → H1 z = none ∧ ¬ Own (g2.set i s) (σ.set i (some v)) z ∧ B z := fun z h => by
      rcases h with rfl | h
      · refine ⟨s2.tr.stay _ hn, fun w => ?_, s2.env.nb _ hn⟩
        rcases own4 _ w with w | w
        · exact s2.env.own_none hn w
        · exact w.2.1 rfl
      · obtain ⟨z1, z2, z3⟩ := fr2 z h
        refine ⟨z1, fun w => ?_, z3⟩
        rcases own4 z w with w | w
        · exact z2 w
        · exact w.2.2 h
    have E5 := E4.storeT (i := j) (s := .grp qs (List.replicate ks.length [])) (v := .ref p) (by rw [List.length_set]; exact hlj) sg (fun _ a z => (new_ a (at_ a z)).2) (.inr (hp j (by simp)))
    have sT : Tr (Own g σ) Hf H Hf2 (upd H2 p (.dK (mergeK [] (kvF 0 qs)))) := (s1.tr.trans' s2.tr s1.sub).trans' (Tr.mut (O := Own g σ) hn) fun _ z => z
    have s5 : SStp F.K pr B Hf H g σ Hf2 (upd H2 p (.dK (mergeK [] (kvF 0 qs)))) ((g2.set i s).set j (.grp qs (List.replicate ks.length []))) ((σ.set i (some v)).set j (some (.ref p))) := ⟨sT, E5, fun z hz => by
        rcases own_storeT hz with hz | hz
        · rcases own4 z hz with hz | hz
          · exact .inl (s1.sub z (s2.sub z hz))
          · exact .inr hz.1
        · exact .inr (s1.tr.stay _ (new_ z (at_ z hz)).1), fun k hk => by
        rw [List.getElem?_set_ne (fun z => hp j (by simp) (by rw [z]; exact hk)), List.getElem?_set_ne (fun z => hp i (by simp) (by rw [z]; exact hk))]⟩
    refine ⟨v, .ref p, rfl, ?_⟩
    exact h2 B _ _ _ _ fl g' D E5 (eq3 qs (by rw [List.length_replicate]; exact lq)) fun σ2 Hf3 H3 s6 => q σ2 Hf3 H3 (s5.trans s6)
  · cases eq2
/-! ### y[k].append(e) -/
theorem En.changeG (E : En K pr B Hf H g σ) {i j : Nat} {qs : List Addr} {rs : List (List Da)} {p q : Addr} {us : List V} {r : List Da} (h : g[i]? = some (.grp qs rs)) (e : σ[i]? = some (some (.ref p))) (hq : qs[j]? = some q) (rr : RepAll K Hf us r) : SStp K pr B Hf H g σ Hf (upd H q (.lst us)) (g.set i (.grp qs (rs.set j r))) σ := by
  obtain ⟨v, e', p', rfl, f0, h0, nd, t⟩ := E.ok i _ h (by simp)
  rw [e] at e'; cases e'
  have mq : q ∈ qs := List.mem_of_getElem? hq
  obtain ⟨u0, hu0, fq⟩ := t.there mq
  have n := E.not_own_dropS (p := q) h rfl (.inr mq)
  have ow : Own g σ q := ⟨i, _, h, rfl, .inr mq⟩
  have ne : p ≠ q := fun z => (List.nodup_cons.mp nd).1 (z ▸ mq)
  have E1 := (E.drop i).put (o := .lst us) fq n
  have E2 := E1.put_slotT (i := i) (s := .grp qs (rs.set j r)) e ⟨p, rfl, f0, by rw [upd_ne ne]; exact h0, nd, t.set (List.nodup_cons.mp nd).2 hq rr⟩ (fun _ a z => by cases z; exact ⟨by rw [List.set_set]; exact E.not_own_dropS h rfl (.inl e), E.ob i _ p h rfl e⟩) (fun a ha => ⟨by rw [List.set_set]; exact E.not_own_dropS h rfl (.inr ha), E.obi i _ a h ha⟩)
  rw [List.set_set] at E2
  refine ⟨⟨Evl.Ex.refl _, fun a o ha no => ⟨by rw [upd_ne (fun z => no (by subst z; exact ow))]; exact ha, rfl⟩, fun a ha => upd_none ha⟩, E2, fun a ha => ?_, fun _ _ => rfl⟩
  rcases own_putS ha with z | ⟨_, z⟩
  · exact .inl (own_drop z)
  · exact .inl ⟨i, _, h, rfl, z⟩
def sGApp (i : Nat) (fi fe : ME) : MS := fun g => (fi g).bind fun b => (look b.1 b.2).bind fun y => match y, g[i]?, b.2[i]? with
  | .int m, some (.grp _ _), some (.grp qs _) => if 0 ≤ m ∧ m.toNat < qs.length then (fe b.2).bind fun a => (toD a.1 a.2).bind fun r => match r.2[i]? with
    | some (.grp qs' rs) => if qs' = qs then (rs[m.toNat]?).bind fun row => if row.length < sizeLine then some (.nx, r.2.set i (.grp qs' (rs.set m.toNat (row ++ [r.1])))) else none else none
    | _ => none
    else none
  | _, _, _ => none
theorem s_gapp (i : Nat) {x : Str} {ie e : Expr} {fi fe : ME} {p1 p2 p3 pos pos' : Pos} (hu : ∀ j, (F.X j).A.units + 64 < cLine) (hb : Ev F pr ie fi) (h : Ev F pr e fe) (hN : ∀ j, (F.X j).N[i]? = some x := by intro _; rfl) (hv : ∀ j, Vis (F.X j).env.scope x := by intro _; first | exact Or.inl rfl | exact Or.inr (Or.inl rfl) | exact Or.inr (Or.inr rfl))
    (hd : (x == ("__debug__" : Str)) = false := by decide) (hcd : (x == ("__classdict__" : Str)) = false := by decide) (hns : NoSl ie := by intro _ _; rfl)
    (hpe : ∀ (t to : TE), (∀ j, PE (F.X j) e t) → (∀ j, PE (F.X j) (.Subscript (.Name x p1) ie p3) to) → ∀ j, PE (F.X j) (.Call (.Attribute (.Subscript (.Name x p1) ie p3) "append" p2) [e] [] pos) (tBM (F.X j).K "list" rAppend to (tCons t tNil)) := by
      intro t to ht hto j
      exact pe_bm PySem.F.plainAttrs_list PySem.F.slot_list_append PySem.F.type_list_append mt_append (hto j) (pa_cons (ht j) pa_nil))
    (hs : ∀ j, swapsWith (.Call (.Attribute (.Subscript (.Name x p1) ie p3) "append" p2) [e] [] pos) none pos'.line (F.X j).env = pure false := by intro _; rfl) : EvS F pr (.Expr (.Call (.Attribute (.Subscript (.Name x p1) ie p3) "append" p2) [e] [] pos) pos') (sGApp i fi fe) := by
  intro B Hf H g σ fl g' D E eq q
  obtain ⟨⟨wb, g1⟩, e1, eq1⟩ := Option.bind_eq_some_iff.mp eq
  obtain ⟨y, e2, eq2⟩ := Option.bind_eq_some_iff.mp eq1
  dsimp only at eq2
  split at eq2
  · rename_i m qs0 rs0 qs rs1 hg0 hg1
    split at eq2
    · rename_i hm
      obtain ⟨⟨wa, g2⟩, e3, eq3⟩ := Option.bind_eq_some_iff.mp eq2
      obtain ⟨⟨d, g3⟩, e4, eq4⟩ := Option.bind_eq_some_iff.mp eq3
      dsimp only at eq4
      split at eq4
      · rename_i qs' rs hg3
        split at eq4
        · rename_i hqs
          subst hqs
          obtain ⟨row, e5, eq5⟩ := Option.bind_eq_some_iff.mp eq4
          try dsimp only at eq5
          split at eq5
          · rename_i hl
            cases eq5
            obtain ⟨v0, hv0, p, rfl, _⟩ := E.ok i _ hg0 (by simp)
            refine ⟨tDrop (tBM F.K "list" rAppend (tDGet (tVar i) (U F ie)) (tCons (U F e) tNil)), fun j => ps_expr (by
              have z := hpe (U F e) (tDGet (tVar i) (U F ie)) (fun j => pe_U j) (fun j => pe_dget (Nat.lt_of_le_of_lt (by omega) (hu j)) (pe_var (hN j) (hv j) hd hcd) (pe_U j) hns) j
              rw [F.hK j] at z; exact z) (hs j), ?_⟩
            refine ⟨.ref p, hv0, ?_⟩
            refine hb B Hf H g σ wb g1 _ E e1 fun u Hf1 H1 s1 w1 y1 => ?_
            have l1 : RL F.K Hf1 H1 u (.int m) := look_ok s1.env w1 e2
            have := l1.int
            subst this
            obtain ⟨v1, hv1, p', rfl, f1, h1, nd1, t1⟩ := s1.env.ok i _ hg1 (by simp)
            rw [hv0] at hv1; cases hv1
            obtain ⟨qa, hqa⟩ : ∃ qa, qs'[m.toNat]? = some qa := ⟨_, List.getElem?_eq_getElem hm.2⟩
            have vk : valV (kvG qs') (.inl m) = some (.ref qa) := by
              have z := val_kvF (o := 0) hqa
              rw [Nat.zero_add, Int.toNat_of_nonneg hm.1] at z
              rw [kvG_F]; exact z
            obtain ⟨u1, hu1, _⟩ := t1.there (List.mem_of_getElem? hqa)
            obtain ⟨row1, us1, hr1⟩ : ∃ (z : Unit) (us1 : List V), H1 qa = some (.lst us1) := by
              have lq := t1.length
              obtain ⟨rw1, hrw⟩ : ∃ rw1, rs1[m.toNat]? = some rw1 := ⟨_, List.getElem?_eq_getElem (by rw [← lq]; exact hm.2)⟩
              obtain ⟨_, us1, k, _⟩ := t1.get (j := m.toNat) hqa hrw
              exact ⟨(), us1, k⟩
            refine ⟨p, .ref qa, rfl, .inl ⟨kvG qs', .inl m, .inl h1, rfl, vk.symm⟩, .inl ⟨rfl, _, .inl (.inl hr1)⟩, ?_⟩
            refine h B Hf1 H1 g1 σ wa g2 _ s1.env e3 fun v Hf2 H2 s2 w2 y2 => ?_
            obtain ⟨Hf3, s3, r⟩ := s2.toD y2 w2 e4
            obtain ⟨v3, hv3, p3, rfl, f3, h3, nd3, t3⟩ := s3.env.ok i _ hg3 (by simp)
            rw [hv0] at hv3; cases hv3
            obtain ⟨fq, us, hu, ru⟩ := t3.get (j := m.toNat) hqa e5
            refine ⟨qa, us, v, rfl, rfl, hu, by rw [ru.length]; exact hl, ?_⟩
            exact q σ Hf3 _ ((s1.trans s3).s.trans (s3.env.changeG hg3 hv0 hqa (ru.append (.cons r .nil))))
          · cases eq5
        · cases eq4
      · cases eq4
    · cases eq2
  · cases eq2
/-! ### y read: it becomes data -/
def mNameG (i : Nat) : ME := fun g => match g[i]? with
  | some (.val d) => some (.dat d, g)
  | some (.grp _ rs) => some (.dat (.dict (grF 0 rs)), g.set i (.val (.dict (grF 0 rs))))
  | _ => none
theorem ev_nameG (i : Nat) {x : Str} {pos : Pos} (hN : ∀ j, (F.X j).N[i]? = some x := by intro _; rfl) (hv : ∀ j, Vis (F.X j).env.scope x := by intro _; first | exact Or.inl rfl | exact Or.inr (Or.inl rfl) | exact Or.inr (Or.inr rfl))
    (hd : (x == ("__debug__" : Str)) = false := by decide) (hcd : (x == ("__classdict__" : Str)) = false := by decide) : Ev F pr (.Name x pos) (mNameG i) := by
  intro B Hf H g σ w g' Q E eq q
  unfold mNameG at eq
  split at eq
  · rename_i d hg
    cases eq
    obtain ⟨v, hv1, so⟩ := E.ok i _ hg (by simp)
    exact ⟨tVar i, fun j => pe_var (hN j) (hv j) hd hcd, v, hv1, q v Hf H (Stp.refl E) so (fun _ z => nomatch z)⟩
  · rename_i qs rs h
    cases eq
    obtain ⟨v, e, p, rfl, f0, h0, nd, t⟩ := E.ok i _ h (by simp)
    refine ⟨_, fun j => pe_lockBehind (pe_var (hN j) (hv j) hd hcd), .ref p, e, p, _, h0, True.intro, fun od => ?_⟩
    obtain ⟨n1, n2⟩ := List.nodup_cons.mp nd
    have lq := t.length
    obtain ⟨Hf1, E1, x1, r1, k1⟩ := freeze_rows (E.drop i) t n2 fun a ha => E.not_own_dropS h rfl (.inr ha)
    have f1 : Hf1 p = none := (k1 p n1).trans f0
    have nd0 := E.not_own_dropS h rfl (.inl e)
    have E2 := (E1.put (o := .frz od (.dK (kvG qs))) f1 nd0).freeze (p := p) (o := .frz od (.dK (kvG qs))) upd_same f1 nd0
    have ex : Evl.Ex Hf1 (upd Hf1 p (.frz od (.dK (kvG qs)))) := Evl.Ex.new f1
    have rr : Rep F.K (upd Hf1 p (.frz od (.dK (kvG qs)))) (.ref p) (.dict (grF 0 rs)) := by
      have kv : (kvG qs).map (fun q => q.2) = qs.map V.ref := by rw [kvG_F, kvF_vals]
      have kk : zipK ((kvG qs).map fun q => q.1) (rs.map PyData.list) = grF 0 rs := by rw [kvG_F, grF_zip lq]
      have z : Rep F.K (upd Hf1 p (.frz od (.dK (kvG qs)))) (.ref p) (.dict (zipK ((kvG qs).map fun q => q.1) (rs.map PyData.list))) := .dk upd_same (by
        rw [kv]
        exact r1.mono ex)
      rw [kk] at z
      exact z
    have E3 := E2.put_slot (i := i) (s := .val (.dict (grF 0 rs))) e rr (fun _ z => by cases z)
    rw [List.set_set] at E3
    refine q _ _ _ ⟨⟨x1.trans ex, fun a o ha no => ?_, fun a ha => upd_none ha⟩, E3, fun a ha => ?_⟩ rr (fun _ z => nomatch z)
    · have ne : a ≠ p := fun z => no (by subst z; exact ⟨i, _, h, rfl, .inl e⟩)
      exact ⟨by rw [upd_ne ne]; exact ha, by rw [upd_ne ne]; exact k1 a fun z => no ⟨i, _, h, rfl, .inr z⟩⟩
    · rcases own_put ha with z | ⟨_, z, _⟩
      · exact own_drop z
      · cases z
  · cases eq
end
/-! ### applied -/
section
variable {g : Gh} {i j : Nat} {C : MKs} {fr : MS} {fe fi : ME}
theorem e_nameG : mNameG i g = (match g[i]? with
  | some (.val d) => some (.dat d, g)
  | some (.grp _ rs) => some (.dat (.dict (grF 0 rs)), g.set i (.val (.dict (grF 0 rs))))
  | _ => none) := rfl
theorem e_gapp {m : Int} {g1 g2 : Gh} {qs : List Addr} {rs rs1 rs2 : List (List Da)} {d : Da} {row : List Da} {w : Wv} (h1 : fi g = some (.dat (.int m), g1)) (h0 : g[i]? = some (.grp qs rs1)) (h2 : g1[i]? = some (.grp qs rs2)) (h3 : 0 ≤ m ∧ m.toNat < qs.length) (h4 : fe g1 = some (w, g2)) (h5 : toD w g2 = some (d, g2)) (h6 : g2[i]? = some (.grp qs rs)) (h7 : rs[m.toNat]? = some row) (h8 : row.length < sizeLine) : sGApp i fi fe g = some (.nx, g2.set i (.grp qs (rs.set m.toNat (row ++ [d])))) := by
  unfold sGApp
  rw [h1, Option.bind_some]
  show ((look (.dat (.int m)) g1).bind _) = _
  rw [show look (.dat (.int m)) g1 = some (.int m) from rfl, Option.bind_some, h0, h2]
  try dsimp only
  rw [if_pos h3, h4, Option.bind_some]
  try dsimp only
  rw [h5, Option.bind_some]
  try dsimp only
  rw [h6]
  try dsimp only
  rw [if_pos rfl, h7, Option.bind_some, if_pos h8]
theorem grI_len : ∀ (n o : Nat), (grI o n).length = n
  | 0, _ => rfl
  | n + 1, o => by rw [grI, List.length_cons, grI_len n]
theorem e_sGrp {w : Wv} {s : Sl} {n : Nat} {g1 g2 : Gh} {r : Fl × Gh} (h0 : fe g = some (w, g1)) (hs : slW w = some s) (h1 : C g1 = some (grI 0 n, g2)) (hi : i < g2.length) (hj : j < g2.length) (h : ∀ qs : List Addr, qs.length = n → fr ((g2.set i s).set j (.grp qs (List.replicate n []))) = some r) : sGrp i j fe C fr g = some r := by
  unfold sGrp
  rw [h0, Option.bind_some]
  dsimp only
  rw [hs, Option.bind_some, h1, Option.bind_some]
  dsimp only
  rw [grI_len, if_pos ⟨rfl, hi, hj⟩]
  exact anyQ_is fun qs hq => h qs (by rw [hq, List.length_replicate])
theorem compK_of {α : Type} {vs : List Nat} {tg : Wv → Gh → Option Gh} {el : ME} {e : α → Da} {R : α → Int} {g : Gh} : ∀ {xs : List α}, (∀ x ∈ xs, ∃ g1 g2, tg (.dat (e x)) g = some g1 ∧ el g1 = some (.dat (.int (R x)), g2) ∧ wipeG g2 vs = g) → compK vs tg mYes el (xs.map e) g = some (xs.map R, g)
  | [], _ => rfl
  | x :: xs, h => by
    obtain ⟨g1, g2, h1, h2, h3⟩ := h x List.mem_cons_self
    have ih := compK_of fun y hy => h y (List.mem_cons_of_mem _ hy)
    rw [List.map_cons]
    unfold compK
    rw [h1, Option.bind_some]
    show ((el g1).bind _) = _
    rw [h2, Option.bind_some, h3, ih]
    rfl
end
end EV
end
section
set_option autoImplicit false
namespace K01
open PySem PySem.Spec PyProof.Rows L2 EV
def top (i : Nat) : Stmt := PySem.Challenge.pw_evencoins_k01_whole_even_sums_and_moved.main.body.getD i (.Pass ⟨0, 0, 0, 0⟩)
noncomputable def m__law_small_right : MS :=
    (sSeq (sSet 1 (mFnD Lib.F__law_pick (mCons (mName 0) (mCons (mLst (mCons (mC (.int 5)) (mCons (mC (.int 5)) (mCons (mC (.int 7)) mNil)))) mNil))))
    (sSeq (sSet 2 (mFnD Lib.F__law_roll (mCons (mName 0) (mCons (mIf (mCmp dEq (mName 1) (mC (.int 5))) (mC (.int 5)) (mC (.int 4))) mNil))))
    (sSeq (sSet 3 (mFnD Lib.F__law_weights_drawn (mCons (mName 0) (mCons (mName 1) (mCons (mName 2) mNil)))))
    (sGrp 4 5 (mFn Lib.F__law_all (mCons (mName 1) (mCons (mName 2) mNil))) (mCompK [8] (mRg1 (mCons (mName 1) mNil)) (setN 8) mYes (mName 8))
    (sSeq (sFor (mIt (mName 4)) (setN 6) (sGApp 5 (mFn Lib.F__law_fd_dot (mCons (mName 1) (mCons (mName 3) (mCons (mName 6) mNil)))) (mName 6)))
    (sSeq (sSet 7 (mBin dEq (mComp [12] (mIt (mName 3)) (setN 12) (mCmp dNe (mName 12) (mC (.int 0))) (mName 12)) (mLst mNil)))
    (sSeq (sFor (mRg1 (mCons (mName 1) mNil)) (setN 8) (sSeq (sIf (mCmp dNe (mFn Lib.F_vectors_count (mCons (mName 1) (mCons (mName 3) (mCons (mName 8) mNil)))) (mCall dLen (mCons (mDIx (mNameG 5) (mName 8)) mNil))) (sRet [0] (mC (.bool false))) sNil)
    (sIf (mAnd (mNot (mTru (mName 7))) (mCmp dNe (mBin dMul (mCall dLen (mCons (mDIx (mNameG 5) (mName 8)) mNil)) (mName 1)) (mCall dLen (mCons (mName 4) mNil)))) (sRet [0] (mC (.bool false))) sNil)))
    (sSeq (sPar [9, 10] (mCons (mFnD Lib.F__law_roll (mCons (mName 0) (mCons (mName 1) mNil))) (mCons (mFnD Lib.F__law_roll (mCons (mName 0) (mCons (mName 1) mNil))) mNil)))
    (sSeq (sIf (mOr (mCmp dNe (mFn Lib.F_vectors_with (mCons (mName 1) (mCons (mName 3) (mCons (mName 9) mNil)))) (mCall dTuple (mCons (mDIx (mNameG 5) (mName 9)) mNil))) (mCmp dNe (mFn Lib.F_vectors_with (mCons (mName 1) (mCons (mName 3) (mCons (mName 10) mNil)))) (mCall dTuple (mCons (mDIx (mNameG 5) (mName 10)) mNil)))) (sRet [0] (mC (.bool false))) sNil)
    (sSeq (sSet 11 (mComp [6] (mIt (mDIx (mNameG 5) (mName 9))) (setN 6) mYes (mFn Lib.F_moved (mCons (mName 1) (mCons (mName 3) (mCons (mName 6) (mCons (mName 10) mNil)))))))
    (sSeq (sIf (mTru (mName 7)) (sRet [0] (mBin dEq (mName 11) (mRepL (mLst (mCons (mC .none) mNil)) (mCall dLen (mCons (mDIx (mNameG 5) (mName 9)) mNil))))) sNil)
    (sSeq (sIf (mCmp dNe (mCall dSortedB (mCons (mName 11) mNil)) (mDIx (mNameG 5) (mName 10))) (sRet [0] (mC (.bool false))) sNil)
    (sRet [0] (mBin dEq (mComp [6] (mIt (mName 11)) (setN 6) mYes (mFn Lib.F_moved (mCons (mName 1) (mCons (mName 3) (mCons (mName 6) (mCons (mName 9) mNil)))))) (mDIx (mNameG 5) (mName 9))))))))))))))))
noncomputable def F__law_small_right : MF := bodyM [0] 12 m__law_small_right
noncomputable def m_law : MS :=
    (sSeq (sFor (mRg1 (mCons (mCall dMax (mCons (mC (.int 1)) (mCons (mCall dMin (mCons (mC (.int 3)) (mCons (mCall dLen (mCons (mName 0) mNil)) mNil))) mNil))) mNil)) (setN 1) (sSeq (sSet 2 (mFn Lib.F__law_dice (mCons (mName 0) (mCons (mName 1) mNil))))
    (sIf (mOr (mNot (mTru (mFnD F__law_small_right (mCons (mName 2) mNil)))) (mOr (mNot (mTru (mFnD Lib.F__law_great_right (mCons (mName 2) mNil)))) (mNot (mTru (mFnD Lib.F__law_great_right (mCons (mName 2) mNil)))))) (sRet [] (mC (.bool false))) sNil)))
    (sSeq (sSet 3 (mLst (mCons (mFn Lib.F_weighted (mCons (mC (.int 5)) (mCons (mTup (mCons (mC (.int 1)) (mCons (mC (.int 2)) mNil))) (mCons (mTup (mCons (mC (.int 3)) (mCons (mC (.int 4)) mNil))) mNil)))) (mCons (mFn Lib.F_vectors_count (mCons (mC (.int 5)) (mCons (mTup (mCons (mC (.int 1)) (mCons (mC (.int 2)) mNil))) (mCons (mC (.int 1)) mNil)))) (mCons (mFn Lib.F_vectors_count (mCons (mC (.int 5)) (mCons (mTup (mCons (mC (.int 0)) (mCons (mC (.int 0)) mNil))) (mCons (mC (.int 1)) mNil)))) (mCons (mSl (mFn Lib.F_vectors_with (mCons (mC (.int 5)) (mCons (mTup (mCons (mC (.int 0)) (mCons (mC (.int 1)) mNil))) (mCons (mC (.int 2)) mNil)))) mO0 (mO1 (mC (.int 2)))) mNil))))))
    (sSeq (sIf (mOr (mCmp dNe (mName 3) (mLst (mCons (mC (.int 1)) (mCons (mC (.int 5)) (mCons (mC (.int 0)) (mCons (mTup (mCons (mTup (mCons (mC (.int 0)) (mCons (mC (.int 2)) mNil))) (mCons (mTup (mCons (mC (.int 1)) (mCons (mC (.int 2)) mNil))) mNil))) mNil)))))) (mCmp dNe (mLst (mCons (mFn Lib.F_moved (mCons (mC (.int 5)) (mCons (mTup (mCons (mC (.int 0)) (mCons (mC (.int 2)) mNil))) (mCons (mTup (mCons (mC (.int 3)) (mCons (mC (.int 4)) mNil))) (mCons (mC (.int 0)) mNil))))) (mCons (mFn Lib.F_moved (mCons (mC (.int 5)) (mCons (mTup (mCons (mC (.int 0)) (mCons (mC (.int 0)) mNil))) (mCons (mTup (mCons (mC (.int 3)) (mCons (mC (.int 4)) mNil))) (mCons (mC (.int 0)) mNil))))) mNil))) (mLst (mCons (mTup (mCons (mC (.int 3)) (mCons (mC (.int 0)) mNil))) (mCons (mC .none) mNil))))) (sRet [] (mC (.bool false))) sNil)
    (sRet [] (mBin dEq (mLst (mCons (mFn Lib.F_weighted (mCons (mC (.int 7)) (mCons (mTup mNil) (mCons (mTup mNil) mNil)))) (mCons (mFn Lib.F_vectors_with (mCons (mC (.int 7)) (mCons (mTup mNil) (mCons (mC (.int 0)) mNil)))) (mCons (mFn Lib.F_vectors_with (mCons (mC (.int 7)) (mCons (mTup mNil) (mCons (mC (.int 1)) mNil)))) (mCons (mFn Lib.F_vectors_count (mCons (mC (.int 7)) (mCons (mTup mNil) (mCons (mC (.int 0)) mNil)))) mNil))))) (mLst (mCons (mC (.int 0)) (mCons (mTup (mCons (mTup mNil) mNil)) (mCons (mTup mNil) (mCons (mC (.int 1)) mNil))))))))))
noncomputable def F_law : MF := bodyM [] 3 m_law
/-! ### the text -/
abbrev s_is_integer : Stmt := top 12
abbrev N_is_integer : List Str := ["value", "least", "most"]
theorem sc_is_integer : FnScope N_is_integer ["value", "least", "most"] (defScope s_is_integer) := ⟨rfl, rfl, rfl, by decide +kernel, rfl, by decide +kernel, by decide +kernel⟩
abbrev s_is_field : Stmt := top 13
abbrev N_is_field : List Str := ["value", "prime"]
theorem sc_is_field : FnScope N_is_field ["value"] (defScope s_is_field) := ⟨rfl, rfl, rfl, by decide +kernel, rfl, by decide +kernel, by decide +kernel⟩
abbrev s_are_numbers : Stmt := top 14
abbrev N_are_numbers : List Str := ["field", "value", "x"]
theorem sc_are_numbers : FnScope N_are_numbers ["field", "value"] (defScope s_are_numbers) := ⟨rfl, rfl, rfl, by decide +kernel, rfl, by decide +kernel, by decide +kernel⟩
abbrev s_is_vector : Stmt := top 15
abbrev N_is_vector : List Str := ["field", "value"]
theorem sc_is_vector : FnScope N_is_vector ["field", "value"] (defScope s_is_vector) := ⟨rfl, rfl, rfl, by decide +kernel, rfl, by decide +kernel, by decide +kernel⟩
abbrev s_check_integer : Stmt := top 16
abbrev N_check_integer : List Str := ["value", "least", "most"]
theorem sc_check_integer : FnScope N_check_integer ["value", "least", "most"] (defScope s_check_integer) := ⟨rfl, rfl, rfl, by decide +kernel, rfl, by decide +kernel, by decide +kernel⟩
abbrev s_check_field : Stmt := top 17
abbrev N_check_field : List Str := ["field"]
theorem sc_check_field : FnScope N_check_field ["field"] (defScope s_check_field) := ⟨rfl, rfl, rfl, by decide +kernel, rfl, by decide +kernel, by decide +kernel⟩
abbrev s_check_number : Stmt := top 18
abbrev N_check_number : List Str := ["field", "number"]
theorem sc_check_number : FnScope N_check_number ["field", "number"] (defScope s_check_number) := ⟨rfl, rfl, rfl, by decide +kernel, rfl, by decide +kernel, by decide +kernel⟩
abbrev s_check_vector : Stmt := top 19
abbrev N_check_vector : List Str := ["field", "vector"]
theorem sc_check_vector : FnScope N_check_vector ["field", "vector"] (defScope s_check_vector) := ⟨rfl, rfl, rfl, by decide +kernel, rfl, by decide +kernel, by decide +kernel⟩
abbrev s_raised : Stmt := top 20
abbrev N_raised : List Str := ["field", "number", "many", "result", "square", "left"]
theorem sc_raised : FnScope N_raised ["field", "number", "many"] (defScope s_raised) := ⟨rfl, rfl, rfl, by decide +kernel, rfl, by decide +kernel, by decide +kernel⟩
abbrev s_inverse : Stmt := top 21
abbrev N_inverse : List Str := ["field", "number"]
theorem sc_inverse : FnScope N_inverse ["field", "number"] (defScope s_inverse) := ⟨rfl, rfl, rfl, by decide +kernel, rfl, by decide +kernel, by decide +kernel⟩
abbrev s_rows_count : Stmt := top 22
abbrev N_rows_count : List Str := ["field", "many", "count", "_"]
theorem sc_rows_count : FnScope N_rows_count ["field", "many"] (defScope s_rows_count) := ⟨rfl, rfl, rfl, by decide +kernel, rfl, by decide +kernel, by decide +kernel⟩
abbrev s_sum_of_products : Stmt := top 23
abbrev N_sum_of_products : List Str := ["field", "one", "other", "x", "y"]
theorem sc_sum_of_products : FnScope N_sum_of_products ["field", "one", "other"] (defScope s_sum_of_products) := ⟨rfl, rfl, rfl, by decide +kernel, rfl, by decide +kernel, by decide +kernel⟩
abbrev s_weighted : Stmt := top 24
abbrev N_weighted : List Str := ["field", "weights", "vector"]
theorem sc_weighted : FnScope N_weighted ["field", "weights", "vector"] (defScope s_weighted) := ⟨rfl, rfl, rfl, by decide +kernel, rfl, by decide +kernel, by decide +kernel⟩
abbrev s_vectors_count : Stmt := top 25
abbrev N_vectors_count : List Str := ["field", "weights", "goal", "weight"]
theorem sc_vectors_count : FnScope N_vectors_count ["field", "weights", "goal"] (defScope s_vectors_count) := ⟨rfl, rfl, rfl, by decide +kernel, rfl, by decide +kernel, by decide +kernel⟩
abbrev s_heavy_places : Stmt := top 26
abbrev N_heavy_places : List Str := ["weights", "place"]
theorem sc_heavy_places : FnScope N_heavy_places ["weights"] (defScope s_heavy_places) := ⟨rfl, rfl, rfl, by decide +kernel, rfl, by decide +kernel, by decide +kernel⟩
abbrev s_all_vectors : Stmt := top 27
abbrev N_all_vectors : List Str := ["field", "many", "heads", "tails", "x", "head", "tail"]
theorem sc_all_vectors : FnScope N_all_vectors ["field", "many"] (defScope s_all_vectors) := ⟨rfl, rfl, rfl, by decide +kernel, rfl, by decide +kernel, by decide +kernel⟩
abbrev s_all_lacks : Stmt := top 28
abbrev N_all_lacks : List Str := ["field", "weights", "goal", "lacks", "weight", "parts", "x", "lack", "part"]
theorem sc_all_lacks : FnScope N_all_lacks ["field", "weights", "goal"] (defScope s_all_lacks) := ⟨rfl, rfl, rfl, by decide +kernel, rfl, by decide +kernel, by decide +kernel⟩
abbrev s_solved_vectors : Stmt := top 29
abbrev N_solved_vectors : List Str := ["field", "weights", "last", "goal", "factor", "ends", "lacks", "heads", "tails", "lack", "row", "head", "tail"]
theorem sc_solved_vectors : FnScope N_solved_vectors ["field", "weights", "last", "goal"] (defScope s_solved_vectors) := ⟨rfl, rfl, rfl, by decide +kernel, rfl, by decide +kernel, by decide +kernel⟩
abbrev s_vectors_with : Stmt := top 30
abbrev N_vectors_with : List Str := ["field", "weights", "goal", "heavy"]
theorem sc_vectors_with : FnScope N_vectors_with ["field", "weights", "goal"] (defScope s_vectors_with) := ⟨rfl, rfl, rfl, by decide +kernel, rfl, by decide +kernel, by decide +kernel⟩
abbrev s_moved : Stmt := top 31
abbrev N_moved : List Str := ["field", "weights", "vector", "goal", "heavy", "at", "lacking", "number"]
theorem sc_moved : FnScope N_moved ["field", "weights", "vector", "goal"] (defScope s_moved) := ⟨rfl, rfl, rfl, by decide +kernel, rfl, by decide +kernel, by decide +kernel⟩
abbrev s__law_dice : Stmt := top 33
abbrev N__law_dice : List Str := ["script", "spot", "cell", "left"]
theorem sc__law_dice : FnScope N__law_dice ["script", "spot"] (defScope s__law_dice) := ⟨rfl, rfl, rfl, by decide +kernel, rfl, by decide +kernel, by decide +kernel⟩
abbrev s__law_roll : Stmt := top 34
abbrev N__law_roll : List Str := ["dice", "most", "found", "one", "two"]
theorem sc__law_roll : FnScope N__law_roll ["dice", "most"] (defScope s__law_roll) := ⟨rfl, rfl, rfl, by decide +kernel, rfl, by decide +kernel, by decide +kernel⟩
abbrev s__law_pick : Stmt := top 35
abbrev N__law_pick : List Str := ["dice", "items"]
theorem sc__law_pick : FnScope N__law_pick ["dice", "items"] (defScope s__law_pick) := ⟨rfl, rfl, rfl, by decide +kernel, rfl, by decide +kernel, by decide +kernel⟩
abbrev s__law_fd_primes : Stmt := top 36
abbrev N__law_fd_primes : List Str := []
theorem sc__law_fd_primes : FnScope N__law_fd_primes [] (defScope s__law_fd_primes) := ⟨rfl, rfl, rfl, by decide +kernel, rfl, by decide +kernel, by decide +kernel⟩
abbrev s__law_fd_dot : Stmt := top 37
abbrev N__law_fd_dot : List Str := ["field_here", "one", "other", "found", "left", "right"]
theorem sc__law_fd_dot : FnScope N__law_fd_dot ["field_here", "one", "other"] (defScope s__law_fd_dot) := ⟨rfl, rfl, rfl, by decide +kernel, rfl, by decide +kernel, by decide +kernel⟩
abbrev s__law_fd_times : Stmt := top 38
abbrev N__law_fd_times : List Str := ["base", "many", "found", "turn"]
theorem sc__law_fd_times : FnScope N__law_fd_times ["base", "many"] (defScope s__law_fd_times) := ⟨rfl, rfl, rfl, by decide +kernel, rfl, by decide +kernel, by decide +kernel⟩
abbrev s__law_all : Stmt := top 39
abbrev N__law_all : List Str := ["p", "size", "found", "turn", "longer", "vector", "number"]
theorem sc__law_all : FnScope N__law_all ["p", "size"] (defScope s__law_all) := ⟨rfl, rfl, rfl, by decide +kernel, rfl, by decide +kernel, by decide +kernel⟩
abbrev s__law_weights_drawn : Stmt := top 40
abbrev N__law_weights_drawn : List Str := ["dice", "p", "size", "turn"]
theorem sc__law_weights_drawn : FnScope N__law_weights_drawn ["dice", "p", "size"] (defScope s__law_weights_drawn) := ⟨rfl, rfl, rfl, by decide +kernel, rfl, by decide +kernel, by decide +kernel⟩
abbrev s__law_small_right : Stmt := top 41
abbrev N__law_small_right : List Str := ["dice", "p", "size", "weights_here", "every", "by_sum", "vector", "is_flat", "goal", "one", "other", "led", "weight"]
theorem sc__law_small_right : FnScope N__law_small_right ["dice"] (defScope s__law_small_right) := ⟨rfl, rfl, rfl, by decide +kernel, rfl, by decide +kernel, by decide +kernel⟩
abbrev s__law_great_right : Stmt := top 42
abbrev N__law_great_right : List Str := ["dice", "p", "size", "weights_here", "vector", "goal", "heads", "many", "told", "unlike", "turn", "at"]
theorem sc__law_great_right : FnScope N__law_great_right ["dice"] (defScope s__law_great_right) := ⟨rfl, rfl, rfl, by decide +kernel, rfl, by decide +kernel, by decide +kernel⟩
abbrev s_law : Stmt := top 43
abbrev N_law : List Str := ["script", "spot", "dice", "told"]
theorem sc_law : FnScope N_law ["script"] (defScope s_law) := ⟨rfl, rfl, rfl, by decide +kernel, rfl, by decide +kernel, by decide +kernel⟩
structure DefAt (K : Frag) (mg : Str → Option Value) (x : Str) (st : Stmt) (ps : List Str) (f : Addr) (fd : FuncData) : Prop where
  fn : Fun K x x st f fd
  g : mg x = some (.ref f)
  b : Binds K fd ps []
structure Txt (K : Frag) (mg : Str → Option Value) : Prop where
  n_abs : mg "abs" = none
  n_any : mg "any" = none
  n_dict : mg "dict" = none
  n_int : mg "int" = none
  n_isinstance : mg "isinstance" = none
  n_len : mg "len" = none
  n_list : mg "list" = none
  n_max : mg "max" = none
  n_min : mg "min" = none
  n_range : mg "range" = none
  n_sorted : mg "sorted" = none
  n_sum : mg "sum" = none
  n_tuple : mg "tuple" = none
  n_zip : mg "zip" = none
  c_LEAST_FIELD : ∃ (q : Value × V), mg "LEAST_FIELD" = some q.1 ∧ RelV q.2 q.1 ∧ ∀ Hf, Rep K Hf q.2 (.int 5)
  c_MAX_FIELD : ∃ (q : Value × V), mg "MAX_FIELD" = some q.1 ∧ RelV q.2 q.1 ∧ ∀ Hf, Rep K Hf q.2 (.int 997)
  c_MAX_SIDE : ∃ (q : Value × V), mg "MAX_SIDE" = some q.1 ∧ RelV q.2 q.1 ∧ ∀ Hf, Rep K Hf q.2 (.int 60)
  c_MOST_LISTED : ∃ (q : Value × V), mg "MOST_LISTED" = some q.1 ∧ RelV q.2 q.1 ∧ ∀ Hf, Rep K Hf q.2 (.int 100000)
  c_SMALL_PRIMES : ∃ (q : Value × V), mg "SMALL_PRIMES" = some q.1 ∧ RelV q.2 q.1 ∧ ∀ Hf, Rep K Hf q.2 (.tuple [(.int 2), (.int 3), (.int 5), (.int 7), (.int 11), (.int 13), (.int 17), (.int 19), (.int 23), (.int 29), (.int 31)])
section
variable {P : Program} {w : World} {K : Frag} {mg : Str → Option Value} {base : Heap}
theorem ok_is_integer (T : Txt K mg) {f_is_integer : Addr} {d_is_integer : FuncData} (A_is_integer : DefAt K mg "is_integer" s_is_integer ["value", "least", "most"] f_is_integer d_is_integer) : FnOk P w K mg base CX0 1 f_is_integer d_is_integer ["value", "least", "most"] (spM K 3 [] Lib.F_is_integer) :=
  def_ok A_is_integer.fn sc_is_integer rfl fun cdv A outer s H E hr =>
    (ss_one (s_ret (ev_and (ev_isi (T := "int") (ev_name 0) (fun _ => T.n_isinstance) (fun _ => T.n_int)) (ev_and (ev_cmp od_isnot (ev_name 0) ev_bl) (ev_and (ev_cmp od_isnot (ev_name 0) ev_bl) (ev_one (ev_chain od_le od_le d1_le (ev_name 1) (ev_name 0) (ev_name 2))))))))
theorem ok_is_field (T : Txt K mg) {f_is_field : Addr} {d_is_field : FuncData} (A_is_field : DefAt K mg "is_field" s_is_field ["value"] f_is_field d_is_field) {f_is_integer : Addr} {d_is_integer : FuncData} (A_is_integer : DefAt K mg "is_integer" s_is_integer ["value", "least", "most"] f_is_integer d_is_integer) (G_is_integer : FnOk P w K mg base CX0 1 f_is_integer d_is_integer ["value", "least", "most"] (spM K 3 [] Lib.F_is_integer)) : FnOk P w K mg base CX0 2 f_is_field d_is_field ["value"] (spM K 1 [] Lib.F_is_field) :=
  def_ok A_is_field.fn sc_is_field rfl fun cdv A outer s H E hr =>
    (ss_cons (s_if (et_not (et_tru (ev_fn (fun _ => G_is_integer) (fun _ => hr.mono (by decide)) (fun _ => A_is_integer.g) (fun _ => A_is_integer.fn.kp) (fun _ => A_is_integer.b) (ea_cons (ev_name 0) (ea_cons (ev_glob (fun _ => rfl) (fun _ => T.c_LEAST_FIELD.choose_spec.1) T.c_LEAST_FIELD.choose_spec.2.1 T.c_LEAST_FIELD.choose_spec.2.2) (ea_cons (ev_glob (fun _ => rfl) (fun _ => T.c_MAX_FIELD.choose_spec.1) T.c_MAX_FIELD.choose_spec.2.1 T.c_MAX_FIELD.choose_spec.2.2) ea_nil))) (na_cons (na_cons (na_cons na_nil)))))) (ss_one (s_ret ev_bl)) ss_nil)
    (ss_cons (s_for (fun _ => PassesOwn.never) (fun _ => rfl) (ei_val (ev_glob (fun _ => rfl) (fun _ => T.c_SMALL_PRIMES.choose_spec.1) T.c_SMALL_PRIMES.choose_spec.2.1 T.c_SMALL_PRIMES.choose_spec.2.2)) (eg_name 1 (fun _ => sc_is_field.nd)) (ss_one (s_if (et_cmp (od_eq (fun _ => hr.units)) (ev_bin od_mod (ev_name 0) (ev_name 1)) ev_int) (ss_one (s_ret (ev_cmp (od_eq (fun _ => hr.units)) (ev_name 0) (ev_name 1)))) ss_nil)))
    (ss_one (s_ret ev_bl))))
theorem ok_are_numbers (T : Txt K mg) {f_are_numbers : Addr} {d_are_numbers : FuncData} (A_are_numbers : DefAt K mg "are_numbers" s_are_numbers ["field", "value"] f_are_numbers d_are_numbers) : FnOk P w K mg base CX0 1 f_are_numbers d_are_numbers ["field", "value"] (spM K 2 [] Lib.F_are_numbers) :=
  def_ok A_are_numbers.fn sc_are_numbers rfl fun cdv A outer s H E hr =>
    (ss_cons (s_if (et_not (et_tru (ev_isi (T := "tuple") (ev_name 1) (fun _ => T.n_isinstance) (fun _ => T.n_tuple)))) (ss_one (s_ret ev_bl)) ss_nil)
    (ss_cons (s_for (fun _ => PassesOwn.never) (fun _ => rfl) (ei_val (ev_name 1)) (eg_name 2 (fun _ => sc_are_numbers.nd)) (ss_one (s_if (et_w (ew_or (et_not (et_tru (ev_isi (T := "int") (ev_name 2) (fun _ => T.n_isinstance) (fun _ => T.n_int)))) (ew_or (et_cmp od_is (ev_name 2) ev_bl) (ew_or (et_cmp od_is (ev_name 2) ev_bl) (ew_or1 (et_not (et_chain od_le od_lt d1_lt ev_int (ev_name 2) (ev_name 0)))))))) (ss_one (s_ret ev_bl)) ss_nil)))
    (ss_one (s_ret ev_bl))))
theorem ok_is_vector (T : Txt K mg) {f_is_vector : Addr} {d_is_vector : FuncData} (A_is_vector : DefAt K mg "is_vector" s_is_vector ["field", "value"] f_is_vector d_is_vector) {f_are_numbers : Addr} {d_are_numbers : FuncData} (A_are_numbers : DefAt K mg "are_numbers" s_are_numbers ["field", "value"] f_are_numbers d_are_numbers) (G_are_numbers : FnOk P w K mg base CX0 1 f_are_numbers d_are_numbers ["field", "value"] (spM K 2 [] Lib.F_are_numbers)) : FnOk P w K mg base CX0 2 f_is_vector d_is_vector ["field", "value"] (spM K 2 [] Lib.F_is_vector) :=
  def_ok A_is_vector.fn sc_is_vector rfl fun cdv A outer s H E hr =>
    (ss_one (s_ret (ev_and (ev_fn (fun _ => G_are_numbers) (fun _ => hr.mono (by decide)) (fun _ => A_are_numbers.g) (fun _ => A_are_numbers.fn.kp) (fun _ => A_are_numbers.b) (ea_cons (ev_name 0) (ea_cons (ev_name 1) ea_nil)) (na_cons (na_cons na_nil))) (ev_one (ev_cmp od_le (ev_callB cd_len (fun _ => T.n_len) (ea_cons (ev_name 1) ea_nil)) (ev_glob (fun _ => rfl) (fun _ => T.c_MAX_SIDE.choose_spec.1) T.c_MAX_SIDE.choose_spec.2.1 T.c_MAX_SIDE.choose_spec.2.2))))))
theorem ok_check_integer (T : Txt K mg) {f_check_integer : Addr} {d_check_integer : FuncData} (A_check_integer : DefAt K mg "check_integer" s_check_integer ["value", "least", "most"] f_check_integer d_check_integer) {f_is_integer : Addr} {d_is_integer : FuncData} (A_is_integer : DefAt K mg "is_integer" s_is_integer ["value", "least", "most"] f_is_integer d_is_integer) (G_is_integer : FnOk P w K mg base CX0 1 f_is_integer d_is_integer ["value", "least", "most"] (spM K 3 [] Lib.F_is_integer)) : FnOk P w K mg base CX0 2 f_check_integer d_check_integer ["value", "least", "most"] (spM K 3 [] Lib.F_check_integer) :=
  def_ok A_check_integer.fn sc_check_integer rfl fun cdv A outer s H E hr =>
    (ss_one (s_if (et_not (et_tru (ev_fn (fun _ => G_is_integer) (fun _ => hr.mono (by decide)) (fun _ => A_is_integer.g) (fun _ => A_is_integer.fn.kp) (fun _ => A_is_integer.b) (ea_cons (ev_name 0) (ea_cons (ev_name 1) (ea_cons (ev_name 2) ea_nil))) (na_cons (na_cons (na_cons na_nil)))))) (ss_one s_never) ss_nil))
theorem ok_check_field (T : Txt K mg) {f_check_field : Addr} {d_check_field : FuncData} (A_check_field : DefAt K mg "check_field" s_check_field ["field"] f_check_field d_check_field) {f_is_field : Addr} {d_is_field : FuncData} (A_is_field : DefAt K mg "is_field" s_is_field ["value"] f_is_field d_is_field) (G_is_field : FnOk P w K mg base CX0 2 f_is_field d_is_field ["value"] (spM K 1 [] Lib.F_is_field)) : FnOk P w K mg base CX0 3 f_check_field d_check_field ["field"] (spM K 1 [] Lib.F_check_field) :=
  def_ok A_check_field.fn sc_check_field rfl fun cdv A outer s H E hr =>
    (ss_one (s_if (et_not (et_tru (ev_fn (fun _ => G_is_field) (fun _ => hr.mono (by decide)) (fun _ => A_is_field.g) (fun _ => A_is_field.fn.kp) (fun _ => A_is_field.b) (ea_cons (ev_name 0) ea_nil) (na_cons na_nil)))) (ss_one s_never) ss_nil))
theorem ok_check_number (T : Txt K mg) {f_check_number : Addr} {d_check_number : FuncData} (A_check_number : DefAt K mg "check_number" s_check_number ["field", "number"] f_check_number d_check_number) {f_check_integer : Addr} {d_check_integer : FuncData} (A_check_integer : DefAt K mg "check_integer" s_check_integer ["value", "least", "most"] f_check_integer d_check_integer) (G_check_integer : FnOk P w K mg base CX0 2 f_check_integer d_check_integer ["value", "least", "most"] (spM K 3 [] Lib.F_check_integer)) : FnOk P w K mg base CX0 3 f_check_number d_check_number ["field", "number"] (spM K 2 [] Lib.F_check_number) :=
  def_ok A_check_number.fn sc_check_number rfl fun cdv A outer s H E hr =>
    (ss_one (s_expr (ev_fn (fun _ => G_check_integer) (fun _ => hr.mono (by decide)) (fun _ => A_check_integer.g) (fun _ => A_check_integer.fn.kp) (fun _ => A_check_integer.b) (ea_cons (ev_name 1) (ea_cons ev_int (ea_cons (ev_bin od_sub (ev_name 0) ev_int) ea_nil))) (na_cons (na_cons (na_cons na_nil))))))
theorem ok_check_vector (T : Txt K mg) {f_check_vector : Addr} {d_check_vector : FuncData} (A_check_vector : DefAt K mg "check_vector" s_check_vector ["field", "vector"] f_check_vector d_check_vector) {f_is_vector : Addr} {d_is_vector : FuncData} (A_is_vector : DefAt K mg "is_vector" s_is_vector ["field", "value"] f_is_vector d_is_vector) (G_is_vector : FnOk P w K mg base CX0 2 f_is_vector d_is_vector ["field", "value"] (spM K 2 [] Lib.F_is_vector)) : FnOk P w K mg base CX0 3 f_check_vector d_check_vector ["field", "vector"] (spM K 2 [] Lib.F_check_vector) :=
  def_ok A_check_vector.fn sc_check_vector rfl fun cdv A outer s H E hr =>
    (ss_one (s_if (et_not (et_tru (ev_fn (fun _ => G_is_vector) (fun _ => hr.mono (by decide)) (fun _ => A_is_vector.g) (fun _ => A_is_vector.fn.kp) (fun _ => A_is_vector.b) (ea_cons (ev_name 0) (ea_cons (ev_name 1) ea_nil)) (na_cons (na_cons na_nil))))) (ss_one s_never) ss_nil))
theorem ok_raised (T : Txt K mg) {f_raised : Addr} {d_raised : FuncData} (A_raised : DefAt K mg "raised" s_raised ["field", "number", "many"] f_raised d_raised) : FnOk P w K mg base CX0 1 f_raised d_raised ["field", "number", "many"] (spM K 3 [] Lib.F_raised) :=
  def_ok A_raised.fn sc_raised rfl fun cdv A outer s H E hr =>
    (ss_cons (s_set 3 ev_int (fun _ => sc_raised.nd))
    (ss_cons (s_set 4 (ev_bin od_mod (ev_name 1) (ev_name 0)) (fun _ => sc_raised.nd))
    (ss_cons (s_set 5 (ev_name 2) (fun _ => sc_raised.nd))
    (ss_cons (s_while EV.fuel (fun _ => PassesOwn.never) (et_cmp od_gt (ev_name 5) ev_int) (ss_cons (s_if (et_cmp (od_eq (fun _ => hr.units)) (ev_bin od_mod (ev_name 5) ev_int) ev_int) (ss_one (s_set 3 (ev_bin od_mod (ev_bin od_mul (ev_name 3) (ev_name 4)) (ev_name 0)) (fun _ => sc_raised.nd))) ss_nil)
    (ss_cons (s_set 4 (ev_bin od_mod (ev_bin od_mul (ev_name 4) (ev_name 4)) (ev_name 0)) (fun _ => sc_raised.nd))
    (ss_one (s_set 5 (ev_bin od_fdiv (ev_name 5) ev_int) (fun _ => sc_raised.nd))))))
    (ss_one (s_ret (ev_name 3)))))))
theorem ok_inverse (T : Txt K mg) {f_inverse : Addr} {d_inverse : FuncData} (A_inverse : DefAt K mg "inverse" s_inverse ["field", "number"] f_inverse d_inverse) {f_raised : Addr} {d_raised : FuncData} (A_raised : DefAt K mg "raised" s_raised ["field", "number", "many"] f_raised d_raised) (G_raised : FnOk P w K mg base CX0 1 f_raised d_raised ["field", "number", "many"] (spM K 3 [] Lib.F_raised)) : FnOk P w K mg base CX0 2 f_inverse d_inverse ["field", "number"] (spM K 2 [] Lib.F_inverse) :=
  def_ok A_inverse.fn sc_inverse rfl fun cdv A outer s H E hr =>
    (ss_one (s_ret (ev_fn (fun _ => G_raised) (fun _ => hr.mono (by decide)) (fun _ => A_raised.g) (fun _ => A_raised.fn.kp) (fun _ => A_raised.b) (ea_cons (ev_name 0) (ea_cons (ev_name 1) (ea_cons (ev_bin od_sub (ev_name 0) ev_int) ea_nil))) (na_cons (na_cons (na_cons na_nil))))))
theorem ok_rows_count (T : Txt K mg) {f_rows_count : Addr} {d_rows_count : FuncData} (A_rows_count : DefAt K mg "rows_count" s_rows_count ["field", "many"] f_rows_count d_rows_count) : FnOk P w K mg base CX0 1 f_rows_count d_rows_count ["field", "many"] (spM K 2 [] Lib.F_rows_count) :=
  def_ok A_rows_count.fn sc_rows_count rfl fun cdv A outer s H E hr =>
    (ss_cons (s_set 2 ev_int (fun _ => sc_rows_count.nd))
    (ss_cons (s_for (fun _ => PassesOwn.never) (fun _ => rfl) (ei_range1 (fun _ => T.n_range) (ea_cons (ev_name 1) ea_nil)) (eg_name 3 (fun _ => sc_rows_count.nd)) (ss_one (s_set 2 (ev_bin od_mul (ev_name 2) (ev_name 0)) (fun _ => sc_rows_count.nd))))
    (ss_one (s_ret (ev_name 2)))))
theorem ok_sum_of_products (T : Txt K mg) {f_sum_of_products : Addr} {d_sum_of_products : FuncData} (A_sum_of_products : DefAt K mg "sum_of_products" s_sum_of_products ["field", "one", "other"] f_sum_of_products d_sum_of_products) : FnOk P w K mg base CX0 1 f_sum_of_products d_sum_of_products ["field", "one", "other"] (spM K 3 [] Lib.F_sum_of_products) :=
  def_ok A_sum_of_products.fn sc_sum_of_products rfl fun cdv A outer s H E hr =>
    (ss_one (s_ret (ev_bin od_mod (ev_callB (cd_sum (fun _ => rfl)) (fun _ => T.n_sum) (ea_cons (ev_comp (own := [("x", 3), ("y", 4)]) (fun _ => rfl) (fun _ => sc_sum_of_products.nd) (fun _ => by show BlkOk N_sum_of_products (defScope s_sum_of_products) _ _; exact blkOk_by (by decide +kernel)) (ei_zipA (fun _ => T.n_zip) (ea_cons (ev_name 1) (ea_cons (ev_name 2) ea_nil))) (eg_tup [3, 4] (fun _ => rfl) (fun _ => (pgs_cons (pg_name (i := 3) sc_sum_of_products.nd rfl (by first | exact Or.inl rfl | exact Or.inr rfl)) (pgs_cons (pg_name (i := 4) sc_sum_of_products.nd rfl (by first | exact Or.inl rfl | exact Or.inr rfl)) pgs_nil)))) ets_nil (ev_bin od_mul (ev_name 3) (ev_name 4))) ea_nil)) (ev_name 0))))
theorem ok_weighted (T : Txt K mg) {f_weighted : Addr} {d_weighted : FuncData} (A_weighted : DefAt K mg "weighted" s_weighted ["field", "weights", "vector"] f_weighted d_weighted) {f_check_field : Addr} {d_check_field : FuncData} (A_check_field : DefAt K mg "check_field" s_check_field ["field"] f_check_field d_check_field) (G_check_field : FnOk P w K mg base CX0 3 f_check_field d_check_field ["field"] (spM K 1 [] Lib.F_check_field)) {f_check_vector : Addr} {d_check_vector : FuncData} (A_check_vector : DefAt K mg "check_vector" s_check_vector ["field", "vector"] f_check_vector d_check_vector) (G_check_vector : FnOk P w K mg base CX0 3 f_check_vector d_check_vector ["field", "vector"] (spM K 2 [] Lib.F_check_vector)) {f_sum_of_products : Addr} {d_sum_of_products : FuncData} (A_sum_of_products : DefAt K mg "sum_of_products" s_sum_of_products ["field", "one", "other"] f_sum_of_products d_sum_of_products) (G_sum_of_products : FnOk P w K mg base CX0 1 f_sum_of_products d_sum_of_products ["field", "one", "other"] (spM K 3 [] Lib.F_sum_of_products)) : FnOk P w K mg base CX0 4 f_weighted d_weighted ["field", "weights", "vector"] (spM K 3 [] Lib.F_weighted) :=
  def_ok A_weighted.fn sc_weighted rfl fun cdv A outer s H E hr =>
    (ss_cons (s_expr (ev_fn (fun _ => G_check_field) (fun _ => hr.mono (by decide)) (fun _ => A_check_field.g) (fun _ => A_check_field.fn.kp) (fun _ => A_check_field.b) (ea_cons (ev_name 0) ea_nil) (na_cons na_nil)))
    (ss_cons (s_expr (ev_fn (fun _ => G_check_vector) (fun _ => hr.mono (by decide)) (fun _ => A_check_vector.g) (fun _ => A_check_vector.fn.kp) (fun _ => A_check_vector.b) (ea_cons (ev_name 0) (ea_cons (ev_name 1) ea_nil)) (na_cons (na_cons na_nil))))
    (ss_cons (s_expr (ev_fn (fun _ => G_check_vector) (fun _ => hr.mono (by decide)) (fun _ => A_check_vector.g) (fun _ => A_check_vector.fn.kp) (fun _ => A_check_vector.b) (ea_cons (ev_name 0) (ea_cons (ev_name 2) ea_nil)) (na_cons (na_cons na_nil))))
    (ss_cons (s_if (et_cmp (od_ne (fun _ => hr.units)) (ev_callB cd_len (fun _ => T.n_len) (ea_cons (ev_name 1) ea_nil)) (ev_callB cd_len (fun _ => T.n_len) (ea_cons (ev_name 2) ea_nil))) (ss_one s_never) ss_nil)
    (ss_one (s_ret (ev_fn (fun _ => G_sum_of_products) (fun _ => hr.mono (by decide)) (fun _ => A_sum_of_products.g) (fun _ => A_sum_of_products.fn.kp) (fun _ => A_sum_of_products.b) (ea_cons (ev_name 0) (ea_cons (ev_name 1) (ea_cons (ev_name 2) ea_nil))) (na_cons (na_cons (na_cons na_nil))))))))))
theorem ok_vectors_count (T : Txt K mg) {f_vectors_count : Addr} {d_vectors_count : FuncData} (A_vectors_count : DefAt K mg "vectors_count" s_vectors_count ["field", "weights", "goal"] f_vectors_count d_vectors_count) {f_check_field : Addr} {d_check_field : FuncData} (A_check_field : DefAt K mg "check_field" s_check_field ["field"] f_check_field d_check_field) (G_check_field : FnOk P w K mg base CX0 3 f_check_field d_check_field ["field"] (spM K 1 [] Lib.F_check_field)) {f_check_vector : Addr} {d_check_vector : FuncData} (A_check_vector : DefAt K mg "check_vector" s_check_vector ["field", "vector"] f_check_vector d_check_vector) (G_check_vector : FnOk P w K mg base CX0 3 f_check_vector d_check_vector ["field", "vector"] (spM K 2 [] Lib.F_check_vector)) {f_check_number : Addr} {d_check_number : FuncData} (A_check_number : DefAt K mg "check_number" s_check_number ["field", "number"] f_check_number d_check_number) (G_check_number : FnOk P w K mg base CX0 3 f_check_number d_check_number ["field", "number"] (spM K 2 [] Lib.F_check_number)) {f_rows_count : Addr} {d_rows_count : FuncData} (A_rows_count : DefAt K mg "rows_count" s_rows_count ["field", "many"] f_rows_count d_rows_count) (G_rows_count : FnOk P w K mg base CX0 1 f_rows_count d_rows_count ["field", "many"] (spM K 2 [] Lib.F_rows_count)) : FnOk P w K mg base CX0 4 f_vectors_count d_vectors_count ["field", "weights", "goal"] (spM K 3 [] Lib.F_vectors_count) :=
  def_ok A_vectors_count.fn sc_vectors_count rfl fun cdv A outer s H E hr =>
    (ss_cons (s_expr (ev_fn (fun _ => G_check_field) (fun _ => hr.mono (by decide)) (fun _ => A_check_field.g) (fun _ => A_check_field.fn.kp) (fun _ => A_check_field.b) (ea_cons (ev_name 0) ea_nil) (na_cons na_nil)))
    (ss_cons (s_expr (ev_fn (fun _ => G_check_vector) (fun _ => hr.mono (by decide)) (fun _ => A_check_vector.g) (fun _ => A_check_vector.fn.kp) (fun _ => A_check_vector.b) (ea_cons (ev_name 0) (ea_cons (ev_name 1) ea_nil)) (na_cons (na_cons na_nil))))
    (ss_cons (s_expr (ev_fn (fun _ => G_check_number) (fun _ => hr.mono (by decide)) (fun _ => A_check_number.g) (fun _ => A_check_number.fn.kp) (fun _ => A_check_number.b) (ea_cons (ev_name 0) (ea_cons (ev_name 2) ea_nil)) (na_cons (na_cons na_nil))))
    (ss_cons (s_if (et_tru (ev_callB (cd_any (fun _ => rfl)) (fun _ => T.n_any) (ea_cons (ev_comp (own := [("weight", 3)]) (fun _ => rfl) (fun _ => sc_vectors_count.nd) (fun _ => by show BlkOk N_vectors_count (defScope s_vectors_count) _ _; exact blkOk_by (by decide +kernel)) (ei_val (ev_name 1)) (eg_name 3 (fun _ => sc_vectors_count.nd)) ets_nil (ev_cmp (od_ne (fun _ => hr.units)) (ev_name 3) ev_int)) ea_nil))) (ss_one (s_ret (ev_fn (fun _ => G_rows_count) (fun _ => hr.mono (by decide)) (fun _ => A_rows_count.g) (fun _ => A_rows_count.fn.kp) (fun _ => A_rows_count.b) (ea_cons (ev_name 0) (ea_cons (ev_bin od_sub (ev_callB cd_len (fun _ => T.n_len) (ea_cons (ev_name 1) ea_nil)) ev_int) ea_nil)) (na_cons (na_cons na_nil))))) ss_nil)
    (ss_one (s_ret (ev_if (et_cmp (od_eq (fun _ => hr.units)) (ev_name 2) ev_int) (ev_fn (fun _ => G_rows_count) (fun _ => hr.mono (by decide)) (fun _ => A_rows_count.g) (fun _ => A_rows_count.fn.kp) (fun _ => A_rows_count.b) (ea_cons (ev_name 0) (ea_cons (ev_callB cd_len (fun _ => T.n_len) (ea_cons (ev_name 1) ea_nil)) ea_nil)) (na_cons (na_cons na_nil))) ev_int)))))))
theorem ok_heavy_places (T : Txt K mg) {f_heavy_places : Addr} {d_heavy_places : FuncData} (A_heavy_places : DefAt K mg "heavy_places" s_heavy_places ["weights"] f_heavy_places d_heavy_places) : FnOk P w K mg base CX0 1 f_heavy_places d_heavy_places ["weights"] (spM K 1 [] Lib.F_heavy_places) :=
  def_ok A_heavy_places.fn sc_heavy_places rfl fun cdv A outer s H E hr =>
    (ss_one (s_ret (ev_comp (own := [("place", 1)]) (fun _ => rfl) (fun _ => sc_heavy_places.nd) (fun _ => by show BlkOk N_heavy_places (defScope s_heavy_places) _ _; exact blkOk_by (by decide +kernel)) (ei_range1 (fun _ => T.n_range) (ea_cons (ev_callB cd_len (fun _ => T.n_len) (ea_cons (ev_name 0) ea_nil)) ea_nil)) (eg_name 1 (fun _ => sc_heavy_places.nd)) (ets_one (et_cmp (od_ne (fun _ => hr.units)) (ev_ix (ev_name 0) (ev_name 1)) ev_int)) (ev_name 1))))
theorem ok_all_vectors (T : Txt K mg) {f_all_vectors : Addr} {d_all_vectors : FuncData} (A_all_vectors : DefAt K mg "all_vectors" s_all_vectors ["field", "many"] f_all_vectors d_all_vectors) : ∀ n : Nat, FnOk P w K mg base CX0 (1 + n) f_all_vectors d_all_vectors ["field", "many"] (spM K 2 [] (Lib.F_all_vectors n)) := by
  intro n
  induction n with
  | zero => exact fn_none (k := 0) A_all_vectors.fn sc_all_vectors rfl
  | succ n G_all_vectors => exact def_ok (k := 1 + n) A_all_vectors.fn sc_all_vectors rfl fun cdv A outer s H E hr =>
    (ss_cons (s_if (et_cmp od_lt (ev_name 1) ev_int) (ss_one (s_ret (ev_if (et_cmp (od_eq (fun _ => hr.units)) (ev_name 1) ev_int) (ev_comp (own := [("x", 4)]) (fun _ => rfl) (fun _ => sc_all_vectors.nd) (fun _ => by show BlkOk N_all_vectors (defScope s_all_vectors) _ _; exact blkOk_by (by decide +kernel)) (ei_range1 (fun _ => T.n_range) (ea_cons (ev_name 0) ea_nil)) (eg_name 4 (fun _ => sc_all_vectors.nd)) ets_nil (ev_tup (ea_cons (ev_name 4) ea_nil))) (ev_lst (ea_cons (ev_tup ea_nil) ea_nil))))) ss_nil)
    (ss_cons (s_set 2 (ev_fn (fun _ => G_all_vectors) (fun _ => hr.mono (by omega)) (fun _ => A_all_vectors.g) (fun _ => A_all_vectors.fn.kp) (fun _ => A_all_vectors.b) (ea_cons (ev_name 0) (ea_cons (ev_bin od_fdiv (ev_name 1) ev_int) ea_nil)) (na_cons (na_cons na_nil))) (fun _ => sc_all_vectors.nd))
    (ss_cons (s_set 3 (ev_fn (fun _ => G_all_vectors) (fun _ => hr.mono (by omega)) (fun _ => A_all_vectors.g) (fun _ => A_all_vectors.fn.kp) (fun _ => A_all_vectors.b) (ea_cons (ev_name 0) (ea_cons (ev_bin od_sub (ev_name 1) (ev_bin od_fdiv (ev_name 1) ev_int)) ea_nil)) (na_cons (na_cons na_nil))) (fun _ => sc_all_vectors.nd))
    (ss_one (s_ret (ev_comp2 (own := [("head", 5), ("tail", 6)]) (vs1 := [6]) (fun _ => rfl) (fun _ => sc_all_vectors.nd) (fun _ => by show BlkOk N_all_vectors (defScope s_all_vectors) _ _; exact blkOk_by (by decide +kernel)) (by decide) (ei_val (ev_name 2)) (eg_weak (eg_name 5 (fun _ => sc_all_vectors.nd))) ets_nil (ei_val (ev_name 3)) (eg_name 6 (fun _ => sc_all_vectors.nd)) ets_nil (ev_bin od_add (ev_name 5) (ev_name 6))))))))
theorem ok_all_lacks (T : Txt K mg) {f_all_lacks : Addr} {d_all_lacks : FuncData} (A_all_lacks : DefAt K mg "all_lacks" s_all_lacks ["field", "weights", "goal"] f_all_lacks d_all_lacks) : FnOk P w K mg base CX0 1 f_all_lacks d_all_lacks ["field", "weights", "goal"] (spM K 3 [] Lib.F_all_lacks) :=
  def_ok A_all_lacks.fn sc_all_lacks rfl fun cdv A outer s H E hr =>
    (ss_cons (s_set 3 (ev_lst (ea_cons (ev_name 2) ea_nil)) (fun _ => sc_all_lacks.nd))
    (ss_cons (s_for (fun _ => PassesOwn.never) (fun _ => rfl) (ei_val (ev_name 1)) (eg_name 4 (fun _ => sc_all_lacks.nd)) (ss_cons (s_set 5 (ev_comp (own := [("x", 6)]) (fun _ => rfl) (fun _ => sc_all_lacks.nd) (fun _ => by show BlkOk N_all_lacks (defScope s_all_lacks) _ _; exact blkOk_by (by decide +kernel)) (ei_range1 (fun _ => T.n_range) (ea_cons (ev_name 0) ea_nil)) (eg_name 6 (fun _ => sc_all_lacks.nd)) ets_nil (ev_bin od_mul (ev_name 4) (ev_name 6))) (fun _ => sc_all_lacks.nd))
    (ss_one (s_setLc2 3 (own := [("lack", 7), ("part", 8)]) (vs1 := [8]) (fun _ => rfl) (fun _ => sc_all_lacks.nd) (fun _ => by show BlkOk N_all_lacks (defScope s_all_lacks) _ _; exact blkOk_by (by decide +kernel)) (by decide) (ei_val (ev_name 3)) (eg_weak (eg_name 7 (fun _ => sc_all_lacks.nd))) ets_nil (ei_val (ev_name 5)) (eg_name 8 (fun _ => sc_all_lacks.nd)) ets_nil (ev_bin od_sub (ev_name 7) (ev_name 8))))))
    (ss_one (s_ret (ev_name 3)))))
theorem ok_solved_vectors (T : Txt K mg) {f_solved_vectors : Addr} {d_solved_vectors : FuncData} (A_solved_vectors : DefAt K mg "solved_vectors" s_solved_vectors ["field", "weights", "last", "goal"] f_solved_vectors d_solved_vectors) {f_inverse : Addr} {d_inverse : FuncData} (A_inverse : DefAt K mg "inverse" s_inverse ["field", "number"] f_inverse d_inverse) (G_inverse : FnOk P w K mg base CX0 2 f_inverse d_inverse ["field", "number"] (spM K 2 [] Lib.F_inverse)) {f_all_lacks : Addr} {d_all_lacks : FuncData} (A_all_lacks : DefAt K mg "all_lacks" s_all_lacks ["field", "weights", "goal"] f_all_lacks d_all_lacks) (G_all_lacks : FnOk P w K mg base CX0 1 f_all_lacks d_all_lacks ["field", "weights", "goal"] (spM K 3 [] Lib.F_all_lacks)) {f_all_vectors : Addr} {d_all_vectors : FuncData} (A_all_vectors : DefAt K mg "all_vectors" s_all_vectors ["field", "many"] f_all_vectors d_all_vectors) (G_all_vectors : FnOk P w K mg base CX0 9 f_all_vectors d_all_vectors ["field", "many"] (spM K 2 [] (Lib.F_all_vectors 8))) : FnOk P w K mg base CX0 10 f_solved_vectors d_solved_vectors ["field", "weights", "last", "goal"] (spM K 4 [] Lib.F_solved_vectors) :=
  def_ok A_solved_vectors.fn sc_solved_vectors rfl fun cdv A outer s H E hr =>
    (ss_cons (s_set 4 (ev_fn (fun _ => G_inverse) (fun _ => hr.mono (by decide)) (fun _ => A_inverse.g) (fun _ => A_inverse.fn.kp) (fun _ => A_inverse.b) (ea_cons (ev_name 0) (ea_cons (ev_ix (ev_name 1) (ev_name 2)) ea_nil)) (na_cons (na_cons na_nil))) (fun _ => sc_solved_vectors.nd))
    (ss_cons (s_set 5 (ev_comp (own := [("lack", 9)]) (fun _ => rfl) (fun _ => sc_solved_vectors.nd) (fun _ => by show BlkOk N_solved_vectors (defScope s_solved_vectors) _ _; exact blkOk_by (by decide +kernel)) (ei_range1 (fun _ => T.n_range) (ea_cons (ev_name 0) ea_nil)) (eg_name 9 (fun _ => sc_solved_vectors.nd)) ets_nil (ev_tup (ea_cons (ev_bin od_mod (ev_bin od_mul (ev_name 9) (ev_name 4)) (ev_name 0)) ea_nil))) (fun _ => sc_solved_vectors.nd))
    (ss_cons (s_set 6 (ev_fn (fun _ => G_all_lacks) (fun _ => hr.mono (by decide)) (fun _ => A_all_lacks.g) (fun _ => A_all_lacks.fn.kp) (fun _ => A_all_lacks.b) (ea_cons (ev_name 0) (ea_cons (ev_sl (ev_name 1) eo_none (eo_some (ev_name 2))) (ea_cons (ev_name 3) ea_nil))) (na_cons (na_cons (na_cons na_nil)))) (fun _ => sc_solved_vectors.nd))
    (ss_cons (s_setLc 7 (own := [("row", 10), ("lack", 9)]) (fun _ => rfl) (fun _ => sc_solved_vectors.nd) (fun _ => by show BlkOk N_solved_vectors (defScope s_solved_vectors) _ _; exact blkOk_by (by decide +kernel)) (ei_zipA (fun _ => T.n_zip) (ea_cons (ev_fn (fun _ => G_all_vectors) (fun _ => hr.mono (by decide)) (fun _ => A_all_vectors.g) (fun _ => A_all_vectors.fn.kp) (fun _ => A_all_vectors.b) (ea_cons (ev_name 0) (ea_cons (ev_name 2) ea_nil)) (na_cons (na_cons na_nil))) (ea_cons (ev_name 6) ea_nil))) (eg_tup [10, 9] (fun _ => rfl) (fun _ => (pgs_cons (pg_name (i := 10) sc_solved_vectors.nd rfl (by first | exact Or.inl rfl | exact Or.inr rfl)) (pgs_cons (pg_name (i := 9) sc_solved_vectors.nd rfl (by first | exact Or.inl rfl | exact Or.inr rfl)) pgs_nil)))) ets_nil (ev_bin od_add (ev_name 10) (ev_ix (ev_name 5) (ev_bin od_mod (ev_name 9) (ev_name 0)))))
    (ss_cons (s_set 8 (ev_fn (fun _ => G_all_vectors) (fun _ => hr.mono (by decide)) (fun _ => A_all_vectors.g) (fun _ => A_all_vectors.fn.kp) (fun _ => A_all_vectors.b) (ea_cons (ev_name 0) (ea_cons (ev_bin od_sub (ev_bin od_sub (ev_callB cd_len (fun _ => T.n_len) (ea_cons (ev_name 1) ea_nil)) (ev_name 2)) ev_int) ea_nil)) (na_cons (na_cons na_nil))) (fun _ => sc_solved_vectors.nd))
    (ss_one (s_ret (ev_comp2 (own := [("head", 11), ("tail", 12)]) (vs1 := [12]) (fun _ => rfl) (fun _ => sc_solved_vectors.nd) (fun _ => by show BlkOk N_solved_vectors (defScope s_solved_vectors) _ _; exact blkOk_by (by decide +kernel)) (by decide) (ei_val (ev_name 7)) (eg_weak (eg_name 11 (fun _ => sc_solved_vectors.nd))) ets_nil (ei_val (ev_name 8)) (eg_name 12 (fun _ => sc_solved_vectors.nd)) ets_nil (ev_bin od_add (ev_name 11) (ev_name 12))))))))))
theorem ok_vectors_with (T : Txt K mg) {f_vectors_with : Addr} {d_vectors_with : FuncData} (A_vectors_with : DefAt K mg "vectors_with" s_vectors_with ["field", "weights", "goal"] f_vectors_with d_vectors_with) {f_check_field : Addr} {d_check_field : FuncData} (A_check_field : DefAt K mg "check_field" s_check_field ["field"] f_check_field d_check_field) (G_check_field : FnOk P w K mg base CX0 3 f_check_field d_check_field ["field"] (spM K 1 [] Lib.F_check_field)) {f_check_vector : Addr} {d_check_vector : FuncData} (A_check_vector : DefAt K mg "check_vector" s_check_vector ["field", "vector"] f_check_vector d_check_vector) (G_check_vector : FnOk P w K mg base CX0 3 f_check_vector d_check_vector ["field", "vector"] (spM K 2 [] Lib.F_check_vector)) {f_check_number : Addr} {d_check_number : FuncData} (A_check_number : DefAt K mg "check_number" s_check_number ["field", "number"] f_check_number d_check_number) (G_check_number : FnOk P w K mg base CX0 3 f_check_number d_check_number ["field", "number"] (spM K 2 [] Lib.F_check_number)) {f_rows_count : Addr} {d_rows_count : FuncData} (A_rows_count : DefAt K mg "rows_count" s_rows_count ["field", "many"] f_rows_count d_rows_count) (G_rows_count : FnOk P w K mg base CX0 1 f_rows_count d_rows_count ["field", "many"] (spM K 2 [] Lib.F_rows_count)) {f_heavy_places : Addr} {d_heavy_places : FuncData} (A_heavy_places : DefAt K mg "heavy_places" s_heavy_places ["weights"] f_heavy_places d_heavy_places) (G_heavy_places : FnOk P w K mg base CX0 1 f_heavy_places d_heavy_places ["weights"] (spM K 1 [] Lib.F_heavy_places)) {f_solved_vectors : Addr} {d_solved_vectors : FuncData} (A_solved_vectors : DefAt K mg "solved_vectors" s_solved_vectors ["field", "weights", "last", "goal"] f_solved_vectors d_solved_vectors) (G_solved_vectors : FnOk P w K mg base CX0 10 f_solved_vectors d_solved_vectors ["field", "weights", "last", "goal"] (spM K 4 [] Lib.F_solved_vectors)) {f_all_vectors : Addr} {d_all_vectors : FuncData} (A_all_vectors : DefAt K mg "all_vectors" s_all_vectors ["field", "many"] f_all_vectors d_all_vectors) (G_all_vectors : FnOk P w K mg base CX0 9 f_all_vectors d_all_vectors ["field", "many"] (spM K 2 [] (Lib.F_all_vectors 8))) : FnOk P w K mg base CX0 11 f_vectors_with d_vectors_with ["field", "weights", "goal"] (spM K 3 [] Lib.F_vectors_with) :=
  def_ok A_vectors_with.fn sc_vectors_with rfl fun cdv A outer s H E hr =>
    (ss_cons (s_expr (ev_fn (fun _ => G_check_field) (fun _ => hr.mono (by decide)) (fun _ => A_check_field.g) (fun _ => A_check_field.fn.kp) (fun _ => A_check_field.b) (ea_cons (ev_name 0) ea_nil) (na_cons na_nil)))
    (ss_cons (s_expr (ev_fn (fun _ => G_check_vector) (fun _ => hr.mono (by decide)) (fun _ => A_check_vector.g) (fun _ => A_check_vector.fn.kp) (fun _ => A_check_vector.b) (ea_cons (ev_name 0) (ea_cons (ev_name 1) ea_nil)) (na_cons (na_cons na_nil))))
    (ss_cons (s_expr (ev_fn (fun _ => G_check_number) (fun _ => hr.mono (by decide)) (fun _ => A_check_number.g) (fun _ => A_check_number.fn.kp) (fun _ => A_check_number.b) (ea_cons (ev_name 0) (ea_cons (ev_name 2) ea_nil)) (na_cons (na_cons na_nil))))
    (ss_cons (s_if (et_cmp od_gt (ev_fn (fun _ => G_rows_count) (fun _ => hr.mono (by decide)) (fun _ => A_rows_count.g) (fun _ => A_rows_count.fn.kp) (fun _ => A_rows_count.b) (ea_cons (ev_name 0) (ea_cons (ev_callB cd_len (fun _ => T.n_len) (ea_cons (ev_name 1) ea_nil)) ea_nil)) (na_cons (na_cons na_nil))) (ev_glob (fun _ => rfl) (fun _ => T.c_MOST_LISTED.choose_spec.1) T.c_MOST_LISTED.choose_spec.2.1 T.c_MOST_LISTED.choose_spec.2.2)) (ss_one s_never) ss_nil)
    (ss_cons (s_set 3 (ev_fn (fun _ => G_heavy_places) (fun _ => hr.mono (by decide)) (fun _ => A_heavy_places.g) (fun _ => A_heavy_places.fn.kp) (fun _ => A_heavy_places.b) (ea_cons (ev_name 1) ea_nil) (na_cons na_nil)) (fun _ => sc_vectors_with.nd))
    (ss_cons (s_if (et_tru (ev_name 3)) (ss_one (s_ret (ev_callTy cd_tuple (fun _ => T.n_tuple) (ea_cons (ev_fn (fun _ => G_solved_vectors) (fun _ => hr.mono (by decide)) (fun _ => A_solved_vectors.g) (fun _ => A_solved_vectors.fn.kp) (fun _ => A_solved_vectors.b) (ea_cons (ev_name 0) (ea_cons (ev_name 1) (ea_cons (ev_ix (ev_name 3) (ev_neg ev_int)) (ea_cons (ev_name 2) ea_nil)))) (na_cons (na_cons (na_cons (na_cons na_nil))))) ea_nil)))) ss_nil)
    (ss_one (s_ret (ev_if (et_cmp (od_eq (fun _ => hr.units)) (ev_name 2) ev_int) (ev_callTy cd_tuple (fun _ => T.n_tuple) (ea_cons (ev_fn (fun _ => G_all_vectors) (fun _ => hr.mono (by decide)) (fun _ => A_all_vectors.g) (fun _ => A_all_vectors.fn.kp) (fun _ => A_all_vectors.b) (ea_cons (ev_name 0) (ea_cons (ev_callB cd_len (fun _ => T.n_len) (ea_cons (ev_name 1) ea_nil)) ea_nil)) (na_cons (na_cons na_nil))) ea_nil)) (ev_tup ea_nil))))))))))
theorem ok_moved (T : Txt K mg) {f_moved : Addr} {d_moved : FuncData} (A_moved : DefAt K mg "moved" s_moved ["field", "weights", "vector", "goal"] f_moved d_moved) {f_check_field : Addr} {d_check_field : FuncData} (A_check_field : DefAt K mg "check_field" s_check_field ["field"] f_check_field d_check_field) (G_check_field : FnOk P w K mg base CX0 3 f_check_field d_check_field ["field"] (spM K 1 [] Lib.F_check_field)) {f_check_vector : Addr} {d_check_vector : FuncData} (A_check_vector : DefAt K mg "check_vector" s_check_vector ["field", "vector"] f_check_vector d_check_vector) (G_check_vector : FnOk P w K mg base CX0 3 f_check_vector d_check_vector ["field", "vector"] (spM K 2 [] Lib.F_check_vector)) {f_check_number : Addr} {d_check_number : FuncData} (A_check_number : DefAt K mg "check_number" s_check_number ["field", "number"] f_check_number d_check_number) (G_check_number : FnOk P w K mg base CX0 3 f_check_number d_check_number ["field", "number"] (spM K 2 [] Lib.F_check_number)) {f_heavy_places : Addr} {d_heavy_places : FuncData} (A_heavy_places : DefAt K mg "heavy_places" s_heavy_places ["weights"] f_heavy_places d_heavy_places) (G_heavy_places : FnOk P w K mg base CX0 1 f_heavy_places d_heavy_places ["weights"] (spM K 1 [] Lib.F_heavy_places)) {f_sum_of_products : Addr} {d_sum_of_products : FuncData} (A_sum_of_products : DefAt K mg "sum_of_products" s_sum_of_products ["field", "one", "other"] f_sum_of_products d_sum_of_products) (G_sum_of_products : FnOk P w K mg base CX0 1 f_sum_of_products d_sum_of_products ["field", "one", "other"] (spM K 3 [] Lib.F_sum_of_products)) {f_inverse : Addr} {d_inverse : FuncData} (A_inverse : DefAt K mg "inverse" s_inverse ["field", "number"] f_inverse d_inverse) (G_inverse : FnOk P w K mg base CX0 2 f_inverse d_inverse ["field", "number"] (spM K 2 [] Lib.F_inverse)) : FnOk P w K mg base CX0 4 f_moved d_moved ["field", "weights", "vector", "goal"] (spM K 4 [] Lib.F_moved) :=
  def_ok A_moved.fn sc_moved rfl fun cdv A outer s H E hr =>
    (ss_cons (s_expr (ev_fn (fun _ => G_check_field) (fun _ => hr.mono (by decide)) (fun _ => A_check_field.g) (fun _ => A_check_field.fn.kp) (fun _ => A_check_field.b) (ea_cons (ev_name 0) ea_nil) (na_cons na_nil)))
    (ss_cons (s_expr (ev_fn (fun _ => G_check_vector) (fun _ => hr.mono (by decide)) (fun _ => A_check_vector.g) (fun _ => A_check_vector.fn.kp) (fun _ => A_check_vector.b) (ea_cons (ev_name 0) (ea_cons (ev_name 1) ea_nil)) (na_cons (na_cons na_nil))))
    (ss_cons (s_expr (ev_fn (fun _ => G_check_vector) (fun _ => hr.mono (by decide)) (fun _ => A_check_vector.g) (fun _ => A_check_vector.fn.kp) (fun _ => A_check_vector.b) (ea_cons (ev_name 0) (ea_cons (ev_name 2) ea_nil)) (na_cons (na_cons na_nil))))
    (ss_cons (s_expr (ev_fn (fun _ => G_check_number) (fun _ => hr.mono (by decide)) (fun _ => A_check_number.g) (fun _ => A_check_number.fn.kp) (fun _ => A_check_number.b) (ea_cons (ev_name 0) (ea_cons (ev_name 3) ea_nil)) (na_cons (na_cons na_nil))))
    (ss_cons (s_if (et_cmp (od_ne (fun _ => hr.units)) (ev_callB cd_len (fun _ => T.n_len) (ea_cons (ev_name 1) ea_nil)) (ev_callB cd_len (fun _ => T.n_len) (ea_cons (ev_name 2) ea_nil))) (ss_one s_never) ss_nil)
    (ss_cons (s_set 4 (ev_fn (fun _ => G_heavy_places) (fun _ => hr.mono (by decide)) (fun _ => A_heavy_places.g) (fun _ => A_heavy_places.fn.kp) (fun _ => A_heavy_places.b) (ea_cons (ev_name 1) ea_nil) (na_cons na_nil)) (fun _ => sc_moved.nd))
    (ss_cons (s_if (et_not (et_tru (ev_name 4))) (ss_one (s_ret ev_non)) ss_nil)
    (ss_cons (s_set 5 (ev_ix (ev_name 4) ev_int) (fun _ => sc_moved.nd))
    (ss_cons (s_set 6 (ev_bin od_sub (ev_name 3) (ev_fn (fun _ => G_sum_of_products) (fun _ => hr.mono (by decide)) (fun _ => A_sum_of_products.g) (fun _ => A_sum_of_products.fn.kp) (fun _ => A_sum_of_products.b) (ea_cons (ev_name 0) (ea_cons (ev_name 1) (ea_cons (ev_name 2) ea_nil))) (na_cons (na_cons (na_cons na_nil))))) (fun _ => sc_moved.nd))
    (ss_cons (s_set 7 (ev_bin od_mod (ev_bin od_add (ev_ix (ev_name 2) (ev_name 5)) (ev_bin od_mul (ev_name 6) (ev_fn (fun _ => G_inverse) (fun _ => hr.mono (by decide)) (fun _ => A_inverse.g) (fun _ => A_inverse.fn.kp) (fun _ => A_inverse.b) (ea_cons (ev_name 0) (ea_cons (ev_ix (ev_name 1) (ev_name 5)) ea_nil)) (na_cons (na_cons na_nil))))) (ev_name 0)) (fun _ => sc_moved.nd))
    (ss_one (s_ret (ev_bin od_add (ev_bin od_add (ev_sl (ev_name 2) eo_none (eo_some (ev_name 5))) (ev_tup (ea_cons (ev_name 7) ea_nil))) (ev_sl (ev_name 2) (eo_some (ev_bin od_add (ev_name 5) ev_int)) eo_none))))))))))))))
theorem ok__law_dice (T : Txt K mg) {f__law_dice : Addr} {d__law_dice : FuncData} (A__law_dice : DefAt K mg "_law_dice" s__law_dice ["script", "spot"] f__law_dice d__law_dice) : FnOk P w K mg base CX0 1 f__law_dice d__law_dice ["script", "spot"] (spM K 2 [] Lib.F__law_dice) :=
  def_ok A__law_dice.fn sc__law_dice rfl fun cdv A outer s H E hr =>
    (ss_cons (s_set 2 (ev_if (et_cmp od_lt (ev_name 1) (ev_callB cd_len (fun _ => T.n_len) (ea_cons (ev_name 0) ea_nil))) (ev_callTy cd_int (fun _ => T.n_int) (ea_cons (ev_ix (ev_name 0) (ev_name 1)) ea_nil)) (ev_bin od_add (ev_bin od_mul ev_int (ev_name 1)) ev_int)) (fun _ => sc__law_dice.nd))
    (ss_cons (s_set 3 (ev_bin od_mod (ev_callB (cd_max (fun _ => rfl)) (fun _ => T.n_max) (ea_cons ev_int (ea_cons (ev_bin od_sub (ev_callB cd_abs (fun _ => T.n_abs) (ea_cons (ev_name 2) ea_nil)) (ev_bin od_pow ev_int ev_int)) ea_nil))) (ev_bin od_mul (ev_bin od_pow ev_int ev_int) (ev_bin od_pow ev_int ev_int))) (fun _ => sc__law_dice.nd))
    (ss_one (s_ret (ev_lst (ea_cons (ev_name 3) (ea_cons (ev_bin od_add (ev_bin od_add (ev_bin od_add (ev_bin od_mul (ev_bin od_mod (ev_callB cd_abs (fun _ => T.n_abs) (ea_cons (ev_name 2) ea_nil)) ev_int) ev_int) (ev_bin od_mul ev_int (ev_name 1))) (ev_bin od_mul ev_int (ev_callTy cd_int (fun _ => T.n_int) (ea_cons (ev_cmp od_lt (ev_name 2) ev_int) ea_nil)))) ev_int) (ea_cons ev_int ea_nil))))))))
theorem ok__law_roll (T : Txt K mg) {f__law_roll : Addr} {d__law_roll : FuncData} (A__law_roll : DefAt K mg "_law_roll" s__law_roll ["dice", "most"] f__law_roll d__law_roll) : FnOk P w K mg base CX0 1 f__law_roll d__law_roll ["dice", "most"] (spM K 2 [0] Lib.F__law_roll) :=
  def_ok A__law_roll.fn sc__law_roll rfl fun cdv A outer s H E hr =>
    (ss_cons (s_if (et_cmp od_gt (ev_ix (ev_name 0) ev_int) ev_int) (ss_cons (s_set 2 (ev_bin od_mod (ev_callTy cd_int (fun _ => T.n_int) (ea_cons (ev_ix (ev_name 0) ev_int) ea_nil)) (ev_name 1)) (fun _ => sc__law_roll.nd))
    (ss_cons (s_setix 0 (ev_bin od_fdiv (ev_ix (ev_name 0) ev_int) (ev_name 1)) ev_int)
    (ss_one (s_ret (ev_name 2))))) ss_nil)
    (ss_cons (s_setix 0 (ev_bin od_add (ev_ix (ev_name 0) ev_int) ev_int) ev_int)
    (ss_cons (s_set 3 (ev_bin od_mod (ev_callTy cd_int (fun _ => T.n_int) (ea_cons (ev_bin od_add (ev_ix (ev_name 0) ev_int) (ev_bin od_mul ev_int (ev_ix (ev_name 0) ev_int))) ea_nil)) ev_int) (fun _ => sc__law_roll.nd))
    (ss_cons (s_set 4 (ev_bin od_add (ev_bin od_mul (ev_bin od_mod (ev_callTy cd_int (fun _ => T.n_int) (ea_cons (ev_bin od_add (ev_bin od_mul (ev_name 3) (ev_name 3)) (ev_bin od_mul ev_int (ev_ix (ev_name 0) ev_int))) ea_nil)) ev_int) ev_int) (ev_name 3)) (fun _ => sc__law_roll.nd))
    (ss_one (s_ret (ev_bin od_mod (ev_callTy cd_int (fun _ => T.n_int) (ea_cons (ev_bin od_fdiv (ev_name 4) ev_int) ea_nil)) (ev_name 1))))))))
theorem ok__law_pick (T : Txt K mg) {f__law_pick : Addr} {d__law_pick : FuncData} (A__law_pick : DefAt K mg "_law_pick" s__law_pick ["dice", "items"] f__law_pick d__law_pick) {f__law_roll : Addr} {d__law_roll : FuncData} (A__law_roll : DefAt K mg "_law_roll" s__law_roll ["dice", "most"] f__law_roll d__law_roll) (G__law_roll : FnOk P w K mg base CX0 1 f__law_roll d__law_roll ["dice", "most"] (spM K 2 [0] Lib.F__law_roll)) : FnOk P w K mg base CX0 2 f__law_pick d__law_pick ["dice", "items"] (spM K 2 [0] Lib.F__law_pick) :=
  def_ok A__law_pick.fn sc__law_pick rfl fun cdv A outer s H E hr =>
    (ss_one (s_ret (ev_ix (ev_name 1) (ev_fnD (fun _ => G__law_roll) (fun _ => hr.mono (by decide)) (fun _ => A__law_roll.g) (fun _ => A__law_roll.fn.kp) (fun _ => A__law_roll.b) (ea_cons (ev_name 0) (ea_cons (ev_callB cd_len (fun _ => T.n_len) (ea_cons (ev_name 1) ea_nil)) ea_nil)) (na_cons (na_cons na_nil))))))
theorem ok__law_fd_primes (T : Txt K mg) {f__law_fd_primes : Addr} {d__law_fd_primes : FuncData} (A__law_fd_primes : DefAt K mg "_law_fd_primes" s__law_fd_primes [] f__law_fd_primes d__law_fd_primes) : FnOk P w K mg base CX0 1 f__law_fd_primes d__law_fd_primes [] (spM K 0 [] Lib.F__law_fd_primes) :=
  def_ok A__law_fd_primes.fn sc__law_fd_primes rfl fun cdv A outer s H E hr =>
    (ss_one (s_ret (ev_lst (ea_cons ev_int (ea_cons ev_int (ea_cons ev_int (ea_cons ev_int (ea_cons ev_int (ea_cons ev_int (ea_cons ev_int (ea_cons ev_int (ea_cons ev_int (ea_cons ev_int (ea_cons ev_int (ea_cons ev_int ea_nil)))))))))))))))
theorem ok__law_fd_dot (T : Txt K mg) {f__law_fd_dot : Addr} {d__law_fd_dot : FuncData} (A__law_fd_dot : DefAt K mg "_law_fd_dot" s__law_fd_dot ["field_here", "one", "other"] f__law_fd_dot d__law_fd_dot) : FnOk P w K mg base CX0 1 f__law_fd_dot d__law_fd_dot ["field_here", "one", "other"] (spM K 3 [] Lib.F__law_fd_dot) :=
  def_ok A__law_fd_dot.fn sc__law_fd_dot rfl fun cdv A outer s H E hr =>
    (ss_cons (s_set 3 ev_int (fun _ => sc__law_fd_dot.nd))
    (ss_cons (s_for (fun _ => PassesOwn.never) (fun _ => rfl) (ei_zipA (fun _ => T.n_zip) (ea_cons (ev_name 1) (ea_cons (ev_name 2) ea_nil))) (eg_tup [4, 5] (fun _ => rfl) (fun _ => (pgs_cons (pg_name (i := 4) sc__law_fd_dot.nd rfl (by first | exact Or.inl rfl | exact Or.inr rfl)) (pgs_cons (pg_name (i := 5) sc__law_fd_dot.nd rfl (by first | exact Or.inl rfl | exact Or.inr rfl)) pgs_nil)))) (ss_one (s_set 3 (ev_bin od_mod (ev_bin od_add (ev_name 3) (ev_bin od_mul (ev_name 4) (ev_name 5))) (ev_name 0)) (fun _ => sc__law_fd_dot.nd))))
    (ss_one (s_ret (ev_name 3)))))
theorem ok__law_fd_times (T : Txt K mg) {f__law_fd_times : Addr} {d__law_fd_times : FuncData} (A__law_fd_times : DefAt K mg "_law_fd_times" s__law_fd_times ["base", "many"] f__law_fd_times d__law_fd_times) : FnOk P w K mg base CX0 1 f__law_fd_times d__law_fd_times ["base", "many"] (spM K 2 [] Lib.F__law_fd_times) :=
  def_ok A__law_fd_times.fn sc__law_fd_times rfl fun cdv A outer s H E hr =>
    (ss_cons (s_set 2 ev_int (fun _ => sc__law_fd_times.nd))
    (ss_cons (s_for (fun _ => PassesOwn.never) (fun _ => rfl) (ei_range1 (fun _ => T.n_range) (ea_cons (ev_name 1) ea_nil)) (eg_name 3 (fun _ => sc__law_fd_times.nd)) (ss_one (s_set 2 (ev_bin od_mul (ev_name 2) (ev_name 0)) (fun _ => sc__law_fd_times.nd))))
    (ss_one (s_ret (ev_name 2)))))
theorem ok__law_all (T : Txt K mg) {f__law_all : Addr} {d__law_all : FuncData} (A__law_all : DefAt K mg "_law_all" s__law_all ["p", "size"] f__law_all d__law_all) : FnOk P w K mg base CX0 1 f__law_all d__law_all ["p", "size"] (spM K 2 [] Lib.F__law_all) :=
  def_ok A__law_all.fn sc__law_all rfl fun cdv A outer s H E hr =>
    (ss_cons (s_set 2 (ev_lst (ea_cons (ev_tup ea_nil) ea_nil)) (fun _ => sc__law_all.nd))
    (ss_cons (s_for (fun _ => PassesOwn.never) (fun _ => rfl) (ei_range1 (fun _ => T.n_range) (ea_cons (ev_name 1) ea_nil)) (eg_name 3 (fun _ => sc__law_all.nd)) (ss_cons (s_set 4 (ev_lst ea_nil) (fun _ => sc__law_all.nd))
    (ss_cons (s_for (fun _ => PassesOwn.never) (fun _ => rfl) (ei_val (ev_callTy cd_list (fun _ => T.n_list) (ea_cons (ev_name 2) ea_nil))) (eg_name 5 (fun _ => sc__law_all.nd)) (ss_one (s_ext 4 (ev_comp (own := [("number", 6)]) (fun _ => rfl) (fun _ => sc__law_all.nd) (fun _ => by show BlkOk N__law_all (defScope s__law_all) _ _; exact blkOk_by (by decide +kernel)) (ei_range1 (fun _ => T.n_range) (ea_cons (ev_name 0) ea_nil)) (eg_name 6 (fun _ => sc__law_all.nd)) ets_nil (ev_bin od_add (ev_name 5) (ev_tup (ea_cons (ev_name 6) ea_nil)))))))
    (ss_one (s_set 2 (ev_name 4) (fun _ => sc__law_all.nd))))))
    (ss_one (s_ret (ev_name 2)))))
theorem ok__law_weights_drawn (T : Txt K mg) {f__law_weights_drawn : Addr} {d__law_weights_drawn : FuncData} (A__law_weights_drawn : DefAt K mg "_law_weights_drawn" s__law_weights_drawn ["dice", "p", "size"] f__law_weights_drawn d__law_weights_drawn) {f__law_pick : Addr} {d__law_pick : FuncData} (A__law_pick : DefAt K mg "_law_pick" s__law_pick ["dice", "items"] f__law_pick d__law_pick) (G__law_pick : FnOk P w K mg base CX0 2 f__law_pick d__law_pick ["dice", "items"] (spM K 2 [0] Lib.F__law_pick)) {f__law_roll : Addr} {d__law_roll : FuncData} (A__law_roll : DefAt K mg "_law_roll" s__law_roll ["dice", "most"] f__law_roll d__law_roll) (G__law_roll : FnOk P w K mg base CX0 1 f__law_roll d__law_roll ["dice", "most"] (spM K 2 [0] Lib.F__law_roll)) : FnOk P w K mg base CX0 3 f__law_weights_drawn d__law_weights_drawn ["dice", "p", "size"] (spM K 3 [0] Lib.F__law_weights_drawn) :=
  def_ok A__law_weights_drawn.fn sc__law_weights_drawn rfl fun cdv A outer s H E hr =>
    (ss_one (s_ret (ev_callTy cd_tuple (fun _ => T.n_tuple) (ea_cons (ev_comp (own := [("turn", 3)]) (fun _ => rfl) (fun _ => sc__law_weights_drawn.nd) (fun _ => by show BlkOk N__law_weights_drawn (defScope s__law_weights_drawn) _ _; exact blkOk_by (by decide +kernel)) (ei_range1 (fun _ => T.n_range) (ea_cons (ev_name 2) ea_nil)) (eg_name 3 (fun _ => sc__law_weights_drawn.nd)) ets_nil (ev_fnD (fun _ => G__law_pick) (fun _ => hr.mono (by decide)) (fun _ => A__law_pick.g) (fun _ => A__law_pick.fn.kp) (fun _ => A__law_pick.b) (ea_cons (ev_name 0) (ea_cons (ev_lst (ea_cons ev_int (ea_cons ev_int (ea_cons ev_int (ea_cons (ev_bin od_sub (ev_name 1) ev_int) (ea_cons (ev_fnD (fun _ => G__law_roll) (fun _ => hr.mono (by decide)) (fun _ => A__law_roll.g) (fun _ => A__law_roll.fn.kp) (fun _ => A__law_roll.b) (ea_cons (ev_name 0) (ea_cons (ev_name 1) ea_nil)) (na_cons (na_cons na_nil))) ea_nil)))))) ea_nil)) (na_cons (na_cons na_nil)))) ea_nil))))
theorem ok__law_small_right (T : Txt K mg) {f__law_small_right : Addr} {d__law_small_right : FuncData} (A__law_small_right : DefAt K mg "_law_small_right" s__law_small_right ["dice"] f__law_small_right d__law_small_right) {f__law_pick : Addr} {d__law_pick : FuncData} (A__law_pick : DefAt K mg "_law_pick" s__law_pick ["dice", "items"] f__law_pick d__law_pick) (G__law_pick : FnOk P w K mg base CX0 2 f__law_pick d__law_pick ["dice", "items"] (spM K 2 [0] Lib.F__law_pick)) {f__law_roll : Addr} {d__law_roll : FuncData} (A__law_roll : DefAt K mg "_law_roll" s__law_roll ["dice", "most"] f__law_roll d__law_roll) (G__law_roll : FnOk P w K mg base CX0 1 f__law_roll d__law_roll ["dice", "most"] (spM K 2 [0] Lib.F__law_roll)) {f__law_weights_drawn : Addr} {d__law_weights_drawn : FuncData} (A__law_weights_drawn : DefAt K mg "_law_weights_drawn" s__law_weights_drawn ["dice", "p", "size"] f__law_weights_drawn d__law_weights_drawn) (G__law_weights_drawn : FnOk P w K mg base CX0 3 f__law_weights_drawn d__law_weights_drawn ["dice", "p", "size"] (spM K 3 [0] Lib.F__law_weights_drawn)) {f__law_all : Addr} {d__law_all : FuncData} (A__law_all : DefAt K mg "_law_all" s__law_all ["p", "size"] f__law_all d__law_all) (G__law_all : FnOk P w K mg base CX0 1 f__law_all d__law_all ["p", "size"] (spM K 2 [] Lib.F__law_all)) {f__law_fd_dot : Addr} {d__law_fd_dot : FuncData} (A__law_fd_dot : DefAt K mg "_law_fd_dot" s__law_fd_dot ["field_here", "one", "other"] f__law_fd_dot d__law_fd_dot) (G__law_fd_dot : FnOk P w K mg base CX0 1 f__law_fd_dot d__law_fd_dot ["field_here", "one", "other"] (spM K 3 [] Lib.F__law_fd_dot)) {f_vectors_count : Addr} {d_vectors_count : FuncData} (A_vectors_count : DefAt K mg "vectors_count" s_vectors_count ["field", "weights", "goal"] f_vectors_count d_vectors_count) (G_vectors_count : FnOk P w K mg base CX0 4 f_vectors_count d_vectors_count ["field", "weights", "goal"] (spM K 3 [] Lib.F_vectors_count)) {f_vectors_with : Addr} {d_vectors_with : FuncData} (A_vectors_with : DefAt K mg "vectors_with" s_vectors_with ["field", "weights", "goal"] f_vectors_with d_vectors_with) (G_vectors_with : FnOk P w K mg base CX0 11 f_vectors_with d_vectors_with ["field", "weights", "goal"] (spM K 3 [] Lib.F_vectors_with)) {f_moved : Addr} {d_moved : FuncData} (A_moved : DefAt K mg "moved" s_moved ["field", "weights", "vector", "goal"] f_moved d_moved) (G_moved : FnOk P w K mg base CX0 4 f_moved d_moved ["field", "weights", "vector", "goal"] (spM K 4 [] Lib.F_moved)) : FnOk P w K mg base CX0 12 f__law_small_right d__law_small_right ["dice"] (spM K 1 [0] F__law_small_right) :=
  def_ok A__law_small_right.fn sc__law_small_right rfl fun cdv A outer s H E hr =>
    (ss_cons (s_set 1 (ev_fnD (fun _ => G__law_pick) (fun _ => hr.mono (by decide)) (fun _ => A__law_pick.g) (fun _ => A__law_pick.fn.kp) (fun _ => A__law_pick.b) (ea_cons (ev_name 0) (ea_cons (ev_lst (ea_cons ev_int (ea_cons ev_int (ea_cons ev_int ea_nil)))) ea_nil)) (na_cons (na_cons na_nil))) (fun _ => sc__law_small_right.nd))
    (ss_cons (s_set 2 (ev_fnD (fun _ => G__law_roll) (fun _ => hr.mono (by decide)) (fun _ => A__law_roll.g) (fun _ => A__law_roll.fn.kp) (fun _ => A__law_roll.b) (ea_cons (ev_name 0) (ea_cons (ev_if (et_cmp (od_eq (fun _ => hr.units)) (ev_name 1) ev_int) ev_int ev_int) ea_nil)) (na_cons (na_cons na_nil))) (fun _ => sc__law_small_right.nd))
    (ss_cons (s_set 3 (ev_fnD (fun _ => G__law_weights_drawn) (fun _ => hr.mono (by decide)) (fun _ => A__law_weights_drawn.g) (fun _ => A__law_weights_drawn.fn.kp) (fun _ => A__law_weights_drawn.b) (ea_cons (ev_name 0) (ea_cons (ev_name 1) (ea_cons (ev_name 2) ea_nil))) (na_cons (na_cons (na_cons na_nil)))) (fun _ => sc__law_small_right.nd))
    (ss_grp 4 5 (own := [("goal", 8)]) (fun _ => rfl) (fun _ => T.n_dict) (fun _ => sc__law_small_right.nd) (ev_fn (fun _ => G__law_all) (fun _ => hr.mono (by decide)) (fun _ => A__law_all.g) (fun _ => A__law_all.fn.kp) (fun _ => A__law_all.b) (ea_cons (ev_name 1) (ea_cons (ev_name 2) ea_nil)) (na_cons (na_cons na_nil))) (fun _ => by show BlkOk N__law_small_right (defScope s__law_small_right) _ _; exact blkOk_by (by decide +kernel)) (ei_range1 (fun _ => T.n_range) (ea_cons (ev_name 1) ea_nil)) (eg_name 8 (fun _ => sc__law_small_right.nd)) ets_nil (ev_name 8)
    (ss_cons (s_for (fun _ => PassesOwn.never) (fun _ => rfl) (ei_val (ev_name 4)) (eg_name 6 (fun _ => sc__law_small_right.nd)) (ss_one (s_gapp 5 (fun _ => hr.units) (ev_fn (fun _ => G__law_fd_dot) (fun _ => hr.mono (by decide)) (fun _ => A__law_fd_dot.g) (fun _ => A__law_fd_dot.fn.kp) (fun _ => A__law_fd_dot.b) (ea_cons (ev_name 1) (ea_cons (ev_name 3) (ea_cons (ev_name 6) ea_nil))) (na_cons (na_cons (na_cons na_nil)))) (ev_name 6))))
    (ss_cons (s_set 7 (ev_cmp (od_eq (fun _ => hr.units)) (ev_comp (own := [("weight", 12)]) (fun _ => rfl) (fun _ => sc__law_small_right.nd) (fun _ => by show BlkOk N__law_small_right (defScope s__law_small_right) _ _; exact blkOk_by (by decide +kernel)) (ei_val (ev_name 3)) (eg_name 12 (fun _ => sc__law_small_right.nd)) (ets_one (et_cmp (od_ne (fun _ => hr.units)) (ev_name 12) ev_int)) (ev_name 12)) (ev_lst ea_nil)) (fun _ => sc__law_small_right.nd))
    (ss_cons (s_for (fun _ => PassesOwn.never) (fun _ => rfl) (ei_range1 (fun _ => T.n_range) (ea_cons (ev_name 1) ea_nil)) (eg_name 8 (fun _ => sc__law_small_right.nd)) (ss_cons (s_if (et_cmp (od_ne (fun _ => hr.units)) (ev_fn (fun _ => G_vectors_count) (fun _ => hr.mono (by decide)) (fun _ => A_vectors_count.g) (fun _ => A_vectors_count.fn.kp) (fun _ => A_vectors_count.b) (ea_cons (ev_name 1) (ea_cons (ev_name 3) (ea_cons (ev_name 8) ea_nil))) (na_cons (na_cons (na_cons na_nil)))) (ev_callB cd_len (fun _ => T.n_len) (ea_cons (ev_dix (fun _ => hr.units) (ev_nameG 5) (ev_name 8)) ea_nil))) (ss_one (s_ret ev_bl)) ss_nil)
    (ss_one (s_if (et_w (ew_and (et_not (et_tru (ev_name 7))) (ew_and1 (et_cmp (od_ne (fun _ => hr.units)) (ev_bin od_mul (ev_callB cd_len (fun _ => T.n_len) (ea_cons (ev_dix (fun _ => hr.units) (ev_nameG 5) (ev_name 8)) ea_nil)) (ev_name 1)) (ev_callB cd_len (fun _ => T.n_len) (ea_cons (ev_name 4) ea_nil)))))) (ss_one (s_ret ev_bl)) ss_nil))))
    (ss_cons (s_parT [9, 10] (ea_cons (ev_fnD (fun _ => G__law_roll) (fun _ => hr.mono (by decide)) (fun _ => A__law_roll.g) (fun _ => A__law_roll.fn.kp) (fun _ => A__law_roll.b) (ea_cons (ev_name 0) (ea_cons (ev_name 1) ea_nil)) (na_cons (na_cons na_nil))) (ea_cons (ev_fnD (fun _ => G__law_roll) (fun _ => hr.mono (by decide)) (fun _ => A__law_roll.g) (fun _ => A__law_roll.fn.kp) (fun _ => A__law_roll.b) (ea_cons (ev_name 0) (ea_cons (ev_name 1) ea_nil)) (na_cons (na_cons na_nil))) ea_nil)) (fun _ => rfl) (fun _ => (pgs_cons (pg_name (i := 9) sc__law_small_right.nd rfl (by first | exact Or.inl rfl | exact Or.inr rfl)) (pgs_cons (pg_name (i := 10) sc__law_small_right.nd rfl (by first | exact Or.inl rfl | exact Or.inr rfl)) pgs_nil))))
    (ss_cons (s_if (et_w (ew_or (et_cmp (od_ne (fun _ => hr.units)) (ev_fn (fun _ => G_vectors_with) (fun _ => hr.mono (by decide)) (fun _ => A_vectors_with.g) (fun _ => A_vectors_with.fn.kp) (fun _ => A_vectors_with.b) (ea_cons (ev_name 1) (ea_cons (ev_name 3) (ea_cons (ev_name 9) ea_nil))) (na_cons (na_cons (na_cons na_nil)))) (ev_callTy cd_tuple (fun _ => T.n_tuple) (ea_cons (ev_dix (fun _ => hr.units) (ev_nameG 5) (ev_name 9)) ea_nil))) (ew_or1 (et_cmp (od_ne (fun _ => hr.units)) (ev_fn (fun _ => G_vectors_with) (fun _ => hr.mono (by decide)) (fun _ => A_vectors_with.g) (fun _ => A_vectors_with.fn.kp) (fun _ => A_vectors_with.b) (ea_cons (ev_name 1) (ea_cons (ev_name 3) (ea_cons (ev_name 10) ea_nil))) (na_cons (na_cons (na_cons na_nil)))) (ev_callTy cd_tuple (fun _ => T.n_tuple) (ea_cons (ev_dix (fun _ => hr.units) (ev_nameG 5) (ev_name 10)) ea_nil)))))) (ss_one (s_ret ev_bl)) ss_nil)
    (ss_cons (s_setLc 11 (own := [("vector", 6)]) (fun _ => rfl) (fun _ => sc__law_small_right.nd) (fun _ => by show BlkOk N__law_small_right (defScope s__law_small_right) _ _; exact blkOk_by (by decide +kernel)) (ei_val (ev_dix (fun _ => hr.units) (ev_nameG 5) (ev_name 9))) (eg_name 6 (fun _ => sc__law_small_right.nd)) ets_nil (ev_fn (fun _ => G_moved) (fun _ => hr.mono (by decide)) (fun _ => A_moved.g) (fun _ => A_moved.fn.kp) (fun _ => A_moved.b) (ea_cons (ev_name 1) (ea_cons (ev_name 3) (ea_cons (ev_name 6) (ea_cons (ev_name 10) ea_nil)))) (na_cons (na_cons (na_cons (na_cons na_nil))))))
    (ss_cons (s_if (et_tru (ev_name 7)) (ss_one (s_ret (ev_cmp (od_eq (fun _ => hr.units)) (ev_name 11) (ev_repL (ev_lst (ea_cons ev_non ea_nil)) (ev_callB cd_len (fun _ => T.n_len) (ea_cons (ev_dix (fun _ => hr.units) (ev_nameG 5) (ev_name 9)) ea_nil)))))) ss_nil)
    (ss_cons (s_if (et_cmp (od_ne (fun _ => hr.units)) (ev_callB (cd_sortedB (fun _ => hr.units)) (fun _ => T.n_sorted) (ea_cons (ev_name 11) ea_nil)) (ev_dix (fun _ => hr.units) (ev_nameG 5) (ev_name 10))) (ss_one (s_ret ev_bl)) ss_nil)
    (ss_one (s_ret (ev_cmp (od_eq (fun _ => hr.units)) (ev_comp (own := [("vector", 6)]) (fun _ => rfl) (fun _ => sc__law_small_right.nd) (fun _ => by show BlkOk N__law_small_right (defScope s__law_small_right) _ _; exact blkOk_by (by decide +kernel)) (ei_val (ev_name 11)) (eg_name 6 (fun _ => sc__law_small_right.nd)) ets_nil (ev_fn (fun _ => G_moved) (fun _ => hr.mono (by decide)) (fun _ => A_moved.g) (fun _ => A_moved.fn.kp) (fun _ => A_moved.b) (ea_cons (ev_name 1) (ea_cons (ev_name 3) (ea_cons (ev_name 6) (ea_cons (ev_name 9) ea_nil)))) (na_cons (na_cons (na_cons (na_cons na_nil)))))) (ev_dix (fun _ => hr.units) (ev_nameG 5) (ev_name 9)))))))))))))))))
theorem ok__law_great_right (T : Txt K mg) {f__law_great_right : Addr} {d__law_great_right : FuncData} (A__law_great_right : DefAt K mg "_law_great_right" s__law_great_right ["dice"] f__law_great_right d__law_great_right) {f__law_pick : Addr} {d__law_pick : FuncData} (A__law_pick : DefAt K mg "_law_pick" s__law_pick ["dice", "items"] f__law_pick d__law_pick) (G__law_pick : FnOk P w K mg base CX0 2 f__law_pick d__law_pick ["dice", "items"] (spM K 2 [0] Lib.F__law_pick)) {f__law_fd_primes : Addr} {d__law_fd_primes : FuncData} (A__law_fd_primes : DefAt K mg "_law_fd_primes" s__law_fd_primes [] f__law_fd_primes d__law_fd_primes) (G__law_fd_primes : FnOk P w K mg base CX0 1 f__law_fd_primes d__law_fd_primes [] (spM K 0 [] Lib.F__law_fd_primes)) {f__law_weights_drawn : Addr} {d__law_weights_drawn : FuncData} (A__law_weights_drawn : DefAt K mg "_law_weights_drawn" s__law_weights_drawn ["dice", "p", "size"] f__law_weights_drawn d__law_weights_drawn) (G__law_weights_drawn : FnOk P w K mg base CX0 3 f__law_weights_drawn d__law_weights_drawn ["dice", "p", "size"] (spM K 3 [0] Lib.F__law_weights_drawn)) {f__law_roll : Addr} {d__law_roll : FuncData} (A__law_roll : DefAt K mg "_law_roll" s__law_roll ["dice", "most"] f__law_roll d__law_roll) (G__law_roll : FnOk P w K mg base CX0 1 f__law_roll d__law_roll ["dice", "most"] (spM K 2 [0] Lib.F__law_roll)) {f_weighted : Addr} {d_weighted : FuncData} (A_weighted : DefAt K mg "weighted" s_weighted ["field", "weights", "vector"] f_weighted d_weighted) (G_weighted : FnOk P w K mg base CX0 4 f_weighted d_weighted ["field", "weights", "vector"] (spM K 3 [] Lib.F_weighted)) {f__law_fd_dot : Addr} {d__law_fd_dot : FuncData} (A__law_fd_dot : DefAt K mg "_law_fd_dot" s__law_fd_dot ["field_here", "one", "other"] f__law_fd_dot d__law_fd_dot) (G__law_fd_dot : FnOk P w K mg base CX0 1 f__law_fd_dot d__law_fd_dot ["field_here", "one", "other"] (spM K 3 [] Lib.F__law_fd_dot)) {f__law_fd_times : Addr} {d__law_fd_times : FuncData} (A__law_fd_times : DefAt K mg "_law_fd_times" s__law_fd_times ["base", "many"] f__law_fd_times d__law_fd_times) (G__law_fd_times : FnOk P w K mg base CX0 1 f__law_fd_times d__law_fd_times ["base", "many"] (spM K 2 [] Lib.F__law_fd_times)) {f_vectors_count : Addr} {d_vectors_count : FuncData} (A_vectors_count : DefAt K mg "vectors_count" s_vectors_count ["field", "weights", "goal"] f_vectors_count d_vectors_count) (G_vectors_count : FnOk P w K mg base CX0 4 f_vectors_count d_vectors_count ["field", "weights", "goal"] (spM K 3 [] Lib.F_vectors_count)) {f_moved : Addr} {d_moved : FuncData} (A_moved : DefAt K mg "moved" s_moved ["field", "weights", "vector", "goal"] f_moved d_moved) (G_moved : FnOk P w K mg base CX0 4 f_moved d_moved ["field", "weights", "vector", "goal"] (spM K 4 [] Lib.F_moved)) : FnOk P w K mg base CX0 5 f__law_great_right d__law_great_right ["dice"] (spM K 1 [0] Lib.F__law_great_right) :=
  def_ok A__law_great_right.fn sc__law_great_right rfl fun cdv A outer s H E hr =>
    (ss_cons (s_parT [1, 2] (ea_cons (ev_fnD (fun _ => G__law_pick) (fun _ => hr.mono (by decide)) (fun _ => A__law_pick.g) (fun _ => A__law_pick.fn.kp) (fun _ => A__law_pick.b) (ea_cons (ev_name 0) (ea_cons (ev_fn0 (fun _ => G__law_fd_primes) (fun _ => hr.mono (by decide)) (fun _ => A__law_fd_primes.g) (fun _ => A__law_fd_primes.fn.kp) (fun _ => A__law_fd_primes.b)) ea_nil)) (na_cons (na_cons na_nil))) (ea_cons (ev_fnD (fun _ => G__law_pick) (fun _ => hr.mono (by decide)) (fun _ => A__law_pick.g) (fun _ => A__law_pick.fn.kp) (fun _ => A__law_pick.b) (ea_cons (ev_name 0) (ea_cons (ev_lst (ea_cons ev_int (ea_cons ev_int (ea_cons ev_int (ea_cons ev_int (ea_cons ev_int ea_nil)))))) ea_nil)) (na_cons (na_cons na_nil))) ea_nil)) (fun _ => rfl) (fun _ => (pgs_cons (pg_name (i := 1) sc__law_great_right.nd rfl (by first | exact Or.inl rfl | exact Or.inr rfl)) (pgs_cons (pg_name (i := 2) sc__law_great_right.nd rfl (by first | exact Or.inl rfl | exact Or.inr rfl)) pgs_nil))))
    (ss_cons (s_set 3 (ev_fnD (fun _ => G__law_weights_drawn) (fun _ => hr.mono (by decide)) (fun _ => A__law_weights_drawn.g) (fun _ => A__law_weights_drawn.fn.kp) (fun _ => A__law_weights_drawn.b) (ea_cons (ev_name 0) (ea_cons (ev_name 1) (ea_cons (ev_name 2) ea_nil))) (na_cons (na_cons (na_cons na_nil)))) (fun _ => sc__law_great_right.nd))
    (ss_cons (s_parT [4, 5] (ea_cons (ev_callTy cd_tuple (fun _ => T.n_tuple) (ea_cons (ev_comp (own := [("turn", 10)]) (fun _ => rfl) (fun _ => sc__law_great_right.nd) (fun _ => by show BlkOk N__law_great_right (defScope s__law_great_right) _ _; exact blkOk_by (by decide +kernel)) (ei_range1 (fun _ => T.n_range) (ea_cons (ev_name 2) ea_nil)) (eg_name 10 (fun _ => sc__law_great_right.nd)) ets_nil (ev_fnD (fun _ => G__law_roll) (fun _ => hr.mono (by decide)) (fun _ => A__law_roll.g) (fun _ => A__law_roll.fn.kp) (fun _ => A__law_roll.b) (ea_cons (ev_name 0) (ea_cons (ev_name 1) ea_nil)) (na_cons (na_cons na_nil)))) ea_nil)) (ea_cons (ev_fnD (fun _ => G__law_roll) (fun _ => hr.mono (by decide)) (fun _ => A__law_roll.g) (fun _ => A__law_roll.fn.kp) (fun _ => A__law_roll.b) (ea_cons (ev_name 0) (ea_cons (ev_name 1) ea_nil)) (na_cons (na_cons na_nil))) ea_nil)) (fun _ => rfl) (fun _ => (pgs_cons (pg_name (i := 4) sc__law_great_right.nd rfl (by first | exact Or.inl rfl | exact Or.inr rfl)) (pgs_cons (pg_name (i := 5) sc__law_great_right.nd rfl (by first | exact Or.inl rfl | exact Or.inr rfl)) pgs_nil))))
    (ss_cons (s_if (et_cmp (od_ne (fun _ => hr.units)) (ev_fn (fun _ => G_weighted) (fun _ => hr.mono (by decide)) (fun _ => A_weighted.g) (fun _ => A_weighted.fn.kp) (fun _ => A_weighted.b) (ea_cons (ev_name 1) (ea_cons (ev_name 3) (ea_cons (ev_name 4) ea_nil))) (na_cons (na_cons (na_cons na_nil)))) (ev_fn (fun _ => G__law_fd_dot) (fun _ => hr.mono (by decide)) (fun _ => A__law_fd_dot.g) (fun _ => A__law_fd_dot.fn.kp) (fun _ => A__law_fd_dot.b) (ea_cons (ev_name 1) (ea_cons (ev_name 3) (ea_cons (ev_name 4) ea_nil))) (na_cons (na_cons (na_cons na_nil))))) (ss_one (s_ret ev_bl)) ss_nil)
    (ss_cons (s_setLc 6 (own := [("at", 11)]) (fun _ => rfl) (fun _ => sc__law_great_right.nd) (fun _ => by show BlkOk N__law_great_right (defScope s__law_great_right) _ _; exact blkOk_by (by decide +kernel)) (ei_range1 (fun _ => T.n_range) (ea_cons (ev_name 2) ea_nil)) (eg_name 11 (fun _ => sc__law_great_right.nd)) (ets_one (et_cmp (od_ne (fun _ => hr.units)) (ev_ix (ev_name 3) (ev_name 11)) ev_int)) (ev_name 11))
    (ss_cons (s_set 7 (ev_if (et_cmp (od_ne (fun _ => hr.units)) (ev_name 6) (ev_lst ea_nil)) (ev_fn (fun _ => G__law_fd_times) (fun _ => hr.mono (by decide)) (fun _ => A__law_fd_times.g) (fun _ => A__law_fd_times.fn.kp) (fun _ => A__law_fd_times.b) (ea_cons (ev_name 1) (ea_cons (ev_bin od_sub (ev_name 2) ev_int) ea_nil)) (na_cons (na_cons na_nil))) (ev_if (et_cmp (od_eq (fun _ => hr.units)) (ev_name 5) ev_int) (ev_fn (fun _ => G__law_fd_times) (fun _ => hr.mono (by decide)) (fun _ => A__law_fd_times.g) (fun _ => A__law_fd_times.fn.kp) (fun _ => A__law_fd_times.b) (ea_cons (ev_name 1) (ea_cons (ev_name 2) ea_nil)) (na_cons (na_cons na_nil))) ev_int)) (fun _ => sc__law_great_right.nd))
    (ss_cons (s_if (et_cmp (od_ne (fun _ => hr.units)) (ev_fn (fun _ => G_vectors_count) (fun _ => hr.mono (by decide)) (fun _ => A_vectors_count.g) (fun _ => A_vectors_count.fn.kp) (fun _ => A_vectors_count.b) (ea_cons (ev_name 1) (ea_cons (ev_name 3) (ea_cons (ev_name 5) ea_nil))) (na_cons (na_cons (na_cons na_nil)))) (ev_name 7)) (ss_one (s_ret ev_bl)) ss_nil)
    (ss_cons (s_set 8 (ev_fn (fun _ => G_moved) (fun _ => hr.mono (by decide)) (fun _ => A_moved.g) (fun _ => A_moved.fn.kp) (fun _ => A_moved.b) (ea_cons (ev_name 1) (ea_cons (ev_name 3) (ea_cons (ev_name 4) (ea_cons (ev_name 5) ea_nil)))) (na_cons (na_cons (na_cons (na_cons na_nil))))) (fun _ => sc__law_great_right.nd))
    (ss_cons (s_if (et_cmp (od_eq (fun _ => hr.units)) (ev_name 6) (ev_lst ea_nil)) (ss_one (s_ret (ev_cmp od_is (ev_name 8) ev_non))) ss_nil)
    (ss_cons (s_setLc 9 (own := [("at", 11)]) (fun _ => rfl) (fun _ => sc__law_great_right.nd) (fun _ => by show BlkOk N__law_great_right (defScope s__law_great_right) _ _; exact blkOk_by (by decide +kernel)) (ei_range1 (fun _ => T.n_range) (ea_cons (ev_name 2) ea_nil)) (eg_name 11 (fun _ => sc__law_great_right.nd)) (ets_one (et_cmp (od_ne (fun _ => hr.units)) (ev_ix (ev_name 8) (ev_name 11)) (ev_ix (ev_name 4) (ev_name 11)))) (ev_name 11))
    (ss_one (s_ret (ev_and (ev_cmp (od_eq (fun _ => hr.units)) (ev_fn (fun _ => G__law_fd_dot) (fun _ => hr.mono (by decide)) (fun _ => A__law_fd_dot.g) (fun _ => A__law_fd_dot.fn.kp) (fun _ => A__law_fd_dot.b) (ea_cons (ev_name 1) (ea_cons (ev_name 3) (ea_cons (ev_name 8) ea_nil))) (na_cons (na_cons (na_cons na_nil)))) (ev_name 5)) (ev_and (ev_cmp (od_inDd (fun _ => hr.units)) (ev_name 9) (ev_tup (ea_cons (ev_lst ea_nil) (ea_cons (ev_sl (ev_name 6) eo_none (eo_some ev_int)) ea_nil)))) (ev_one (ev_cmp (od_eq (fun _ => hr.units)) (ev_callB cd_len (fun _ => T.n_len) (ea_cons (ev_name 8) ea_nil)) (ev_name 2)))))))))))))))))
theorem ok_law (T : Txt K mg) {f_law : Addr} {d_law : FuncData} (A_law : DefAt K mg "law" s_law ["script"] f_law d_law) {f__law_dice : Addr} {d__law_dice : FuncData} (A__law_dice : DefAt K mg "_law_dice" s__law_dice ["script", "spot"] f__law_dice d__law_dice) (G__law_dice : FnOk P w K mg base CX0 1 f__law_dice d__law_dice ["script", "spot"] (spM K 2 [] Lib.F__law_dice)) {f__law_small_right : Addr} {d__law_small_right : FuncData} (A__law_small_right : DefAt K mg "_law_small_right" s__law_small_right ["dice"] f__law_small_right d__law_small_right) (G__law_small_right : FnOk P w K mg base CX0 12 f__law_small_right d__law_small_right ["dice"] (spM K 1 [0] F__law_small_right)) {f__law_great_right : Addr} {d__law_great_right : FuncData} (A__law_great_right : DefAt K mg "_law_great_right" s__law_great_right ["dice"] f__law_great_right d__law_great_right) (G__law_great_right : FnOk P w K mg base CX0 5 f__law_great_right d__law_great_right ["dice"] (spM K 1 [0] Lib.F__law_great_right)) {f_weighted : Addr} {d_weighted : FuncData} (A_weighted : DefAt K mg "weighted" s_weighted ["field", "weights", "vector"] f_weighted d_weighted) (G_weighted : FnOk P w K mg base CX0 4 f_weighted d_weighted ["field", "weights", "vector"] (spM K 3 [] Lib.F_weighted)) {f_vectors_count : Addr} {d_vectors_count : FuncData} (A_vectors_count : DefAt K mg "vectors_count" s_vectors_count ["field", "weights", "goal"] f_vectors_count d_vectors_count) (G_vectors_count : FnOk P w K mg base CX0 4 f_vectors_count d_vectors_count ["field", "weights", "goal"] (spM K 3 [] Lib.F_vectors_count)) {f_vectors_with : Addr} {d_vectors_with : FuncData} (A_vectors_with : DefAt K mg "vectors_with" s_vectors_with ["field", "weights", "goal"] f_vectors_with d_vectors_with) (G_vectors_with : FnOk P w K mg base CX0 11 f_vectors_with d_vectors_with ["field", "weights", "goal"] (spM K 3 [] Lib.F_vectors_with)) {f_moved : Addr} {d_moved : FuncData} (A_moved : DefAt K mg "moved" s_moved ["field", "weights", "vector", "goal"] f_moved d_moved) (G_moved : FnOk P w K mg base CX0 4 f_moved d_moved ["field", "weights", "vector", "goal"] (spM K 4 [] Lib.F_moved)) : FnOk P w K mg base CX0 13 f_law d_law ["script"] (spM K 1 [] F_law) :=
  def_ok A_law.fn sc_law rfl fun cdv A outer s H E hr =>
    (ss_cons (s_for (fun _ => PassesOwn.never) (fun _ => rfl) (ei_range1 (fun _ => T.n_range) (ea_cons (ev_callB (cd_max (fun _ => rfl)) (fun _ => T.n_max) (ea_cons ev_int (ea_cons (ev_callB (cd_min (fun _ => rfl)) (fun _ => T.n_min) (ea_cons ev_int (ea_cons (ev_callB cd_len (fun _ => T.n_len) (ea_cons (ev_name 0) ea_nil)) ea_nil))) ea_nil))) ea_nil)) (eg_name 1 (fun _ => sc_law.nd)) (ss_cons (s_set 2 (ev_fn (fun _ => G__law_dice) (fun _ => hr.mono (by decide)) (fun _ => A__law_dice.g) (fun _ => A__law_dice.fn.kp) (fun _ => A__law_dice.b) (ea_cons (ev_name 0) (ea_cons (ev_name 1) ea_nil)) (na_cons (na_cons na_nil))) (fun _ => sc_law.nd))
    (ss_one (s_if (et_w (ew_or (et_not (et_tru (ev_fnD (fun _ => G__law_small_right) (fun _ => hr.mono (by decide)) (fun _ => A__law_small_right.g) (fun _ => A__law_small_right.fn.kp) (fun _ => A__law_small_right.b) (ea_cons (ev_name 2) ea_nil) (na_cons na_nil)))) (ew_or (et_not (et_tru (ev_fnD (fun _ => G__law_great_right) (fun _ => hr.mono (by decide)) (fun _ => A__law_great_right.g) (fun _ => A__law_great_right.fn.kp) (fun _ => A__law_great_right.b) (ea_cons (ev_name 2) ea_nil) (na_cons na_nil)))) (ew_or1 (et_not (et_tru (ev_fnD (fun _ => G__law_great_right) (fun _ => hr.mono (by decide)) (fun _ => A__law_great_right.g) (fun _ => A__law_great_right.fn.kp) (fun _ => A__law_great_right.b) (ea_cons (ev_name 2) ea_nil) (na_cons na_nil)))))))) (ss_one (s_ret ev_bl)) ss_nil))))
    (ss_cons (s_set 3 (ev_lst (ea_cons (ev_fn (fun _ => G_weighted) (fun _ => hr.mono (by decide)) (fun _ => A_weighted.g) (fun _ => A_weighted.fn.kp) (fun _ => A_weighted.b) (ea_cons ev_int (ea_cons (ev_tup (ea_cons ev_int (ea_cons ev_int ea_nil))) (ea_cons (ev_tup (ea_cons ev_int (ea_cons ev_int ea_nil))) ea_nil))) (na_cons (na_cons (na_cons na_nil)))) (ea_cons (ev_fn (fun _ => G_vectors_count) (fun _ => hr.mono (by decide)) (fun _ => A_vectors_count.g) (fun _ => A_vectors_count.fn.kp) (fun _ => A_vectors_count.b) (ea_cons ev_int (ea_cons (ev_tup (ea_cons ev_int (ea_cons ev_int ea_nil))) (ea_cons ev_int ea_nil))) (na_cons (na_cons (na_cons na_nil)))) (ea_cons (ev_fn (fun _ => G_vectors_count) (fun _ => hr.mono (by decide)) (fun _ => A_vectors_count.g) (fun _ => A_vectors_count.fn.kp) (fun _ => A_vectors_count.b) (ea_cons ev_int (ea_cons (ev_tup (ea_cons ev_int (ea_cons ev_int ea_nil))) (ea_cons ev_int ea_nil))) (na_cons (na_cons (na_cons na_nil)))) (ea_cons (ev_sl (ev_fn (fun _ => G_vectors_with) (fun _ => hr.mono (by decide)) (fun _ => A_vectors_with.g) (fun _ => A_vectors_with.fn.kp) (fun _ => A_vectors_with.b) (ea_cons ev_int (ea_cons (ev_tup (ea_cons ev_int (ea_cons ev_int ea_nil))) (ea_cons ev_int ea_nil))) (na_cons (na_cons (na_cons na_nil)))) eo_none (eo_some ev_int)) ea_nil))))) (fun _ => sc_law.nd))
    (ss_cons (s_if (et_w (ew_or (et_cmp (od_ne (fun _ => hr.units)) (ev_name 3) (ev_lst (ea_cons ev_int (ea_cons ev_int (ea_cons ev_int (ea_cons (ev_tup (ea_cons (ev_tup (ea_cons ev_int (ea_cons ev_int ea_nil))) (ea_cons (ev_tup (ea_cons ev_int (ea_cons ev_int ea_nil))) ea_nil))) ea_nil)))))) (ew_or1 (et_cmp (od_ne (fun _ => hr.units)) (ev_lst (ea_cons (ev_fn (fun _ => G_moved) (fun _ => hr.mono (by decide)) (fun _ => A_moved.g) (fun _ => A_moved.fn.kp) (fun _ => A_moved.b) (ea_cons ev_int (ea_cons (ev_tup (ea_cons ev_int (ea_cons ev_int ea_nil))) (ea_cons (ev_tup (ea_cons ev_int (ea_cons ev_int ea_nil))) (ea_cons ev_int ea_nil)))) (na_cons (na_cons (na_cons (na_cons na_nil))))) (ea_cons (ev_fn (fun _ => G_moved) (fun _ => hr.mono (by decide)) (fun _ => A_moved.g) (fun _ => A_moved.fn.kp) (fun _ => A_moved.b) (ea_cons ev_int (ea_cons (ev_tup (ea_cons ev_int (ea_cons ev_int ea_nil))) (ea_cons (ev_tup (ea_cons ev_int (ea_cons ev_int ea_nil))) (ea_cons ev_int ea_nil)))) (na_cons (na_cons (na_cons (na_cons na_nil))))) ea_nil))) (ev_lst (ea_cons (ev_tup (ea_cons ev_int (ea_cons ev_int ea_nil))) (ea_cons ev_non ea_nil))))))) (ss_one (s_ret ev_bl)) ss_nil)
    (ss_one (s_ret (ev_cmp (od_eq (fun _ => hr.units)) (ev_lst (ea_cons (ev_fn (fun _ => G_weighted) (fun _ => hr.mono (by decide)) (fun _ => A_weighted.g) (fun _ => A_weighted.fn.kp) (fun _ => A_weighted.b) (ea_cons ev_int (ea_cons (ev_tup ea_nil) (ea_cons (ev_tup ea_nil) ea_nil))) (na_cons (na_cons (na_cons na_nil)))) (ea_cons (ev_fn (fun _ => G_vectors_with) (fun _ => hr.mono (by decide)) (fun _ => A_vectors_with.g) (fun _ => A_vectors_with.fn.kp) (fun _ => A_vectors_with.b) (ea_cons ev_int (ea_cons (ev_tup ea_nil) (ea_cons ev_int ea_nil))) (na_cons (na_cons (na_cons na_nil)))) (ea_cons (ev_fn (fun _ => G_vectors_with) (fun _ => hr.mono (by decide)) (fun _ => A_vectors_with.g) (fun _ => A_vectors_with.fn.kp) (fun _ => A_vectors_with.b) (ea_cons ev_int (ea_cons (ev_tup ea_nil) (ea_cons ev_int ea_nil))) (na_cons (na_cons (na_cons na_nil)))) (ea_cons (ev_fn (fun _ => G_vectors_count) (fun _ => hr.mono (by decide)) (fun _ => A_vectors_count.g) (fun _ => A_vectors_count.fn.kp) (fun _ => A_vectors_count.b) (ea_cons ev_int (ea_cons (ev_tup ea_nil) (ea_cons ev_int ea_nil))) (na_cons (na_cons (na_cons na_nil)))) ea_nil))))) (ev_lst (ea_cons ev_int (ea_cons (ev_tup (ea_cons (ev_tup ea_nil) ea_nil)) (ea_cons (ev_tup ea_nil) (ea_cons ev_int ea_nil)))))))))))
end
theorem all_mk {l : PySem.W.OpenLaw} {w : World} {K : Frag} {h : Heap} {mg : Str → Option Value} {fa : Addr} (X : K.In h) (G : h.Ns mainGlobals mg) (hfa : mg "law" = some (.ref fa))
    {f_is_integer : Addr} {od_is_integer an_is_integer : Option Addr} {sl_is_integer : Array (Option Value)} {oc_is_integer kV_is_integer dc_is_integer pm_is_integer cd_is_integer ct_is_integer : Value}
    (a_is_integer : PySem.W.nsIn K mainGlobals "is_integer" = some (some (.ref f_is_integer))) (l_is_integer : K.lookup f_is_integer = some ⟨oc_is_integer, od_is_integer, .func (PySem.W.fnOf "is_integer" "is_integer" (defArgs s_is_integer) (defBody s_is_integer) (defScope s_is_integer) .none kV_is_integer dc_is_integer pm_is_integer an_is_integer cd_is_integer ct_is_integer), sl_is_integer⟩) (c_is_integer : PySem.W.codeIn K cd_is_integer "is_integer" = true) (k_is_integer : PySem.W.keepIn K (.ref f_is_integer) = true)
    {f_is_field : Addr} {od_is_field an_is_field : Option Addr} {sl_is_field : Array (Option Value)} {oc_is_field kV_is_field dc_is_field pm_is_field cd_is_field ct_is_field : Value}
    (a_is_field : PySem.W.nsIn K mainGlobals "is_field" = some (some (.ref f_is_field))) (l_is_field : K.lookup f_is_field = some ⟨oc_is_field, od_is_field, .func (PySem.W.fnOf "is_field" "is_field" (defArgs s_is_field) (defBody s_is_field) (defScope s_is_field) .none kV_is_field dc_is_field pm_is_field an_is_field cd_is_field ct_is_field), sl_is_field⟩) (c_is_field : PySem.W.codeIn K cd_is_field "is_field" = true) (k_is_field : PySem.W.keepIn K (.ref f_is_field) = true)
    {f_are_numbers : Addr} {od_are_numbers an_are_numbers : Option Addr} {sl_are_numbers : Array (Option Value)} {oc_are_numbers kV_are_numbers dc_are_numbers pm_are_numbers cd_are_numbers ct_are_numbers : Value}
    (a_are_numbers : PySem.W.nsIn K mainGlobals "are_numbers" = some (some (.ref f_are_numbers))) (l_are_numbers : K.lookup f_are_numbers = some ⟨oc_are_numbers, od_are_numbers, .func (PySem.W.fnOf "are_numbers" "are_numbers" (defArgs s_are_numbers) (defBody s_are_numbers) (defScope s_are_numbers) .none kV_are_numbers dc_are_numbers pm_are_numbers an_are_numbers cd_are_numbers ct_are_numbers), sl_are_numbers⟩) (c_are_numbers : PySem.W.codeIn K cd_are_numbers "are_numbers" = true) (k_are_numbers : PySem.W.keepIn K (.ref f_are_numbers) = true)
    {f_is_vector : Addr} {od_is_vector an_is_vector : Option Addr} {sl_is_vector : Array (Option Value)} {oc_is_vector kV_is_vector dc_is_vector pm_is_vector cd_is_vector ct_is_vector : Value}
    (a_is_vector : PySem.W.nsIn K mainGlobals "is_vector" = some (some (.ref f_is_vector))) (l_is_vector : K.lookup f_is_vector = some ⟨oc_is_vector, od_is_vector, .func (PySem.W.fnOf "is_vector" "is_vector" (defArgs s_is_vector) (defBody s_is_vector) (defScope s_is_vector) .none kV_is_vector dc_is_vector pm_is_vector an_is_vector cd_is_vector ct_is_vector), sl_is_vector⟩) (c_is_vector : PySem.W.codeIn K cd_is_vector "is_vector" = true) (k_is_vector : PySem.W.keepIn K (.ref f_is_vector) = true)
    {f_check_integer : Addr} {od_check_integer an_check_integer : Option Addr} {sl_check_integer : Array (Option Value)} {oc_check_integer kV_check_integer dc_check_integer pm_check_integer cd_check_integer ct_check_integer : Value}
    (a_check_integer : PySem.W.nsIn K mainGlobals "check_integer" = some (some (.ref f_check_integer))) (l_check_integer : K.lookup f_check_integer = some ⟨oc_check_integer, od_check_integer, .func (PySem.W.fnOf "check_integer" "check_integer" (defArgs s_check_integer) (defBody s_check_integer) (defScope s_check_integer) .none kV_check_integer dc_check_integer pm_check_integer an_check_integer cd_check_integer ct_check_integer), sl_check_integer⟩) (c_check_integer : PySem.W.codeIn K cd_check_integer "check_integer" = true) (k_check_integer : PySem.W.keepIn K (.ref f_check_integer) = true)
    {f_check_field : Addr} {od_check_field an_check_field : Option Addr} {sl_check_field : Array (Option Value)} {oc_check_field kV_check_field dc_check_field pm_check_field cd_check_field ct_check_field : Value}
    (a_check_field : PySem.W.nsIn K mainGlobals "check_field" = some (some (.ref f_check_field))) (l_check_field : K.lookup f_check_field = some ⟨oc_check_field, od_check_field, .func (PySem.W.fnOf "check_field" "check_field" (defArgs s_check_field) (defBody s_check_field) (defScope s_check_field) .none kV_check_field dc_check_field pm_check_field an_check_field cd_check_field ct_check_field), sl_check_field⟩) (c_check_field : PySem.W.codeIn K cd_check_field "check_field" = true) (k_check_field : PySem.W.keepIn K (.ref f_check_field) = true)
    {f_check_number : Addr} {od_check_number an_check_number : Option Addr} {sl_check_number : Array (Option Value)} {oc_check_number kV_check_number dc_check_number pm_check_number cd_check_number ct_check_number : Value}
    (a_check_number : PySem.W.nsIn K mainGlobals "check_number" = some (some (.ref f_check_number))) (l_check_number : K.lookup f_check_number = some ⟨oc_check_number, od_check_number, .func (PySem.W.fnOf "check_number" "check_number" (defArgs s_check_number) (defBody s_check_number) (defScope s_check_number) .none kV_check_number dc_check_number pm_check_number an_check_number cd_check_number ct_check_number), sl_check_number⟩) (c_check_number : PySem.W.codeIn K cd_check_number "check_number" = true) (k_check_number : PySem.W.keepIn K (.ref f_check_number) = true)
    {f_check_vector : Addr} {od_check_vector an_check_vector : Option Addr} {sl_check_vector : Array (Option Value)} {oc_check_vector kV_check_vector dc_check_vector pm_check_vector cd_check_vector ct_check_vector : Value}
    (a_check_vector : PySem.W.nsIn K mainGlobals "check_vector" = some (some (.ref f_check_vector))) (l_check_vector : K.lookup f_check_vector = some ⟨oc_check_vector, od_check_vector, .func (PySem.W.fnOf "check_vector" "check_vector" (defArgs s_check_vector) (defBody s_check_vector) (defScope s_check_vector) .none kV_check_vector dc_check_vector pm_check_vector an_check_vector cd_check_vector ct_check_vector), sl_check_vector⟩) (c_check_vector : PySem.W.codeIn K cd_check_vector "check_vector" = true) (k_check_vector : PySem.W.keepIn K (.ref f_check_vector) = true)
    {f_raised : Addr} {od_raised an_raised : Option Addr} {sl_raised : Array (Option Value)} {oc_raised kV_raised dc_raised pm_raised cd_raised ct_raised : Value}
    (a_raised : PySem.W.nsIn K mainGlobals "raised" = some (some (.ref f_raised))) (l_raised : K.lookup f_raised = some ⟨oc_raised, od_raised, .func (PySem.W.fnOf "raised" "raised" (defArgs s_raised) (defBody s_raised) (defScope s_raised) .none kV_raised dc_raised pm_raised an_raised cd_raised ct_raised), sl_raised⟩) (c_raised : PySem.W.codeIn K cd_raised "raised" = true) (k_raised : PySem.W.keepIn K (.ref f_raised) = true)
    {f_inverse : Addr} {od_inverse an_inverse : Option Addr} {sl_inverse : Array (Option Value)} {oc_inverse kV_inverse dc_inverse pm_inverse cd_inverse ct_inverse : Value}
    (a_inverse : PySem.W.nsIn K mainGlobals "inverse" = some (some (.ref f_inverse))) (l_inverse : K.lookup f_inverse = some ⟨oc_inverse, od_inverse, .func (PySem.W.fnOf "inverse" "inverse" (defArgs s_inverse) (defBody s_inverse) (defScope s_inverse) .none kV_inverse dc_inverse pm_inverse an_inverse cd_inverse ct_inverse), sl_inverse⟩) (c_inverse : PySem.W.codeIn K cd_inverse "inverse" = true) (k_inverse : PySem.W.keepIn K (.ref f_inverse) = true)
    {f_rows_count : Addr} {od_rows_count an_rows_count : Option Addr} {sl_rows_count : Array (Option Value)} {oc_rows_count kV_rows_count dc_rows_count pm_rows_count cd_rows_count ct_rows_count : Value}
    (a_rows_count : PySem.W.nsIn K mainGlobals "rows_count" = some (some (.ref f_rows_count))) (l_rows_count : K.lookup f_rows_count = some ⟨oc_rows_count, od_rows_count, .func (PySem.W.fnOf "rows_count" "rows_count" (defArgs s_rows_count) (defBody s_rows_count) (defScope s_rows_count) .none kV_rows_count dc_rows_count pm_rows_count an_rows_count cd_rows_count ct_rows_count), sl_rows_count⟩) (c_rows_count : PySem.W.codeIn K cd_rows_count "rows_count" = true) (k_rows_count : PySem.W.keepIn K (.ref f_rows_count) = true)
    {f_sum_of_products : Addr} {od_sum_of_products an_sum_of_products : Option Addr} {sl_sum_of_products : Array (Option Value)} {oc_sum_of_products kV_sum_of_products dc_sum_of_products pm_sum_of_products cd_sum_of_products ct_sum_of_products : Value}
    (a_sum_of_products : PySem.W.nsIn K mainGlobals "sum_of_products" = some (some (.ref f_sum_of_products))) (l_sum_of_products : K.lookup f_sum_of_products = some ⟨oc_sum_of_products, od_sum_of_products, .func (PySem.W.fnOf "sum_of_products" "sum_of_products" (defArgs s_sum_of_products) (defBody s_sum_of_products) (defScope s_sum_of_products) .none kV_sum_of_products dc_sum_of_products pm_sum_of_products an_sum_of_products cd_sum_of_products ct_sum_of_products), sl_sum_of_products⟩) (c_sum_of_products : PySem.W.codeIn K cd_sum_of_products "sum_of_products" = true) (k_sum_of_products : PySem.W.keepIn K (.ref f_sum_of_products) = true)
    {f_weighted : Addr} {od_weighted an_weighted : Option Addr} {sl_weighted : Array (Option Value)} {oc_weighted kV_weighted dc_weighted pm_weighted cd_weighted ct_weighted : Value}
    (a_weighted : PySem.W.nsIn K mainGlobals "weighted" = some (some (.ref f_weighted))) (l_weighted : K.lookup f_weighted = some ⟨oc_weighted, od_weighted, .func (PySem.W.fnOf "weighted" "weighted" (defArgs s_weighted) (defBody s_weighted) (defScope s_weighted) .none kV_weighted dc_weighted pm_weighted an_weighted cd_weighted ct_weighted), sl_weighted⟩) (c_weighted : PySem.W.codeIn K cd_weighted "weighted" = true) (k_weighted : PySem.W.keepIn K (.ref f_weighted) = true)
    {f_vectors_count : Addr} {od_vectors_count an_vectors_count : Option Addr} {sl_vectors_count : Array (Option Value)} {oc_vectors_count kV_vectors_count dc_vectors_count pm_vectors_count cd_vectors_count ct_vectors_count : Value}
    (a_vectors_count : PySem.W.nsIn K mainGlobals "vectors_count" = some (some (.ref f_vectors_count))) (l_vectors_count : K.lookup f_vectors_count = some ⟨oc_vectors_count, od_vectors_count, .func (PySem.W.fnOf "vectors_count" "vectors_count" (defArgs s_vectors_count) (defBody s_vectors_count) (defScope s_vectors_count) .none kV_vectors_count dc_vectors_count pm_vectors_count an_vectors_count cd_vectors_count ct_vectors_count), sl_vectors_count⟩) (c_vectors_count : PySem.W.codeIn K cd_vectors_count "vectors_count" = true) (k_vectors_count : PySem.W.keepIn K (.ref f_vectors_count) = true)
    {f_heavy_places : Addr} {od_heavy_places an_heavy_places : Option Addr} {sl_heavy_places : Array (Option Value)} {oc_heavy_places kV_heavy_places dc_heavy_places pm_heavy_places cd_heavy_places ct_heavy_places : Value}
    (a_heavy_places : PySem.W.nsIn K mainGlobals "heavy_places" = some (some (.ref f_heavy_places))) (l_heavy_places : K.lookup f_heavy_places = some ⟨oc_heavy_places, od_heavy_places, .func (PySem.W.fnOf "heavy_places" "heavy_places" (defArgs s_heavy_places) (defBody s_heavy_places) (defScope s_heavy_places) .none kV_heavy_places dc_heavy_places pm_heavy_places an_heavy_places cd_heavy_places ct_heavy_places), sl_heavy_places⟩) (c_heavy_places : PySem.W.codeIn K cd_heavy_places "heavy_places" = true) (k_heavy_places : PySem.W.keepIn K (.ref f_heavy_places) = true)
    {f_all_vectors : Addr} {od_all_vectors an_all_vectors : Option Addr} {sl_all_vectors : Array (Option Value)} {oc_all_vectors kV_all_vectors dc_all_vectors pm_all_vectors cd_all_vectors ct_all_vectors : Value}
    (a_all_vectors : PySem.W.nsIn K mainGlobals "all_vectors" = some (some (.ref f_all_vectors))) (l_all_vectors : K.lookup f_all_vectors = some ⟨oc_all_vectors, od_all_vectors, .func (PySem.W.fnOf "all_vectors" "all_vectors" (defArgs s_all_vectors) (defBody s_all_vectors) (defScope s_all_vectors) .none kV_all_vectors dc_all_vectors pm_all_vectors an_all_vectors cd_all_vectors ct_all_vectors), sl_all_vectors⟩) (c_all_vectors : PySem.W.codeIn K cd_all_vectors "all_vectors" = true) (k_all_vectors : PySem.W.keepIn K (.ref f_all_vectors) = true)
    {f_all_lacks : Addr} {od_all_lacks an_all_lacks : Option Addr} {sl_all_lacks : Array (Option Value)} {oc_all_lacks kV_all_lacks dc_all_lacks pm_all_lacks cd_all_lacks ct_all_lacks : Value}
    (a_all_lacks : PySem.W.nsIn K mainGlobals "all_lacks" = some (some (.ref f_all_lacks))) (l_all_lacks : K.lookup f_all_lacks = some ⟨oc_all_lacks, od_all_lacks, .func (PySem.W.fnOf "all_lacks" "all_lacks" (defArgs s_all_lacks) (defBody s_all_lacks) (defScope s_all_lacks) .none kV_all_lacks dc_all_lacks pm_all_lacks an_all_lacks cd_all_lacks ct_all_lacks), sl_all_lacks⟩) (c_all_lacks : PySem.W.codeIn K cd_all_lacks "all_lacks" = true) (k_all_lacks : PySem.W.keepIn K (.ref f_all_lacks) = true)
    {f_solved_vectors : Addr} {od_solved_vectors an_solved_vectors : Option Addr} {sl_solved_vectors : Array (Option Value)} {oc_solved_vectors kV_solved_vectors dc_solved_vectors pm_solved_vectors cd_solved_vectors ct_solved_vectors : Value}
    (a_solved_vectors : PySem.W.nsIn K mainGlobals "solved_vectors" = some (some (.ref f_solved_vectors))) (l_solved_vectors : K.lookup f_solved_vectors = some ⟨oc_solved_vectors, od_solved_vectors, .func (PySem.W.fnOf "solved_vectors" "solved_vectors" (defArgs s_solved_vectors) (defBody s_solved_vectors) (defScope s_solved_vectors) .none kV_solved_vectors dc_solved_vectors pm_solved_vectors an_solved_vectors cd_solved_vectors ct_solved_vectors), sl_solved_vectors⟩) (c_solved_vectors : PySem.W.codeIn K cd_solved_vectors "solved_vectors" = true) (k_solved_vectors : PySem.W.keepIn K (.ref f_solved_vectors) = true)
    {f_vectors_with : Addr} {od_vectors_with an_vectors_with : Option Addr} {sl_vectors_with : Array (Option Value)} {oc_vectors_with kV_vectors_with dc_vectors_with pm_vectors_with cd_vectors_with ct_vectors_with : Value}
    (a_vectors_with : PySem.W.nsIn K mainGlobals "vectors_with" = some (some (.ref f_vectors_with))) (l_vectors_with : K.lookup f_vectors_with = some ⟨oc_vectors_with, od_vectors_with, .func (PySem.W.fnOf "vectors_with" "vectors_with" (defArgs s_vectors_with) (defBody s_vectors_with) (defScope s_vectors_with) .none kV_vectors_with dc_vectors_with pm_vectors_with an_vectors_with cd_vectors_with ct_vectors_with), sl_vectors_with⟩) (c_vectors_with : PySem.W.codeIn K cd_vectors_with "vectors_with" = true) (k_vectors_with : PySem.W.keepIn K (.ref f_vectors_with) = true)
    {f_moved : Addr} {od_moved an_moved : Option Addr} {sl_moved : Array (Option Value)} {oc_moved kV_moved dc_moved pm_moved cd_moved ct_moved : Value}
    (a_moved : PySem.W.nsIn K mainGlobals "moved" = some (some (.ref f_moved))) (l_moved : K.lookup f_moved = some ⟨oc_moved, od_moved, .func (PySem.W.fnOf "moved" "moved" (defArgs s_moved) (defBody s_moved) (defScope s_moved) .none kV_moved dc_moved pm_moved an_moved cd_moved ct_moved), sl_moved⟩) (c_moved : PySem.W.codeIn K cd_moved "moved" = true) (k_moved : PySem.W.keepIn K (.ref f_moved) = true)
    {f__law_dice : Addr} {od__law_dice an__law_dice : Option Addr} {sl__law_dice : Array (Option Value)} {oc__law_dice kV__law_dice dc__law_dice pm__law_dice cd__law_dice ct__law_dice : Value}
    (a__law_dice : PySem.W.nsIn K mainGlobals "_law_dice" = some (some (.ref f__law_dice))) (l__law_dice : K.lookup f__law_dice = some ⟨oc__law_dice, od__law_dice, .func (PySem.W.fnOf "_law_dice" "_law_dice" (defArgs s__law_dice) (defBody s__law_dice) (defScope s__law_dice) .none kV__law_dice dc__law_dice pm__law_dice an__law_dice cd__law_dice ct__law_dice), sl__law_dice⟩) (c__law_dice : PySem.W.codeIn K cd__law_dice "_law_dice" = true) (k__law_dice : PySem.W.keepIn K (.ref f__law_dice) = true)
    {f__law_roll : Addr} {od__law_roll an__law_roll : Option Addr} {sl__law_roll : Array (Option Value)} {oc__law_roll kV__law_roll dc__law_roll pm__law_roll cd__law_roll ct__law_roll : Value}
    (a__law_roll : PySem.W.nsIn K mainGlobals "_law_roll" = some (some (.ref f__law_roll))) (l__law_roll : K.lookup f__law_roll = some ⟨oc__law_roll, od__law_roll, .func (PySem.W.fnOf "_law_roll" "_law_roll" (defArgs s__law_roll) (defBody s__law_roll) (defScope s__law_roll) .none kV__law_roll dc__law_roll pm__law_roll an__law_roll cd__law_roll ct__law_roll), sl__law_roll⟩) (c__law_roll : PySem.W.codeIn K cd__law_roll "_law_roll" = true) (k__law_roll : PySem.W.keepIn K (.ref f__law_roll) = true)
    {f__law_pick : Addr} {od__law_pick an__law_pick : Option Addr} {sl__law_pick : Array (Option Value)} {oc__law_pick kV__law_pick dc__law_pick pm__law_pick cd__law_pick ct__law_pick : Value}
    (a__law_pick : PySem.W.nsIn K mainGlobals "_law_pick" = some (some (.ref f__law_pick))) (l__law_pick : K.lookup f__law_pick = some ⟨oc__law_pick, od__law_pick, .func (PySem.W.fnOf "_law_pick" "_law_pick" (defArgs s__law_pick) (defBody s__law_pick) (defScope s__law_pick) .none kV__law_pick dc__law_pick pm__law_pick an__law_pick cd__law_pick ct__law_pick), sl__law_pick⟩) (c__law_pick : PySem.W.codeIn K cd__law_pick "_law_pick" = true) (k__law_pick : PySem.W.keepIn K (.ref f__law_pick) = true)
    {f__law_fd_primes : Addr} {od__law_fd_primes an__law_fd_primes : Option Addr} {sl__law_fd_primes : Array (Option Value)} {oc__law_fd_primes kV__law_fd_primes dc__law_fd_primes pm__law_fd_primes cd__law_fd_primes ct__law_fd_primes : Value}
    (a__law_fd_primes : PySem.W.nsIn K mainGlobals "_law_fd_primes" = some (some (.ref f__law_fd_primes))) (l__law_fd_primes : K.lookup f__law_fd_primes = some ⟨oc__law_fd_primes, od__law_fd_primes, .func (PySem.W.fnOf "_law_fd_primes" "_law_fd_primes" (defArgs s__law_fd_primes) (defBody s__law_fd_primes) (defScope s__law_fd_primes) .none kV__law_fd_primes dc__law_fd_primes pm__law_fd_primes an__law_fd_primes cd__law_fd_primes ct__law_fd_primes), sl__law_fd_primes⟩) (c__law_fd_primes : PySem.W.codeIn K cd__law_fd_primes "_law_fd_primes" = true) (k__law_fd_primes : PySem.W.keepIn K (.ref f__law_fd_primes) = true)
    {f__law_fd_dot : Addr} {od__law_fd_dot an__law_fd_dot : Option Addr} {sl__law_fd_dot : Array (Option Value)} {oc__law_fd_dot kV__law_fd_dot dc__law_fd_dot pm__law_fd_dot cd__law_fd_dot ct__law_fd_dot : Value}
    (a__law_fd_dot : PySem.W.nsIn K mainGlobals "_law_fd_dot" = some (some (.ref f__law_fd_dot))) (l__law_fd_dot : K.lookup f__law_fd_dot = some ⟨oc__law_fd_dot, od__law_fd_dot, .func (PySem.W.fnOf "_law_fd_dot" "_law_fd_dot" (defArgs s__law_fd_dot) (defBody s__law_fd_dot) (defScope s__law_fd_dot) .none kV__law_fd_dot dc__law_fd_dot pm__law_fd_dot an__law_fd_dot cd__law_fd_dot ct__law_fd_dot), sl__law_fd_dot⟩) (c__law_fd_dot : PySem.W.codeIn K cd__law_fd_dot "_law_fd_dot" = true) (k__law_fd_dot : PySem.W.keepIn K (.ref f__law_fd_dot) = true)
    {f__law_fd_times : Addr} {od__law_fd_times an__law_fd_times : Option Addr} {sl__law_fd_times : Array (Option Value)} {oc__law_fd_times kV__law_fd_times dc__law_fd_times pm__law_fd_times cd__law_fd_times ct__law_fd_times : Value}
    (a__law_fd_times : PySem.W.nsIn K mainGlobals "_law_fd_times" = some (some (.ref f__law_fd_times))) (l__law_fd_times : K.lookup f__law_fd_times = some ⟨oc__law_fd_times, od__law_fd_times, .func (PySem.W.fnOf "_law_fd_times" "_law_fd_times" (defArgs s__law_fd_times) (defBody s__law_fd_times) (defScope s__law_fd_times) .none kV__law_fd_times dc__law_fd_times pm__law_fd_times an__law_fd_times cd__law_fd_times ct__law_fd_times), sl__law_fd_times⟩) (c__law_fd_times : PySem.W.codeIn K cd__law_fd_times "_law_fd_times" = true) (k__law_fd_times : PySem.W.keepIn K (.ref f__law_fd_times) = true)
    {f__law_all : Addr} {od__law_all an__law_all : Option Addr} {sl__law_all : Array (Option Value)} {oc__law_all kV__law_all dc__law_all pm__law_all cd__law_all ct__law_all : Value}
    (a__law_all : PySem.W.nsIn K mainGlobals "_law_all" = some (some (.ref f__law_all))) (l__law_all : K.lookup f__law_all = some ⟨oc__law_all, od__law_all, .func (PySem.W.fnOf "_law_all" "_law_all" (defArgs s__law_all) (defBody s__law_all) (defScope s__law_all) .none kV__law_all dc__law_all pm__law_all an__law_all cd__law_all ct__law_all), sl__law_all⟩) (c__law_all : PySem.W.codeIn K cd__law_all "_law_all" = true) (k__law_all : PySem.W.keepIn K (.ref f__law_all) = true)
    {f__law_weights_drawn : Addr} {od__law_weights_drawn an__law_weights_drawn : Option Addr} {sl__law_weights_drawn : Array (Option Value)} {oc__law_weights_drawn kV__law_weights_drawn dc__law_weights_drawn pm__law_weights_drawn cd__law_weights_drawn ct__law_weights_drawn : Value}
    (a__law_weights_drawn : PySem.W.nsIn K mainGlobals "_law_weights_drawn" = some (some (.ref f__law_weights_drawn))) (l__law_weights_drawn : K.lookup f__law_weights_drawn = some ⟨oc__law_weights_drawn, od__law_weights_drawn, .func (PySem.W.fnOf "_law_weights_drawn" "_law_weights_drawn" (defArgs s__law_weights_drawn) (defBody s__law_weights_drawn) (defScope s__law_weights_drawn) .none kV__law_weights_drawn dc__law_weights_drawn pm__law_weights_drawn an__law_weights_drawn cd__law_weights_drawn ct__law_weights_drawn), sl__law_weights_drawn⟩) (c__law_weights_drawn : PySem.W.codeIn K cd__law_weights_drawn "_law_weights_drawn" = true) (k__law_weights_drawn : PySem.W.keepIn K (.ref f__law_weights_drawn) = true)
    {f__law_small_right : Addr} {od__law_small_right an__law_small_right : Option Addr} {sl__law_small_right : Array (Option Value)} {oc__law_small_right kV__law_small_right dc__law_small_right pm__law_small_right cd__law_small_right ct__law_small_right : Value}
    (a__law_small_right : PySem.W.nsIn K mainGlobals "_law_small_right" = some (some (.ref f__law_small_right))) (l__law_small_right : K.lookup f__law_small_right = some ⟨oc__law_small_right, od__law_small_right, .func (PySem.W.fnOf "_law_small_right" "_law_small_right" (defArgs s__law_small_right) (defBody s__law_small_right) (defScope s__law_small_right) .none kV__law_small_right dc__law_small_right pm__law_small_right an__law_small_right cd__law_small_right ct__law_small_right), sl__law_small_right⟩) (c__law_small_right : PySem.W.codeIn K cd__law_small_right "_law_small_right" = true) (k__law_small_right : PySem.W.keepIn K (.ref f__law_small_right) = true)
    {f__law_great_right : Addr} {od__law_great_right an__law_great_right : Option Addr} {sl__law_great_right : Array (Option Value)} {oc__law_great_right kV__law_great_right dc__law_great_right pm__law_great_right cd__law_great_right ct__law_great_right : Value}
    (a__law_great_right : PySem.W.nsIn K mainGlobals "_law_great_right" = some (some (.ref f__law_great_right))) (l__law_great_right : K.lookup f__law_great_right = some ⟨oc__law_great_right, od__law_great_right, .func (PySem.W.fnOf "_law_great_right" "_law_great_right" (defArgs s__law_great_right) (defBody s__law_great_right) (defScope s__law_great_right) .none kV__law_great_right dc__law_great_right pm__law_great_right an__law_great_right cd__law_great_right ct__law_great_right), sl__law_great_right⟩) (c__law_great_right : PySem.W.codeIn K cd__law_great_right "_law_great_right" = true) (k__law_great_right : PySem.W.keepIn K (.ref f__law_great_right) = true)
    {f_law : Addr} {od_law an_law : Option Addr} {sl_law : Array (Option Value)} {oc_law kV_law dc_law pm_law cd_law ct_law : Value}
    (a_law : PySem.W.nsIn K mainGlobals "law" = some (some (.ref f_law))) (l_law : K.lookup f_law = some ⟨oc_law, od_law, .func (PySem.W.fnOf "law" "law" (defArgs s_law) (defBody s_law) (defScope s_law) .none kV_law dc_law pm_law an_law cd_law ct_law), sl_law⟩) (c_law : PySem.W.codeIn K cd_law "law" = true) (k_law : PySem.W.keepIn K (.ref f_law) = true)
    (z_abs : PySem.W.nsIn K mainGlobals "abs" = some none)
    (z_any : PySem.W.nsIn K mainGlobals "any" = some none)
    (z_dict : PySem.W.nsIn K mainGlobals "dict" = some none)
    (z_int : PySem.W.nsIn K mainGlobals "int" = some none)
    (z_isinstance : PySem.W.nsIn K mainGlobals "isinstance" = some none)
    (z_len : PySem.W.nsIn K mainGlobals "len" = some none)
    (z_list : PySem.W.nsIn K mainGlobals "list" = some none)
    (z_max : PySem.W.nsIn K mainGlobals "max" = some none)
    (z_min : PySem.W.nsIn K mainGlobals "min" = some none)
    (z_range : PySem.W.nsIn K mainGlobals "range" = some none)
    (z_sorted : PySem.W.nsIn K mainGlobals "sorted" = some none)
    (z_sum : PySem.W.nsIn K mainGlobals "sum" = some none)
    (z_tuple : PySem.W.nsIn K mainGlobals "tuple" = some none)
    (z_zip : PySem.W.nsIn K mainGlobals "zip" = some none)
    {tk_LEAST_FIELD : Tok} (q_LEAST_FIELD : PySem.W.nsIn K mainGlobals "LEAST_FIELD" = some (some (.int 5 tk_LEAST_FIELD)))
    {tk_MAX_FIELD : Tok} (q_MAX_FIELD : PySem.W.nsIn K mainGlobals "MAX_FIELD" = some (some (.int 997 tk_MAX_FIELD)))
    {tk_MAX_SIDE : Tok} (q_MAX_SIDE : PySem.W.nsIn K mainGlobals "MAX_SIDE" = some (some (.int 60 tk_MAX_SIDE)))
    {tk_MOST_LISTED : Tok} (q_MOST_LISTED : PySem.W.nsIn K mainGlobals "MOST_LISTED" = some (some (.int 100000 tk_MOST_LISTED)))
    {qa_SMALL_PRIMES : Addr} {qd_SMALL_PRIMES : Option Addr} {qn_SMALL_PRIMES : Nat} {qs_SMALL_PRIMES : Array (Option Value)} {t0_SMALL_PRIMES t1_SMALL_PRIMES t2_SMALL_PRIMES t3_SMALL_PRIMES t4_SMALL_PRIMES t5_SMALL_PRIMES t6_SMALL_PRIMES t7_SMALL_PRIMES t8_SMALL_PRIMES t9_SMALL_PRIMES t10_SMALL_PRIMES : Tok} (q_SMALL_PRIMES : PySem.W.nsIn K mainGlobals "SMALL_PRIMES" = some (some (.ref qa_SMALL_PRIMES)))
    (r_SMALL_PRIMES : K.lookup qa_SMALL_PRIMES = some ⟨.type "tuple", qd_SMALL_PRIMES, .seq #[.int 2 t0_SMALL_PRIMES, .int 3 t1_SMALL_PRIMES, .int 5 t2_SMALL_PRIMES, .int 7 t3_SMALL_PRIMES, .int 11 t4_SMALL_PRIMES, .int 13 t5_SMALL_PRIMES, .int 17 t6_SMALL_PRIMES, .int 19 t7_SMALL_PRIMES, .int 23 t8_SMALL_PRIMES, .int 29 t9_SMALL_PRIMES, .int 31 t10_SMALL_PRIMES] qn_SMALL_PRIMES, qs_SMALL_PRIMES⟩)
    : ∃ fd : FuncData, (∀ (s : Shared) (v : Value), BindsTo s fd ⟨[v], []⟩ [("script", v)]) ∧ ∀ base : Heap, K.In base → base.Ns mainGlobals mg → FnOk l.prog w K mg base CX0 13 fa fd ["script"] (spM K 1 [] F_law) := by
  have e := hfa.symm.trans (PySem.W.mg_of X G a_law)
  cases e
  have U_is_integer := fun_mk (st := s_is_integer) l_is_integer c_is_integer k_is_integer
  have A_is_integer : DefAt K mg "is_integer" s_is_integer ["value", "least", "most"] _ _ := ⟨U_is_integer, PySem.W.mg_of X G a_is_integer, U_is_integer.binds (ps := ["value", "least", "most"]) fun _ _ _ _ _ _ us hl => match us, hl with | [_, _, _], _ => rfl⟩
  have U_is_field := fun_mk (st := s_is_field) l_is_field c_is_field k_is_field
  have A_is_field : DefAt K mg "is_field" s_is_field ["value"] _ _ := ⟨U_is_field, PySem.W.mg_of X G a_is_field, U_is_field.binds (ps := ["value"]) fun _ _ _ _ _ _ us hl => match us, hl with | [_], _ => rfl⟩
  have U_are_numbers := fun_mk (st := s_are_numbers) l_are_numbers c_are_numbers k_are_numbers
  have A_are_numbers : DefAt K mg "are_numbers" s_are_numbers ["field", "value"] _ _ := ⟨U_are_numbers, PySem.W.mg_of X G a_are_numbers, U_are_numbers.binds (ps := ["field", "value"]) fun _ _ _ _ _ _ us hl => match us, hl with | [_, _], _ => rfl⟩
  have U_is_vector := fun_mk (st := s_is_vector) l_is_vector c_is_vector k_is_vector
  have A_is_vector : DefAt K mg "is_vector" s_is_vector ["field", "value"] _ _ := ⟨U_is_vector, PySem.W.mg_of X G a_is_vector, U_is_vector.binds (ps := ["field", "value"]) fun _ _ _ _ _ _ us hl => match us, hl with | [_, _], _ => rfl⟩
  have U_check_integer := fun_mk (st := s_check_integer) l_check_integer c_check_integer k_check_integer
  have A_check_integer : DefAt K mg "check_integer" s_check_integer ["value", "least", "most"] _ _ := ⟨U_check_integer, PySem.W.mg_of X G a_check_integer, U_check_integer.binds (ps := ["value", "least", "most"]) fun _ _ _ _ _ _ us hl => match us, hl with | [_, _, _], _ => rfl⟩
  have U_check_field := fun_mk (st := s_check_field) l_check_field c_check_field k_check_field
  have A_check_field : DefAt K mg "check_field" s_check_field ["field"] _ _ := ⟨U_check_field, PySem.W.mg_of X G a_check_field, U_check_field.binds (ps := ["field"]) fun _ _ _ _ _ _ us hl => match us, hl with | [_], _ => rfl⟩
  have U_check_number := fun_mk (st := s_check_number) l_check_number c_check_number k_check_number
  have A_check_number : DefAt K mg "check_number" s_check_number ["field", "number"] _ _ := ⟨U_check_number, PySem.W.mg_of X G a_check_number, U_check_number.binds (ps := ["field", "number"]) fun _ _ _ _ _ _ us hl => match us, hl with | [_, _], _ => rfl⟩
  have U_check_vector := fun_mk (st := s_check_vector) l_check_vector c_check_vector k_check_vector
  have A_check_vector : DefAt K mg "check_vector" s_check_vector ["field", "vector"] _ _ := ⟨U_check_vector, PySem.W.mg_of X G a_check_vector, U_check_vector.binds (ps := ["field", "vector"]) fun _ _ _ _ _ _ us hl => match us, hl with | [_, _], _ => rfl⟩
  have U_raised := fun_mk (st := s_raised) l_raised c_raised k_raised
  have A_raised : DefAt K mg "raised" s_raised ["field", "number", "many"] _ _ := ⟨U_raised, PySem.W.mg_of X G a_raised, U_raised.binds (ps := ["field", "number", "many"]) fun _ _ _ _ _ _ us hl => match us, hl with | [_, _, _], _ => rfl⟩
  have U_inverse := fun_mk (st := s_inverse) l_inverse c_inverse k_inverse
  have A_inverse : DefAt K mg "inverse" s_inverse ["field", "number"] _ _ := ⟨U_inverse, PySem.W.mg_of X G a_inverse, U_inverse.binds (ps := ["field", "number"]) fun _ _ _ _ _ _ us hl => match us, hl with | [_, _], _ => rfl⟩
  have U_rows_count := fun_mk (st := s_rows_count) l_rows_count c_rows_count k_rows_count
  have A_rows_count : DefAt K mg "rows_count" s_rows_count ["field", "many"] _ _ := ⟨U_rows_count, PySem.W.mg_of X G a_rows_count, U_rows_count.binds (ps := ["field", "many"]) fun _ _ _ _ _ _ us hl => match us, hl with | [_, _], _ => rfl⟩
  have U_sum_of_products := fun_mk (st := s_sum_of_products) l_sum_of_products c_sum_of_products k_sum_of_products
  have A_sum_of_products : DefAt K mg "sum_of_products" s_sum_of_products ["field", "one", "other"] _ _ := ⟨U_sum_of_products, PySem.W.mg_of X G a_sum_of_products, U_sum_of_products.binds (ps := ["field", "one", "other"]) fun _ _ _ _ _ _ us hl => match us, hl with | [_, _, _], _ => rfl⟩
  have U_weighted := fun_mk (st := s_weighted) l_weighted c_weighted k_weighted
  have A_weighted : DefAt K mg "weighted" s_weighted ["field", "weights", "vector"] _ _ := ⟨U_weighted, PySem.W.mg_of X G a_weighted, U_weighted.binds (ps := ["field", "weights", "vector"]) fun _ _ _ _ _ _ us hl => match us, hl with | [_, _, _], _ => rfl⟩
  have U_vectors_count := fun_mk (st := s_vectors_count) l_vectors_count c_vectors_count k_vectors_count
  have A_vectors_count : DefAt K mg "vectors_count" s_vectors_count ["field", "weights", "goal"] _ _ := ⟨U_vectors_count, PySem.W.mg_of X G a_vectors_count, U_vectors_count.binds (ps := ["field", "weights", "goal"]) fun _ _ _ _ _ _ us hl => match us, hl with | [_, _, _], _ => rfl⟩
  have U_heavy_places := fun_mk (st := s_heavy_places) l_heavy_places c_heavy_places k_heavy_places
  have A_heavy_places : DefAt K mg "heavy_places" s_heavy_places ["weights"] _ _ := ⟨U_heavy_places, PySem.W.mg_of X G a_heavy_places, U_heavy_places.binds (ps := ["weights"]) fun _ _ _ _ _ _ us hl => match us, hl with | [_], _ => rfl⟩
  have U_all_vectors := fun_mk (st := s_all_vectors) l_all_vectors c_all_vectors k_all_vectors
  have A_all_vectors : DefAt K mg "all_vectors" s_all_vectors ["field", "many"] _ _ := ⟨U_all_vectors, PySem.W.mg_of X G a_all_vectors, U_all_vectors.binds (ps := ["field", "many"]) fun _ _ _ _ _ _ us hl => match us, hl with | [_, _], _ => rfl⟩
  have U_all_lacks := fun_mk (st := s_all_lacks) l_all_lacks c_all_lacks k_all_lacks
  have A_all_lacks : DefAt K mg "all_lacks" s_all_lacks ["field", "weights", "goal"] _ _ := ⟨U_all_lacks, PySem.W.mg_of X G a_all_lacks, U_all_lacks.binds (ps := ["field", "weights", "goal"]) fun _ _ _ _ _ _ us hl => match us, hl with | [_, _, _], _ => rfl⟩
  have U_solved_vectors := fun_mk (st := s_solved_vectors) l_solved_vectors c_solved_vectors k_solved_vectors
  have A_solved_vectors : DefAt K mg "solved_vectors" s_solved_vectors ["field", "weights", "last", "goal"] _ _ := ⟨U_solved_vectors, PySem.W.mg_of X G a_solved_vectors, U_solved_vectors.binds (ps := ["field", "weights", "last", "goal"]) fun _ _ _ _ _ _ us hl => match us, hl with | [_, _, _, _], _ => rfl⟩
  have U_vectors_with := fun_mk (st := s_vectors_with) l_vectors_with c_vectors_with k_vectors_with
  have A_vectors_with : DefAt K mg "vectors_with" s_vectors_with ["field", "weights", "goal"] _ _ := ⟨U_vectors_with, PySem.W.mg_of X G a_vectors_with, U_vectors_with.binds (ps := ["field", "weights", "goal"]) fun _ _ _ _ _ _ us hl => match us, hl with | [_, _, _], _ => rfl⟩
  have U_moved := fun_mk (st := s_moved) l_moved c_moved k_moved
  have A_moved : DefAt K mg "moved" s_moved ["field", "weights", "vector", "goal"] _ _ := ⟨U_moved, PySem.W.mg_of X G a_moved, U_moved.binds (ps := ["field", "weights", "vector", "goal"]) fun _ _ _ _ _ _ us hl => match us, hl with | [_, _, _, _], _ => rfl⟩
  have U__law_dice := fun_mk (st := s__law_dice) l__law_dice c__law_dice k__law_dice
  have A__law_dice : DefAt K mg "_law_dice" s__law_dice ["script", "spot"] _ _ := ⟨U__law_dice, PySem.W.mg_of X G a__law_dice, U__law_dice.binds (ps := ["script", "spot"]) fun _ _ _ _ _ _ us hl => match us, hl with | [_, _], _ => rfl⟩
  have U__law_roll := fun_mk (st := s__law_roll) l__law_roll c__law_roll k__law_roll
  have A__law_roll : DefAt K mg "_law_roll" s__law_roll ["dice", "most"] _ _ := ⟨U__law_roll, PySem.W.mg_of X G a__law_roll, U__law_roll.binds (ps := ["dice", "most"]) fun _ _ _ _ _ _ us hl => match us, hl with | [_, _], _ => rfl⟩
  have U__law_pick := fun_mk (st := s__law_pick) l__law_pick c__law_pick k__law_pick
  have A__law_pick : DefAt K mg "_law_pick" s__law_pick ["dice", "items"] _ _ := ⟨U__law_pick, PySem.W.mg_of X G a__law_pick, U__law_pick.binds (ps := ["dice", "items"]) fun _ _ _ _ _ _ us hl => match us, hl with | [_, _], _ => rfl⟩
  have U__law_fd_primes := fun_mk (st := s__law_fd_primes) l__law_fd_primes c__law_fd_primes k__law_fd_primes
  have A__law_fd_primes : DefAt K mg "_law_fd_primes" s__law_fd_primes [] _ _ := ⟨U__law_fd_primes, PySem.W.mg_of X G a__law_fd_primes, U__law_fd_primes.binds (ps := []) fun _ _ _ _ _ _ us hl => match us, hl with | [], _ => rfl⟩
  have U__law_fd_dot := fun_mk (st := s__law_fd_dot) l__law_fd_dot c__law_fd_dot k__law_fd_dot
  have A__law_fd_dot : DefAt K mg "_law_fd_dot" s__law_fd_dot ["field_here", "one", "other"] _ _ := ⟨U__law_fd_dot, PySem.W.mg_of X G a__law_fd_dot, U__law_fd_dot.binds (ps := ["field_here", "one", "other"]) fun _ _ _ _ _ _ us hl => match us, hl with | [_, _, _], _ => rfl⟩
  have U__law_fd_times := fun_mk (st := s__law_fd_times) l__law_fd_times c__law_fd_times k__law_fd_times
  have A__law_fd_times : DefAt K mg "_law_fd_times" s__law_fd_times ["base", "many"] _ _ := ⟨U__law_fd_times, PySem.W.mg_of X G a__law_fd_times, U__law_fd_times.binds (ps := ["base", "many"]) fun _ _ _ _ _ _ us hl => match us, hl with | [_, _], _ => rfl⟩
  have U__law_all := fun_mk (st := s__law_all) l__law_all c__law_all k__law_all
  have A__law_all : DefAt K mg "_law_all" s__law_all ["p", "size"] _ _ := ⟨U__law_all, PySem.W.mg_of X G a__law_all, U__law_all.binds (ps := ["p", "size"]) fun _ _ _ _ _ _ us hl => match us, hl with | [_, _], _ => rfl⟩
  have U__law_weights_drawn := fun_mk (st := s__law_weights_drawn) l__law_weights_drawn c__law_weights_drawn k__law_weights_drawn
  have A__law_weights_drawn : DefAt K mg "_law_weights_drawn" s__law_weights_drawn ["dice", "p", "size"] _ _ := ⟨U__law_weights_drawn, PySem.W.mg_of X G a__law_weights_drawn, U__law_weights_drawn.binds (ps := ["dice", "p", "size"]) fun _ _ _ _ _ _ us hl => match us, hl with | [_, _, _], _ => rfl⟩
  have U__law_small_right := fun_mk (st := s__law_small_right) l__law_small_right c__law_small_right k__law_small_right
  have A__law_small_right : DefAt K mg "_law_small_right" s__law_small_right ["dice"] _ _ := ⟨U__law_small_right, PySem.W.mg_of X G a__law_small_right, U__law_small_right.binds (ps := ["dice"]) fun _ _ _ _ _ _ us hl => match us, hl with | [_], _ => rfl⟩
  have U__law_great_right := fun_mk (st := s__law_great_right) l__law_great_right c__law_great_right k__law_great_right
  have A__law_great_right : DefAt K mg "_law_great_right" s__law_great_right ["dice"] _ _ := ⟨U__law_great_right, PySem.W.mg_of X G a__law_great_right, U__law_great_right.binds (ps := ["dice"]) fun _ _ _ _ _ _ us hl => match us, hl with | [_], _ => rfl⟩
  have U_law := fun_mk (st := s_law) l_law c_law k_law
  have A_law : DefAt K mg "law" s_law ["script"] _ _ := ⟨U_law, PySem.W.mg_of X G a_law, U_law.binds (ps := ["script"]) fun _ _ _ _ _ _ us hl => match us, hl with | [_], _ => rfl⟩
  have T : Txt K mg := { n_abs := PySem.W.mg_none_of X G z_abs, n_any := PySem.W.mg_none_of X G z_any, n_dict := PySem.W.mg_none_of X G z_dict, n_int := PySem.W.mg_none_of X G z_int, n_isinstance := PySem.W.mg_none_of X G z_isinstance, n_len := PySem.W.mg_none_of X G z_len, n_list := PySem.W.mg_none_of X G z_list, n_max := PySem.W.mg_none_of X G z_max, n_min := PySem.W.mg_none_of X G z_min, n_range := PySem.W.mg_none_of X G z_range, n_sorted := PySem.W.mg_none_of X G z_sorted, n_sum := PySem.W.mg_none_of X G z_sum, n_tuple := PySem.W.mg_none_of X G z_tuple, n_zip := PySem.W.mg_none_of X G z_zip, c_LEAST_FIELD := ⟨(.int 5 tk_LEAST_FIELD, .int 5), PySem.W.mg_of X G q_LEAST_FIELD, ⟨_, rfl⟩, fun Hf => .int _⟩, c_MAX_FIELD := ⟨(.int 997 tk_MAX_FIELD, .int 997), PySem.W.mg_of X G q_MAX_FIELD, ⟨_, rfl⟩, fun Hf => .int _⟩, c_MAX_SIDE := ⟨(.int 60 tk_MAX_SIDE, .int 60), PySem.W.mg_of X G q_MAX_SIDE, ⟨_, rfl⟩, fun Hf => .int _⟩, c_MOST_LISTED := ⟨(.int 100000 tk_MOST_LISTED, .int 100000), PySem.W.mg_of X G q_MOST_LISTED, ⟨_, rfl⟩, fun Hf => .int _⟩, c_SMALL_PRIMES := ⟨(.ref qa_SMALL_PRIMES, .ref qa_SMALL_PRIMES), PySem.W.mg_of X G q_SMALL_PRIMES, rfl, fun Hf => rep_tupK [2, 3, 5, 7, 11, 13, 17, 19, 23, 29, 31] [t0_SMALL_PRIMES, t1_SMALL_PRIMES, t2_SMALL_PRIMES, t3_SMALL_PRIMES, t4_SMALL_PRIMES, t5_SMALL_PRIMES, t6_SMALL_PRIMES, t7_SMALL_PRIMES, t8_SMALL_PRIMES, t9_SMALL_PRIMES, t10_SMALL_PRIMES] r_SMALL_PRIMES rfl rfl (by decide) Hf⟩ }
  refine ⟨PySem.W.fnOf "law" "law" (defArgs s_law) (defBody s_law) (defScope s_law) .none kV_law dc_law pm_law an_law cd_law ct_law, fun s v => .of_eq rfl, fun base _ _ => ?_⟩
  have G_is_integer := ok_is_integer (P := l.prog) (w := w) (base := base) T A_is_integer 
  have G_is_field := ok_is_field (P := l.prog) (w := w) (base := base) T A_is_field A_is_integer G_is_integer
  have G_are_numbers := ok_are_numbers (P := l.prog) (w := w) (base := base) T A_are_numbers 
  have G_is_vector := ok_is_vector (P := l.prog) (w := w) (base := base) T A_is_vector A_are_numbers G_are_numbers
  have G_check_integer := ok_check_integer (P := l.prog) (w := w) (base := base) T A_check_integer A_is_integer G_is_integer
  have G_check_field := ok_check_field (P := l.prog) (w := w) (base := base) T A_check_field A_is_field G_is_field
  have G_check_number := ok_check_number (P := l.prog) (w := w) (base := base) T A_check_number A_check_integer G_check_integer
  have G_check_vector := ok_check_vector (P := l.prog) (w := w) (base := base) T A_check_vector A_is_vector G_is_vector
  have G_raised := ok_raised (P := l.prog) (w := w) (base := base) T A_raised 
  have G_inverse := ok_inverse (P := l.prog) (w := w) (base := base) T A_inverse A_raised G_raised
  have G_rows_count := ok_rows_count (P := l.prog) (w := w) (base := base) T A_rows_count 
  have G_sum_of_products := ok_sum_of_products (P := l.prog) (w := w) (base := base) T A_sum_of_products 
  have G_weighted := ok_weighted (P := l.prog) (w := w) (base := base) T A_weighted A_check_field G_check_field A_check_vector G_check_vector A_sum_of_products G_sum_of_products
  have G_vectors_count := ok_vectors_count (P := l.prog) (w := w) (base := base) T A_vectors_count A_check_field G_check_field A_check_vector G_check_vector A_check_number G_check_number A_rows_count G_rows_count
  have G_heavy_places := ok_heavy_places (P := l.prog) (w := w) (base := base) T A_heavy_places 
  have G_all_vectors := ok_all_vectors (P := l.prog) (w := w) (base := base) T A_all_vectors  8
  have G_all_lacks := ok_all_lacks (P := l.prog) (w := w) (base := base) T A_all_lacks 
  have G_solved_vectors := ok_solved_vectors (P := l.prog) (w := w) (base := base) T A_solved_vectors A_inverse G_inverse A_all_lacks G_all_lacks A_all_vectors G_all_vectors
  have G_vectors_with := ok_vectors_with (P := l.prog) (w := w) (base := base) T A_vectors_with A_check_field G_check_field A_check_vector G_check_vector A_check_number G_check_number A_rows_count G_rows_count A_heavy_places G_heavy_places A_solved_vectors G_solved_vectors A_all_vectors G_all_vectors
  have G_moved := ok_moved (P := l.prog) (w := w) (base := base) T A_moved A_check_field G_check_field A_check_vector G_check_vector A_check_number G_check_number A_heavy_places G_heavy_places A_sum_of_products G_sum_of_products A_inverse G_inverse
  have G__law_dice := ok__law_dice (P := l.prog) (w := w) (base := base) T A__law_dice 
  have G__law_roll := ok__law_roll (P := l.prog) (w := w) (base := base) T A__law_roll 
  have G__law_pick := ok__law_pick (P := l.prog) (w := w) (base := base) T A__law_pick A__law_roll G__law_roll
  have G__law_fd_primes := ok__law_fd_primes (P := l.prog) (w := w) (base := base) T A__law_fd_primes 
  have G__law_fd_dot := ok__law_fd_dot (P := l.prog) (w := w) (base := base) T A__law_fd_dot 
  have G__law_fd_times := ok__law_fd_times (P := l.prog) (w := w) (base := base) T A__law_fd_times 
  have G__law_all := ok__law_all (P := l.prog) (w := w) (base := base) T A__law_all 
  have G__law_weights_drawn := ok__law_weights_drawn (P := l.prog) (w := w) (base := base) T A__law_weights_drawn A__law_pick G__law_pick A__law_roll G__law_roll
  have G__law_small_right := ok__law_small_right (P := l.prog) (w := w) (base := base) T A__law_small_right A__law_pick G__law_pick A__law_roll G__law_roll A__law_weights_drawn G__law_weights_drawn A__law_all G__law_all A__law_fd_dot G__law_fd_dot A_vectors_count G_vectors_count A_vectors_with G_vectors_with A_moved G_moved
  have G__law_great_right := ok__law_great_right (P := l.prog) (w := w) (base := base) T A__law_great_right A__law_pick G__law_pick A__law_fd_primes G__law_fd_primes A__law_weights_drawn G__law_weights_drawn A__law_roll G__law_roll A_weighted G_weighted A__law_fd_dot G__law_fd_dot A__law_fd_times G__law_fd_times A_vectors_count G_vectors_count A_moved G_moved
  have G_law := ok_law (P := l.prog) (w := w) (base := base) T A_law A__law_dice G__law_dice A__law_small_right G__law_small_right A__law_great_right G__law_great_right A_weighted G_weighted A_vectors_count G_vectors_count A_vectors_with G_vectors_with A_moved G_moved
  exact G_law
end K01
end
section
set_option exponentiation.threshold 3000
namespace Lib
open PySem PySem.Spec PyProof.Rows L2 EV
theorem at_cf {xs : List Int} {i : Nat} (h : i < xs.length) : atI (xs.map PyData.int) ((i : Nat) : Int) = some (.int (cf xs i)) := by
  rw [at_ints h, cf_at h]
/-! ### a column, cleared: the steps -/
end Lib
end
section
set_option exponentiation.threshold 3000
namespace Lib
open PySem PySem.Spec PyProof.Rows L2 EV
end Lib
end
section
set_option exponentiation.threshold 3000
namespace Lib
open PySem PySem.Spec PyProof.Rows L2 EV
/-! ### rows, reduced: the program's loop -/
theorem compL_filt {α : Type} {vs : List Nat} {tg : Wv → Gh → Option Gh} {ts : MT} {el : ME} {e F : α → Da} {q : α → Bool} {g : Gh} : ∀ {xs : List α}, (∀ x ∈ xs, ∃ g1 g2, tg (.dat (e x)) g = some g1 ∧ ts g1 = some (q x, g2) ∧ (q x = true → ∃ w g3 g4, el g2 = some (w, g3) ∧ toD w g3 = some (F x, g4) ∧ wipeG g4 vs = g) ∧ (q x = false → wipeG g2 vs = g)) → compL vs tg ts el (xs.map e) g = some ((xs.filter q).map F, g)
  | [], _ => rfl
  | d :: ds, h => by
    obtain ⟨g1, g2, h1, h2, h3, h4⟩ := h d List.mem_cons_self
    have ih := compL_filt fun d hd => h d (List.mem_cons_of_mem _ hd)
    rw [List.map_cons]
    unfold compL
    rw [h1, Option.bind_some, h2, Option.bind_some]
    by_cases hq : q d = true
    · obtain ⟨w, g3, g4, k1, k2, k3⟩ := h3 hq
      rw [List.filter_cons, if_pos hq]
      simp only [hq, if_true]
      rw [k1, Option.bind_some, k2, Option.bind_some, k3, ih]
      rfl
    · have hq : q d = false := by simpa using hq
      rw [List.filter_cons, if_neg (by simp [hq])]
      simp only [hq, if_false, Bool.false_eq_true]
      rw [h4 hq, ih]
theorem comp_filt {α : Type} {vs : List Nat} {tg : Wv → Gh → Option Gh} {ts : MT} {el : ME} {it : MI} {e F : α → Da} {q : α → Bool} {g g' gw : Gh} {xs : List α} (hi : it g = some (xs.map e, g')) (hl : xs.length ≤ 1000000) (hw : wipeG g' vs = gw) (hr : restore vs g' gw = g') (h : ∀ x ∈ xs, ∃ g1 g2, tg (.dat (e x)) gw = some g1 ∧ ts g1 = some (q x, g2) ∧ (q x = true → ∃ w g3 g4, el g2 = some (w, g3) ∧ toD w g3 = some (F x, g4) ∧ wipeG g4 vs = gw) ∧ (q x = false → wipeG g2 vs = gw)) : mComp vs it tg ts el g = some (.fresh ((xs.filter q).map F), g') := by
  rw [e_comp, hi, Option.bind_some, if_pos (by rw [List.length_map]; exact sl_lt hl), hw, compL_filt h, Option.bind_some, hr]
def intN (k : Nat) : Da := .int (k : Int)
end Lib
end
section
set_option exponentiation.threshold 3000
namespace Lib
open PySem PySem.Spec PyProof.Rows L2 EV
/-! ### sums of products -/
theorem sum_dot : ∀ xs ys : List Int, (List.zipWith (fun x y => x * y) xs ys).sum = dotZ xs ys
  | [], ys => by cases ys <;> rfl
  | x :: xs, [] => rfl
  | x :: xs, y :: ys => by
    rw [List.zipWith_cons_cons, List.sum_cons, sum_dot xs ys]
    rfl
theorem sop_gen {C : ME} {p s v : Int} {A B : Da} {L : List Da} (eC : C [.val (.int p), .val A, .val B, .un, .un] = some (.fresh L, [.val (.int p), .val A, .val B, .un, .un])) (eS : dSum [.list L] = some (.dat (.int s))) (eM : dMod (.int s) (.int p) = some (.dat (.int v))) : bodyM [] 2 (sRet [] (mBin dMod (mCall dSum (mCons C mNil)) (mName 0))) [.val (.int p), .val A, .val B] = some (.dat (.int v), [.val (.int p), .val A, .val B]) := by
  simp only [e_bodyM, e_seq, e_nil, e_if, e_set, e_ret, e_drop, e_par, e_asg, e_for, e_app, e_setix, e_aug, e_name, e_c, e_anil, e_acons, e_bin, e_cmp, e_brk, e_cnt, e_retn, e_ix, e_call, e_fn, e_fn0, e_fnD, e_ifx, e_oft, e_tru, e_not, e_and, e_or, e_andv, e_orv, e_notv, e_neg, e_isi, e_chain, e_lst, e_tup, e_it, e_rg1, e_rg2, e_zip, e_enum, e_revi, e_rev, e_o0, e_o1, e_sl, e_dict0, e_yes, e_comp, e_pop, e_asB, e_toDd, e_toDf, e_toDs, e_lkd, e_lkf, e_lks, e_lan, e_lac, e_tdn, e_tdc, e_tsn, e_tsd, e_tsf, e_tss, e_snd, e_snf, e_snn, e_snc, e_sod, e_sof, e_st, e_fln, e_keep, e_itl, e_itt, e_rr1, e_rr2, e_tupRg, e_lstRg, e_revR, e_popAt, e_ext, e_tupRev, e_repL, e_lenSet, e_enumA, e_zipA, e_zip3, d_addT, flat1,
  d_add, d_sub, d_lt, d_le, d_gt, d_ge, d_eq, d_ne, d_ixl, d_ixt, d_lenl, d_lent, d_inti, d_intb, d_abs, d_max2, d_min2, d_tupl, d_tupt, d_lsl, d_lst, d_rb, t_b, t_i, t_l, t_t, is_nb, is_bb, k_ii, k_ib, k_bi, k_bb, k_ni, k_si, k_ti, k_li, k_di, k_tt, isNone, isBl,
  Option.bind_some, Option.bind_none, Option.map_some, Option.map_none, List.append_nil, List.cons_append, List.nil_append, List.replicate, List.getElem?_cons_zero, List.getElem?_cons_succ, List.getElem?_nil, List.set_cons_zero, List.set_cons_succ, List.length_cons, List.length_nil, List.mapIdx_cons, List.mapIdx_nil, List.contains_nil, List.contains_cons, Bool.false_eq_true, if_true, if_false, reduceIte, Bool.not_true, Bool.not_false, Option.getD_some, Function.comp, List.map_cons, List.map_nil,
  Nat.reduceLT, Nat.reduceAdd, Nat.reduceBEq, Nat.reduceEqDiff, Nat.reduceLeDiff, Int.reduceLT, Int.reduceLE, decide_true, decide_false, beq_self_eq_true, Bool.or_false, Bool.or_true, Bool.true_or, Bool.false_or, Bool.and_true, Bool.true_and, Bool.and_false, Bool.false_and, and_self, Nat.zero_add, eC, eS, eM]
theorem sop_comp {p : Int} (hp : 5 ≤ p) (hp2 : p ≤ 997) (b c : Bool) {xs ys : List Int} (hx : InF p xs) (hy : InF p ys) (hl : xs.length ≤ 1000) : mComp [3, 4] (mZipA (mCons (mName 1) (mCons (mName 2) mNil))) (setT [3, 4]) mYes (mBin dMul (mName 3) (mName 4)) [.val (.int p), .val (sqD b (xs.map PyData.int)), .val (sqD c (ys.map PyData.int)), .un, .un] = some (.fresh ((List.zipWith (fun x y => x * y) xs ys).map PyData.int), [.val (.int p), .val (sqD b (xs.map PyData.int)), .val (sqD c (ys.map PyData.int)), .un, .un]) := by
  have z : zipD (xs.map PyData.int) (ys.map PyData.int) = (List.zip xs ys).map prD := by
    unfold zipD
    rw [List.zipWith_map, List.zip, List.map_zipWith]; rfl
  have ev : (List.zipWith (fun x y => x * y) xs ys).map PyData.int = (List.zip xs ys).map fun t => .int (t.1 * t.2) := by
    rw [List.zip, List.map_zipWith, List.map_zipWith]
  rw [ev]
  refine comp_of (e := prD) (F := fun t => .int (t.1 * t.2)) (by rw [← z]; exact zipA_of rfl rfl (it_sq b _) (it_sq c _)) (by rw [List.length_zip]; omega) rfl rfl fun t ht => ?_
  have t1 := hx t.1 (List.of_mem_zip ht).1
  have t2 := hy t.2 (List.of_mem_zip ht).2
  refine ⟨[.val (.int p), .val (sqD b (xs.map PyData.int)), .val (sqD c (ys.map PyData.int)), .val (.int t.1), .val (.int t.2)], .dat (.int (t.1 * t.2)), [.val (.int p), .val (sqD b (xs.map PyData.int)), .val (sqD c (ys.map PyData.int)), .val (.int t.1), .val (.int t.2)], _, rfl, ?_, rfl, rfl⟩
  simp only [e_bodyM, e_seq, e_nil, e_if, e_set, e_ret, e_drop, e_par, e_asg, e_for, e_app, e_setix, e_aug, e_name, e_c, e_anil, e_acons, e_bin, e_cmp, e_brk, e_cnt, e_retn, e_ix, e_call, e_fn, e_fn0, e_fnD, e_ifx, e_oft, e_tru, e_not, e_and, e_or, e_andv, e_orv, e_notv, e_neg, e_isi, e_chain, e_lst, e_tup, e_it, e_rg1, e_rg2, e_zip, e_enum, e_revi, e_rev, e_o0, e_o1, e_sl, e_dict0, e_yes, e_comp, e_pop, e_asB, e_toDd, e_toDf, e_toDs, e_lkd, e_lkf, e_lks, e_lan, e_lac, e_tdn, e_tdc, e_tsn, e_tsd, e_tsf, e_tss, e_snd, e_snf, e_snn, e_snc, e_sod, e_sof, e_st, e_fln, e_keep, e_itl, e_itt, e_rr1, e_rr2, e_tupRg, e_lstRg, e_revR, e_popAt, e_ext, e_tupRev, e_repL, e_lenSet, e_enumA, e_zipA, e_zip3, d_addT, flat1,
  d_add, d_sub, d_lt, d_le, d_gt, d_ge, d_eq, d_ne, d_ixl, d_ixt, d_lenl, d_lent, d_inti, d_intb, d_abs, d_max2, d_min2, d_tupl, d_tupt, d_lsl, d_lst, d_rb, t_b, t_i, t_l, t_t, is_nb, is_bb, k_ii, k_ib, k_bi, k_bb, k_ni, k_si, k_ti, k_li, k_di, k_tt, isNone, isBl,
  Option.bind_some, Option.bind_none, Option.map_some, Option.map_none, List.append_nil, List.cons_append, List.nil_append, List.replicate, List.getElem?_cons_zero, List.getElem?_cons_succ, List.getElem?_nil, List.set_cons_zero, List.set_cons_succ, List.length_cons, List.length_nil, List.mapIdx_cons, List.mapIdx_nil, List.contains_nil, List.contains_cons, Bool.false_eq_true, if_true, if_false, reduceIte, Bool.not_true, Bool.not_false, Option.getD_some, Function.comp, List.map_cons, List.map_nil,
  Nat.reduceLT, Nat.reduceAdd, Nat.reduceBEq, Nat.reduceEqDiff, Nat.reduceLeDiff, Int.reduceLT, Int.reduceLE, decide_true, decide_false, beq_self_eq_true, Bool.or_false, Bool.or_true, Bool.true_or, Bool.false_or, Bool.and_true, Bool.true_and, Bool.and_false, Bool.false_and, and_self, Nat.zero_add, d_mul _ _ (big t1.1 (by omega)) (big t2.1 (by omega))]
theorem t_sum_of_products {p : Int} (hp : 5 ≤ p) (hp2 : p ≤ 997) (b c : Bool) {xs ys : List Int} (hx : InF p xs) (hy : InF p ys) (hl : xs.length ≤ 1000) : F_sum_of_products [.val (.int p), .val (sqD b (xs.map PyData.int)), .val (sqD c (ys.map PyData.int))] = some (.dat (.int (dotZ xs ys % p)), [.val (.int p), .val (sqD b (xs.map PyData.int)), .val (sqD c (ys.map PyData.int))]) := by
  have e := d_sum (List.zipWith (fun x y => x * y) xs ys)
  rw [sum_dot] at e
  unfold F_sum_of_products m_sum_of_products
  exact sop_gen (sop_comp hp hp2 b c hx hy hl) e (d_mod _ _ (by omega))
/-! ### rows and a vector -/
def putR (p : Int) (rows : List (List Int)) (v : List Int) : List Int := rows.map fun r => dotZ r v % p
theorem putR_in {p : Int} (hp : 0 < p) (rows : List (List Int)) (v : List Int) : InF p (putR p rows v) := fun x hx => by
  unfold putR at hx
  obtain ⟨r, _, rfl⟩ := List.mem_map.mp hx
  exact ⟨Int.emod_nonneg _ (by omega), Int.emod_lt_of_pos _ hp⟩
/-! ### columns -/
end Lib
end
section
set_option exponentiation.threshold 3000
namespace Lib
open PySem PySem.Spec PyProof.Rows L2 EV
theorem t_is_vector {p : Int} (hp : 5 ≤ p) {xs : List Int} (hx : InF p xs) (hl : xs.length ≤ 60) : F_is_vector [.val (.int p), .val (.tuple (xs.map PyData.int))] = some (.dat (.bool true), [.val (.int p), .val (.tuple (xs.map PyData.int))]) := by
  have e := t_are_numbers hp hx (by omega)
  have l : decide (((xs.length : Nat) : Int) ≤ 60) = true := decide_eq_true (by omega)
  unfold F_is_vector m_is_vector
  simp only [e_bodyM, e_seq, e_nil, e_if, e_set, e_ret, e_drop, e_par, e_asg, e_for, e_app, e_setix, e_aug, e_name, e_c, e_anil, e_acons, e_bin, e_cmp, e_brk, e_cnt, e_retn, e_ix, e_call, e_fn, e_fn0, e_fnD, e_ifx, e_oft, e_tru, e_not, e_and, e_or, e_andv, e_orv, e_notv, e_neg, e_isi, e_chain, e_lst, e_tup, e_it, e_rg1, e_rg2, e_zip, e_enum, e_revi, e_rev, e_o0, e_o1, e_sl, e_dict0, e_yes, e_comp, e_pop, e_asB, e_toDd, e_toDf, e_toDs, e_lkd, e_lkf, e_lks, e_lan, e_lac, e_tdn, e_tdc, e_tsn, e_tsd, e_tsf, e_tss, e_snd, e_snf, e_snn, e_snc, e_sod, e_sof, e_st, e_fln, e_keep, e_itl, e_itt, e_rr1, e_rr2, e_tupRg, e_lstRg, e_revR, e_popAt, e_ext, e_tupRev, e_repL, e_lenSet, e_enumA, e_zipA, e_zip3, d_addT, flat1,
  d_add, d_sub, d_lt, d_le, d_gt, d_ge, d_eq, d_ne, d_ixl, d_ixt, d_lenl, d_lent, d_inti, d_intb, d_abs, d_max2, d_min2, d_tupl, d_tupt, d_lsl, d_lst, d_rb, t_b, t_i, t_l, t_t, is_nb, is_bb, k_ii, k_ib, k_bi, k_bb, k_ni, k_si, k_ti, k_li, k_di, k_tt, isNone, isBl,
  Option.bind_some, Option.bind_none, Option.map_some, Option.map_none, List.append_nil, List.cons_append, List.nil_append, List.replicate, List.getElem?_cons_zero, List.getElem?_cons_succ, List.getElem?_nil, List.set_cons_zero, List.set_cons_succ, List.length_cons, List.length_nil, List.mapIdx_cons, List.mapIdx_nil, List.contains_nil, List.contains_cons, Bool.false_eq_true, if_true, if_false, reduceIte, Bool.not_true, Bool.not_false, Option.getD_some, Function.comp, List.map_cons, List.map_nil,
  Nat.reduceLT, Nat.reduceAdd, Nat.reduceBEq, Nat.reduceEqDiff, Nat.reduceLeDiff, Int.reduceLT, Int.reduceLE, decide_true, decide_false, beq_self_eq_true, Bool.or_false, Bool.or_true, Bool.true_or, Bool.false_or, Bool.and_true, Bool.true_and, Bool.and_false, Bool.false_and, and_self, Nat.zero_add, e, List.length_map, l]
theorem t_check_vector {p : Int} (hp : 5 ≤ p) {xs : List Int} (hx : InF p xs) (hl : xs.length ≤ 60) : F_check_vector [.val (.int p), .val (.tuple (xs.map PyData.int))] = some (.dat .none, [.val (.int p), .val (.tuple (xs.map PyData.int))]) := by
  have e := t_is_vector hp hx hl
  unfold F_check_vector m_check_vector
  simp only [e_bodyM, e_seq, e_nil, e_if, e_set, e_ret, e_drop, e_par, e_asg, e_for, e_app, e_setix, e_aug, e_name, e_c, e_anil, e_acons, e_bin, e_cmp, e_brk, e_cnt, e_retn, e_ix, e_call, e_fn, e_fn0, e_fnD, e_ifx, e_oft, e_tru, e_not, e_and, e_or, e_andv, e_orv, e_notv, e_neg, e_isi, e_chain, e_lst, e_tup, e_it, e_rg1, e_rg2, e_zip, e_enum, e_revi, e_rev, e_o0, e_o1, e_sl, e_dict0, e_yes, e_comp, e_pop, e_asB, e_toDd, e_toDf, e_toDs, e_lkd, e_lkf, e_lks, e_lan, e_lac, e_tdn, e_tdc, e_tsn, e_tsd, e_tsf, e_tss, e_snd, e_snf, e_snn, e_snc, e_sod, e_sof, e_st, e_fln, e_keep, e_itl, e_itt, e_rr1, e_rr2, e_tupRg, e_lstRg, e_revR, e_popAt, e_ext, e_tupRev, e_repL, e_lenSet, e_enumA, e_zipA, e_zip3, d_addT, flat1,
  d_add, d_sub, d_lt, d_le, d_gt, d_ge, d_eq, d_ne, d_ixl, d_ixt, d_lenl, d_lent, d_inti, d_intb, d_abs, d_max2, d_min2, d_tupl, d_tupt, d_lsl, d_lst, d_rb, t_b, t_i, t_l, t_t, is_nb, is_bb, k_ii, k_ib, k_bi, k_bb, k_ni, k_si, k_ti, k_li, k_di, k_tt, isNone, isBl,
  Option.bind_some, Option.bind_none, Option.map_some, Option.map_none, List.append_nil, List.cons_append, List.nil_append, List.replicate, List.getElem?_cons_zero, List.getElem?_cons_succ, List.getElem?_nil, List.set_cons_zero, List.set_cons_succ, List.length_cons, List.length_nil, List.mapIdx_cons, List.mapIdx_nil, List.contains_nil, List.contains_cons, Bool.false_eq_true, if_true, if_false, reduceIte, Bool.not_true, Bool.not_false, Option.getD_some, Function.comp, List.map_cons, List.map_nil,
  Nat.reduceLT, Nat.reduceAdd, Nat.reduceBEq, Nat.reduceEqDiff, Nat.reduceLeDiff, Int.reduceLT, Int.reduceLE, decide_true, decide_false, beq_self_eq_true, Bool.or_false, Bool.or_true, Bool.true_or, Bool.false_or, Bool.and_true, Bool.true_and, Bool.and_false, Bool.false_and, and_self, Nat.zero_add, e]
end Lib
end
section
set_option exponentiation.threshold 3000
namespace Lib
open PySem PySem.Spec PyProof.Rows L2 EV
end Lib
end
section
set_option exponentiation.threshold 3000
namespace Lib
open PySem PySem.Spec PyProof.Rows L2 EV
/-! ### numbers put at places -/
def setsP (v : List Int) (ps : List (Nat × Int)) : List Int := ps.foldl (fun v t => v.set t.1 t.2) v
theorem setsP_cons (v : List Int) (t : Nat × Int) (ps : List (Nat × Int)) : setsP v (t :: ps) = setsP (v.set t.1 t.2) ps := rfl
theorem setsP_len : ∀ (ps : List (Nat × Int)) (v : List Int), (setsP v ps).length = v.length
  | [], v => rfl
  | t :: ps, v => by rw [setsP_cons, setsP_len ps, List.length_set]
theorem setsP_out {j : Nat} : ∀ (ps : List (Nat × Int)) (v : List Int), j ∉ ps.map (fun t => t.1) → cf (setsP v ps) j = cf v j
  | [], v, _ => rfl
  | t :: ps, v, h => by
    rw [List.map_cons, List.mem_cons] at h
    rw [setsP_cons, setsP_out ps _ fun z => h (.inr z)]
    by_cases hl : t.1 < v.length
    · rw [cf_set hl, if_neg fun z => h (.inl z)]
    · rw [List.set_eq_of_length_le (by omega)]
theorem setsP_at : ∀ (ps : List (Nat × Int)) (v : List Int) (t : Nat × Int), (ps.map fun t => t.1).Nodup → t ∈ ps → t.1 < v.length → cf (setsP v ps) t.1 = t.2
  | u :: ps, v, t, nd, h, hl => by
    rw [List.map_cons, List.nodup_cons] at nd
    rw [setsP_cons]
    rcases List.mem_cons.mp h with rfl | h
    · rw [setsP_out ps _ nd.1, cf_set hl, if_pos rfl]
    · exact setsP_at ps _ t nd.2 h (by rw [List.length_set]; exact hl)
def kerP (p : Int) (R : List (List Int)) (hs : List Nat) (c : Nat) : List (Nat × Int) := (List.range hs.length).map fun k => (headK hs k, (-(rowK R k c)) % p)
def kerV (p : Int) (R : List (List Int)) (hs : List Nat) (n c : Nat) : List Int := setsP ((List.replicate n (0 : Int)).set c 1) (kerP p R hs c)
section
variable {p : Int} {n : Nat} {R : List (List Int)} {hs : List Nat}
theorem kerP_keys (h : Rref p n R hs) (c : Nat) : ((kerP p R hs c).map fun t => t.1).Nodup := by
  unfold kerP
  rw [List.map_map]
  refine List.pairwise_map.mpr ((List.nodup_range).imp_of_mem fun {a b} ha hb hne e => hne ?_)
  rw [List.mem_range] at ha hb
  have l := h.len
  exact headK_inj h (by omega) (by omega) e
theorem kerV_len (c : Nat) : (kerV p R hs n c).length = n := by unfold kerV; rw [setsP_len, List.length_set, List.length_replicate]
theorem kerV_cf (h : Rref p n R hs) {c : Nat} (hc : c < n) (hno : ∀ k, k < R.length → headK hs k ≠ c) (j : Nat) : Cg p (cf (kerV p R hs n c) j) (freeV R hs c j) := by
  have l := h.len
  by_cases hk : ∃ k, k < R.length ∧ headK hs k = j
  · obtain ⟨k, hk, rfl⟩ := hk
    have := setsP_at (kerP p R hs c) ((List.replicate n (0 : Int)).set c 1) (headK hs k, (-(rowK R k c)) % p) (kerP_keys h c) (List.mem_map.mpr ⟨k, by rw [List.mem_range]; omega, rfl⟩) (by rw [List.length_set, List.length_replicate]; exact h.lt k (by omega))
    have e : cf (kerV p R hs n c) (headK hs k) = (-(rowK R k c)) % p := this
    rw [e, freeV_at h hk (hno k hk)]
    exact cg_mod p _
  · have e : cf (kerV p R hs n c) j = cf ((List.replicate n (0 : Int)).set c 1) j := setsP_out _ _ fun hm => by
      unfold kerP at hm
      rw [List.map_map] at hm
      obtain ⟨k, hk', e⟩ := List.mem_map.mp hm
      rw [List.mem_range] at hk'
      exact hk ⟨k, by omega, e⟩
    rw [e, cf_set (by rw [List.length_replicate]; exact hc)]
    by_cases ej : j = c
    · subst ej
      rw [if_pos rfl, freeV_own h hno]; exact cg_refl p 1
    · rw [if_neg ej, cf_repl, freeV_out h (fun k hk' e => hk ⟨k, hk', e⟩) ej]; exact cg_refl p 0
/-- a dot of rows is a sum over the places -/
theorem dot_sumN : ∀ (xs ys : List Int) (n : Nat), xs.length = n → ys.length = n → dotZ xs ys = sumN n fun i => cf xs i * cf ys i
  | [], [], n, h, _ => by simp at h; subst h; rfl
  | [], y :: ys, n, h, h' => by simp at h h'; omega
  | x :: xs, [], n, h, h' => by simp at h h'; omega
  | x :: xs, y :: ys, n, h, h' => by
    obtain ⟨m, rfl⟩ : ∃ m, n = m + 1 := ⟨n - 1, by simp at h; omega⟩
    have front : ∀ (m : Nat) (f : Nat → Int), sumN (m + 1) f = f 0 + sumN m (fun i => f (i + 1)) := by
      intro m f
      induction m with
      | zero => show 0 + f 0 = f 0 + 0; omega
      | succ m ih => rw [sumN, ih, sumN]; omega
    rw [front]
    show x * y + dotZ xs ys = _
    rw [dot_sumN xs ys m (by simpa using h) (by simpa using h')]
    rfl
end
end Lib
end
section
set_option exponentiation.threshold 3000
namespace Lib
open PySem PySem.Spec PyProof.Rows L2 EV
section
variable {p : Int} {n : Nat} {R : List (List Int)} {hs : List Nat}
/-! ### the kernel -/
def freeL (n : Nat) (hs : List Nat) : List Nat := (List.range n).filter fun k => !decide (k ∈ hs)
end
end Lib
end
section
set_option exponentiation.threshold 3000
namespace Lib
open PySem PySem.Spec PyProof.Rows L2 EV
end Lib
end
section
set_option exponentiation.threshold 3000
namespace Lib
open PySem PySem.Spec PyProof.Rows L2 EV
end Lib
end
section
set_option exponentiation.threshold 3000
namespace Lib
open PySem PySem.Spec PyProof.Rows L2 EV
/-! ### a drawn sequence of any data -/
/-! ### drawn columns of heads -/
end Lib
end
section
set_option exponentiation.threshold 3000
namespace Lib
open PySem PySem.Spec PyProof.Rows L2 EV
end Lib
end
section
set_option exponentiation.threshold 3000
namespace Lib
open PySem PySem.Spec PyProof.Rows L2 EV
end Lib
end
section
set_option exponentiation.threshold 3000
namespace Lib
open PySem PySem.Spec PyProof.Rows L2 EV
/-! ### unit rows and more -/
end Lib
end
section
set_option exponentiation.threshold 3000
namespace Lib
open PySem PySem.Spec PyProof.Rows L2 EV
end Lib
end
section
set_option exponentiation.threshold 3000
namespace Lib
open PySem PySem.Spec PyProof.Rows L2 EV
end Lib
end
section
set_option exponentiation.threshold 3000
namespace Lib
open PySem PySem.Spec PyProof.Rows L2 EV
end Lib
end
section
set_option exponentiation.threshold 3000
namespace Lib
open PySem PySem.Spec PyProof.Rows L2 EV
end Lib
end
section
set_option exponentiation.threshold 3000
namespace Lib
open PySem PySem.Spec PyProof.Rows L2 EV
section
variable {p : Int} {n s : Nat} {R W : List (List Int)}
theorem cf_mapA {α : Type} {f : α → Int} {xs : List α} {i : Nat} (h : i < xs.length) : cf (xs.map f) i = f xs[i] := by
  unfold cf
  rw [List.getD_eq_getElem?_getD, List.getElem?_map, List.getElem?_eq_getElem h]; rfl
end
end Lib
end
section
set_option exponentiation.threshold 3000
namespace Lib
open PySem PySem.Spec PyProof.Rows L2 EV
end Lib
end
section
set_option exponentiation.threshold 3000
namespace Lib
open PySem PySem.Spec PyProof.Rows L2 EV
/-! ### other rows with the same kernel -/
end Lib
end
section
set_option exponentiation.threshold 3000
namespace Lib
open PySem PySem.Spec PyProof.Rows L2 EV
/-! ### ranks -/
end Lib
end
section
set_option exponentiation.threshold 3000
namespace Lib
open PySem PySem.Spec PyProof.Rows L2 EV
/-! ### the frame of a law: its spots, and its turns -/
end Lib
end
section
set_option autoImplicit false
namespace Lib
open PySem PySem.Spec PyProof.Rows L2 EV
end Lib
end
section
set_option exponentiation.threshold 3000
namespace Lib
open PySem PySem.Spec PyProof.Rows L2 EV
/-! ### rows with their origin: solved or barred -/
end Lib
end
section
set_option exponentiation.threshold 3000
namespace Lib
open PySem PySem.Spec PyProof.Rows L2 EV
/-! ### solution_or_bar -/
theorem cut_drop (X : List Da) (k : Nat) {ki : Int} (hk : ki = (k : Nat)) (h : k ≤ X.length) : EV.cutD X (some ki) none = X.drop k := by
  subst hk
  unfold EV.cutD HT.sIx
  simp only [show ¬ ((k : Nat) : Int) < 0 by omega, if_false, Int.toNat_natCast]
  rw [Nat.min_eq_left h]
  exact List.take_of_length_le (by rw [List.length_drop]; omega)
/-! ### the whole of it -/
end Lib
end
section
set_option exponentiation.threshold 3000
namespace Lib
open PySem PySem.Spec PyProof.Rows L2 EV
/-! ### papers, for any value -/
theorem flat_str {n : Nat} {w : Str} (h : (PyData.str w).canLay0 = true) : Flat n (.str w) := ⟨rfl, h, by simp only [PyData.depth]; omega⟩
end Lib
end
section
set_option exponentiation.threshold 3000
namespace Lib
open PySem PySem.Spec PyProof.Rows L2 EV
/-! ### the law's own judge, and the program's -/
end Lib
end
section
set_option exponentiation.threshold 3000
namespace Lib
open PySem PySem.Spec PyProof.Rows L2 EV
/-! ### papers of solved and barred systems -/
end Lib
end
section
set_option exponentiation.threshold 3000
namespace Lib
open PySem PySem.Spec PyProof.Rows L2 EV
/-! ### values near a paper -/
end Lib
end
section
set_option exponentiation.threshold 3000
namespace Lib
open PySem PySem.Spec PyProof.Rows L2 EV
/-! ### all solutions -/
theorem fm_congr {α β : Type} {f g : α → List β} : ∀ {l : List α}, (∀ x ∈ l, f x = g x) → l.flatMap f = l.flatMap g
  | [], _ => rfl
  | x :: l, h => by
    rw [List.flatMap_cons, List.flatMap_cons, h x List.mem_cons_self, fm_congr fun y hy => h y (List.mem_cons_of_mem _ hy)]
def combR (first : List Int) (B : List (List Int)) (cs : List Int) : List Int := (List.zip B cs).foldl (fun acc t => List.zipWith (fun x y => x + y) acc (t.1.map fun y => t.2 * y)) first
def stepS (p : Int) (found : List (List Int)) (row : List Int) : List (List Int) := found.flatMap fun one => (nI p).map fun f => List.zipWith (fun x y => x + y) one (row.map fun y => f * y)
theorem comb_snoc (first : List Int) {B : List (List Int)} {cs : List Int} (b : List Int) (f : Int) (h : cs.length = B.length) : combR first (B ++ [b]) (cs ++ [f]) = List.zipWith (fun x y => x + y) (combR first B cs) (b.map fun y => f * y) := by
  unfold combR
  rw [List.zip_append h.symm, List.foldl_append]; rfl
theorem steps_all (p : Int) (first : List Int) : ∀ (B : List (List Int)) , B.foldl (stepS p) [first] = (vecs p B.length).map (combR first B) := by
  intro B
  obtain ⟨A, hA⟩ : ∃ A, A = B.reverse := ⟨_, rfl⟩
  have : B = A.reverse := by rw [hA, List.reverse_reverse]
  subst this
  clear hA
  induction A with
  | nil => rfl
  | cons b A ih =>
    rw [List.reverse_cons, List.foldl_append, ih, List.length_append, List.length_cons, List.length_nil, Nat.zero_add, vecs]
    show stepS p ((vecs p A.reverse.length).map (combR first A.reverse)) b = _
    unfold stepS
    rw [List.flatMap_map, List.map_flatMap]
    refine fm_congr fun c hc => ?_
    rw [List.map_map]
    refine List.map_congr_left fun f _ => ?_
    exact (comb_snoc first b f (mem_vecs.mp hc).1).symm
section
variable {p : Int} {n : Nat} {T R : List (List Int)} {v first : List Int} {hs : List Nat}
theorem cf_zw {xs ys : List Int} (hx : xs.length = n) (hy : ys.length = n) {j : Nat} (hj : j < n) : cf (List.zipWith (fun x y => x + y) xs ys) j = cf xs j + cf ys j := by
  rw [cf_at (by rw [List.length_zipWith]; omega), List.getElem_zipWith, cf_at (by omega), cf_at (by omega)]
theorem comb_all (hl : first.length = n) {B : List (List Int)} (hB : ∀ r ∈ B, r.length = n) {cs : List Int} (hc : cs.length = B.length) : (combR first B cs).length = n ∧ ∀ j, j < n → cf (combR first B cs) j = cf first j + sumN B.length fun i => cf cs i * rowK B i j := by
  obtain ⟨A, hA⟩ : ∃ A, A = B.reverse := ⟨_, rfl⟩
  have : B = A.reverse := by rw [hA, List.reverse_reverse]
  subst this
  clear hA
  induction A generalizing cs with
  | nil =>
    have : cs = [] := List.length_eq_zero_iff.mp (by simpa using hc)
    subst this
    exact ⟨hl, fun j _ => by show cf first j = cf first j + 0; omega⟩
  | cons b A ih =>
    rw [List.reverse_cons] at hB hc ⊢
    rw [List.length_append, List.length_cons, List.length_nil] at hc
    obtain ⟨d, f, rfl⟩ : ∃ d f, cs = d ++ [f] := by
      have hne : cs ≠ [] := fun e => by rw [e] at hc; simp at hc
      exact ⟨cs.dropLast, cs.getLast hne, (List.dropLast_concat_getLast hne).symm⟩
    rw [List.length_append, List.length_cons, List.length_nil] at hc
    have hd : d.length = A.reverse.length := by omega
    obtain ⟨i1, i2⟩ := ih (fun r hr => hB r (List.mem_append_left _ hr)) hd
    have lb := hB b (List.mem_append_right _ List.mem_cons_self)
    rw [comb_snoc first b f hd]
    refine ⟨by rw [List.length_zipWith, List.length_map]; omega, fun j hj => ?_⟩
    rw [cf_zw i1 (by rw [List.length_map]; exact lb) hj, i2 j hj, List.length_append, List.length_cons, List.length_nil, Nat.zero_add, sumN]
    have e1 : (sumN A.reverse.length fun i => cf (d ++ [f]) i * rowK (A.reverse ++ [b]) i j) = sumN A.reverse.length fun i => cf d i * rowK A.reverse i j := sumN_congr fun i hi => by
      rw [cf_app1 (by omega)]
      congr 1
      unfold rowK
      rw [List.getD_eq_getElem?_getD, List.getD_eq_getElem?_getD, List.getElem?_append_left hi]
    have e2 : cf (d ++ [f]) A.reverse.length = f := by rw [cf_app2 (by omega), hd, Nat.sub_self]; rfl
    have e3 : rowK (A.reverse ++ [b]) A.reverse.length j = cf b j := by
      unfold rowK
      rw [List.getD_eq_getElem?_getD, List.getElem?_append_right (Nat.le_refl _), Nat.sub_self]; rfl
    rw [e1, e2, e3, cf_map (by rw [Int.mul_zero])]
    omega
theorem ker_free0 (h : Rref p n R hs) {y : Nat → Int} (hy : Ker p n R y) (h0 : ∀ j, j < n → j ∉ hs → Cg p (y j) 0) : ∀ j, j < n → Cg p (y j) 0 := fun j hj => by
  by_cases hm : j ∈ hs
  · obtain ⟨k, hk, rfl⟩ := (mem_heads h).mp hm
    have l := h.len
    have a : Cg p (sumN n fun i => rowK R k i * y i) (sumN n fun i => if i = headK hs k then y i else 0) := sumN_cg fun i hi => by
      by_cases e : i = headK hs k
      · subst e
        rw [if_pos rfl, h.one k hk, Int.one_mul]; exact cg_refl p _
      · rw [if_neg e]
        by_cases hi' : i ∈ hs
        · obtain ⟨m, hm', rfl⟩ := (mem_heads h).mp hi'
          rw [h.oth k m hk hm' fun z => e (by rw [z]), Int.zero_mul]; exact cg_refl p 0
        · have := cg_mul (cg_refl p (rowK R k i)) (h0 i hi hi')
          rwa [Int.mul_zero] at this
    rw [sumN_one (h.lt k (by omega)) fun i _ hne => if_neg hne, if_pos rfl] at a
    exact cg_tr (cg_sym a) (hy k hk)
  · exact h0 j hj hm
def solS (p : Int) (n : Nat) (T : List (List Int)) (v : List Int) : List (List Int) := (vecs p n).filter fun x => decide (putR p T x = v)
theorem put_iff (hp : 0 < p) (hT : ∀ r ∈ T, r.length = n ∧ InF p r) (hv : InF p v) (lv : v.length = T.length) {x : List Int} (lx : x.length = n) : putR p T x = v ↔ ∀ k, k < T.length → Cg p (sumN n fun j => rowK T k j * cf x j) (cf v k) := by
  have at_ : ∀ k (hk : k < T.length), cf (putR p T x) k = (sumN n fun j => rowK T k j * cf x j) % p := fun k hk => by
    unfold putR
    rw [cf_mapA hk, dot_sumN _ _ n (hT _ (List.getElem_mem hk)).1 lx]
    congr 1
    exact sumN_congr fun j _ => by unfold rowK; rw [getD_el hk]
  constructor
  · intro e k hk
    rw [← e, at_ k hk]
    exact cg_sym (cg_mod p _)
  · intro h
    refine eq_of_cfs hp (putR_in hp _ _) hv (by unfold putR; rw [List.length_map, lv]) fun k => ?_
    by_cases hk : k < T.length
    · rw [at_ k hk]
      exact cg_tr (cg_mod p _) (h k hk)
    · rw [cf_out (by unfold putR; rw [List.length_map]; omega), cf_out (by omega)]; exact cg_refl p 0
/-- the reduced sums are just the solutions -/
theorem sol_perm (hf : isFld p = true) (hT : ∀ r ∈ T, r.length = n ∧ InF p r) (hR : Rref p n R hs) (hk : ∀ w, Ker p n T w ↔ Ker p n R w) (hv : InF p v) (lv : v.length = T.length) (hF : InF p first) (lF : first.length = n) (sF : ∀ k, k < T.length → Cg p (sumN n fun j => rowK T k j * cf first j) (cf v k)) (zF : ∀ j, j < n → j ∉ hs → cf first j = 0) :
    ((((freeL n hs).map fun c => kerV p R hs n c).foldl (stepS p) [first]).map fun x => x.map fun y => y % p).Perm (solS p n T v) := by
  have hp := fld_pos hf
  obtain ⟨B, hB⟩ : ∃ B, B = (freeL n hs).map fun c => kerV p R hs n c := ⟨_, rfl⟩
  have lB : B.length = (freeL n hs).length := by rw [hB, List.length_map]
  have rB : ∀ r ∈ B, r.length = n := fun r hr => by
    rw [hB] at hr
    obtain ⟨c, _, rfl⟩ := List.mem_map.mp hr
    exact kerV_len c
  have fr : ∀ c ∈ freeL n hs, c < n ∧ c ∉ hs := fun c hc => by
    unfold freeL at hc
    obtain ⟨h1, h2⟩ := List.mem_filter.mp hc
    exact ⟨List.mem_range.mp h1, by simpa using h2⟩
  have hno : ∀ c ∈ freeL n hs, ∀ k, k < R.length → headK hs k ≠ c := fun c hc k hk e => (fr c hc).2 ((mem_heads hR).mpr ⟨k, hk, e⟩)
  have rowB : ∀ (i : Nat) (hi : i < (freeL n hs).length) (j : Nat), Cg p (rowK B i j) (freeV R hs (freeL n hs)[i] j) := fun i hi j => by
    unfold rowK
    rw [hB, List.getD_eq_getElem?_getD, List.getElem?_map, List.getElem?_eq_getElem hi]
    exact kerV_cf hR (fr _ (List.getElem_mem hi)).1 (hno _ (List.getElem_mem hi)) j
  have ndF : (freeL n hs).Nodup := List.nodup_range.filter _
  rw [← hB, steps_all, List.map_map]
  -- at the columns without heads
  have atF : ∀ cs : List Int, cs.length = B.length → ∀ (i : Nat) (hi : i < (freeL n hs).length), Cg p (cf (combR first B cs) (freeL n hs)[i]) (cf cs i) := fun cs lc i hi => by
    have f1 := fr _ (List.getElem_mem hi)
    rw [(comb_all lF rB lc).2 _ f1.1, zF _ f1.1 f1.2, Int.zero_add]
    have a : Cg p (sumN B.length fun m => cf cs m * rowK B m (freeL n hs)[i]) (sumN B.length fun m => if m = i then cf cs i else 0) := sumN_cg fun m hm => by
      have hm' : m < (freeL n hs).length := by omega
      by_cases e : m = i
      · subst e
        rw [if_pos rfl]
        have := cg_mul (cg_refl p (cf cs m)) (rowB m hm' (freeL n hs)[m])
        rw [freeV_own hR (hno _ (List.getElem_mem hm')), Int.mul_one] at this
        exact this
      · rw [if_neg e]
        have := cg_mul (cg_refl p (cf cs m)) (rowB m hm' (freeL n hs)[i])
        rw [freeV_out hR (hno _ (List.getElem_mem hi)) (fun z => e ((List.getElem_inj ndF).mp z).symm), Int.mul_zero] at this
        exact this
    rwa [sumN_one (show i < B.length by omega) fun m _ hne => if_neg hne, if_pos rfl] at a
  have solves : ∀ cs : List Int, cs.length = B.length → ∀ k, k < T.length → Cg p (sumN n fun j => rowK T k j * cf (combR first B cs) j) (cf v k) := fun cs lc k hk' => by
    have e : (sumN n fun j => rowK T k j * cf (combR first B cs) j) = (sumN n fun j => rowK T k j * cf first j) + sumN B.length fun i => cf cs i * sumN n fun j => rowK T k j * rowK B i j := by
      rw [sumN_congr (g := fun j => rowK T k j * cf first j + sumN B.length fun i => cf cs i * (rowK T k j * rowK B i j)) fun j hj => by
        rw [(comb_all lF rB lc).2 j hj, Int.mul_add, ← sumN_mul]
        congr 1
        exact sumN_congr fun i _ => by rw [Int.mul_left_comm]]
      rw [sumN_add, sumN_comm]
      congr 1
      exact sumN_congr fun i _ => by rw [sumN_mul]
    rw [e]
    have b : Cg p (sumN B.length fun i => cf cs i * sumN n fun j => rowK T k j * rowK B i j) (sumN B.length fun _ => 0) := sumN_cg fun i hi => by
      have hi' : i < (freeL n hs).length := by omega
      have z := (hk _).mpr (freeV_ker hR (fr _ (List.getElem_mem hi')).1) k hk'
      have z' : Cg p (sumN n fun j => rowK T k j * rowK B i j) 0 := cg_tr (sumN_cg fun j _ => cg_mul (cg_refl p _) (rowB i hi' j)) z
      have := cg_mul (cg_refl p (cf cs i)) z'
      rwa [Int.mul_zero] at this
    rw [sumN_zero fun _ _ => rfl] at b
    have := cg_add (sF k hk') b
    rwa [Int.add_zero] at this
  obtain ⟨Φ, hΦ⟩ : ∃ Φ : List Int → List Int, Φ = (fun x : List Int => x.map fun y => y % p) ∘ combR first B := ⟨_, rfl⟩
  rw [← hΦ]
  have cΦ : ∀ cs j, cf (Φ cs) j = cf (combR first B cs) j % p := fun cs j => by rw [hΦ]; exact cf_map (by simp) _ j
  have iΦ : ∀ cs, cs.length = B.length → (Φ cs).length = n ∧ InF p (Φ cs) := fun cs lc => by
    rw [hΦ]
    exact ⟨by show ((combR first B cs).map _).length = n; rw [List.length_map, (comb_all lF rB lc).1], fun x hx => by
      obtain ⟨y, _, rfl⟩ := List.mem_map.mp hx
      exact ⟨Int.emod_nonneg _ (by omega), Int.emod_lt_of_pos _ (by omega)⟩⟩
  have back : ∀ cs ∈ vecs p B.length, ∀ (i : Nat) (hi : i < (freeL n hs).length), cf (Φ cs) (freeL n hs)[i] = cf cs i := fun cs hc i hi => by
    obtain ⟨h1, h2⟩ := mem_vecs.mp hc
    rw [cΦ]
    have := cg_emod (atF cs h1 i hi)
    rw [this]
    have r := cf_in (p := p) (by omega) h2 i
    exact Int.emod_eq_of_lt r.1 r.2
  have nd : ((vecs p B.length).map Φ).Nodup := List.pairwise_map.mpr ((nodup_vecs p B.length).imp_of_mem fun {a b} ha hb hne e => hne (by
    have la := (mem_vecs.mp ha).1
    have lb := (mem_vecs.mp hb).1
    refine List.ext_getElem (by omega) fun i h1 h2 => ?_
    have hi : i < (freeL n hs).length := by omega
    have q := back a ha i hi
    rw [e, back b hb i hi] at q
    rw [cf_at h1, cf_at h2] at q
    exact q.symm))
  refine (List.perm_ext_iff_of_nodup nd ((nodup_vecs p n).filter _)).mpr fun x => ?_
  rw [List.mem_map, List.mem_filter, decide_eq_true_eq]
  constructor
  · rintro ⟨cs, hc, rfl⟩
    have lc := (mem_vecs.mp hc).1
    obtain ⟨l1, l2⟩ := iΦ cs lc
    refine ⟨mem_vecs.mpr ⟨l1, l2⟩, (put_iff (by omega) hT hv lv l1).mpr fun k hk' => ?_⟩
    refine cg_tr (sumN_cg fun j _ => ?_) (solves cs lc k hk')
    rw [cΦ]
    exact cg_mul (cg_refl p _) (cg_mod p _)
  · rintro ⟨hx, ex⟩
    obtain ⟨lx, ix⟩ := mem_vecs.mp hx
    have sx := (put_iff (by omega) hT hv lv lx).mp ex
    obtain ⟨cs, hcs⟩ : ∃ cs, cs = (freeL n hs).map fun c => cf x c := ⟨_, rfl⟩
    have lc : cs.length = B.length := by rw [hcs, List.length_map, lB]
    have ic : InF p cs := fun y hy => by
      rw [hcs] at hy
      obtain ⟨c, _, rfl⟩ := List.mem_map.mp hy
      exact cf_in (by omega) ix c
    have hc : cs ∈ vecs p B.length := mem_vecs.mpr ⟨lc, ic⟩
    refine ⟨cs, hc, ?_⟩
    obtain ⟨l1, l2⟩ := iΦ cs lc
    -- the difference
    have kd : Ker p n R fun j => cf (Φ cs) j - cf x j := (hk _).mp fun k hk' => by
      have a := solves cs lc k hk'
      have a' : Cg p (sumN n fun j => rowK T k j * cf (Φ cs) j) (cf v k) := cg_tr (sumN_cg fun j _ => by rw [cΦ]; exact cg_mul (cg_refl p _) (cg_mod p _)) a
      have d := cg_sub a' (sx k hk')
      rw [Int.sub_self] at d
      have e : (sumN n fun j => rowK T k j * (cf (Φ cs) j - cf x j)) = (sumN n fun j => rowK T k j * cf (Φ cs) j) - sumN n fun j => rowK T k j * cf x j := by
        rw [sumN_congr (g := fun j => rowK T k j * cf (Φ cs) j + (-1) * (rowK T k j * cf x j)) fun j _ => by grind, sumN_add, sumN_mul]
        omega
      rw [e]; exact d
    have z := ker_free0 hR kd fun j hj hno => by
      have hm : j ∈ freeL n hs := List.mem_filter.mpr ⟨List.mem_range.mpr hj, by simpa using hno⟩
      obtain ⟨i, hi, e⟩ := List.getElem_of_mem hm
      have b := back cs hc i hi
      rw [e] at b
      have : cf cs i = cf x j := by rw [hcs, cf_mapA hi, e]
      rw [b, this, Int.sub_self]; exact cg_refl p 0
    refine eq_of_cfs (by omega) l2 ix (by omega) fun j => ?_
    by_cases hj : j < n
    · have := cg_add (z j hj) (cg_refl p (cf x j))
      rwa [Int.sub_add_cancel, Int.zero_add] at this
    · rw [cf_out (by omega), cf_out (by omega)]; exact cg_refl p 0
theorem sol_len (hf : isFld p = true) (hT : ∀ r ∈ T, r.length = n ∧ InF p r) (hR : Rref p n R hs) (hk : ∀ w, Ker p n T w ↔ Ker p n R w) (hv : InF p v) (lv : v.length = T.length) (hF : InF p first) (lF : first.length = n) (sF : ∀ k, k < T.length → Cg p (sumN n fun j => rowK T k j * cf first j) (cf v k)) (zF : ∀ j, j < n → j ∉ hs → cf first j = 0) : (solS p n T v).length = p.toNat ^ (freeL n hs).length := by
  rw [← (sol_perm hf hT hR hk hv lv hF lF sF zF).length_eq, List.length_map, steps_all, List.length_map, len_vecs, List.length_map]
end
end Lib
end
section
set_option exponentiation.threshold 3000
namespace Lib
open PySem PySem.Spec PyProof.Rows L2 EV
/-! ### comprehensions over two lists, the second an own one -/
theorem compL2_two {α : Type} {vs : List Nat} {tg : Wv → Gh → Option Gh} {inn : Gh → Option (List Da × Gh)} {e : α → Da} {G : α → List Da} {gB : Gh} : ∀ {xs : List α} {gA : Gh}, xs ≠ [] → (∀ x ∈ xs, ∃ g1 g2, tg (.dat (e x)) gA = some g1 ∧ inn g1 = some (G x, g2) ∧ wipeG g2 vs = gB) → (∀ x ∈ xs, ∃ g1 g2, tg (.dat (e x)) gB = some g1 ∧ inn g1 = some (G x, g2) ∧ wipeG g2 vs = gB) → compL2 vs tg mYes inn (xs.map e) gA = some ((xs.map G).flatten, gB)
  | [], _, h, _, _ => absurd rfl h
  | x :: xs, gA, _, hA, hB => by
    obtain ⟨g1, g2, h1, h2, h3⟩ := hA x List.mem_cons_self
    have ih := compL2_map (vs := vs) (tg := tg) (inn := inn) (e := e) (G := G) (g := gB) (xs := xs) fun y hy => hB y (List.mem_cons_of_mem _ hy)
    rw [List.map_cons, compL2, h1, Option.bind_some]
    show ((inn g1).bind fun r => (compL2 vs tg mYes inn (xs.map e) (wipeG r.2 vs)).bind fun q => some (r.1 ++ q.1, q.2)) = _
    rw [h2, Option.bind_some]
    dsimp only
    rw [h3, ih]
    rfl
theorem comp2_two {α : Type} {vs vs1 : List Nat} {it it1 : MI} {tg tg1 : Wv → Gh → Option Gh} {ts1 : MT} {el : ME} {e : α → Da} {G : α → List Da} {g g' gA gB gR : Gh} {xs : List α} (hne : xs ≠ []) (hi : it g = some (xs.map e, g')) (hw : wipeG g' vs = gA) (hr : restore vs g' gB = gR) (hl : (xs.map G).flatten.length ≤ sizeLine) (hA : ∀ x ∈ xs, ∃ g1 g2, tg (.dat (e x)) gA = some g1 ∧ innL vs1 it1 tg1 ts1 el g1 = some (G x, g2) ∧ wipeG g2 vs = gB) (hB : ∀ x ∈ xs, ∃ g1 g2, tg (.dat (e x)) gB = some g1 ∧ innL vs1 it1 tg1 ts1 el g1 = some (G x, g2) ∧ wipeG g2 vs = gB) : mComp2 vs vs1 it tg mYes it1 tg1 ts1 el g = some (.fresh (xs.map G).flatten, gR) := by
  unfold mComp2
  rw [hi, Option.bind_some]
  dsimp only
  rw [hw, compL2_two hne hA hB, Option.bind_some]
  dsimp only
  rw [if_pos hl, hr]
/-! ### all solutions, by the program -/
end Lib
end
section
set_option exponentiation.threshold 3000
namespace Lib
open PySem PySem.Spec PyProof.Rows L2 EV
theorem vecs_add (p : Int) (a : Nat) : ∀ b : Nat, vecs p (a + b) = (vecs p a).flatMap fun h => (vecs p b).map fun t => h ++ t
  | 0 => by
    show vecs p a = (vecs p a).flatMap fun h => [([] : List Int)].map fun t => h ++ t
    have e : (fun h : List Int => [([] : List Int)].map fun t => h ++ t) = fun h => [h] := by
      funext h
      simp
    rw [e]
    exact (List.flatMap_singleton' _).symm
  | b + 1 => by
    show (vecs p (a + b)).flatMap (fun row => (nI p).map fun k => row ++ [k]) = _
    rw [vecs_add p a b, List.flatMap_assoc]
    refine fm_congr fun h _ => ?_
    show _ = ((vecs p b).flatMap fun row => (nI p).map fun k => row ++ [k]).map fun t => h ++ t
    rw [List.map_flatMap, List.flatMap_map]
    refine fm_congr fun t _ => ?_
    rw [List.map_map]
    refine List.map_congr_left fun k _ => ?_
    show h ++ t ++ [k] = h ++ (t ++ [k])
    rw [List.append_assoc]
section
variable {p : Int}
theorem av_0 {R : MF} {n : Int} (h : decide (n < 2) = true) (h1 : (n == 1) = false) {M : MS} {C : ME} : (sSeq (sIf (mCmp dLt (mName 1) (mC (.int 2))) (sRet [] (mIf (mCmp dEq (mName 1) (mC (.int 1))) C (mLst (mCons (mTup mNil) mNil)))) sNil) M) [.val (.int p), .val (.int n), .un, .un, .un, .un, .un] = some (.rt (.fresh [.tuple []]), [.val (.int p), .val (.int n), .un, .un, .un, .un, .un]) := by
  simp only [e_bodyM, e_seq, e_nil, e_if, e_set, e_ret, e_drop, e_par, e_asg, e_for, e_app, e_setix, e_aug, e_name, e_c, e_anil, e_acons, e_bin, e_cmp, e_brk, e_cnt, e_retn, e_ix, e_call, e_fn, e_fn0, e_fnD, e_ifx, e_oft, e_tru, e_not, e_and, e_or, e_andv, e_orv, e_notv, e_neg, e_isi, e_chain, e_lst, e_tup, e_it, e_rg1, e_rg2, e_zip, e_enum, e_revi, e_rev, e_o0, e_o1, e_sl, e_dict0, e_yes, e_comp, e_pop, e_asB, e_toDd, e_toDf, e_toDs, e_lkd, e_lkf, e_lks, e_lan, e_lac, e_tdn, e_tdc, e_tsn, e_tsd, e_tsf, e_tss, e_snd, e_snf, e_snn, e_snc, e_sod, e_sof, e_st, e_fln, e_keep, e_itl, e_itt, e_rr1, e_rr2, e_tupRg, e_lstRg, e_revR, e_popAt, e_ext, e_tupRev, e_repL, e_lenSet, e_enumA, e_zipA, e_zip3, d_addT, flat1,
  d_add, d_sub, d_lt, d_le, d_gt, d_ge, d_eq, d_ne, d_ixl, d_ixt, d_lenl, d_lent, d_inti, d_intb, d_abs, d_max2, d_min2, d_tupl, d_tupt, d_lsl, d_lst, d_rb, t_b, t_i, t_l, t_t, is_nb, is_bb, k_ii, k_ib, k_bi, k_bb, k_ni, k_si, k_ti, k_li, k_di, k_tt, isNone, isBl,
  Option.bind_some, Option.bind_none, Option.map_some, Option.map_none, List.append_nil, List.cons_append, List.nil_append, List.replicate, List.getElem?_cons_zero, List.getElem?_cons_succ, List.getElem?_nil, List.set_cons_zero, List.set_cons_succ, List.length_cons, List.length_nil, List.mapIdx_cons, List.mapIdx_nil, List.contains_nil, List.contains_cons, Bool.false_eq_true, if_true, if_false, reduceIte, Bool.not_true, Bool.not_false, Option.getD_some, Function.comp, List.map_cons, List.map_nil,
  Nat.reduceLT, Nat.reduceAdd, Nat.reduceBEq, Nat.reduceEqDiff, Nat.reduceLeDiff, Int.reduceLT, Int.reduceLE, decide_true, decide_false, beq_self_eq_true, Bool.or_false, Bool.or_true, Bool.true_or, Bool.false_or, Bool.and_true, Bool.true_and, Bool.and_false, Bool.false_and, and_self, Nat.zero_add, h, h1, z0, z1]
theorem av_1 {n : Int} (h : decide (n < 2) = true) (h1 : (n == 1) = true) {M : MS} {C D : ME} {L : List Da} (e : C [.val (.int p), .val (.int n), .un, .un, .un, .un, .un] = some (.fresh L, [.val (.int p), .val (.int n), .un, .un, .un, .un, .un])) : (sSeq (sIf (mCmp dLt (mName 1) (mC (.int 2))) (sRet [] (mIf (mCmp dEq (mName 1) (mC (.int 1))) C D)) sNil) M) [.val (.int p), .val (.int n), .un, .un, .un, .un, .un] = some (.rt (.fresh L), [.val (.int p), .val (.int n), .un, .un, .un, .un, .un]) := by
  simp only [e_bodyM, e_seq, e_nil, e_if, e_set, e_ret, e_drop, e_par, e_asg, e_for, e_app, e_setix, e_aug, e_name, e_c, e_anil, e_acons, e_bin, e_cmp, e_brk, e_cnt, e_retn, e_ix, e_call, e_fn, e_fn0, e_fnD, e_ifx, e_oft, e_tru, e_not, e_and, e_or, e_andv, e_orv, e_notv, e_neg, e_isi, e_chain, e_lst, e_tup, e_it, e_rg1, e_rg2, e_zip, e_enum, e_revi, e_rev, e_o0, e_o1, e_sl, e_dict0, e_yes, e_comp, e_pop, e_asB, e_toDd, e_toDf, e_toDs, e_lkd, e_lkf, e_lks, e_lan, e_lac, e_tdn, e_tdc, e_tsn, e_tsd, e_tsf, e_tss, e_snd, e_snf, e_snn, e_snc, e_sod, e_sof, e_st, e_fln, e_keep, e_itl, e_itt, e_rr1, e_rr2, e_tupRg, e_lstRg, e_revR, e_popAt, e_ext, e_tupRev, e_repL, e_lenSet, e_enumA, e_zipA, e_zip3, d_addT, flat1,
  d_add, d_sub, d_lt, d_le, d_gt, d_ge, d_eq, d_ne, d_ixl, d_ixt, d_lenl, d_lent, d_inti, d_intb, d_abs, d_max2, d_min2, d_tupl, d_tupt, d_lsl, d_lst, d_rb, t_b, t_i, t_l, t_t, is_nb, is_bb, k_ii, k_ib, k_bi, k_bb, k_ni, k_si, k_ti, k_li, k_di, k_tt, isNone, isBl,
  Option.bind_some, Option.bind_none, Option.map_some, Option.map_none, List.append_nil, List.cons_append, List.nil_append, List.replicate, List.getElem?_cons_zero, List.getElem?_cons_succ, List.getElem?_nil, List.set_cons_zero, List.set_cons_succ, List.length_cons, List.length_nil, List.mapIdx_cons, List.mapIdx_nil, List.contains_nil, List.contains_cons, Bool.false_eq_true, if_true, if_false, reduceIte, Bool.not_true, Bool.not_false, Option.getD_some, Function.comp, List.map_cons, List.map_nil,
  Nat.reduceLT, Nat.reduceAdd, Nat.reduceBEq, Nat.reduceEqDiff, Nat.reduceLeDiff, Int.reduceLT, Int.reduceLE, decide_true, decide_false, beq_self_eq_true, Bool.or_false, Bool.or_true, Bool.true_or, Bool.false_or, Bool.and_true, Bool.true_and, Bool.and_false, Bool.false_and, and_self, Nat.zero_add, h, h1, e]
theorem av_2 {n : Int} (h : decide (n < 2) = false) {B : MS} : (sIf (mCmp dLt (mName 1) (mC (.int 2))) B sNil) [.val (.int p), .val (.int n), .un, .un, .un, .un, .un] = some (.nx, [.val (.int p), .val (.int n), .un, .un, .un, .un, .un]) := by
  simp only [e_bodyM, e_seq, e_nil, e_if, e_set, e_ret, e_drop, e_par, e_asg, e_for, e_app, e_setix, e_aug, e_name, e_c, e_anil, e_acons, e_bin, e_cmp, e_brk, e_cnt, e_retn, e_ix, e_call, e_fn, e_fn0, e_fnD, e_ifx, e_oft, e_tru, e_not, e_and, e_or, e_andv, e_orv, e_notv, e_neg, e_isi, e_chain, e_lst, e_tup, e_it, e_rg1, e_rg2, e_zip, e_enum, e_revi, e_rev, e_o0, e_o1, e_sl, e_dict0, e_yes, e_comp, e_pop, e_asB, e_toDd, e_toDf, e_toDs, e_lkd, e_lkf, e_lks, e_lan, e_lac, e_tdn, e_tdc, e_tsn, e_tsd, e_tsf, e_tss, e_snd, e_snf, e_snn, e_snc, e_sod, e_sof, e_st, e_fln, e_keep, e_itl, e_itt, e_rr1, e_rr2, e_tupRg, e_lstRg, e_revR, e_popAt, e_ext, e_tupRev, e_repL, e_lenSet, e_enumA, e_zipA, e_zip3, d_addT, flat1,
  d_add, d_sub, d_lt, d_le, d_gt, d_ge, d_eq, d_ne, d_ixl, d_ixt, d_lenl, d_lent, d_inti, d_intb, d_abs, d_max2, d_min2, d_tupl, d_tupt, d_lsl, d_lst, d_rb, t_b, t_i, t_l, t_t, is_nb, is_bb, k_ii, k_ib, k_bi, k_bb, k_ni, k_si, k_ti, k_li, k_di, k_tt, isNone, isBl,
  Option.bind_some, Option.bind_none, Option.map_some, Option.map_none, List.append_nil, List.cons_append, List.nil_append, List.replicate, List.getElem?_cons_zero, List.getElem?_cons_succ, List.getElem?_nil, List.set_cons_zero, List.set_cons_succ, List.length_cons, List.length_nil, List.mapIdx_cons, List.mapIdx_nil, List.contains_nil, List.contains_cons, Bool.false_eq_true, if_true, if_false, reduceIte, Bool.not_true, Bool.not_false, Option.getD_some, Function.comp, List.map_cons, List.map_nil,
  Nat.reduceLT, Nat.reduceAdd, Nat.reduceBEq, Nat.reduceEqDiff, Nat.reduceLeDiff, Int.reduceLT, Int.reduceLE, decide_true, decide_false, beq_self_eq_true, Bool.or_false, Bool.or_true, Bool.true_or, Bool.false_or, Bool.and_true, Bool.true_and, Bool.and_false, Bool.false_and, and_self, Nat.zero_add, h]
theorem av_3 {R : MF} {n a : Int} {L : List Da} {h : Gh} (hq : dFdiv (.int n) (.int 2) = some (.dat (.int a))) (e : R [.val (.int p), .val (.int a)] = some (.fresh L, h)) : (sSet 2 (mFn R (mCons (mName 0) (mCons (mBin dFdiv (mName 1) (mC (.int 2))) mNil)))) [.val (.int p), .val (.int n), .un, .un, .un, .un, .un] = some (.nx, [.val (.int p), .val (.int n), .own L, .un, .un, .un, .un]) := by
  simp only [e_bodyM, e_seq, e_nil, e_if, e_set, e_ret, e_drop, e_par, e_asg, e_for, e_app, e_setix, e_aug, e_name, e_c, e_anil, e_acons, e_bin, e_cmp, e_brk, e_cnt, e_retn, e_ix, e_call, e_fn, e_fn0, e_fnD, e_ifx, e_oft, e_tru, e_not, e_and, e_or, e_andv, e_orv, e_notv, e_neg, e_isi, e_chain, e_lst, e_tup, e_it, e_rg1, e_rg2, e_zip, e_enum, e_revi, e_rev, e_o0, e_o1, e_sl, e_dict0, e_yes, e_comp, e_pop, e_asB, e_toDd, e_toDf, e_toDs, e_lkd, e_lkf, e_lks, e_lan, e_lac, e_tdn, e_tdc, e_tsn, e_tsd, e_tsf, e_tss, e_snd, e_snf, e_snn, e_snc, e_sod, e_sof, e_st, e_fln, e_keep, e_itl, e_itt, e_rr1, e_rr2, e_tupRg, e_lstRg, e_revR, e_popAt, e_ext, e_tupRev, e_repL, e_lenSet, e_enumA, e_zipA, e_zip3, d_addT, flat1,
  d_add, d_sub, d_lt, d_le, d_gt, d_ge, d_eq, d_ne, d_ixl, d_ixt, d_lenl, d_lent, d_inti, d_intb, d_abs, d_max2, d_min2, d_tupl, d_tupt, d_lsl, d_lst, d_rb, t_b, t_i, t_l, t_t, is_nb, is_bb, k_ii, k_ib, k_bi, k_bb, k_ni, k_si, k_ti, k_li, k_di, k_tt, isNone, isBl,
  Option.bind_some, Option.bind_none, Option.map_some, Option.map_none, List.append_nil, List.cons_append, List.nil_append, List.replicate, List.getElem?_cons_zero, List.getElem?_cons_succ, List.getElem?_nil, List.set_cons_zero, List.set_cons_succ, List.length_cons, List.length_nil, List.mapIdx_cons, List.mapIdx_nil, List.contains_nil, List.contains_cons, Bool.false_eq_true, if_true, if_false, reduceIte, Bool.not_true, Bool.not_false, Option.getD_some, Function.comp, List.map_cons, List.map_nil,
  Nat.reduceLT, Nat.reduceAdd, Nat.reduceBEq, Nat.reduceEqDiff, Nat.reduceLeDiff, Int.reduceLT, Int.reduceLE, decide_true, decide_false, beq_self_eq_true, Bool.or_false, Bool.or_true, Bool.true_or, Bool.false_or, Bool.and_true, Bool.true_and, Bool.and_false, Bool.false_and, and_self, Nat.zero_add, hq, e]
theorem av_4 {R : MF} {n a : Int} {L L2 : List Da} {h : Gh} (hq : dFdiv (.int n) (.int 2) = some (.dat (.int a))) (e : R [.val (.int p), .val (.int (n - a))] = some (.fresh L2, h)) : (sSet 3 (mFn R (mCons (mName 0) (mCons (mBin dSub (mName 1) (mBin dFdiv (mName 1) (mC (.int 2)))) mNil)))) [.val (.int p), .val (.int n), .own L, .un, .un, .un, .un] = some (.nx, [.val (.int p), .val (.int n), .own L, .own L2, .un, .un, .un]) := by
  simp only [e_bodyM, e_seq, e_nil, e_if, e_set, e_ret, e_drop, e_par, e_asg, e_for, e_app, e_setix, e_aug, e_name, e_c, e_anil, e_acons, e_bin, e_cmp, e_brk, e_cnt, e_retn, e_ix, e_call, e_fn, e_fn0, e_fnD, e_ifx, e_oft, e_tru, e_not, e_and, e_or, e_andv, e_orv, e_notv, e_neg, e_isi, e_chain, e_lst, e_tup, e_it, e_rg1, e_rg2, e_zip, e_enum, e_revi, e_rev, e_o0, e_o1, e_sl, e_dict0, e_yes, e_comp, e_pop, e_asB, e_toDd, e_toDf, e_toDs, e_lkd, e_lkf, e_lks, e_lan, e_lac, e_tdn, e_tdc, e_tsn, e_tsd, e_tsf, e_tss, e_snd, e_snf, e_snn, e_snc, e_sod, e_sof, e_st, e_fln, e_keep, e_itl, e_itt, e_rr1, e_rr2, e_tupRg, e_lstRg, e_revR, e_popAt, e_ext, e_tupRev, e_repL, e_lenSet, e_enumA, e_zipA, e_zip3, d_addT, flat1,
  d_add, d_sub, d_lt, d_le, d_gt, d_ge, d_eq, d_ne, d_ixl, d_ixt, d_lenl, d_lent, d_inti, d_intb, d_abs, d_max2, d_min2, d_tupl, d_tupt, d_lsl, d_lst, d_rb, t_b, t_i, t_l, t_t, is_nb, is_bb, k_ii, k_ib, k_bi, k_bb, k_ni, k_si, k_ti, k_li, k_di, k_tt, isNone, isBl,
  Option.bind_some, Option.bind_none, Option.map_some, Option.map_none, List.append_nil, List.cons_append, List.nil_append, List.replicate, List.getElem?_cons_zero, List.getElem?_cons_succ, List.getElem?_nil, List.set_cons_zero, List.set_cons_succ, List.length_cons, List.length_nil, List.mapIdx_cons, List.mapIdx_nil, List.contains_nil, List.contains_cons, Bool.false_eq_true, if_true, if_false, reduceIte, Bool.not_true, Bool.not_false, Option.getD_some, Function.comp, List.map_cons, List.map_nil,
  Nat.reduceLT, Nat.reduceAdd, Nat.reduceBEq, Nat.reduceEqDiff, Nat.reduceLeDiff, Int.reduceLT, Int.reduceLE, decide_true, decide_false, beq_self_eq_true, Bool.or_false, Bool.or_true, Bool.true_or, Bool.false_or, Bool.and_true, Bool.true_and, Bool.and_false, Bool.false_and, and_self, Nat.zero_add, hq, e]
theorem av_el {S0 S1 S2 S3 S4 : Sl} {x y : List Da} (hl : (x.length + y.length ≤ sizeLine) = True) : (mBin dAdd (mName 5) (mName 6)) [S0, S1, S2, S3, S4, .val (.tuple x), .val (.tuple y)] = some (.dat (.tuple (x ++ y)), [S0, S1, S2, S3, S4, .val (.tuple x), .val (.tuple y)]) := by
  simp only [e_bodyM, e_seq, e_nil, e_if, e_set, e_ret, e_drop, e_par, e_asg, e_for, e_app, e_setix, e_aug, e_name, e_c, e_anil, e_acons, e_bin, e_cmp, e_brk, e_cnt, e_retn, e_ix, e_call, e_fn, e_fn0, e_fnD, e_ifx, e_oft, e_tru, e_not, e_and, e_or, e_andv, e_orv, e_notv, e_neg, e_isi, e_chain, e_lst, e_tup, e_it, e_rg1, e_rg2, e_zip, e_enum, e_revi, e_rev, e_o0, e_o1, e_sl, e_dict0, e_yes, e_comp, e_pop, e_asB, e_toDd, e_toDf, e_toDs, e_lkd, e_lkf, e_lks, e_lan, e_lac, e_tdn, e_tdc, e_tsn, e_tsd, e_tsf, e_tss, e_snd, e_snf, e_snn, e_snc, e_sod, e_sof, e_st, e_fln, e_keep, e_itl, e_itt, e_rr1, e_rr2, e_tupRg, e_lstRg, e_revR, e_popAt, e_ext, e_tupRev, e_repL, e_lenSet, e_enumA, e_zipA, e_zip3, d_addT, flat1,
  d_add, d_sub, d_lt, d_le, d_gt, d_ge, d_eq, d_ne, d_ixl, d_ixt, d_lenl, d_lent, d_inti, d_intb, d_abs, d_max2, d_min2, d_tupl, d_tupt, d_lsl, d_lst, d_rb, t_b, t_i, t_l, t_t, is_nb, is_bb, k_ii, k_ib, k_bi, k_bb, k_ni, k_si, k_ti, k_li, k_di, k_tt, isNone, isBl,
  Option.bind_some, Option.bind_none, Option.map_some, Option.map_none, List.append_nil, List.cons_append, List.nil_append, List.replicate, List.getElem?_cons_zero, List.getElem?_cons_succ, List.getElem?_nil, List.set_cons_zero, List.set_cons_succ, List.length_cons, List.length_nil, List.mapIdx_cons, List.mapIdx_nil, List.contains_nil, List.contains_cons, Bool.false_eq_true, if_true, if_false, reduceIte, Bool.not_true, Bool.not_false, Option.getD_some, Function.comp, List.map_cons, List.map_nil,
  Nat.reduceLT, Nat.reduceAdd, Nat.reduceBEq, Nat.reduceEqDiff, Nat.reduceLeDiff, Int.reduceLT, Int.reduceLE, decide_true, decide_false, beq_self_eq_true, Bool.or_false, Bool.or_true, Bool.true_or, Bool.false_or, Bool.and_true, Bool.true_and, Bool.and_false, Bool.false_and, and_self, Nat.zero_add, hl]
theorem av_5 {C : ME} {S T : Gh} {L : List Da} (e : C S = some (.fresh L, T)) : (sRet [] C) S = some (.rt (.fresh L), T) := by
  simp only [e_bodyM, e_seq, e_nil, e_if, e_set, e_ret, e_drop, e_par, e_asg, e_for, e_app, e_setix, e_aug, e_name, e_c, e_anil, e_acons, e_bin, e_cmp, e_brk, e_cnt, e_retn, e_ix, e_call, e_fn, e_fn0, e_fnD, e_ifx, e_oft, e_tru, e_not, e_and, e_or, e_andv, e_orv, e_notv, e_neg, e_isi, e_chain, e_lst, e_tup, e_it, e_rg1, e_rg2, e_zip, e_enum, e_revi, e_rev, e_o0, e_o1, e_sl, e_dict0, e_yes, e_comp, e_pop, e_asB, e_toDd, e_toDf, e_toDs, e_lkd, e_lkf, e_lks, e_lan, e_lac, e_tdn, e_tdc, e_tsn, e_tsd, e_tsf, e_tss, e_snd, e_snf, e_snn, e_snc, e_sod, e_sof, e_st, e_fln, e_keep, e_itl, e_itt, e_rr1, e_rr2, e_tupRg, e_lstRg, e_revR, e_popAt, e_ext, e_tupRev, e_repL, e_lenSet, e_enumA, e_zipA, e_zip3, d_addT, flat1,
  d_add, d_sub, d_lt, d_le, d_gt, d_ge, d_eq, d_ne, d_ixl, d_ixt, d_lenl, d_lent, d_inti, d_intb, d_abs, d_max2, d_min2, d_tupl, d_tupt, d_lsl, d_lst, d_rb, t_b, t_i, t_l, t_t, is_nb, is_bb, k_ii, k_ib, k_bi, k_bb, k_ni, k_si, k_ti, k_li, k_di, k_tt, isNone, isBl,
  Option.bind_some, Option.bind_none, Option.map_some, Option.map_none, List.append_nil, List.cons_append, List.nil_append, List.replicate, List.getElem?_cons_zero, List.getElem?_cons_succ, List.getElem?_nil, List.set_cons_zero, List.set_cons_succ, List.length_cons, List.length_nil, List.mapIdx_cons, List.mapIdx_nil, List.contains_nil, List.contains_cons, Bool.false_eq_true, if_true, if_false, reduceIte, Bool.not_true, Bool.not_false, Option.getD_some, Function.comp, List.map_cons, List.map_nil,
  Nat.reduceLT, Nat.reduceAdd, Nat.reduceBEq, Nat.reduceEqDiff, Nat.reduceLeDiff, Int.reduceLT, Int.reduceLE, decide_true, decide_false, beq_self_eq_true, Bool.or_false, Bool.or_true, Bool.true_or, Bool.false_or, Bool.and_true, Bool.true_and, Bool.and_false, Bool.false_and, and_self, Nat.zero_add, e]
theorem av_c1 {n : Int} (ok : okRg p = true) : mRg1 (mCons (mName 0) mNil) [.val (.int p), .val (.int n), .un, .un, .un, .un, .un] = some (rgD 0 p, [.val (.int p), .val (.int n), .un, .un, .un, .un, .un]) := by
  simp only [e_bodyM, e_seq, e_nil, e_if, e_set, e_ret, e_drop, e_par, e_asg, e_for, e_app, e_setix, e_aug, e_name, e_c, e_anil, e_acons, e_bin, e_cmp, e_brk, e_cnt, e_retn, e_ix, e_call, e_fn, e_fn0, e_fnD, e_ifx, e_oft, e_tru, e_not, e_and, e_or, e_andv, e_orv, e_notv, e_neg, e_isi, e_chain, e_lst, e_tup, e_it, e_rg1, e_rg2, e_zip, e_enum, e_revi, e_rev, e_o0, e_o1, e_sl, e_dict0, e_yes, e_comp, e_pop, e_asB, e_toDd, e_toDf, e_toDs, e_lkd, e_lkf, e_lks, e_lan, e_lac, e_tdn, e_tdc, e_tsn, e_tsd, e_tsf, e_tss, e_snd, e_snf, e_snn, e_snc, e_sod, e_sof, e_st, e_fln, e_keep, e_itl, e_itt, e_rr1, e_rr2, e_tupRg, e_lstRg, e_revR, e_popAt, e_ext, e_tupRev, e_repL, e_lenSet, e_enumA, e_zipA, e_zip3, d_addT, flat1,
  d_add, d_sub, d_lt, d_le, d_gt, d_ge, d_eq, d_ne, d_ixl, d_ixt, d_lenl, d_lent, d_inti, d_intb, d_abs, d_max2, d_min2, d_tupl, d_tupt, d_lsl, d_lst, d_rb, t_b, t_i, t_l, t_t, is_nb, is_bb, k_ii, k_ib, k_bi, k_bb, k_ni, k_si, k_ti, k_li, k_di, k_tt, isNone, isBl,
  Option.bind_some, Option.bind_none, Option.map_some, Option.map_none, List.append_nil, List.cons_append, List.nil_append, List.replicate, List.getElem?_cons_zero, List.getElem?_cons_succ, List.getElem?_nil, List.set_cons_zero, List.set_cons_succ, List.length_cons, List.length_nil, List.mapIdx_cons, List.mapIdx_nil, List.contains_nil, List.contains_cons, Bool.false_eq_true, if_true, if_false, reduceIte, Bool.not_true, Bool.not_false, Option.getD_some, Function.comp, List.map_cons, List.map_nil,
  Nat.reduceLT, Nat.reduceAdd, Nat.reduceBEq, Nat.reduceEqDiff, Nat.reduceLeDiff, Int.reduceLT, Int.reduceLE, decide_true, decide_false, beq_self_eq_true, Bool.or_false, Bool.or_true, Bool.true_or, Bool.false_or, Bool.and_true, Bool.true_and, Bool.and_false, Bool.false_and, and_self, Nat.zero_add, ok]
theorem av_t {S1 S2 S3 S5 S6 : Sl} {x : Da} : (mTup (mCons (mName 4) mNil)) [.val (.int p), S1, S2, S3, .val x, S5, S6] = some (.dat (.tuple [x]), [.val (.int p), S1, S2, S3, .val x, S5, S6]) := by
  simp only [e_bodyM, e_seq, e_nil, e_if, e_set, e_ret, e_drop, e_par, e_asg, e_for, e_app, e_setix, e_aug, e_name, e_c, e_anil, e_acons, e_bin, e_cmp, e_brk, e_cnt, e_retn, e_ix, e_call, e_fn, e_fn0, e_fnD, e_ifx, e_oft, e_tru, e_not, e_and, e_or, e_andv, e_orv, e_notv, e_neg, e_isi, e_chain, e_lst, e_tup, e_it, e_rg1, e_rg2, e_zip, e_enum, e_revi, e_rev, e_o0, e_o1, e_sl, e_dict0, e_yes, e_comp, e_pop, e_asB, e_toDd, e_toDf, e_toDs, e_lkd, e_lkf, e_lks, e_lan, e_lac, e_tdn, e_tdc, e_tsn, e_tsd, e_tsf, e_tss, e_snd, e_snf, e_snn, e_snc, e_sod, e_sof, e_st, e_fln, e_keep, e_itl, e_itt, e_rr1, e_rr2, e_tupRg, e_lstRg, e_revR, e_popAt, e_ext, e_tupRev, e_repL, e_lenSet, e_enumA, e_zipA, e_zip3, d_addT, flat1,
  d_add, d_sub, d_lt, d_le, d_gt, d_ge, d_eq, d_ne, d_ixl, d_ixt, d_lenl, d_lent, d_inti, d_intb, d_abs, d_max2, d_min2, d_tupl, d_tupt, d_lsl, d_lst, d_rb, t_b, t_i, t_l, t_t, is_nb, is_bb, k_ii, k_ib, k_bi, k_bb, k_ni, k_si, k_ti, k_li, k_di, k_tt, isNone, isBl,
  Option.bind_some, Option.bind_none, Option.map_some, Option.map_none, List.append_nil, List.cons_append, List.nil_append, List.replicate, List.getElem?_cons_zero, List.getElem?_cons_succ, List.getElem?_nil, List.set_cons_zero, List.set_cons_succ, List.length_cons, List.length_nil, List.mapIdx_cons, List.mapIdx_nil, List.contains_nil, List.contains_cons, Bool.false_eq_true, if_true, if_false, reduceIte, Bool.not_true, Bool.not_false, Option.getD_some, Function.comp, List.map_cons, List.map_nil,
  Nat.reduceLT, Nat.reduceAdd, Nat.reduceBEq, Nat.reduceEqDiff, Nat.reduceLeDiff, Int.reduceLT, Int.reduceLE, decide_true, decide_false, beq_self_eq_true, Bool.or_false, Bool.or_true, Bool.true_or, Bool.false_or, Bool.and_true, Bool.true_and, Bool.and_false, Bool.false_and, and_self, Nat.zero_add, z1]
theorem b25 {M : MS} {a b : Sl} {s2 s3 s4 s5 s6 : Sl} {w : Wv} (h : M [a, b, .un, .un, .un, .un, .un] = some (.rt w, [a, b, s2, s3, s4, s5, s6])) : bodyM [] 5 M [a, b] = some (w, [a, b]) := by
  show (M [a, b, .un, .un, .un, .un, .un]).bind _ = _
  rw [h]
  rfl
theorem t_all_vectors (hp : 5 ≤ p) (hp2 : p ≤ 997) : ∀ (k n : Nat) (ni : Int), ni = (n : Nat) → n ≤ 2 ^ k → n ≤ 60 → p.toNat ^ n ≤ 200000 → F_all_vectors (k + 1) [.val (.int p), .val (.int ni)] = some (.fresh ((vecs p n).map tupI), [.val (.int p), .val (.int ni)])
  | k, 0, ni, hni, _, _, _ => by
    show bodyM [] 5 (m_all_vectors (F_all_vectors k)) _ = _
    exact b25 (av_0 (R := F_all_vectors k) (decide_eq_true (by omega)) (beq_eq_false_iff_ne.mpr (by omega)))
  | k, 1, ni, hni, _, _, _ => by
    show bodyM [] 5 (m_all_vectors (F_all_vectors k)) _ = _
    refine b25 (av_1 (decide_eq_true (by omega)) (beq_iff_eq.mpr (by omega)) ?_)
    have e : (vecs p 1).map tupI = (nI p).map fun x => PyData.tuple [.int x] := by
      show (([[]] : List (List Int)).flatMap fun row => (nI p).map fun k => row ++ [k]).map tupI = _
      rw [List.flatMap_singleton, List.map_map]
      rfl
    rw [e]
    refine comp_of (e := PyData.int) (F := fun x => PyData.tuple [.int x]) (by rw [← rg_nI]; exact av_c1 (okRg' (by omega) (by omega))) (by rw [len_nI]; omega) rfl rfl fun x hx => ?_
    exact ⟨[.val (.int p), .val (.int ni), .un, .un, .val (.int x), .un, .un], .dat (.tuple [.int x]), [.val (.int p), .val (.int ni), .un, .un, .val (.int x), .un, .un], _, rfl, av_t, rfl, rfl⟩
  | 0, n + 2, ni, hni, h, _, _ => by simp at h
  | k + 1, n + 2, ni, hni, h, h60, hs => by
    show bodyM [] 5 (m_all_vectors (F_all_vectors (k + 1))) _ = _
    obtain ⟨a, ha⟩ : ∃ a : Nat, a = (n + 2) / 2 := ⟨_, rfl⟩
    obtain ⟨b, hb⟩ : ∃ b : Nat, b = (n + 2) - a := ⟨_, rfl⟩
    have hab : a + b = n + 2 := by omega
    obtain ⟨ai, hai⟩ : ∃ ai : Int, ai = ni / 2 := ⟨_, rfl⟩
    have p1 : 1 ≤ p.toNat := by omega
    have sa : p.toNat ^ a ≤ 200000 := Nat.le_trans (Nat.pow_le_pow_right p1 (by omega)) hs
    have sb : p.toNat ^ b ≤ 200000 := Nat.le_trans (Nat.pow_le_pow_right p1 (by omega)) hs
    have h : n + 2 ≤ 2 ^ k * 2 := by rw [← Nat.pow_succ]; exact h
    have eA := t_all_vectors hp hp2 k a ai (by omega) (by omega) (by omega) sa
    have eB := t_all_vectors hp hp2 k b (ni - ai) (by omega) (by omega) (by omega) sb
    have hq : dFdiv (.int ni) (.int 2) = some (.dat (.int ai)) := by rw [hai]; exact d_fdiv (a := ni) (b := 2) (by omega) (by omega)
    have ne : vecs p a ≠ [] := fun z => by
      have c := len_vecs p a
      rw [z] at c
      have : 1 ≤ p.toNat ^ a := Nat.one_le_pow _ _ p1
      simp at c
      omega
    have inner : ∀ (S3 : Sl), (S3 = .own ((vecs p b).map tupI) ∨ S3 = .val (.list ((vecs p b).map tupI))) → ∀ x ∈ vecs p a, innL [6] (mIt (mName 3)) (setN 6) mYes (mBin dAdd (mName 5) (mName 6)) [.val (.int p), .val (.int ni), .val (.list ((vecs p a).map tupI)), S3, .un, .val (tupI x), .un] = some ((vecs p b).map fun t => tupI (x ++ t), [.val (.int p), .val (.int ni), .val (.list ((vecs p a).map tupI)), .val (.list ((vecs p b).map tupI)), .un, .val (tupI x), .un]) := by
      intro S3 h3 x hx
      have lx := (mem_vecs.mp hx).1
      have i3 : mIt (mName 3) [.val (.int p), .val (.int ni), .val (.list ((vecs p a).map tupI)), S3, .un, .val (tupI x), .un] = some ((vecs p b).map tupI, [.val (.int p), .val (.int ni), .val (.list ((vecs p a).map tupI)), .val (.list ((vecs p b).map tupI)), .un, .val (tupI x), .un]) := by
        rcases h3 with rfl | rfl <;> rfl
      unfold innL
      rw [i3, Option.bind_some]
      refine compL_of (e := tupI) (F := fun t => tupI (x ++ t)) fun t ht => ?_
      have lt := (mem_vecs.mp ht).1
      refine ⟨[.val (.int p), .val (.int ni), .val (.list ((vecs p a).map tupI)), .val (.list ((vecs p b).map tupI)), .un, .val (tupI x), .val (tupI t)], .dat (tupI (x ++ t)), [.val (.int p), .val (.int ni), .val (.list ((vecs p a).map tupI)), .val (.list ((vecs p b).map tupI)), .un, .val (tupI x), .val (tupI t)], _, rfl, ?_, rfl, rfl⟩
      have hl : ((x.map PyData.int).length + (t.map PyData.int).length ≤ sizeLine) = True := eq_true (by rw [List.length_map, List.length_map]; exact Nat.le_of_lt (sl_lt (by omega)))
      have e := av_el (S0 := .val (.int p)) (S1 := .val (.int ni)) (S2 := .val (.list ((vecs p a).map tupI))) (S3 := .val (.list ((vecs p b).map tupI))) (S4 := .un) hl
      rw [← List.map_append] at e
      exact e
    have flat : ((vecs p a).map fun x => (vecs p b).map fun t => tupI (x ++ t)).flatten = (vecs p (n + 2)).map tupI := by
      rw [← hab, vecs_add, ← List.flatMap_def, List.map_flatMap]
      refine fm_congr fun x _ => ?_
      rw [List.map_map]
      rfl
    refine b25 (s2 := .val (.list ((vecs p a).map tupI))) (s3 := .val (.list ((vecs p b).map tupI))) (s4 := .un) (s5 := .un) (s6 := .un) ((seq_nx (av_2 (decide_eq_false (by omega)))).trans ((seq_nx (av_3 hq eA)).trans ((seq_nx (av_4 hq eB)).trans (av_5 ?_))))
    rw [← flat]
    exact comp2_two (gB := [.val (.int p), .val (.int ni), .val (.list ((vecs p a).map tupI)), .val (.list ((vecs p b).map tupI)), .un, .un, .un]) (e := tupI) ne rfl rfl rfl (by rw [flat, List.length_map, len_vecs]; exact Nat.le_of_lt (sl_lt (by omega))) (fun x hx => ⟨[.val (.int p), .val (.int ni), .val (.list ((vecs p a).map tupI)), .own ((vecs p b).map tupI), .un, .val (tupI x), .un], _, rfl, inner _ (.inl rfl) x hx, rfl⟩) fun x hx => ⟨[.val (.int p), .val (.int ni), .val (.list ((vecs p a).map tupI)), .val (.list ((vecs p b).map tupI)), .un, .val (tupI x), .un], _, rfl, inner _ (.inr rfl) x hx, rfl⟩
end
end Lib
end
section
set_option exponentiation.threshold 3000
namespace Lib
open PySem PySem.Spec PyProof.Rows L2 EV
/-! ### great powers -/
theorem pow_bits {p : Int} (hp : 5 ≤ p) (hp2 : p ≤ 997) : ∀ j : Nat, (p ^ j).natAbs < 2 ^ (10 * j + 1)
  | 0 => by rw [Int.pow_zero]; decide
  | j + 1 => by
    have ih := pow_bits hp hp2 j
    rw [Int.pow_succ, Int.natAbs_mul, show 10 * (j + 1) + 1 = (10 * j + 1) + 10 by omega, Nat.pow_add]
    exact Nat.mul_lt_mul'' ih (by omega)
theorem times_loopW {p m : Int} {a1 : Sl} (hp : 5 ≤ p) (hp2 : p ≤ 997) (m0 : 0 ≤ m) (m1 : m ≤ 100) : ∃ s3, forL (setN 3) (sSet 2 (mBin dMul (mName 2) (mName 0))) (rgD 0 m) [.val (.int p), a1, .val (.int 1), .un] = some (.nx, [.val (.int p), a1, .val (.int (p ^ m.toNat)), s3]) := by
  obtain ⟨g', e, s3, rfl⟩ := forL_inv (tg := setN 3) (body := sSet 2 (mBin dMul (mName 2) (mName 0))) (fun j g => ∃ s3, g = [.val (.int p), a1, .val (.int (p ^ j)), s3]) (rgD 0 m) 0 [.val (.int p), a1, .val (.int 1), .un] ⟨.un, by rw [Int.pow_zero]⟩ (by
    rintro j g d ⟨s3, rfl⟩ hd hj
    rw [rgD_len] at hj
    have h1 := log2_le (k := 10 * j) (pow_bits hp hp2 j)
    have h2 := log2_le (x := p) (k := 9) (by omega)
    have hm := d_mulW (p ^ j) p (by omega)
    refine ⟨[.val (.int p), a1, .val (.int (p ^ j)), .val d], [.val (.int p), a1, .val (.int (p ^ (j + 1))), .val d], rfl, ?_, ⟨_, rfl⟩⟩
    rw [Int.pow_succ]
    simp only [e_bodyM, e_seq, e_nil, e_if, e_set, e_ret, e_drop, e_par, e_asg, e_for, e_app, e_setix, e_aug, e_name, e_c, e_anil, e_acons, e_bin, e_cmp, e_brk, e_cnt, e_retn, e_ix, e_call, e_fn, e_fn0, e_fnD, e_ifx, e_oft, e_tru, e_not, e_and, e_or, e_andv, e_orv, e_notv, e_neg, e_isi, e_chain, e_lst, e_tup, e_it, e_rg1, e_rg2, e_zip, e_enum, e_revi, e_rev, e_o0, e_o1, e_sl, e_dict0, e_yes, e_comp, e_pop, e_asB, e_toDd, e_toDf, e_toDs, e_lkd, e_lkf, e_lks, e_lan, e_lac, e_tdn, e_tdc, e_tsn, e_tsd, e_tsf, e_tss, e_snd, e_snf, e_snn, e_snc, e_sod, e_sof, e_st, e_fln, e_keep, e_itl, e_itt, e_rr1, e_rr2, e_tupRg, e_lstRg, e_revR, e_popAt, e_ext, e_tupRev, e_repL, e_lenSet, e_enumA, e_zipA, e_zip3, d_addT, flat1,
  d_add, d_sub, d_lt, d_le, d_gt, d_ge, d_eq, d_ne, d_ixl, d_ixt, d_lenl, d_lent, d_inti, d_intb, d_abs, d_max2, d_min2, d_tupl, d_tupt, d_lsl, d_lst, d_rb, t_b, t_i, t_l, t_t, is_nb, is_bb, k_ii, k_ib, k_bi, k_bb, k_ni, k_si, k_ti, k_li, k_di, k_tt, isNone, isBl,
  Option.bind_some, Option.bind_none, Option.map_some, Option.map_none, List.append_nil, List.cons_append, List.nil_append, List.replicate, List.getElem?_cons_zero, List.getElem?_cons_succ, List.getElem?_nil, List.set_cons_zero, List.set_cons_succ, List.length_cons, List.length_nil, List.mapIdx_cons, List.mapIdx_nil, List.contains_nil, List.contains_cons, Bool.false_eq_true, if_true, if_false, reduceIte, Bool.not_true, Bool.not_false, Option.getD_some, Function.comp, List.map_cons, List.map_nil,
  Nat.reduceLT, Nat.reduceAdd, Nat.reduceBEq, Nat.reduceEqDiff, Nat.reduceLeDiff, Int.reduceLT, Int.reduceLE, decide_true, decide_false, beq_self_eq_true, Bool.or_false, Bool.or_true, Bool.true_or, Bool.false_or, Bool.and_true, Bool.true_and, Bool.and_false, Bool.false_and, and_self, Nat.zero_add, hm])
  refine ⟨s3, ?_⟩
  rw [rgD_len, show 0 + (m - 0).toNat = m.toNat by omega] at e
  exact e
theorem t_fd_timesW {p m : Int} (hp : 5 ≤ p) (hp2 : p ≤ 997) (m0 : 0 ≤ m) (m1 : m ≤ 100) : F__law_fd_times [.val (.int p), .val (.int m)] = some (.dat (.int (p ^ m.toNat)), [.val (.int p), .val (.int m)]) := by
  obtain ⟨s3, e⟩ := times_loopW (a1 := .val (.int m)) hp hp2 m0 m1
  have eF : (sFor (mRg1 (mCons (mName 1) mNil)) (setN 3) (sSet 2 (mBin dMul (mName 2) (mName 0)))) [.val (.int p), .val (.int m), .val (.int 1), .un] = some (.nx, [.val (.int p), .val (.int m), .val (.int (p ^ m.toNat)), s3]) := by
    rw [e_for, rg1_of (n := m) (ws := [.dat (.int m)]) rfl rfl (okRg' (by omega) (by omega)), Option.bind_some, e]
  have eS : (sSet 2 (mC (.int 1))) [.val (.int p), .val (.int m), .un, .un] = some (.nx, [.val (.int p), .val (.int m), .val (.int 1), .un]) := rfl
  unfold F__law_fd_times m__law_fd_times
  rw [e_bodyM]
  show ((sSeq _ _) [.val (.int p), .val (.int m), .un, .un]).bind _ = _
  rw [seq_nx eS, seq_nx eF]
  rfl
theorem t_rows_countW {p m : Int} (hp : 5 ≤ p) (hp2 : p ≤ 997) (m0 : 0 ≤ m) (m1 : m ≤ 100) : F_rows_count [.val (.int p), .val (.int m)] = some (.dat (.int (p ^ m.toNat)), [.val (.int p), .val (.int m)]) := t_fd_timesW hp hp2 m0 m1
/-! ### weighted sums, heavy places -/
section
variable {p : Int} {n : Nat} {w v : List Int}
theorem we_gen {CF CV SP : MF} {W V : List Da} {n : Int} {x : Da} {h1 h2 h3 h4 : Gh} (e1 : CF [.val (.int p)] = some (.dat .none, h1)) (e2 : CV [.val (.int p), .val (.tuple W)] = some (.dat .none, h2)) (e3 : CV [.val (.int p), .val (.tuple V)] = some (.dat .none, h3)) (n1 : ((W.length : Nat) : Int) = n) (n2 : ((V.length : Nat) : Int) = n) (e4 : SP [.val (.int p), .val (.tuple W), .val (.tuple V)] = some (.dat x, h4)) :
  bodyM [] 0 (sSeq (sDrop (mFn CF (mCons (mName 0) mNil)))
    (sSeq (sDrop (mFn CV (mCons (mName 0) (mCons (mName 1) mNil))))
    (sSeq (sDrop (mFn CV (mCons (mName 0) (mCons (mName 2) mNil))))
    (sSeq (sIf (mCmp dNe (mCall dLen (mCons (mName 1) mNil)) (mCall dLen (mCons (mName 2) mNil))) sNo sNil)
    (sRet [] (mFn SP (mCons (mName 0) (mCons (mName 1) (mCons (mName 2) mNil)))))))))
    [.val (.int p), .val (.tuple W), .val (.tuple V)] = some (.dat x, [.val (.int p), .val (.tuple W), .val (.tuple V)]) := by
  simp only [e_bodyM, e_seq, e_nil, e_if, e_set, e_ret, e_drop, e_par, e_asg, e_for, e_app, e_setix, e_aug, e_name, e_c, e_anil, e_acons, e_bin, e_cmp, e_brk, e_cnt, e_retn, e_ix, e_call, e_fn, e_fn0, e_fnD, e_ifx, e_oft, e_tru, e_not, e_and, e_or, e_andv, e_orv, e_notv, e_neg, e_isi, e_chain, e_lst, e_tup, e_it, e_rg1, e_rg2, e_zip, e_enum, e_revi, e_rev, e_o0, e_o1, e_sl, e_dict0, e_yes, e_comp, e_pop, e_asB, e_toDd, e_toDf, e_toDs, e_lkd, e_lkf, e_lks, e_lan, e_lac, e_tdn, e_tdc, e_tsn, e_tsd, e_tsf, e_tss, e_snd, e_snf, e_snn, e_snc, e_sod, e_sof, e_st, e_fln, e_keep, e_itl, e_itt, e_rr1, e_rr2, e_tupRg, e_lstRg, e_revR, e_popAt, e_ext, e_tupRev, e_repL, e_lenSet, e_enumA, e_zipA, e_zip3, d_addT, flat1,
  d_add, d_sub, d_lt, d_le, d_gt, d_ge, d_eq, d_ne, d_ixl, d_ixt, d_lenl, d_lent, d_inti, d_intb, d_abs, d_max2, d_min2, d_tupl, d_tupt, d_lsl, d_lst, d_rb, t_b, t_i, t_l, t_t, is_nb, is_bb, k_ii, k_ib, k_bi, k_bb, k_ni, k_si, k_ti, k_li, k_di, k_tt, isNone, isBl,
  Option.bind_some, Option.bind_none, Option.map_some, Option.map_none, List.append_nil, List.cons_append, List.nil_append, List.replicate, List.getElem?_cons_zero, List.getElem?_cons_succ, List.getElem?_nil, List.set_cons_zero, List.set_cons_succ, List.length_cons, List.length_nil, List.mapIdx_cons, List.mapIdx_nil, List.contains_nil, List.contains_cons, Bool.false_eq_true, if_true, if_false, reduceIte, Bool.not_true, Bool.not_false, Option.getD_some, Function.comp, List.map_cons, List.map_nil,
  Nat.reduceLT, Nat.reduceAdd, Nat.reduceBEq, Nat.reduceEqDiff, Nat.reduceLeDiff, Int.reduceLT, Int.reduceLE, decide_true, decide_false, beq_self_eq_true, Bool.or_false, Bool.or_true, Bool.true_or, Bool.false_or, Bool.and_true, Bool.true_and, Bool.and_false, Bool.false_and, and_self, Nat.zero_add, e1, e2, e3, n1, n2, e4]
theorem t_weighted (hf : isFld p = true) (hw : InF p w) (hv : InF p v) (lw : w.length = n) (lv : v.length = n) (hn : n ≤ 60) : F_weighted [.val (.int p), .val (tupI w), .val (tupI v)] = some (.dat (.int (dotZ w v % p)), [.val (.int p), .val (tupI w), .val (tupI v)]) := by
  have hp := fld_pos hf
  obtain ⟨m, hm⟩ : ∃ m : Int, m = (n : Nat) := ⟨_, rfl⟩
  have s := t_sum_of_products hp.1 hp.2 true true hw hv (by omega)
  simp only [sqD, cond_true] at s
  unfold F_weighted m_weighted
  exact we_gen (n := m) (t_check_field hf) (t_check_vector hp.1 hw (by omega)) (t_check_vector hp.1 hv (by omega)) (by rw [List.length_map, lw, hm]) (by rw [List.length_map, lv, hm]) s
/-- where a weight is not 0 -/
def heavyR (n : Nat) (w : List Int) : List Nat := (List.range n).filter fun k => !(cf w k == 0)
theorem hv_it {W : List Da} {m : Int} (hm : ((W.length : Nat) : Int) = m) (ok : okRg m = true) : mRg1 (mCons (mCall dLen (mCons (mName 0) mNil)) mNil) [.val (.tuple W), .un] = some (rgD 0 m, [.val (.tuple W), .un]) := by
  simp only [e_bodyM, e_seq, e_nil, e_if, e_set, e_ret, e_drop, e_par, e_asg, e_for, e_app, e_setix, e_aug, e_name, e_c, e_anil, e_acons, e_bin, e_cmp, e_brk, e_cnt, e_retn, e_ix, e_call, e_fn, e_fn0, e_fnD, e_ifx, e_oft, e_tru, e_not, e_and, e_or, e_andv, e_orv, e_notv, e_neg, e_isi, e_chain, e_lst, e_tup, e_it, e_rg1, e_rg2, e_zip, e_enum, e_revi, e_rev, e_o0, e_o1, e_sl, e_dict0, e_yes, e_comp, e_pop, e_asB, e_toDd, e_toDf, e_toDs, e_lkd, e_lkf, e_lks, e_lan, e_lac, e_tdn, e_tdc, e_tsn, e_tsd, e_tsf, e_tss, e_snd, e_snf, e_snn, e_snc, e_sod, e_sof, e_st, e_fln, e_keep, e_itl, e_itt, e_rr1, e_rr2, e_tupRg, e_lstRg, e_revR, e_popAt, e_ext, e_tupRev, e_repL, e_lenSet, e_enumA, e_zipA, e_zip3, d_addT, flat1,
  d_add, d_sub, d_lt, d_le, d_gt, d_ge, d_eq, d_ne, d_ixl, d_ixt, d_lenl, d_lent, d_inti, d_intb, d_abs, d_max2, d_min2, d_tupl, d_tupt, d_lsl, d_lst, d_rb, t_b, t_i, t_l, t_t, is_nb, is_bb, k_ii, k_ib, k_bi, k_bb, k_ni, k_si, k_ti, k_li, k_di, k_tt, isNone, isBl,
  Option.bind_some, Option.bind_none, Option.map_some, Option.map_none, List.append_nil, List.cons_append, List.nil_append, List.replicate, List.getElem?_cons_zero, List.getElem?_cons_succ, List.getElem?_nil, List.set_cons_zero, List.set_cons_succ, List.length_cons, List.length_nil, List.mapIdx_cons, List.mapIdx_nil, List.contains_nil, List.contains_cons, Bool.false_eq_true, if_true, if_false, reduceIte, Bool.not_true, Bool.not_false, Option.getD_some, Function.comp, List.map_cons, List.map_nil,
  Nat.reduceLT, Nat.reduceAdd, Nat.reduceBEq, Nat.reduceEqDiff, Nat.reduceLeDiff, Int.reduceLT, Int.reduceLE, decide_true, decide_false, beq_self_eq_true, Bool.or_false, Bool.or_true, Bool.true_or, Bool.false_or, Bool.and_true, Bool.true_and, Bool.and_false, Bool.false_and, and_self, Nat.zero_add, hm, ok]
theorem hv_q {W : List Da} {k x : Int} {b : Bool} (e : atI W k = some (.int x)) (hb : (x == 0) = b) : (mCmp dNe (mIx (mName 0) (mName 1)) (mC (.int 0))) [.val (.tuple W), .val (.int k)] = some (!b, [.val (.tuple W), .val (.int k)]) := by
  simp only [e_bodyM, e_seq, e_nil, e_if, e_set, e_ret, e_drop, e_par, e_asg, e_for, e_app, e_setix, e_aug, e_name, e_c, e_anil, e_acons, e_bin, e_cmp, e_brk, e_cnt, e_retn, e_ix, e_call, e_fn, e_fn0, e_fnD, e_ifx, e_oft, e_tru, e_not, e_and, e_or, e_andv, e_orv, e_notv, e_neg, e_isi, e_chain, e_lst, e_tup, e_it, e_rg1, e_rg2, e_zip, e_enum, e_revi, e_rev, e_o0, e_o1, e_sl, e_dict0, e_yes, e_comp, e_pop, e_asB, e_toDd, e_toDf, e_toDs, e_lkd, e_lkf, e_lks, e_lan, e_lac, e_tdn, e_tdc, e_tsn, e_tsd, e_tsf, e_tss, e_snd, e_snf, e_snn, e_snc, e_sod, e_sof, e_st, e_fln, e_keep, e_itl, e_itt, e_rr1, e_rr2, e_tupRg, e_lstRg, e_revR, e_popAt, e_ext, e_tupRev, e_repL, e_lenSet, e_enumA, e_zipA, e_zip3, d_addT, flat1,
  d_add, d_sub, d_lt, d_le, d_gt, d_ge, d_eq, d_ne, d_ixl, d_ixt, d_lenl, d_lent, d_inti, d_intb, d_abs, d_max2, d_min2, d_tupl, d_tupt, d_lsl, d_lst, d_rb, t_b, t_i, t_l, t_t, is_nb, is_bb, k_ii, k_ib, k_bi, k_bb, k_ni, k_si, k_ti, k_li, k_di, k_tt, isNone, isBl,
  Option.bind_some, Option.bind_none, Option.map_some, Option.map_none, List.append_nil, List.cons_append, List.nil_append, List.replicate, List.getElem?_cons_zero, List.getElem?_cons_succ, List.getElem?_nil, List.set_cons_zero, List.set_cons_succ, List.length_cons, List.length_nil, List.mapIdx_cons, List.mapIdx_nil, List.contains_nil, List.contains_cons, Bool.false_eq_true, if_true, if_false, reduceIte, Bool.not_true, Bool.not_false, Option.getD_some, Function.comp, List.map_cons, List.map_nil,
  Nat.reduceLT, Nat.reduceAdd, Nat.reduceBEq, Nat.reduceEqDiff, Nat.reduceLeDiff, Int.reduceLT, Int.reduceLE, decide_true, decide_false, beq_self_eq_true, Bool.or_false, Bool.or_true, Bool.true_or, Bool.false_or, Bool.and_true, Bool.true_and, Bool.and_false, Bool.false_and, and_self, Nat.zero_add, e, hb]
theorem hv_gen {C : ME} {W L : List Da} (e : C [.val (.tuple W), .un] = some (.fresh L, [.val (.tuple W), .un])) : bodyM [] 1 (sRet [] C) [.val (.tuple W)] = some (.fresh L, [.val (.tuple W)]) := by
  simp only [e_bodyM, e_seq, e_nil, e_if, e_set, e_ret, e_drop, e_par, e_asg, e_for, e_app, e_setix, e_aug, e_name, e_c, e_anil, e_acons, e_bin, e_cmp, e_brk, e_cnt, e_retn, e_ix, e_call, e_fn, e_fn0, e_fnD, e_ifx, e_oft, e_tru, e_not, e_and, e_or, e_andv, e_orv, e_notv, e_neg, e_isi, e_chain, e_lst, e_tup, e_it, e_rg1, e_rg2, e_zip, e_enum, e_revi, e_rev, e_o0, e_o1, e_sl, e_dict0, e_yes, e_comp, e_pop, e_asB, e_toDd, e_toDf, e_toDs, e_lkd, e_lkf, e_lks, e_lan, e_lac, e_tdn, e_tdc, e_tsn, e_tsd, e_tsf, e_tss, e_snd, e_snf, e_snn, e_snc, e_sod, e_sof, e_st, e_fln, e_keep, e_itl, e_itt, e_rr1, e_rr2, e_tupRg, e_lstRg, e_revR, e_popAt, e_ext, e_tupRev, e_repL, e_lenSet, e_enumA, e_zipA, e_zip3, d_addT, flat1,
  d_add, d_sub, d_lt, d_le, d_gt, d_ge, d_eq, d_ne, d_ixl, d_ixt, d_lenl, d_lent, d_inti, d_intb, d_abs, d_max2, d_min2, d_tupl, d_tupt, d_lsl, d_lst, d_rb, t_b, t_i, t_l, t_t, is_nb, is_bb, k_ii, k_ib, k_bi, k_bb, k_ni, k_si, k_ti, k_li, k_di, k_tt, isNone, isBl,
  Option.bind_some, Option.bind_none, Option.map_some, Option.map_none, List.append_nil, List.cons_append, List.nil_append, List.replicate, List.getElem?_cons_zero, List.getElem?_cons_succ, List.getElem?_nil, List.set_cons_zero, List.set_cons_succ, List.length_cons, List.length_nil, List.mapIdx_cons, List.mapIdx_nil, List.contains_nil, List.contains_cons, Bool.false_eq_true, if_true, if_false, reduceIte, Bool.not_true, Bool.not_false, Option.getD_some, Function.comp, List.map_cons, List.map_nil,
  Nat.reduceLT, Nat.reduceAdd, Nat.reduceBEq, Nat.reduceEqDiff, Nat.reduceLeDiff, Int.reduceLT, Int.reduceLE, decide_true, decide_false, beq_self_eq_true, Bool.or_false, Bool.or_true, Bool.true_or, Bool.false_or, Bool.and_true, Bool.true_and, Bool.and_false, Bool.false_and, and_self, Nat.zero_add, e]
theorem t_heavy_places (lw : w.length = n) (hn : n ≤ 1000) : F_heavy_places [.val (tupI w)] = some (.fresh ((heavyR n w).map intN), [.val (tupI w)]) := by
  obtain ⟨m, hm⟩ : ∃ m : Int, m = (n : Nat) := ⟨_, rfl⟩
  unfold F_heavy_places m_heavy_places
  refine hv_gen ?_
  refine comp_filt (vs := [1]) (e := intN) (F := intN) (q := fun k => !(cf w k == 0)) (xs := List.range n) (g' := [.val (tupI w), .un]) (gw := [.val (tupI w), .un]) ?_ (by rw [List.length_range]; omega) rfl rfl fun k hk => ?_
  · rw [show (List.range n).map intN = rgD 0 m from (rgD_nat hm).symm]
    exact hv_it (by rw [List.length_map, lw, hm]) (okRg' (by omega) (by omega))
  · have hk : k < n := List.mem_range.mp hk
    exact ⟨[.val (tupI w), .val (intN k)], [.val (tupI w), .val (intN k)], rfl, hv_q (at_cf (by omega)) rfl, fun _ => ⟨.dat (intN k), [.val (tupI w), .val (intN k)], [.val (tupI w), .val (intN k)], rfl, rfl, rfl⟩, fun _ => rfl⟩
theorem heavy_nil (lw : w.length = n) : heavyR n w = [] ↔ ∀ x ∈ w, x = 0 := by
  unfold heavyR
  rw [List.filter_eq_nil_iff]
  constructor
  · intro h x hx
    obtain ⟨k, hk, rfl⟩ := List.mem_iff_getElem.mp hx
    have := h k (List.mem_range.mpr (by omega))
    rw [cf_at hk] at this
    simpa using this
  · intro h k hk
    have hk : k < w.length := by rw [lw]; exact List.mem_range.mp hk
    rw [cf_at hk, h _ (List.getElem_mem hk)]
    simp
theorem vc_el {x : Int} {S0 S1 S2 : Sl} {b : Bool} (hb : (x == 0) = b) : (mBin dNe (mName 3) (mC (.int 0))) [S0, S1, S2, .val (.int x)] = some (.dat (.bool !b), [S0, S1, S2, .val (.int x)]) := by
  simp only [e_bodyM, e_seq, e_nil, e_if, e_set, e_ret, e_drop, e_par, e_asg, e_for, e_app, e_setix, e_aug, e_name, e_c, e_anil, e_acons, e_bin, e_cmp, e_brk, e_cnt, e_retn, e_ix, e_call, e_fn, e_fn0, e_fnD, e_ifx, e_oft, e_tru, e_not, e_and, e_or, e_andv, e_orv, e_notv, e_neg, e_isi, e_chain, e_lst, e_tup, e_it, e_rg1, e_rg2, e_zip, e_enum, e_revi, e_rev, e_o0, e_o1, e_sl, e_dict0, e_yes, e_comp, e_pop, e_asB, e_toDd, e_toDf, e_toDs, e_lkd, e_lkf, e_lks, e_lan, e_lac, e_tdn, e_tdc, e_tsn, e_tsd, e_tsf, e_tss, e_snd, e_snf, e_snn, e_snc, e_sod, e_sof, e_st, e_fln, e_keep, e_itl, e_itt, e_rr1, e_rr2, e_tupRg, e_lstRg, e_revR, e_popAt, e_ext, e_tupRev, e_repL, e_lenSet, e_enumA, e_zipA, e_zip3, d_addT, flat1,
  d_add, d_sub, d_lt, d_le, d_gt, d_ge, d_eq, d_ne, d_ixl, d_ixt, d_lenl, d_lent, d_inti, d_intb, d_abs, d_max2, d_min2, d_tupl, d_tupt, d_lsl, d_lst, d_rb, t_b, t_i, t_l, t_t, is_nb, is_bb, k_ii, k_ib, k_bi, k_bb, k_ni, k_si, k_ti, k_li, k_di, k_tt, isNone, isBl,
  Option.bind_some, Option.bind_none, Option.map_some, Option.map_none, List.append_nil, List.cons_append, List.nil_append, List.replicate, List.getElem?_cons_zero, List.getElem?_cons_succ, List.getElem?_nil, List.set_cons_zero, List.set_cons_succ, List.length_cons, List.length_nil, List.mapIdx_cons, List.mapIdx_nil, List.contains_nil, List.contains_cons, Bool.false_eq_true, if_true, if_false, reduceIte, Bool.not_true, Bool.not_false, Option.getD_some, Function.comp, List.map_cons, List.map_nil,
  Nat.reduceLT, Nat.reduceAdd, Nat.reduceBEq, Nat.reduceEqDiff, Nat.reduceLeDiff, Int.reduceLT, Int.reduceLE, decide_true, decide_false, beq_self_eq_true, Bool.or_false, Bool.or_true, Bool.true_or, Bool.false_or, Bool.and_true, Bool.true_and, Bool.and_false, Bool.false_and, and_self, Nat.zero_add, hb]
theorem vc_any {C : ME} {RC : MF} {W L : List Da} {g n x : Int} {h : Gh} {M : MS} (hn : ((W.length : Nat) : Int) = n) (e : C [.val (.int p), .val (.tuple W), .val (.int g), .un] = some (.fresh L, [.val (.int p), .val (.tuple W), .val (.int g), .un])) (ea : dAny [.list L] = some (.dat (.bool true))) (eR : RC [.val (.int p), .val (.int (n - 1))] = some (.dat (.int x), h)) : (sSeq (sIf (mTru (mCall dAny (mCons C mNil))) (sRet [] (mFn RC (mCons (mName 0) (mCons (mBin dSub (mCall dLen (mCons (mName 1) mNil)) (mC (.int 1))) mNil)))) sNil) M) [.val (.int p), .val (.tuple W), .val (.int g), .un] = some (.rt (.dat (.int x)), [.val (.int p), .val (.tuple W), .val (.int g), .un]) := by
  simp only [e_bodyM, e_seq, e_nil, e_if, e_set, e_ret, e_drop, e_par, e_asg, e_for, e_app, e_setix, e_aug, e_name, e_c, e_anil, e_acons, e_bin, e_cmp, e_brk, e_cnt, e_retn, e_ix, e_call, e_fn, e_fn0, e_fnD, e_ifx, e_oft, e_tru, e_not, e_and, e_or, e_andv, e_orv, e_notv, e_neg, e_isi, e_chain, e_lst, e_tup, e_it, e_rg1, e_rg2, e_zip, e_enum, e_revi, e_rev, e_o0, e_o1, e_sl, e_dict0, e_yes, e_comp, e_pop, e_asB, e_toDd, e_toDf, e_toDs, e_lkd, e_lkf, e_lks, e_lan, e_lac, e_tdn, e_tdc, e_tsn, e_tsd, e_tsf, e_tss, e_snd, e_snf, e_snn, e_snc, e_sod, e_sof, e_st, e_fln, e_keep, e_itl, e_itt, e_rr1, e_rr2, e_tupRg, e_lstRg, e_revR, e_popAt, e_ext, e_tupRev, e_repL, e_lenSet, e_enumA, e_zipA, e_zip3, d_addT, flat1,
  d_add, d_sub, d_lt, d_le, d_gt, d_ge, d_eq, d_ne, d_ixl, d_ixt, d_lenl, d_lent, d_inti, d_intb, d_abs, d_max2, d_min2, d_tupl, d_tupt, d_lsl, d_lst, d_rb, t_b, t_i, t_l, t_t, is_nb, is_bb, k_ii, k_ib, k_bi, k_bb, k_ni, k_si, k_ti, k_li, k_di, k_tt, isNone, isBl,
  Option.bind_some, Option.bind_none, Option.map_some, Option.map_none, List.append_nil, List.cons_append, List.nil_append, List.replicate, List.getElem?_cons_zero, List.getElem?_cons_succ, List.getElem?_nil, List.set_cons_zero, List.set_cons_succ, List.length_cons, List.length_nil, List.mapIdx_cons, List.mapIdx_nil, List.contains_nil, List.contains_cons, Bool.false_eq_true, if_true, if_false, reduceIte, Bool.not_true, Bool.not_false, Option.getD_some, Function.comp, List.map_cons, List.map_nil,
  Nat.reduceLT, Nat.reduceAdd, Nat.reduceBEq, Nat.reduceEqDiff, Nat.reduceLeDiff, Int.reduceLT, Int.reduceLE, decide_true, decide_false, beq_self_eq_true, Bool.or_false, Bool.or_true, Bool.true_or, Bool.false_or, Bool.and_true, Bool.true_and, Bool.and_false, Bool.false_and, and_self, Nat.zero_add, hn, e, ea, eR]
theorem vc_no {C : ME} {RC : MF} {W L : List Da} {g n x : Int} {h : Gh} {M : MS} {b : Bool} (hn : ((W.length : Nat) : Int) = n) (e : C [.val (.int p), .val (.tuple W), .val (.int g), .un] = some (.fresh L, [.val (.int p), .val (.tuple W), .val (.int g), .un])) (ea : dAny [.list L] = some (.dat (.bool false))) (hb : (g == 0) = b) (eR : RC [.val (.int p), .val (.int n)] = some (.dat (.int x), h)) : (sSeq (sIf (mTru (mCall dAny (mCons C mNil))) M sNil) (sRet [] (mIf (mCmp dEq (mName 2) (mC (.int 0))) (mFn RC (mCons (mName 0) (mCons (mCall dLen (mCons (mName 1) mNil)) mNil))) (mC (.int 0))))) [.val (.int p), .val (.tuple W), .val (.int g), .un] = some (.rt (.dat (.int (if b then x else 0))), [.val (.int p), .val (.tuple W), .val (.int g), .un]) := by
  cases b <;> simp only [e_bodyM, e_seq, e_nil, e_if, e_set, e_ret, e_drop, e_par, e_asg, e_for, e_app, e_setix, e_aug, e_name, e_c, e_anil, e_acons, e_bin, e_cmp, e_brk, e_cnt, e_retn, e_ix, e_call, e_fn, e_fn0, e_fnD, e_ifx, e_oft, e_tru, e_not, e_and, e_or, e_andv, e_orv, e_notv, e_neg, e_isi, e_chain, e_lst, e_tup, e_it, e_rg1, e_rg2, e_zip, e_enum, e_revi, e_rev, e_o0, e_o1, e_sl, e_dict0, e_yes, e_comp, e_pop, e_asB, e_toDd, e_toDf, e_toDs, e_lkd, e_lkf, e_lks, e_lan, e_lac, e_tdn, e_tdc, e_tsn, e_tsd, e_tsf, e_tss, e_snd, e_snf, e_snn, e_snc, e_sod, e_sof, e_st, e_fln, e_keep, e_itl, e_itt, e_rr1, e_rr2, e_tupRg, e_lstRg, e_revR, e_popAt, e_ext, e_tupRev, e_repL, e_lenSet, e_enumA, e_zipA, e_zip3, d_addT, flat1,
  d_add, d_sub, d_lt, d_le, d_gt, d_ge, d_eq, d_ne, d_ixl, d_ixt, d_lenl, d_lent, d_inti, d_intb, d_abs, d_max2, d_min2, d_tupl, d_tupt, d_lsl, d_lst, d_rb, t_b, t_i, t_l, t_t, is_nb, is_bb, k_ii, k_ib, k_bi, k_bb, k_ni, k_si, k_ti, k_li, k_di, k_tt, isNone, isBl,
  Option.bind_some, Option.bind_none, Option.map_some, Option.map_none, List.append_nil, List.cons_append, List.nil_append, List.replicate, List.getElem?_cons_zero, List.getElem?_cons_succ, List.getElem?_nil, List.set_cons_zero, List.set_cons_succ, List.length_cons, List.length_nil, List.mapIdx_cons, List.mapIdx_nil, List.contains_nil, List.contains_cons, Bool.false_eq_true, if_true, if_false, reduceIte, Bool.not_true, Bool.not_false, Option.getD_some, Function.comp, List.map_cons, List.map_nil,
  Nat.reduceLT, Nat.reduceAdd, Nat.reduceBEq, Nat.reduceEqDiff, Nat.reduceLeDiff, Int.reduceLT, Int.reduceLE, decide_true, decide_false, beq_self_eq_true, Bool.or_false, Bool.or_true, Bool.true_or, Bool.false_or, Bool.and_true, Bool.true_and, Bool.and_false, Bool.false_and, and_self, Nat.zero_add, hn, e, ea, hb, eR]
theorem vc_pre {CF CV CN : MF} {M : MS} {W : Da} {g : Int} {h1 h2 h3 : Gh} (e1 : CF [.val (.int p)] = some (.dat .none, h1)) (e2 : CV [.val (.int p), .val W] = some (.dat .none, h2)) (e3 : CN [.val (.int p), .val (.int g)] = some (.dat .none, h3)) : (sSeq (sDrop (mFn CF (mCons (mName 0) mNil)))
    (sSeq (sDrop (mFn CV (mCons (mName 0) (mCons (mName 1) mNil))))
    (sSeq (sDrop (mFn CN (mCons (mName 0) (mCons (mName 2) mNil)))) M))) [.val (.int p), .val W, .val (.int g), .un] = M [.val (.int p), .val W, .val (.int g), .un] := by
  simp only [e_bodyM, e_seq, e_nil, e_if, e_set, e_ret, e_drop, e_par, e_asg, e_for, e_app, e_setix, e_aug, e_name, e_c, e_anil, e_acons, e_bin, e_cmp, e_brk, e_cnt, e_retn, e_ix, e_call, e_fn, e_fn0, e_fnD, e_ifx, e_oft, e_tru, e_not, e_and, e_or, e_andv, e_orv, e_notv, e_neg, e_isi, e_chain, e_lst, e_tup, e_it, e_rg1, e_rg2, e_zip, e_enum, e_revi, e_rev, e_o0, e_o1, e_sl, e_dict0, e_yes, e_comp, e_pop, e_asB, e_toDd, e_toDf, e_toDs, e_lkd, e_lkf, e_lks, e_lan, e_lac, e_tdn, e_tdc, e_tsn, e_tsd, e_tsf, e_tss, e_snd, e_snf, e_snn, e_snc, e_sod, e_sof, e_st, e_fln, e_keep, e_itl, e_itt, e_rr1, e_rr2, e_tupRg, e_lstRg, e_revR, e_popAt, e_ext, e_tupRev, e_repL, e_lenSet, e_enumA, e_zipA, e_zip3, d_addT, flat1,
  d_add, d_sub, d_lt, d_le, d_gt, d_ge, d_eq, d_ne, d_ixl, d_ixt, d_lenl, d_lent, d_inti, d_intb, d_abs, d_max2, d_min2, d_tupl, d_tupt, d_lsl, d_lst, d_rb, t_b, t_i, t_l, t_t, is_nb, is_bb, k_ii, k_ib, k_bi, k_bb, k_ni, k_si, k_ti, k_li, k_di, k_tt, isNone, isBl,
  Option.bind_some, Option.bind_none, Option.map_some, Option.map_none, List.append_nil, List.cons_append, List.nil_append, List.replicate, List.getElem?_cons_zero, List.getElem?_cons_succ, List.getElem?_nil, List.set_cons_zero, List.set_cons_succ, List.length_cons, List.length_nil, List.mapIdx_cons, List.mapIdx_nil, List.contains_nil, List.contains_cons, Bool.false_eq_true, if_true, if_false, reduceIte, Bool.not_true, Bool.not_false, Option.getD_some, Function.comp, List.map_cons, List.map_nil,
  Nat.reduceLT, Nat.reduceAdd, Nat.reduceBEq, Nat.reduceEqDiff, Nat.reduceLeDiff, Int.reduceLT, Int.reduceLE, decide_true, decide_false, beq_self_eq_true, Bool.or_false, Bool.or_true, Bool.true_or, Bool.false_or, Bool.and_true, Bool.true_and, Bool.and_false, Bool.false_and, and_self, Nat.zero_add, e1, e2, e3]
theorem b31 {M : MS} {a b c : Sl} {s3 : Sl} {w : Wv} (h : M [a, b, c, .un] = some (.rt w, [a, b, c, s3])) : bodyM [] 1 M [a, b, c] = some (w, [a, b, c]) := by
  show (M [a, b, c, .un]).bind _ = _
  rw [h]
  rfl
/-- how many vectors have the sum -/
def manyR (p : Int) (n : Nat) (w : List Int) (g : Int) : Int := if heavyR n w = [] then (if g = 0 then p ^ n else 0) else p ^ (n - 1)
theorem t_vectors_count (hf : isFld p = true) (hw : InF p w) (lw : w.length = n) (hn : n ≤ 60) {g : Int} (g0 : 0 ≤ g) (g1 : g < p) : F_vectors_count [.val (.int p), .val (tupI w), .val (.int g)] = some (.dat (.int (manyR p n w g)), [.val (.int p), .val (tupI w), .val (.int g)]) := by
  have hp := fld_pos hf
  obtain ⟨m, hm⟩ : ∃ m : Int, m = (n : Nat) := ⟨_, rfl⟩
  have hl : (((w.map PyData.int).length : Nat) : Int) = m := by rw [List.length_map, lw, hm]
  have eC : mComp [3] (mIt (mName 1)) (setN 3) mYes (mBin dNe (mName 3) (mC (.int 0))) [.val (.int p), .val (.tuple (w.map PyData.int)), .val (.int g), .un] = some (.fresh ((w.map fun x => !(x == 0)).map PyData.bool), [.val (.int p), .val (.tuple (w.map PyData.int)), .val (.int g), .un]) := by
    rw [List.map_map]
    refine comp_of (e := PyData.int) (F := PyData.bool ∘ fun x => !(x == 0)) (it_of rfl rfl) (by omega) rfl rfl fun x _ => ?_
    exact ⟨[.val (.int p), .val (.tuple (w.map PyData.int)), .val (.int g), .val (.int x)], _, _, _, rfl, vc_el rfl, rfl, rfl⟩
  have pre := vc_pre (W := .tuple (w.map PyData.int)) (g := g) (t_check_field hf) (t_check_vector hp.1 hw (by omega)) (t_check_number g0 g1) (M := (sSeq (sIf (mTru (mCall dAny (mCons (mComp [3] (mIt (mName 1)) (setN 3) mYes (mBin dNe (mName 3) (mC (.int 0)))) mNil))) (sRet [] (mFn Lib.F_rows_count (mCons (mName 0) (mCons (mBin dSub (mCall dLen (mCons (mName 1) mNil)) (mC (.int 1))) mNil)))) sNil)
    (sRet [] (mIf (mCmp dEq (mName 2) (mC (.int 0))) (mFn Lib.F_rows_count (mCons (mName 0) (mCons (mCall dLen (mCons (mName 1) mNil)) mNil))) (mC (.int 0))))))
  unfold F_vectors_count m_vectors_count manyR
  by_cases hh : heavyR n w = []
  · have ea : (w.map fun x => !(x == 0)).any id = false := by
      rw [List.any_map, List.any_eq_false]
      intro x hx
      have := (heavy_nil lw).mp hh x hx
      simp [this]
    have eA := d_any (w.map fun x => !(x == 0))
    rw [ea] at eA
    have eR := t_rows_countW (m := m) hp.1 hp.2 (by omega) (by omega)
    rw [show m.toNat = n by omega] at eR
    have key := vc_no hl eC eA (b := g == 0) rfl eR (M := (sRet [] (mFn Lib.F_rows_count (mCons (mName 0) (mCons (mBin dSub (mCall dLen (mCons (mName 1) mNil)) (mC (.int 1))) mNil)))))
    rw [if_pos hh]
    have ge : (if (g == 0) = true then p ^ n else 0) = (if g = 0 then p ^ n else 0) := by
      by_cases gz : g = 0
      · rw [if_pos gz, if_pos (beq_iff_eq.mpr gz)]
      · rw [if_neg gz, if_neg (by simpa using gz)]
    rw [ge] at key
    exact b31 (pre.trans key)
  · have ea : (w.map fun x => !(x == 0)).any id = true := by
      refine Classical.byContradiction fun z => hh ((heavy_nil lw).mpr fun x hx => ?_)
      rw [Bool.not_eq_true, List.any_map, List.any_eq_false] at z
      have := z x hx
      simpa using this
    have eA := d_any (w.map fun x => !(x == 0))
    rw [ea] at eA
    have n1 : 1 ≤ n := Nat.one_le_iff_ne_zero.mpr fun z => hh (by rw [z]; rfl)
    have eR := t_rows_countW (m := m - 1) hp.1 hp.2 (by omega) (by omega)
    rw [show (m - 1).toNat = n - 1 by omega] at eR
    rw [if_neg hh]
    exact b31 (pre.trans (vc_any hl eC eA eR))
end
end Lib
end
section
set_option maxHeartbeats 2000000
set_option autoImplicit false
/-! EwO: d == {}. -/
namespace EV
open PySem PySem.Spec PyProof.Rows L2
end EV
end
section
set_option maxHeartbeats 2000000
set_option autoImplicit false
/-! EwP: a, b = a list. -/
namespace EV
open PySem PySem.Spec PyProof.Rows L2
end EV
end
section
set_option maxHeartbeats 2000000
set_option autoImplicit false
/-! EwQ: for crew in (x, y): for row in crew: .. , x and y tables of one's own, each row changed in place. -/
namespace EV
open PySem PySem.Spec PyProof.Rows L2
section
variable {F : Fam} {pr : List Nat} {B : Addr → Prop} {Hf H Hf' H' Hf1 H1 Hf2 H2 : Hp} {g g' g1 g2 : Gh} {σ σ' σ1 σ2 : L2.St} {K : Frag}
/-- what is hidden while rows are changed -/
structure Hid (K : Frag) (B : Addr → Prop) (Hf H : Hp) (g : Gh) (σ : L2.St) (p : Addr) (qs : List Addr) (rs : List (List Da)) : Prop where
  lst : H p = some (.lst (qs.map V.ref))
  fz : Hf p = none
  rows : TabOk K Hf H qs rs
  no : ∀ a ∈ p :: qs, ¬ Own g σ a
  old : ∀ a ∈ qs, B a
theorem Hid.there {p : Addr} {qs : List Addr} {rs : List (List Da)} (h : Hid K B Hf H g σ p qs rs) {a : Addr} (ha : a ∈ p :: qs) : ∃ u, H a = some u := by
  rcases List.mem_cons.mp ha with rfl | ha
  · exact ⟨_, h.lst⟩
  · obtain ⟨u, hu, _⟩ := h.rows.there ha
    exact ⟨u, hu⟩
theorem Hid.step {p : Addr} {qs : List Addr} {rs : List (List Da)} (h : Hid K B Hf H g σ p qs rs) {O : Addr → Prop} (t : Tr O Hf H Hf' H') (ho : ∀ a ∈ p :: qs, ¬ O a) (sb : ∀ a, Own g' σ' a → Own g σ a ∨ H a = none) : Hid K B Hf' H' g' σ' p qs rs := by
  have keep : ∀ a u, a ∈ p :: qs → H a = some u → H' a = some u ∧ Hf' a = Hf a := fun a u ha e => t.keep a u e (ho a ha)
  obtain ⟨k1, k2⟩ := keep p _ List.mem_cons_self h.lst
  refine ⟨k1, k2.trans h.fz, h.rows.stay t.ex fun a u ha h1 h2 => ?_, fun a ha z => ?_, h.old⟩
  · obtain ⟨j1, j2⟩ := keep a u (List.mem_cons_of_mem _ ha) h1
    exact ⟨j1, j2.trans h2⟩
  · rcases sb a z with z | z
    · exact h.no a ha z
    · obtain ⟨u, hu⟩ := h.there ha
      rw [z] at hu; cases hu
/-- a step that may change the rows at qs, too -/
structure RS (K : Frag) (pr : List Nat) (B : Addr → Prop) (is : List Nat) (qs : List Addr) (Hf H : Hp) (g : Gh) (σ : L2.St) (Hf' H' : Hp) (g' : Gh) (σ' : L2.St) : Prop where
  tr : Tr (fun a => Own g σ a ∨ a ∈ qs) Hf H Hf' H'
  env : En K pr B Hf' H' g' σ'
  sub : ∀ a, Own g' σ' a → Own g σ a ∨ H a = none
  prk : ∀ i ∈ is ++ pr, σ'[i]? = σ[i]?
theorem RS.trans {is : List Nat} {qs : List Addr} (a : RS K pr B is qs Hf H g σ Hf1 H1 g1 σ1) (b : RS K pr B is qs Hf1 H1 g1 σ1 Hf2 H2 g2 σ2) : RS K pr B is qs Hf H g σ Hf2 H2 g2 σ2 :=
  ⟨a.tr.trans b.tr fun p h => by
    rcases h with h | h
    · rcases a.sub p h with z | z
      · exact .inl (.inl z)
      · exact .inr z
    · exact .inl (.inr h), b.env, fun p h => by
    rcases b.sub p h with z | z
    · exact a.sub p z
    · exact .inr (a.tr.stay p z), fun i hi => (b.prk i hi).trans (a.prk i hi)⟩
end
end EV
end
section
set_option maxHeartbeats 2000000
set_option autoImplicit false
/-! EwR: blocks over two tables of one's own, whose addresses no mirror tells. -/
namespace EV
open PySem PySem.Spec PyProof.Rows L2
structure Tb where
  p1 : Addr
  q1 : List Addr
  A : List (List Da)
  p2 : Addr
  q2 : List Addr
  C : List (List Da)
def Tb.all (t : Tb) : List Addr := t.p1 :: t.q1 ++ t.p2 :: t.q2
section
variable {F : Fam} {pr : List Nat} {B : Addr → Prop} {Hf H Hf' H' Hf1 H1 Hf2 H2 : Hp} {g g' g1 g2 : Gh} {σ σ' σ1 σ2 : L2.St} {K : Frag} {i1 i2 : Nat} {t t' t1 t2 : Tb}
/-- slots i1, i2 hold tables that the ghost does not tell -/
structure Zs (K : Frag) (pr : List Nat) (B : Addr → Prop) (i1 i2 : Nat) (Hf H : Hp) (g : Gh) (σ : L2.St) (t : Tb) : Prop where
  env : En K (i1 :: i2 :: pr) B Hf H g σ
  u1 : g[i1]? = some .un
  u2 : g[i2]? = some .un
  v1 : σ[i1]? = some (some (.ref t.p1))
  v2 : σ[i2]? = some (some (.ref t.p2))
  h1 : Hid K B Hf H g σ t.p1 t.q1 t.A
  h2 : Hid K B Hf H g σ t.p2 t.q2 t.C
  nd : t.all.Nodup
  b1 : B t.p1
  b2 : B t.p2
def Rch (g : Gh) (σ : L2.St) (t : Tb) (a : Addr) : Prop := Own g σ a ∨ a ∈ t.all
structure ZStp (K : Frag) (pr : List Nat) (Hf H : Hp) (g : Gh) (σ : L2.St) (t : Tb) (Hf' H' : Hp) (g' : Gh) (σ' : L2.St) (t' : Tb) : Prop where
  tr : Tr (Rch g σ t) Hf H Hf' H'
  sub : ∀ a, Rch g' σ' t' a → Rch g σ t a ∨ H a = none
  prk : ∀ i ∈ pr, σ'[i]? = σ[i]?
theorem ZStp.refl : ZStp K pr Hf H g σ t Hf H g σ t := ⟨Tr.refl, fun _ z => .inl z, fun _ _ => rfl⟩
theorem ZStp.trans (a : ZStp K pr Hf H g σ t Hf1 H1 g1 σ1 t1) (b : ZStp K pr Hf1 H1 g1 σ1 t1 Hf2 H2 g2 σ2 t2) : ZStp K pr Hf H g σ t Hf2 H2 g2 σ2 t2 :=
  ⟨a.tr.trans b.tr a.sub, fun p z => by
    rcases b.sub p z with z | z
    · exact a.sub p z
    · exact .inr (a.tr.stay p z), fun i hi => (b.prk i hi).trans (a.prk i hi)⟩
theorem Zs.in1 (Z : Zs K pr B i1 i2 Hf H g σ t) : (t.p1 :: t.q1).Nodup := (List.nodup_append.mp Z.nd).1
theorem all_1 {a : Addr} (h : a ∈ t.p1 :: t.q1) : a ∈ t.all := List.mem_append_left _ h
theorem all_2 {a : Addr} (h : a ∈ t.p2 :: t.q2) : a ∈ t.all := List.mem_append_right _ h
theorem Zs.no (Z : Zs K pr B i1 i2 Hf H g σ t) {a : Addr} (h : a ∈ t.all) : ¬ Own g σ a := by
  rcases List.mem_append.mp h with h | h
  · exact Z.h1.no a h
  · exact Z.h2.no a h
theorem Zs.there (Z : Zs K pr B i1 i2 Hf H g σ t) {a : Addr} (h : a ∈ t.all) : ∃ u, H a = some u := by
  rcases List.mem_append.mp h with h | h
  · exact Z.h1.there h
  · exact Z.h2.there h
/-- a step that leaves the tables -/
theorem Zs.keep (Z : Zs K pr B i1 i2 Hf H g σ t) (s : SStp K (i1 :: i2 :: pr) B Hf H g σ Hf' H' g' σ') (u1 : g'[i1]? = some .un) (u2 : g'[i2]? = some .un) : Zs K pr B i1 i2 Hf' H' g' σ' t ∧ ZStp K pr Hf H g σ t Hf' H' g' σ' t := by
  refine ⟨⟨s.env, u1, u2, by rw [s.prk i1 (by simp)]; exact Z.v1, by rw [s.prk i2 (by simp)]; exact Z.v2, Z.h1.step s.tr (fun a h => Z.no (all_1 h)) s.sub, Z.h2.step s.tr (fun a h => Z.no (all_2 h)) s.sub, Z.nd, Z.b1, Z.b2⟩, s.tr.wide fun a z => .inl z, fun a z => ?_, fun i hi => s.prk i (by simp [hi])⟩
  rcases z with z | z
  · rcases s.sub a z with z | z
    · exact .inl (.inl z)
    · exact .inr z
  · exact .inl (.inr z)
/-! ### blocks -/
/-! ### from the real ghost and back -/
/-! ### for crew in (x, y): for row in crew: .. -/
end
end EV
end
section
set_option maxHeartbeats 2000000
set_option autoImplicit false
/-! EwS: rows of a hidden table looked at, taken out, put to; the tables made, and handed back. -/
namespace EV
open PySem PySem.Spec PyProof.Rows L2
end EV
end
section
set_option maxHeartbeats 2000000
set_option autoImplicit false
/-! EwT: x, y, z = [.. for ..], [], [] : x, y tables, z a list; what stands behind knows their addresses no more. -/
namespace EV
open PySem PySem.Spec PyProof.Rows L2
end EV
end
section
set_option autoImplicit false
namespace Lib
open PySem PySem.Spec PyProof.Rows L2 EV
end Lib
end
section
set_option autoImplicit false
namespace Lib
open PySem PySem.Spec PyProof.Rows L2 EV
end Lib
end
section
set_option maxHeartbeats 2000000
set_option autoImplicit false
/-! EwU: max of a tuple of whole numbers. -/
namespace EV
open PySem PySem.Spec PyProof.Rows L2
end EV
end
section
set_option maxHeartbeats 2000000
set_option autoImplicit false
/-! EwV (begun): itertools.combinations(items, r): what its class looks up, how it is made, its steps. -/
namespace CpCmb
open PySem PySem.Spec
open Sem (wp)
end CpCmb
end
section
set_option maxHeartbeats 2000000
set_option autoImplicit false
/-! EwW (begun): the steps of itertools.combinations. -/
namespace CpCmb
open PySem PySem.Spec
open Sem (wp)
end CpCmb
end
section
set_option maxHeartbeats 2000000
set_option autoImplicit false
/-! EwX (begun): combinations(range(..), k), called. -/
namespace CpCmb
open PySem PySem.Spec PyProof.Rows
open Sem (wp)
end CpCmb
end
section
set_option maxHeartbeats 2000000
set_option autoImplicit false
/-! EwY: `for x in combinations(range(a, b), k)`. -/
namespace CpCmb
open PySem PySem.Spec PyProof.Rows
open Sem (wp)
/-! ### the sequence of its places -/
end CpCmb
namespace L2
open PySem PySem.Spec PyProof PyProof.Rows CpCmb
end L2
namespace EV
open PySem PySem.Spec PyProof PyProof.Rows L2 CpCmb
end EV
end
section
set_option maxHeartbeats 3200000
set_option autoImplicit false
/-! EwZ: len(set(xs)), xs a list (of any length) of tuples of ints that are all equal. -/
namespace L2
open PySem PySem.Spec PyProof.Rows
/-- what the set has after i of the equal tuples -/
def OneL (as : List Addr) (T : List Int) (i : Nat) (L : List (Addr × List Int)) : Prop := (i = 0 ∧ L = []) ∨ (0 < i ∧ ∃ b ∈ as, L = [(b, T)])
theorem OneL.sub {as : List Addr} {T : List Int} {i : Nat} {L : List (Addr × List Int)} (h : OneL as T i L) : ∀ p ∈ L, p.1 ∈ as ∧ p.2 = T := fun p hp => by
  rcases h with ⟨_, rfl⟩ | ⟨_, b, hb, rfl⟩
  · cases hp
  · rw [List.mem_singleton.mp hp]; exact ⟨hb, rfl⟩
theorem OneL.step {as : List Addr} {T : List Int} {i : Nat} {L L' : List (Addr × List Int)} {x : Addr} (h : OneL as T i L) (hx : x ∈ as) (c1 : T ∈ L.map (·.2) → L' = L) (c2 : T ∉ L.map (·.2) → L'.Perm ((x, T) :: L)) : OneL as T (i + 1) L' := by
  refine .inr ⟨Nat.succ_pos _, ?_⟩
  rcases h with ⟨_, rfl⟩ | ⟨_, b, hb, rfl⟩
  · exact ⟨x, hx, List.perm_singleton.mp (c2 (by simp))⟩
  · exact ⟨b, hb, c1 (by simp)⟩
end L2
namespace EV
open PySem PySem.Spec PyProof.Rows L2
end EV
end
section
set_option autoImplicit false
namespace Lib
open PySem PySem.Spec PyProof.Rows L2 EV
end Lib
end
section
set_option exponentiation.threshold 3000
namespace Lib
open PySem PySem.Spec PyProof.Rows L2 EV
/-! ### rows eliminated, column by column (the law's own way) -/
theorem dot_set (v : Int) : ∀ (r u : List Int) (t : Nat), t < u.length → dotZ r (u.set t v) = dotZ r u + cf r t * (v - cf u t)
  | [], u, t, _ => by simp [dotZ, cf_nil]
  | a :: r, [], t, h => by simp at h
  | a :: r, y :: u, 0, _ => by
    simp only [List.set_cons_zero, dotZ, cf_zero]
    grind
  | a :: r, y :: u, t + 1, h => by
    simp only [List.set_cons_succ, dotZ, cf_succ]
    rw [dot_set v r u t (by simpa using h)]
    grind
end Lib
end
section
set_option exponentiation.threshold 3000
namespace Lib
open PySem PySem.Spec PyProof.Rows L2 EV
/-! ### the law's own elimination, its mirror -/
theorem at_n {X : List Da} {i : Nat} {ii : Int} {d : Da} (hi : ii = (i : Nat)) (h : X[i]? = some d) : atI X ii = some d := by
  subst hi; exact atI_nat h
theorem d_neNilN (xs : List Nat) : dNe (.list (xs.map intN)) (.list []) = some (.dat (.bool (!xs.isEmpty))) := by
  rw [d_neD _ _ (ok_flat (flat_list (n := 0) fun x hx => by obtain ⟨y, _, rfl⟩ := List.mem_map.mp hx; exact flat_int _)) (ok_flat (flat_list (n := 0) (xs := []) fun x hx => by cases hx))]
  cases xs <;> simp only [PyData.eqv, PyData.eqvAll, List.isEmpty, List.map_cons, List.map_nil]
end Lib
end
section
set_option exponentiation.threshold 3000
namespace Lib
open PySem PySem.Spec PyProof.Rows L2 EV
end Lib
end
section
set_option exponentiation.threshold 3000
namespace Lib
open PySem PySem.Spec PyProof.Rows L2 EV
end Lib
end
section
set_option exponentiation.threshold 3000
namespace Lib
open PySem PySem.Spec PyProof.Rows L2 EV
end Lib
end
section
set_option exponentiation.threshold 3000
namespace Lib
open PySem PySem.Spec PyProof.Rows L2 EV
/-! ### powers, a poly that fits -/
theorem dot_app2 (y k : Int) : ∀ (r u : List Int), r.length = u.length → dotZ (r ++ [y]) (u ++ [k]) = dotZ r u + y * k
  | [], [], _ => by simp [dotZ]
  | a :: r, b :: u, h => by
    simp only [List.cons_append, dotZ]
    rw [dot_app2 y k r u (by simpa using h)]
    grind
  | [], _ :: _, h => by simp at h
  | _ :: _, [], h => by simp at h
end Lib
end
section
set_option exponentiation.threshold 3000
namespace Lib
open PySem PySem.Spec PyProof.Rows L2 EV
end Lib
end
section
set_option exponentiation.threshold 3000
namespace Lib
open PySem PySem.Spec PyProof.Rows L2 EV
theorem rolls_go {vs : List Nat} {tg : Wv → Gh → Option Gh} {el : ME} {p : Int} {S : List Da → Gh} (st : ∀ ds k d, DiceOk k ds → k ≤ 100000 → ∃ x ds', 0 ≤ x ∧ x < p ∧ DiceOk (k + 1) ds' ∧ ∃ g1 g2, tg (.dat d) (S ds) = some g1 ∧ el g1 = some (.dat (.int x), g2) ∧ wipeG g2 vs = S ds') : ∀ (L : List Da) (k : Nat) (ds : List Da), DiceOk k ds → k + L.length ≤ 100000 → ∃ xs ds', InF p xs ∧ xs.length = L.length ∧ DiceOk (k + L.length) ds' ∧ compL vs tg mYes el L (S ds) = some (xs.map PyData.int, S ds')
  | [], k, ds, h, _ => ⟨[], ds, fun x hx => (nomatch hx), rfl, h, rfl⟩
  | d :: L, k, ds, h, hk => by
    rw [List.length_cons] at hk
    obtain ⟨x, ds1, x0, x1, h1, g1, g2, a1, a2, a3⟩ := st ds k d h (by omega)
    obtain ⟨xs, ds2, i1, i2, i3, i4⟩ := rolls_go st L (k + 1) ds1 h1 (by omega)
    refine ⟨x :: xs, ds2, fun y hy => ?_, by rw [List.length_cons, i2, List.length_cons], by rw [List.length_cons, show k + (L.length + 1) = k + 1 + L.length by omega]; exact i3, ?_⟩
    · rcases List.mem_cons.mp hy with rfl | hy
      · exact ⟨x0, x1⟩
      · exact i1 y hy
    · unfold compL
      rw [a1, Option.bind_some]
      show ((el g1).bind _) = _
      rw [a2, Option.bind_some]
      show ((compL vs tg mYes el L (wipeG g2 vs)).bind _) = _
      rw [a3, i4]
      rfl
end Lib
end
section
set_option exponentiation.threshold 3000
namespace Lib
open PySem PySem.Spec PyProof.Rows L2 EV
theorem cut_takeA (X : List Da) (k : Nat) {ki : Int} (hk : ki = (k : Nat)) : EV.cutD X none (some ki) = X.take k := by
  subst hk
  unfold EV.cutD HT.sIx
  simp only [show ¬ ((k : Nat) : Int) < 0 by omega, if_false, Int.toNat_natCast, List.drop_zero, Nat.sub_zero]
  by_cases h : k ≤ X.length
  · rw [Nat.min_eq_left h]
  · rw [Nat.min_eq_right (by omega), List.take_length, List.take_of_length_le (by omega)]
end Lib
end
section
set_option exponentiation.threshold 3000
namespace Lib
open PySem PySem.Spec PyProof.Rows L2 EV
/-! ### the law's own syndromes -/
end Lib
end
section
set_option exponentiation.threshold 3000
namespace Lib
open PySem PySem.Spec PyProof.Rows L2 EV
/-! ### places a poly misses; the poly at some places -/
end Lib
end
section
set_option exponentiation.threshold 3000
namespace Lib
open PySem PySem.Spec PyProof.Rows L2 EV
/-! ### a row of zeros but for some places; a poly, or such a row -/
end Lib
end
section
set_option exponentiation.threshold 3000
namespace Lib
open PySem PySem.Spec PyProof.Rows L2 EV
end Lib
end
section
set_option exponentiation.threshold 3000
namespace Lib
open PySem PySem.Spec PyProof.Rows L2 EV
/-! ### all lots of places, ascending -/
end Lib
end
section
set_option exponentiation.threshold 3000
namespace Lib
open PySem PySem.Spec PyProof.Rows L2 EV
/-! ### the law's near polys -/
end Lib
end
section
set_option exponentiation.threshold 3000
namespace Lib
open PySem PySem.Spec PyProof.Rows L2 EV
/-! ### what a fit out of a lot of places says -/
end Lib
end
section
set_option exponentiation.threshold 3000
namespace Lib
open PySem PySem.Spec PyProof.Rows L2 EV
/-! ### the paper of a word, and its near poly -/
theorem seq_rt {s r : MS} {g g1 : Gh} {w : Wv} (h : s g = some (.rt w, g1)) : sSeq s r g = some (.rt w, g1) := by rw [e_seq, h]; rfl
end Lib
end
section
set_option exponentiation.threshold 3000
namespace Lib
open PySem PySem.Spec PyProof.Rows L2 EV
/-! ### a vector moved -/
section
variable {p : Int} {n : Nat} {w v : List Int}
def movR (p : Int) (n : Nat) (w v : List Int) (g : Int) : Option (List Int) := (heavyR n w).head?.map fun k => v.set k ((cf v k + (g - dotZ w v % p) * (cf w k ^ (p - 2).toNat % p)) % p)
theorem set_cut {x : Int} : ∀ (v : List Int) (k : Nat), k < v.length → v.take k ++ [x] ++ v.drop (k + 1) = v.set k x
  | [], k, h => absurd h (Nat.not_lt_zero k)
  | y :: v, 0, _ => by simp
  | y :: v, k + 1, h => by
    have ih := set_cut (x := x) v k (by simpa using h)
    simp only [List.take_succ_cons, List.drop_succ_cons, List.set_cons_succ, List.cons_append, ih]
theorem mo_pre {CF CV CN : MF} {M : MS} {W V : List Da} {g n : Int} {h1 h2 h3 h4 : Gh} (e1 : CF [.val (.int p)] = some (.dat .none, h1)) (e2 : CV [.val (.int p), .val (.tuple W)] = some (.dat .none, h2)) (e3 : CV [.val (.int p), .val (.tuple V)] = some (.dat .none, h3)) (e4 : CN [.val (.int p), .val (.int g)] = some (.dat .none, h4)) (n1 : ((W.length : Nat) : Int) = n) (n2 : ((V.length : Nat) : Int) = n) : (sSeq (sDrop (mFn CF (mCons (mName 0) mNil)))
    (sSeq (sDrop (mFn CV (mCons (mName 0) (mCons (mName 1) mNil))))
    (sSeq (sDrop (mFn CV (mCons (mName 0) (mCons (mName 2) mNil))))
    (sSeq (sDrop (mFn CN (mCons (mName 0) (mCons (mName 3) mNil))))
    (sSeq (sIf (mCmp dNe (mCall dLen (mCons (mName 1) mNil)) (mCall dLen (mCons (mName 2) mNil))) sNo sNil) M))))) [.val (.int p), .val (.tuple W), .val (.tuple V), .val (.int g), .un, .un, .un, .un] = M [.val (.int p), .val (.tuple W), .val (.tuple V), .val (.int g), .un, .un, .un, .un] := by
  simp only [e_bodyM, e_seq, e_nil, e_if, e_set, e_ret, e_drop, e_par, e_asg, e_for, e_app, e_setix, e_aug, e_name, e_c, e_anil, e_acons, e_bin, e_cmp, e_brk, e_cnt, e_retn, e_ix, e_call, e_fn, e_fn0, e_fnD, e_ifx, e_oft, e_tru, e_not, e_and, e_or, e_andv, e_orv, e_notv, e_neg, e_isi, e_chain, e_lst, e_tup, e_it, e_rg1, e_rg2, e_zip, e_enum, e_revi, e_rev, e_o0, e_o1, e_sl, e_dict0, e_yes, e_comp, e_pop, e_asB, e_toDd, e_toDf, e_toDs, e_lkd, e_lkf, e_lks, e_lan, e_lac, e_tdn, e_tdc, e_tsn, e_tsd, e_tsf, e_tss, e_snd, e_snf, e_snn, e_snc, e_sod, e_sof, e_st, e_fln, e_keep, e_itl, e_itt, e_rr1, e_rr2, e_tupRg, e_lstRg, e_revR, e_popAt, e_ext, e_tupRev, e_repL, e_lenSet, e_enumA, e_zipA, e_zip3, d_addT, flat1,
  d_add, d_sub, d_lt, d_le, d_gt, d_ge, d_eq, d_ne, d_ixl, d_ixt, d_lenl, d_lent, d_inti, d_intb, d_abs, d_max2, d_min2, d_tupl, d_tupt, d_lsl, d_lst, d_rb, t_b, t_i, t_l, t_t, is_nb, is_bb, k_ii, k_ib, k_bi, k_bb, k_ni, k_si, k_ti, k_li, k_di, k_tt, isNone, isBl,
  Option.bind_some, Option.bind_none, Option.map_some, Option.map_none, List.append_nil, List.cons_append, List.nil_append, List.replicate, List.getElem?_cons_zero, List.getElem?_cons_succ, List.getElem?_nil, List.set_cons_zero, List.set_cons_succ, List.length_cons, List.length_nil, List.mapIdx_cons, List.mapIdx_nil, List.contains_nil, List.contains_cons, Bool.false_eq_true, if_true, if_false, reduceIte, Bool.not_true, Bool.not_false, Option.getD_some, Function.comp, List.map_cons, List.map_nil,
  Nat.reduceLT, Nat.reduceAdd, Nat.reduceBEq, Nat.reduceEqDiff, Nat.reduceLeDiff, Int.reduceLT, Int.reduceLE, decide_true, decide_false, beq_self_eq_true, Bool.or_false, Bool.or_true, Bool.true_or, Bool.false_or, Bool.and_true, Bool.true_and, Bool.and_false, Bool.false_and, and_self, Nat.zero_add, e1, e2, e3, e4, n1, n2]
theorem mo_4 {HP : MF} {W V : Da} {g : Int} {L : List Da} {h : Gh} (e : HP [.val W] = some (.fresh L, h)) : (sSet 4 (mFn HP (mCons (mName 1) mNil))) [.val (.int p), .val W, .val V, .val (.int g), .un, .un, .un, .un] = some (.nx, [.val (.int p), .val W, .val V, .val (.int g), .own L, .un, .un, .un]) := by
  simp only [e_bodyM, e_seq, e_nil, e_if, e_set, e_ret, e_drop, e_par, e_asg, e_for, e_app, e_setix, e_aug, e_name, e_c, e_anil, e_acons, e_bin, e_cmp, e_brk, e_cnt, e_retn, e_ix, e_call, e_fn, e_fn0, e_fnD, e_ifx, e_oft, e_tru, e_not, e_and, e_or, e_andv, e_orv, e_notv, e_neg, e_isi, e_chain, e_lst, e_tup, e_it, e_rg1, e_rg2, e_zip, e_enum, e_revi, e_rev, e_o0, e_o1, e_sl, e_dict0, e_yes, e_comp, e_pop, e_asB, e_toDd, e_toDf, e_toDs, e_lkd, e_lkf, e_lks, e_lan, e_lac, e_tdn, e_tdc, e_tsn, e_tsd, e_tsf, e_tss, e_snd, e_snf, e_snn, e_snc, e_sod, e_sof, e_st, e_fln, e_keep, e_itl, e_itt, e_rr1, e_rr2, e_tupRg, e_lstRg, e_revR, e_popAt, e_ext, e_tupRev, e_repL, e_lenSet, e_enumA, e_zipA, e_zip3, d_addT, flat1,
  d_add, d_sub, d_lt, d_le, d_gt, d_ge, d_eq, d_ne, d_ixl, d_ixt, d_lenl, d_lent, d_inti, d_intb, d_abs, d_max2, d_min2, d_tupl, d_tupt, d_lsl, d_lst, d_rb, t_b, t_i, t_l, t_t, is_nb, is_bb, k_ii, k_ib, k_bi, k_bb, k_ni, k_si, k_ti, k_li, k_di, k_tt, isNone, isBl,
  Option.bind_some, Option.bind_none, Option.map_some, Option.map_none, List.append_nil, List.cons_append, List.nil_append, List.replicate, List.getElem?_cons_zero, List.getElem?_cons_succ, List.getElem?_nil, List.set_cons_zero, List.set_cons_succ, List.length_cons, List.length_nil, List.mapIdx_cons, List.mapIdx_nil, List.contains_nil, List.contains_cons, Bool.false_eq_true, if_true, if_false, reduceIte, Bool.not_true, Bool.not_false, Option.getD_some, Function.comp, List.map_cons, List.map_nil,
  Nat.reduceLT, Nat.reduceAdd, Nat.reduceBEq, Nat.reduceEqDiff, Nat.reduceLeDiff, Int.reduceLT, Int.reduceLE, decide_true, decide_false, beq_self_eq_true, Bool.or_false, Bool.or_true, Bool.true_or, Bool.false_or, Bool.and_true, Bool.true_and, Bool.and_false, Bool.false_and, and_self, Nat.zero_add, e]
theorem mo_5 {W V : Da} {g : Int} {L : List Da} (hL : L.isEmpty = true) : (sIf (mNot (mTru (mName 4))) (sRet [] (mC .none)) sNil) [.val (.int p), .val W, .val V, .val (.int g), .own L, .un, .un, .un] = some (.rt (.dat .none), [.val (.int p), .val W, .val V, .val (.int g), .own L, .un, .un, .un]) := by
  simp only [e_bodyM, e_seq, e_nil, e_if, e_set, e_ret, e_drop, e_par, e_asg, e_for, e_app, e_setix, e_aug, e_name, e_c, e_anil, e_acons, e_bin, e_cmp, e_brk, e_cnt, e_retn, e_ix, e_call, e_fn, e_fn0, e_fnD, e_ifx, e_oft, e_tru, e_not, e_and, e_or, e_andv, e_orv, e_notv, e_neg, e_isi, e_chain, e_lst, e_tup, e_it, e_rg1, e_rg2, e_zip, e_enum, e_revi, e_rev, e_o0, e_o1, e_sl, e_dict0, e_yes, e_comp, e_pop, e_asB, e_toDd, e_toDf, e_toDs, e_lkd, e_lkf, e_lks, e_lan, e_lac, e_tdn, e_tdc, e_tsn, e_tsd, e_tsf, e_tss, e_snd, e_snf, e_snn, e_snc, e_sod, e_sof, e_st, e_fln, e_keep, e_itl, e_itt, e_rr1, e_rr2, e_tupRg, e_lstRg, e_revR, e_popAt, e_ext, e_tupRev, e_repL, e_lenSet, e_enumA, e_zipA, e_zip3, d_addT, flat1,
  d_add, d_sub, d_lt, d_le, d_gt, d_ge, d_eq, d_ne, d_ixl, d_ixt, d_lenl, d_lent, d_inti, d_intb, d_abs, d_max2, d_min2, d_tupl, d_tupt, d_lsl, d_lst, d_rb, t_b, t_i, t_l, t_t, is_nb, is_bb, k_ii, k_ib, k_bi, k_bb, k_ni, k_si, k_ti, k_li, k_di, k_tt, isNone, isBl,
  Option.bind_some, Option.bind_none, Option.map_some, Option.map_none, List.append_nil, List.cons_append, List.nil_append, List.replicate, List.getElem?_cons_zero, List.getElem?_cons_succ, List.getElem?_nil, List.set_cons_zero, List.set_cons_succ, List.length_cons, List.length_nil, List.mapIdx_cons, List.mapIdx_nil, List.contains_nil, List.contains_cons, Bool.false_eq_true, if_true, if_false, reduceIte, Bool.not_true, Bool.not_false, Option.getD_some, Function.comp, List.map_cons, List.map_nil,
  Nat.reduceLT, Nat.reduceAdd, Nat.reduceBEq, Nat.reduceEqDiff, Nat.reduceLeDiff, Int.reduceLT, Int.reduceLE, decide_true, decide_false, beq_self_eq_true, Bool.or_false, Bool.or_true, Bool.true_or, Bool.false_or, Bool.and_true, Bool.true_and, Bool.and_false, Bool.false_and, and_self, Nat.zero_add, hL]
theorem mo_5n {W V : Da} {g : Int} {L : List Da} (hL : L.isEmpty = false) : (sIf (mNot (mTru (mName 4))) (sRet [] (mC .none)) sNil) [.val (.int p), .val W, .val V, .val (.int g), .own L, .un, .un, .un] = some (.nx, [.val (.int p), .val W, .val V, .val (.int g), .own L, .un, .un, .un]) := by
  simp only [e_bodyM, e_seq, e_nil, e_if, e_set, e_ret, e_drop, e_par, e_asg, e_for, e_app, e_setix, e_aug, e_name, e_c, e_anil, e_acons, e_bin, e_cmp, e_brk, e_cnt, e_retn, e_ix, e_call, e_fn, e_fn0, e_fnD, e_ifx, e_oft, e_tru, e_not, e_and, e_or, e_andv, e_orv, e_notv, e_neg, e_isi, e_chain, e_lst, e_tup, e_it, e_rg1, e_rg2, e_zip, e_enum, e_revi, e_rev, e_o0, e_o1, e_sl, e_dict0, e_yes, e_comp, e_pop, e_asB, e_toDd, e_toDf, e_toDs, e_lkd, e_lkf, e_lks, e_lan, e_lac, e_tdn, e_tdc, e_tsn, e_tsd, e_tsf, e_tss, e_snd, e_snf, e_snn, e_snc, e_sod, e_sof, e_st, e_fln, e_keep, e_itl, e_itt, e_rr1, e_rr2, e_tupRg, e_lstRg, e_revR, e_popAt, e_ext, e_tupRev, e_repL, e_lenSet, e_enumA, e_zipA, e_zip3, d_addT, flat1,
  d_add, d_sub, d_lt, d_le, d_gt, d_ge, d_eq, d_ne, d_ixl, d_ixt, d_lenl, d_lent, d_inti, d_intb, d_abs, d_max2, d_min2, d_tupl, d_tupt, d_lsl, d_lst, d_rb, t_b, t_i, t_l, t_t, is_nb, is_bb, k_ii, k_ib, k_bi, k_bb, k_ni, k_si, k_ti, k_li, k_di, k_tt, isNone, isBl,
  Option.bind_some, Option.bind_none, Option.map_some, Option.map_none, List.append_nil, List.cons_append, List.nil_append, List.replicate, List.getElem?_cons_zero, List.getElem?_cons_succ, List.getElem?_nil, List.set_cons_zero, List.set_cons_succ, List.length_cons, List.length_nil, List.mapIdx_cons, List.mapIdx_nil, List.contains_nil, List.contains_cons, Bool.false_eq_true, if_true, if_false, reduceIte, Bool.not_true, Bool.not_false, Option.getD_some, Function.comp, List.map_cons, List.map_nil,
  Nat.reduceLT, Nat.reduceAdd, Nat.reduceBEq, Nat.reduceEqDiff, Nat.reduceLeDiff, Int.reduceLT, Int.reduceLE, decide_true, decide_false, beq_self_eq_true, Bool.or_false, Bool.or_true, Bool.true_or, Bool.false_or, Bool.and_true, Bool.true_and, Bool.and_false, Bool.false_and, and_self, Nat.zero_add, hL]
theorem mo_6 {W V : Da} {g k : Int} {L : List Da} (e : atI L 0 = some (.int k)) : (sSet 5 (mIx (mName 4) (mC (.int 0)))) [.val (.int p), .val W, .val V, .val (.int g), .own L, .un, .un, .un] = some (.nx, [.val (.int p), .val W, .val V, .val (.int g), .own L, .val (.int k), .un, .un]) := by
  simp only [e_bodyM, e_seq, e_nil, e_if, e_set, e_ret, e_drop, e_par, e_asg, e_for, e_app, e_setix, e_aug, e_name, e_c, e_anil, e_acons, e_bin, e_cmp, e_brk, e_cnt, e_retn, e_ix, e_call, e_fn, e_fn0, e_fnD, e_ifx, e_oft, e_tru, e_not, e_and, e_or, e_andv, e_orv, e_notv, e_neg, e_isi, e_chain, e_lst, e_tup, e_it, e_rg1, e_rg2, e_zip, e_enum, e_revi, e_rev, e_o0, e_o1, e_sl, e_dict0, e_yes, e_comp, e_pop, e_asB, e_toDd, e_toDf, e_toDs, e_lkd, e_lkf, e_lks, e_lan, e_lac, e_tdn, e_tdc, e_tsn, e_tsd, e_tsf, e_tss, e_snd, e_snf, e_snn, e_snc, e_sod, e_sof, e_st, e_fln, e_keep, e_itl, e_itt, e_rr1, e_rr2, e_tupRg, e_lstRg, e_revR, e_popAt, e_ext, e_tupRev, e_repL, e_lenSet, e_enumA, e_zipA, e_zip3, d_addT, flat1,
  d_add, d_sub, d_lt, d_le, d_gt, d_ge, d_eq, d_ne, d_ixl, d_ixt, d_lenl, d_lent, d_inti, d_intb, d_abs, d_max2, d_min2, d_tupl, d_tupt, d_lsl, d_lst, d_rb, t_b, t_i, t_l, t_t, is_nb, is_bb, k_ii, k_ib, k_bi, k_bb, k_ni, k_si, k_ti, k_li, k_di, k_tt, isNone, isBl,
  Option.bind_some, Option.bind_none, Option.map_some, Option.map_none, List.append_nil, List.cons_append, List.nil_append, List.replicate, List.getElem?_cons_zero, List.getElem?_cons_succ, List.getElem?_nil, List.set_cons_zero, List.set_cons_succ, List.length_cons, List.length_nil, List.mapIdx_cons, List.mapIdx_nil, List.contains_nil, List.contains_cons, Bool.false_eq_true, if_true, if_false, reduceIte, Bool.not_true, Bool.not_false, Option.getD_some, Function.comp, List.map_cons, List.map_nil,
  Nat.reduceLT, Nat.reduceAdd, Nat.reduceBEq, Nat.reduceEqDiff, Nat.reduceLeDiff, Int.reduceLT, Int.reduceLE, decide_true, decide_false, beq_self_eq_true, Bool.or_false, Bool.or_true, Bool.true_or, Bool.false_or, Bool.and_true, Bool.true_and, Bool.and_false, Bool.false_and, and_self, Nat.zero_add, e]
theorem mo_7 {SP : MF} {W V : Da} {g s : Int} {S4 S5 : Sl} {h : Gh} (e : SP [.val (.int p), .val W, .val V] = some (.dat (.int s), h)) : (sSet 6 (mBin dSub (mName 3) (mFn SP (mCons (mName 0) (mCons (mName 1) (mCons (mName 2) mNil)))))) [.val (.int p), .val W, .val V, .val (.int g), S4, S5, .un, .un] = some (.nx, [.val (.int p), .val W, .val V, .val (.int g), S4, S5, .val (.int (g - s)), .un]) := by
  simp only [e_bodyM, e_seq, e_nil, e_if, e_set, e_ret, e_drop, e_par, e_asg, e_for, e_app, e_setix, e_aug, e_name, e_c, e_anil, e_acons, e_bin, e_cmp, e_brk, e_cnt, e_retn, e_ix, e_call, e_fn, e_fn0, e_fnD, e_ifx, e_oft, e_tru, e_not, e_and, e_or, e_andv, e_orv, e_notv, e_neg, e_isi, e_chain, e_lst, e_tup, e_it, e_rg1, e_rg2, e_zip, e_enum, e_revi, e_rev, e_o0, e_o1, e_sl, e_dict0, e_yes, e_comp, e_pop, e_asB, e_toDd, e_toDf, e_toDs, e_lkd, e_lkf, e_lks, e_lan, e_lac, e_tdn, e_tdc, e_tsn, e_tsd, e_tsf, e_tss, e_snd, e_snf, e_snn, e_snc, e_sod, e_sof, e_st, e_fln, e_keep, e_itl, e_itt, e_rr1, e_rr2, e_tupRg, e_lstRg, e_revR, e_popAt, e_ext, e_tupRev, e_repL, e_lenSet, e_enumA, e_zipA, e_zip3, d_addT, flat1,
  d_add, d_sub, d_lt, d_le, d_gt, d_ge, d_eq, d_ne, d_ixl, d_ixt, d_lenl, d_lent, d_inti, d_intb, d_abs, d_max2, d_min2, d_tupl, d_tupt, d_lsl, d_lst, d_rb, t_b, t_i, t_l, t_t, is_nb, is_bb, k_ii, k_ib, k_bi, k_bb, k_ni, k_si, k_ti, k_li, k_di, k_tt, isNone, isBl,
  Option.bind_some, Option.bind_none, Option.map_some, Option.map_none, List.append_nil, List.cons_append, List.nil_append, List.replicate, List.getElem?_cons_zero, List.getElem?_cons_succ, List.getElem?_nil, List.set_cons_zero, List.set_cons_succ, List.length_cons, List.length_nil, List.mapIdx_cons, List.mapIdx_nil, List.contains_nil, List.contains_cons, Bool.false_eq_true, if_true, if_false, reduceIte, Bool.not_true, Bool.not_false, Option.getD_some, Function.comp, List.map_cons, List.map_nil,
  Nat.reduceLT, Nat.reduceAdd, Nat.reduceBEq, Nat.reduceEqDiff, Nat.reduceLeDiff, Int.reduceLT, Int.reduceLE, decide_true, decide_false, beq_self_eq_true, Bool.or_false, Bool.or_true, Bool.true_or, Bool.false_or, Bool.and_true, Bool.true_and, Bool.and_false, Bool.false_and, and_self, Nat.zero_add, e]
theorem mo_8 {IV : MF} {W V : List Da} {g k l x y u : Int} {S4 : Sl} {h : Gh} (hp : 0 < p) (e1 : atI V k = some (.int x)) (e2 : atI W k = some (.int y)) (e3 : IV [.val (.int p), .val (.int y)] = some (.dat (.int u), h)) (b1 : l.natAbs < 2 ^ 400) (b2 : u.natAbs < 2 ^ 400) : (sSet 7 (mBin dMod (mBin dAdd (mIx (mName 2) (mName 5)) (mBin dMul (mName 6) (mFn IV (mCons (mName 0) (mCons (mIx (mName 1) (mName 5)) mNil))))) (mName 0))) [.val (.int p), .val (.tuple W), .val (.tuple V), .val (.int g), S4, .val (.int k), .val (.int l), .un] = some (.nx, [.val (.int p), .val (.tuple W), .val (.tuple V), .val (.int g), S4, .val (.int k), .val (.int l), .val (.int ((x + l * u) % p))]) := by
  simp only [e_bodyM, e_seq, e_nil, e_if, e_set, e_ret, e_drop, e_par, e_asg, e_for, e_app, e_setix, e_aug, e_name, e_c, e_anil, e_acons, e_bin, e_cmp, e_brk, e_cnt, e_retn, e_ix, e_call, e_fn, e_fn0, e_fnD, e_ifx, e_oft, e_tru, e_not, e_and, e_or, e_andv, e_orv, e_notv, e_neg, e_isi, e_chain, e_lst, e_tup, e_it, e_rg1, e_rg2, e_zip, e_enum, e_revi, e_rev, e_o0, e_o1, e_sl, e_dict0, e_yes, e_comp, e_pop, e_asB, e_toDd, e_toDf, e_toDs, e_lkd, e_lkf, e_lks, e_lan, e_lac, e_tdn, e_tdc, e_tsn, e_tsd, e_tsf, e_tss, e_snd, e_snf, e_snn, e_snc, e_sod, e_sof, e_st, e_fln, e_keep, e_itl, e_itt, e_rr1, e_rr2, e_tupRg, e_lstRg, e_revR, e_popAt, e_ext, e_tupRev, e_repL, e_lenSet, e_enumA, e_zipA, e_zip3, d_addT, flat1,
  d_add, d_sub, d_lt, d_le, d_gt, d_ge, d_eq, d_ne, d_ixl, d_ixt, d_lenl, d_lent, d_inti, d_intb, d_abs, d_max2, d_min2, d_tupl, d_tupt, d_lsl, d_lst, d_rb, t_b, t_i, t_l, t_t, is_nb, is_bb, k_ii, k_ib, k_bi, k_bb, k_ni, k_si, k_ti, k_li, k_di, k_tt, isNone, isBl,
  Option.bind_some, Option.bind_none, Option.map_some, Option.map_none, List.append_nil, List.cons_append, List.nil_append, List.replicate, List.getElem?_cons_zero, List.getElem?_cons_succ, List.getElem?_nil, List.set_cons_zero, List.set_cons_succ, List.length_cons, List.length_nil, List.mapIdx_cons, List.mapIdx_nil, List.contains_nil, List.contains_cons, Bool.false_eq_true, if_true, if_false, reduceIte, Bool.not_true, Bool.not_false, Option.getD_some, Function.comp, List.map_cons, List.map_nil,
  Nat.reduceLT, Nat.reduceAdd, Nat.reduceBEq, Nat.reduceEqDiff, Nat.reduceLeDiff, Int.reduceLT, Int.reduceLE, decide_true, decide_false, beq_self_eq_true, Bool.or_false, Bool.or_true, Bool.true_or, Bool.false_or, Bool.and_true, Bool.true_and, Bool.and_false, Bool.false_and, and_self, Nat.zero_add, e1, e2, e3, d_mul _ _ b1 b2, d_mod _ _ hp]
theorem mo_9 {W : Da} {V A B Z : List Da} {g k z : Int} {S4 S6 : Sl} (h1 : EV.cutD V none (some k) = A) (h2 : EV.cutD V (some (k + 1)) none = B) (l1 : (A.length + 1 ≤ sizeLine) = True) (l2 : ((A ++ [PyData.int z]).length + B.length ≤ sizeLine) = True) (hZ : A ++ [.int z] ++ B = Z) : (sRet [] (mBin dAdd (mBin dAdd (mSl (mName 2) mO0 (mO1 (mName 5))) (mTup (mCons (mName 7) mNil))) (mSl (mName 2) (mO1 (mBin dAdd (mName 5) (mC (.int 1)))) mO0))) [.val (.int p), .val W, .val (.tuple V), .val (.int g), S4, .val (.int k), S6, .val (.int z)] = some (.rt (.dat (.tuple Z)), [.val (.int p), .val W, .val (.tuple V), .val (.int g), S4, .val (.int k), S6, .val (.int z)]) := by
  subst hZ
  simp only [e_bodyM, e_seq, e_nil, e_if, e_set, e_ret, e_drop, e_par, e_asg, e_for, e_app, e_setix, e_aug, e_name, e_c, e_anil, e_acons, e_bin, e_cmp, e_brk, e_cnt, e_retn, e_ix, e_call, e_fn, e_fn0, e_fnD, e_ifx, e_oft, e_tru, e_not, e_and, e_or, e_andv, e_orv, e_notv, e_neg, e_isi, e_chain, e_lst, e_tup, e_it, e_rg1, e_rg2, e_zip, e_enum, e_revi, e_rev, e_o0, e_o1, e_sl, e_dict0, e_yes, e_comp, e_pop, e_asB, e_toDd, e_toDf, e_toDs, e_lkd, e_lkf, e_lks, e_lan, e_lac, e_tdn, e_tdc, e_tsn, e_tsd, e_tsf, e_tss, e_snd, e_snf, e_snn, e_snc, e_sod, e_sof, e_st, e_fln, e_keep, e_itl, e_itt, e_rr1, e_rr2, e_tupRg, e_lstRg, e_revR, e_popAt, e_ext, e_tupRev, e_repL, e_lenSet, e_enumA, e_zipA, e_zip3, d_addT, flat1,
  d_add, d_sub, d_lt, d_le, d_gt, d_ge, d_eq, d_ne, d_ixl, d_ixt, d_lenl, d_lent, d_inti, d_intb, d_abs, d_max2, d_min2, d_tupl, d_tupt, d_lsl, d_lst, d_rb, t_b, t_i, t_l, t_t, is_nb, is_bb, k_ii, k_ib, k_bi, k_bb, k_ni, k_si, k_ti, k_li, k_di, k_tt, isNone, isBl,
  Option.bind_some, Option.bind_none, Option.map_some, Option.map_none, List.append_nil, List.cons_append, List.nil_append, List.replicate, List.getElem?_cons_zero, List.getElem?_cons_succ, List.getElem?_nil, List.set_cons_zero, List.set_cons_succ, List.length_cons, List.length_nil, List.mapIdx_cons, List.mapIdx_nil, List.contains_nil, List.contains_cons, Bool.false_eq_true, if_true, if_false, reduceIte, Bool.not_true, Bool.not_false, Option.getD_some, Function.comp, List.map_cons, List.map_nil,
  Nat.reduceLT, Nat.reduceAdd, Nat.reduceBEq, Nat.reduceEqDiff, Nat.reduceLeDiff, Int.reduceLT, Int.reduceLE, decide_true, decide_false, beq_self_eq_true, Bool.or_false, Bool.or_true, Bool.true_or, Bool.false_or, Bool.and_true, Bool.true_and, Bool.and_false, Bool.false_and, and_self, Nat.zero_add, h1, h2, l1, l2, z1]
theorem b84 {M : MS} {a b c d : Sl} {s4 s5 s6 s7 : Sl} {w : Da} (h : M [a, b, c, d, .un, .un, .un, .un] = some (.rt (.dat w), [a, b, c, d, s4, s5, s6, s7])) : bodyM [] 4 M [a, b, c, d] = some (.dat w, [a, b, c, d]) := by
  show (M [a, b, c, d, .un, .un, .un, .un]).bind _ = _
  rw [h]
  rfl
theorem at0_gen (x : Da) (l : List Da) : atI (x :: l) 0 = some x := by
  have h : ixN (x :: l).length ((0 : Nat) : Int) = some 0 := ix_nat (by simp)
  show (ixN (x :: l).length ((0 : Nat) : Int)).bind _ = _
  rw [h]
  rfl
def optT : Option (List Int) → Da
  | none => .none
  | some v => tupI v
theorem t_moved (hf : isFld p = true) (hw : InF p w) (hv : InF p v) (lw : w.length = n) (lv : v.length = n) (hn : n ≤ 60) {g : Int} (g0 : 0 ≤ g) (g1 : g < p) : F_moved [.val (.int p), .val (tupI w), .val (tupI v), .val (.int g)] = some (.dat (optT (movR p n w v g)), [.val (.int p), .val (tupI w), .val (tupI v), .val (.int g)]) := by
  have hp := fld_pos hf
  obtain ⟨m, hm⟩ : ∃ m : Int, m = (n : Nat) := ⟨_, rfl⟩
  have e0 := mo_pre (n := m) (t_check_field hf) (t_check_vector hp.1 hw (by omega)) (t_check_vector hp.1 hv (by omega)) (t_check_number g0 g1) (by rw [List.length_map, lw, hm]) (by rw [List.length_map, lv, hm]) (M := (sSeq (sSet 4 (mFn F_heavy_places (mCons (mName 1) mNil)))
    (sSeq (sIf (mNot (mTru (mName 4))) (sRet [] (mC .none)) sNil)
    (sSeq (sSet 5 (mIx (mName 4) (mC (.int 0))))
    (sSeq (sSet 6 (mBin dSub (mName 3) (mFn Lib.F_sum_of_products (mCons (mName 0) (mCons (mName 1) (mCons (mName 2) mNil))))))
    (sSeq (sSet 7 (mBin dMod (mBin dAdd (mIx (mName 2) (mName 5)) (mBin dMul (mName 6) (mFn Lib.F_inverse (mCons (mName 0) (mCons (mIx (mName 1) (mName 5)) mNil))))) (mName 0)))
    (sRet [] (mBin dAdd (mBin dAdd (mSl (mName 2) mO0 (mO1 (mName 5))) (mTup (mCons (mName 7) mNil))) (mSl (mName 2) (mO1 (mBin dAdd (mName 5) (mC (.int 1)))) mO0))))))))) 
  have e4 := mo_4 (p := p) (V := tupI v) (g := g) (t_heavy_places lw (by omega))
  unfold F_moved m_moved movR
  cases q : heavyR n w with
  | nil =>
    rw [q] at e4
    exact b84 (e0.trans ((seq_nx e4).trans (seq_rt (mo_5 rfl))))
  | cons k ks =>
    rw [q] at e4
    have hk : k < n ∧ cf w k ≠ 0 := by
      have : k ∈ heavyR n w := by rw [q]; exact List.mem_cons_self
      obtain ⟨h1, h2⟩ := List.mem_filter.mp this
      exact ⟨List.mem_range.mp h1, by simpa using h2⟩
    have bw := cf_in (show 0 < p by omega) hw k
    have s := t_sum_of_products hp.1 hp.2 true true hw hv (by omega)
    simp only [sqD, cond_true] at s
    have e8 := t_inverse (a := cf w k) hp.1 hp.2 bw.1 bw.2
    have c1 := cut_takeA (v.map PyData.int) k rfl
    have c2 := cut_drop (v.map PyData.int) (k + 1) (ki := ((k : Nat) : Int) + 1) (by omega) (by rw [List.length_map]; omega)
    have bs : 0 ≤ dotZ w v % p ∧ dotZ w v % p < p := ⟨Int.emod_nonneg _ (by omega), Int.emod_lt_of_pos _ (by omega)⟩
    have bu : 0 ≤ cf w k ^ (p - 2).toNat % p ∧ cf w k ^ (p - 2).toNat % p < p := ⟨Int.emod_nonneg _ (by omega), Int.emod_lt_of_pos _ (by omega)⟩
    have bl : (g - dotZ w v % p).natAbs < 2 ^ 400 := Nat.lt_of_lt_of_le (show (g - dotZ w v % p).natAbs < 2 ^ 10 by omega) (Nat.pow_le_pow_right (by decide) (by decide))
    refine b84 (e0.trans ((seq_nx e4).trans ((seq_nx (mo_5n rfl)).trans ((seq_nx (mo_6 (k := ((k : Nat) : Int)) (at0_gen _ _))).trans ((seq_nx (mo_7 s)).trans ((seq_nx (mo_8 (show 0 < p by omega) (at_cf (by omega)) (at_cf (by omega)) e8 bl (big bu.1 (by omega)))).trans (mo_9 c1 c2 ?_ ?_ ?_)))))))
    · exact eq_true (by rw [List.length_take, List.length_map]; exact Nat.le_of_lt (sl_lt (by omega)))
    · exact eq_true (by rw [List.length_append, List.length_take, List.length_drop, List.length_map, List.length_singleton]; exact Nat.le_of_lt (sl_lt (by omega)))
    · show _ = (v.set k _).map PyData.int
      rw [← set_cut v k (by omega), List.map_append, List.map_append, List.map_take, List.map_drop]
      rfl
end
end Lib
end
section
set_option exponentiation.threshold 3000
namespace Lib
open PySem PySem.Spec PyProof.Rows L2 EV
/-! ### what lacks, by all heads -/
def lackS (p : Int) (L : List Int) (w : Int) : List Int := L.flatMap fun l => (nI p).map fun x => l - w * x
section
variable {p : Int}
theorem lackS_len {L : List Int} {w : Int} : (lackS p L w).length = L.length * p.toNat := by
  unfold lackS
  rw [List.length_flatMap]
  have : (L.map fun l => ((nI p).map fun x => l - w * x).length) = List.replicate L.length p.toNat := by
    refine List.eq_replicate_iff.mpr ⟨by rw [List.length_map], fun x hx => ?_⟩
    obtain ⟨y, _, rfl⟩ := List.mem_map.mp hx
    rw [List.length_map, len_nI]
  rw [this, List.sum_replicate_nat]
theorem lack_vecs {g : Int} (ws : List Int) (w : Int) : lackS p ((vecs p ws.length).map fun v => g - dotZ ws v) w = (vecs p (ws ++ [w]).length).map fun v => g - dotZ (ws ++ [w]) v := by
  rw [List.length_append, List.length_singleton]
  show _ = ((vecs p ws.length).flatMap fun row => (nI p).map fun k => row ++ [k]).map fun v => g - dotZ (ws ++ [w]) v
  unfold lackS
  rw [List.flatMap_map, List.map_flatMap]
  refine fm_congr fun v hv => ?_
  rw [List.map_map]
  refine List.map_congr_left fun x _ => ?_
  show g - dotZ ws v - w * x = g - dotZ (ws ++ [w]) (v ++ [x])
  rw [dot_app2 w x ws v (mem_vecs.mp hv).1.symm]
  omega
theorem la_x {S0 S1 S2 S3 S5 S7 S8 : Sl} {w x : Int} (h1 : w.natAbs < 2 ^ 400) (h2 : x.natAbs < 2 ^ 400) : (mBin dMul (mName 4) (mName 6)) [S0, S1, S2, S3, .val (.int w), S5, .val (.int x), S7, S8] = some (.dat (.int (w * x)), [S0, S1, S2, S3, .val (.int w), S5, .val (.int x), S7, S8]) := by
  simp only [e_bodyM, e_seq, e_nil, e_if, e_set, e_ret, e_drop, e_par, e_asg, e_for, e_app, e_setix, e_aug, e_name, e_c, e_anil, e_acons, e_bin, e_cmp, e_brk, e_cnt, e_retn, e_ix, e_call, e_fn, e_fn0, e_fnD, e_ifx, e_oft, e_tru, e_not, e_and, e_or, e_andv, e_orv, e_notv, e_neg, e_isi, e_chain, e_lst, e_tup, e_it, e_rg1, e_rg2, e_zip, e_enum, e_revi, e_rev, e_o0, e_o1, e_sl, e_dict0, e_yes, e_comp, e_pop, e_asB, e_toDd, e_toDf, e_toDs, e_lkd, e_lkf, e_lks, e_lan, e_lac, e_tdn, e_tdc, e_tsn, e_tsd, e_tsf, e_tss, e_snd, e_snf, e_snn, e_snc, e_sod, e_sof, e_st, e_fln, e_keep, e_itl, e_itt, e_rr1, e_rr2, e_tupRg, e_lstRg, e_revR, e_popAt, e_ext, e_tupRev, e_repL, e_lenSet, e_enumA, e_zipA, e_zip3, d_addT, flat1,
  d_add, d_sub, d_lt, d_le, d_gt, d_ge, d_eq, d_ne, d_ixl, d_ixt, d_lenl, d_lent, d_inti, d_intb, d_abs, d_max2, d_min2, d_tupl, d_tupt, d_lsl, d_lst, d_rb, t_b, t_i, t_l, t_t, is_nb, is_bb, k_ii, k_ib, k_bi, k_bb, k_ni, k_si, k_ti, k_li, k_di, k_tt, isNone, isBl,
  Option.bind_some, Option.bind_none, Option.map_some, Option.map_none, List.append_nil, List.cons_append, List.nil_append, List.replicate, List.getElem?_cons_zero, List.getElem?_cons_succ, List.getElem?_nil, List.set_cons_zero, List.set_cons_succ, List.length_cons, List.length_nil, List.mapIdx_cons, List.mapIdx_nil, List.contains_nil, List.contains_cons, Bool.false_eq_true, if_true, if_false, reduceIte, Bool.not_true, Bool.not_false, Option.getD_some, Function.comp, List.map_cons, List.map_nil,
  Nat.reduceLT, Nat.reduceAdd, Nat.reduceBEq, Nat.reduceEqDiff, Nat.reduceLeDiff, Int.reduceLT, Int.reduceLE, decide_true, decide_false, beq_self_eq_true, Bool.or_false, Bool.or_true, Bool.true_or, Bool.false_or, Bool.and_true, Bool.true_and, Bool.and_false, Bool.false_and, and_self, Nat.zero_add, d_mul _ _ h1 h2]
theorem la_r {S1 S2 S3 S4 S5 S7 S8 : Sl} (ok : okRg p = true) : mRg1 (mCons (mName 0) mNil) [.val (.int p), S1, S2, S3, S4, S5, .un, S7, S8] = some (rgD 0 p, [.val (.int p), S1, S2, S3, S4, S5, .un, S7, S8]) := by
  simp only [e_bodyM, e_seq, e_nil, e_if, e_set, e_ret, e_drop, e_par, e_asg, e_for, e_app, e_setix, e_aug, e_name, e_c, e_anil, e_acons, e_bin, e_cmp, e_brk, e_cnt, e_retn, e_ix, e_call, e_fn, e_fn0, e_fnD, e_ifx, e_oft, e_tru, e_not, e_and, e_or, e_andv, e_orv, e_notv, e_neg, e_isi, e_chain, e_lst, e_tup, e_it, e_rg1, e_rg2, e_zip, e_enum, e_revi, e_rev, e_o0, e_o1, e_sl, e_dict0, e_yes, e_comp, e_pop, e_asB, e_toDd, e_toDf, e_toDs, e_lkd, e_lkf, e_lks, e_lan, e_lac, e_tdn, e_tdc, e_tsn, e_tsd, e_tsf, e_tss, e_snd, e_snf, e_snn, e_snc, e_sod, e_sof, e_st, e_fln, e_keep, e_itl, e_itt, e_rr1, e_rr2, e_tupRg, e_lstRg, e_revR, e_popAt, e_ext, e_tupRev, e_repL, e_lenSet, e_enumA, e_zipA, e_zip3, d_addT, flat1,
  d_add, d_sub, d_lt, d_le, d_gt, d_ge, d_eq, d_ne, d_ixl, d_ixt, d_lenl, d_lent, d_inti, d_intb, d_abs, d_max2, d_min2, d_tupl, d_tupt, d_lsl, d_lst, d_rb, t_b, t_i, t_l, t_t, is_nb, is_bb, k_ii, k_ib, k_bi, k_bb, k_ni, k_si, k_ti, k_li, k_di, k_tt, isNone, isBl,
  Option.bind_some, Option.bind_none, Option.map_some, Option.map_none, List.append_nil, List.cons_append, List.nil_append, List.replicate, List.getElem?_cons_zero, List.getElem?_cons_succ, List.getElem?_nil, List.set_cons_zero, List.set_cons_succ, List.length_cons, List.length_nil, List.mapIdx_cons, List.mapIdx_nil, List.contains_nil, List.contains_cons, Bool.false_eq_true, if_true, if_false, reduceIte, Bool.not_true, Bool.not_false, Option.getD_some, Function.comp, List.map_cons, List.map_nil,
  Nat.reduceLT, Nat.reduceAdd, Nat.reduceBEq, Nat.reduceEqDiff, Nat.reduceLeDiff, Int.reduceLT, Int.reduceLE, decide_true, decide_false, beq_self_eq_true, Bool.or_false, Bool.or_true, Bool.true_or, Bool.false_or, Bool.and_true, Bool.true_and, Bool.and_false, Bool.false_and, and_self, Nat.zero_add, ok]
theorem la_s {S0 S1 S2 S3 S4 S5 S6 : Sl} {x y : Int} : (mBin dSub (mName 7) (mName 8)) [S0, S1, S2, S3, S4, S5, S6, .val (.int x), .val (.int y)] = some (.dat (.int (x - y)), [S0, S1, S2, S3, S4, S5, S6, .val (.int x), .val (.int y)]) := by
  simp only [e_bodyM, e_seq, e_nil, e_if, e_set, e_ret, e_drop, e_par, e_asg, e_for, e_app, e_setix, e_aug, e_name, e_c, e_anil, e_acons, e_bin, e_cmp, e_brk, e_cnt, e_retn, e_ix, e_call, e_fn, e_fn0, e_fnD, e_ifx, e_oft, e_tru, e_not, e_and, e_or, e_andv, e_orv, e_notv, e_neg, e_isi, e_chain, e_lst, e_tup, e_it, e_rg1, e_rg2, e_zip, e_enum, e_revi, e_rev, e_o0, e_o1, e_sl, e_dict0, e_yes, e_comp, e_pop, e_asB, e_toDd, e_toDf, e_toDs, e_lkd, e_lkf, e_lks, e_lan, e_lac, e_tdn, e_tdc, e_tsn, e_tsd, e_tsf, e_tss, e_snd, e_snf, e_snn, e_snc, e_sod, e_sof, e_st, e_fln, e_keep, e_itl, e_itt, e_rr1, e_rr2, e_tupRg, e_lstRg, e_revR, e_popAt, e_ext, e_tupRev, e_repL, e_lenSet, e_enumA, e_zipA, e_zip3, d_addT, flat1,
  d_add, d_sub, d_lt, d_le, d_gt, d_ge, d_eq, d_ne, d_ixl, d_ixt, d_lenl, d_lent, d_inti, d_intb, d_abs, d_max2, d_min2, d_tupl, d_tupt, d_lsl, d_lst, d_rb, t_b, t_i, t_l, t_t, is_nb, is_bb, k_ii, k_ib, k_bi, k_bb, k_ni, k_si, k_ti, k_li, k_di, k_tt, isNone, isBl,
  Option.bind_some, Option.bind_none, Option.map_some, Option.map_none, List.append_nil, List.cons_append, List.nil_append, List.replicate, List.getElem?_cons_zero, List.getElem?_cons_succ, List.getElem?_nil, List.set_cons_zero, List.set_cons_succ, List.length_cons, List.length_nil, List.mapIdx_cons, List.mapIdx_nil, List.contains_nil, List.contains_cons, Bool.false_eq_true, if_true, if_false, reduceIte, Bool.not_true, Bool.not_false, Option.getD_some, Function.comp, List.map_cons, List.map_nil,
  Nat.reduceLT, Nat.reduceAdd, Nat.reduceBEq, Nat.reduceEqDiff, Nat.reduceLeDiff, Int.reduceLT, Int.reduceLE, decide_true, decide_false, beq_self_eq_true, Bool.or_false, Bool.or_true, Bool.true_or, Bool.false_or, Bool.and_true, Bool.true_and, Bool.and_false, Bool.false_and, and_self, Nat.zero_add, ]
def laB : MS := (sSeq (sSet 5 (mComp [6] (mRg1 (mCons (mName 0) mNil)) (setN 6) mYes (mBin dMul (mName 4) (mName 6))))
    (sSet 3 (mComp2 [7, 8] [8] (mIt (mName 3)) (setN 7) mYes (mIt (mName 5)) (setN 8) mYes (mBin dSub (mName 7) (mName 8)))))
theorem la_step (hp : 5 ≤ p) (hp2 : p ≤ 997) {L : List Int} {S1 S2 S5 : Sl} {w : Int} (hw : 0 ≤ w) (hw2 : w < p) (ne : L ≠ []) (hl : L.length * p.toNat ≤ 200000) : ∃ S5', laB [.val (.int p), S1, S2, .own (L.map PyData.int), .val (.int w), S5, .un, .un, .un] = some (.nx, [.val (.int p), S1, S2, .own ((lackS p L w).map PyData.int), .val (.int w), S5', .un, .un, .un]) := by
  obtain ⟨M, hM⟩ : ∃ M, M = (nI p).map fun x => w * x := ⟨_, rfl⟩
  have e5 : mComp [6] (mRg1 (mCons (mName 0) mNil)) (setN 6) mYes (mBin dMul (mName 4) (mName 6)) [.val (.int p), S1, S2, .own (L.map PyData.int), .val (.int w), S5, .un, .un, .un] = some (.fresh (M.map PyData.int), [.val (.int p), S1, S2, .own (L.map PyData.int), .val (.int w), S5, .un, .un, .un]) := by
    rw [hM, List.map_map]
    refine comp_of (e := PyData.int) (F := PyData.int ∘ fun x => w * x) (by rw [← rg_nI]; exact la_r (okRg' (by omega) (by omega))) (by rw [len_nI]; omega) rfl rfl fun x hx => ?_
    have hx := mem_nI.mp hx
    exact ⟨[.val (.int p), S1, S2, .own (L.map PyData.int), .val (.int w), S5, .val (.int x), .un, .un], _, _, _, rfl, la_x (big hw (by omega)) (big hx.1 (by omega)), rfl, rfl⟩
  have inner : ∀ (T5 : Sl), (T5 = .own (M.map PyData.int) ∨ T5 = .val (.list (M.map PyData.int))) → ∀ x ∈ L, innL [8] (mIt (mName 5)) (setN 8) mYes (mBin dSub (mName 7) (mName 8)) [.val (.int p), S1, S2, .val (.list (L.map PyData.int)), .val (.int w), T5, .un, .val (.int x), .un] = some (M.map fun m => PyData.int (x - m), [.val (.int p), S1, S2, .val (.list (L.map PyData.int)), .val (.int w), .val (.list (M.map PyData.int)), .un, .val (.int x), .un]) := by
    intro T5 h5 x hx
    have i5 : mIt (mName 5) [.val (.int p), S1, S2, .val (.list (L.map PyData.int)), .val (.int w), T5, .un, .val (.int x), .un] = some (M.map PyData.int, [.val (.int p), S1, S2, .val (.list (L.map PyData.int)), .val (.int w), .val (.list (M.map PyData.int)), .un, .val (.int x), .un]) := by
      rcases h5 with rfl | rfl <;> rfl
    unfold innL
    rw [i5, Option.bind_some]
    exact compL_of (e := PyData.int) (F := fun m => PyData.int (x - m)) fun m _ => ⟨[.val (.int p), S1, S2, .val (.list (L.map PyData.int)), .val (.int w), .val (.list (M.map PyData.int)), .un, .val (.int x), .val (.int m)], _, _, _, rfl, la_s, rfl, rfl⟩
  have flat : (L.map fun x => M.map fun m => PyData.int (x - m)).flatten = (lackS p L w).map PyData.int := by
    unfold lackS
    rw [← List.flatMap_def, List.map_flatMap]
    refine fm_congr fun x _ => ?_
    rw [hM, List.map_map, List.map_map]
    rfl
  have e3 : mComp2 [7, 8] [8] (mIt (mName 3)) (setN 7) mYes (mIt (mName 5)) (setN 8) mYes (mBin dSub (mName 7) (mName 8)) [.val (.int p), S1, S2, .own (L.map PyData.int), .val (.int w), .own (M.map PyData.int), .un, .un, .un] = some (.fresh ((lackS p L w).map PyData.int), [.val (.int p), S1, S2, .val (.list (L.map PyData.int)), .val (.int w), .val (.list (M.map PyData.int)), .un, .un, .un]) := by
    rw [← flat]
    exact comp2_two (gB := [.val (.int p), S1, S2, .val (.list (L.map PyData.int)), .val (.int w), .val (.list (M.map PyData.int)), .un, .un, .un]) (e := PyData.int) ne rfl rfl rfl (by rw [flat, List.length_map, lackS_len]; exact Nat.le_of_lt (sl_lt (by omega))) (fun x hx => ⟨[.val (.int p), S1, S2, .val (.list (L.map PyData.int)), .val (.int w), .own (M.map PyData.int), .un, .val (.int x), .un], _, rfl, inner _ (.inl rfl) x hx, rfl⟩) fun x hx => ⟨[.val (.int p), S1, S2, .val (.list (L.map PyData.int)), .val (.int w), .val (.list (M.map PyData.int)), .un, .val (.int x), .un], _, rfl, inner _ (.inr rfl) x hx, rfl⟩
  refine ⟨.val (.list (M.map PyData.int)), ?_⟩
  unfold laB
  have s1 : (sSet 5 (mComp [6] (mRg1 (mCons (mName 0) mNil)) (setN 6) mYes (mBin dMul (mName 4) (mName 6)))) [.val (.int p), S1, S2, .own (L.map PyData.int), .val (.int w), S5, .un, .un, .un] = some (.nx, [.val (.int p), S1, S2, .own (L.map PyData.int), .val (.int w), .own (M.map PyData.int), .un, .un, .un]) := by
    rw [e_set, e5]; rfl
  rw [seq_nx s1, e_set, e3]
  rfl
theorem la_go (hp : 5 ≤ p) (hp2 : p ≤ 997) {g : Int} {S1 S2 : Sl} : ∀ (ws us : List Int) (S4 S5 : Sl), InF p ws → p.toNat ^ (us.length + ws.length) ≤ 200000 → ∃ S4' S5', forL (setN 4) laB (ws.map PyData.int) [.val (.int p), S1, S2, .own (((vecs p us.length).map fun v => g - dotZ us v).map PyData.int), S4, S5, .un, .un, .un] = some (.nx, [.val (.int p), S1, S2, .own (((vecs p (us ++ ws).length).map fun v => g - dotZ (us ++ ws) v).map PyData.int), S4', S5', .un, .un, .un])
  | [], us, S4, S5, _, _ => ⟨S4, S5, by rw [List.append_nil]; rfl⟩
  | w :: ws, us, S4, S5, hw, hs => by
    have p1 : 1 ≤ p.toNat := by omega
    have bw := hw w List.mem_cons_self
    rw [List.length_cons] at hs
    have ne : ((vecs p us.length).map fun v => g - dotZ us v) ≠ [] := fun z => by
      have c := len_vecs p us.length
      rw [List.map_eq_nil_iff.mp z] at c
      have : 1 ≤ p.toNat ^ us.length := Nat.one_le_pow _ _ p1
      simp at c
      omega
    have hl : ((vecs p us.length).map fun v => g - dotZ us v).length * p.toNat ≤ 200000 := by
      rw [List.length_map, len_vecs, ← Nat.pow_succ]
      exact Nat.le_trans (Nat.pow_le_pow_right p1 (by omega)) hs
    obtain ⟨T5, e1⟩ := la_step (S1 := S1) (S2 := S2) (S5 := S5) hp hp2 bw.1 bw.2 ne hl
    rw [lack_vecs] at e1
    obtain ⟨S4', S5', e2⟩ := la_go hp hp2 (g := g) (S1 := S1) (S2 := S2) ws (us ++ [w]) (.val (.int w)) T5 (fun x hx => hw x (List.mem_cons_of_mem _ hx)) (by rw [List.length_append, List.length_singleton, show us.length + 1 + ws.length = us.length + (ws.length + 1) by omega]; exact hs)
    refine ⟨S4', S5', (forL_cons rfl e1).trans (e2.trans ?_)⟩
    rw [List.append_assoc]
    rfl
theorem la_a {W g : Da} : (sSet 3 (mLst (mCons (mName 2) mNil))) [.val (.int p), .val W, .val g, .un, .un, .un, .un, .un, .un] = some (.nx, [.val (.int p), .val W, .val g, .own [g], .un, .un, .un, .un, .un]) := by
  simp only [e_bodyM, e_seq, e_nil, e_if, e_set, e_ret, e_drop, e_par, e_asg, e_for, e_app, e_setix, e_aug, e_name, e_c, e_anil, e_acons, e_bin, e_cmp, e_brk, e_cnt, e_retn, e_ix, e_call, e_fn, e_fn0, e_fnD, e_ifx, e_oft, e_tru, e_not, e_and, e_or, e_andv, e_orv, e_notv, e_neg, e_isi, e_chain, e_lst, e_tup, e_it, e_rg1, e_rg2, e_zip, e_enum, e_revi, e_rev, e_o0, e_o1, e_sl, e_dict0, e_yes, e_comp, e_pop, e_asB, e_toDd, e_toDf, e_toDs, e_lkd, e_lkf, e_lks, e_lan, e_lac, e_tdn, e_tdc, e_tsn, e_tsd, e_tsf, e_tss, e_snd, e_snf, e_snn, e_snc, e_sod, e_sof, e_st, e_fln, e_keep, e_itl, e_itt, e_rr1, e_rr2, e_tupRg, e_lstRg, e_revR, e_popAt, e_ext, e_tupRev, e_repL, e_lenSet, e_enumA, e_zipA, e_zip3, d_addT, flat1,
  d_add, d_sub, d_lt, d_le, d_gt, d_ge, d_eq, d_ne, d_ixl, d_ixt, d_lenl, d_lent, d_inti, d_intb, d_abs, d_max2, d_min2, d_tupl, d_tupt, d_lsl, d_lst, d_rb, t_b, t_i, t_l, t_t, is_nb, is_bb, k_ii, k_ib, k_bi, k_bb, k_ni, k_si, k_ti, k_li, k_di, k_tt, isNone, isBl,
  Option.bind_some, Option.bind_none, Option.map_some, Option.map_none, List.append_nil, List.cons_append, List.nil_append, List.replicate, List.getElem?_cons_zero, List.getElem?_cons_succ, List.getElem?_nil, List.set_cons_zero, List.set_cons_succ, List.length_cons, List.length_nil, List.mapIdx_cons, List.mapIdx_nil, List.contains_nil, List.contains_cons, Bool.false_eq_true, if_true, if_false, reduceIte, Bool.not_true, Bool.not_false, Option.getD_some, Function.comp, List.map_cons, List.map_nil,
  Nat.reduceLT, Nat.reduceAdd, Nat.reduceBEq, Nat.reduceEqDiff, Nat.reduceLeDiff, Int.reduceLT, Int.reduceLE, decide_true, decide_false, beq_self_eq_true, Bool.or_false, Bool.or_true, Bool.true_or, Bool.false_or, Bool.and_true, Bool.true_and, Bool.and_false, Bool.false_and, and_self, Nat.zero_add, z1]
theorem la_z {W g : Da} {L : List Da} {S4 S5 : Sl} : (sRet [] (mName 3)) [.val (.int p), .val W, .val g, .own L, S4, S5, .un, .un, .un] = some (.rt (.fresh L), [.val (.int p), .val W, .val g, .un, S4, S5, .un, .un, .un]) := by
  simp only [e_bodyM, e_seq, e_nil, e_if, e_set, e_ret, e_drop, e_par, e_asg, e_for, e_app, e_setix, e_aug, e_name, e_c, e_anil, e_acons, e_bin, e_cmp, e_brk, e_cnt, e_retn, e_ix, e_call, e_fn, e_fn0, e_fnD, e_ifx, e_oft, e_tru, e_not, e_and, e_or, e_andv, e_orv, e_notv, e_neg, e_isi, e_chain, e_lst, e_tup, e_it, e_rg1, e_rg2, e_zip, e_enum, e_revi, e_rev, e_o0, e_o1, e_sl, e_dict0, e_yes, e_comp, e_pop, e_asB, e_toDd, e_toDf, e_toDs, e_lkd, e_lkf, e_lks, e_lan, e_lac, e_tdn, e_tdc, e_tsn, e_tsd, e_tsf, e_tss, e_snd, e_snf, e_snn, e_snc, e_sod, e_sof, e_st, e_fln, e_keep, e_itl, e_itt, e_rr1, e_rr2, e_tupRg, e_lstRg, e_revR, e_popAt, e_ext, e_tupRev, e_repL, e_lenSet, e_enumA, e_zipA, e_zip3, d_addT, flat1,
  d_add, d_sub, d_lt, d_le, d_gt, d_ge, d_eq, d_ne, d_ixl, d_ixt, d_lenl, d_lent, d_inti, d_intb, d_abs, d_max2, d_min2, d_tupl, d_tupt, d_lsl, d_lst, d_rb, t_b, t_i, t_l, t_t, is_nb, is_bb, k_ii, k_ib, k_bi, k_bb, k_ni, k_si, k_ti, k_li, k_di, k_tt, isNone, isBl,
  Option.bind_some, Option.bind_none, Option.map_some, Option.map_none, List.append_nil, List.cons_append, List.nil_append, List.replicate, List.getElem?_cons_zero, List.getElem?_cons_succ, List.getElem?_nil, List.set_cons_zero, List.set_cons_succ, List.length_cons, List.length_nil, List.mapIdx_cons, List.mapIdx_nil, List.contains_nil, List.contains_cons, Bool.false_eq_true, if_true, if_false, reduceIte, Bool.not_true, Bool.not_false, Option.getD_some, Function.comp, List.map_cons, List.map_nil,
  Nat.reduceLT, Nat.reduceAdd, Nat.reduceBEq, Nat.reduceEqDiff, Nat.reduceLeDiff, Int.reduceLT, Int.reduceLE, decide_true, decide_false, beq_self_eq_true, Bool.or_false, Bool.or_true, Bool.true_or, Bool.false_or, Bool.and_true, Bool.true_and, Bool.and_false, Bool.false_and, and_self, Nat.zero_add, ]
theorem b96 {M : MS} {a b c : Sl} {s3 s4 s5 s6 s7 s8 : Sl} {w : Wv} (h : M [a, b, c, .un, .un, .un, .un, .un, .un] = some (.rt w, [a, b, c, s3, s4, s5, s6, s7, s8])) : bodyM [] 6 M [a, b, c] = some (w, [a, b, c]) := by
  show (M [a, b, c, .un, .un, .un, .un, .un, .un]).bind _ = _
  rw [h]
  rfl
theorem t_all_lacks (hp : 5 ≤ p) (hp2 : p ≤ 997) {ws : List Int} {g : Int} (hw : InF p ws) (hs : p.toNat ^ ws.length ≤ 200000) : F_all_lacks [.val (.int p), .val (tupI ws), .val (.int g)] = some (.fresh (((vecs p ws.length).map fun v => g - dotZ ws v).map PyData.int), [.val (.int p), .val (tupI ws), .val (.int g)]) := by
  obtain ⟨S4, S5, e⟩ := la_go hp hp2 (g := g) (S1 := .val (tupI ws)) (S2 := .val (.int g)) ws [] .un .un hw (by rw [List.length_nil, Nat.zero_add]; exact hs)
  have e : forL (setN 4) laB (ws.map PyData.int) [.val (.int p), .val (tupI ws), .val (.int g), .own [.int g], .un, .un, .un, .un, .un] = some (.nx, [.val (.int p), .val (tupI ws), .val (.int g), .own (((vecs p ws.length).map fun v => g - dotZ ws v).map PyData.int), S4, S5, .un, .un, .un]) := by
    rw [List.nil_append] at e
    have g0 : ((vecs p ([] : List Int).length).map fun v => g - dotZ [] v).map PyData.int = [PyData.int g] := by
      show [PyData.int (g - dotZ [] [])] = _
      rw [show dotZ [] [] = 0 from rfl, Int.sub_zero]
    rw [g0] at e
    exact e
  unfold F_all_lacks m_all_lacks
  refine b96 (s3 := .un) (s4 := S4) (s5 := S5) (s6 := .un) (s7 := .un) (s8 := .un) ((seq_nx la_a).trans ((seq_nx (g1 := [.val (.int p), .val (tupI ws), .val (.int g), .own (((vecs p ws.length).map fun v => g - dotZ ws v).map PyData.int), S4, S5, .un, .un, .un]) ?_).trans la_z))
  rw [e_for]
  exact e
end
end Lib
end
section
set_option exponentiation.threshold 3000
namespace Lib
open PySem PySem.Spec PyProof.Rows L2 EV
/-! ### the vectors of a sum, in order -/
/-- the number behind a head that makes the sum -/
def endR (p : Int) (ws : List Int) (f g : Int) (h : List Int) : Int := (g - dotZ ws h) % p * f % p
def solR (p : Int) (ws : List Int) (f : Int) (t : Nat) (g : Int) : List (List Int) := (vecs p ws.length).flatMap fun h => (vecs p t).map fun u => h ++ [endR p ws f g h] ++ u
section
variable {p : Int}
theorem so_4 {IV : MF} {W : List Da} {l g y f : Int} {h : Gh} (e1 : atI W l = some (.int y)) (e2 : IV [.val (.int p), .val (.int y)] = some (.dat (.int f), h)) : (sSet 4 (mFn IV (mCons (mName 0) (mCons (mIx (mName 1) (mName 2)) mNil)))) [.val (.int p), .val (.tuple W), .val (.int l), .val (.int g), .un, .un, .un, .un, .un, .un, .un, .un, .un] = some (.nx, [.val (.int p), .val (.tuple W), .val (.int l), .val (.int g), .val (.int f), .un, .un, .un, .un, .un, .un, .un, .un]) := by
  simp only [e_bodyM, e_seq, e_nil, e_if, e_set, e_ret, e_drop, e_par, e_asg, e_for, e_app, e_setix, e_aug, e_name, e_c, e_anil, e_acons, e_bin, e_cmp, e_brk, e_cnt, e_retn, e_ix, e_call, e_fn, e_fn0, e_fnD, e_ifx, e_oft, e_tru, e_not, e_and, e_or, e_andv, e_orv, e_notv, e_neg, e_isi, e_chain, e_lst, e_tup, e_it, e_rg1, e_rg2, e_zip, e_enum, e_revi, e_rev, e_o0, e_o1, e_sl, e_dict0, e_yes, e_comp, e_pop, e_asB, e_toDd, e_toDf, e_toDs, e_lkd, e_lkf, e_lks, e_lan, e_lac, e_tdn, e_tdc, e_tsn, e_tsd, e_tsf, e_tss, e_snd, e_snf, e_snn, e_snc, e_sod, e_sof, e_st, e_fln, e_keep, e_itl, e_itt, e_rr1, e_rr2, e_tupRg, e_lstRg, e_revR, e_popAt, e_ext, e_tupRev, e_repL, e_lenSet, e_enumA, e_zipA, e_zip3, d_addT, flat1,
  d_add, d_sub, d_lt, d_le, d_gt, d_ge, d_eq, d_ne, d_ixl, d_ixt, d_lenl, d_lent, d_inti, d_intb, d_abs, d_max2, d_min2, d_tupl, d_tupt, d_lsl, d_lst, d_rb, t_b, t_i, t_l, t_t, is_nb, is_bb, k_ii, k_ib, k_bi, k_bb, k_ni, k_si, k_ti, k_li, k_di, k_tt, isNone, isBl,
  Option.bind_some, Option.bind_none, Option.map_some, Option.map_none, List.append_nil, List.cons_append, List.nil_append, List.replicate, List.getElem?_cons_zero, List.getElem?_cons_succ, List.getElem?_nil, List.set_cons_zero, List.set_cons_succ, List.length_cons, List.length_nil, List.mapIdx_cons, List.mapIdx_nil, List.contains_nil, List.contains_cons, Bool.false_eq_true, if_true, if_false, reduceIte, Bool.not_true, Bool.not_false, Option.getD_some, Function.comp, List.map_cons, List.map_nil,
  Nat.reduceLT, Nat.reduceAdd, Nat.reduceBEq, Nat.reduceEqDiff, Nat.reduceLeDiff, Int.reduceLT, Int.reduceLE, decide_true, decide_false, beq_self_eq_true, Bool.or_false, Bool.or_true, Bool.true_or, Bool.false_or, Bool.and_true, Bool.true_and, Bool.and_false, Bool.false_and, and_self, Nat.zero_add, e1, e2]
theorem so_r {S1 S2 S3 S4 : Sl} (ok : okRg p = true) : mRg1 (mCons (mName 0) mNil) [.val (.int p), S1, S2, S3, S4, .un, .un, .un, .un, .un, .un, .un, .un] = some (rgD 0 p, [.val (.int p), S1, S2, S3, S4, .un, .un, .un, .un, .un, .un, .un, .un]) := by
  simp only [e_bodyM, e_seq, e_nil, e_if, e_set, e_ret, e_drop, e_par, e_asg, e_for, e_app, e_setix, e_aug, e_name, e_c, e_anil, e_acons, e_bin, e_cmp, e_brk, e_cnt, e_retn, e_ix, e_call, e_fn, e_fn0, e_fnD, e_ifx, e_oft, e_tru, e_not, e_and, e_or, e_andv, e_orv, e_notv, e_neg, e_isi, e_chain, e_lst, e_tup, e_it, e_rg1, e_rg2, e_zip, e_enum, e_revi, e_rev, e_o0, e_o1, e_sl, e_dict0, e_yes, e_comp, e_pop, e_asB, e_toDd, e_toDf, e_toDs, e_lkd, e_lkf, e_lks, e_lan, e_lac, e_tdn, e_tdc, e_tsn, e_tsd, e_tsf, e_tss, e_snd, e_snf, e_snn, e_snc, e_sod, e_sof, e_st, e_fln, e_keep, e_itl, e_itt, e_rr1, e_rr2, e_tupRg, e_lstRg, e_revR, e_popAt, e_ext, e_tupRev, e_repL, e_lenSet, e_enumA, e_zipA, e_zip3, d_addT, flat1,
  d_add, d_sub, d_lt, d_le, d_gt, d_ge, d_eq, d_ne, d_ixl, d_ixt, d_lenl, d_lent, d_inti, d_intb, d_abs, d_max2, d_min2, d_tupl, d_tupt, d_lsl, d_lst, d_rb, t_b, t_i, t_l, t_t, is_nb, is_bb, k_ii, k_ib, k_bi, k_bb, k_ni, k_si, k_ti, k_li, k_di, k_tt, isNone, isBl,
  Option.bind_some, Option.bind_none, Option.map_some, Option.map_none, List.append_nil, List.cons_append, List.nil_append, List.replicate, List.getElem?_cons_zero, List.getElem?_cons_succ, List.getElem?_nil, List.set_cons_zero, List.set_cons_succ, List.length_cons, List.length_nil, List.mapIdx_cons, List.mapIdx_nil, List.contains_nil, List.contains_cons, Bool.false_eq_true, if_true, if_false, reduceIte, Bool.not_true, Bool.not_false, Option.getD_some, Function.comp, List.map_cons, List.map_nil,
  Nat.reduceLT, Nat.reduceAdd, Nat.reduceBEq, Nat.reduceEqDiff, Nat.reduceLeDiff, Int.reduceLT, Int.reduceLE, decide_true, decide_false, beq_self_eq_true, Bool.or_false, Bool.or_true, Bool.true_or, Bool.false_or, Bool.and_true, Bool.true_and, Bool.and_false, Bool.false_and, and_self, Nat.zero_add, ok]
theorem so_e {S1 S2 S3 : Sl} {f x : Int} (hp : 0 < p) (b1 : x.natAbs < 2 ^ 400) (b2 : f.natAbs < 2 ^ 400) : (mTup (mCons (mBin dMod (mBin dMul (mName 9) (mName 4)) (mName 0)) mNil)) [.val (.int p), S1, S2, S3, .val (.int f), .un, .un, .un, .un, .val (.int x), .un, .un, .un] = some (.dat (.tuple [.int (x * f % p)]), [.val (.int p), S1, S2, S3, .val (.int f), .un, .un, .un, .un, .val (.int x), .un, .un, .un]) := by
  simp only [e_bodyM, e_seq, e_nil, e_if, e_set, e_ret, e_drop, e_par, e_asg, e_for, e_app, e_setix, e_aug, e_name, e_c, e_anil, e_acons, e_bin, e_cmp, e_brk, e_cnt, e_retn, e_ix, e_call, e_fn, e_fn0, e_fnD, e_ifx, e_oft, e_tru, e_not, e_and, e_or, e_andv, e_orv, e_notv, e_neg, e_isi, e_chain, e_lst, e_tup, e_it, e_rg1, e_rg2, e_zip, e_enum, e_revi, e_rev, e_o0, e_o1, e_sl, e_dict0, e_yes, e_comp, e_pop, e_asB, e_toDd, e_toDf, e_toDs, e_lkd, e_lkf, e_lks, e_lan, e_lac, e_tdn, e_tdc, e_tsn, e_tsd, e_tsf, e_tss, e_snd, e_snf, e_snn, e_snc, e_sod, e_sof, e_st, e_fln, e_keep, e_itl, e_itt, e_rr1, e_rr2, e_tupRg, e_lstRg, e_revR, e_popAt, e_ext, e_tupRev, e_repL, e_lenSet, e_enumA, e_zipA, e_zip3, d_addT, flat1,
  d_add, d_sub, d_lt, d_le, d_gt, d_ge, d_eq, d_ne, d_ixl, d_ixt, d_lenl, d_lent, d_inti, d_intb, d_abs, d_max2, d_min2, d_tupl, d_tupt, d_lsl, d_lst, d_rb, t_b, t_i, t_l, t_t, is_nb, is_bb, k_ii, k_ib, k_bi, k_bb, k_ni, k_si, k_ti, k_li, k_di, k_tt, isNone, isBl,
  Option.bind_some, Option.bind_none, Option.map_some, Option.map_none, List.append_nil, List.cons_append, List.nil_append, List.replicate, List.getElem?_cons_zero, List.getElem?_cons_succ, List.getElem?_nil, List.set_cons_zero, List.set_cons_succ, List.length_cons, List.length_nil, List.mapIdx_cons, List.mapIdx_nil, List.contains_nil, List.contains_cons, Bool.false_eq_true, if_true, if_false, reduceIte, Bool.not_true, Bool.not_false, Option.getD_some, Function.comp, List.map_cons, List.map_nil,
  Nat.reduceLT, Nat.reduceAdd, Nat.reduceBEq, Nat.reduceEqDiff, Nat.reduceLeDiff, Int.reduceLT, Int.reduceLE, decide_true, decide_false, beq_self_eq_true, Bool.or_false, Bool.or_true, Bool.true_or, Bool.false_or, Bool.and_true, Bool.true_and, Bool.and_false, Bool.false_and, and_self, Nat.zero_add, d_mul _ _ b1 b2, d_mod _ _ hp, z1]
theorem so_s {C : ME} {S0 S1 S2 S3 S4 : Sl} {L : List Da} (e : C [S0, S1, S2, S3, S4, .un, .un, .un, .un, .un, .un, .un, .un] = some (.fresh L, [S0, S1, S2, S3, S4, .un, .un, .un, .un, .un, .un, .un, .un])) : sSet 5 C [S0, S1, S2, S3, S4, .un, .un, .un, .un, .un, .un, .un, .un] = some (.nx, [S0, S1, S2, S3, S4, .own L, .un, .un, .un, .un, .un, .un, .un]) := by
  simp only [e_bodyM, e_seq, e_nil, e_if, e_set, e_ret, e_drop, e_par, e_asg, e_for, e_app, e_setix, e_aug, e_name, e_c, e_anil, e_acons, e_bin, e_cmp, e_brk, e_cnt, e_retn, e_ix, e_call, e_fn, e_fn0, e_fnD, e_ifx, e_oft, e_tru, e_not, e_and, e_or, e_andv, e_orv, e_notv, e_neg, e_isi, e_chain, e_lst, e_tup, e_it, e_rg1, e_rg2, e_zip, e_enum, e_revi, e_rev, e_o0, e_o1, e_sl, e_dict0, e_yes, e_comp, e_pop, e_asB, e_toDd, e_toDf, e_toDs, e_lkd, e_lkf, e_lks, e_lan, e_lac, e_tdn, e_tdc, e_tsn, e_tsd, e_tsf, e_tss, e_snd, e_snf, e_snn, e_snc, e_sod, e_sof, e_st, e_fln, e_keep, e_itl, e_itt, e_rr1, e_rr2, e_tupRg, e_lstRg, e_revR, e_popAt, e_ext, e_tupRev, e_repL, e_lenSet, e_enumA, e_zipA, e_zip3, d_addT, flat1,
  d_add, d_sub, d_lt, d_le, d_gt, d_ge, d_eq, d_ne, d_ixl, d_ixt, d_lenl, d_lent, d_inti, d_intb, d_abs, d_max2, d_min2, d_tupl, d_tupt, d_lsl, d_lst, d_rb, t_b, t_i, t_l, t_t, is_nb, is_bb, k_ii, k_ib, k_bi, k_bb, k_ni, k_si, k_ti, k_li, k_di, k_tt, isNone, isBl,
  Option.bind_some, Option.bind_none, Option.map_some, Option.map_none, List.append_nil, List.cons_append, List.nil_append, List.replicate, List.getElem?_cons_zero, List.getElem?_cons_succ, List.getElem?_nil, List.set_cons_zero, List.set_cons_succ, List.length_cons, List.length_nil, List.mapIdx_cons, List.mapIdx_nil, List.contains_nil, List.contains_cons, Bool.false_eq_true, if_true, if_false, reduceIte, Bool.not_true, Bool.not_false, Option.getD_some, Function.comp, List.map_cons, List.map_nil,
  Nat.reduceLT, Nat.reduceAdd, Nat.reduceBEq, Nat.reduceEqDiff, Nat.reduceLeDiff, Int.reduceLT, Int.reduceLE, decide_true, decide_false, beq_self_eq_true, Bool.or_false, Bool.or_true, Bool.true_or, Bool.false_or, Bool.and_true, Bool.true_and, Bool.and_false, Bool.false_and, and_self, Nat.zero_add, e]
theorem so_6 {AL : MF} {W X : List Da} {l g : Int} {S4 : Sl} {E L : List Da} {h : Gh} (hc : EV.cutD W none (some l) = X) (e : AL [.val (.int p), .val (.tuple X), .val (.int g)] = some (.fresh L, h)) : (sSet 6 (mFn AL (mCons (mName 0) (mCons (mSl (mName 1) mO0 (mO1 (mName 2))) (mCons (mName 3) mNil))))) [.val (.int p), .val (.tuple W), .val (.int l), .val (.int g), S4, .own E, .un, .un, .un, .un, .un, .un, .un] = some (.nx, [.val (.int p), .val (.tuple W), .val (.int l), .val (.int g), S4, .own E, .own L, .un, .un, .un, .un, .un, .un]) := by
  simp only [e_bodyM, e_seq, e_nil, e_if, e_set, e_ret, e_drop, e_par, e_asg, e_for, e_app, e_setix, e_aug, e_name, e_c, e_anil, e_acons, e_bin, e_cmp, e_brk, e_cnt, e_retn, e_ix, e_call, e_fn, e_fn0, e_fnD, e_ifx, e_oft, e_tru, e_not, e_and, e_or, e_andv, e_orv, e_notv, e_neg, e_isi, e_chain, e_lst, e_tup, e_it, e_rg1, e_rg2, e_zip, e_enum, e_revi, e_rev, e_o0, e_o1, e_sl, e_dict0, e_yes, e_comp, e_pop, e_asB, e_toDd, e_toDf, e_toDs, e_lkd, e_lkf, e_lks, e_lan, e_lac, e_tdn, e_tdc, e_tsn, e_tsd, e_tsf, e_tss, e_snd, e_snf, e_snn, e_snc, e_sod, e_sof, e_st, e_fln, e_keep, e_itl, e_itt, e_rr1, e_rr2, e_tupRg, e_lstRg, e_revR, e_popAt, e_ext, e_tupRev, e_repL, e_lenSet, e_enumA, e_zipA, e_zip3, d_addT, flat1,
  d_add, d_sub, d_lt, d_le, d_gt, d_ge, d_eq, d_ne, d_ixl, d_ixt, d_lenl, d_lent, d_inti, d_intb, d_abs, d_max2, d_min2, d_tupl, d_tupt, d_lsl, d_lst, d_rb, t_b, t_i, t_l, t_t, is_nb, is_bb, k_ii, k_ib, k_bi, k_bb, k_ni, k_si, k_ti, k_li, k_di, k_tt, isNone, isBl,
  Option.bind_some, Option.bind_none, Option.map_some, Option.map_none, List.append_nil, List.cons_append, List.nil_append, List.replicate, List.getElem?_cons_zero, List.getElem?_cons_succ, List.getElem?_nil, List.set_cons_zero, List.set_cons_succ, List.length_cons, List.length_nil, List.mapIdx_cons, List.mapIdx_nil, List.contains_nil, List.contains_cons, Bool.false_eq_true, if_true, if_false, reduceIte, Bool.not_true, Bool.not_false, Option.getD_some, Function.comp, List.map_cons, List.map_nil,
  Nat.reduceLT, Nat.reduceAdd, Nat.reduceBEq, Nat.reduceEqDiff, Nat.reduceLeDiff, Int.reduceLT, Int.reduceLE, decide_true, decide_false, beq_self_eq_true, Bool.or_false, Bool.or_true, Bool.true_or, Bool.false_or, Bool.and_true, Bool.true_and, Bool.and_false, Bool.false_and, and_self, Nat.zero_add, hc, e]
theorem so_z {AV : MF} {W : Da} {l g : Int} {S4 : Sl} {E L V : List Da} {h : Gh} (e : AV [.val (.int p), .val (.int l)] = some (.fresh V, h)) : (mZipA (mCons (mFn AV (mCons (mName 0) (mCons (mName 2) mNil))) (mCons (mName 6) mNil))) [.val (.int p), .val W, .val (.int l), .val (.int g), S4, .own E, .own L, .un, .un, .un, .un, .un, .un] = some (zipD V L, [.val (.int p), .val W, .val (.int l), .val (.int g), S4, .own E, .val (.list L), .un, .un, .un, .un, .un, .un]) := by
  simp only [e_bodyM, e_seq, e_nil, e_if, e_set, e_ret, e_drop, e_par, e_asg, e_for, e_app, e_setix, e_aug, e_name, e_c, e_anil, e_acons, e_bin, e_cmp, e_brk, e_cnt, e_retn, e_ix, e_call, e_fn, e_fn0, e_fnD, e_ifx, e_oft, e_tru, e_not, e_and, e_or, e_andv, e_orv, e_notv, e_neg, e_isi, e_chain, e_lst, e_tup, e_it, e_rg1, e_rg2, e_zip, e_enum, e_revi, e_rev, e_o0, e_o1, e_sl, e_dict0, e_yes, e_comp, e_pop, e_asB, e_toDd, e_toDf, e_toDs, e_lkd, e_lkf, e_lks, e_lan, e_lac, e_tdn, e_tdc, e_tsn, e_tsd, e_tsf, e_tss, e_snd, e_snf, e_snn, e_snc, e_sod, e_sof, e_st, e_fln, e_keep, e_itl, e_itt, e_rr1, e_rr2, e_tupRg, e_lstRg, e_revR, e_popAt, e_ext, e_tupRev, e_repL, e_lenSet, e_enumA, e_zipA, e_zip3, d_addT, flat1,
  d_add, d_sub, d_lt, d_le, d_gt, d_ge, d_eq, d_ne, d_ixl, d_ixt, d_lenl, d_lent, d_inti, d_intb, d_abs, d_max2, d_min2, d_tupl, d_tupt, d_lsl, d_lst, d_rb, t_b, t_i, t_l, t_t, is_nb, is_bb, k_ii, k_ib, k_bi, k_bb, k_ni, k_si, k_ti, k_li, k_di, k_tt, isNone, isBl,
  Option.bind_some, Option.bind_none, Option.map_some, Option.map_none, List.append_nil, List.cons_append, List.nil_append, List.replicate, List.getElem?_cons_zero, List.getElem?_cons_succ, List.getElem?_nil, List.set_cons_zero, List.set_cons_succ, List.length_cons, List.length_nil, List.mapIdx_cons, List.mapIdx_nil, List.contains_nil, List.contains_cons, Bool.false_eq_true, if_true, if_false, reduceIte, Bool.not_true, Bool.not_false, Option.getD_some, Function.comp, List.map_cons, List.map_nil,
  Nat.reduceLT, Nat.reduceAdd, Nat.reduceBEq, Nat.reduceEqDiff, Nat.reduceLeDiff, Int.reduceLT, Int.reduceLE, decide_true, decide_false, beq_self_eq_true, Bool.or_false, Bool.or_true, Bool.true_or, Bool.false_or, Bool.and_true, Bool.true_and, Bool.and_false, Bool.false_and, and_self, Nat.zero_add, e]
theorem so_h {S1 S2 S3 S4 S6 : Sl} {E X Y : List Da} {l : Int} (hp : 0 < p) (e : atI E (l % p) = some (.tuple Y)) (hl : (X.length + Y.length ≤ sizeLine) = True) : (mBin dAdd (mName 10) (mIx (mName 5) (mBin dMod (mName 9) (mName 0)))) [.val (.int p), S1, S2, S3, S4, .own E, S6, .un, .un, .val (.int l), .val (.tuple X), .un, .un] = some (.dat (.tuple (X ++ Y)), [.val (.int p), S1, S2, S3, S4, .own E, S6, .un, .un, .val (.int l), .val (.tuple X), .un, .un]) := by
  simp only [e_bodyM, e_seq, e_nil, e_if, e_set, e_ret, e_drop, e_par, e_asg, e_for, e_app, e_setix, e_aug, e_name, e_c, e_anil, e_acons, e_bin, e_cmp, e_brk, e_cnt, e_retn, e_ix, e_call, e_fn, e_fn0, e_fnD, e_ifx, e_oft, e_tru, e_not, e_and, e_or, e_andv, e_orv, e_notv, e_neg, e_isi, e_chain, e_lst, e_tup, e_it, e_rg1, e_rg2, e_zip, e_enum, e_revi, e_rev, e_o0, e_o1, e_sl, e_dict0, e_yes, e_comp, e_pop, e_asB, e_toDd, e_toDf, e_toDs, e_lkd, e_lkf, e_lks, e_lan, e_lac, e_tdn, e_tdc, e_tsn, e_tsd, e_tsf, e_tss, e_snd, e_snf, e_snn, e_snc, e_sod, e_sof, e_st, e_fln, e_keep, e_itl, e_itt, e_rr1, e_rr2, e_tupRg, e_lstRg, e_revR, e_popAt, e_ext, e_tupRev, e_repL, e_lenSet, e_enumA, e_zipA, e_zip3, d_addT, flat1,
  d_add, d_sub, d_lt, d_le, d_gt, d_ge, d_eq, d_ne, d_ixl, d_ixt, d_lenl, d_lent, d_inti, d_intb, d_abs, d_max2, d_min2, d_tupl, d_tupt, d_lsl, d_lst, d_rb, t_b, t_i, t_l, t_t, is_nb, is_bb, k_ii, k_ib, k_bi, k_bb, k_ni, k_si, k_ti, k_li, k_di, k_tt, isNone, isBl,
  Option.bind_some, Option.bind_none, Option.map_some, Option.map_none, List.append_nil, List.cons_append, List.nil_append, List.replicate, List.getElem?_cons_zero, List.getElem?_cons_succ, List.getElem?_nil, List.set_cons_zero, List.set_cons_succ, List.length_cons, List.length_nil, List.mapIdx_cons, List.mapIdx_nil, List.contains_nil, List.contains_cons, Bool.false_eq_true, if_true, if_false, reduceIte, Bool.not_true, Bool.not_false, Option.getD_some, Function.comp, List.map_cons, List.map_nil,
  Nat.reduceLT, Nat.reduceAdd, Nat.reduceBEq, Nat.reduceEqDiff, Nat.reduceLeDiff, Int.reduceLT, Int.reduceLE, decide_true, decide_false, beq_self_eq_true, Bool.or_false, Bool.or_true, Bool.true_or, Bool.false_or, Bool.and_true, Bool.true_and, Bool.and_false, Bool.false_and, and_self, Nat.zero_add, d_mod _ _ hp, e, hl]
theorem so_7 {C : ME} {S0 S1 S2 S3 S4 S5 S6 T6 : Sl} {L : List Da} (e : C [S0, S1, S2, S3, S4, S5, S6, .un, .un, .un, .un, .un, .un] = some (.fresh L, [S0, S1, S2, S3, S4, S5, T6, .un, .un, .un, .un, .un, .un])) : sSet 7 C [S0, S1, S2, S3, S4, S5, S6, .un, .un, .un, .un, .un, .un] = some (.nx, [S0, S1, S2, S3, S4, S5, T6, .own L, .un, .un, .un, .un, .un]) := by
  simp only [e_bodyM, e_seq, e_nil, e_if, e_set, e_ret, e_drop, e_par, e_asg, e_for, e_app, e_setix, e_aug, e_name, e_c, e_anil, e_acons, e_bin, e_cmp, e_brk, e_cnt, e_retn, e_ix, e_call, e_fn, e_fn0, e_fnD, e_ifx, e_oft, e_tru, e_not, e_and, e_or, e_andv, e_orv, e_notv, e_neg, e_isi, e_chain, e_lst, e_tup, e_it, e_rg1, e_rg2, e_zip, e_enum, e_revi, e_rev, e_o0, e_o1, e_sl, e_dict0, e_yes, e_comp, e_pop, e_asB, e_toDd, e_toDf, e_toDs, e_lkd, e_lkf, e_lks, e_lan, e_lac, e_tdn, e_tdc, e_tsn, e_tsd, e_tsf, e_tss, e_snd, e_snf, e_snn, e_snc, e_sod, e_sof, e_st, e_fln, e_keep, e_itl, e_itt, e_rr1, e_rr2, e_tupRg, e_lstRg, e_revR, e_popAt, e_ext, e_tupRev, e_repL, e_lenSet, e_enumA, e_zipA, e_zip3, d_addT, flat1,
  d_add, d_sub, d_lt, d_le, d_gt, d_ge, d_eq, d_ne, d_ixl, d_ixt, d_lenl, d_lent, d_inti, d_intb, d_abs, d_max2, d_min2, d_tupl, d_tupt, d_lsl, d_lst, d_rb, t_b, t_i, t_l, t_t, is_nb, is_bb, k_ii, k_ib, k_bi, k_bb, k_ni, k_si, k_ti, k_li, k_di, k_tt, isNone, isBl,
  Option.bind_some, Option.bind_none, Option.map_some, Option.map_none, List.append_nil, List.cons_append, List.nil_append, List.replicate, List.getElem?_cons_zero, List.getElem?_cons_succ, List.getElem?_nil, List.set_cons_zero, List.set_cons_succ, List.length_cons, List.length_nil, List.mapIdx_cons, List.mapIdx_nil, List.contains_nil, List.contains_cons, Bool.false_eq_true, if_true, if_false, reduceIte, Bool.not_true, Bool.not_false, Option.getD_some, Function.comp, List.map_cons, List.map_nil,
  Nat.reduceLT, Nat.reduceAdd, Nat.reduceBEq, Nat.reduceEqDiff, Nat.reduceLeDiff, Int.reduceLT, Int.reduceLE, decide_true, decide_false, beq_self_eq_true, Bool.or_false, Bool.or_true, Bool.true_or, Bool.false_or, Bool.and_true, Bool.true_and, Bool.and_false, Bool.false_and, and_self, Nat.zero_add, e]
theorem so_8 {AV : MF} {W : List Da} {l n g : Int} {S4 S5 S6 S7 : Sl} {V : List Da} {h : Gh} (hn : ((W.length : Nat) : Int) = n) (e : AV [.val (.int p), .val (.int (n - l - 1))] = some (.fresh V, h)) : (sSet 8 (mFn AV (mCons (mName 0) (mCons (mBin dSub (mBin dSub (mCall dLen (mCons (mName 1) mNil)) (mName 2)) (mC (.int 1))) mNil)))) [.val (.int p), .val (.tuple W), .val (.int l), .val (.int g), S4, S5, S6, S7, .un, .un, .un, .un, .un] = some (.nx, [.val (.int p), .val (.tuple W), .val (.int l), .val (.int g), S4, S5, S6, S7, .own V, .un, .un, .un, .un]) := by
  simp only [e_bodyM, e_seq, e_nil, e_if, e_set, e_ret, e_drop, e_par, e_asg, e_for, e_app, e_setix, e_aug, e_name, e_c, e_anil, e_acons, e_bin, e_cmp, e_brk, e_cnt, e_retn, e_ix, e_call, e_fn, e_fn0, e_fnD, e_ifx, e_oft, e_tru, e_not, e_and, e_or, e_andv, e_orv, e_notv, e_neg, e_isi, e_chain, e_lst, e_tup, e_it, e_rg1, e_rg2, e_zip, e_enum, e_revi, e_rev, e_o0, e_o1, e_sl, e_dict0, e_yes, e_comp, e_pop, e_asB, e_toDd, e_toDf, e_toDs, e_lkd, e_lkf, e_lks, e_lan, e_lac, e_tdn, e_tdc, e_tsn, e_tsd, e_tsf, e_tss, e_snd, e_snf, e_snn, e_snc, e_sod, e_sof, e_st, e_fln, e_keep, e_itl, e_itt, e_rr1, e_rr2, e_tupRg, e_lstRg, e_revR, e_popAt, e_ext, e_tupRev, e_repL, e_lenSet, e_enumA, e_zipA, e_zip3, d_addT, flat1,
  d_add, d_sub, d_lt, d_le, d_gt, d_ge, d_eq, d_ne, d_ixl, d_ixt, d_lenl, d_lent, d_inti, d_intb, d_abs, d_max2, d_min2, d_tupl, d_tupt, d_lsl, d_lst, d_rb, t_b, t_i, t_l, t_t, is_nb, is_bb, k_ii, k_ib, k_bi, k_bb, k_ni, k_si, k_ti, k_li, k_di, k_tt, isNone, isBl,
  Option.bind_some, Option.bind_none, Option.map_some, Option.map_none, List.append_nil, List.cons_append, List.nil_append, List.replicate, List.getElem?_cons_zero, List.getElem?_cons_succ, List.getElem?_nil, List.set_cons_zero, List.set_cons_succ, List.length_cons, List.length_nil, List.mapIdx_cons, List.mapIdx_nil, List.contains_nil, List.contains_cons, Bool.false_eq_true, if_true, if_false, reduceIte, Bool.not_true, Bool.not_false, Option.getD_some, Function.comp, List.map_cons, List.map_nil,
  Nat.reduceLT, Nat.reduceAdd, Nat.reduceBEq, Nat.reduceEqDiff, Nat.reduceLeDiff, Int.reduceLT, Int.reduceLE, decide_true, decide_false, beq_self_eq_true, Bool.or_false, Bool.or_true, Bool.true_or, Bool.false_or, Bool.and_true, Bool.true_and, Bool.and_false, Bool.false_and, and_self, Nat.zero_add, hn, e]
theorem so_t {S0 S1 S2 S3 S4 S5 S6 S7 S8 S9 S10 : Sl} {X Y : List Da} (hl : (X.length + Y.length ≤ sizeLine) = True) : (mBin dAdd (mName 11) (mName 12)) [S0, S1, S2, S3, S4, S5, S6, S7, S8, S9, S10, .val (.tuple X), .val (.tuple Y)] = some (.dat (.tuple (X ++ Y)), [S0, S1, S2, S3, S4, S5, S6, S7, S8, S9, S10, .val (.tuple X), .val (.tuple Y)]) := by
  simp only [e_bodyM, e_seq, e_nil, e_if, e_set, e_ret, e_drop, e_par, e_asg, e_for, e_app, e_setix, e_aug, e_name, e_c, e_anil, e_acons, e_bin, e_cmp, e_brk, e_cnt, e_retn, e_ix, e_call, e_fn, e_fn0, e_fnD, e_ifx, e_oft, e_tru, e_not, e_and, e_or, e_andv, e_orv, e_notv, e_neg, e_isi, e_chain, e_lst, e_tup, e_it, e_rg1, e_rg2, e_zip, e_enum, e_revi, e_rev, e_o0, e_o1, e_sl, e_dict0, e_yes, e_comp, e_pop, e_asB, e_toDd, e_toDf, e_toDs, e_lkd, e_lkf, e_lks, e_lan, e_lac, e_tdn, e_tdc, e_tsn, e_tsd, e_tsf, e_tss, e_snd, e_snf, e_snn, e_snc, e_sod, e_sof, e_st, e_fln, e_keep, e_itl, e_itt, e_rr1, e_rr2, e_tupRg, e_lstRg, e_revR, e_popAt, e_ext, e_tupRev, e_repL, e_lenSet, e_enumA, e_zipA, e_zip3, d_addT, flat1,
  d_add, d_sub, d_lt, d_le, d_gt, d_ge, d_eq, d_ne, d_ixl, d_ixt, d_lenl, d_lent, d_inti, d_intb, d_abs, d_max2, d_min2, d_tupl, d_tupt, d_lsl, d_lst, d_rb, t_b, t_i, t_l, t_t, is_nb, is_bb, k_ii, k_ib, k_bi, k_bb, k_ni, k_si, k_ti, k_li, k_di, k_tt, isNone, isBl,
  Option.bind_some, Option.bind_none, Option.map_some, Option.map_none, List.append_nil, List.cons_append, List.nil_append, List.replicate, List.getElem?_cons_zero, List.getElem?_cons_succ, List.getElem?_nil, List.set_cons_zero, List.set_cons_succ, List.length_cons, List.length_nil, List.mapIdx_cons, List.mapIdx_nil, List.contains_nil, List.contains_cons, Bool.false_eq_true, if_true, if_false, reduceIte, Bool.not_true, Bool.not_false, Option.getD_some, Function.comp, List.map_cons, List.map_nil,
  Nat.reduceLT, Nat.reduceAdd, Nat.reduceBEq, Nat.reduceEqDiff, Nat.reduceLeDiff, Int.reduceLT, Int.reduceLE, decide_true, decide_false, beq_self_eq_true, Bool.or_false, Bool.or_true, Bool.true_or, Bool.false_or, Bool.and_true, Bool.true_and, Bool.and_false, Bool.false_and, and_self, Nat.zero_add, hl]
theorem b139 {M : MS} {a b c d : Sl} {s4 s5 s6 s7 s8 s9 s10 s11 s12 : Sl} {w : Wv} (h : M [a, b, c, d, .un, .un, .un, .un, .un, .un, .un, .un, .un] = some (.rt w, [a, b, c, d, s4, s5, s6, s7, s8, s9, s10, s11, s12])) : bodyM [] 9 M [a, b, c, d] = some (w, [a, b, c, d]) := by
  show (M [a, b, c, d, .un, .un, .un, .un, .un, .un, .un, .un, .un]).bind _ = _
  rw [h]
  rfl
theorem zip_maps2 {α : Type} {f g : α → Da} : ∀ l : List α, zipD (l.map f) (l.map g) = l.map fun a => PyData.tuple [f a, g a]
  | [] => rfl
  | a :: l => by
    have ih := zip_maps2 (f := f) (g := g) l
    unfold zipD at ih ⊢
    simp only [List.map_cons, List.zipWith_cons_cons, ih]
theorem t_solved_vectors (hf : isFld p = true) {w : List Int} {n l t : Nat} {li g : Int} (hw : InF p w) (lw : w.length = n) (hn : n ≤ 60) (hl : l < n) (hli : li = (l : Nat)) (ht : t = n - l - 1) (hs : p.toNat ^ n ≤ 200000) : F_solved_vectors [.val (.int p), .val (tupI w), .val (.int li), .val (.int g)] = some (.fresh ((solR p (w.take l) (cf w l ^ (p - 2).toNat % p) t g).map tupI), [.val (.int p), .val (tupI w), .val (.int li), .val (.int g)]) := by
  have hp := fld_pos hf
  have hp0 : 0 < p := by omega
  have p1 : 1 ≤ p.toNat := by omega
  obtain ⟨f, hf'⟩ : ∃ f : Int, f = cf w l ^ (p - 2).toNat % p := ⟨_, rfl⟩
  rw [← hf']
  have bw := cf_in hp0 hw l
  have bf : 0 ≤ f ∧ f < p := by rw [hf']; exact ⟨Int.emod_nonneg _ (by omega), Int.emod_lt_of_pos _ hp0⟩
  have e4 := t_inverse (a := cf w l) hp.1 hp.2 bw.1 bw.2
  rw [← hf'] at e4
  obtain ⟨us, hus⟩ : ∃ us, us = w.take l := ⟨_, rfl⟩
  have lu : us.length = l := by rw [hus, List.length_take]; omega
  have iu : InF p us := fun x hx => hw x (List.mem_of_mem_take (hus ▸ hx))
  rw [← hus]
  have sl : p.toNat ^ l ≤ 200000 := Nat.le_trans (Nat.pow_le_pow_right p1 (by omega)) hs
  have st : p.toNat ^ t ≤ 200000 := Nat.le_trans (Nat.pow_le_pow_right p1 (by omega)) hs
  have stt : p.toNat ^ l * p.toNat ^ t ≤ 200000 := by rw [← Nat.pow_add]; exact Nat.le_trans (Nat.pow_le_pow_right p1 (by omega)) hs
  obtain ⟨m, hm⟩ : ∃ m : Int, m = (n : Nat) := ⟨_, rfl⟩
  have e6 := t_all_lacks (g := g) hp.1 hp.2 iu (by rw [lu]; exact sl)
  rw [lu] at e6
  have eV := t_all_vectors hp.1 hp.2 7 l li hli (by omega) (by omega) sl
  have eT := t_all_vectors hp.1 hp.2 7 t (m - li - 1) (by omega) (by omega) (by omega) st
  have cW : EV.cutD (w.map PyData.int) none (some li) = us.map PyData.int := by rw [cut_takeA _ l hli, hus, List.map_take]
  -- the ends
  have e5 : mComp [9] (mRg1 (mCons (mName 0) mNil)) (setN 9) mYes (mTup (mCons (mBin dMod (mBin dMul (mName 9) (mName 4)) (mName 0)) mNil)) [.val (.int p), .val (.tuple (w.map PyData.int)), .val (.int li), .val (.int g), .val (.int f), .un, .un, .un, .un, .un, .un, .un, .un] = some (.fresh ((nI p).map fun x => PyData.tuple [.int (x * f % p)]), [.val (.int p), .val (.tuple (w.map PyData.int)), .val (.int li), .val (.int g), .val (.int f), .un, .un, .un, .un, .un, .un, .un, .un]) := by
    refine comp_of (e := PyData.int) (F := fun x => PyData.tuple [.int (x * f % p)]) (by rw [← rg_nI]; exact so_r (okRg' (by omega) (by omega))) (by rw [len_nI]; omega) rfl rfl fun x hx => ?_
    have hx := mem_nI.mp hx
    exact ⟨[.val (.int p), .val (.tuple (w.map PyData.int)), .val (.int li), .val (.int g), .val (.int f), .un, .un, .un, .un, .val (.int x), .un, .un, .un], _, _, _, rfl, so_e hp0 (big hx.1 (by omega)) (big bf.1 (by omega)), rfl, rfl⟩
  obtain ⟨E, hE⟩ : ∃ E, E = (nI p).map fun x => PyData.tuple [.int (x * f % p)] := ⟨_, rfl⟩
  rw [← hE] at e5
  have atE : ∀ x : Int, atI E (x % p) = some (.tuple [.int (x % p * f % p)]) := fun x => by
    have b : 0 ≤ x % p ∧ x % p < p := ⟨Int.emod_nonneg _ (by omega), Int.emod_lt_of_pos _ hp0⟩
    refine at_n (i := (x % p).toNat) (by omega) ?_
    rw [hE]
    unfold nI
    rw [List.getElem?_map, List.getElem?_map, List.getElem?_range (by omega)]
    show some (PyData.tuple [.int (((x % p).toNat : Int) * f % p)]) = _
    rw [show (((x % p).toNat : Nat) : Int) = x % p by omega]
  obtain ⟨hs', hhs⟩ : ∃ H : List (List Int), H = (vecs p l).map fun h => h ++ [endR p us f g h] := ⟨_, rfl⟩
  have e7 : mComp [10, 9] (mZipA (mCons (mFn (F_all_vectors 8) (mCons (mName 0) (mCons (mName 2) mNil))) (mCons (mName 6) mNil))) (setT [10, 9]) mYes (mBin dAdd (mName 10) (mIx (mName 5) (mBin dMod (mName 9) (mName 0)))) [.val (.int p), .val (.tuple (w.map PyData.int)), .val (.int li), .val (.int g), .val (.int f), .own E, .own (((vecs p l).map fun v => g - dotZ us v).map PyData.int), .un, .un, .un, .un, .un, .un] = some (.fresh (hs'.map tupI), [.val (.int p), .val (.tuple (w.map PyData.int)), .val (.int li), .val (.int g), .val (.int f), .own E, .val (.list (((vecs p l).map fun v => g - dotZ us v).map PyData.int)), .un, .un, .un, .un, .un, .un]) := by
    have ehs : hs'.map tupI = (vecs p l).map (tupI ∘ fun h => h ++ [endR p us f g h]) := by rw [hhs, List.map_map]
    rw [ehs]
    refine comp_of3 (vs := [10, 9]) (e := fun v => PyData.tuple [tupI v, .int (g - dotZ us v)]) (F := tupI ∘ fun h => h ++ [endR p us f g h]) (xs := vecs p l) (g' := [.val (.int p), .val (.tuple (w.map PyData.int)), .val (.int li), .val (.int g), .val (.int f), .own E, .val (.list (((vecs p l).map fun v => g - dotZ us v).map PyData.int)), .un, .un, .un, .un, .un, .un]) (gw := [.val (.int p), .val (.tuple (w.map PyData.int)), .val (.int li), .val (.int g), .val (.int f), .own E, .val (.list (((vecs p l).map fun v => g - dotZ us v).map PyData.int)), .un, .un, .un, .un, .un, .un]) ?_ (by rw [len_vecs]; omega) rfl rfl fun h hh => ?_
    · rw [so_z eV]
      rw [List.map_map, zip_maps2]
      rfl
    · have lh := (mem_vecs.mp hh).1
      refine ⟨[.val (.int p), .val (.tuple (w.map PyData.int)), .val (.int li), .val (.int g), .val (.int f), .own E, .val (.list (((vecs p l).map fun v => g - dotZ us v).map PyData.int)), .un, .un, .val (.int (g - dotZ us h)), .val (tupI h), .un, .un], .dat (tupI (h ++ [endR p us f g h])), [.val (.int p), .val (.tuple (w.map PyData.int)), .val (.int li), .val (.int g), .val (.int f), .own E, .val (.list (((vecs p l).map fun v => g - dotZ us v).map PyData.int)), .un, .un, .val (.int (g - dotZ us h)), .val (tupI h), .un, .un], [.val (.int p), .val (.tuple (w.map PyData.int)), .val (.int li), .val (.int g), .val (.int f), .own E, .val (.list (((vecs p l).map fun v => g - dotZ us v).map PyData.int)), .un, .un, .val (.int (g - dotZ us h)), .val (tupI h), .un, .un], rfl, ?_, rfl, rfl⟩
      have hz : ((h.map PyData.int).length + [PyData.int ((g - dotZ us h) % p * f % p)].length ≤ sizeLine) = True := eq_true (by rw [List.length_map, List.length_singleton]; exact Nat.le_of_lt (sl_lt (by omega)))
      have e := so_h (S1 := .val (.tuple (w.map PyData.int))) (S2 := .val (.int li)) (S3 := .val (.int g)) (S4 := .val (.int f)) (S6 := .val (.list (((vecs p l).map fun v => g - dotZ us v).map PyData.int))) hp0 (atE (g - dotZ us h)) hz
      have et : PyData.tuple (h.map PyData.int ++ [PyData.int ((g - dotZ us h) % p * f % p)]) = tupI (h ++ [endR p us f g h]) := by
        unfold tupI
        rw [List.map_append]
        rfl
      rw [et] at e
      exact e
  have ne : hs' ≠ [] := fun z => by
    have c := len_vecs p l
    rw [hhs] at z
    rw [List.map_eq_nil_iff.mp z] at c
    have : 1 ≤ p.toNat ^ l := Nat.one_le_pow _ _ p1
    simp at c
    omega
  have lhs : ∀ x ∈ hs', x.length = l + 1 := fun x hx => by
    rw [hhs] at hx
    obtain ⟨h, hh, rfl⟩ := List.mem_map.mp hx
    rw [List.length_append, (mem_vecs.mp hh).1]
    rfl
  have inner : ∀ (T8 : Sl), (T8 = .own ((vecs p t).map tupI) ∨ T8 = .val (.list ((vecs p t).map tupI))) → ∀ x ∈ hs', innL [12] (mIt (mName 8)) (setN 12) mYes (mBin dAdd (mName 11) (mName 12)) [.val (.int p), .val (.tuple (w.map PyData.int)), .val (.int li), .val (.int g), .val (.int f), .own E, .val (.list (((vecs p l).map fun v => g - dotZ us v).map PyData.int)), .val (.list (hs'.map tupI)), T8, .un, .un, .val (tupI x), .un] = some ((vecs p t).map fun u => tupI (x ++ u), [.val (.int p), .val (.tuple (w.map PyData.int)), .val (.int li), .val (.int g), .val (.int f), .own E, .val (.list (((vecs p l).map fun v => g - dotZ us v).map PyData.int)), .val (.list (hs'.map tupI)), .val (.list ((vecs p t).map tupI)), .un, .un, .val (tupI x), .un]) := by
    intro T8 h8 x hx
    have lx := lhs x hx
    have i8 : mIt (mName 8) [.val (.int p), .val (.tuple (w.map PyData.int)), .val (.int li), .val (.int g), .val (.int f), .own E, .val (.list (((vecs p l).map fun v => g - dotZ us v).map PyData.int)), .val (.list (hs'.map tupI)), T8, .un, .un, .val (tupI x), .un] = some ((vecs p t).map tupI, [.val (.int p), .val (.tuple (w.map PyData.int)), .val (.int li), .val (.int g), .val (.int f), .own E, .val (.list (((vecs p l).map fun v => g - dotZ us v).map PyData.int)), .val (.list (hs'.map tupI)), .val (.list ((vecs p t).map tupI)), .un, .un, .val (tupI x), .un]) := by
      rcases h8 with rfl | rfl <;> rfl
    unfold innL
    rw [i8, Option.bind_some]
    refine compL_of (e := tupI) (F := fun u => tupI (x ++ u)) fun u hu => ?_
    have lu' := (mem_vecs.mp hu).1
    have hz : ((x.map PyData.int).length + (u.map PyData.int).length ≤ sizeLine) = True := eq_true (by rw [List.length_map, List.length_map]; exact Nat.le_of_lt (sl_lt (by omega)))
    have e := so_t (S0 := .val (.int p)) (S1 := .val (.tuple (w.map PyData.int))) (S2 := .val (.int li)) (S3 := .val (.int g)) (S4 := .val (.int f)) (S5 := .own E) (S6 := .val (.list (((vecs p l).map fun v => g - dotZ us v).map PyData.int))) (S7 := .val (.list (hs'.map tupI))) (S8 := .val (.list ((vecs p t).map tupI))) (S9 := .un) (S10 := .un) hz
    rw [← List.map_append] at e
    exact ⟨[.val (.int p), .val (.tuple (w.map PyData.int)), .val (.int li), .val (.int g), .val (.int f), .own E, .val (.list (((vecs p l).map fun v => g - dotZ us v).map PyData.int)), .val (.list (hs'.map tupI)), .val (.list ((vecs p t).map tupI)), .un, .un, .val (tupI x), .val (tupI u)], .dat (tupI (x ++ u)), _, _, rfl, e, rfl, rfl⟩
  have flat : (hs'.map fun x => (vecs p t).map fun u => tupI (x ++ u)).flatten = (solR p us f t g).map tupI := by
    unfold solR
    rw [← List.flatMap_def, hhs, List.flatMap_map, List.map_flatMap, lu]
    refine fm_congr fun h _ => ?_
    rw [List.map_map]
    rfl
  have sol_len : (solR p us f t g).length ≤ 200000 := by
    unfold solR
    rw [List.length_flatMap, lu]
    have : ((vecs p l).map fun h => ((vecs p t).map fun u => h ++ [endR p us f g h] ++ u).length) = List.replicate (vecs p l).length (p.toNat ^ t) := by
      refine List.eq_replicate_iff.mpr ⟨by rw [List.length_map], fun x hx => ?_⟩
      obtain ⟨y, _, rfl⟩ := List.mem_map.mp hx
      rw [List.length_map, len_vecs]
    rw [this, List.sum_replicate_nat, len_vecs]
    exact stt
  have e9 : mComp2 [11, 12] [12] (mIt (mName 7)) (setN 11) mYes (mIt (mName 8)) (setN 12) mYes (mBin dAdd (mName 11) (mName 12)) [.val (.int p), .val (.tuple (w.map PyData.int)), .val (.int li), .val (.int g), .val (.int f), .own E, .val (.list (((vecs p l).map fun v => g - dotZ us v).map PyData.int)), .own (hs'.map tupI), .own ((vecs p t).map tupI), .un, .un, .un, .un] = some (.fresh ((solR p us f t g).map tupI), [.val (.int p), .val (.tuple (w.map PyData.int)), .val (.int li), .val (.int g), .val (.int f), .own E, .val (.list (((vecs p l).map fun v => g - dotZ us v).map PyData.int)), .val (.list (hs'.map tupI)), .val (.list ((vecs p t).map tupI)), .un, .un, .un, .un]) := by
    rw [← flat]
    exact comp2_two (gB := [.val (.int p), .val (.tuple (w.map PyData.int)), .val (.int li), .val (.int g), .val (.int f), .own E, .val (.list (((vecs p l).map fun v => g - dotZ us v).map PyData.int)), .val (.list (hs'.map tupI)), .val (.list ((vecs p t).map tupI)), .un, .un, .un, .un]) (e := tupI) ne rfl rfl rfl (by rw [flat, List.length_map]; exact Nat.le_of_lt (sl_lt (by omega))) (fun x hx => ⟨[.val (.int p), .val (.tuple (w.map PyData.int)), .val (.int li), .val (.int g), .val (.int f), .own E, .val (.list (((vecs p l).map fun v => g - dotZ us v).map PyData.int)), .val (.list (hs'.map tupI)), .own ((vecs p t).map tupI), .un, .un, .val (tupI x), .un], _, rfl, inner _ (.inl rfl) x hx, rfl⟩) fun x hx => ⟨[.val (.int p), .val (.tuple (w.map PyData.int)), .val (.int li), .val (.int g), .val (.int f), .own E, .val (.list (((vecs p l).map fun v => g - dotZ us v).map PyData.int)), .val (.list (hs'.map tupI)), .val (.list ((vecs p t).map tupI)), .un, .un, .val (tupI x), .un], _, rfl, inner _ (.inr rfl) x hx, rfl⟩
  have aW : atI (w.map PyData.int) li = some (.int (cf w l)) := by rw [hli]; exact at_cf (by omega)
  have lW : (((w.map PyData.int).length : Nat) : Int) = m := by rw [List.length_map, lw, hm]
  unfold F_solved_vectors m_solved_vectors
  exact b139 ((seq_nx (so_4 aW e4)).trans ((seq_nx (so_s e5)).trans ((seq_nx (so_6 cW e6)).trans ((seq_nx (so_7 e7)).trans ((seq_nx (so_8 lW eT)).trans (av_5 e9))))))
end
end Lib
end
section
set_option exponentiation.threshold 3000
namespace Lib
open PySem PySem.Spec PyProof.Rows L2 EV
/-! ### lots that hold some places; the poly near a bent word -/
theorem law_frameQ {N : Da} {L : List Da} (hN : N = .list L) (hl : L.length ≤ 100) {C : Int} (hC : 1 ≤ C) (hC2 : C ≤ 100) {B : MS} (P : Gh → Prop) (hB : ∀ (n : Nat) (tl : Gh), n < 100 → P tl → ∃ (s1 : Sl) (tl' : Gh), P tl' ∧ B (.val N :: .val (.int (n : Nat)) :: tl) = some (.nx, .val N :: s1 :: tl')) (s1 : Sl) (tl : Gh) (ht : P tl) :
  ∃ (s1' : Sl) (tl' : Gh), P tl' ∧ (sFor (mRg1 (mCons (mCall dMax (mCons (mC (.int 1)) (mCons (mCall dMin (mCons (mC (.int C)) (mCons (mCall dLen (mCons (mName 0) mNil)) mNil))) mNil))) mNil)) (setN 1) B) (.val N :: s1 :: tl) = some (.nx, .val N :: s1' :: tl') := by
  subst hN
  obtain ⟨M, hM⟩ : ∃ M, M = (if (if (L.length : Int) < C then (L.length : Int) else C) > 1 then (if (L.length : Int) < C then (L.length : Int) else C) else 1) := ⟨_, rfl⟩
  have m0 : 1 ≤ M ∧ M ≤ 100 := by
    rw [hM]
    split <;> split <;> omega
  have it : mRg1 (mCons (mCall dMax (mCons (mC (.int 1)) (mCons (mCall dMin (mCons (mC (.int C)) (mCons (mCall dLen (mCons (mName 0) mNil)) mNil))) mNil))) mNil) (.val (.list L) :: s1 :: tl) = some (rgD 0 M, .val (.list L) :: s1 :: tl) := by
    refine rg1_of (n := M) (ws := [.dat (.int M)]) ?_ rfl (okRg' (by omega) (by omega))
    rw [hM]
    simp only [e_bodyM, e_seq, e_nil, e_if, e_set, e_ret, e_drop, e_par, e_asg, e_for, e_app, e_setix, e_aug, e_name, e_c, e_anil, e_acons, e_bin, e_cmp, e_brk, e_cnt, e_retn, e_ix, e_call, e_fn, e_fn0, e_fnD, e_ifx, e_oft, e_tru, e_not, e_and, e_or, e_andv, e_orv, e_notv, e_neg, e_isi, e_chain, e_lst, e_tup, e_it, e_rg1, e_rg2, e_zip, e_enum, e_revi, e_rev, e_o0, e_o1, e_sl, e_dict0, e_yes, e_comp, e_pop, e_asB, e_toDd, e_toDf, e_toDs, e_lkd, e_lkf, e_lks, e_lan, e_lac, e_tdn, e_tdc, e_tsn, e_tsd, e_tsf, e_tss, e_snd, e_snf, e_snn, e_snc, e_sod, e_sof, e_st, e_fln, e_keep, e_itl, e_itt, e_rr1, e_rr2, e_tupRg, e_lstRg, e_revR, e_popAt, e_ext, e_tupRev, e_repL, e_lenSet, e_enumA, e_zipA, e_zip3, d_addT, flat1,
  d_add, d_sub, d_lt, d_le, d_gt, d_ge, d_eq, d_ne, d_ixl, d_ixt, d_lenl, d_lent, d_inti, d_intb, d_abs, d_max2, d_min2, d_tupl, d_tupt, d_lsl, d_lst, d_rb, t_b, t_i, t_l, t_t, is_nb, is_bb, k_ii, k_ib, k_bi, k_bb, k_ni, k_si, k_ti, k_li, k_di, k_tt, isNone, isBl,
  Option.bind_some, Option.bind_none, Option.map_some, Option.map_none, List.append_nil, List.cons_append, List.nil_append, List.replicate, List.getElem?_cons_zero, List.getElem?_cons_succ, List.getElem?_nil, List.set_cons_zero, List.set_cons_succ, List.length_cons, List.length_nil, List.mapIdx_cons, List.mapIdx_nil, List.contains_nil, List.contains_cons, Bool.false_eq_true, if_true, if_false, reduceIte, Bool.not_true, Bool.not_false, Option.getD_some, Function.comp, List.map_cons, List.map_nil,
  Nat.reduceLT, Nat.reduceAdd, Nat.reduceBEq, Nat.reduceEqDiff, Nat.reduceLeDiff, Int.reduceLT, Int.reduceLE, decide_true, decide_false, beq_self_eq_true, Bool.or_false, Bool.or_true, Bool.true_or, Bool.false_or, Bool.and_true, Bool.true_and, Bool.and_false, Bool.false_and, and_self, Nat.zero_add, ]
  obtain ⟨g', e, s2, tl2, rfl, h2⟩ := forL_inv (tg := setN 1) (body := B) (fun j g => ∃ (s1 : Sl) (tl : Gh), g = .val (.list L) :: s1 :: tl ∧ P tl) (rgD 0 M) 0 (.val (.list L) :: s1 :: tl) ⟨s1, tl, rfl, ht⟩ (by
    rintro j g d ⟨s1, tl, rfl, ht⟩ hd hj
    obtain ⟨i, rfl, i0, i1⟩ := mem_rgD.mp hd
    obtain ⟨n, rfl⟩ : ∃ n : Nat, i = n := ⟨i.toNat, by omega⟩
    obtain ⟨s2, tl2, h2, e2⟩ := hB n tl (by omega) ht
    exact ⟨.val (.list L) :: .val (.int (n : Nat)) :: tl, _, rfl, e2, s2, tl2, rfl, h2⟩)
  exact ⟨s2, tl2, h2, by rw [e_for, it, Option.bind_some]; exact e⟩
end Lib
end
section
set_option exponentiation.threshold 3000
namespace Lib
open PySem PySem.Spec PyProof.Rows L2 EV
section
variable {p : Int}
/-! ### what a value is -/
theorem last_int (ns : List Int) (x : Int) : atI ((ns ++ [x]).map PyData.int) (-1) = some (.int x) := by
  rw [List.map_append]
  exact at_last _ _
end
/-! ### the law's own misses -/
/-! ### values of a size that all can be asked about -/
mutual
def wB : PyData → Bool
  | .list xs => decide (xs.length ≤ 400) && wBs xs
  | .tuple xs => decide (xs.length ≤ 400) && wBs xs
  | _ => true
def wBs : List PyData → Bool
  | [] => true
  | d :: ds => wB d && wBs ds
end
theorem wBs_all : ∀ {ds : List PyData}, wBs ds = true ↔ ∀ d ∈ ds, wB d = true
  | [] => ⟨fun _ d h => (by cases h), fun _ => rfl⟩
  | d :: ds => by
    unfold wBs
    rw [Bool.and_eq_true, wBs_all (ds := ds)]
    constructor
    · rintro ⟨h1, h2⟩ x hx
      rcases List.mem_cons.mp hx with rfl | hx
      · exact h1
      · exact h2 x hx
    · exact fun h => ⟨h d List.mem_cons_self, fun x hx => h x (List.mem_cons_of_mem _ hx)⟩
def Gd (n : Nat) (d : Da) : Prop := wB d = true ∧ Flat n d
theorem Gd.int {n : Nat} (i : Int) : Gd n (.int i) := ⟨by simp only [wB], flat_int i⟩
theorem Gd.bool {n : Nat} (i : Bool) : Gd n (.bool i) := ⟨by simp only [wB], flat_bool i⟩
theorem Gd.none {n : Nat} : Gd n .none := ⟨by simp only [wB], flat_none⟩
theorem Gd.str {n : Nat} {w : Str} (h : (PyData.str w).canLay0 = true) : Gd n (.str w) := ⟨by simp only [wB], flat_str h⟩
theorem Gd.tup {n : Nat} {xs : List Da} (h : ∀ x ∈ xs, Gd n x) (l : xs.length ≤ 400) : Gd (n + 1) (.tuple xs) :=
  ⟨by simp only [wB, Bool.and_eq_true, decide_eq_true_eq]; exact ⟨l, wBs_all.mpr fun d hd => (h d hd).1⟩, flat_tuple fun x hx => (h x hx).2⟩
theorem Gd.lst {n : Nat} {xs : List Da} (h : ∀ x ∈ xs, Gd n x) (l : xs.length ≤ 400) : Gd (n + 1) (.list xs) :=
  ⟨by simp only [wB, Bool.and_eq_true, decide_eq_true_eq]; exact ⟨l, wBs_all.mpr fun d hd => (h d hd).1⟩, flat_list fun x hx => (h x hx).2⟩
theorem Gd.ints {n : Nat} {T : List Int} (l : T.length ≤ 400) : Gd (n + 1) (.tuple (T.map PyData.int)) := Gd.tup (fun x hx => by
  obtain ⟨i, _, rfl⟩ := List.mem_map.mp hx
  exact .int i) (by rw [List.length_map]; exact l)
theorem Gd.mono {n m : Nat} {d : Da} (h : Gd n d) (l : n ≤ m) : Gd m d := ⟨h.1, h.2.1, h.2.2.1, Nat.le_trans h.2.2.2 l⟩
end Lib
end
section
set_option exponentiation.threshold 3000
namespace Lib
open PySem PySem.Spec PyProof.Rows L2 EV
/-! ### the vectors of a sum are those that are filtered -/
theorem pick_one {α : Type} {f : Int → List α} {x0 : Int} : ∀ {xs : List Int}, xs.Nodup → x0 ∈ xs → xs.flatMap (fun x => if x = x0 then f x else []) = f x0
  | [], _, h => by cases h
  | x :: xs, nd, h => by
    rw [List.nodup_cons] at nd
    rw [List.flatMap_cons]
    by_cases e : x = x0
    · subst e
      have z : xs.flatMap (fun y => if y = x then f y else []) = [] := List.flatMap_eq_nil_iff.mpr fun y hy => if_neg (show ¬ (y = x) from fun e => nd.1 (by rw [← e]; exact hy))
      rw [z, if_pos rfl, List.append_nil]
    · rw [if_neg e, List.nil_append]
      exact pick_one nd.2 ((List.mem_cons.mp h).resolve_left (Ne.symm e))
section
variable {p : Int}
theorem nI_nd2 : (nI p).Nodup := by
  unfold nI
  exact List.pairwise_map.mpr (List.Pairwise.imp (fun {a b} h (e : ((a : Nat) : Int) = ((b : Nat) : Int)) => h (by omega)) (List.nodup_range : (List.range p.toNat).Nodup))
theorem end_iff (hf : isFld p = true) {d a g x : Int} (ha : 0 < a) (ha2 : a < p) (g0 : 0 ≤ g) (g1 : g < p) (x0 : 0 ≤ x) (x1 : x < p) : ((d + a * x) % p = g) ↔ x = (g - d) % p * (a ^ (p - 2).toNat % p) % p := by
  have hp := fld_pos hf
  have iv : Cg p (a ^ (p - 2).toNat % p * a) 1 := cg_one (show 1 < p by omega) (inv_mul hf ha ha2)
  constructor
  · intro h
    have h1 : Cg p (d + a * x) g := cg_of_emod (by rw [h, Int.emod_eq_of_lt g0 g1])
    have h2 : Cg p (g - d) (a * x) := by
      have := cg_sub (cg_sym h1) (cg_refl p d)
      rw [show d + a * x - d = a * x by omega] at this
      exact this
    have h3 : Cg p ((g - d) % p * (a ^ (p - 2).toNat % p)) x := by
      refine cg_tr (cg_mul (cg_tr (cg_mod p _) h2) (cg_refl p _)) ?_
      have := cg_mul iv (cg_refl p x)
      rw [Int.one_mul] at this
      refine cg_tr ?_ this
      rw [Int.mul_comm (a * x), ← Int.mul_assoc]
      exact cg_refl p _
    rw [cg_emod h3, Int.emod_eq_of_lt x0 x1]
  · intro h
    have h3 : Cg p x ((g - d) * (a ^ (p - 2).toNat % p)) := by rw [h]; exact cg_tr (cg_mod p _) (cg_mul (cg_mod p _) (cg_refl p _))
    have h4 : Cg p (a * x) (g - d) := by
      refine cg_tr (cg_mul (cg_refl p a) h3) ?_
      have := cg_mul (cg_refl p (g - d)) iv
      rw [Int.mul_one] at this
      refine cg_tr ?_ this
      rw [show a * ((g - d) * (a ^ (p - 2).toNat % p)) = (g - d) * (a ^ (p - 2).toNat % p * a) by rw [Int.mul_comm a, Int.mul_assoc]]
      exact cg_refl p _
    have h5 := cg_add (cg_refl p d) h4
    rw [show d + (g - d) = g by omega] at h5
    rw [cg_emod h5, Int.emod_eq_of_lt g0 g1]
theorem sol_filter (hf : isFld p = true) {us zs : List Int} {a g : Int} {t : Nat} (ha : 0 < a) (ha2 : a < p) (hz : ∀ z ∈ zs, z = 0) (lz : zs.length = t) (g0 : 0 ≤ g) (g1 : g < p) : solR p us (a ^ (p - 2).toNat % p) t g = (vecs p (us.length + 1 + t)).filter fun v => dotZ (us ++ [a] ++ zs) v % p == g := by
  have hp := fld_pos hf
  rw [vecs_add, List.filter_flatMap]
  show _ = ((vecs p us.length).flatMap fun row => (nI p).map fun k => row ++ [k]).flatMap _
  rw [List.flatMap_assoc]
  unfold solR
  refine fm_congr fun h hh => ?_
  have lh := (mem_vecs.mp hh).1
  rw [List.flatMap_map]
  have step : ∀ x ∈ nI p, ((vecs p t).map fun u => h ++ [x] ++ u).filter (fun v => dotZ (us ++ [a] ++ zs) v % p == g) = if x = endR p us (a ^ (p - 2).toNat % p) g h then (vecs p t).map (fun u => h ++ [x] ++ u) else [] := fun x hx => by
    have hx := mem_nI.mp hx
    have dv : ∀ u ∈ vecs p t, dotZ (us ++ [a] ++ zs) (h ++ [x] ++ u) = dotZ us h + a * x := fun u hu => by
      have key : ∀ (A B Z U : List Int), A.length = B.length → dotZ (A ++ Z) (B ++ U) = dotZ A B + dotZ Z U := by
        intro A
        induction A with
        | nil => intro B Z U e; cases B with
          | nil => show dotZ Z U = 0 + _; omega
          | cons _ _ => cases e
        | cons x A ih => intro B Z U e; cases B with
          | nil => cases e
          | cons y B =>
            show x * y + dotZ (A ++ Z) (B ++ U) = x * y + dotZ A B + dotZ Z U
            rw [ih B Z U (by simpa using e)]
            omega
      have z0 : ∀ (Z U : List Int), (∀ z ∈ Z, z = 0) → dotZ Z U = 0 := by
        intro Z
        induction Z with
        | nil => intro U _; cases U <;> rfl
        | cons z Z ih => intro U hz; cases U with
          | nil => rfl
          | cons y U =>
            show z * y + dotZ Z U = 0
            rw [ih U fun w hw => hz w (List.mem_cons_of_mem _ hw), hz z List.mem_cons_self]
            omega
      rw [key (us ++ [a]) (h ++ [x]) zs u (by rw [List.length_append, List.length_append, lh]; rfl), z0 zs u hz, dot_app2 a x us h lh.symm]
      omega
    have iff := end_iff hf (d := dotZ us h) ha ha2 g0 g1 hx.1 hx.2
    by_cases e : x = endR p us (a ^ (p - 2).toNat % p) g h
    · rw [if_pos e]
      refine List.filter_eq_self.mpr fun v hv => ?_
      obtain ⟨u, hu, rfl⟩ := List.mem_map.mp hv
      rw [dv u hu, iff.mpr e]
      simp
    · rw [if_neg e]
      refine List.filter_eq_nil_iff.mpr fun v hv => ?_
      obtain ⟨u, hu, rfl⟩ := List.mem_map.mp hv
      rw [dv u hu]
      simpa using fun z => e (iff.mp z)
  rw [fm_congr step]
  refine (pick_one (f := fun x => (vecs p t).map fun u => h ++ [x] ++ u) nI_nd2 (mem_nI.mpr ?_)).symm
  unfold endR
  exact ⟨Int.emod_nonneg _ (by omega), Int.emod_lt_of_pos _ (by omega)⟩
/-! ### the program's list of them -/
theorem vw_pre {CF CV CN RC : MF} {M : MS} {W : List Da} {g n r : Int} {h1 h2 h3 h4 : Gh} (e1 : CF [.val (.int p)] = some (.dat .none, h1)) (e2 : CV [.val (.int p), .val (.tuple W)] = some (.dat .none, h2)) (e3 : CN [.val (.int p), .val (.int g)] = some (.dat .none, h3)) (hn : ((W.length : Nat) : Int) = n) (e4 : RC [.val (.int p), .val (.int n)] = some (.dat (.int r), h4)) (hr : decide (100000 < r) = false) : (sSeq (sDrop (mFn CF (mCons (mName 0) mNil)))
    (sSeq (sDrop (mFn CV (mCons (mName 0) (mCons (mName 1) mNil))))
    (sSeq (sDrop (mFn CN (mCons (mName 0) (mCons (mName 2) mNil))))
    (sSeq (sIf (mCmp dGt (mFn RC (mCons (mName 0) (mCons (mCall dLen (mCons (mName 1) mNil)) mNil))) (mC (.int 100000))) sNo sNil) M)))) [.val (.int p), .val (.tuple W), .val (.int g), .un] = M [.val (.int p), .val (.tuple W), .val (.int g), .un] := by
  simp only [e_bodyM, e_seq, e_nil, e_if, e_set, e_ret, e_drop, e_par, e_asg, e_for, e_app, e_setix, e_aug, e_name, e_c, e_anil, e_acons, e_bin, e_cmp, e_brk, e_cnt, e_retn, e_ix, e_call, e_fn, e_fn0, e_fnD, e_ifx, e_oft, e_tru, e_not, e_and, e_or, e_andv, e_orv, e_notv, e_neg, e_isi, e_chain, e_lst, e_tup, e_it, e_rg1, e_rg2, e_zip, e_enum, e_revi, e_rev, e_o0, e_o1, e_sl, e_dict0, e_yes, e_comp, e_pop, e_asB, e_toDd, e_toDf, e_toDs, e_lkd, e_lkf, e_lks, e_lan, e_lac, e_tdn, e_tdc, e_tsn, e_tsd, e_tsf, e_tss, e_snd, e_snf, e_snn, e_snc, e_sod, e_sof, e_st, e_fln, e_keep, e_itl, e_itt, e_rr1, e_rr2, e_tupRg, e_lstRg, e_revR, e_popAt, e_ext, e_tupRev, e_repL, e_lenSet, e_enumA, e_zipA, e_zip3, d_addT, flat1,
  d_add, d_sub, d_lt, d_le, d_gt, d_ge, d_eq, d_ne, d_ixl, d_ixt, d_lenl, d_lent, d_inti, d_intb, d_abs, d_max2, d_min2, d_tupl, d_tupt, d_lsl, d_lst, d_rb, t_b, t_i, t_l, t_t, is_nb, is_bb, k_ii, k_ib, k_bi, k_bb, k_ni, k_si, k_ti, k_li, k_di, k_tt, isNone, isBl,
  Option.bind_some, Option.bind_none, Option.map_some, Option.map_none, List.append_nil, List.cons_append, List.nil_append, List.replicate, List.getElem?_cons_zero, List.getElem?_cons_succ, List.getElem?_nil, List.set_cons_zero, List.set_cons_succ, List.length_cons, List.length_nil, List.mapIdx_cons, List.mapIdx_nil, List.contains_nil, List.contains_cons, Bool.false_eq_true, if_true, if_false, reduceIte, Bool.not_true, Bool.not_false, Option.getD_some, Function.comp, List.map_cons, List.map_nil,
  Nat.reduceLT, Nat.reduceAdd, Nat.reduceBEq, Nat.reduceEqDiff, Nat.reduceLeDiff, Int.reduceLT, Int.reduceLE, decide_true, decide_false, beq_self_eq_true, Bool.or_false, Bool.or_true, Bool.true_or, Bool.false_or, Bool.and_true, Bool.true_and, Bool.and_false, Bool.false_and, and_self, Nat.zero_add, e1, e2, e3, hn, e4, hr]
theorem vw_3 {HP : MF} {W : Da} {g : Int} {L : List Da} {h : Gh} (e : HP [.val W] = some (.fresh L, h)) : (sSet 3 (mFn HP (mCons (mName 1) mNil))) [.val (.int p), .val W, .val (.int g), .un] = some (.nx, [.val (.int p), .val W, .val (.int g), .own L]) := by
  simp only [e_bodyM, e_seq, e_nil, e_if, e_set, e_ret, e_drop, e_par, e_asg, e_for, e_app, e_setix, e_aug, e_name, e_c, e_anil, e_acons, e_bin, e_cmp, e_brk, e_cnt, e_retn, e_ix, e_call, e_fn, e_fn0, e_fnD, e_ifx, e_oft, e_tru, e_not, e_and, e_or, e_andv, e_orv, e_notv, e_neg, e_isi, e_chain, e_lst, e_tup, e_it, e_rg1, e_rg2, e_zip, e_enum, e_revi, e_rev, e_o0, e_o1, e_sl, e_dict0, e_yes, e_comp, e_pop, e_asB, e_toDd, e_toDf, e_toDs, e_lkd, e_lkf, e_lks, e_lan, e_lac, e_tdn, e_tdc, e_tsn, e_tsd, e_tsf, e_tss, e_snd, e_snf, e_snn, e_snc, e_sod, e_sof, e_st, e_fln, e_keep, e_itl, e_itt, e_rr1, e_rr2, e_tupRg, e_lstRg, e_revR, e_popAt, e_ext, e_tupRev, e_repL, e_lenSet, e_enumA, e_zipA, e_zip3, d_addT, flat1,
  d_add, d_sub, d_lt, d_le, d_gt, d_ge, d_eq, d_ne, d_ixl, d_ixt, d_lenl, d_lent, d_inti, d_intb, d_abs, d_max2, d_min2, d_tupl, d_tupt, d_lsl, d_lst, d_rb, t_b, t_i, t_l, t_t, is_nb, is_bb, k_ii, k_ib, k_bi, k_bb, k_ni, k_si, k_ti, k_li, k_di, k_tt, isNone, isBl,
  Option.bind_some, Option.bind_none, Option.map_some, Option.map_none, List.append_nil, List.cons_append, List.nil_append, List.replicate, List.getElem?_cons_zero, List.getElem?_cons_succ, List.getElem?_nil, List.set_cons_zero, List.set_cons_succ, List.length_cons, List.length_nil, List.mapIdx_cons, List.mapIdx_nil, List.contains_nil, List.contains_cons, Bool.false_eq_true, if_true, if_false, reduceIte, Bool.not_true, Bool.not_false, Option.getD_some, Function.comp, List.map_cons, List.map_nil,
  Nat.reduceLT, Nat.reduceAdd, Nat.reduceBEq, Nat.reduceEqDiff, Nat.reduceLeDiff, Int.reduceLT, Int.reduceLE, decide_true, decide_false, beq_self_eq_true, Bool.or_false, Bool.or_true, Bool.true_or, Bool.false_or, Bool.and_true, Bool.true_and, Bool.and_false, Bool.false_and, and_self, Nat.zero_add, e]
theorem vw_4 {SV : MF} {W : Da} {g l : Int} {L V : List Da} {h : Gh} (hL : L.isEmpty = false) (ea : atI L (-1) = some (.int l)) (e : SV [.val (.int p), .val W, .val (.int l), .val (.int g)] = some (.fresh V, h)) : (sIf (mTru (mName 3)) (sRet [] (mCall dTuple (mCons (mFn SV (mCons (mName 0) (mCons (mName 1) (mCons (mIx (mName 3) (mNeg (mC (.int 1)))) (mCons (mName 2) mNil))))) mNil))) sNil) [.val (.int p), .val W, .val (.int g), .own L] = some (.rt (.dat (.tuple V)), [.val (.int p), .val W, .val (.int g), .own L]) := by
  simp only [e_bodyM, e_seq, e_nil, e_if, e_set, e_ret, e_drop, e_par, e_asg, e_for, e_app, e_setix, e_aug, e_name, e_c, e_anil, e_acons, e_bin, e_cmp, e_brk, e_cnt, e_retn, e_ix, e_call, e_fn, e_fn0, e_fnD, e_ifx, e_oft, e_tru, e_not, e_and, e_or, e_andv, e_orv, e_notv, e_neg, e_isi, e_chain, e_lst, e_tup, e_it, e_rg1, e_rg2, e_zip, e_enum, e_revi, e_rev, e_o0, e_o1, e_sl, e_dict0, e_yes, e_comp, e_pop, e_asB, e_toDd, e_toDf, e_toDs, e_lkd, e_lkf, e_lks, e_lan, e_lac, e_tdn, e_tdc, e_tsn, e_tsd, e_tsf, e_tss, e_snd, e_snf, e_snn, e_snc, e_sod, e_sof, e_st, e_fln, e_keep, e_itl, e_itt, e_rr1, e_rr2, e_tupRg, e_lstRg, e_revR, e_popAt, e_ext, e_tupRev, e_repL, e_lenSet, e_enumA, e_zipA, e_zip3, d_addT, flat1,
  d_add, d_sub, d_lt, d_le, d_gt, d_ge, d_eq, d_ne, d_ixl, d_ixt, d_lenl, d_lent, d_inti, d_intb, d_abs, d_max2, d_min2, d_tupl, d_tupt, d_lsl, d_lst, d_rb, t_b, t_i, t_l, t_t, is_nb, is_bb, k_ii, k_ib, k_bi, k_bb, k_ni, k_si, k_ti, k_li, k_di, k_tt, isNone, isBl,
  Option.bind_some, Option.bind_none, Option.map_some, Option.map_none, List.append_nil, List.cons_append, List.nil_append, List.replicate, List.getElem?_cons_zero, List.getElem?_cons_succ, List.getElem?_nil, List.set_cons_zero, List.set_cons_succ, List.length_cons, List.length_nil, List.mapIdx_cons, List.mapIdx_nil, List.contains_nil, List.contains_cons, Bool.false_eq_true, if_true, if_false, reduceIte, Bool.not_true, Bool.not_false, Option.getD_some, Function.comp, List.map_cons, List.map_nil,
  Nat.reduceLT, Nat.reduceAdd, Nat.reduceBEq, Nat.reduceEqDiff, Nat.reduceLeDiff, Int.reduceLT, Int.reduceLE, decide_true, decide_false, beq_self_eq_true, Bool.or_false, Bool.or_true, Bool.true_or, Bool.false_or, Bool.and_true, Bool.true_and, Bool.and_false, Bool.false_and, and_self, Nat.zero_add, hL, ea, e]
theorem vw_4n {M : MS} {W : Da} {g : Int} : (sIf (mTru (mName 3)) M sNil) [.val (.int p), .val W, .val (.int g), .own []] = some (.nx, [.val (.int p), .val W, .val (.int g), .own []]) := by
  simp only [e_bodyM, e_seq, e_nil, e_if, e_set, e_ret, e_drop, e_par, e_asg, e_for, e_app, e_setix, e_aug, e_name, e_c, e_anil, e_acons, e_bin, e_cmp, e_brk, e_cnt, e_retn, e_ix, e_call, e_fn, e_fn0, e_fnD, e_ifx, e_oft, e_tru, e_not, e_and, e_or, e_andv, e_orv, e_notv, e_neg, e_isi, e_chain, e_lst, e_tup, e_it, e_rg1, e_rg2, e_zip, e_enum, e_revi, e_rev, e_o0, e_o1, e_sl, e_dict0, e_yes, e_comp, e_pop, e_asB, e_toDd, e_toDf, e_toDs, e_lkd, e_lkf, e_lks, e_lan, e_lac, e_tdn, e_tdc, e_tsn, e_tsd, e_tsf, e_tss, e_snd, e_snf, e_snn, e_snc, e_sod, e_sof, e_st, e_fln, e_keep, e_itl, e_itt, e_rr1, e_rr2, e_tupRg, e_lstRg, e_revR, e_popAt, e_ext, e_tupRev, e_repL, e_lenSet, e_enumA, e_zipA, e_zip3, d_addT, flat1,
  d_add, d_sub, d_lt, d_le, d_gt, d_ge, d_eq, d_ne, d_ixl, d_ixt, d_lenl, d_lent, d_inti, d_intb, d_abs, d_max2, d_min2, d_tupl, d_tupt, d_lsl, d_lst, d_rb, t_b, t_i, t_l, t_t, is_nb, is_bb, k_ii, k_ib, k_bi, k_bb, k_ni, k_si, k_ti, k_li, k_di, k_tt, isNone, isBl,
  Option.bind_some, Option.bind_none, Option.map_some, Option.map_none, List.append_nil, List.cons_append, List.nil_append, List.replicate, List.getElem?_cons_zero, List.getElem?_cons_succ, List.getElem?_nil, List.set_cons_zero, List.set_cons_succ, List.length_cons, List.length_nil, List.mapIdx_cons, List.mapIdx_nil, List.contains_nil, List.contains_cons, Bool.false_eq_true, if_true, if_false, reduceIte, Bool.not_true, Bool.not_false, Option.getD_some, Function.comp, List.map_cons, List.map_nil,
  Nat.reduceLT, Nat.reduceAdd, Nat.reduceBEq, Nat.reduceEqDiff, Nat.reduceLeDiff, Int.reduceLT, Int.reduceLE, decide_true, decide_false, beq_self_eq_true, Bool.or_false, Bool.or_true, Bool.true_or, Bool.false_or, Bool.and_true, Bool.true_and, Bool.and_false, Bool.false_and, and_self, Nat.zero_add, List.isEmpty]
theorem vw_5 {AV : MF} {W : List Da} {g n : Int} {V : List Da} {b : Bool} {h : Gh} (hg : (g == 0) = b) (hn : ((W.length : Nat) : Int) = n) (e : AV [.val (.int p), .val (.int n)] = some (.fresh V, h)) : (sRet [] (mIf (mCmp dEq (mName 2) (mC (.int 0))) (mCall dTuple (mCons (mFn AV (mCons (mName 0) (mCons (mCall dLen (mCons (mName 1) mNil)) mNil))) mNil)) (mTup mNil))) [.val (.int p), .val (.tuple W), .val (.int g), .own []] = some (.rt (.dat (.tuple (if b then V else []))), [.val (.int p), .val (.tuple W), .val (.int g), .own []]) := by
  cases b <;> simp only [e_bodyM, e_seq, e_nil, e_if, e_set, e_ret, e_drop, e_par, e_asg, e_for, e_app, e_setix, e_aug, e_name, e_c, e_anil, e_acons, e_bin, e_cmp, e_brk, e_cnt, e_retn, e_ix, e_call, e_fn, e_fn0, e_fnD, e_ifx, e_oft, e_tru, e_not, e_and, e_or, e_andv, e_orv, e_notv, e_neg, e_isi, e_chain, e_lst, e_tup, e_it, e_rg1, e_rg2, e_zip, e_enum, e_revi, e_rev, e_o0, e_o1, e_sl, e_dict0, e_yes, e_comp, e_pop, e_asB, e_toDd, e_toDf, e_toDs, e_lkd, e_lkf, e_lks, e_lan, e_lac, e_tdn, e_tdc, e_tsn, e_tsd, e_tsf, e_tss, e_snd, e_snf, e_snn, e_snc, e_sod, e_sof, e_st, e_fln, e_keep, e_itl, e_itt, e_rr1, e_rr2, e_tupRg, e_lstRg, e_revR, e_popAt, e_ext, e_tupRev, e_repL, e_lenSet, e_enumA, e_zipA, e_zip3, d_addT, flat1,
  d_add, d_sub, d_lt, d_le, d_gt, d_ge, d_eq, d_ne, d_ixl, d_ixt, d_lenl, d_lent, d_inti, d_intb, d_abs, d_max2, d_min2, d_tupl, d_tupt, d_lsl, d_lst, d_rb, t_b, t_i, t_l, t_t, is_nb, is_bb, k_ii, k_ib, k_bi, k_bb, k_ni, k_si, k_ti, k_li, k_di, k_tt, isNone, isBl,
  Option.bind_some, Option.bind_none, Option.map_some, Option.map_none, List.append_nil, List.cons_append, List.nil_append, List.replicate, List.getElem?_cons_zero, List.getElem?_cons_succ, List.getElem?_nil, List.set_cons_zero, List.set_cons_succ, List.length_cons, List.length_nil, List.mapIdx_cons, List.mapIdx_nil, List.contains_nil, List.contains_cons, Bool.false_eq_true, if_true, if_false, reduceIte, Bool.not_true, Bool.not_false, Option.getD_some, Function.comp, List.map_cons, List.map_nil,
  Nat.reduceLT, Nat.reduceAdd, Nat.reduceBEq, Nat.reduceEqDiff, Nat.reduceLeDiff, Int.reduceLT, Int.reduceLE, decide_true, decide_false, beq_self_eq_true, Bool.or_false, Bool.or_true, Bool.true_or, Bool.false_or, Bool.and_true, Bool.true_and, Bool.and_false, Bool.false_and, and_self, Nat.zero_add, hg, hn, e, z0]
theorem t_vectors_with (hf : isFld p = true) {w : List Int} {n : Nat} {g : Int} (hw : InF p w) (lw : w.length = n) (hn : n ≤ 60) (g0 : 0 ≤ g) (g1 : g < p) (hs : p.toNat ^ n ≤ 100000) : F_vectors_with [.val (.int p), .val (tupI w), .val (.int g)] = some (.dat (.tuple (((vecs p n).filter fun v => dotZ w v % p == g).map tupI)), [.val (.int p), .val (tupI w), .val (.int g)]) := by
  have hp := fld_pos hf
  obtain ⟨m, hm⟩ : ∃ m : Int, m = (n : Nat) := ⟨_, rfl⟩
  have lW : (((w.map PyData.int).length : Nat) : Int) = m := by rw [List.length_map, lw, hm]
  have eR := t_rows_countW (m := m) hp.1 hp.2 (by omega) (by omega)
  rw [show m.toNat = n by omega] at eR
  have pr : p ^ n ≤ 100000 := by
    have : ((p.toNat ^ n : Nat) : Int) = p ^ n := by rw [Int.natCast_pow, Int.toNat_of_nonneg (by omega)]
    omega
  have e3 := vw_3 (p := p) (g := g) (t_heavy_places (w := w) lw (by omega))
  unfold F_vectors_with m_vectors_with
  have pre := fun M => vw_pre (M := M) (t_check_field hf) (t_check_vector hp.1 hw (by omega)) (t_check_number g0 g1) lW eR (decide_eq_false (by omega))
  by_cases hh : heavyR n w = []
  · rw [hh] at e3
    have eV := t_all_vectors hp.1 hp.2 7 n m hm (by omega) hn (by omega)
    have key := vw_5 (g := g) (b := g == 0) rfl lW eV
    have z := (heavy_nil lw).mp hh
    have d0 : ∀ v : List Int, dotZ w v = 0 := fun v => by
      have z0 : ∀ (Z U : List Int), (∀ z ∈ Z, z = 0) → dotZ Z U = 0 := by
        intro Z
        induction Z with
        | nil => intro U _; cases U <;> rfl
        | cons z Z ih => intro U hz; cases U with
          | nil => rfl
          | cons y U =>
            show z * y + dotZ Z U = 0
            rw [ih U fun w hw => hz w (List.mem_cons_of_mem _ hw), hz z List.mem_cons_self]
            omega
      exact z0 w v z
    have ef : (if (g == 0) = true then (vecs p n).map tupI else []) = ((vecs p n).filter fun v => dotZ w v % p == g).map tupI := by
      by_cases gz : g = 0
      · rw [if_pos (beq_iff_eq.mpr gz), List.filter_eq_self.mpr fun v _ => by rw [d0, gz]; simp]
      · rw [if_neg (by simpa using gz), List.filter_eq_nil_iff.mpr fun v _ => by rw [d0, Int.zero_emod]; simpa using fun e => gz e.symm]
        rfl
    rw [ef] at key
    exact b31 ((pre _).trans ((seq_nx e3).trans ((seq_nx vw_4n).trans key)))
  · obtain ⟨ks, l, hl⟩ : ∃ ks l, heavyR n w = ks ++ [l] := ⟨(heavyR n w).dropLast, (heavyR n w).getLast hh, (List.dropLast_concat_getLast hh).symm⟩
    have lm : l ∈ heavyR n w := by rw [hl]; exact List.mem_append_right _ (List.mem_singleton.mpr rfl)
    obtain ⟨l1, l2⟩ := List.mem_filter.mp lm
    have ln : l < n := List.mem_range.mp l1
    have ne0 : cf w l ≠ 0 := by simpa using l2
    have bw := cf_in (show 0 < p by omega) hw l
    have late : ∀ k, l < k → k < n → cf w k = 0 := fun k hlk hk => Classical.byContradiction fun z => by
      have km : k ∈ heavyR n w := List.mem_filter.mpr ⟨List.mem_range.mpr hk, by simpa using z⟩
      have pw : (heavyR n w).Pairwise (· < ·) := List.Pairwise.filter _ List.pairwise_lt_range
      rw [hl] at km pw
      obtain ⟨_, _, p3⟩ := List.pairwise_append.mp pw
      rcases List.mem_append.mp km with q | q
      · have := p3 k q l (List.mem_singleton.mpr rfl)
        omega
      · rw [List.mem_singleton.mp q] at hlk
        omega
    have eL : atI ((heavyR n w).map intN) (-1) = some (.int ((l : Nat) : Int)) := by
      have e : (heavyR n w).map intN = ((ks.map fun k : Nat => ((k : Nat) : Int)) ++ [((l : Nat) : Int)]).map PyData.int := by
        rw [hl, List.map_append, List.map_append, List.map_map]
        rfl
      rw [e]
      exact last_int _ _
    have hne : ((heavyR n w).map intN).isEmpty = false := by rw [hl]; simp
    have eS := t_solved_vectors (li := ((l : Nat) : Int)) (g := g) (t := n - l - 1) hf hw lw hn ln rfl rfl (by omega)
    have ew : w = w.take l ++ [cf w l] ++ w.drop (l + 1) := by
      have c := set_cut (x := cf w l) w l (by omega)
      rw [c]
      refine (List.ext_getElem (by rw [List.length_set]) fun i h1 h2 => ?_)
      rw [List.getElem_set]
      split
      · rename_i e
        subst e
        rw [cf_at h1]
      · rfl
    have hz : ∀ z ∈ w.drop (l + 1), z = 0 := fun z hz => by
      obtain ⟨i, hi, rfl⟩ := List.mem_iff_getElem.mp hz
      rw [List.length_drop] at hi
      rw [List.getElem_drop]
      have := late (l + 1 + i) (by omega) (by omega)
      rw [cf_at (by omega)] at this
      exact this
    have sf := sol_filter (p := p) hf (us := w.take l) (zs := w.drop (l + 1)) (a := cf w l) (g := g) (t := n - l - 1) (by omega) bw.2 hz (by rw [List.length_drop, lw]; omega) g0 g1
    rw [← ew, List.length_take, show min l w.length + 1 + (n - l - 1) = n by omega] at sf
    rw [sf] at eS
    exact b31 ((pre _).trans ((seq_nx e3).trans (seq_rt (vw_4 hne eL eS))))
end
end Lib
end
section
set_option exponentiation.threshold 3000
namespace Lib
open PySem PySem.Spec PyProof.Rows L2 EV
/-! ### the law's own: all vectors, weighted sums, weights drawn -/
section
variable {p : Int}
theorem al_el {S0 S1 S2 S3 S4 : Sl} {X : List Da} {k : Da} (hl : (X.length + 1 ≤ sizeLine) = True) : (mBin dAdd (mName 5) (mTup (mCons (mName 6) mNil))) [S0, S1, S2, S3, S4, .val (.tuple X), .val k] = some (.dat (.tuple (X ++ [k])), [S0, S1, S2, S3, S4, .val (.tuple X), .val k]) := by
  simp only [e_bodyM, e_seq, e_nil, e_if, e_set, e_ret, e_drop, e_par, e_asg, e_for, e_app, e_setix, e_aug, e_name, e_c, e_anil, e_acons, e_bin, e_cmp, e_brk, e_cnt, e_retn, e_ix, e_call, e_fn, e_fn0, e_fnD, e_ifx, e_oft, e_tru, e_not, e_and, e_or, e_andv, e_orv, e_notv, e_neg, e_isi, e_chain, e_lst, e_tup, e_it, e_rg1, e_rg2, e_zip, e_enum, e_revi, e_rev, e_o0, e_o1, e_sl, e_dict0, e_yes, e_comp, e_pop, e_asB, e_toDd, e_toDf, e_toDs, e_lkd, e_lkf, e_lks, e_lan, e_lac, e_tdn, e_tdc, e_tsn, e_tsd, e_tsf, e_tss, e_snd, e_snf, e_snn, e_snc, e_sod, e_sof, e_st, e_fln, e_keep, e_itl, e_itt, e_rr1, e_rr2, e_tupRg, e_lstRg, e_revR, e_popAt, e_ext, e_tupRev, e_repL, e_lenSet, e_enumA, e_zipA, e_zip3, d_addT, flat1,
  d_add, d_sub, d_lt, d_le, d_gt, d_ge, d_eq, d_ne, d_ixl, d_ixt, d_lenl, d_lent, d_inti, d_intb, d_abs, d_max2, d_min2, d_tupl, d_tupt, d_lsl, d_lst, d_rb, t_b, t_i, t_l, t_t, is_nb, is_bb, k_ii, k_ib, k_bi, k_bb, k_ni, k_si, k_ti, k_li, k_di, k_tt, isNone, isBl,
  Option.bind_some, Option.bind_none, Option.map_some, Option.map_none, List.append_nil, List.cons_append, List.nil_append, List.replicate, List.getElem?_cons_zero, List.getElem?_cons_succ, List.getElem?_nil, List.set_cons_zero, List.set_cons_succ, List.length_cons, List.length_nil, List.mapIdx_cons, List.mapIdx_nil, List.contains_nil, List.contains_cons, Bool.false_eq_true, if_true, if_false, reduceIte, Bool.not_true, Bool.not_false, Option.getD_some, Function.comp, List.map_cons, List.map_nil,
  Nat.reduceLT, Nat.reduceAdd, Nat.reduceBEq, Nat.reduceEqDiff, Nat.reduceLeDiff, Int.reduceLT, Int.reduceLE, decide_true, decide_false, beq_self_eq_true, Bool.or_false, Bool.or_true, Bool.true_or, Bool.false_or, Bool.and_true, Bool.true_and, Bool.and_false, Bool.false_and, and_self, Nat.zero_add, hl, z1]
theorem al_r {S1 S2 S3 S4 S5 : Sl} (ok : okRg p = true) : mRg1 (mCons (mName 0) mNil) [.val (.int p), S1, S2, S3, S4, S5, .un] = some (rgD 0 p, [.val (.int p), S1, S2, S3, S4, S5, .un]) := by
  simp only [e_bodyM, e_seq, e_nil, e_if, e_set, e_ret, e_drop, e_par, e_asg, e_for, e_app, e_setix, e_aug, e_name, e_c, e_anil, e_acons, e_bin, e_cmp, e_brk, e_cnt, e_retn, e_ix, e_call, e_fn, e_fn0, e_fnD, e_ifx, e_oft, e_tru, e_not, e_and, e_or, e_andv, e_orv, e_notv, e_neg, e_isi, e_chain, e_lst, e_tup, e_it, e_rg1, e_rg2, e_zip, e_enum, e_revi, e_rev, e_o0, e_o1, e_sl, e_dict0, e_yes, e_comp, e_pop, e_asB, e_toDd, e_toDf, e_toDs, e_lkd, e_lkf, e_lks, e_lan, e_lac, e_tdn, e_tdc, e_tsn, e_tsd, e_tsf, e_tss, e_snd, e_snf, e_snn, e_snc, e_sod, e_sof, e_st, e_fln, e_keep, e_itl, e_itt, e_rr1, e_rr2, e_tupRg, e_lstRg, e_revR, e_popAt, e_ext, e_tupRev, e_repL, e_lenSet, e_enumA, e_zipA, e_zip3, d_addT, flat1,
  d_add, d_sub, d_lt, d_le, d_gt, d_ge, d_eq, d_ne, d_ixl, d_ixt, d_lenl, d_lent, d_inti, d_intb, d_abs, d_max2, d_min2, d_tupl, d_tupt, d_lsl, d_lst, d_rb, t_b, t_i, t_l, t_t, is_nb, is_bb, k_ii, k_ib, k_bi, k_bb, k_ni, k_si, k_ti, k_li, k_di, k_tt, isNone, isBl,
  Option.bind_some, Option.bind_none, Option.map_some, Option.map_none, List.append_nil, List.cons_append, List.nil_append, List.replicate, List.getElem?_cons_zero, List.getElem?_cons_succ, List.getElem?_nil, List.set_cons_zero, List.set_cons_succ, List.length_cons, List.length_nil, List.mapIdx_cons, List.mapIdx_nil, List.contains_nil, List.contains_cons, Bool.false_eq_true, if_true, if_false, reduceIte, Bool.not_true, Bool.not_false, Option.getD_some, Function.comp, List.map_cons, List.map_nil,
  Nat.reduceLT, Nat.reduceAdd, Nat.reduceBEq, Nat.reduceEqDiff, Nat.reduceLeDiff, Int.reduceLT, Int.reduceLE, decide_true, decide_false, beq_self_eq_true, Bool.or_false, Bool.or_true, Bool.true_or, Bool.false_or, Bool.and_true, Bool.true_and, Bool.and_false, Bool.false_and, and_self, Nat.zero_add, ok]
theorem al_x {C : ME} {S0 S1 S2 S3 S5 S6 : Sl} {A X : List Da} (e : C [S0, S1, S2, S3, .own A, S5, S6] = some (.fresh X, [S0, S1, S2, S3, .own A, S5, S6])) (hl : (A.length + X.length ≤ sizeLine) = True) : sExt 4 C [S0, S1, S2, S3, .own A, S5, S6] = some (.nx, [S0, S1, S2, S3, .own (A ++ X), S5, S6]) := by
  simp only [e_bodyM, e_seq, e_nil, e_if, e_set, e_ret, e_drop, e_par, e_asg, e_for, e_app, e_setix, e_aug, e_name, e_c, e_anil, e_acons, e_bin, e_cmp, e_brk, e_cnt, e_retn, e_ix, e_call, e_fn, e_fn0, e_fnD, e_ifx, e_oft, e_tru, e_not, e_and, e_or, e_andv, e_orv, e_notv, e_neg, e_isi, e_chain, e_lst, e_tup, e_it, e_rg1, e_rg2, e_zip, e_enum, e_revi, e_rev, e_o0, e_o1, e_sl, e_dict0, e_yes, e_comp, e_pop, e_asB, e_toDd, e_toDf, e_toDs, e_lkd, e_lkf, e_lks, e_lan, e_lac, e_tdn, e_tdc, e_tsn, e_tsd, e_tsf, e_tss, e_snd, e_snf, e_snn, e_snc, e_sod, e_sof, e_st, e_fln, e_keep, e_itl, e_itt, e_rr1, e_rr2, e_tupRg, e_lstRg, e_revR, e_popAt, e_ext, e_tupRev, e_repL, e_lenSet, e_enumA, e_zipA, e_zip3, d_addT, flat1,
  d_add, d_sub, d_lt, d_le, d_gt, d_ge, d_eq, d_ne, d_ixl, d_ixt, d_lenl, d_lent, d_inti, d_intb, d_abs, d_max2, d_min2, d_tupl, d_tupt, d_lsl, d_lst, d_rb, t_b, t_i, t_l, t_t, is_nb, is_bb, k_ii, k_ib, k_bi, k_bb, k_ni, k_si, k_ti, k_li, k_di, k_tt, isNone, isBl,
  Option.bind_some, Option.bind_none, Option.map_some, Option.map_none, List.append_nil, List.cons_append, List.nil_append, List.replicate, List.getElem?_cons_zero, List.getElem?_cons_succ, List.getElem?_nil, List.set_cons_zero, List.set_cons_succ, List.length_cons, List.length_nil, List.mapIdx_cons, List.mapIdx_nil, List.contains_nil, List.contains_cons, Bool.false_eq_true, if_true, if_false, reduceIte, Bool.not_true, Bool.not_false, Option.getD_some, Function.comp, List.map_cons, List.map_nil,
  Nat.reduceLT, Nat.reduceAdd, Nat.reduceBEq, Nat.reduceEqDiff, Nat.reduceLeDiff, Int.reduceLT, Int.reduceLE, decide_true, decide_false, beq_self_eq_true, Bool.or_false, Bool.or_true, Bool.true_or, Bool.false_or, Bool.and_true, Bool.true_and, Bool.and_false, Bool.false_and, and_self, Nat.zero_add, e, hl]
theorem al_in (hp : 5 ≤ p) (hp2 : p ≤ 997) {S1 S2 S3 : Sl} {q : Nat} (hq : q ≤ 100) : ∀ (L : List (List Int)) (A : List Da) (S5 : Sl), (∀ v ∈ L, v.length = q) → A.length + L.length * p.toNat ≤ 200000 → ∃ S5', forL (setN 5) (sExt 4 (mComp [6] (mRg1 (mCons (mName 0) mNil)) (setN 6) mYes (mBin dAdd (mName 5) (mTup (mCons (mName 6) mNil))))) (L.map tupI) [.val (.int p), S1, S2, S3, .own A, S5, .un] = some (.nx, [.val (.int p), S1, S2, S3, .own (A ++ (L.flatMap fun row => (nI p).map fun k => row ++ [k]).map tupI), S5', .un])
  | [], A, S5, _, _ => ⟨S5, by simp only [List.flatMap_nil, List.map_nil, List.append_nil]; rfl⟩
  | v :: L, A, S5, h, hl => by
    have lv := h v List.mem_cons_self
    rw [List.length_cons, Nat.succ_mul] at hl
    have eC : mComp [6] (mRg1 (mCons (mName 0) mNil)) (setN 6) mYes (mBin dAdd (mName 5) (mTup (mCons (mName 6) mNil))) [.val (.int p), S1, S2, S3, .own A, .val (tupI v), .un] = some (.fresh (((nI p).map fun k => v ++ [k]).map tupI), [.val (.int p), S1, S2, S3, .own A, .val (tupI v), .un]) := by
      rw [List.map_map]
      refine comp_of (e := PyData.int) (F := tupI ∘ fun k => v ++ [k]) (by rw [← rg_nI]; exact al_r (okRg' (by omega) (by omega))) (by rw [len_nI]; omega) rfl rfl fun x hx => ?_
      have e := al_el (S0 := .val (.int p)) (S1 := S1) (S2 := S2) (S3 := S3) (S4 := .own A) (X := v.map PyData.int) (k := .int x) (eq_true (by rw [List.length_map]; exact Nat.le_of_lt (sl_lt (by omega))))
      have et : PyData.tuple (v.map PyData.int ++ [.int x]) = tupI (v ++ [x]) := by
        unfold tupI
        rw [List.map_append]
        rfl
      rw [et] at e
      exact ⟨[.val (.int p), S1, S2, S3, .own A, .val (tupI v), .val (.int x)], .dat (tupI (v ++ [x])), _, _, rfl, e, rfl, rfl⟩
    have e1 := al_x eC (eq_true (by rw [List.length_map, List.length_map, len_nI]; exact Nat.le_of_lt (sl_lt (by omega))))
    obtain ⟨S5', e2⟩ := al_in hp hp2 (S1 := S1) (S2 := S2) (S3 := S3) hq L (A ++ ((nI p).map fun k => v ++ [k]).map tupI) (.val (tupI v)) (fun x hx => h x (List.mem_cons_of_mem _ hx)) (by rw [List.length_append, List.length_map, List.length_map, len_nI]; omega)
    refine ⟨S5', (forL_cons rfl e1).trans (e2.trans ?_)⟩
    rw [List.flatMap_cons, List.map_append, List.append_assoc]
def alB : MS := (sSeq (sSet 4 (mLst mNil))
    (sSeq (sFor (mIt (mCall dList (mCons (mName 2) mNil))) (setN 5) (sExt 4 (mComp [6] (mRg1 (mCons (mName 0) mNil)) (setN 6) mYes (mBin dAdd (mName 5) (mTup (mCons (mName 6) mNil))))))
    (sSet 2 (mName 4))))
theorem al_i {S0 S1 S3 S4 S5 S2 : Sl} {L : List Da} (h : S2 = .own L ∨ S2 = .val (.list L)) : mIt (mCall dList (mCons (mName 2) mNil)) [S0, S1, S2, S3, S4, S5, .un] = some (L, [S0, S1, S2, S3, S4, S5, .un]) := by
  rcases h with rfl | rfl
  · simp only [e_bodyM, e_seq, e_nil, e_if, e_set, e_ret, e_drop, e_par, e_asg, e_for, e_app, e_setix, e_aug, e_name, e_c, e_anil, e_acons, e_bin, e_cmp, e_brk, e_cnt, e_retn, e_ix, e_call, e_fn, e_fn0, e_fnD, e_ifx, e_oft, e_tru, e_not, e_and, e_or, e_andv, e_orv, e_notv, e_neg, e_isi, e_chain, e_lst, e_tup, e_it, e_rg1, e_rg2, e_zip, e_enum, e_revi, e_rev, e_o0, e_o1, e_sl, e_dict0, e_yes, e_comp, e_pop, e_asB, e_toDd, e_toDf, e_toDs, e_lkd, e_lkf, e_lks, e_lan, e_lac, e_tdn, e_tdc, e_tsn, e_tsd, e_tsf, e_tss, e_snd, e_snf, e_snn, e_snc, e_sod, e_sof, e_st, e_fln, e_keep, e_itl, e_itt, e_rr1, e_rr2, e_tupRg, e_lstRg, e_revR, e_popAt, e_ext, e_tupRev, e_repL, e_lenSet, e_enumA, e_zipA, e_zip3, d_addT, flat1,
  d_add, d_sub, d_lt, d_le, d_gt, d_ge, d_eq, d_ne, d_ixl, d_ixt, d_lenl, d_lent, d_inti, d_intb, d_abs, d_max2, d_min2, d_tupl, d_tupt, d_lsl, d_lst, d_rb, t_b, t_i, t_l, t_t, is_nb, is_bb, k_ii, k_ib, k_bi, k_bb, k_ni, k_si, k_ti, k_li, k_di, k_tt, isNone, isBl,
  Option.bind_some, Option.bind_none, Option.map_some, Option.map_none, List.append_nil, List.cons_append, List.nil_append, List.replicate, List.getElem?_cons_zero, List.getElem?_cons_succ, List.getElem?_nil, List.set_cons_zero, List.set_cons_succ, List.length_cons, List.length_nil, List.mapIdx_cons, List.mapIdx_nil, List.contains_nil, List.contains_cons, Bool.false_eq_true, if_true, if_false, reduceIte, Bool.not_true, Bool.not_false, Option.getD_some, Function.comp, List.map_cons, List.map_nil,
  Nat.reduceLT, Nat.reduceAdd, Nat.reduceBEq, Nat.reduceEqDiff, Nat.reduceLeDiff, Int.reduceLT, Int.reduceLE, decide_true, decide_false, beq_self_eq_true, Bool.or_false, Bool.or_true, Bool.true_or, Bool.false_or, Bool.and_true, Bool.true_and, Bool.and_false, Bool.false_and, and_self, Nat.zero_add, ]
  · simp only [e_bodyM, e_seq, e_nil, e_if, e_set, e_ret, e_drop, e_par, e_asg, e_for, e_app, e_setix, e_aug, e_name, e_c, e_anil, e_acons, e_bin, e_cmp, e_brk, e_cnt, e_retn, e_ix, e_call, e_fn, e_fn0, e_fnD, e_ifx, e_oft, e_tru, e_not, e_and, e_or, e_andv, e_orv, e_notv, e_neg, e_isi, e_chain, e_lst, e_tup, e_it, e_rg1, e_rg2, e_zip, e_enum, e_revi, e_rev, e_o0, e_o1, e_sl, e_dict0, e_yes, e_comp, e_pop, e_asB, e_toDd, e_toDf, e_toDs, e_lkd, e_lkf, e_lks, e_lan, e_lac, e_tdn, e_tdc, e_tsn, e_tsd, e_tsf, e_tss, e_snd, e_snf, e_snn, e_snc, e_sod, e_sof, e_st, e_fln, e_keep, e_itl, e_itt, e_rr1, e_rr2, e_tupRg, e_lstRg, e_revR, e_popAt, e_ext, e_tupRev, e_repL, e_lenSet, e_enumA, e_zipA, e_zip3, d_addT, flat1,
  d_add, d_sub, d_lt, d_le, d_gt, d_ge, d_eq, d_ne, d_ixl, d_ixt, d_lenl, d_lent, d_inti, d_intb, d_abs, d_max2, d_min2, d_tupl, d_tupt, d_lsl, d_lst, d_rb, t_b, t_i, t_l, t_t, is_nb, is_bb, k_ii, k_ib, k_bi, k_bb, k_ni, k_si, k_ti, k_li, k_di, k_tt, isNone, isBl,
  Option.bind_some, Option.bind_none, Option.map_some, Option.map_none, List.append_nil, List.cons_append, List.nil_append, List.replicate, List.getElem?_cons_zero, List.getElem?_cons_succ, List.getElem?_nil, List.set_cons_zero, List.set_cons_succ, List.length_cons, List.length_nil, List.mapIdx_cons, List.mapIdx_nil, List.contains_nil, List.contains_cons, Bool.false_eq_true, if_true, if_false, reduceIte, Bool.not_true, Bool.not_false, Option.getD_some, Function.comp, List.map_cons, List.map_nil,
  Nat.reduceLT, Nat.reduceAdd, Nat.reduceBEq, Nat.reduceEqDiff, Nat.reduceLeDiff, Int.reduceLT, Int.reduceLE, decide_true, decide_false, beq_self_eq_true, Bool.or_false, Bool.or_true, Bool.true_or, Bool.false_or, Bool.and_true, Bool.true_and, Bool.and_false, Bool.false_and, and_self, Nat.zero_add, ]
theorem al_4 {S0 S1 S2 S3 S4 S5 : Sl} : sSet 4 (mLst mNil) [S0, S1, S2, S3, S4, S5, .un] = some (.nx, [S0, S1, S2, S3, .own [], S5, .un]) := by
  simp only [e_bodyM, e_seq, e_nil, e_if, e_set, e_ret, e_drop, e_par, e_asg, e_for, e_app, e_setix, e_aug, e_name, e_c, e_anil, e_acons, e_bin, e_cmp, e_brk, e_cnt, e_retn, e_ix, e_call, e_fn, e_fn0, e_fnD, e_ifx, e_oft, e_tru, e_not, e_and, e_or, e_andv, e_orv, e_notv, e_neg, e_isi, e_chain, e_lst, e_tup, e_it, e_rg1, e_rg2, e_zip, e_enum, e_revi, e_rev, e_o0, e_o1, e_sl, e_dict0, e_yes, e_comp, e_pop, e_asB, e_toDd, e_toDf, e_toDs, e_lkd, e_lkf, e_lks, e_lan, e_lac, e_tdn, e_tdc, e_tsn, e_tsd, e_tsf, e_tss, e_snd, e_snf, e_snn, e_snc, e_sod, e_sof, e_st, e_fln, e_keep, e_itl, e_itt, e_rr1, e_rr2, e_tupRg, e_lstRg, e_revR, e_popAt, e_ext, e_tupRev, e_repL, e_lenSet, e_enumA, e_zipA, e_zip3, d_addT, flat1,
  d_add, d_sub, d_lt, d_le, d_gt, d_ge, d_eq, d_ne, d_ixl, d_ixt, d_lenl, d_lent, d_inti, d_intb, d_abs, d_max2, d_min2, d_tupl, d_tupt, d_lsl, d_lst, d_rb, t_b, t_i, t_l, t_t, is_nb, is_bb, k_ii, k_ib, k_bi, k_bb, k_ni, k_si, k_ti, k_li, k_di, k_tt, isNone, isBl,
  Option.bind_some, Option.bind_none, Option.map_some, Option.map_none, List.append_nil, List.cons_append, List.nil_append, List.replicate, List.getElem?_cons_zero, List.getElem?_cons_succ, List.getElem?_nil, List.set_cons_zero, List.set_cons_succ, List.length_cons, List.length_nil, List.mapIdx_cons, List.mapIdx_nil, List.contains_nil, List.contains_cons, Bool.false_eq_true, if_true, if_false, reduceIte, Bool.not_true, Bool.not_false, Option.getD_some, Function.comp, List.map_cons, List.map_nil,
  Nat.reduceLT, Nat.reduceAdd, Nat.reduceBEq, Nat.reduceEqDiff, Nat.reduceLeDiff, Int.reduceLT, Int.reduceLE, decide_true, decide_false, beq_self_eq_true, Bool.or_false, Bool.or_true, Bool.true_or, Bool.false_or, Bool.and_true, Bool.true_and, Bool.and_false, Bool.false_and, and_self, Nat.zero_add, z0]
theorem al_2 {S0 S1 S2 S3 S5 : Sl} {L : List Da} : sSet 2 (mName 4) [S0, S1, S2, S3, .own L, S5, .un] = some (.nx, [S0, S1, .val (.list L), S3, .val (.list L), S5, .un]) := by
  simp only [e_bodyM, e_seq, e_nil, e_if, e_set, e_ret, e_drop, e_par, e_asg, e_for, e_app, e_setix, e_aug, e_name, e_c, e_anil, e_acons, e_bin, e_cmp, e_brk, e_cnt, e_retn, e_ix, e_call, e_fn, e_fn0, e_fnD, e_ifx, e_oft, e_tru, e_not, e_and, e_or, e_andv, e_orv, e_notv, e_neg, e_isi, e_chain, e_lst, e_tup, e_it, e_rg1, e_rg2, e_zip, e_enum, e_revi, e_rev, e_o0, e_o1, e_sl, e_dict0, e_yes, e_comp, e_pop, e_asB, e_toDd, e_toDf, e_toDs, e_lkd, e_lkf, e_lks, e_lan, e_lac, e_tdn, e_tdc, e_tsn, e_tsd, e_tsf, e_tss, e_snd, e_snf, e_snn, e_snc, e_sod, e_sof, e_st, e_fln, e_keep, e_itl, e_itt, e_rr1, e_rr2, e_tupRg, e_lstRg, e_revR, e_popAt, e_ext, e_tupRev, e_repL, e_lenSet, e_enumA, e_zipA, e_zip3, d_addT, flat1,
  d_add, d_sub, d_lt, d_le, d_gt, d_ge, d_eq, d_ne, d_ixl, d_ixt, d_lenl, d_lent, d_inti, d_intb, d_abs, d_max2, d_min2, d_tupl, d_tupt, d_lsl, d_lst, d_rb, t_b, t_i, t_l, t_t, is_nb, is_bb, k_ii, k_ib, k_bi, k_bb, k_ni, k_si, k_ti, k_li, k_di, k_tt, isNone, isBl,
  Option.bind_some, Option.bind_none, Option.map_some, Option.map_none, List.append_nil, List.cons_append, List.nil_append, List.replicate, List.getElem?_cons_zero, List.getElem?_cons_succ, List.getElem?_nil, List.set_cons_zero, List.set_cons_succ, List.length_cons, List.length_nil, List.mapIdx_cons, List.mapIdx_nil, List.contains_nil, List.contains_cons, Bool.false_eq_true, if_true, if_false, reduceIte, Bool.not_true, Bool.not_false, Option.getD_some, Function.comp, List.map_cons, List.map_nil,
  Nat.reduceLT, Nat.reduceAdd, Nat.reduceBEq, Nat.reduceEqDiff, Nat.reduceLeDiff, Int.reduceLT, Int.reduceLE, decide_true, decide_false, beq_self_eq_true, Bool.or_false, Bool.or_true, Bool.true_or, Bool.false_or, Bool.and_true, Bool.true_and, Bool.and_false, Bool.false_and, and_self, Nat.zero_add, e_sns]
theorem al_step (hp : 5 ≤ p) (hp2 : p ≤ 997) {q : Nat} (hq : q ≤ 60) (hs : p.toNat ^ (q + 1) ≤ 200000) {S1 S2 S3 S4 S5 : Sl} (h2 : S2 = .own ((vecs p q).map tupI) ∨ S2 = .val (.list ((vecs p q).map tupI))) : ∃ S4' S5', alB [.val (.int p), S1, S2, S3, S4, S5, .un] = some (.nx, [.val (.int p), S1, .val (.list ((vecs p (q + 1)).map tupI)), S3, S4', S5', .un]) := by
  obtain ⟨S5', e⟩ := al_in hp hp2 (S1 := S1) (S2 := S2) (S3 := S3) (q := q) (by omega) (vecs p q) [] S5 (fun v hv => (mem_vecs.mp hv).1) (by rw [List.length_nil, Nat.zero_add, len_vecs, ← Nat.pow_succ]; exact hs)
  rw [List.nil_append] at e
  have e5 : (sFor (mIt (mCall dList (mCons (mName 2) mNil))) (setN 5) (sExt 4 (mComp [6] (mRg1 (mCons (mName 0) mNil)) (setN 6) mYes (mBin dAdd (mName 5) (mTup (mCons (mName 6) mNil)))))) [.val (.int p), S1, S2, S3, .own [], S5, .un] = some (.nx, [.val (.int p), S1, S2, S3, .own ((vecs p (q + 1)).map tupI), S5', .un]) := by
    rw [e_for, al_i h2, Option.bind_some]
    exact e
  exact ⟨_, S5', (seq_nx al_4).trans ((seq_nx e5).trans al_2)⟩
theorem al_go (hp : 5 ≤ p) (hp2 : p ≤ 997) {S1 : Sl} : ∀ (ds : List Da) (q : Nat) (S2 S3 S4 S5 : Sl), (S2 = .own ((vecs p q).map tupI) ∨ S2 = .val (.list ((vecs p q).map tupI))) → q + ds.length ≤ 60 → p.toNat ^ (q + ds.length) ≤ 200000 → ∃ S2' S3' S4' S5', (S2' = .own ((vecs p (q + ds.length)).map tupI) ∨ S2' = .val (.list ((vecs p (q + ds.length)).map tupI))) ∧ forL (setN 3) alB ds [.val (.int p), S1, S2, S3, S4, S5, .un] = some (.nx, [.val (.int p), S1, S2', S3', S4', S5', .un])
  | [], q, S2, S3, S4, S5, h, _, _ => ⟨S2, S3, S4, S5, h, rfl⟩
  | d :: ds, q, S2, S3, S4, S5, h, hq, hs => by
    rw [List.length_cons] at hq hs
    have p1 : 1 ≤ p.toNat := by omega
    obtain ⟨T4, T5, e1⟩ := al_step hp hp2 (q := q) (by omega) (Nat.le_trans (Nat.pow_le_pow_right p1 (by omega)) hs) (S1 := S1) (S3 := .val d) (S4 := S4) (S5 := S5) h
    obtain ⟨S2', S3', S4', S5', h2, e2⟩ := al_go hp hp2 (S1 := S1) ds (q + 1) _ (.val d) T4 T5 (.inr rfl) (by omega) (by rw [show q + 1 + ds.length = q + (ds.length + 1) by omega]; exact hs)
    rw [show q + 1 + ds.length = q + (ds.length + 1) by omega] at h2
    exact ⟨S2', S3', S4', S5', h2, (forL_cons rfl e1).trans e2⟩
theorem al_a {n : Int} : sSet 2 (mLst (mCons (mTup mNil) mNil)) [.val (.int p), .val (.int n), .un, .un, .un, .un, .un] = some (.nx, [.val (.int p), .val (.int n), .own [.tuple []], .un, .un, .un, .un]) := by
  simp only [e_bodyM, e_seq, e_nil, e_if, e_set, e_ret, e_drop, e_par, e_asg, e_for, e_app, e_setix, e_aug, e_name, e_c, e_anil, e_acons, e_bin, e_cmp, e_brk, e_cnt, e_retn, e_ix, e_call, e_fn, e_fn0, e_fnD, e_ifx, e_oft, e_tru, e_not, e_and, e_or, e_andv, e_orv, e_notv, e_neg, e_isi, e_chain, e_lst, e_tup, e_it, e_rg1, e_rg2, e_zip, e_enum, e_revi, e_rev, e_o0, e_o1, e_sl, e_dict0, e_yes, e_comp, e_pop, e_asB, e_toDd, e_toDf, e_toDs, e_lkd, e_lkf, e_lks, e_lan, e_lac, e_tdn, e_tdc, e_tsn, e_tsd, e_tsf, e_tss, e_snd, e_snf, e_snn, e_snc, e_sod, e_sof, e_st, e_fln, e_keep, e_itl, e_itt, e_rr1, e_rr2, e_tupRg, e_lstRg, e_revR, e_popAt, e_ext, e_tupRev, e_repL, e_lenSet, e_enumA, e_zipA, e_zip3, d_addT, flat1,
  d_add, d_sub, d_lt, d_le, d_gt, d_ge, d_eq, d_ne, d_ixl, d_ixt, d_lenl, d_lent, d_inti, d_intb, d_abs, d_max2, d_min2, d_tupl, d_tupt, d_lsl, d_lst, d_rb, t_b, t_i, t_l, t_t, is_nb, is_bb, k_ii, k_ib, k_bi, k_bb, k_ni, k_si, k_ti, k_li, k_di, k_tt, isNone, isBl,
  Option.bind_some, Option.bind_none, Option.map_some, Option.map_none, List.append_nil, List.cons_append, List.nil_append, List.replicate, List.getElem?_cons_zero, List.getElem?_cons_succ, List.getElem?_nil, List.set_cons_zero, List.set_cons_succ, List.length_cons, List.length_nil, List.mapIdx_cons, List.mapIdx_nil, List.contains_nil, List.contains_cons, Bool.false_eq_true, if_true, if_false, reduceIte, Bool.not_true, Bool.not_false, Option.getD_some, Function.comp, List.map_cons, List.map_nil,
  Nat.reduceLT, Nat.reduceAdd, Nat.reduceBEq, Nat.reduceEqDiff, Nat.reduceLeDiff, Int.reduceLT, Int.reduceLE, decide_true, decide_false, beq_self_eq_true, Bool.or_false, Bool.or_true, Bool.true_or, Bool.false_or, Bool.and_true, Bool.true_and, Bool.and_false, Bool.false_and, and_self, Nat.zero_add, z0, z1]
theorem al_rg {n : Int} {S2 : Sl} (ok : okRg n = true) : mRg1 (mCons (mName 1) mNil) [.val (.int p), .val (.int n), S2, .un, .un, .un, .un] = some (rgD 0 n, [.val (.int p), .val (.int n), S2, .un, .un, .un, .un]) := by
  simp only [e_bodyM, e_seq, e_nil, e_if, e_set, e_ret, e_drop, e_par, e_asg, e_for, e_app, e_setix, e_aug, e_name, e_c, e_anil, e_acons, e_bin, e_cmp, e_brk, e_cnt, e_retn, e_ix, e_call, e_fn, e_fn0, e_fnD, e_ifx, e_oft, e_tru, e_not, e_and, e_or, e_andv, e_orv, e_notv, e_neg, e_isi, e_chain, e_lst, e_tup, e_it, e_rg1, e_rg2, e_zip, e_enum, e_revi, e_rev, e_o0, e_o1, e_sl, e_dict0, e_yes, e_comp, e_pop, e_asB, e_toDd, e_toDf, e_toDs, e_lkd, e_lkf, e_lks, e_lan, e_lac, e_tdn, e_tdc, e_tsn, e_tsd, e_tsf, e_tss, e_snd, e_snf, e_snn, e_snc, e_sod, e_sof, e_st, e_fln, e_keep, e_itl, e_itt, e_rr1, e_rr2, e_tupRg, e_lstRg, e_revR, e_popAt, e_ext, e_tupRev, e_repL, e_lenSet, e_enumA, e_zipA, e_zip3, d_addT, flat1,
  d_add, d_sub, d_lt, d_le, d_gt, d_ge, d_eq, d_ne, d_ixl, d_ixt, d_lenl, d_lent, d_inti, d_intb, d_abs, d_max2, d_min2, d_tupl, d_tupt, d_lsl, d_lst, d_rb, t_b, t_i, t_l, t_t, is_nb, is_bb, k_ii, k_ib, k_bi, k_bb, k_ni, k_si, k_ti, k_li, k_di, k_tt, isNone, isBl,
  Option.bind_some, Option.bind_none, Option.map_some, Option.map_none, List.append_nil, List.cons_append, List.nil_append, List.replicate, List.getElem?_cons_zero, List.getElem?_cons_succ, List.getElem?_nil, List.set_cons_zero, List.set_cons_succ, List.length_cons, List.length_nil, List.mapIdx_cons, List.mapIdx_nil, List.contains_nil, List.contains_cons, Bool.false_eq_true, if_true, if_false, reduceIte, Bool.not_true, Bool.not_false, Option.getD_some, Function.comp, List.map_cons, List.map_nil,
  Nat.reduceLT, Nat.reduceAdd, Nat.reduceBEq, Nat.reduceEqDiff, Nat.reduceLeDiff, Int.reduceLT, Int.reduceLE, decide_true, decide_false, beq_self_eq_true, Bool.or_false, Bool.or_true, Bool.true_or, Bool.false_or, Bool.and_true, Bool.true_and, Bool.and_false, Bool.false_and, and_self, Nat.zero_add, ok]
theorem al_z1 {S0 S1 S3 S4 S5 : Sl} {L : List Da} : (sRet [] (mName 2)) [S0, S1, .own L, S3, S4, S5, .un] = some (.rt (.fresh L), [S0, S1, .un, S3, S4, S5, .un]) := by
  simp only [e_bodyM, e_seq, e_nil, e_if, e_set, e_ret, e_drop, e_par, e_asg, e_for, e_app, e_setix, e_aug, e_name, e_c, e_anil, e_acons, e_bin, e_cmp, e_brk, e_cnt, e_retn, e_ix, e_call, e_fn, e_fn0, e_fnD, e_ifx, e_oft, e_tru, e_not, e_and, e_or, e_andv, e_orv, e_notv, e_neg, e_isi, e_chain, e_lst, e_tup, e_it, e_rg1, e_rg2, e_zip, e_enum, e_revi, e_rev, e_o0, e_o1, e_sl, e_dict0, e_yes, e_comp, e_pop, e_asB, e_toDd, e_toDf, e_toDs, e_lkd, e_lkf, e_lks, e_lan, e_lac, e_tdn, e_tdc, e_tsn, e_tsd, e_tsf, e_tss, e_snd, e_snf, e_snn, e_snc, e_sod, e_sof, e_st, e_fln, e_keep, e_itl, e_itt, e_rr1, e_rr2, e_tupRg, e_lstRg, e_revR, e_popAt, e_ext, e_tupRev, e_repL, e_lenSet, e_enumA, e_zipA, e_zip3, d_addT, flat1,
  d_add, d_sub, d_lt, d_le, d_gt, d_ge, d_eq, d_ne, d_ixl, d_ixt, d_lenl, d_lent, d_inti, d_intb, d_abs, d_max2, d_min2, d_tupl, d_tupt, d_lsl, d_lst, d_rb, t_b, t_i, t_l, t_t, is_nb, is_bb, k_ii, k_ib, k_bi, k_bb, k_ni, k_si, k_ti, k_li, k_di, k_tt, isNone, isBl,
  Option.bind_some, Option.bind_none, Option.map_some, Option.map_none, List.append_nil, List.cons_append, List.nil_append, List.replicate, List.getElem?_cons_zero, List.getElem?_cons_succ, List.getElem?_nil, List.set_cons_zero, List.set_cons_succ, List.length_cons, List.length_nil, List.mapIdx_cons, List.mapIdx_nil, List.contains_nil, List.contains_cons, Bool.false_eq_true, if_true, if_false, reduceIte, Bool.not_true, Bool.not_false, Option.getD_some, Function.comp, List.map_cons, List.map_nil,
  Nat.reduceLT, Nat.reduceAdd, Nat.reduceBEq, Nat.reduceEqDiff, Nat.reduceLeDiff, Int.reduceLT, Int.reduceLE, decide_true, decide_false, beq_self_eq_true, Bool.or_false, Bool.or_true, Bool.true_or, Bool.false_or, Bool.and_true, Bool.true_and, Bool.and_false, Bool.false_and, and_self, Nat.zero_add, ]
theorem al_z2 {S0 S1 S3 S4 S5 : Sl} {d : Da} : (sRet [] (mName 2)) [S0, S1, .val d, S3, S4, S5, .un] = some (.rt (.dat d), [S0, S1, .val d, S3, S4, S5, .un]) := by
  simp only [e_bodyM, e_seq, e_nil, e_if, e_set, e_ret, e_drop, e_par, e_asg, e_for, e_app, e_setix, e_aug, e_name, e_c, e_anil, e_acons, e_bin, e_cmp, e_brk, e_cnt, e_retn, e_ix, e_call, e_fn, e_fn0, e_fnD, e_ifx, e_oft, e_tru, e_not, e_and, e_or, e_andv, e_orv, e_notv, e_neg, e_isi, e_chain, e_lst, e_tup, e_it, e_rg1, e_rg2, e_zip, e_enum, e_revi, e_rev, e_o0, e_o1, e_sl, e_dict0, e_yes, e_comp, e_pop, e_asB, e_toDd, e_toDf, e_toDs, e_lkd, e_lkf, e_lks, e_lan, e_lac, e_tdn, e_tdc, e_tsn, e_tsd, e_tsf, e_tss, e_snd, e_snf, e_snn, e_snc, e_sod, e_sof, e_st, e_fln, e_keep, e_itl, e_itt, e_rr1, e_rr2, e_tupRg, e_lstRg, e_revR, e_popAt, e_ext, e_tupRev, e_repL, e_lenSet, e_enumA, e_zipA, e_zip3, d_addT, flat1,
  d_add, d_sub, d_lt, d_le, d_gt, d_ge, d_eq, d_ne, d_ixl, d_ixt, d_lenl, d_lent, d_inti, d_intb, d_abs, d_max2, d_min2, d_tupl, d_tupt, d_lsl, d_lst, d_rb, t_b, t_i, t_l, t_t, is_nb, is_bb, k_ii, k_ib, k_bi, k_bb, k_ni, k_si, k_ti, k_li, k_di, k_tt, isNone, isBl,
  Option.bind_some, Option.bind_none, Option.map_some, Option.map_none, List.append_nil, List.cons_append, List.nil_append, List.replicate, List.getElem?_cons_zero, List.getElem?_cons_succ, List.getElem?_nil, List.set_cons_zero, List.set_cons_succ, List.length_cons, List.length_nil, List.mapIdx_cons, List.mapIdx_nil, List.contains_nil, List.contains_cons, Bool.false_eq_true, if_true, if_false, reduceIte, Bool.not_true, Bool.not_false, Option.getD_some, Function.comp, List.map_cons, List.map_nil,
  Nat.reduceLT, Nat.reduceAdd, Nat.reduceBEq, Nat.reduceEqDiff, Nat.reduceLeDiff, Int.reduceLT, Int.reduceLE, decide_true, decide_false, beq_self_eq_true, Bool.or_false, Bool.or_true, Bool.true_or, Bool.false_or, Bool.and_true, Bool.true_and, Bool.and_false, Bool.false_and, and_self, Nat.zero_add, ]
theorem t_law_all (hp : 5 ≤ p) (hp2 : p ≤ 997) {n : Nat} {m : Int} (hm : m = (n : Nat)) (hn : n ≤ 60) (hs : p.toNat ^ n ≤ 200000) : ∃ w, (w = .fresh ((vecs p n).map tupI) ∨ w = .dat (.list ((vecs p n).map tupI))) ∧ F__law_all [.val (.int p), .val (.int m)] = some (w, [.val (.int p), .val (.int m)]) := by
  have ll : (rgD 0 m).length = n := by rw [rgD_len]; omega
  obtain ⟨S2, S3, S4, S5, h2, e⟩ := al_go hp hp2 (S1 := .val (.int m)) (rgD 0 m) 0 (.own [.tuple []]) .un .un .un (.inl rfl) (by rw [ll]; omega) (by rw [ll, Nat.zero_add]; exact hs)
  rw [ll, Nat.zero_add] at h2
  have e3 : (sFor (mRg1 (mCons (mName 1) mNil)) (setN 3) alB) [.val (.int p), .val (.int m), .own [.tuple []], .un, .un, .un, .un] = some (.nx, [.val (.int p), .val (.int m), S2, S3, S4, S5, .un]) := by
    rw [e_for, al_rg (okRg' (by omega) (by omega)), Option.bind_some]
    exact e
  have cut : m__law_all = sSeq (sSet 2 (mLst (mCons (mTup mNil) mNil))) (sSeq (sFor (mRg1 (mCons (mName 1) mNil)) (setN 3) alB) (sRet [] (mName 2))) := rfl
  have fin : ∃ w S2', (w = .fresh ((vecs p n).map tupI) ∨ w = .dat (.list ((vecs p n).map tupI))) ∧ (sRet [] (mName 2)) [.val (.int p), .val (.int m), S2, S3, S4, S5, .un] = some (.rt w, [.val (.int p), .val (.int m), S2', S3, S4, S5, .un]) := by
    rcases h2 with rfl | rfl
    · exact ⟨.fresh ((vecs p n).map tupI), .un, .inl rfl, al_z1⟩
    · exact ⟨.dat (.list ((vecs p n).map tupI)), .val (.list ((vecs p n).map tupI)), .inr rfl, al_z2⟩
  obtain ⟨w, S2', hw, e4⟩ := fin
  refine ⟨w, hw, ?_⟩
  unfold F__law_all
  rw [cut]
  exact b25 ((seq_nx al_a).trans ((seq_nx e3).trans e4))
/-! ### the law's weighted sum -/
theorem fd_go (hp : 5 ≤ p) (hp2 : p ≤ 997) {S1 S2 : Sl} : ∀ (A B : List Int) (s : Int) (S4 S5 : Sl), InF p A → InF p B → ∃ S4' S5' r, Cg p r (s + dotZ A B) ∧ (A = [] → r = s) ∧ (A ≠ [] → B ≠ [] → 0 ≤ r ∧ r < p) ∧ forL (setT [4, 5]) (sSet 3 (mBin dMod (mBin dAdd (mName 3) (mBin dMul (mName 4) (mName 5))) (mName 0))) (zipD (A.map PyData.int) (B.map PyData.int)) [.val (.int p), S1, S2, .val (.int s), S4, S5] = some (.nx, [.val (.int p), S1, S2, .val (.int r), S4', S5'])
  | [], B, s, S4, S5, _, _ => ⟨S4, S5, s, by rw [show dotZ [] B = 0 by cases B <;> rfl, Int.add_zero]; exact cg_refl p s, fun _ => rfl, fun h => absurd rfl h, by cases B <;> rfl⟩
  | a :: A, [], s, S4, S5, _, _ => ⟨S4, S5, s, by rw [show dotZ (a :: A) [] = 0 from rfl, Int.add_zero]; exact cg_refl p s, (fun h => (by cases h)), fun _ h => absurd rfl h, rfl⟩
  | a :: A, b :: B, s, S4, S5, hA, hB => by
    have ha := hA a List.mem_cons_self
    have hb := hB b List.mem_cons_self
    have hp0 : 0 < p := by omega
    obtain ⟨S4', S5', r, h1, h2, h3, e⟩ := fd_go hp hp2 (S1 := S1) (S2 := S2) A B ((s + a * b) % p) (.val (.int a)) (.val (.int b)) (fun x hx => hA x (List.mem_cons_of_mem _ hx)) fun x hx => hB x (List.mem_cons_of_mem _ hx)
    have st : (sSet 3 (mBin dMod (mBin dAdd (mName 3) (mBin dMul (mName 4) (mName 5))) (mName 0))) [.val (.int p), S1, S2, .val (.int s), .val (.int a), .val (.int b)] = some (.nx, [.val (.int p), S1, S2, .val (.int ((s + a * b) % p)), .val (.int a), .val (.int b)]) := by
      simp only [e_bodyM, e_seq, e_nil, e_if, e_set, e_ret, e_drop, e_par, e_asg, e_for, e_app, e_setix, e_aug, e_name, e_c, e_anil, e_acons, e_bin, e_cmp, e_brk, e_cnt, e_retn, e_ix, e_call, e_fn, e_fn0, e_fnD, e_ifx, e_oft, e_tru, e_not, e_and, e_or, e_andv, e_orv, e_notv, e_neg, e_isi, e_chain, e_lst, e_tup, e_it, e_rg1, e_rg2, e_zip, e_enum, e_revi, e_rev, e_o0, e_o1, e_sl, e_dict0, e_yes, e_comp, e_pop, e_asB, e_toDd, e_toDf, e_toDs, e_lkd, e_lkf, e_lks, e_lan, e_lac, e_tdn, e_tdc, e_tsn, e_tsd, e_tsf, e_tss, e_snd, e_snf, e_snn, e_snc, e_sod, e_sof, e_st, e_fln, e_keep, e_itl, e_itt, e_rr1, e_rr2, e_tupRg, e_lstRg, e_revR, e_popAt, e_ext, e_tupRev, e_repL, e_lenSet, e_enumA, e_zipA, e_zip3, d_addT, flat1,
  d_add, d_sub, d_lt, d_le, d_gt, d_ge, d_eq, d_ne, d_ixl, d_ixt, d_lenl, d_lent, d_inti, d_intb, d_abs, d_max2, d_min2, d_tupl, d_tupt, d_lsl, d_lst, d_rb, t_b, t_i, t_l, t_t, is_nb, is_bb, k_ii, k_ib, k_bi, k_bb, k_ni, k_si, k_ti, k_li, k_di, k_tt, isNone, isBl,
  Option.bind_some, Option.bind_none, Option.map_some, Option.map_none, List.append_nil, List.cons_append, List.nil_append, List.replicate, List.getElem?_cons_zero, List.getElem?_cons_succ, List.getElem?_nil, List.set_cons_zero, List.set_cons_succ, List.length_cons, List.length_nil, List.mapIdx_cons, List.mapIdx_nil, List.contains_nil, List.contains_cons, Bool.false_eq_true, if_true, if_false, reduceIte, Bool.not_true, Bool.not_false, Option.getD_some, Function.comp, List.map_cons, List.map_nil,
  Nat.reduceLT, Nat.reduceAdd, Nat.reduceBEq, Nat.reduceEqDiff, Nat.reduceLeDiff, Int.reduceLT, Int.reduceLE, decide_true, decide_false, beq_self_eq_true, Bool.or_false, Bool.or_true, Bool.true_or, Bool.false_or, Bool.and_true, Bool.true_and, Bool.and_false, Bool.false_and, and_self, Nat.zero_add, d_mul _ _ (big ha.1 (by omega)) (big hb.1 (by omega)), d_mod _ _ hp0]
    refine ⟨S4', S5', r, ?_, (fun h => (by cases h)), fun _ _ => ?_, (forL_cons (g1 := [.val (.int p), S1, S2, .val (.int s), .val (.int a), .val (.int b)]) rfl st).trans e⟩
    · refine cg_tr h1 ?_
      have := cg_add (cg_mod p (s + a * b)) (cg_refl p (dotZ A B))
      rw [show s + a * b + dotZ A B = s + dotZ (a :: A) (b :: B) by show _ = s + (a * b + dotZ A B); omega] at this
      exact this
    · by_cases zA : A = []
      · rw [h2 zA]
        exact ⟨Int.emod_nonneg _ (by omega), Int.emod_lt_of_pos _ hp0⟩
      · by_cases zB : B = []
        · subst zB
          cases A with
          | nil => exact absurd rfl zA
          | cons x A =>
            have e' : forL (setT [4, 5]) (sSet 3 (mBin dMod (mBin dAdd (mName 3) (mBin dMul (mName 4) (mName 5))) (mName 0))) (zipD ((x :: A).map PyData.int) (([] : List Int).map PyData.int)) [.val (.int p), S1, S2, .val (.int ((s + a * b) % p)), .val (.int a), .val (.int b)] = some (.nx, [.val (.int p), S1, S2, .val (.int ((s + a * b) % p)), .val (.int a), .val (.int b)]) := rfl
            rw [e'] at e
            injection e with e
            injection e with _ e
            have er : r = (s + a * b) % p := by
              injection e with _ e
              injection e with _ e
              injection e with _ e
              injection e with e _
              injection e with e
              injection e with e
              exact e.symm
            rw [er]
            exact ⟨Int.emod_nonneg _ (by omega), Int.emod_lt_of_pos _ hp0⟩
        · exact h3 zA zB
theorem fdt_gen {LP : MS} {A B : List Da} {r : Int} {S4 S5 : Sl} (e : LP [.val (.int p), .val (.tuple A), .val (.tuple B), .val (.int 0), .un, .un] = some (.nx, [.val (.int p), .val (.tuple A), .val (.tuple B), .val (.int r), S4, S5])) : bodyM [] 3 (sSeq (sSet 3 (mC (.int 0))) (sSeq LP (sRet [] (mName 3)))) [.val (.int p), .val (.tuple A), .val (.tuple B)] = some (.dat (.int r), [.val (.int p), .val (.tuple A), .val (.tuple B)]) := by
  simp only [e_bodyM, e_seq, e_nil, e_if, e_set, e_ret, e_drop, e_par, e_asg, e_for, e_app, e_setix, e_aug, e_name, e_c, e_anil, e_acons, e_bin, e_cmp, e_brk, e_cnt, e_retn, e_ix, e_call, e_fn, e_fn0, e_fnD, e_ifx, e_oft, e_tru, e_not, e_and, e_or, e_andv, e_orv, e_notv, e_neg, e_isi, e_chain, e_lst, e_tup, e_it, e_rg1, e_rg2, e_zip, e_enum, e_revi, e_rev, e_o0, e_o1, e_sl, e_dict0, e_yes, e_comp, e_pop, e_asB, e_toDd, e_toDf, e_toDs, e_lkd, e_lkf, e_lks, e_lan, e_lac, e_tdn, e_tdc, e_tsn, e_tsd, e_tsf, e_tss, e_snd, e_snf, e_snn, e_snc, e_sod, e_sof, e_st, e_fln, e_keep, e_itl, e_itt, e_rr1, e_rr2, e_tupRg, e_lstRg, e_revR, e_popAt, e_ext, e_tupRev, e_repL, e_lenSet, e_enumA, e_zipA, e_zip3, d_addT, flat1,
  d_add, d_sub, d_lt, d_le, d_gt, d_ge, d_eq, d_ne, d_ixl, d_ixt, d_lenl, d_lent, d_inti, d_intb, d_abs, d_max2, d_min2, d_tupl, d_tupt, d_lsl, d_lst, d_rb, t_b, t_i, t_l, t_t, is_nb, is_bb, k_ii, k_ib, k_bi, k_bb, k_ni, k_si, k_ti, k_li, k_di, k_tt, isNone, isBl,
  Option.bind_some, Option.bind_none, Option.map_some, Option.map_none, List.append_nil, List.cons_append, List.nil_append, List.replicate, List.getElem?_cons_zero, List.getElem?_cons_succ, List.getElem?_nil, List.set_cons_zero, List.set_cons_succ, List.length_cons, List.length_nil, List.mapIdx_cons, List.mapIdx_nil, List.contains_nil, List.contains_cons, Bool.false_eq_true, if_true, if_false, reduceIte, Bool.not_true, Bool.not_false, Option.getD_some, Function.comp, List.map_cons, List.map_nil,
  Nat.reduceLT, Nat.reduceAdd, Nat.reduceBEq, Nat.reduceEqDiff, Nat.reduceLeDiff, Int.reduceLT, Int.reduceLE, decide_true, decide_false, beq_self_eq_true, Bool.or_false, Bool.or_true, Bool.true_or, Bool.false_or, Bool.and_true, Bool.true_and, Bool.and_false, Bool.false_and, and_self, Nat.zero_add, e]
theorem t_law_fd_dot (hp : 5 ≤ p) (hp2 : p ≤ 997) {A B : List Int} (hA : InF p A) (hB : InF p B) (hl : A.length = B.length) : F__law_fd_dot [.val (.int p), .val (tupI A), .val (tupI B)] = some (.dat (.int (dotZ A B % p)), [.val (.int p), .val (tupI A), .val (tupI B)]) := by
  obtain ⟨S4, S5, r, h1, h2, h3, e⟩ := fd_go hp hp2 (S1 := .val (tupI A)) (S2 := .val (tupI B)) A B 0 .un .un hA hB
  have er : r = dotZ A B % p := by
    cases A with
    | nil =>
      rw [h2 rfl]
      cases B with
      | nil => rfl
      | cons _ _ => cases hl
    | cons a A =>
      have b := h3 (by simp) (by intro z; rw [z] at hl; cases hl)
      rw [Int.zero_add] at h1
      have c := cg_emod h1
      rw [Int.emod_eq_of_lt b.1 b.2] at c
      exact c
  rw [← er]
  unfold F__law_fd_dot m__law_fd_dot
  refine fdt_gen (S4 := S4) (S5 := S5) ?_
  rw [e_for, zipA_of (xs := A.map PyData.int) (ys := B.map PyData.int) rfl rfl rfl rfl, Option.bind_some]
  exact e
/-! ### weights drawn -/
theorem wd_el {PK RL : MF} {ds d1 d2 : List Da} {S2 : Sl} {r y : Int} {t : Da} (e1 : RL [.own ds, .val (.int p)] = some (.dat (.int r), [.own d1, .val (.int p)])) (e2 : PK [.own d1, .val (.list [.int 0, .int 0, .int 1, .int (p - 1), .int r])] = some (.dat (.int y), [.own d2, .val (.list [.int 0, .int 0, .int 1, .int (p - 1), .int r])])) : (mFnD PK (mCons (mName 0) (mCons (mLst (mCons (mC (.int 0)) (mCons (mC (.int 0)) (mCons (mC (.int 1)) (mCons (mBin dSub (mName 1) (mC (.int 1))) (mCons (mFnD RL (mCons (mName 0) (mCons (mName 1) mNil))) mNil)))))) mNil))) [.own ds, .val (.int p), S2, .val t] = some (.dat (.int y), [.own d2, .val (.int p), S2, .val t]) := by
  simp only [e_bodyM, e_seq, e_nil, e_if, e_set, e_ret, e_drop, e_par, e_asg, e_for, e_app, e_setix, e_aug, e_name, e_c, e_anil, e_acons, e_bin, e_cmp, e_brk, e_cnt, e_retn, e_ix, e_call, e_fn, e_fn0, e_fnD, e_ifx, e_oft, e_tru, e_not, e_and, e_or, e_andv, e_orv, e_notv, e_neg, e_isi, e_chain, e_lst, e_tup, e_it, e_rg1, e_rg2, e_zip, e_enum, e_revi, e_rev, e_o0, e_o1, e_sl, e_dict0, e_yes, e_comp, e_pop, e_asB, e_toDd, e_toDf, e_toDs, e_lkd, e_lkf, e_lks, e_lan, e_lac, e_tdn, e_tdc, e_tsn, e_tsd, e_tsf, e_tss, e_snd, e_snf, e_snn, e_snc, e_sod, e_sof, e_st, e_fln, e_keep, e_itl, e_itt, e_rr1, e_rr2, e_tupRg, e_lstRg, e_revR, e_popAt, e_ext, e_tupRev, e_repL, e_lenSet, e_enumA, e_zipA, e_zip3, d_addT, flat1,
  d_add, d_sub, d_lt, d_le, d_gt, d_ge, d_eq, d_ne, d_ixl, d_ixt, d_lenl, d_lent, d_inti, d_intb, d_abs, d_max2, d_min2, d_tupl, d_tupt, d_lsl, d_lst, d_rb, t_b, t_i, t_l, t_t, is_nb, is_bb, k_ii, k_ib, k_bi, k_bb, k_ni, k_si, k_ti, k_li, k_di, k_tt, isNone, isBl,
  Option.bind_some, Option.bind_none, Option.map_some, Option.map_none, List.append_nil, List.cons_append, List.nil_append, List.replicate, List.getElem?_cons_zero, List.getElem?_cons_succ, List.getElem?_nil, List.set_cons_zero, List.set_cons_succ, List.length_cons, List.length_nil, List.mapIdx_cons, List.mapIdx_nil, List.contains_nil, List.contains_cons, Bool.false_eq_true, if_true, if_false, reduceIte, Bool.not_true, Bool.not_false, Option.getD_some, Function.comp, List.map_cons, List.map_nil,
  Nat.reduceLT, Nat.reduceAdd, Nat.reduceBEq, Nat.reduceEqDiff, Nat.reduceLeDiff, Int.reduceLT, Int.reduceLE, decide_true, decide_false, beq_self_eq_true, Bool.or_false, Bool.or_true, Bool.true_or, Bool.false_or, Bool.and_true, Bool.true_and, Bool.and_false, Bool.false_and, and_self, Nat.zero_add, e1, e2, z5]
theorem rolls_go2 {vs : List Nat} {tg : Wv → Gh → Option Gh} {el : ME} {p : Int} {S : List Da → Gh} (st : ∀ ds k d, DiceOk k ds → k ≤ 100000 → ∃ x ds', 0 ≤ x ∧ x < p ∧ DiceOk (k + 2) ds' ∧ ∃ g1 g2, tg (.dat d) (S ds) = some g1 ∧ el g1 = some (.dat (.int x), g2) ∧ wipeG g2 vs = S ds') : ∀ (L : List Da) (k : Nat) (ds : List Da), DiceOk k ds → k + 2 * L.length ≤ 100000 → ∃ xs ds', InF p xs ∧ xs.length = L.length ∧ DiceOk (k + 2 * L.length) ds' ∧ compL vs tg mYes el L (S ds) = some (xs.map PyData.int, S ds')
  | [], k, ds, h, _ => ⟨[], ds, fun x hx => (nomatch hx), rfl, h, rfl⟩
  | d :: L, k, ds, h, hk => by
    rw [List.length_cons] at hk
    obtain ⟨x, d1, x0, x1, h1, g1, g2, a1, a2, a3⟩ := st ds k d h (by omega)
    obtain ⟨xs, d2, i1, i2, i3, i4⟩ := rolls_go2 st L (k + 2) d1 h1 (by omega)
    refine ⟨x :: xs, d2, fun y hy => ?_, by rw [List.length_cons, i2, List.length_cons], by rw [List.length_cons, show k + 2 * (L.length + 1) = k + 2 + 2 * L.length by omega]; exact i3, ?_⟩
    · rcases List.mem_cons.mp hy with rfl | hy
      · exact ⟨x0, x1⟩
      · exact i1 y hy
    · unfold compL
      rw [a1, Option.bind_some]
      show ((el g1).bind _) = _
      rw [a2, Option.bind_some]
      show ((compL vs tg mYes el L (wipeG g2 vs)).bind _) = _
      rw [a3, i4]
      rfl
theorem wd_gen {C : ME} {ds d1 : List Da} {n : Int} {X : List Da} (e : C [.own ds, .val (.int p), .val (.int n), .un] = some (.fresh X, [.own d1, .val (.int p), .val (.int n), .un])) : bodyM [0] 1 (sRet [0] (mCall dTuple (mCons C mNil))) [.own ds, .val (.int p), .val (.int n)] = some (.dat (.tuple X), [.own d1, .val (.int p), .val (.int n)]) := by
  simp only [e_bodyM, e_seq, e_nil, e_if, e_set, e_ret, e_drop, e_par, e_asg, e_for, e_app, e_setix, e_aug, e_name, e_c, e_anil, e_acons, e_bin, e_cmp, e_brk, e_cnt, e_retn, e_ix, e_call, e_fn, e_fn0, e_fnD, e_ifx, e_oft, e_tru, e_not, e_and, e_or, e_andv, e_orv, e_notv, e_neg, e_isi, e_chain, e_lst, e_tup, e_it, e_rg1, e_rg2, e_zip, e_enum, e_revi, e_rev, e_o0, e_o1, e_sl, e_dict0, e_yes, e_comp, e_pop, e_asB, e_toDd, e_toDf, e_toDs, e_lkd, e_lkf, e_lks, e_lan, e_lac, e_tdn, e_tdc, e_tsn, e_tsd, e_tsf, e_tss, e_snd, e_snf, e_snn, e_snc, e_sod, e_sof, e_st, e_fln, e_keep, e_itl, e_itt, e_rr1, e_rr2, e_tupRg, e_lstRg, e_revR, e_popAt, e_ext, e_tupRev, e_repL, e_lenSet, e_enumA, e_zipA, e_zip3, d_addT, flat1,
  d_add, d_sub, d_lt, d_le, d_gt, d_ge, d_eq, d_ne, d_ixl, d_ixt, d_lenl, d_lent, d_inti, d_intb, d_abs, d_max2, d_min2, d_tupl, d_tupt, d_lsl, d_lst, d_rb, t_b, t_i, t_l, t_t, is_nb, is_bb, k_ii, k_ib, k_bi, k_bb, k_ni, k_si, k_ti, k_li, k_di, k_tt, isNone, isBl,
  Option.bind_some, Option.bind_none, Option.map_some, Option.map_none, List.append_nil, List.cons_append, List.nil_append, List.replicate, List.getElem?_cons_zero, List.getElem?_cons_succ, List.getElem?_nil, List.set_cons_zero, List.set_cons_succ, List.length_cons, List.length_nil, List.mapIdx_cons, List.mapIdx_nil, List.contains_nil, List.contains_cons, Bool.false_eq_true, if_true, if_false, reduceIte, Bool.not_true, Bool.not_false, Option.getD_some, Function.comp, List.map_cons, List.map_nil,
  Nat.reduceLT, Nat.reduceAdd, Nat.reduceBEq, Nat.reduceEqDiff, Nat.reduceLeDiff, Int.reduceLT, Int.reduceLE, decide_true, decide_false, beq_self_eq_true, Bool.or_false, Bool.or_true, Bool.true_or, Bool.false_or, Bool.and_true, Bool.true_and, Bool.and_false, Bool.false_and, and_self, Nat.zero_add, e]
theorem wd_rg {ds : List Da} {n : Int} (ok : okRg n = true) : mRg1 (mCons (mName 2) mNil) [.own ds, .val (.int p), .val (.int n), .un] = some (rgD 0 n, [.own ds, .val (.int p), .val (.int n), .un]) := by
  simp only [e_bodyM, e_seq, e_nil, e_if, e_set, e_ret, e_drop, e_par, e_asg, e_for, e_app, e_setix, e_aug, e_name, e_c, e_anil, e_acons, e_bin, e_cmp, e_brk, e_cnt, e_retn, e_ix, e_call, e_fn, e_fn0, e_fnD, e_ifx, e_oft, e_tru, e_not, e_and, e_or, e_andv, e_orv, e_notv, e_neg, e_isi, e_chain, e_lst, e_tup, e_it, e_rg1, e_rg2, e_zip, e_enum, e_revi, e_rev, e_o0, e_o1, e_sl, e_dict0, e_yes, e_comp, e_pop, e_asB, e_toDd, e_toDf, e_toDs, e_lkd, e_lkf, e_lks, e_lan, e_lac, e_tdn, e_tdc, e_tsn, e_tsd, e_tsf, e_tss, e_snd, e_snf, e_snn, e_snc, e_sod, e_sof, e_st, e_fln, e_keep, e_itl, e_itt, e_rr1, e_rr2, e_tupRg, e_lstRg, e_revR, e_popAt, e_ext, e_tupRev, e_repL, e_lenSet, e_enumA, e_zipA, e_zip3, d_addT, flat1,
  d_add, d_sub, d_lt, d_le, d_gt, d_ge, d_eq, d_ne, d_ixl, d_ixt, d_lenl, d_lent, d_inti, d_intb, d_abs, d_max2, d_min2, d_tupl, d_tupt, d_lsl, d_lst, d_rb, t_b, t_i, t_l, t_t, is_nb, is_bb, k_ii, k_ib, k_bi, k_bb, k_ni, k_si, k_ti, k_li, k_di, k_tt, isNone, isBl,
  Option.bind_some, Option.bind_none, Option.map_some, Option.map_none, List.append_nil, List.cons_append, List.nil_append, List.replicate, List.getElem?_cons_zero, List.getElem?_cons_succ, List.getElem?_nil, List.set_cons_zero, List.set_cons_succ, List.length_cons, List.length_nil, List.mapIdx_cons, List.mapIdx_nil, List.contains_nil, List.contains_cons, Bool.false_eq_true, if_true, if_false, reduceIte, Bool.not_true, Bool.not_false, Option.getD_some, Function.comp, List.map_cons, List.map_nil,
  Nat.reduceLT, Nat.reduceAdd, Nat.reduceBEq, Nat.reduceEqDiff, Nat.reduceLeDiff, Int.reduceLT, Int.reduceLE, decide_true, decide_false, beq_self_eq_true, Bool.or_false, Bool.or_true, Bool.true_or, Bool.false_or, Bool.and_true, Bool.true_and, Bool.and_false, Bool.false_and, and_self, Nat.zero_add, ok]
theorem t_weights_drawn {k : Nat} {ds : List Da} {n : Nat} {ni : Int} (hd : DiceOk k ds) (hk : k ≤ 50000) (hp : 5 ≤ p) (hp2 : p ≤ 997) (hni : ni = (n : Nat)) (hn : n ≤ 100) : ∃ W ds', InF p W ∧ W.length = n ∧ DiceOk (k + 2 * n) ds' ∧ F__law_weights_drawn [.own ds, .val (.int p), .val (.int ni)] = some (.dat (tupI W), [.own ds', .val (.int p), .val (.int ni)]) := by
  have ll : (rgD 0 ni).length = n := by rw [rgD_len]; omega
  obtain ⟨W, ds', i1, i2, i3, i4⟩ := rolls_go2 (vs := [3]) (tg := setN 3) (p := p) (el := (mFnD Lib.F__law_pick (mCons (mName 0) (mCons (mLst (mCons (mC (.int 0)) (mCons (mC (.int 0)) (mCons (mC (.int 1)) (mCons (mBin dSub (mName 1) (mC (.int 1))) (mCons (mFnD Lib.F__law_roll (mCons (mName 0) (mCons (mName 1) mNil))) mNil)))))) mNil)))) (S := fun ds => [.own ds, .val (.int p), .val (.int ni), .un]) (fun ds k x h hk => by
    obtain ⟨r, d1, r0, r1, h1, eR⟩ := t_roll (m := p) h (by omega) (by omega) (by omega)
    obtain ⟨y, d2, hy, h2, eP⟩ := t_pickI (xs := [0, 0, 1, p - 1, r]) h1 (by omega) (by simp) (by simp)
    have by' : 0 ≤ y ∧ y < p := by
      simp only [List.mem_cons, List.not_mem_nil, or_false] at hy
      rcases hy with rfl | rfl | rfl | rfl | rfl <;> omega
    exact ⟨y, d2, by'.1, by'.2, h2, [.own ds, .val (.int p), .val (.int ni), .val x], [.own d2, .val (.int p), .val (.int ni), .val x], rfl, wd_el eR eP, rfl⟩) (rgD 0 ni) k ds hd (by omega)
  rw [ll] at i2 i3
  refine ⟨W, ds', i1, i2, i3, ?_⟩
  unfold F__law_weights_drawn m__law_weights_drawn
  refine wd_gen ?_
  rw [e_comp, wd_rg (okRg' (by omega) (by omega)), Option.bind_some, if_pos (by rw [ll]; exact sl_lt (by omega))]
  show ((compL [3] (setN 3) mYes _ (rgD 0 ni) [.own ds, .val (.int p), .val (.int ni), .un]).bind _) = _
  rw [i4]
  rfl
end
end Lib
end
section
set_option exponentiation.threshold 3000
namespace Lib
open PySem PySem.Spec PyProof.Rows L2 EV
/-! ### one great case of the law -/
abbrev GS (ds : List Da) (p n : Int) (W V : Da) (g : Int) (S6 S7 S8 S9 : Sl) : Gh := [.own ds, .val (.int p), .val (.int n), .val W, .val V, .val (.int g), S6, S7, S8, S9, .un, .un]
section
variable {p n g : Int} {ds : List Da} {W V : Da}
theorem gr_1 {PK : MF} {PM : MF} {d1 d2 : List Da} {L : List Da} (e0 : PM [] = some (.fresh L, [])) (e1 : PK [.own ds, .val (.list L)] = some (.dat (.int p), [.own d1, .val (.list L)])) (e2 : PK [.own d1, .val (.list [.int 1, .int 3, .int 9, .int 30, .int 60])] = some (.dat (.int n), [.own d2, .val (.list [.int 1, .int 3, .int 9, .int 30, .int 60])])) : (sPar [1, 2] (mCons (mFnD PK (mCons (mName 0) (mCons (mFn0 PM) mNil))) (mCons (mFnD PK (mCons (mName 0) (mCons (mLst (mCons (mC (.int 1)) (mCons (mC (.int 3)) (mCons (mC (.int 9)) (mCons (mC (.int 30)) (mCons (mC (.int 60)) mNil)))))) mNil))) mNil))) [.own ds, .un, .un, .un, .un, .un, .un, .un, .un, .un, .un, .un] = some (.nx, [.own d2, .val (.int p), .val (.int n), .un, .un, .un, .un, .un, .un, .un, .un, .un]) := by
  simp only [e_bodyM, e_seq, e_nil, e_if, e_set, e_ret, e_drop, e_par, e_asg, e_for, e_app, e_setix, e_aug, e_name, e_c, e_anil, e_acons, e_bin, e_cmp, e_brk, e_cnt, e_retn, e_ix, e_call, e_fn, e_fn0, e_fnD, e_ifx, e_oft, e_tru, e_not, e_and, e_or, e_andv, e_orv, e_notv, e_neg, e_isi, e_chain, e_lst, e_tup, e_it, e_rg1, e_rg2, e_zip, e_enum, e_revi, e_rev, e_o0, e_o1, e_sl, e_dict0, e_yes, e_comp, e_pop, e_asB, e_toDd, e_toDf, e_toDs, e_lkd, e_lkf, e_lks, e_lan, e_lac, e_tdn, e_tdc, e_tsn, e_tsd, e_tsf, e_tss, e_snd, e_snf, e_snn, e_snc, e_sod, e_sof, e_st, e_fln, e_keep, e_itl, e_itt, e_rr1, e_rr2, e_tupRg, e_lstRg, e_revR, e_popAt, e_ext, e_tupRev, e_repL, e_lenSet, e_enumA, e_zipA, e_zip3, d_addT, flat1,
  d_add, d_sub, d_lt, d_le, d_gt, d_ge, d_eq, d_ne, d_ixl, d_ixt, d_lenl, d_lent, d_inti, d_intb, d_abs, d_max2, d_min2, d_tupl, d_tupt, d_lsl, d_lst, d_rb, t_b, t_i, t_l, t_t, is_nb, is_bb, k_ii, k_ib, k_bi, k_bb, k_ni, k_si, k_ti, k_li, k_di, k_tt, isNone, isBl,
  Option.bind_some, Option.bind_none, Option.map_some, Option.map_none, List.append_nil, List.cons_append, List.nil_append, List.replicate, List.getElem?_cons_zero, List.getElem?_cons_succ, List.getElem?_nil, List.set_cons_zero, List.set_cons_succ, List.length_cons, List.length_nil, List.mapIdx_cons, List.mapIdx_nil, List.contains_nil, List.contains_cons, Bool.false_eq_true, if_true, if_false, reduceIte, Bool.not_true, Bool.not_false, Option.getD_some, Function.comp, List.map_cons, List.map_nil,
  Nat.reduceLT, Nat.reduceAdd, Nat.reduceBEq, Nat.reduceEqDiff, Nat.reduceLeDiff, Int.reduceLT, Int.reduceLE, decide_true, decide_false, beq_self_eq_true, Bool.or_false, Bool.or_true, Bool.true_or, Bool.false_or, Bool.and_true, Bool.true_and, Bool.and_false, Bool.false_and, and_self, Nat.zero_add, e0, e1, e2, z5]
theorem gr_2 {WD : MF} {d1 : List Da} (e : WD [.own ds, .val (.int p), .val (.int n)] = some (.dat W, [.own d1, .val (.int p), .val (.int n)])) : (sSet 3 (mFnD WD (mCons (mName 0) (mCons (mName 1) (mCons (mName 2) mNil))))) [.own ds, .val (.int p), .val (.int n), .un, .un, .un, .un, .un, .un, .un, .un, .un] = some (.nx, [.own d1, .val (.int p), .val (.int n), .val W, .un, .un, .un, .un, .un, .un, .un, .un]) := by
  simp only [e_bodyM, e_seq, e_nil, e_if, e_set, e_ret, e_drop, e_par, e_asg, e_for, e_app, e_setix, e_aug, e_name, e_c, e_anil, e_acons, e_bin, e_cmp, e_brk, e_cnt, e_retn, e_ix, e_call, e_fn, e_fn0, e_fnD, e_ifx, e_oft, e_tru, e_not, e_and, e_or, e_andv, e_orv, e_notv, e_neg, e_isi, e_chain, e_lst, e_tup, e_it, e_rg1, e_rg2, e_zip, e_enum, e_revi, e_rev, e_o0, e_o1, e_sl, e_dict0, e_yes, e_comp, e_pop, e_asB, e_toDd, e_toDf, e_toDs, e_lkd, e_lkf, e_lks, e_lan, e_lac, e_tdn, e_tdc, e_tsn, e_tsd, e_tsf, e_tss, e_snd, e_snf, e_snn, e_snc, e_sod, e_sof, e_st, e_fln, e_keep, e_itl, e_itt, e_rr1, e_rr2, e_tupRg, e_lstRg, e_revR, e_popAt, e_ext, e_tupRev, e_repL, e_lenSet, e_enumA, e_zipA, e_zip3, d_addT, flat1,
  d_add, d_sub, d_lt, d_le, d_gt, d_ge, d_eq, d_ne, d_ixl, d_ixt, d_lenl, d_lent, d_inti, d_intb, d_abs, d_max2, d_min2, d_tupl, d_tupt, d_lsl, d_lst, d_rb, t_b, t_i, t_l, t_t, is_nb, is_bb, k_ii, k_ib, k_bi, k_bb, k_ni, k_si, k_ti, k_li, k_di, k_tt, isNone, isBl,
  Option.bind_some, Option.bind_none, Option.map_some, Option.map_none, List.append_nil, List.cons_append, List.nil_append, List.replicate, List.getElem?_cons_zero, List.getElem?_cons_succ, List.getElem?_nil, List.set_cons_zero, List.set_cons_succ, List.length_cons, List.length_nil, List.mapIdx_cons, List.mapIdx_nil, List.contains_nil, List.contains_cons, Bool.false_eq_true, if_true, if_false, reduceIte, Bool.not_true, Bool.not_false, Option.getD_some, Function.comp, List.map_cons, List.map_nil,
  Nat.reduceLT, Nat.reduceAdd, Nat.reduceBEq, Nat.reduceEqDiff, Nat.reduceLeDiff, Int.reduceLT, Int.reduceLE, decide_true, decide_false, beq_self_eq_true, Bool.or_false, Bool.or_true, Bool.true_or, Bool.false_or, Bool.and_true, Bool.true_and, Bool.and_false, Bool.false_and, and_self, Nat.zero_add, e]
theorem gr_3 {C : ME} {RL : MF} {d1 d2 X : List Da} (e1 : C [.own ds, .val (.int p), .val (.int n), .val W, .un, .un, .un, .un, .un, .un, .un, .un] = some (.fresh X, [.own d1, .val (.int p), .val (.int n), .val W, .un, .un, .un, .un, .un, .un, .un, .un])) (e2 : RL [.own d1, .val (.int p)] = some (.dat (.int g), [.own d2, .val (.int p)])) : (sPar [4, 5] (mCons (mCall dTuple (mCons C mNil)) (mCons (mFnD RL (mCons (mName 0) (mCons (mName 1) mNil))) mNil))) [.own ds, .val (.int p), .val (.int n), .val W, .un, .un, .un, .un, .un, .un, .un, .un] = some (.nx, GS d2 p n W (.tuple X) g .un .un .un .un) := by
  simp only [e_bodyM, e_seq, e_nil, e_if, e_set, e_ret, e_drop, e_par, e_asg, e_for, e_app, e_setix, e_aug, e_name, e_c, e_anil, e_acons, e_bin, e_cmp, e_brk, e_cnt, e_retn, e_ix, e_call, e_fn, e_fn0, e_fnD, e_ifx, e_oft, e_tru, e_not, e_and, e_or, e_andv, e_orv, e_notv, e_neg, e_isi, e_chain, e_lst, e_tup, e_it, e_rg1, e_rg2, e_zip, e_enum, e_revi, e_rev, e_o0, e_o1, e_sl, e_dict0, e_yes, e_comp, e_pop, e_asB, e_toDd, e_toDf, e_toDs, e_lkd, e_lkf, e_lks, e_lan, e_lac, e_tdn, e_tdc, e_tsn, e_tsd, e_tsf, e_tss, e_snd, e_snf, e_snn, e_snc, e_sod, e_sof, e_st, e_fln, e_keep, e_itl, e_itt, e_rr1, e_rr2, e_tupRg, e_lstRg, e_revR, e_popAt, e_ext, e_tupRev, e_repL, e_lenSet, e_enumA, e_zipA, e_zip3, d_addT, flat1,
  d_add, d_sub, d_lt, d_le, d_gt, d_ge, d_eq, d_ne, d_ixl, d_ixt, d_lenl, d_lent, d_inti, d_intb, d_abs, d_max2, d_min2, d_tupl, d_tupt, d_lsl, d_lst, d_rb, t_b, t_i, t_l, t_t, is_nb, is_bb, k_ii, k_ib, k_bi, k_bb, k_ni, k_si, k_ti, k_li, k_di, k_tt, isNone, isBl,
  Option.bind_some, Option.bind_none, Option.map_some, Option.map_none, List.append_nil, List.cons_append, List.nil_append, List.replicate, List.getElem?_cons_zero, List.getElem?_cons_succ, List.getElem?_nil, List.set_cons_zero, List.set_cons_succ, List.length_cons, List.length_nil, List.mapIdx_cons, List.mapIdx_nil, List.contains_nil, List.contains_cons, Bool.false_eq_true, if_true, if_false, reduceIte, Bool.not_true, Bool.not_false, Option.getD_some, Function.comp, List.map_cons, List.map_nil,
  Nat.reduceLT, Nat.reduceAdd, Nat.reduceBEq, Nat.reduceEqDiff, Nat.reduceLeDiff, Int.reduceLT, Int.reduceLE, decide_true, decide_false, beq_self_eq_true, Bool.or_false, Bool.or_true, Bool.true_or, Bool.false_or, Bool.and_true, Bool.true_and, Bool.and_false, Bool.false_and, and_self, Nat.zero_add, e1, e2]
theorem gr_3r (ok : okRg n = true) : mRg1 (mCons (mName 2) mNil) [.own ds, .val (.int p), .val (.int n), .val W, .un, .un, .un, .un, .un, .un, .un, .un] = some (rgD 0 n, [.own ds, .val (.int p), .val (.int n), .val W, .un, .un, .un, .un, .un, .un, .un, .un]) := by
  simp only [e_bodyM, e_seq, e_nil, e_if, e_set, e_ret, e_drop, e_par, e_asg, e_for, e_app, e_setix, e_aug, e_name, e_c, e_anil, e_acons, e_bin, e_cmp, e_brk, e_cnt, e_retn, e_ix, e_call, e_fn, e_fn0, e_fnD, e_ifx, e_oft, e_tru, e_not, e_and, e_or, e_andv, e_orv, e_notv, e_neg, e_isi, e_chain, e_lst, e_tup, e_it, e_rg1, e_rg2, e_zip, e_enum, e_revi, e_rev, e_o0, e_o1, e_sl, e_dict0, e_yes, e_comp, e_pop, e_asB, e_toDd, e_toDf, e_toDs, e_lkd, e_lkf, e_lks, e_lan, e_lac, e_tdn, e_tdc, e_tsn, e_tsd, e_tsf, e_tss, e_snd, e_snf, e_snn, e_snc, e_sod, e_sof, e_st, e_fln, e_keep, e_itl, e_itt, e_rr1, e_rr2, e_tupRg, e_lstRg, e_revR, e_popAt, e_ext, e_tupRev, e_repL, e_lenSet, e_enumA, e_zipA, e_zip3, d_addT, flat1,
  d_add, d_sub, d_lt, d_le, d_gt, d_ge, d_eq, d_ne, d_ixl, d_ixt, d_lenl, d_lent, d_inti, d_intb, d_abs, d_max2, d_min2, d_tupl, d_tupt, d_lsl, d_lst, d_rb, t_b, t_i, t_l, t_t, is_nb, is_bb, k_ii, k_ib, k_bi, k_bb, k_ni, k_si, k_ti, k_li, k_di, k_tt, isNone, isBl,
  Option.bind_some, Option.bind_none, Option.map_some, Option.map_none, List.append_nil, List.cons_append, List.nil_append, List.replicate, List.getElem?_cons_zero, List.getElem?_cons_succ, List.getElem?_nil, List.set_cons_zero, List.set_cons_succ, List.length_cons, List.length_nil, List.mapIdx_cons, List.mapIdx_nil, List.contains_nil, List.contains_cons, Bool.false_eq_true, if_true, if_false, reduceIte, Bool.not_true, Bool.not_false, Option.getD_some, Function.comp, List.map_cons, List.map_nil,
  Nat.reduceLT, Nat.reduceAdd, Nat.reduceBEq, Nat.reduceEqDiff, Nat.reduceLeDiff, Int.reduceLT, Int.reduceLE, decide_true, decide_false, beq_self_eq_true, Bool.or_false, Bool.or_true, Bool.true_or, Bool.false_or, Bool.and_true, Bool.true_and, Bool.and_false, Bool.false_and, and_self, Nat.zero_add, ok]
theorem gr_3e {RL : MF} {d1 : List Da} {t : Da} {r : Int} (e2 : RL [.own ds, .val (.int p)] = some (.dat (.int r), [.own d1, .val (.int p)])) : (mFnD RL (mCons (mName 0) (mCons (mName 1) mNil))) [.own ds, .val (.int p), .val (.int n), .val W, .un, .un, .un, .un, .un, .un, .val t, .un] = some (.dat (.int r), [.own d1, .val (.int p), .val (.int n), .val W, .un, .un, .un, .un, .un, .un, .val t, .un]) := by
  simp only [e_bodyM, e_seq, e_nil, e_if, e_set, e_ret, e_drop, e_par, e_asg, e_for, e_app, e_setix, e_aug, e_name, e_c, e_anil, e_acons, e_bin, e_cmp, e_brk, e_cnt, e_retn, e_ix, e_call, e_fn, e_fn0, e_fnD, e_ifx, e_oft, e_tru, e_not, e_and, e_or, e_andv, e_orv, e_notv, e_neg, e_isi, e_chain, e_lst, e_tup, e_it, e_rg1, e_rg2, e_zip, e_enum, e_revi, e_rev, e_o0, e_o1, e_sl, e_dict0, e_yes, e_comp, e_pop, e_asB, e_toDd, e_toDf, e_toDs, e_lkd, e_lkf, e_lks, e_lan, e_lac, e_tdn, e_tdc, e_tsn, e_tsd, e_tsf, e_tss, e_snd, e_snf, e_snn, e_snc, e_sod, e_sof, e_st, e_fln, e_keep, e_itl, e_itt, e_rr1, e_rr2, e_tupRg, e_lstRg, e_revR, e_popAt, e_ext, e_tupRev, e_repL, e_lenSet, e_enumA, e_zipA, e_zip3, d_addT, flat1,
  d_add, d_sub, d_lt, d_le, d_gt, d_ge, d_eq, d_ne, d_ixl, d_ixt, d_lenl, d_lent, d_inti, d_intb, d_abs, d_max2, d_min2, d_tupl, d_tupt, d_lsl, d_lst, d_rb, t_b, t_i, t_l, t_t, is_nb, is_bb, k_ii, k_ib, k_bi, k_bb, k_ni, k_si, k_ti, k_li, k_di, k_tt, isNone, isBl,
  Option.bind_some, Option.bind_none, Option.map_some, Option.map_none, List.append_nil, List.cons_append, List.nil_append, List.replicate, List.getElem?_cons_zero, List.getElem?_cons_succ, List.getElem?_nil, List.set_cons_zero, List.set_cons_succ, List.length_cons, List.length_nil, List.mapIdx_cons, List.mapIdx_nil, List.contains_nil, List.contains_cons, Bool.false_eq_true, if_true, if_false, reduceIte, Bool.not_true, Bool.not_false, Option.getD_some, Function.comp, List.map_cons, List.map_nil,
  Nat.reduceLT, Nat.reduceAdd, Nat.reduceBEq, Nat.reduceEqDiff, Nat.reduceLeDiff, Int.reduceLT, Int.reduceLE, decide_true, decide_false, beq_self_eq_true, Bool.or_false, Bool.or_true, Bool.true_or, Bool.false_or, Bool.and_true, Bool.true_and, Bool.and_false, Bool.false_and, and_self, Nat.zero_add, e2]
theorem gr_4 {A B : MF} {x : Int} {S6 S7 S8 S9 : Sl} {h1 h2 : Gh} (e1 : A [.val (.int p), .val W, .val V] = some (.dat (.int x), h1)) (e2 : B [.val (.int p), .val W, .val V] = some (.dat (.int x), h2)) : (sIf (mCmp dNe (mFn A (mCons (mName 1) (mCons (mName 3) (mCons (mName 4) mNil)))) (mFn B (mCons (mName 1) (mCons (mName 3) (mCons (mName 4) mNil))))) (sRet [0] (mC (.bool false))) sNil) (GS ds p n W V g S6 S7 S8 S9) = some (.nx, GS ds p n W V g S6 S7 S8 S9) := by
  simp only [e_bodyM, e_seq, e_nil, e_if, e_set, e_ret, e_drop, e_par, e_asg, e_for, e_app, e_setix, e_aug, e_name, e_c, e_anil, e_acons, e_bin, e_cmp, e_brk, e_cnt, e_retn, e_ix, e_call, e_fn, e_fn0, e_fnD, e_ifx, e_oft, e_tru, e_not, e_and, e_or, e_andv, e_orv, e_notv, e_neg, e_isi, e_chain, e_lst, e_tup, e_it, e_rg1, e_rg2, e_zip, e_enum, e_revi, e_rev, e_o0, e_o1, e_sl, e_dict0, e_yes, e_comp, e_pop, e_asB, e_toDd, e_toDf, e_toDs, e_lkd, e_lkf, e_lks, e_lan, e_lac, e_tdn, e_tdc, e_tsn, e_tsd, e_tsf, e_tss, e_snd, e_snf, e_snn, e_snc, e_sod, e_sof, e_st, e_fln, e_keep, e_itl, e_itt, e_rr1, e_rr2, e_tupRg, e_lstRg, e_revR, e_popAt, e_ext, e_tupRev, e_repL, e_lenSet, e_enumA, e_zipA, e_zip3, d_addT, flat1,
  d_add, d_sub, d_lt, d_le, d_gt, d_ge, d_eq, d_ne, d_ixl, d_ixt, d_lenl, d_lent, d_inti, d_intb, d_abs, d_max2, d_min2, d_tupl, d_tupt, d_lsl, d_lst, d_rb, t_b, t_i, t_l, t_t, is_nb, is_bb, k_ii, k_ib, k_bi, k_bb, k_ni, k_si, k_ti, k_li, k_di, k_tt, isNone, isBl,
  Option.bind_some, Option.bind_none, Option.map_some, Option.map_none, List.append_nil, List.cons_append, List.nil_append, List.replicate, List.getElem?_cons_zero, List.getElem?_cons_succ, List.getElem?_nil, List.set_cons_zero, List.set_cons_succ, List.length_cons, List.length_nil, List.mapIdx_cons, List.mapIdx_nil, List.contains_nil, List.contains_cons, Bool.false_eq_true, if_true, if_false, reduceIte, Bool.not_true, Bool.not_false, Option.getD_some, Function.comp, List.map_cons, List.map_nil,
  Nat.reduceLT, Nat.reduceAdd, Nat.reduceBEq, Nat.reduceEqDiff, Nat.reduceLeDiff, Int.reduceLT, Int.reduceLE, decide_true, decide_false, beq_self_eq_true, Bool.or_false, Bool.or_true, Bool.true_or, Bool.false_or, Bool.and_true, Bool.true_and, Bool.and_false, Bool.false_and, and_self, Nat.zero_add, e1, e2]
theorem gr_5r {S6 S7 S8 S9 : Sl} (ok : okRg n = true) : mRg1 (mCons (mName 2) mNil) (GS ds p n W V g S6 S7 S8 S9) = some (rgD 0 n, GS ds p n W V g S6 S7 S8 S9) := by
  simp only [e_bodyM, e_seq, e_nil, e_if, e_set, e_ret, e_drop, e_par, e_asg, e_for, e_app, e_setix, e_aug, e_name, e_c, e_anil, e_acons, e_bin, e_cmp, e_brk, e_cnt, e_retn, e_ix, e_call, e_fn, e_fn0, e_fnD, e_ifx, e_oft, e_tru, e_not, e_and, e_or, e_andv, e_orv, e_notv, e_neg, e_isi, e_chain, e_lst, e_tup, e_it, e_rg1, e_rg2, e_zip, e_enum, e_revi, e_rev, e_o0, e_o1, e_sl, e_dict0, e_yes, e_comp, e_pop, e_asB, e_toDd, e_toDf, e_toDs, e_lkd, e_lkf, e_lks, e_lan, e_lac, e_tdn, e_tdc, e_tsn, e_tsd, e_tsf, e_tss, e_snd, e_snf, e_snn, e_snc, e_sod, e_sof, e_st, e_fln, e_keep, e_itl, e_itt, e_rr1, e_rr2, e_tupRg, e_lstRg, e_revR, e_popAt, e_ext, e_tupRev, e_repL, e_lenSet, e_enumA, e_zipA, e_zip3, d_addT, flat1,
  d_add, d_sub, d_lt, d_le, d_gt, d_ge, d_eq, d_ne, d_ixl, d_ixt, d_lenl, d_lent, d_inti, d_intb, d_abs, d_max2, d_min2, d_tupl, d_tupt, d_lsl, d_lst, d_rb, t_b, t_i, t_l, t_t, is_nb, is_bb, k_ii, k_ib, k_bi, k_bb, k_ni, k_si, k_ti, k_li, k_di, k_tt, isNone, isBl,
  Option.bind_some, Option.bind_none, Option.map_some, Option.map_none, List.append_nil, List.cons_append, List.nil_append, List.replicate, List.getElem?_cons_zero, List.getElem?_cons_succ, List.getElem?_nil, List.set_cons_zero, List.set_cons_succ, List.length_cons, List.length_nil, List.mapIdx_cons, List.mapIdx_nil, List.contains_nil, List.contains_cons, Bool.false_eq_true, if_true, if_false, reduceIte, Bool.not_true, Bool.not_false, Option.getD_some, Function.comp, List.map_cons, List.map_nil,
  Nat.reduceLT, Nat.reduceAdd, Nat.reduceBEq, Nat.reduceEqDiff, Nat.reduceLeDiff, Int.reduceLT, Int.reduceLE, decide_true, decide_false, beq_self_eq_true, Bool.or_false, Bool.or_true, Bool.true_or, Bool.false_or, Bool.and_true, Bool.true_and, Bool.and_false, Bool.false_and, and_self, Nat.zero_add, ok]
theorem gr_5q {W : List Da} {S6 S7 S8 S9 : Sl} {k x : Int} {b : Bool} (e : atI W k = some (.int x)) (hb : (x == 0) = b) : (mCmp dNe (mIx (mName 3) (mName 11)) (mC (.int 0))) [.own ds, .val (.int p), .val (.int n), .val (.tuple W), .val V, .val (.int g), S6, S7, S8, S9, .un, .val (.int k)] = some (!b, [.own ds, .val (.int p), .val (.int n), .val (.tuple W), .val V, .val (.int g), S6, S7, S8, S9, .un, .val (.int k)]) := by
  simp only [e_bodyM, e_seq, e_nil, e_if, e_set, e_ret, e_drop, e_par, e_asg, e_for, e_app, e_setix, e_aug, e_name, e_c, e_anil, e_acons, e_bin, e_cmp, e_brk, e_cnt, e_retn, e_ix, e_call, e_fn, e_fn0, e_fnD, e_ifx, e_oft, e_tru, e_not, e_and, e_or, e_andv, e_orv, e_notv, e_neg, e_isi, e_chain, e_lst, e_tup, e_it, e_rg1, e_rg2, e_zip, e_enum, e_revi, e_rev, e_o0, e_o1, e_sl, e_dict0, e_yes, e_comp, e_pop, e_asB, e_toDd, e_toDf, e_toDs, e_lkd, e_lkf, e_lks, e_lan, e_lac, e_tdn, e_tdc, e_tsn, e_tsd, e_tsf, e_tss, e_snd, e_snf, e_snn, e_snc, e_sod, e_sof, e_st, e_fln, e_keep, e_itl, e_itt, e_rr1, e_rr2, e_tupRg, e_lstRg, e_revR, e_popAt, e_ext, e_tupRev, e_repL, e_lenSet, e_enumA, e_zipA, e_zip3, d_addT, flat1,
  d_add, d_sub, d_lt, d_le, d_gt, d_ge, d_eq, d_ne, d_ixl, d_ixt, d_lenl, d_lent, d_inti, d_intb, d_abs, d_max2, d_min2, d_tupl, d_tupt, d_lsl, d_lst, d_rb, t_b, t_i, t_l, t_t, is_nb, is_bb, k_ii, k_ib, k_bi, k_bb, k_ni, k_si, k_ti, k_li, k_di, k_tt, isNone, isBl,
  Option.bind_some, Option.bind_none, Option.map_some, Option.map_none, List.append_nil, List.cons_append, List.nil_append, List.replicate, List.getElem?_cons_zero, List.getElem?_cons_succ, List.getElem?_nil, List.set_cons_zero, List.set_cons_succ, List.length_cons, List.length_nil, List.mapIdx_cons, List.mapIdx_nil, List.contains_nil, List.contains_cons, Bool.false_eq_true, if_true, if_false, reduceIte, Bool.not_true, Bool.not_false, Option.getD_some, Function.comp, List.map_cons, List.map_nil,
  Nat.reduceLT, Nat.reduceAdd, Nat.reduceBEq, Nat.reduceEqDiff, Nat.reduceLeDiff, Int.reduceLT, Int.reduceLE, decide_true, decide_false, beq_self_eq_true, Bool.or_false, Bool.or_true, Bool.true_or, Bool.false_or, Bool.and_true, Bool.true_and, Bool.and_false, Bool.false_and, and_self, Nat.zero_add, e, hb]
theorem gr_5 {C : ME} {L : List Da} (e : C (GS ds p n W V g .un .un .un .un) = some (.fresh L, GS ds p n W V g .un .un .un .un)) : sSet 6 C (GS ds p n W V g .un .un .un .un) = some (.nx, GS ds p n W V g (.own L) .un .un .un) := by
  simp only [e_bodyM, e_seq, e_nil, e_if, e_set, e_ret, e_drop, e_par, e_asg, e_for, e_app, e_setix, e_aug, e_name, e_c, e_anil, e_acons, e_bin, e_cmp, e_brk, e_cnt, e_retn, e_ix, e_call, e_fn, e_fn0, e_fnD, e_ifx, e_oft, e_tru, e_not, e_and, e_or, e_andv, e_orv, e_notv, e_neg, e_isi, e_chain, e_lst, e_tup, e_it, e_rg1, e_rg2, e_zip, e_enum, e_revi, e_rev, e_o0, e_o1, e_sl, e_dict0, e_yes, e_comp, e_pop, e_asB, e_toDd, e_toDf, e_toDs, e_lkd, e_lkf, e_lks, e_lan, e_lac, e_tdn, e_tdc, e_tsn, e_tsd, e_tsf, e_tss, e_snd, e_snf, e_snn, e_snc, e_sod, e_sof, e_st, e_fln, e_keep, e_itl, e_itt, e_rr1, e_rr2, e_tupRg, e_lstRg, e_revR, e_popAt, e_ext, e_tupRev, e_repL, e_lenSet, e_enumA, e_zipA, e_zip3, d_addT, flat1,
  d_add, d_sub, d_lt, d_le, d_gt, d_ge, d_eq, d_ne, d_ixl, d_ixt, d_lenl, d_lent, d_inti, d_intb, d_abs, d_max2, d_min2, d_tupl, d_tupt, d_lsl, d_lst, d_rb, t_b, t_i, t_l, t_t, is_nb, is_bb, k_ii, k_ib, k_bi, k_bb, k_ni, k_si, k_ti, k_li, k_di, k_tt, isNone, isBl,
  Option.bind_some, Option.bind_none, Option.map_some, Option.map_none, List.append_nil, List.cons_append, List.nil_append, List.replicate, List.getElem?_cons_zero, List.getElem?_cons_succ, List.getElem?_nil, List.set_cons_zero, List.set_cons_succ, List.length_cons, List.length_nil, List.mapIdx_cons, List.mapIdx_nil, List.contains_nil, List.contains_cons, Bool.false_eq_true, if_true, if_false, reduceIte, Bool.not_true, Bool.not_false, Option.getD_some, Function.comp, List.map_cons, List.map_nil,
  Nat.reduceLT, Nat.reduceAdd, Nat.reduceBEq, Nat.reduceEqDiff, Nat.reduceLeDiff, Int.reduceLT, Int.reduceLE, decide_true, decide_false, beq_self_eq_true, Bool.or_false, Bool.or_true, Bool.true_or, Bool.false_or, Bool.and_true, Bool.true_and, Bool.and_false, Bool.false_and, and_self, Nat.zero_add, e]
theorem gr_6 {FT : MF} {L : List Da} {x y : Int} {b c : Bool} {h1 h2 : Gh} (eb : dNe (.list L) (.list []) = some (.dat (.bool b))) (hc : (g == 0) = c) (e1 : b = true → FT [.val (.int p), .val (.int (n - 1))] = some (.dat (.int x), h1)) (e2 : FT [.val (.int p), .val (.int n)] = some (.dat (.int y), h2)) : (sSet 7 (mIf (mCmp dNe (mName 6) (mLst mNil)) (mFn FT (mCons (mName 1) (mCons (mBin dSub (mName 2) (mC (.int 1))) mNil))) (mIf (mCmp dEq (mName 5) (mC (.int 0))) (mFn FT (mCons (mName 1) (mCons (mName 2) mNil))) (mC (.int 0))))) (GS ds p n W V g (.own L) .un .un .un) = some (.nx, GS ds p n W V g (.own L) (.val (.int (if b then x else if c then y else 0))) .un .un) := by
  cases b with
  | true =>
    have e1 := e1 rfl
    simp only [e_bodyM, e_seq, e_nil, e_if, e_set, e_ret, e_drop, e_par, e_asg, e_for, e_app, e_setix, e_aug, e_name, e_c, e_anil, e_acons, e_bin, e_cmp, e_brk, e_cnt, e_retn, e_ix, e_call, e_fn, e_fn0, e_fnD, e_ifx, e_oft, e_tru, e_not, e_and, e_or, e_andv, e_orv, e_notv, e_neg, e_isi, e_chain, e_lst, e_tup, e_it, e_rg1, e_rg2, e_zip, e_enum, e_revi, e_rev, e_o0, e_o1, e_sl, e_dict0, e_yes, e_comp, e_pop, e_asB, e_toDd, e_toDf, e_toDs, e_lkd, e_lkf, e_lks, e_lan, e_lac, e_tdn, e_tdc, e_tsn, e_tsd, e_tsf, e_tss, e_snd, e_snf, e_snn, e_snc, e_sod, e_sof, e_st, e_fln, e_keep, e_itl, e_itt, e_rr1, e_rr2, e_tupRg, e_lstRg, e_revR, e_popAt, e_ext, e_tupRev, e_repL, e_lenSet, e_enumA, e_zipA, e_zip3, d_addT, flat1,
  d_add, d_sub, d_lt, d_le, d_gt, d_ge, d_eq, d_ne, d_ixl, d_ixt, d_lenl, d_lent, d_inti, d_intb, d_abs, d_max2, d_min2, d_tupl, d_tupt, d_lsl, d_lst, d_rb, t_b, t_i, t_l, t_t, is_nb, is_bb, k_ii, k_ib, k_bi, k_bb, k_ni, k_si, k_ti, k_li, k_di, k_tt, isNone, isBl,
  Option.bind_some, Option.bind_none, Option.map_some, Option.map_none, List.append_nil, List.cons_append, List.nil_append, List.replicate, List.getElem?_cons_zero, List.getElem?_cons_succ, List.getElem?_nil, List.set_cons_zero, List.set_cons_succ, List.length_cons, List.length_nil, List.mapIdx_cons, List.mapIdx_nil, List.contains_nil, List.contains_cons, Bool.false_eq_true, if_true, if_false, reduceIte, Bool.not_true, Bool.not_false, Option.getD_some, Function.comp, List.map_cons, List.map_nil,
  Nat.reduceLT, Nat.reduceAdd, Nat.reduceBEq, Nat.reduceEqDiff, Nat.reduceLeDiff, Int.reduceLT, Int.reduceLE, decide_true, decide_false, beq_self_eq_true, Bool.or_false, Bool.or_true, Bool.true_or, Bool.false_or, Bool.and_true, Bool.true_and, Bool.and_false, Bool.false_and, and_self, Nat.zero_add, eb, e1, z0]
  | false =>
    cases c <;> simp only [e_bodyM, e_seq, e_nil, e_if, e_set, e_ret, e_drop, e_par, e_asg, e_for, e_app, e_setix, e_aug, e_name, e_c, e_anil, e_acons, e_bin, e_cmp, e_brk, e_cnt, e_retn, e_ix, e_call, e_fn, e_fn0, e_fnD, e_ifx, e_oft, e_tru, e_not, e_and, e_or, e_andv, e_orv, e_notv, e_neg, e_isi, e_chain, e_lst, e_tup, e_it, e_rg1, e_rg2, e_zip, e_enum, e_revi, e_rev, e_o0, e_o1, e_sl, e_dict0, e_yes, e_comp, e_pop, e_asB, e_toDd, e_toDf, e_toDs, e_lkd, e_lkf, e_lks, e_lan, e_lac, e_tdn, e_tdc, e_tsn, e_tsd, e_tsf, e_tss, e_snd, e_snf, e_snn, e_snc, e_sod, e_sof, e_st, e_fln, e_keep, e_itl, e_itt, e_rr1, e_rr2, e_tupRg, e_lstRg, e_revR, e_popAt, e_ext, e_tupRev, e_repL, e_lenSet, e_enumA, e_zipA, e_zip3, d_addT, flat1,
  d_add, d_sub, d_lt, d_le, d_gt, d_ge, d_eq, d_ne, d_ixl, d_ixt, d_lenl, d_lent, d_inti, d_intb, d_abs, d_max2, d_min2, d_tupl, d_tupt, d_lsl, d_lst, d_rb, t_b, t_i, t_l, t_t, is_nb, is_bb, k_ii, k_ib, k_bi, k_bb, k_ni, k_si, k_ti, k_li, k_di, k_tt, isNone, isBl,
  Option.bind_some, Option.bind_none, Option.map_some, Option.map_none, List.append_nil, List.cons_append, List.nil_append, List.replicate, List.getElem?_cons_zero, List.getElem?_cons_succ, List.getElem?_nil, List.set_cons_zero, List.set_cons_succ, List.length_cons, List.length_nil, List.mapIdx_cons, List.mapIdx_nil, List.contains_nil, List.contains_cons, Bool.false_eq_true, if_true, if_false, reduceIte, Bool.not_true, Bool.not_false, Option.getD_some, Function.comp, List.map_cons, List.map_nil,
  Nat.reduceLT, Nat.reduceAdd, Nat.reduceBEq, Nat.reduceEqDiff, Nat.reduceLeDiff, Int.reduceLT, Int.reduceLE, decide_true, decide_false, beq_self_eq_true, Bool.or_false, Bool.or_true, Bool.true_or, Bool.false_or, Bool.and_true, Bool.true_and, Bool.and_false, Bool.false_and, and_self, Nat.zero_add, eb, hc, e2, z0]
theorem gr_7 {VC : MF} {S6 : Sl} {m : Int} {h : Gh} (e : VC [.val (.int p), .val W, .val (.int g)] = some (.dat (.int m), h)) : (sIf (mCmp dNe (mFn VC (mCons (mName 1) (mCons (mName 3) (mCons (mName 5) mNil)))) (mName 7)) (sRet [0] (mC (.bool false))) sNil) (GS ds p n W V g S6 (.val (.int m)) .un .un) = some (.nx, GS ds p n W V g S6 (.val (.int m)) .un .un) := by
  simp only [e_bodyM, e_seq, e_nil, e_if, e_set, e_ret, e_drop, e_par, e_asg, e_for, e_app, e_setix, e_aug, e_name, e_c, e_anil, e_acons, e_bin, e_cmp, e_brk, e_cnt, e_retn, e_ix, e_call, e_fn, e_fn0, e_fnD, e_ifx, e_oft, e_tru, e_not, e_and, e_or, e_andv, e_orv, e_notv, e_neg, e_isi, e_chain, e_lst, e_tup, e_it, e_rg1, e_rg2, e_zip, e_enum, e_revi, e_rev, e_o0, e_o1, e_sl, e_dict0, e_yes, e_comp, e_pop, e_asB, e_toDd, e_toDf, e_toDs, e_lkd, e_lkf, e_lks, e_lan, e_lac, e_tdn, e_tdc, e_tsn, e_tsd, e_tsf, e_tss, e_snd, e_snf, e_snn, e_snc, e_sod, e_sof, e_st, e_fln, e_keep, e_itl, e_itt, e_rr1, e_rr2, e_tupRg, e_lstRg, e_revR, e_popAt, e_ext, e_tupRev, e_repL, e_lenSet, e_enumA, e_zipA, e_zip3, d_addT, flat1,
  d_add, d_sub, d_lt, d_le, d_gt, d_ge, d_eq, d_ne, d_ixl, d_ixt, d_lenl, d_lent, d_inti, d_intb, d_abs, d_max2, d_min2, d_tupl, d_tupt, d_lsl, d_lst, d_rb, t_b, t_i, t_l, t_t, is_nb, is_bb, k_ii, k_ib, k_bi, k_bb, k_ni, k_si, k_ti, k_li, k_di, k_tt, isNone, isBl,
  Option.bind_some, Option.bind_none, Option.map_some, Option.map_none, List.append_nil, List.cons_append, List.nil_append, List.replicate, List.getElem?_cons_zero, List.getElem?_cons_succ, List.getElem?_nil, List.set_cons_zero, List.set_cons_succ, List.length_cons, List.length_nil, List.mapIdx_cons, List.mapIdx_nil, List.contains_nil, List.contains_cons, Bool.false_eq_true, if_true, if_false, reduceIte, Bool.not_true, Bool.not_false, Option.getD_some, Function.comp, List.map_cons, List.map_nil,
  Nat.reduceLT, Nat.reduceAdd, Nat.reduceBEq, Nat.reduceEqDiff, Nat.reduceLeDiff, Int.reduceLT, Int.reduceLE, decide_true, decide_false, beq_self_eq_true, Bool.or_false, Bool.or_true, Bool.true_or, Bool.false_or, Bool.and_true, Bool.true_and, Bool.and_false, Bool.false_and, and_self, Nat.zero_add, e]
theorem gr_8 {MV : MF} {S6 S7 : Sl} {T : Da} {h : Gh} (e : MV [.val (.int p), .val W, .val V, .val (.int g)] = some (.dat T, h)) : (sSet 8 (mFn MV (mCons (mName 1) (mCons (mName 3) (mCons (mName 4) (mCons (mName 5) mNil)))))) (GS ds p n W V g S6 S7 .un .un) = some (.nx, GS ds p n W V g S6 S7 (.val T) .un) := by
  simp only [e_bodyM, e_seq, e_nil, e_if, e_set, e_ret, e_drop, e_par, e_asg, e_for, e_app, e_setix, e_aug, e_name, e_c, e_anil, e_acons, e_bin, e_cmp, e_brk, e_cnt, e_retn, e_ix, e_call, e_fn, e_fn0, e_fnD, e_ifx, e_oft, e_tru, e_not, e_and, e_or, e_andv, e_orv, e_notv, e_neg, e_isi, e_chain, e_lst, e_tup, e_it, e_rg1, e_rg2, e_zip, e_enum, e_revi, e_rev, e_o0, e_o1, e_sl, e_dict0, e_yes, e_comp, e_pop, e_asB, e_toDd, e_toDf, e_toDs, e_lkd, e_lkf, e_lks, e_lan, e_lac, e_tdn, e_tdc, e_tsn, e_tsd, e_tsf, e_tss, e_snd, e_snf, e_snn, e_snc, e_sod, e_sof, e_st, e_fln, e_keep, e_itl, e_itt, e_rr1, e_rr2, e_tupRg, e_lstRg, e_revR, e_popAt, e_ext, e_tupRev, e_repL, e_lenSet, e_enumA, e_zipA, e_zip3, d_addT, flat1,
  d_add, d_sub, d_lt, d_le, d_gt, d_ge, d_eq, d_ne, d_ixl, d_ixt, d_lenl, d_lent, d_inti, d_intb, d_abs, d_max2, d_min2, d_tupl, d_tupt, d_lsl, d_lst, d_rb, t_b, t_i, t_l, t_t, is_nb, is_bb, k_ii, k_ib, k_bi, k_bb, k_ni, k_si, k_ti, k_li, k_di, k_tt, isNone, isBl,
  Option.bind_some, Option.bind_none, Option.map_some, Option.map_none, List.append_nil, List.cons_append, List.nil_append, List.replicate, List.getElem?_cons_zero, List.getElem?_cons_succ, List.getElem?_nil, List.set_cons_zero, List.set_cons_succ, List.length_cons, List.length_nil, List.mapIdx_cons, List.mapIdx_nil, List.contains_nil, List.contains_cons, Bool.false_eq_true, if_true, if_false, reduceIte, Bool.not_true, Bool.not_false, Option.getD_some, Function.comp, List.map_cons, List.map_nil,
  Nat.reduceLT, Nat.reduceAdd, Nat.reduceBEq, Nat.reduceEqDiff, Nat.reduceLeDiff, Int.reduceLT, Int.reduceLE, decide_true, decide_false, beq_self_eq_true, Bool.or_false, Bool.or_true, Bool.true_or, Bool.false_or, Bool.and_true, Bool.true_and, Bool.and_false, Bool.false_and, and_self, Nat.zero_add, e]
theorem gr_9y {S7 : Sl} (eb : dEq (.list []) (.list []) = some (.dat (.bool true))) : (sIf (mCmp dEq (mName 6) (mLst mNil)) (sRet [0] (mBin (dIs false) (mName 8) (mC .none))) sNil) (GS ds p n W V g (.own []) S7 (.val .none) .un) = some (.rt (.dat (.bool true)), GS ds p n W V g (.own []) S7 (.val .none) .un) := by
  have h : dIs false .none .none = some (.dat (.bool true)) := rfl
  simp only [e_bodyM, e_seq, e_nil, e_if, e_set, e_ret, e_drop, e_par, e_asg, e_for, e_app, e_setix, e_aug, e_name, e_c, e_anil, e_acons, e_bin, e_cmp, e_brk, e_cnt, e_retn, e_ix, e_call, e_fn, e_fn0, e_fnD, e_ifx, e_oft, e_tru, e_not, e_and, e_or, e_andv, e_orv, e_notv, e_neg, e_isi, e_chain, e_lst, e_tup, e_it, e_rg1, e_rg2, e_zip, e_enum, e_revi, e_rev, e_o0, e_o1, e_sl, e_dict0, e_yes, e_comp, e_pop, e_asB, e_toDd, e_toDf, e_toDs, e_lkd, e_lkf, e_lks, e_lan, e_lac, e_tdn, e_tdc, e_tsn, e_tsd, e_tsf, e_tss, e_snd, e_snf, e_snn, e_snc, e_sod, e_sof, e_st, e_fln, e_keep, e_itl, e_itt, e_rr1, e_rr2, e_tupRg, e_lstRg, e_revR, e_popAt, e_ext, e_tupRev, e_repL, e_lenSet, e_enumA, e_zipA, e_zip3, d_addT, flat1,
  d_add, d_sub, d_lt, d_le, d_gt, d_ge, d_eq, d_ne, d_ixl, d_ixt, d_lenl, d_lent, d_inti, d_intb, d_abs, d_max2, d_min2, d_tupl, d_tupt, d_lsl, d_lst, d_rb, t_b, t_i, t_l, t_t, is_nb, is_bb, k_ii, k_ib, k_bi, k_bb, k_ni, k_si, k_ti, k_li, k_di, k_tt, isNone, isBl,
  Option.bind_some, Option.bind_none, Option.map_some, Option.map_none, List.append_nil, List.cons_append, List.nil_append, List.replicate, List.getElem?_cons_zero, List.getElem?_cons_succ, List.getElem?_nil, List.set_cons_zero, List.set_cons_succ, List.length_cons, List.length_nil, List.mapIdx_cons, List.mapIdx_nil, List.contains_nil, List.contains_cons, Bool.false_eq_true, if_true, if_false, reduceIte, Bool.not_true, Bool.not_false, Option.getD_some, Function.comp, List.map_cons, List.map_nil,
  Nat.reduceLT, Nat.reduceAdd, Nat.reduceBEq, Nat.reduceEqDiff, Nat.reduceLeDiff, Int.reduceLT, Int.reduceLE, decide_true, decide_false, beq_self_eq_true, Bool.or_false, Bool.or_true, Bool.true_or, Bool.false_or, Bool.and_true, Bool.true_and, Bool.and_false, Bool.false_and, and_self, Nat.zero_add, eb, h, z0]
theorem gr_9n {S7 S8 : Sl} {L : List Da} (eb : dEq (.list L) (.list []) = some (.dat (.bool false))) : (sIf (mCmp dEq (mName 6) (mLst mNil)) (sRet [0] (mBin (dIs false) (mName 8) (mC .none))) sNil) (GS ds p n W V g (.own L) S7 S8 .un) = some (.nx, GS ds p n W V g (.own L) S7 S8 .un) := by
  simp only [e_bodyM, e_seq, e_nil, e_if, e_set, e_ret, e_drop, e_par, e_asg, e_for, e_app, e_setix, e_aug, e_name, e_c, e_anil, e_acons, e_bin, e_cmp, e_brk, e_cnt, e_retn, e_ix, e_call, e_fn, e_fn0, e_fnD, e_ifx, e_oft, e_tru, e_not, e_and, e_or, e_andv, e_orv, e_notv, e_neg, e_isi, e_chain, e_lst, e_tup, e_it, e_rg1, e_rg2, e_zip, e_enum, e_revi, e_rev, e_o0, e_o1, e_sl, e_dict0, e_yes, e_comp, e_pop, e_asB, e_toDd, e_toDf, e_toDs, e_lkd, e_lkf, e_lks, e_lan, e_lac, e_tdn, e_tdc, e_tsn, e_tsd, e_tsf, e_tss, e_snd, e_snf, e_snn, e_snc, e_sod, e_sof, e_st, e_fln, e_keep, e_itl, e_itt, e_rr1, e_rr2, e_tupRg, e_lstRg, e_revR, e_popAt, e_ext, e_tupRev, e_repL, e_lenSet, e_enumA, e_zipA, e_zip3, d_addT, flat1,
  d_add, d_sub, d_lt, d_le, d_gt, d_ge, d_eq, d_ne, d_ixl, d_ixt, d_lenl, d_lent, d_inti, d_intb, d_abs, d_max2, d_min2, d_tupl, d_tupt, d_lsl, d_lst, d_rb, t_b, t_i, t_l, t_t, is_nb, is_bb, k_ii, k_ib, k_bi, k_bb, k_ni, k_si, k_ti, k_li, k_di, k_tt, isNone, isBl,
  Option.bind_some, Option.bind_none, Option.map_some, Option.map_none, List.append_nil, List.cons_append, List.nil_append, List.replicate, List.getElem?_cons_zero, List.getElem?_cons_succ, List.getElem?_nil, List.set_cons_zero, List.set_cons_succ, List.length_cons, List.length_nil, List.mapIdx_cons, List.mapIdx_nil, List.contains_nil, List.contains_cons, Bool.false_eq_true, if_true, if_false, reduceIte, Bool.not_true, Bool.not_false, Option.getD_some, Function.comp, List.map_cons, List.map_nil,
  Nat.reduceLT, Nat.reduceAdd, Nat.reduceBEq, Nat.reduceEqDiff, Nat.reduceLeDiff, Int.reduceLT, Int.reduceLE, decide_true, decide_false, beq_self_eq_true, Bool.or_false, Bool.or_true, Bool.true_or, Bool.false_or, Bool.and_true, Bool.true_and, Bool.and_false, Bool.false_and, and_self, Nat.zero_add, eb, z0]
theorem gr_10q {U V : List Da} {S6 S7 : Sl} {k x y : Int} {b : Bool} (e1 : atI U k = some (.int x)) (e2 : atI V k = some (.int y)) (hb : (x == y) = b) : (mCmp dNe (mIx (mName 8) (mName 11)) (mIx (mName 4) (mName 11))) [.own ds, .val (.int p), .val (.int n), .val W, .val (.tuple V), .val (.int g), S6, S7, .val (.tuple U), .un, .un, .val (.int k)] = some (!b, [.own ds, .val (.int p), .val (.int n), .val W, .val (.tuple V), .val (.int g), S6, S7, .val (.tuple U), .un, .un, .val (.int k)]) := by
  simp only [e_bodyM, e_seq, e_nil, e_if, e_set, e_ret, e_drop, e_par, e_asg, e_for, e_app, e_setix, e_aug, e_name, e_c, e_anil, e_acons, e_bin, e_cmp, e_brk, e_cnt, e_retn, e_ix, e_call, e_fn, e_fn0, e_fnD, e_ifx, e_oft, e_tru, e_not, e_and, e_or, e_andv, e_orv, e_notv, e_neg, e_isi, e_chain, e_lst, e_tup, e_it, e_rg1, e_rg2, e_zip, e_enum, e_revi, e_rev, e_o0, e_o1, e_sl, e_dict0, e_yes, e_comp, e_pop, e_asB, e_toDd, e_toDf, e_toDs, e_lkd, e_lkf, e_lks, e_lan, e_lac, e_tdn, e_tdc, e_tsn, e_tsd, e_tsf, e_tss, e_snd, e_snf, e_snn, e_snc, e_sod, e_sof, e_st, e_fln, e_keep, e_itl, e_itt, e_rr1, e_rr2, e_tupRg, e_lstRg, e_revR, e_popAt, e_ext, e_tupRev, e_repL, e_lenSet, e_enumA, e_zipA, e_zip3, d_addT, flat1,
  d_add, d_sub, d_lt, d_le, d_gt, d_ge, d_eq, d_ne, d_ixl, d_ixt, d_lenl, d_lent, d_inti, d_intb, d_abs, d_max2, d_min2, d_tupl, d_tupt, d_lsl, d_lst, d_rb, t_b, t_i, t_l, t_t, is_nb, is_bb, k_ii, k_ib, k_bi, k_bb, k_ni, k_si, k_ti, k_li, k_di, k_tt, isNone, isBl,
  Option.bind_some, Option.bind_none, Option.map_some, Option.map_none, List.append_nil, List.cons_append, List.nil_append, List.replicate, List.getElem?_cons_zero, List.getElem?_cons_succ, List.getElem?_nil, List.set_cons_zero, List.set_cons_succ, List.length_cons, List.length_nil, List.mapIdx_cons, List.mapIdx_nil, List.contains_nil, List.contains_cons, Bool.false_eq_true, if_true, if_false, reduceIte, Bool.not_true, Bool.not_false, Option.getD_some, Function.comp, List.map_cons, List.map_nil,
  Nat.reduceLT, Nat.reduceAdd, Nat.reduceBEq, Nat.reduceEqDiff, Nat.reduceLeDiff, Int.reduceLT, Int.reduceLE, decide_true, decide_false, beq_self_eq_true, Bool.or_false, Bool.or_true, Bool.true_or, Bool.false_or, Bool.and_true, Bool.true_and, Bool.and_false, Bool.false_and, and_self, Nat.zero_add, e1, e2, hb]
theorem gr_10 {C : ME} {S6 S7 S8 : Sl} {L : List Da} (e : C (GS ds p n W V g S6 S7 S8 .un) = some (.fresh L, GS ds p n W V g S6 S7 S8 .un)) : sSet 9 C (GS ds p n W V g S6 S7 S8 .un) = some (.nx, GS ds p n W V g S6 S7 S8 (.own L)) := by
  simp only [e_bodyM, e_seq, e_nil, e_if, e_set, e_ret, e_drop, e_par, e_asg, e_for, e_app, e_setix, e_aug, e_name, e_c, e_anil, e_acons, e_bin, e_cmp, e_brk, e_cnt, e_retn, e_ix, e_call, e_fn, e_fn0, e_fnD, e_ifx, e_oft, e_tru, e_not, e_and, e_or, e_andv, e_orv, e_notv, e_neg, e_isi, e_chain, e_lst, e_tup, e_it, e_rg1, e_rg2, e_zip, e_enum, e_revi, e_rev, e_o0, e_o1, e_sl, e_dict0, e_yes, e_comp, e_pop, e_asB, e_toDd, e_toDf, e_toDs, e_lkd, e_lkf, e_lks, e_lan, e_lac, e_tdn, e_tdc, e_tsn, e_tsd, e_tsf, e_tss, e_snd, e_snf, e_snn, e_snc, e_sod, e_sof, e_st, e_fln, e_keep, e_itl, e_itt, e_rr1, e_rr2, e_tupRg, e_lstRg, e_revR, e_popAt, e_ext, e_tupRev, e_repL, e_lenSet, e_enumA, e_zipA, e_zip3, d_addT, flat1,
  d_add, d_sub, d_lt, d_le, d_gt, d_ge, d_eq, d_ne, d_ixl, d_ixt, d_lenl, d_lent, d_inti, d_intb, d_abs, d_max2, d_min2, d_tupl, d_tupt, d_lsl, d_lst, d_rb, t_b, t_i, t_l, t_t, is_nb, is_bb, k_ii, k_ib, k_bi, k_bb, k_ni, k_si, k_ti, k_li, k_di, k_tt, isNone, isBl,
  Option.bind_some, Option.bind_none, Option.map_some, Option.map_none, List.append_nil, List.cons_append, List.nil_append, List.replicate, List.getElem?_cons_zero, List.getElem?_cons_succ, List.getElem?_nil, List.set_cons_zero, List.set_cons_succ, List.length_cons, List.length_nil, List.mapIdx_cons, List.mapIdx_nil, List.contains_nil, List.contains_cons, Bool.false_eq_true, if_true, if_false, reduceIte, Bool.not_true, Bool.not_false, Option.getD_some, Function.comp, List.map_cons, List.map_nil,
  Nat.reduceLT, Nat.reduceAdd, Nat.reduceBEq, Nat.reduceEqDiff, Nat.reduceLeDiff, Int.reduceLT, Int.reduceLE, decide_true, decide_false, beq_self_eq_true, Bool.or_false, Bool.or_true, Bool.true_or, Bool.false_or, Bool.and_true, Bool.true_and, Bool.and_false, Bool.false_and, and_self, Nat.zero_add, e]
theorem gr_11 {FD : MF} {S7 : Sl} {U H1 L H : List Da} {h : Gh} (e1 : FD [.val (.int p), .val W, .val (.tuple U)] = some (.dat (.int g), h)) (hc : EV.cutD H none (some 1) = H1) (e2 : dInD false (.list L) (.tuple [.list [], .list H1]) = some (.dat (.bool true))) (hn : ((U.length : Nat) : Int) = n) : (sRet [0] (mAndV (mBin dEq (mFn FD (mCons (mName 1) (mCons (mName 3) (mCons (mName 8) mNil)))) (mName 5)) (mAndV (mBin (dInD false) (mName 9) (mTup (mCons (mLst mNil) (mCons (mSl (mName 6) mO0 (mO1 (mC (.int 1)))) mNil)))) (mBin dEq (mCall dLen (mCons (mName 8) mNil)) (mName 2))))) (GS ds p n W V g (.own H) S7 (.val (.tuple U)) (.own L)) = some (.rt (.dat (.bool true)), GS ds p n W V g (.own H) S7 (.val (.tuple U)) (.own L)) := by
  simp only [e_bodyM, e_seq, e_nil, e_if, e_set, e_ret, e_drop, e_par, e_asg, e_for, e_app, e_setix, e_aug, e_name, e_c, e_anil, e_acons, e_bin, e_cmp, e_brk, e_cnt, e_retn, e_ix, e_call, e_fn, e_fn0, e_fnD, e_ifx, e_oft, e_tru, e_not, e_and, e_or, e_andv, e_orv, e_notv, e_neg, e_isi, e_chain, e_lst, e_tup, e_it, e_rg1, e_rg2, e_zip, e_enum, e_revi, e_rev, e_o0, e_o1, e_sl, e_dict0, e_yes, e_comp, e_pop, e_asB, e_toDd, e_toDf, e_toDs, e_lkd, e_lkf, e_lks, e_lan, e_lac, e_tdn, e_tdc, e_tsn, e_tsd, e_tsf, e_tss, e_snd, e_snf, e_snn, e_snc, e_sod, e_sof, e_st, e_fln, e_keep, e_itl, e_itt, e_rr1, e_rr2, e_tupRg, e_lstRg, e_revR, e_popAt, e_ext, e_tupRev, e_repL, e_lenSet, e_enumA, e_zipA, e_zip3, d_addT, flat1,
  d_add, d_sub, d_lt, d_le, d_gt, d_ge, d_eq, d_ne, d_ixl, d_ixt, d_lenl, d_lent, d_inti, d_intb, d_abs, d_max2, d_min2, d_tupl, d_tupt, d_lsl, d_lst, d_rb, t_b, t_i, t_l, t_t, is_nb, is_bb, k_ii, k_ib, k_bi, k_bb, k_ni, k_si, k_ti, k_li, k_di, k_tt, isNone, isBl,
  Option.bind_some, Option.bind_none, Option.map_some, Option.map_none, List.append_nil, List.cons_append, List.nil_append, List.replicate, List.getElem?_cons_zero, List.getElem?_cons_succ, List.getElem?_nil, List.set_cons_zero, List.set_cons_succ, List.length_cons, List.length_nil, List.mapIdx_cons, List.mapIdx_nil, List.contains_nil, List.contains_cons, Bool.false_eq_true, if_true, if_false, reduceIte, Bool.not_true, Bool.not_false, Option.getD_some, Function.comp, List.map_cons, List.map_nil,
  Nat.reduceLT, Nat.reduceAdd, Nat.reduceBEq, Nat.reduceEqDiff, Nat.reduceLeDiff, Int.reduceLT, Int.reduceLE, decide_true, decide_false, beq_self_eq_true, Bool.or_false, Bool.or_true, Bool.true_or, Bool.false_or, Bool.and_true, Bool.true_and, Bool.and_false, Bool.false_and, and_self, Nat.zero_add, e1, hc, e2, hn, z0, z2]
theorem b1211 {M : MS} {a a' : Sl} {s1 s2 s3 s4 s5 s6 s7 s8 s9 s10 s11 : Sl} {w : Wv} (h : M [a, .un, .un, .un, .un, .un, .un, .un, .un, .un, .un, .un] = some (.rt w, [a', s1, s2, s3, s4, s5, s6, s7, s8, s9, s10, s11])) : bodyM [0] 11 M [a] = some (w, [a']) := by
  show (M [a, .un, .un, .un, .un, .un, .un, .un, .un, .un, .un, .un]).bind _ = _
  rw [h]
  rfl
end
theorem flat_nat {m : Nat} (xs : List Nat) : Flat (m + 1) (.list (xs.map intN)) := flat_list fun x hx => by
  obtain ⟨k, _, rfl⟩ := List.mem_map.mp hx
  exact flat_int _
theorem nat_eqv (xs ys : List Nat) (h : xs = ys) : PyData.eqv (.list (ys.map intN)) (.list (xs.map intN)) = true := by
  subst h
  have key : ∀ zs : List Nat, PyData.eqvAll (zs.map intN) (zs.map intN) = true := by
    intro zs
    induction zs with
    | nil => simp only [List.map_nil, PyData.eqvAll]
    | cons z zs ih =>
      rw [List.map_cons]
      unfold intN at ih ⊢
      simp only [PyData.eqvAll, PyData.eqv, ih]
      simp
  simp only [PyData.eqv, key]
/-- what is moved has the sum, and one number at most is another -/
theorem mov_dot {p : Int} (hf : isFld p = true) {w v : List Int} {n k : Nat} {g : Int} (hw : InF p w) (lw : w.length = n) (lv : v.length = n) (hk : k < n) (ne : cf w k ≠ 0) (g0 : 0 ≤ g) (g1 : g < p) : dotZ w (v.set k ((cf v k + (g - dotZ w v % p) * (cf w k ^ (p - 2).toNat % p)) % p)) % p = g := by
  have hp := fld_pos hf
  have bw := cf_in (show 0 < p by omega) hw k
  have iv : Cg p (cf w k ^ (p - 2).toNat % p * cf w k) 1 := cg_one (show 1 < p by omega) (inv_mul hf (by omega) bw.2)
  rw [dot_set _ w v k (by omega)]
  have c1 : Cg p (cf w k * ((cf v k + (g - dotZ w v % p) * (cf w k ^ (p - 2).toNat % p)) % p - cf v k)) (g - dotZ w v) := by
    have h1 : Cg p ((cf v k + (g - dotZ w v % p) * (cf w k ^ (p - 2).toNat % p)) % p - cf v k) ((g - dotZ w v) * (cf w k ^ (p - 2).toNat % p)) := by
      have := cg_sub (cg_tr (cg_mod p _) (cg_add (cg_refl p (cf v k)) (cg_mul (cg_sub (cg_refl p g) (cg_mod p (dotZ w v))) (cg_refl p (cf w k ^ (p - 2).toNat % p))))) (cg_refl p (cf v k))
      rw [show cf v k + (g - dotZ w v) * (cf w k ^ (p - 2).toNat % p) - cf v k = (g - dotZ w v) * (cf w k ^ (p - 2).toNat % p) by omega] at this
      exact this
    refine cg_tr (cg_mul (cg_refl p (cf w k)) h1) ?_
    have := cg_mul (cg_refl p (g - dotZ w v)) iv
    rw [Int.mul_one] at this
    refine cg_tr ?_ this
    rw [show cf w k * ((g - dotZ w v) * (cf w k ^ (p - 2).toNat % p)) = (g - dotZ w v) * (cf w k ^ (p - 2).toNat % p * cf w k) by rw [Int.mul_comm (cf w k), Int.mul_assoc]]
    exact cg_refl p _
  have c2 := cg_add (cg_refl p (dotZ w v)) c1
  rw [show dotZ w v + (g - dotZ w v) = g by omega] at c2
  rw [cg_emod c2, Int.emod_eq_of_lt g0 g1]
theorem t_great_right {k : Nat} {ds : List Da} (hd0 : DiceOk k ds) (hk : k ≤ 20000) : ∃ ds' k', k' ≤ k + 400 ∧ DiceOk k' ds' ∧ F__law_great_right [.own ds] = some (.dat (.bool true), [.own ds']) := by
  obtain ⟨p, d1, hpm, h1, e1⟩ := t_pickI (xs := [5, 7, 11, 13, 17, 29, 31, 97, 101, 499, 991, 997]) hd0 (by omega) (by simp) (by simp)
  have hf : isFld p = true := by
    simp only [List.mem_cons, List.not_mem_nil, or_false] at hpm
    rcases hpm with rfl | rfl | rfl | rfl | rfl | rfl | rfl | rfl | rfl | rfl | rfl | rfl <;> decide +kernel
  have hp := fld_pos hf
  have hp0 : 0 < p := by omega
  obtain ⟨ni, d2, hnm, h2, e2⟩ := t_pickI (xs := [1, 3, 9, 30, 60]) h1 (by omega) (by simp) (by simp)
  have hn2 : 1 ≤ ni ∧ ni ≤ 60 := by
    simp only [List.mem_cons, List.not_mem_nil, or_false] at hnm
    rcases hnm with rfl | rfl | rfl | rfl | rfl <;> omega
  obtain ⟨n, hni⟩ : ∃ n : Nat, ni = (n : Nat) := ⟨ni.toNat, by omega⟩
  obtain ⟨w, d3, iw, lw, h3, e3⟩ := t_weights_drawn h2 (by omega) hp.1 hp.2 hni (by omega)
  have ll : (rgD 0 ni).length = n := by rw [rgD_len]; omega
  obtain ⟨v, d4, iv, lv, h4, e4⟩ := rolls_go (vs := [10]) (tg := setN 10) (el := mFnD Lib.F__law_roll (mCons (mName 0) (mCons (mName 1) mNil))) (p := p) (S := fun ds => [.own ds, .val (.int p), .val (.int ni), .val (tupI w), .un, .un, .un, .un, .un, .un, .un, .un]) (fun ds k x h hk => by
    obtain ⟨y, ds', x0, x1, h1, eR⟩ := t_roll (m := p) h (by omega) (by omega) (by omega)
    exact ⟨y, ds', x0, x1, h1, [.own ds, .val (.int p), .val (.int ni), .val (tupI w), .un, .un, .un, .un, .un, .un, .val x, .un], [.own ds', .val (.int p), .val (.int ni), .val (tupI w), .un, .un, .un, .un, .un, .un, .val x, .un], rfl, gr_3e eR, rfl⟩) (rgD 0 ni) _ d3 h3 (by omega)
  rw [ll] at lv h4
  have eC : mComp [10] (mRg1 (mCons (mName 2) mNil)) (setN 10) mYes (mFnD Lib.F__law_roll (mCons (mName 0) (mCons (mName 1) mNil))) [.own d3, .val (.int p), .val (.int ni), .val (tupI w), .un, .un, .un, .un, .un, .un, .un, .un] = some (.fresh (v.map PyData.int), [.own d4, .val (.int p), .val (.int ni), .val (tupI w), .un, .un, .un, .un, .un, .un, .un, .un]) := by
    rw [e_comp, gr_3r (okRg' (by omega) (by omega)), Option.bind_some, if_pos (by rw [ll]; exact sl_lt (by omega))]
    show ((compL [10] (setN 10) mYes _ (rgD 0 ni) [.own d3, .val (.int p), .val (.int ni), .val (tupI w), .un, .un, .un, .un, .un, .un, .un, .un]).bind _) = _
    rw [e4]
    rfl
  obtain ⟨g, d5, g0, g1, h5, e5⟩ := t_roll (m := p) h4 (by omega) (by omega) (by omega)
  refine ⟨d5, _, ?_, h5, ?_⟩
  · omega
  have eW := t_weighted hf iw iv lw lv (by omega)
  have eD := t_law_fd_dot hp.1 hp.2 iw iv (lw.trans lv.symm)
  have eH : mComp [11] (mRg1 (mCons (mName 2) mNil)) (setN 11) (mCmp dNe (mIx (mName 3) (mName 11)) (mC (.int 0))) (mName 11) (GS d5 p ni (tupI w) (tupI v) g .un .un .un .un) = some (.fresh ((heavyR n w).map intN), GS d5 p ni (tupI w) (tupI v) g .un .un .un .un) := by
    refine comp_filt (vs := [11]) (e := intN) (F := intN) (q := fun k => !(cf w k == 0)) (xs := List.range n) (g' := GS d5 p ni (tupI w) (tupI v) g .un .un .un .un) (gw := GS d5 p ni (tupI w) (tupI v) g .un .un .un .un) ?_ (by rw [List.length_range]; omega) rfl rfl fun k hk => ?_
    · rw [show (List.range n).map intN = rgD 0 ni from (rgD_nat hni).symm]
      exact gr_5r (okRg' (by omega) (by omega))
    · have hk : k < n := List.mem_range.mp hk
      exact ⟨[.own d5, .val (.int p), .val (.int ni), .val (tupI w), .val (tupI v), .val (.int g), .un, .un, .un, .un, .un, .val (intN k)], [.own d5, .val (.int p), .val (.int ni), .val (tupI w), .val (tupI v), .val (.int g), .un, .un, .un, .un, .un, .val (intN k)], rfl, gr_5q (at_cf (by omega)) rfl, fun _ => ⟨.dat (intN k), [.own d5, .val (.int p), .val (.int ni), .val (tupI w), .val (tupI v), .val (.int g), .un, .un, .un, .un, .un, .val (intN k)], [.own d5, .val (.int p), .val (.int ni), .val (tupI w), .val (tupI v), .val (.int g), .un, .un, .un, .un, .un, .val (intN k)], rfl, rfl, rfl⟩, fun _ => rfl⟩
  have f1 := t_fd_timesW (m := ni - 1) hp.1 hp.2 (by omega) (by omega)
  have f2 := t_fd_timesW (m := ni) hp.1 hp.2 (by omega) (by omega)
  rw [show (ni - 1).toNat = n - 1 by omega] at f1
  rw [show ni.toNat = n by omega] at f2
  have e6 := gr_6 (ds := d5) (n := ni) (W := tupI w) (V := tupI v) (g := g) (d_neNilN (heavyR n w)) (c := g == 0) rfl (fun _ => f1) f2
  have em : (if (!(heavyR n w).isEmpty) = true then p ^ (n - 1) else if (g == 0) = true then p ^ n else 0) = manyR p n w g := by
    unfold manyR
    cases q : heavyR n w with
    | nil =>
      rw [if_neg (by simp), if_pos rfl]
      by_cases gz : g = 0
      · rw [if_pos gz, if_pos (beq_iff_eq.mpr gz)]
      · rw [if_neg gz, if_neg (by simpa using gz)]
    | cons a l => rw [if_pos (by simp), if_neg (by simp)]
  rw [em] at e6
  have e7 := t_vectors_count hf iw lw (by omega) g0 g1
  have e8 := t_moved hf iw iv lw lv (by omega) g0 g1
  unfold F__law_great_right m__law_great_right
  have pre : ∀ {M : MS} {X : Option (Fl × Gh)}, M (GS d5 p ni (tupI w) (tupI v) g (.own ((heavyR n w).map intN)) (.val (.int (manyR p n w g))) (.val (optT (movR p n w v g))) .un) = X → (sSeq (sPar [1, 2] (mCons (mFnD Lib.F__law_pick (mCons (mName 0) (mCons (mFn0 Lib.F__law_fd_primes) mNil))) (mCons (mFnD Lib.F__law_pick (mCons (mName 0) (mCons (mLst (mCons (mC (.int 1)) (mCons (mC (.int 3)) (mCons (mC (.int 9)) (mCons (mC (.int 30)) (mCons (mC (.int 60)) mNil)))))) mNil))) mNil)))
    (sSeq (sSet 3 (mFnD Lib.F__law_weights_drawn (mCons (mName 0) (mCons (mName 1) (mCons (mName 2) mNil)))))
    (sSeq (sPar [4, 5] (mCons (mCall dTuple (mCons (mComp [10] (mRg1 (mCons (mName 2) mNil)) (setN 10) mYes (mFnD Lib.F__law_roll (mCons (mName 0) (mCons (mName 1) mNil)))) mNil)) (mCons (mFnD Lib.F__law_roll (mCons (mName 0) (mCons (mName 1) mNil))) mNil)))
    (sSeq (sIf (mCmp dNe (mFn Lib.F_weighted (mCons (mName 1) (mCons (mName 3) (mCons (mName 4) mNil)))) (mFn Lib.F__law_fd_dot (mCons (mName 1) (mCons (mName 3) (mCons (mName 4) mNil))))) (sRet [0] (mC (.bool false))) sNil)
    (sSeq (sSet 6 (mComp [11] (mRg1 (mCons (mName 2) mNil)) (setN 11) (mCmp dNe (mIx (mName 3) (mName 11)) (mC (.int 0))) (mName 11)))
    (sSeq (sSet 7 (mIf (mCmp dNe (mName 6) (mLst mNil)) (mFn Lib.F__law_fd_times (mCons (mName 1) (mCons (mBin dSub (mName 2) (mC (.int 1))) mNil))) (mIf (mCmp dEq (mName 5) (mC (.int 0))) (mFn Lib.F__law_fd_times (mCons (mName 1) (mCons (mName 2) mNil))) (mC (.int 0)))))
    (sSeq (sIf (mCmp dNe (mFn Lib.F_vectors_count (mCons (mName 1) (mCons (mName 3) (mCons (mName 5) mNil)))) (mName 7)) (sRet [0] (mC (.bool false))) sNil)
    (sSeq (sSet 8 (mFn Lib.F_moved (mCons (mName 1) (mCons (mName 3) (mCons (mName 4) (mCons (mName 5) mNil)))))) M)))))))) [.own ds, .un, .un, .un, .un, .un, .un, .un, .un, .un, .un, .un] = X := fun h => (seq_nx (gr_1 t_primes e1 e2)).trans ((seq_nx (gr_2 e3)).trans ((seq_nx (gr_3 eC e5)).trans ((seq_nx (gr_4 eW eD)).trans ((seq_nx (gr_5 eH)).trans ((seq_nx e6).trans ((seq_nx (gr_7 e7)).trans ((seq_nx (gr_8 e8)).trans h)))))))
  cases q : heavyR n w with
  | nil =>
    rw [q] at pre
    have em2 : movR p n w v g = none := by unfold movR; rw [q]; rfl
    rw [em2] at pre
    exact b1211 (pre (seq_rt (gr_9y (d_eqS (flat_list (n := 0) (xs := []) fun x hx => by cases hx)))))
  | cons k ks =>
    have hk : k < n ∧ cf w k ≠ 0 := by
      have : k ∈ heavyR n w := by rw [q]; exact List.mem_cons_self
      obtain ⟨h1, h2⟩ := List.mem_filter.mp this
      exact ⟨List.mem_range.mp h1, by simpa using h2⟩
    obtain ⟨x, hx⟩ : ∃ x : Int, x = (cf v k + (g - dotZ w v % p) * (cf w k ^ (p - 2).toNat % p)) % p := ⟨_, rfl⟩
    have em2 : movR p n w v g = some (v.set k x) := by unfold movR; rw [q, hx]; rfl
    rw [q, em2] at pre
    obtain ⟨u, hu⟩ : ∃ u, u = v.set k x := ⟨_, rfl⟩
    have iu : InF p u := fun y hy => by
      rw [hu] at hy
      rcases List.mem_or_eq_of_mem_set hy with h | h
      · exact iv y h
      · rw [h, hx]; exact ⟨Int.emod_nonneg _ (by omega), Int.emod_lt_of_pos _ hp0⟩
    have lu : u.length = n := by rw [hu, List.length_set]; exact lv
    have md := mov_dot hf (v := v) iw lw lv hk.1 hk.2 g0 g1
    rw [← hx, ← hu] at md
    have eU := t_law_fd_dot hp.1 hp.2 iw iu (lw.trans lu.symm)
    rw [md] at eU
    rw [← hu] at pre
    have cu : ∀ j, j < n → j ≠ k → cf u j = cf v j := fun j hj ne => by
      rw [cf_at (by omega), cf_at (by omega)]
      simp only [hu]
      rw [List.getElem_set_ne (Ne.symm ne)]
    obtain ⟨UL, hUL⟩ : ∃ UL, UL = (List.range n).filter fun j => !(cf u j == cf v j) := ⟨_, rfl⟩
    have ul : UL = [] ∨ UL = [k] := by
      by_cases e : cf u k = cf v k
      · refine .inl ?_
        rw [hUL]
        refine List.filter_eq_nil_iff.mpr fun j hj => ?_
        by_cases ej : j = k
        · subst ej; simp [e]
        · simp [cu j (List.mem_range.mp hj) ej]
      · refine .inr ?_
        have nd : UL.Nodup := by rw [hUL]; exact List.nodup_range.filter _
        have mem : ∀ j, j ∈ UL ↔ j = k := fun j => by
          rw [hUL, List.mem_filter, List.mem_range]
          constructor
          · rintro ⟨hj, h⟩
            refine Classical.byContradiction fun ej => ?_
            rw [cu j hj ej] at h
            simp at h
          · rintro rfl
            exact ⟨hk.1, by simpa using e⟩
        exact List.perm_singleton.mp ((List.perm_ext_iff_of_nodup nd (by simp)).mpr fun j => by rw [mem j, List.mem_singleton])
    have eL : mComp [11] (mRg1 (mCons (mName 2) mNil)) (setN 11) (mCmp dNe (mIx (mName 8) (mName 11)) (mIx (mName 4) (mName 11))) (mName 11) (GS d5 p ni (tupI w) (tupI v) g (.own ((k :: ks).map intN)) (.val (.int (manyR p n w g))) (.val (tupI u)) .un) = some (.fresh (UL.map intN), GS d5 p ni (tupI w) (tupI v) g (.own ((k :: ks).map intN)) (.val (.int (manyR p n w g))) (.val (tupI u)) .un) := by
      rw [hUL]
      refine comp_filt (vs := [11]) (e := intN) (F := intN) (q := fun j => !(cf u j == cf v j)) (xs := List.range n) (g' := GS d5 p ni (tupI w) (tupI v) g (.own ((k :: ks).map intN)) (.val (.int (manyR p n w g))) (.val (tupI u)) .un) (gw := GS d5 p ni (tupI w) (tupI v) g (.own ((k :: ks).map intN)) (.val (.int (manyR p n w g))) (.val (tupI u)) .un) ?_ (by rw [List.length_range]; omega) rfl rfl fun j hj => ?_
      · rw [show (List.range n).map intN = rgD 0 ni from (rgD_nat hni).symm]
        exact gr_5r (okRg' (by omega) (by omega))
      · have hj : j < n := List.mem_range.mp hj
        exact ⟨[.own d5, .val (.int p), .val (.int ni), .val (tupI w), .val (tupI v), .val (.int g), .own ((k :: ks).map intN), .val (.int (manyR p n w g)), .val (tupI u), .un, .un, .val (intN j)], [.own d5, .val (.int p), .val (.int ni), .val (tupI w), .val (tupI v), .val (.int g), .own ((k :: ks).map intN), .val (.int (manyR p n w g)), .val (tupI u), .un, .un, .val (intN j)], rfl, gr_10q (at_cf (by omega)) (at_cf (by omega)) rfl, fun _ => ⟨.dat (intN j), [.own d5, .val (.int p), .val (.int ni), .val (tupI w), .val (tupI v), .val (.int g), .own ((k :: ks).map intN), .val (.int (manyR p n w g)), .val (tupI u), .un, .un, .val (intN j)], [.own d5, .val (.int p), .val (.int ni), .val (tupI w), .val (tupI v), .val (.int g), .own ((k :: ks).map intN), .val (.int (manyR p n w g)), .val (tupI u), .un, .un, .val (intN j)], rfl, rfl, rfl⟩, fun _ => rfl⟩
    have hcut : EV.cutD ((k :: ks).map intN) none (some 1) = [k].map intN := by rw [cut_takeA (ki := 1) _ 1 (by rfl)]; rfl
    have hin : dInD false (.list (UL.map intN)) (.tuple [.list [], .list ([k].map intN)]) = some (.dat (.bool true)) := by
      rw [d_inDd (n := 1) (m := 2) (flat_nat (m := 0) UL) (flat_tuple (n := 1) fun x hx => by
        simp only [List.mem_cons, List.not_mem_nil, or_false] at hx
        rcases hx with rfl | rfl
        · exact flat_nat (m := 0) []
        · exact flat_nat (m := 0) [k])]
      have ht : inD (.list (UL.map intN)) [.list [], .list ([k].map intN)] = true := by
        unfold inD
        rw [List.any_eq_true]
        rcases ul with h | h
        · exact ⟨_, List.mem_cons_self, nat_eqv UL [] h⟩
        · exact ⟨_, List.mem_cons_of_mem _ List.mem_cons_self, nat_eqv UL [k] h⟩
      rw [if_neg (by simp), ht]
    have hneq : dEq (.list ((k :: ks).map intN)) (.list []) = some (.dat (.bool false)) := by
      rw [d_eqNil (n := 1) (flat_nat (m := 0) (k :: ks))]
      rfl
    exact b1211 (pre ((seq_nx (gr_9n hneq)).trans ((seq_nx (gr_10 eL)).trans (gr_11 eU hcut hin (by rw [List.length_map, lu, hni])))))
end Lib
end
section
set_option exponentiation.threshold 3000
namespace K01
open PySem PySem.Spec PyProof.Rows L2 EV
open Lib
/-! ### the vectors of a sum -/
def fib (p : Int) (n : Nat) (w : List Int) (g : Int) : List (List Int) := (vecs p n).filter fun v => dotZ w v % p == g
section
variable {p : Int} {n : Nat} {w : List Int}
theorem mem_fib {g : Int} {v : List Int} : v ∈ fib p n w g ↔ (v.length = n ∧ InF p v) ∧ dotZ w v % p = g := by
  unfold fib
  rw [List.mem_filter, mem_vecs, beq_iff_eq]
theorem dot_flat : ∀ (Z U : List Int), (∀ z ∈ Z, z = 0) → dotZ Z U = 0
  | [], U, _ => by cases U <;> rfl
  | z :: Z, [], _ => rfl
  | z :: Z, y :: U, h => by
    show z * y + dotZ Z U = 0
    rw [dot_flat Z U fun x hx => h x (List.mem_cons_of_mem _ hx), h z List.mem_cons_self]
    omega
theorem heavy_cut (hf : isFld p = true) (hw : InF p w) (lw : w.length = n) (hh : heavyR n w ≠ []) : ∃ us a zs, w = us ++ [a] ++ zs ∧ 0 < a ∧ a < p ∧ (∀ z ∈ zs, z = 0) ∧ us.length + 1 + zs.length = n := by
  have hp := fld_pos hf
  obtain ⟨ks, l, hl⟩ : ∃ ks l, heavyR n w = ks ++ [l] := ⟨(heavyR n w).dropLast, (heavyR n w).getLast hh, (List.dropLast_concat_getLast hh).symm⟩
  have lm : l ∈ heavyR n w := by rw [hl]; exact List.mem_append_right _ (List.mem_singleton.mpr rfl)
  obtain ⟨l1, l2⟩ := List.mem_filter.mp lm
  have ln : l < n := List.mem_range.mp l1
  have ne0 : cf w l ≠ 0 := by simpa using l2
  have bw := cf_in (show 0 < p by omega) hw l
  have late : ∀ k, l < k → k < n → cf w k = 0 := fun k hlk hk => Classical.byContradiction fun z => by
    have km : k ∈ heavyR n w := List.mem_filter.mpr ⟨List.mem_range.mpr hk, by simpa using z⟩
    have pw : (heavyR n w).Pairwise (· < ·) := List.Pairwise.filter _ List.pairwise_lt_range
    rw [hl] at km pw
    obtain ⟨_, _, p3⟩ := List.pairwise_append.mp pw
    rcases List.mem_append.mp km with q | q
    · have := p3 k q l (List.mem_singleton.mpr rfl)
      omega
    · rw [List.mem_singleton.mp q] at hlk
      omega
  have ew : w = w.take l ++ [cf w l] ++ w.drop (l + 1) := by
    rw [set_cut (x := cf w l) w l (by omega)]
    refine (List.ext_getElem (by rw [List.length_set]) fun i h1 h2 => ?_)
    rw [List.getElem_set]
    split
    · rename_i e
      subst e
      rw [cf_at h1]
    · rfl
  refine ⟨w.take l, cf w l, w.drop (l + 1), ew, by omega, bw.2, fun z hz => ?_, by rw [List.length_take, List.length_drop]; omega⟩
  obtain ⟨i, hi, rfl⟩ := List.mem_iff_getElem.mp hz
  rw [List.length_drop] at hi
  rw [List.getElem_drop]
  have := late (l + 1 + i) (by omega) (by omega)
  rw [cf_at (by omega)] at this
  exact this
theorem len_fm {α β : Type} {f : α → List β} {c : Nat} : ∀ {xs : List α}, (∀ x ∈ xs, (f x).length = c) → (xs.flatMap f).length = xs.length * c
  | [], _ => by simp
  | x :: xs, h => by
    rw [List.flatMap_cons, List.length_append, len_fm (fun y hy => h y (List.mem_cons_of_mem _ hy)), h x List.mem_cons_self, List.length_cons, Nat.add_mul]
    omega
theorem fib_many (hf : isFld p = true) (hw : InF p w) (lw : w.length = n) {g : Int} (g0 : 0 ≤ g) (g1 : g < p) : (((fib p n w g).length : Nat) : Int) = manyR p n w g := by
  have hp := fld_pos hf
  have cast : ∀ k : Nat, ((p.toNat ^ k : Nat) : Int) = p ^ k := fun k => by rw [Int.natCast_pow, Int.toNat_of_nonneg (by omega)]
  unfold manyR
  by_cases hh : heavyR n w = []
  · rw [if_pos hh]
    have z := (heavy_nil lw).mp hh
    unfold fib
    by_cases gz : g = 0
    · rw [if_pos gz, List.filter_eq_self.mpr fun v _ => by rw [dot_flat w v z, gz]; simp, len_vecs, cast]
    · rw [if_neg gz, List.filter_eq_nil_iff.mpr fun v _ => by rw [dot_flat w v z, Int.zero_emod]; simpa using fun e => gz e.symm]
      rfl
  · rw [if_neg hh]
    obtain ⟨us, a, zs, ew, a0, a1, hz, ln⟩ := heavy_cut hf hw lw hh
    have sf := sol_filter (p := p) hf (us := us) (zs := zs) (a := a) (g := g) (t := zs.length) a0 a1 hz rfl g0 g1
    unfold fib
    rw [ew, ← ln, ← sf]
    unfold solR
    rw [len_fm (c := p.toNat ^ zs.length) fun h _ => by rw [List.length_map, len_vecs], len_vecs, ← Nat.pow_add, cast, show us.length + zs.length = us.length + 1 + zs.length - 1 by omega]
/-- a vector moved to a sum -/
def mvR (p : Int) (w : List Int) (k : Nat) (g : Int) (v : List Int) : List Int := v.set k ((cf v k + (g - dotZ w v % p) * (cf w k ^ (p - 2).toNat % p)) % p)
theorem movR_cons {k : Nat} {ks : List Nat} (h : heavyR n w = k :: ks) (v : List Int) (g : Int) : movR p n w v g = some (mvR p w k g v) := by
  unfold movR
  rw [h]
  rfl
theorem movR_nil (h : heavyR n w = []) (v : List Int) (g : Int) : movR p n w v g = none := by
  unfold movR
  rw [h]
  rfl
theorem mv_fib (hf : isFld p = true) (hw : InF p w) (lw : w.length = n) {k : Nat} (hk : k < n) (ne : cf w k ≠ 0) {one g : Int} (g0 : 0 ≤ g) (g1 : g < p) {v : List Int} (hv : v ∈ fib p n w one) : mvR p w k g v ∈ fib p n w g ∧ mvR p w k one (mvR p w k g v) = v := by
  have hp := fld_pos hf
  obtain ⟨⟨lv, iv⟩, dv⟩ := mem_fib.mp hv
  have l2 : (mvR p w k g v).length = n := by unfold mvR; rw [List.length_set, lv]
  have md : dotZ w (mvR p w k g v) % p = g := mov_dot hf hw lw lv hk ne g0 g1
  refine ⟨mem_fib.mpr ⟨⟨l2, fun x hx => ?_⟩, md⟩, ?_⟩
  · unfold mvR at hx
    rcases List.mem_or_eq_of_mem_set hx with h | h
    · exact iv x h
    · rw [h]
      exact ⟨Int.emod_nonneg _ (by omega), Int.emod_lt_of_pos _ (by omega)⟩
  · obtain ⟨u, hu⟩ : ∃ u, mvR p w k g v = u := ⟨_, rfl⟩
    have cu : cf u k = (cf v k + (g - one) * (cf w k ^ (p - 2).toNat % p)) % p := by
      rw [← hu]
      unfold mvR
      rw [dv]
      unfold cf
      rw [List.getD_eq_getElem?_getD, List.getElem?_set_self (by omega)]
      rfl
    rw [hu] at md ⊢
    unfold mvR
    rw [md, cu]
    have bv := cf_in (show 0 < p by omega) iv k
    have e : ((cf v k + (g - one) * (cf w k ^ (p - 2).toNat % p)) % p + (one - g) * (cf w k ^ (p - 2).toNat % p)) % p = cf v k := by
      rw [Int.emod_add_emod, show cf v k + (g - one) * (cf w k ^ (p - 2).toNat % p) + (one - g) * (cf w k ^ (p - 2).toNat % p) = cf v k by
        rw [show one - g = -(g - one) by omega, Int.neg_mul]; omega]
      exact Int.emod_eq_of_lt bv.1 bv.2
    rw [e, ← hu]
    unfold mvR
    rw [List.set_set]
    refine List.ext_getElem (by rw [List.length_set]) fun i h1 h2 => ?_
    rw [List.getElem_set]
    split
    · rename_i e
      subst e
      rw [cf_at h2]
    · rfl
theorem fib_asc (g : Int) : (fib p n w g).Pairwise fun a b => HT.lexLt a b = true := (vecs_asc p n).filter _
theorem led_sorted (hf : isFld p = true) (hw : InF p w) (lw : w.length = n) {k : Nat} (hk : k < n) (ne : cf w k ≠ 0) {one g : Int} (o0 : 0 ≤ one) (o1 : one < p) (g0 : 0 ≤ g) (g1 : g < p) : sortR ((fib p n w one).map (mvR p w k g)) = fib p n w g := by
  refine (sortR_eq ?_ ((fib_asc g).imp fun {a b} h => NtL.lex_asym _ _ h)).symm
  have ndf : ∀ g, (fib p n w g).Nodup := fun g => (fib_asc g).imp fun {a b} h e => by
    subst e
    have := NtL.lex_asym _ _ h
    rw [h] at this
    cases this
  have nd2 : ((fib p n w one).map (mvR p w k g)).Nodup := by
    refine List.pairwise_map.mpr ((ndf one).imp_of_mem fun {a b} ha hb h e => h ?_)
    rw [← (mv_fib hf hw lw hk ne g0 g1 ha).2, ← (mv_fib hf hw lw hk ne g0 g1 hb).2, e]
  refine (List.perm_ext_iff_of_nodup (ndf g) nd2).mpr fun a => ⟨fun h => ?_, fun h => ?_⟩
  · obtain ⟨h1, h2⟩ := mv_fib hf hw lw hk ne o0 o1 h
    exact List.mem_map.mpr ⟨_, h1, h2⟩
  · obtain ⟨v, hv, rfl⟩ := List.mem_map.mp h
    exact (mv_fib hf hw lw hk ne g0 g1 hv).1
end
/-! ### the groups while the vectors are put in -/
/-- the rows of the groups, the vectors of L put in -/
def grpR (p : Int) (w : List Int) (L : List (List Int)) : List (List Da) := (List.range p.toNat).map fun g : Nat => ((L.filter fun v => dotZ w v % p == (g : Int)).map tupI)
section
variable {p : Int} {w : List Int}
theorem grpR_nil : grpR p w [] = List.replicate p.toNat [] := by
  unfold grpR
  exact (List.eq_replicate_iff.mpr ⟨by rw [List.length_map, List.length_range], fun b hb => by
    obtain ⟨g, _, rfl⟩ := List.mem_map.mp hb
    rfl⟩)
theorem grpR_at {L : List (List Int)} {m : Nat} (hm : m < p.toNat) : (grpR p w L)[m]? = some ((L.filter fun v => dotZ w v % p == (m : Int)).map tupI) := by
  unfold grpR
  rw [List.getElem?_map, List.getElem?_range hm]
  rfl
theorem grpR_put {L : List (List Int)} {v : List Int} {m : Nat} (hm : m < p.toNat) (e : dotZ w v % p = (m : Int)) : (grpR p w L).set m ((L.filter fun v => dotZ w v % p == (m : Int)).map tupI ++ [tupI v]) = grpR p w (L ++ [v]) := by
  unfold grpR
  refine List.ext_getElem (by simp) fun i h1 h2 => ?_
  rw [List.getElem_set]
  simp only [List.getElem_map, List.getElem_range]
  rw [List.filter_append, List.map_append]
  by_cases h : m = i
  · subst h
    rw [if_pos rfl]
    congr 1
    rw [List.filter_cons_of_pos (by rw [beq_iff_eq]; exact e)]
    rfl
  · rw [if_neg h, List.filter_cons_of_neg (by rw [beq_iff_eq, e]; omega)]
    simp
end
end K01
end
section
set_option exponentiation.threshold 3000
namespace K01
open PySem PySem.Spec PyProof.Rows L2 EV
open Lib
/-! ### one small case of the law -/
abbrev GT (ds : List Da) (p n : Int) (W : Da) (E B S6 S7 S8 S9 S10 S11 : Sl) : Gh := [.own ds, .val (.int p), .val (.int n), .val W, E, B, S6, S7, S8, S9, S10, S11, .un]
section
variable {p n : Int} {ds : List Da} {W : Da}
theorem sr_1 {PK : MF} {d1 : List Da} (e : PK [.own ds, .val (.list [.int 5, .int 5, .int 7])] = some (.dat (.int p), [.own d1, .val (.list [.int 5, .int 5, .int 7])])) : (sSet 1 (mFnD PK (mCons (mName 0) (mCons (mLst (mCons (mC (.int 5)) (mCons (mC (.int 5)) (mCons (mC (.int 7)) mNil)))) mNil)))) [.own ds, .un, .un, .un, .un, .un, .un, .un, .un, .un, .un, .un, .un] = some (.nx, [.own d1, .val (.int p), .un, .un, .un, .un, .un, .un, .un, .un, .un, .un, .un]) := by
  simp only [e_bodyM, e_seq, e_nil, e_if, e_set, e_ret, e_drop, e_par, e_asg, e_for, e_app, e_setix, e_aug, e_name, e_c, e_anil, e_acons, e_bin, e_cmp, e_brk, e_cnt, e_retn, e_ix, e_call, e_fn, e_fn0, e_fnD, e_ifx, e_oft, e_tru, e_not, e_and, e_or, e_andv, e_orv, e_notv, e_neg, e_isi, e_chain, e_lst, e_tup, e_it, e_rg1, e_rg2, e_zip, e_enum, e_revi, e_rev, e_o0, e_o1, e_sl, e_dict0, e_yes, e_comp, e_pop, e_asB, e_toDd, e_toDf, e_toDs, e_lkd, e_lkf, e_lks, e_lan, e_lac, e_tdn, e_tdc, e_tsn, e_tsd, e_tsf, e_tss, e_snd, e_snf, e_snn, e_snc, e_sod, e_sof, e_st, e_fln, e_keep, e_itl, e_itt, e_rr1, e_rr2, e_tupRg, e_lstRg, e_revR, e_popAt, e_ext, e_tupRev, e_repL, e_lenSet, e_enumA, e_zipA, e_zip3, d_addT, flat1,
  d_add, d_sub, d_lt, d_le, d_gt, d_ge, d_eq, d_ne, d_ixl, d_ixt, d_lenl, d_lent, d_inti, d_intb, d_abs, d_max2, d_min2, d_tupl, d_tupt, d_lsl, d_lst, d_rb, t_b, t_i, t_l, t_t, is_nb, is_bb, k_ii, k_ib, k_bi, k_bb, k_ni, k_si, k_ti, k_li, k_di, k_tt, isNone, isBl,
  Option.bind_some, Option.bind_none, Option.map_some, Option.map_none, List.append_nil, List.cons_append, List.nil_append, List.replicate, List.getElem?_cons_zero, List.getElem?_cons_succ, List.getElem?_nil, List.set_cons_zero, List.set_cons_succ, List.length_cons, List.length_nil, List.mapIdx_cons, List.mapIdx_nil, List.contains_nil, List.contains_cons, Bool.false_eq_true, if_true, if_false, reduceIte, Bool.not_true, Bool.not_false, Option.getD_some, Function.comp, List.map_cons, List.map_nil,
  Nat.reduceLT, Nat.reduceAdd, Nat.reduceBEq, Nat.reduceEqDiff, Nat.reduceLeDiff, Int.reduceLT, Int.reduceLE, decide_true, decide_false, beq_self_eq_true, Bool.or_false, Bool.or_true, Bool.true_or, Bool.false_or, Bool.and_true, Bool.true_and, Bool.and_false, Bool.false_and, and_self, Nat.zero_add, e, z3]
theorem sr_2 {RL : MF} {d1 : List Da} {m : Int} {b : Bool} (hb : (p == 5) = b) (hm : (if b = true then (5 : Int) else 4) = m) (e : RL [.own ds, .val (.int m)] = some (.dat (.int n), [.own d1, .val (.int m)])) : (sSet 2 (mFnD RL (mCons (mName 0) (mCons (mIf (mCmp dEq (mName 1) (mC (.int 5))) (mC (.int 5)) (mC (.int 4))) mNil)))) [.own ds, .val (.int p), .un, .un, .un, .un, .un, .un, .un, .un, .un, .un, .un] = some (.nx, [.own d1, .val (.int p), .val (.int n), .un, .un, .un, .un, .un, .un, .un, .un, .un, .un]) := by
  cases b with
  | true =>
    rw [if_pos rfl] at hm
    subst hm
    simp only [e_bodyM, e_seq, e_nil, e_if, e_set, e_ret, e_drop, e_par, e_asg, e_for, e_app, e_setix, e_aug, e_name, e_c, e_anil, e_acons, e_bin, e_cmp, e_brk, e_cnt, e_retn, e_ix, e_call, e_fn, e_fn0, e_fnD, e_ifx, e_oft, e_tru, e_not, e_and, e_or, e_andv, e_orv, e_notv, e_neg, e_isi, e_chain, e_lst, e_tup, e_it, e_rg1, e_rg2, e_zip, e_enum, e_revi, e_rev, e_o0, e_o1, e_sl, e_dict0, e_yes, e_comp, e_pop, e_asB, e_toDd, e_toDf, e_toDs, e_lkd, e_lkf, e_lks, e_lan, e_lac, e_tdn, e_tdc, e_tsn, e_tsd, e_tsf, e_tss, e_snd, e_snf, e_snn, e_snc, e_sod, e_sof, e_st, e_fln, e_keep, e_itl, e_itt, e_rr1, e_rr2, e_tupRg, e_lstRg, e_revR, e_popAt, e_ext, e_tupRev, e_repL, e_lenSet, e_enumA, e_zipA, e_zip3, d_addT, flat1,
  d_add, d_sub, d_lt, d_le, d_gt, d_ge, d_eq, d_ne, d_ixl, d_ixt, d_lenl, d_lent, d_inti, d_intb, d_abs, d_max2, d_min2, d_tupl, d_tupt, d_lsl, d_lst, d_rb, t_b, t_i, t_l, t_t, is_nb, is_bb, k_ii, k_ib, k_bi, k_bb, k_ni, k_si, k_ti, k_li, k_di, k_tt, isNone, isBl,
  Option.bind_some, Option.bind_none, Option.map_some, Option.map_none, List.append_nil, List.cons_append, List.nil_append, List.replicate, List.getElem?_cons_zero, List.getElem?_cons_succ, List.getElem?_nil, List.set_cons_zero, List.set_cons_succ, List.length_cons, List.length_nil, List.mapIdx_cons, List.mapIdx_nil, List.contains_nil, List.contains_cons, Bool.false_eq_true, if_true, if_false, reduceIte, Bool.not_true, Bool.not_false, Option.getD_some, Function.comp, List.map_cons, List.map_nil,
  Nat.reduceLT, Nat.reduceAdd, Nat.reduceBEq, Nat.reduceEqDiff, Nat.reduceLeDiff, Int.reduceLT, Int.reduceLE, decide_true, decide_false, beq_self_eq_true, Bool.or_false, Bool.or_true, Bool.true_or, Bool.false_or, Bool.and_true, Bool.true_and, Bool.and_false, Bool.false_and, and_self, Nat.zero_add, hb, e]
  | false =>
    rw [if_neg (by decide)] at hm
    subst hm
    simp only [e_bodyM, e_seq, e_nil, e_if, e_set, e_ret, e_drop, e_par, e_asg, e_for, e_app, e_setix, e_aug, e_name, e_c, e_anil, e_acons, e_bin, e_cmp, e_brk, e_cnt, e_retn, e_ix, e_call, e_fn, e_fn0, e_fnD, e_ifx, e_oft, e_tru, e_not, e_and, e_or, e_andv, e_orv, e_notv, e_neg, e_isi, e_chain, e_lst, e_tup, e_it, e_rg1, e_rg2, e_zip, e_enum, e_revi, e_rev, e_o0, e_o1, e_sl, e_dict0, e_yes, e_comp, e_pop, e_asB, e_toDd, e_toDf, e_toDs, e_lkd, e_lkf, e_lks, e_lan, e_lac, e_tdn, e_tdc, e_tsn, e_tsd, e_tsf, e_tss, e_snd, e_snf, e_snn, e_snc, e_sod, e_sof, e_st, e_fln, e_keep, e_itl, e_itt, e_rr1, e_rr2, e_tupRg, e_lstRg, e_revR, e_popAt, e_ext, e_tupRev, e_repL, e_lenSet, e_enumA, e_zipA, e_zip3, d_addT, flat1,
  d_add, d_sub, d_lt, d_le, d_gt, d_ge, d_eq, d_ne, d_ixl, d_ixt, d_lenl, d_lent, d_inti, d_intb, d_abs, d_max2, d_min2, d_tupl, d_tupt, d_lsl, d_lst, d_rb, t_b, t_i, t_l, t_t, is_nb, is_bb, k_ii, k_ib, k_bi, k_bb, k_ni, k_si, k_ti, k_li, k_di, k_tt, isNone, isBl,
  Option.bind_some, Option.bind_none, Option.map_some, Option.map_none, List.append_nil, List.cons_append, List.nil_append, List.replicate, List.getElem?_cons_zero, List.getElem?_cons_succ, List.getElem?_nil, List.set_cons_zero, List.set_cons_succ, List.length_cons, List.length_nil, List.mapIdx_cons, List.mapIdx_nil, List.contains_nil, List.contains_cons, Bool.false_eq_true, if_true, if_false, reduceIte, Bool.not_true, Bool.not_false, Option.getD_some, Function.comp, List.map_cons, List.map_nil,
  Nat.reduceLT, Nat.reduceAdd, Nat.reduceBEq, Nat.reduceEqDiff, Nat.reduceLeDiff, Int.reduceLT, Int.reduceLE, decide_true, decide_false, beq_self_eq_true, Bool.or_false, Bool.or_true, Bool.true_or, Bool.false_or, Bool.and_true, Bool.true_and, Bool.and_false, Bool.false_and, and_self, Nat.zero_add, hb, e]
theorem sr_3 {WD : MF} {d1 : List Da} (e : WD [.own ds, .val (.int p), .val (.int n)] = some (.dat W, [.own d1, .val (.int p), .val (.int n)])) : (sSet 3 (mFnD WD (mCons (mName 0) (mCons (mName 1) (mCons (mName 2) mNil))))) [.own ds, .val (.int p), .val (.int n), .un, .un, .un, .un, .un, .un, .un, .un, .un, .un] = some (.nx, [.own d1, .val (.int p), .val (.int n), .val W, .un, .un, .un, .un, .un, .un, .un, .un, .un]) := by
  simp only [e_bodyM, e_seq, e_nil, e_if, e_set, e_ret, e_drop, e_par, e_asg, e_for, e_app, e_setix, e_aug, e_name, e_c, e_anil, e_acons, e_bin, e_cmp, e_brk, e_cnt, e_retn, e_ix, e_call, e_fn, e_fn0, e_fnD, e_ifx, e_oft, e_tru, e_not, e_and, e_or, e_andv, e_orv, e_notv, e_neg, e_isi, e_chain, e_lst, e_tup, e_it, e_rg1, e_rg2, e_zip, e_enum, e_revi, e_rev, e_o0, e_o1, e_sl, e_dict0, e_yes, e_comp, e_pop, e_asB, e_toDd, e_toDf, e_toDs, e_lkd, e_lkf, e_lks, e_lan, e_lac, e_tdn, e_tdc, e_tsn, e_tsd, e_tsf, e_tss, e_snd, e_snf, e_snn, e_snc, e_sod, e_sof, e_st, e_fln, e_keep, e_itl, e_itt, e_rr1, e_rr2, e_tupRg, e_lstRg, e_revR, e_popAt, e_ext, e_tupRev, e_repL, e_lenSet, e_enumA, e_zipA, e_zip3, d_addT, flat1,
  d_add, d_sub, d_lt, d_le, d_gt, d_ge, d_eq, d_ne, d_ixl, d_ixt, d_lenl, d_lent, d_inti, d_intb, d_abs, d_max2, d_min2, d_tupl, d_tupt, d_lsl, d_lst, d_rb, t_b, t_i, t_l, t_t, is_nb, is_bb, k_ii, k_ib, k_bi, k_bb, k_ni, k_si, k_ti, k_li, k_di, k_tt, isNone, isBl,
  Option.bind_some, Option.bind_none, Option.map_some, Option.map_none, List.append_nil, List.cons_append, List.nil_append, List.replicate, List.getElem?_cons_zero, List.getElem?_cons_succ, List.getElem?_nil, List.set_cons_zero, List.set_cons_succ, List.length_cons, List.length_nil, List.mapIdx_cons, List.mapIdx_nil, List.contains_nil, List.contains_cons, Bool.false_eq_true, if_true, if_false, reduceIte, Bool.not_true, Bool.not_false, Option.getD_some, Function.comp, List.map_cons, List.map_nil,
  Nat.reduceLT, Nat.reduceAdd, Nat.reduceBEq, Nat.reduceEqDiff, Nat.reduceLeDiff, Int.reduceLT, Int.reduceLE, decide_true, decide_false, beq_self_eq_true, Bool.or_false, Bool.or_true, Bool.true_or, Bool.false_or, Bool.and_true, Bool.true_and, Bool.and_false, Bool.false_and, and_self, Nat.zero_add, e]
theorem sr_4a {LA : MF} {w : Wv} {h : Gh} (hw : (∃ L, w = .fresh L) ∨ ∃ d, w = .dat d) (e : LA [.val (.int p), .val (.int n)] = some (w, h)) : (mFn LA (mCons (mName 1) (mCons (mName 2) mNil))) [.own ds, .val (.int p), .val (.int n), .val W, .un, .un, .un, .un, .un, .un, .un, .un, .un] = some (w, [.own ds, .val (.int p), .val (.int n), .val W, .un, .un, .un, .un, .un, .un, .un, .un, .un]) := by
  rcases hw with ⟨L, rfl⟩ | ⟨d, rfl⟩ <;> simp only [e_bodyM, e_seq, e_nil, e_if, e_set, e_ret, e_drop, e_par, e_asg, e_for, e_app, e_setix, e_aug, e_name, e_c, e_anil, e_acons, e_bin, e_cmp, e_brk, e_cnt, e_retn, e_ix, e_call, e_fn, e_fn0, e_fnD, e_ifx, e_oft, e_tru, e_not, e_and, e_or, e_andv, e_orv, e_notv, e_neg, e_isi, e_chain, e_lst, e_tup, e_it, e_rg1, e_rg2, e_zip, e_enum, e_revi, e_rev, e_o0, e_o1, e_sl, e_dict0, e_yes, e_comp, e_pop, e_asB, e_toDd, e_toDf, e_toDs, e_lkd, e_lkf, e_lks, e_lan, e_lac, e_tdn, e_tdc, e_tsn, e_tsd, e_tsf, e_tss, e_snd, e_snf, e_snn, e_snc, e_sod, e_sof, e_st, e_fln, e_keep, e_itl, e_itt, e_rr1, e_rr2, e_tupRg, e_lstRg, e_revR, e_popAt, e_ext, e_tupRev, e_repL, e_lenSet, e_enumA, e_zipA, e_zip3, d_addT, flat1,
  d_add, d_sub, d_lt, d_le, d_gt, d_ge, d_eq, d_ne, d_ixl, d_ixt, d_lenl, d_lent, d_inti, d_intb, d_abs, d_max2, d_min2, d_tupl, d_tupt, d_lsl, d_lst, d_rb, t_b, t_i, t_l, t_t, is_nb, is_bb, k_ii, k_ib, k_bi, k_bb, k_ni, k_si, k_ti, k_li, k_di, k_tt, isNone, isBl,
  Option.bind_some, Option.bind_none, Option.map_some, Option.map_none, List.append_nil, List.cons_append, List.nil_append, List.replicate, List.getElem?_cons_zero, List.getElem?_cons_succ, List.getElem?_nil, List.set_cons_zero, List.set_cons_succ, List.length_cons, List.length_nil, List.mapIdx_cons, List.mapIdx_nil, List.contains_nil, List.contains_cons, Bool.false_eq_true, if_true, if_false, reduceIte, Bool.not_true, Bool.not_false, Option.getD_some, Function.comp, List.map_cons, List.map_nil,
  Nat.reduceLT, Nat.reduceAdd, Nat.reduceBEq, Nat.reduceEqDiff, Nat.reduceLeDiff, Int.reduceLT, Int.reduceLE, decide_true, decide_false, beq_self_eq_true, Bool.or_false, Bool.or_true, Bool.true_or, Bool.false_or, Bool.and_true, Bool.true_and, Bool.and_false, Bool.false_and, and_self, Nat.zero_add, e]
theorem sr_4r (ok : okRg p = true) : mRg1 (mCons (mName 1) mNil) [.own ds, .val (.int p), .val (.int n), .val W, .un, .un, .un, .un, .un, .un, .un, .un, .un] = some (rgD 0 p, [.own ds, .val (.int p), .val (.int n), .val W, .un, .un, .un, .un, .un, .un, .un, .un, .un]) := by
  simp only [e_bodyM, e_seq, e_nil, e_if, e_set, e_ret, e_drop, e_par, e_asg, e_for, e_app, e_setix, e_aug, e_name, e_c, e_anil, e_acons, e_bin, e_cmp, e_brk, e_cnt, e_retn, e_ix, e_call, e_fn, e_fn0, e_fnD, e_ifx, e_oft, e_tru, e_not, e_and, e_or, e_andv, e_orv, e_notv, e_neg, e_isi, e_chain, e_lst, e_tup, e_it, e_rg1, e_rg2, e_zip, e_enum, e_revi, e_rev, e_o0, e_o1, e_sl, e_dict0, e_yes, e_comp, e_pop, e_asB, e_toDd, e_toDf, e_toDs, e_lkd, e_lkf, e_lks, e_lan, e_lac, e_tdn, e_tdc, e_tsn, e_tsd, e_tsf, e_tss, e_snd, e_snf, e_snn, e_snc, e_sod, e_sof, e_st, e_fln, e_keep, e_itl, e_itt, e_rr1, e_rr2, e_tupRg, e_lstRg, e_revR, e_popAt, e_ext, e_tupRev, e_repL, e_lenSet, e_enumA, e_zipA, e_zip3, d_addT, flat1,
  d_add, d_sub, d_lt, d_le, d_gt, d_ge, d_eq, d_ne, d_ixl, d_ixt, d_lenl, d_lent, d_inti, d_intb, d_abs, d_max2, d_min2, d_tupl, d_tupt, d_lsl, d_lst, d_rb, t_b, t_i, t_l, t_t, is_nb, is_bb, k_ii, k_ib, k_bi, k_bb, k_ni, k_si, k_ti, k_li, k_di, k_tt, isNone, isBl,
  Option.bind_some, Option.bind_none, Option.map_some, Option.map_none, List.append_nil, List.cons_append, List.nil_append, List.replicate, List.getElem?_cons_zero, List.getElem?_cons_succ, List.getElem?_nil, List.set_cons_zero, List.set_cons_succ, List.length_cons, List.length_nil, List.mapIdx_cons, List.mapIdx_nil, List.contains_nil, List.contains_cons, Bool.false_eq_true, if_true, if_false, reduceIte, Bool.not_true, Bool.not_false, Option.getD_some, Function.comp, List.map_cons, List.map_nil,
  Nat.reduceLT, Nat.reduceAdd, Nat.reduceBEq, Nat.reduceEqDiff, Nat.reduceLeDiff, Int.reduceLT, Int.reduceLE, decide_true, decide_false, beq_self_eq_true, Bool.or_false, Bool.or_true, Bool.true_or, Bool.false_or, Bool.and_true, Bool.true_and, Bool.and_false, Bool.false_and, and_self, Nat.zero_add, ok]
theorem sr_5i {E B : Sl} {L : List Da} (h : E = .own L ∨ E = .val (.list L)) : mIt (mName 4) (GT ds p n W E B .un .un .un .un .un .un) = some (L, GT ds p n W (.val (.list L)) B .un .un .un .un .un .un) := by
  rcases h with rfl | rfl <;> simp only [e_bodyM, e_seq, e_nil, e_if, e_set, e_ret, e_drop, e_par, e_asg, e_for, e_app, e_setix, e_aug, e_name, e_c, e_anil, e_acons, e_bin, e_cmp, e_brk, e_cnt, e_retn, e_ix, e_call, e_fn, e_fn0, e_fnD, e_ifx, e_oft, e_tru, e_not, e_and, e_or, e_andv, e_orv, e_notv, e_neg, e_isi, e_chain, e_lst, e_tup, e_it, e_rg1, e_rg2, e_zip, e_enum, e_revi, e_rev, e_o0, e_o1, e_sl, e_dict0, e_yes, e_comp, e_pop, e_asB, e_toDd, e_toDf, e_toDs, e_lkd, e_lkf, e_lks, e_lan, e_lac, e_tdn, e_tdc, e_tsn, e_tsd, e_tsf, e_tss, e_snd, e_snf, e_snn, e_snc, e_sod, e_sof, e_st, e_fln, e_keep, e_itl, e_itt, e_rr1, e_rr2, e_tupRg, e_lstRg, e_revR, e_popAt, e_ext, e_tupRev, e_repL, e_lenSet, e_enumA, e_zipA, e_zip3, d_addT, flat1,
  d_add, d_sub, d_lt, d_le, d_gt, d_ge, d_eq, d_ne, d_ixl, d_ixt, d_lenl, d_lent, d_inti, d_intb, d_abs, d_max2, d_min2, d_tupl, d_tupt, d_lsl, d_lst, d_rb, t_b, t_i, t_l, t_t, is_nb, is_bb, k_ii, k_ib, k_bi, k_bb, k_ni, k_si, k_ti, k_li, k_di, k_tt, isNone, isBl,
  Option.bind_some, Option.bind_none, Option.map_some, Option.map_none, List.append_nil, List.cons_append, List.nil_append, List.replicate, List.getElem?_cons_zero, List.getElem?_cons_succ, List.getElem?_nil, List.set_cons_zero, List.set_cons_succ, List.length_cons, List.length_nil, List.mapIdx_cons, List.mapIdx_nil, List.contains_nil, List.contains_cons, Bool.false_eq_true, if_true, if_false, reduceIte, Bool.not_true, Bool.not_false, Option.getD_some, Function.comp, List.map_cons, List.map_nil,
  Nat.reduceLT, Nat.reduceAdd, Nat.reduceBEq, Nat.reduceEqDiff, Nat.reduceLeDiff, Int.reduceLT, Int.reduceLE, decide_true, decide_false, beq_self_eq_true, Bool.or_false, Bool.or_true, Bool.true_or, Bool.false_or, Bool.and_true, Bool.true_and, Bool.and_false, Bool.false_and, and_self, Nat.zero_add, ]
theorem sr_5f {FD : MF} {E B : Sl} {v : Da} {x : Int} {h : Gh} (e : FD [.val (.int p), .val W, .val v] = some (.dat (.int x), h)) : (mFn FD (mCons (mName 1) (mCons (mName 3) (mCons (mName 6) mNil)))) (GT ds p n W E B (.val v) .un .un .un .un .un) = some (.dat (.int x), GT ds p n W E B (.val v) .un .un .un .un .un) := by
  simp only [e_bodyM, e_seq, e_nil, e_if, e_set, e_ret, e_drop, e_par, e_asg, e_for, e_app, e_setix, e_aug, e_name, e_c, e_anil, e_acons, e_bin, e_cmp, e_brk, e_cnt, e_retn, e_ix, e_call, e_fn, e_fn0, e_fnD, e_ifx, e_oft, e_tru, e_not, e_and, e_or, e_andv, e_orv, e_notv, e_neg, e_isi, e_chain, e_lst, e_tup, e_it, e_rg1, e_rg2, e_zip, e_enum, e_revi, e_rev, e_o0, e_o1, e_sl, e_dict0, e_yes, e_comp, e_pop, e_asB, e_toDd, e_toDf, e_toDs, e_lkd, e_lkf, e_lks, e_lan, e_lac, e_tdn, e_tdc, e_tsn, e_tsd, e_tsf, e_tss, e_snd, e_snf, e_snn, e_snc, e_sod, e_sof, e_st, e_fln, e_keep, e_itl, e_itt, e_rr1, e_rr2, e_tupRg, e_lstRg, e_revR, e_popAt, e_ext, e_tupRev, e_repL, e_lenSet, e_enumA, e_zipA, e_zip3, d_addT, flat1,
  d_add, d_sub, d_lt, d_le, d_gt, d_ge, d_eq, d_ne, d_ixl, d_ixt, d_lenl, d_lent, d_inti, d_intb, d_abs, d_max2, d_min2, d_tupl, d_tupt, d_lsl, d_lst, d_rb, t_b, t_i, t_l, t_t, is_nb, is_bb, k_ii, k_ib, k_bi, k_bb, k_ni, k_si, k_ti, k_li, k_di, k_tt, isNone, isBl,
  Option.bind_some, Option.bind_none, Option.map_some, Option.map_none, List.append_nil, List.cons_append, List.nil_append, List.replicate, List.getElem?_cons_zero, List.getElem?_cons_succ, List.getElem?_nil, List.set_cons_zero, List.set_cons_succ, List.length_cons, List.length_nil, List.mapIdx_cons, List.mapIdx_nil, List.contains_nil, List.contains_cons, Bool.false_eq_true, if_true, if_false, reduceIte, Bool.not_true, Bool.not_false, Option.getD_some, Function.comp, List.map_cons, List.map_nil,
  Nat.reduceLT, Nat.reduceAdd, Nat.reduceBEq, Nat.reduceEqDiff, Nat.reduceLeDiff, Int.reduceLT, Int.reduceLE, decide_true, decide_false, beq_self_eq_true, Bool.or_false, Bool.or_true, Bool.true_or, Bool.false_or, Bool.and_true, Bool.true_and, Bool.and_false, Bool.false_and, and_self, Nat.zero_add, e]
theorem sr_7q {E B S6 : Sl} {x : Int} {b : Bool} (hb : (x == 0) = b) : (mCmp dNe (mName 12) (mC (.int 0))) [.own ds, .val (.int p), .val (.int n), .val W, E, B, S6, .un, .un, .un, .un, .un, .val (.int x)] = some (!b, [.own ds, .val (.int p), .val (.int n), .val W, E, B, S6, .un, .un, .un, .un, .un, .val (.int x)]) := by
  simp only [e_bodyM, e_seq, e_nil, e_if, e_set, e_ret, e_drop, e_par, e_asg, e_for, e_app, e_setix, e_aug, e_name, e_c, e_anil, e_acons, e_bin, e_cmp, e_brk, e_cnt, e_retn, e_ix, e_call, e_fn, e_fn0, e_fnD, e_ifx, e_oft, e_tru, e_not, e_and, e_or, e_andv, e_orv, e_notv, e_neg, e_isi, e_chain, e_lst, e_tup, e_it, e_rg1, e_rg2, e_zip, e_enum, e_revi, e_rev, e_o0, e_o1, e_sl, e_dict0, e_yes, e_comp, e_pop, e_asB, e_toDd, e_toDf, e_toDs, e_lkd, e_lkf, e_lks, e_lan, e_lac, e_tdn, e_tdc, e_tsn, e_tsd, e_tsf, e_tss, e_snd, e_snf, e_snn, e_snc, e_sod, e_sof, e_st, e_fln, e_keep, e_itl, e_itt, e_rr1, e_rr2, e_tupRg, e_lstRg, e_revR, e_popAt, e_ext, e_tupRev, e_repL, e_lenSet, e_enumA, e_zipA, e_zip3, d_addT, flat1,
  d_add, d_sub, d_lt, d_le, d_gt, d_ge, d_eq, d_ne, d_ixl, d_ixt, d_lenl, d_lent, d_inti, d_intb, d_abs, d_max2, d_min2, d_tupl, d_tupt, d_lsl, d_lst, d_rb, t_b, t_i, t_l, t_t, is_nb, is_bb, k_ii, k_ib, k_bi, k_bb, k_ni, k_si, k_ti, k_li, k_di, k_tt, isNone, isBl,
  Option.bind_some, Option.bind_none, Option.map_some, Option.map_none, List.append_nil, List.cons_append, List.nil_append, List.replicate, List.getElem?_cons_zero, List.getElem?_cons_succ, List.getElem?_nil, List.set_cons_zero, List.set_cons_succ, List.length_cons, List.length_nil, List.mapIdx_cons, List.mapIdx_nil, List.contains_nil, List.contains_cons, Bool.false_eq_true, if_true, if_false, reduceIte, Bool.not_true, Bool.not_false, Option.getD_some, Function.comp, List.map_cons, List.map_nil,
  Nat.reduceLT, Nat.reduceAdd, Nat.reduceBEq, Nat.reduceEqDiff, Nat.reduceLeDiff, Int.reduceLT, Int.reduceLE, decide_true, decide_false, beq_self_eq_true, Bool.or_false, Bool.or_true, Bool.true_or, Bool.false_or, Bool.and_true, Bool.true_and, Bool.and_false, Bool.false_and, and_self, Nat.zero_add, hb]
theorem sr_7 {C : ME} {E B S6 : Sl} {L : List Da} {b : Bool} (e : C (GT ds p n W E B S6 .un .un .un .un .un) = some (.fresh L, GT ds p n W E B S6 .un .un .un .un .un)) (eb : dEq (.list L) (.list []) = some (.dat (.bool b))) : (sSet 7 (mBin dEq C (mLst mNil))) (GT ds p n W E B S6 .un .un .un .un .un) = some (.nx, GT ds p n W E B S6 (.val (.bool b)) .un .un .un .un) := by
  simp only [e_bodyM, e_seq, e_nil, e_if, e_set, e_ret, e_drop, e_par, e_asg, e_for, e_app, e_setix, e_aug, e_name, e_c, e_anil, e_acons, e_bin, e_cmp, e_brk, e_cnt, e_retn, e_ix, e_call, e_fn, e_fn0, e_fnD, e_ifx, e_oft, e_tru, e_not, e_and, e_or, e_andv, e_orv, e_notv, e_neg, e_isi, e_chain, e_lst, e_tup, e_it, e_rg1, e_rg2, e_zip, e_enum, e_revi, e_rev, e_o0, e_o1, e_sl, e_dict0, e_yes, e_comp, e_pop, e_asB, e_toDd, e_toDf, e_toDs, e_lkd, e_lkf, e_lks, e_lan, e_lac, e_tdn, e_tdc, e_tsn, e_tsd, e_tsf, e_tss, e_snd, e_snf, e_snn, e_snc, e_sod, e_sof, e_st, e_fln, e_keep, e_itl, e_itt, e_rr1, e_rr2, e_tupRg, e_lstRg, e_revR, e_popAt, e_ext, e_tupRev, e_repL, e_lenSet, e_enumA, e_zipA, e_zip3, d_addT, flat1,
  d_add, d_sub, d_lt, d_le, d_gt, d_ge, d_eq, d_ne, d_ixl, d_ixt, d_lenl, d_lent, d_inti, d_intb, d_abs, d_max2, d_min2, d_tupl, d_tupt, d_lsl, d_lst, d_rb, t_b, t_i, t_l, t_t, is_nb, is_bb, k_ii, k_ib, k_bi, k_bb, k_ni, k_si, k_ti, k_li, k_di, k_tt, isNone, isBl,
  Option.bind_some, Option.bind_none, Option.map_some, Option.map_none, List.append_nil, List.cons_append, List.nil_append, List.replicate, List.getElem?_cons_zero, List.getElem?_cons_succ, List.getElem?_nil, List.set_cons_zero, List.set_cons_succ, List.length_cons, List.length_nil, List.mapIdx_cons, List.mapIdx_nil, List.contains_nil, List.contains_cons, Bool.false_eq_true, if_true, if_false, reduceIte, Bool.not_true, Bool.not_false, Option.getD_some, Function.comp, List.map_cons, List.map_nil,
  Nat.reduceLT, Nat.reduceAdd, Nat.reduceBEq, Nat.reduceEqDiff, Nat.reduceLeDiff, Int.reduceLT, Int.reduceLE, decide_true, decide_false, beq_self_eq_true, Bool.or_false, Bool.or_true, Bool.true_or, Bool.false_or, Bool.and_true, Bool.true_and, Bool.and_false, Bool.false_and, and_self, Nat.zero_add, e, eb, z0]
theorem sr_8r {E B S6 S7 : Sl} (ok : okRg p = true) : mRg1 (mCons (mName 1) mNil) (GT ds p n W E B S6 S7 .un .un .un .un) = some (rgD 0 p, GT ds p n W E B S6 S7 .un .un .un .un) := by
  simp only [e_bodyM, e_seq, e_nil, e_if, e_set, e_ret, e_drop, e_par, e_asg, e_for, e_app, e_setix, e_aug, e_name, e_c, e_anil, e_acons, e_bin, e_cmp, e_brk, e_cnt, e_retn, e_ix, e_call, e_fn, e_fn0, e_fnD, e_ifx, e_oft, e_tru, e_not, e_and, e_or, e_andv, e_orv, e_notv, e_neg, e_isi, e_chain, e_lst, e_tup, e_it, e_rg1, e_rg2, e_zip, e_enum, e_revi, e_rev, e_o0, e_o1, e_sl, e_dict0, e_yes, e_comp, e_pop, e_asB, e_toDd, e_toDf, e_toDs, e_lkd, e_lkf, e_lks, e_lan, e_lac, e_tdn, e_tdc, e_tsn, e_tsd, e_tsf, e_tss, e_snd, e_snf, e_snn, e_snc, e_sod, e_sof, e_st, e_fln, e_keep, e_itl, e_itt, e_rr1, e_rr2, e_tupRg, e_lstRg, e_revR, e_popAt, e_ext, e_tupRev, e_repL, e_lenSet, e_enumA, e_zipA, e_zip3, d_addT, flat1,
  d_add, d_sub, d_lt, d_le, d_gt, d_ge, d_eq, d_ne, d_ixl, d_ixt, d_lenl, d_lent, d_inti, d_intb, d_abs, d_max2, d_min2, d_tupl, d_tupt, d_lsl, d_lst, d_rb, t_b, t_i, t_l, t_t, is_nb, is_bb, k_ii, k_ib, k_bi, k_bb, k_ni, k_si, k_ti, k_li, k_di, k_tt, isNone, isBl,
  Option.bind_some, Option.bind_none, Option.map_some, Option.map_none, List.append_nil, List.cons_append, List.nil_append, List.replicate, List.getElem?_cons_zero, List.getElem?_cons_succ, List.getElem?_nil, List.set_cons_zero, List.set_cons_succ, List.length_cons, List.length_nil, List.mapIdx_cons, List.mapIdx_nil, List.contains_nil, List.contains_cons, Bool.false_eq_true, if_true, if_false, reduceIte, Bool.not_true, Bool.not_false, Option.getD_some, Function.comp, List.map_cons, List.map_nil,
  Nat.reduceLT, Nat.reduceAdd, Nat.reduceBEq, Nat.reduceEqDiff, Nat.reduceLeDiff, Int.reduceLT, Int.reduceLE, decide_true, decide_false, beq_self_eq_true, Bool.or_false, Bool.or_true, Bool.true_or, Bool.false_or, Bool.and_true, Bool.true_and, Bool.and_false, Bool.false_and, and_self, Nat.zero_add, ok]
theorem sr_8 {VC : MF} {B S6 : Sl} {g m l : Int} {b : Bool} {qs : List Addr} {rs : List (List Da)} {L X : List Da} {h : Gh} (hB : B = .grp qs rs ∨ B = .val (.dict (grF 0 rs))) (hX : dDIx (.dict (grF 0 rs)) (.int g) = some (.dat (.list X))) (e : VC [.val (.int p), .val W, .val (.int g)] = some (.dat (.int m), h)) (hm : ((X.length : Nat) : Int) = m) (hl : ((L.length : Nat) : Int) = l) (hb : b = false → dMul (.int m) (.int p) = some (.dat (.int l))) : (sSeq (sIf (mCmp dNe (mFn VC (mCons (mName 1) (mCons (mName 3) (mCons (mName 8) mNil)))) (mCall dLen (mCons (mDIx (mNameG 5) (mName 8)) mNil))) (sRet [0] (mC (.bool false))) sNil)
    (sIf (mAnd (mNot (mTru (mName 7))) (mCmp dNe (mBin dMul (mCall dLen (mCons (mDIx (mNameG 5) (mName 8)) mNil)) (mName 1)) (mCall dLen (mCons (mName 4) mNil)))) (sRet [0] (mC (.bool false))) sNil)) (GT ds p n W (.val (.list L)) B S6 (.val (.bool b)) (.val (.int g)) .un .un .un) = some (.nx, GT ds p n W (.val (.list L)) (.val (.dict (grF 0 rs))) S6 (.val (.bool b)) (.val (.int g)) .un .un .un) := by
  rcases hB with rfl | rfl
  · cases b with
    | true => simp only [e_bodyM, e_seq, e_nil, e_if, e_set, e_ret, e_drop, e_par, e_asg, e_for, e_app, e_setix, e_aug, e_name, e_c, e_anil, e_acons, e_bin, e_cmp, e_brk, e_cnt, e_retn, e_ix, e_call, e_fn, e_fn0, e_fnD, e_ifx, e_oft, e_tru, e_not, e_and, e_or, e_andv, e_orv, e_notv, e_neg, e_isi, e_chain, e_lst, e_tup, e_it, e_rg1, e_rg2, e_zip, e_enum, e_revi, e_rev, e_o0, e_o1, e_sl, e_dict0, e_yes, e_comp, e_pop, e_asB, e_toDd, e_toDf, e_toDs, e_lkd, e_lkf, e_lks, e_lan, e_lac, e_tdn, e_tdc, e_tsn, e_tsd, e_tsf, e_tss, e_snd, e_snf, e_snn, e_snc, e_sod, e_sof, e_st, e_fln, e_keep, e_itl, e_itt, e_rr1, e_rr2, e_tupRg, e_lstRg, e_revR, e_popAt, e_ext, e_tupRev, e_repL, e_lenSet, e_enumA, e_zipA, e_zip3, d_addT, flat1,
  d_add, d_sub, d_lt, d_le, d_gt, d_ge, d_eq, d_ne, d_ixl, d_ixt, d_lenl, d_lent, d_inti, d_intb, d_abs, d_max2, d_min2, d_tupl, d_tupt, d_lsl, d_lst, d_rb, t_b, t_i, t_l, t_t, is_nb, is_bb, k_ii, k_ib, k_bi, k_bb, k_ni, k_si, k_ti, k_li, k_di, k_tt, isNone, isBl,
  Option.bind_some, Option.bind_none, Option.map_some, Option.map_none, List.append_nil, List.cons_append, List.nil_append, List.replicate, List.getElem?_cons_zero, List.getElem?_cons_succ, List.getElem?_nil, List.set_cons_zero, List.set_cons_succ, List.length_cons, List.length_nil, List.mapIdx_cons, List.mapIdx_nil, List.contains_nil, List.contains_cons, Bool.false_eq_true, if_true, if_false, reduceIte, Bool.not_true, Bool.not_false, Option.getD_some, Function.comp, List.map_cons, List.map_nil,
  Nat.reduceLT, Nat.reduceAdd, Nat.reduceBEq, Nat.reduceEqDiff, Nat.reduceLeDiff, Int.reduceLT, Int.reduceLE, decide_true, decide_false, beq_self_eq_true, Bool.or_false, Bool.or_true, Bool.true_or, Bool.false_or, Bool.and_true, Bool.true_and, Bool.and_false, Bool.false_and, and_self, Nat.zero_add, e_nameG, e_dix, hX, e, hm]
    | false => simp only [e_bodyM, e_seq, e_nil, e_if, e_set, e_ret, e_drop, e_par, e_asg, e_for, e_app, e_setix, e_aug, e_name, e_c, e_anil, e_acons, e_bin, e_cmp, e_brk, e_cnt, e_retn, e_ix, e_call, e_fn, e_fn0, e_fnD, e_ifx, e_oft, e_tru, e_not, e_and, e_or, e_andv, e_orv, e_notv, e_neg, e_isi, e_chain, e_lst, e_tup, e_it, e_rg1, e_rg2, e_zip, e_enum, e_revi, e_rev, e_o0, e_o1, e_sl, e_dict0, e_yes, e_comp, e_pop, e_asB, e_toDd, e_toDf, e_toDs, e_lkd, e_lkf, e_lks, e_lan, e_lac, e_tdn, e_tdc, e_tsn, e_tsd, e_tsf, e_tss, e_snd, e_snf, e_snn, e_snc, e_sod, e_sof, e_st, e_fln, e_keep, e_itl, e_itt, e_rr1, e_rr2, e_tupRg, e_lstRg, e_revR, e_popAt, e_ext, e_tupRev, e_repL, e_lenSet, e_enumA, e_zipA, e_zip3, d_addT, flat1,
  d_add, d_sub, d_lt, d_le, d_gt, d_ge, d_eq, d_ne, d_ixl, d_ixt, d_lenl, d_lent, d_inti, d_intb, d_abs, d_max2, d_min2, d_tupl, d_tupt, d_lsl, d_lst, d_rb, t_b, t_i, t_l, t_t, is_nb, is_bb, k_ii, k_ib, k_bi, k_bb, k_ni, k_si, k_ti, k_li, k_di, k_tt, isNone, isBl,
  Option.bind_some, Option.bind_none, Option.map_some, Option.map_none, List.append_nil, List.cons_append, List.nil_append, List.replicate, List.getElem?_cons_zero, List.getElem?_cons_succ, List.getElem?_nil, List.set_cons_zero, List.set_cons_succ, List.length_cons, List.length_nil, List.mapIdx_cons, List.mapIdx_nil, List.contains_nil, List.contains_cons, Bool.false_eq_true, if_true, if_false, reduceIte, Bool.not_true, Bool.not_false, Option.getD_some, Function.comp, List.map_cons, List.map_nil,
  Nat.reduceLT, Nat.reduceAdd, Nat.reduceBEq, Nat.reduceEqDiff, Nat.reduceLeDiff, Int.reduceLT, Int.reduceLE, decide_true, decide_false, beq_self_eq_true, Bool.or_false, Bool.or_true, Bool.true_or, Bool.false_or, Bool.and_true, Bool.true_and, Bool.and_false, Bool.false_and, and_self, Nat.zero_add, e_nameG, e_dix, hX, e, hm, hl, hb rfl]
  · cases b with
    | true => simp only [e_bodyM, e_seq, e_nil, e_if, e_set, e_ret, e_drop, e_par, e_asg, e_for, e_app, e_setix, e_aug, e_name, e_c, e_anil, e_acons, e_bin, e_cmp, e_brk, e_cnt, e_retn, e_ix, e_call, e_fn, e_fn0, e_fnD, e_ifx, e_oft, e_tru, e_not, e_and, e_or, e_andv, e_orv, e_notv, e_neg, e_isi, e_chain, e_lst, e_tup, e_it, e_rg1, e_rg2, e_zip, e_enum, e_revi, e_rev, e_o0, e_o1, e_sl, e_dict0, e_yes, e_comp, e_pop, e_asB, e_toDd, e_toDf, e_toDs, e_lkd, e_lkf, e_lks, e_lan, e_lac, e_tdn, e_tdc, e_tsn, e_tsd, e_tsf, e_tss, e_snd, e_snf, e_snn, e_snc, e_sod, e_sof, e_st, e_fln, e_keep, e_itl, e_itt, e_rr1, e_rr2, e_tupRg, e_lstRg, e_revR, e_popAt, e_ext, e_tupRev, e_repL, e_lenSet, e_enumA, e_zipA, e_zip3, d_addT, flat1,
  d_add, d_sub, d_lt, d_le, d_gt, d_ge, d_eq, d_ne, d_ixl, d_ixt, d_lenl, d_lent, d_inti, d_intb, d_abs, d_max2, d_min2, d_tupl, d_tupt, d_lsl, d_lst, d_rb, t_b, t_i, t_l, t_t, is_nb, is_bb, k_ii, k_ib, k_bi, k_bb, k_ni, k_si, k_ti, k_li, k_di, k_tt, isNone, isBl,
  Option.bind_some, Option.bind_none, Option.map_some, Option.map_none, List.append_nil, List.cons_append, List.nil_append, List.replicate, List.getElem?_cons_zero, List.getElem?_cons_succ, List.getElem?_nil, List.set_cons_zero, List.set_cons_succ, List.length_cons, List.length_nil, List.mapIdx_cons, List.mapIdx_nil, List.contains_nil, List.contains_cons, Bool.false_eq_true, if_true, if_false, reduceIte, Bool.not_true, Bool.not_false, Option.getD_some, Function.comp, List.map_cons, List.map_nil,
  Nat.reduceLT, Nat.reduceAdd, Nat.reduceBEq, Nat.reduceEqDiff, Nat.reduceLeDiff, Int.reduceLT, Int.reduceLE, decide_true, decide_false, beq_self_eq_true, Bool.or_false, Bool.or_true, Bool.true_or, Bool.false_or, Bool.and_true, Bool.true_and, Bool.and_false, Bool.false_and, and_self, Nat.zero_add, e_nameG, e_dix, hX, e, hm]
    | false => simp only [e_bodyM, e_seq, e_nil, e_if, e_set, e_ret, e_drop, e_par, e_asg, e_for, e_app, e_setix, e_aug, e_name, e_c, e_anil, e_acons, e_bin, e_cmp, e_brk, e_cnt, e_retn, e_ix, e_call, e_fn, e_fn0, e_fnD, e_ifx, e_oft, e_tru, e_not, e_and, e_or, e_andv, e_orv, e_notv, e_neg, e_isi, e_chain, e_lst, e_tup, e_it, e_rg1, e_rg2, e_zip, e_enum, e_revi, e_rev, e_o0, e_o1, e_sl, e_dict0, e_yes, e_comp, e_pop, e_asB, e_toDd, e_toDf, e_toDs, e_lkd, e_lkf, e_lks, e_lan, e_lac, e_tdn, e_tdc, e_tsn, e_tsd, e_tsf, e_tss, e_snd, e_snf, e_snn, e_snc, e_sod, e_sof, e_st, e_fln, e_keep, e_itl, e_itt, e_rr1, e_rr2, e_tupRg, e_lstRg, e_revR, e_popAt, e_ext, e_tupRev, e_repL, e_lenSet, e_enumA, e_zipA, e_zip3, d_addT, flat1,
  d_add, d_sub, d_lt, d_le, d_gt, d_ge, d_eq, d_ne, d_ixl, d_ixt, d_lenl, d_lent, d_inti, d_intb, d_abs, d_max2, d_min2, d_tupl, d_tupt, d_lsl, d_lst, d_rb, t_b, t_i, t_l, t_t, is_nb, is_bb, k_ii, k_ib, k_bi, k_bb, k_ni, k_si, k_ti, k_li, k_di, k_tt, isNone, isBl,
  Option.bind_some, Option.bind_none, Option.map_some, Option.map_none, List.append_nil, List.cons_append, List.nil_append, List.replicate, List.getElem?_cons_zero, List.getElem?_cons_succ, List.getElem?_nil, List.set_cons_zero, List.set_cons_succ, List.length_cons, List.length_nil, List.mapIdx_cons, List.mapIdx_nil, List.contains_nil, List.contains_cons, Bool.false_eq_true, if_true, if_false, reduceIte, Bool.not_true, Bool.not_false, Option.getD_some, Function.comp, List.map_cons, List.map_nil,
  Nat.reduceLT, Nat.reduceAdd, Nat.reduceBEq, Nat.reduceEqDiff, Nat.reduceLeDiff, Int.reduceLT, Int.reduceLE, decide_true, decide_false, beq_self_eq_true, Bool.or_false, Bool.or_true, Bool.true_or, Bool.false_or, Bool.and_true, Bool.true_and, Bool.and_false, Bool.false_and, and_self, Nat.zero_add, e_nameG, e_dix, hX, e, hm, hl, hb rfl]
theorem sr_9 {RL : MF} {E B S6 S7 S8 : Sl} {d1 d2 : List Da} {o q : Int} (e1 : RL [.own ds, .val (.int p)] = some (.dat (.int o), [.own d1, .val (.int p)])) (e2 : RL [.own d1, .val (.int p)] = some (.dat (.int q), [.own d2, .val (.int p)])) : (sPar [9, 10] (mCons (mFnD RL (mCons (mName 0) (mCons (mName 1) mNil))) (mCons (mFnD RL (mCons (mName 0) (mCons (mName 1) mNil))) mNil))) (GT ds p n W E B S6 S7 S8 .un .un .un) = some (.nx, GT d2 p n W E B S6 S7 S8 (.val (.int o)) (.val (.int q)) .un) := by
  simp only [e_bodyM, e_seq, e_nil, e_if, e_set, e_ret, e_drop, e_par, e_asg, e_for, e_app, e_setix, e_aug, e_name, e_c, e_anil, e_acons, e_bin, e_cmp, e_brk, e_cnt, e_retn, e_ix, e_call, e_fn, e_fn0, e_fnD, e_ifx, e_oft, e_tru, e_not, e_and, e_or, e_andv, e_orv, e_notv, e_neg, e_isi, e_chain, e_lst, e_tup, e_it, e_rg1, e_rg2, e_zip, e_enum, e_revi, e_rev, e_o0, e_o1, e_sl, e_dict0, e_yes, e_comp, e_pop, e_asB, e_toDd, e_toDf, e_toDs, e_lkd, e_lkf, e_lks, e_lan, e_lac, e_tdn, e_tdc, e_tsn, e_tsd, e_tsf, e_tss, e_snd, e_snf, e_snn, e_snc, e_sod, e_sof, e_st, e_fln, e_keep, e_itl, e_itt, e_rr1, e_rr2, e_tupRg, e_lstRg, e_revR, e_popAt, e_ext, e_tupRev, e_repL, e_lenSet, e_enumA, e_zipA, e_zip3, d_addT, flat1,
  d_add, d_sub, d_lt, d_le, d_gt, d_ge, d_eq, d_ne, d_ixl, d_ixt, d_lenl, d_lent, d_inti, d_intb, d_abs, d_max2, d_min2, d_tupl, d_tupt, d_lsl, d_lst, d_rb, t_b, t_i, t_l, t_t, is_nb, is_bb, k_ii, k_ib, k_bi, k_bb, k_ni, k_si, k_ti, k_li, k_di, k_tt, isNone, isBl,
  Option.bind_some, Option.bind_none, Option.map_some, Option.map_none, List.append_nil, List.cons_append, List.nil_append, List.replicate, List.getElem?_cons_zero, List.getElem?_cons_succ, List.getElem?_nil, List.set_cons_zero, List.set_cons_succ, List.length_cons, List.length_nil, List.mapIdx_cons, List.mapIdx_nil, List.contains_nil, List.contains_cons, Bool.false_eq_true, if_true, if_false, reduceIte, Bool.not_true, Bool.not_false, Option.getD_some, Function.comp, List.map_cons, List.map_nil,
  Nat.reduceLT, Nat.reduceAdd, Nat.reduceBEq, Nat.reduceEqDiff, Nat.reduceLeDiff, Int.reduceLT, Int.reduceLE, decide_true, decide_false, beq_self_eq_true, Bool.or_false, Bool.or_true, Bool.true_or, Bool.false_or, Bool.and_true, Bool.true_and, Bool.and_false, Bool.false_and, and_self, Nat.zero_add, e1, e2]
theorem sr_10 {VW : MF} {E S6 S7 S8 : Sl} {o q : Int} {D : Da} {X Y : List Da} {h1 h2 : Gh} (hX : dDIx D (.int o) = some (.dat (.list X))) (hY : dDIx D (.int q) = some (.dat (.list Y))) (e1 : VW [.val (.int p), .val W, .val (.int o)] = some (.dat (.tuple X), h1)) (e2 : VW [.val (.int p), .val W, .val (.int q)] = some (.dat (.tuple Y), h2)) (n1 : dNe (.tuple X) (.tuple X) = some (.dat (.bool false))) (n2 : dNe (.tuple Y) (.tuple Y) = some (.dat (.bool false))) : (sIf (mOr (mCmp dNe (mFn VW (mCons (mName 1) (mCons (mName 3) (mCons (mName 9) mNil)))) (mCall dTuple (mCons (mDIx (mNameG 5) (mName 9)) mNil))) (mCmp dNe (mFn VW (mCons (mName 1) (mCons (mName 3) (mCons (mName 10) mNil)))) (mCall dTuple (mCons (mDIx (mNameG 5) (mName 10)) mNil)))) (sRet [0] (mC (.bool false))) sNil) (GT ds p n W E (.val D) S6 S7 S8 (.val (.int o)) (.val (.int q)) .un) = some (.nx, GT ds p n W E (.val D) S6 S7 S8 (.val (.int o)) (.val (.int q)) .un) := by
  simp only [e_bodyM, e_seq, e_nil, e_if, e_set, e_ret, e_drop, e_par, e_asg, e_for, e_app, e_setix, e_aug, e_name, e_c, e_anil, e_acons, e_bin, e_cmp, e_brk, e_cnt, e_retn, e_ix, e_call, e_fn, e_fn0, e_fnD, e_ifx, e_oft, e_tru, e_not, e_and, e_or, e_andv, e_orv, e_notv, e_neg, e_isi, e_chain, e_lst, e_tup, e_it, e_rg1, e_rg2, e_zip, e_enum, e_revi, e_rev, e_o0, e_o1, e_sl, e_dict0, e_yes, e_comp, e_pop, e_asB, e_toDd, e_toDf, e_toDs, e_lkd, e_lkf, e_lks, e_lan, e_lac, e_tdn, e_tdc, e_tsn, e_tsd, e_tsf, e_tss, e_snd, e_snf, e_snn, e_snc, e_sod, e_sof, e_st, e_fln, e_keep, e_itl, e_itt, e_rr1, e_rr2, e_tupRg, e_lstRg, e_revR, e_popAt, e_ext, e_tupRev, e_repL, e_lenSet, e_enumA, e_zipA, e_zip3, d_addT, flat1,
  d_add, d_sub, d_lt, d_le, d_gt, d_ge, d_eq, d_ne, d_ixl, d_ixt, d_lenl, d_lent, d_inti, d_intb, d_abs, d_max2, d_min2, d_tupl, d_tupt, d_lsl, d_lst, d_rb, t_b, t_i, t_l, t_t, is_nb, is_bb, k_ii, k_ib, k_bi, k_bb, k_ni, k_si, k_ti, k_li, k_di, k_tt, isNone, isBl,
  Option.bind_some, Option.bind_none, Option.map_some, Option.map_none, List.append_nil, List.cons_append, List.nil_append, List.replicate, List.getElem?_cons_zero, List.getElem?_cons_succ, List.getElem?_nil, List.set_cons_zero, List.set_cons_succ, List.length_cons, List.length_nil, List.mapIdx_cons, List.mapIdx_nil, List.contains_nil, List.contains_cons, Bool.false_eq_true, if_true, if_false, reduceIte, Bool.not_true, Bool.not_false, Option.getD_some, Function.comp, List.map_cons, List.map_nil,
  Nat.reduceLT, Nat.reduceAdd, Nat.reduceBEq, Nat.reduceEqDiff, Nat.reduceLeDiff, Int.reduceLT, Int.reduceLE, decide_true, decide_false, beq_self_eq_true, Bool.or_false, Bool.or_true, Bool.true_or, Bool.false_or, Bool.and_true, Bool.true_and, Bool.and_false, Bool.false_and, and_self, Nat.zero_add, e_nameG, e_dix, hX, hY, e1, e2, n1, n2]
theorem sr_11i {E S6 S7 S8 : Sl} {o q : Int} {D : Da} {X : List Da} (hX : dDIx D (.int o) = some (.dat (.list X))) : mIt (mDIx (mNameG 5) (mName 9)) (GT ds p n W E (.val D) S6 S7 S8 (.val (.int o)) (.val (.int q)) .un) = some (X, GT ds p n W E (.val D) S6 S7 S8 (.val (.int o)) (.val (.int q)) .un) := by
  simp only [e_bodyM, e_seq, e_nil, e_if, e_set, e_ret, e_drop, e_par, e_asg, e_for, e_app, e_setix, e_aug, e_name, e_c, e_anil, e_acons, e_bin, e_cmp, e_brk, e_cnt, e_retn, e_ix, e_call, e_fn, e_fn0, e_fnD, e_ifx, e_oft, e_tru, e_not, e_and, e_or, e_andv, e_orv, e_notv, e_neg, e_isi, e_chain, e_lst, e_tup, e_it, e_rg1, e_rg2, e_zip, e_enum, e_revi, e_rev, e_o0, e_o1, e_sl, e_dict0, e_yes, e_comp, e_pop, e_asB, e_toDd, e_toDf, e_toDs, e_lkd, e_lkf, e_lks, e_lan, e_lac, e_tdn, e_tdc, e_tsn, e_tsd, e_tsf, e_tss, e_snd, e_snf, e_snn, e_snc, e_sod, e_sof, e_st, e_fln, e_keep, e_itl, e_itt, e_rr1, e_rr2, e_tupRg, e_lstRg, e_revR, e_popAt, e_ext, e_tupRev, e_repL, e_lenSet, e_enumA, e_zipA, e_zip3, d_addT, flat1,
  d_add, d_sub, d_lt, d_le, d_gt, d_ge, d_eq, d_ne, d_ixl, d_ixt, d_lenl, d_lent, d_inti, d_intb, d_abs, d_max2, d_min2, d_tupl, d_tupt, d_lsl, d_lst, d_rb, t_b, t_i, t_l, t_t, is_nb, is_bb, k_ii, k_ib, k_bi, k_bb, k_ni, k_si, k_ti, k_li, k_di, k_tt, isNone, isBl,
  Option.bind_some, Option.bind_none, Option.map_some, Option.map_none, List.append_nil, List.cons_append, List.nil_append, List.replicate, List.getElem?_cons_zero, List.getElem?_cons_succ, List.getElem?_nil, List.set_cons_zero, List.set_cons_succ, List.length_cons, List.length_nil, List.mapIdx_cons, List.mapIdx_nil, List.contains_nil, List.contains_cons, Bool.false_eq_true, if_true, if_false, reduceIte, Bool.not_true, Bool.not_false, Option.getD_some, Function.comp, List.map_cons, List.map_nil,
  Nat.reduceLT, Nat.reduceAdd, Nat.reduceBEq, Nat.reduceEqDiff, Nat.reduceLeDiff, Int.reduceLT, Int.reduceLE, decide_true, decide_false, beq_self_eq_true, Bool.or_false, Bool.or_true, Bool.true_or, Bool.false_or, Bool.and_true, Bool.true_and, Bool.and_false, Bool.false_and, and_self, Nat.zero_add, e_nameG, e_dix, hX]
theorem sr_11e {MV : MF} {E B S7 S8 S9 S11 : Sl} {v t : Da} {q : Int} {h : Gh} (e : MV [.val (.int p), .val W, .val v, .val (.int q)] = some (.dat t, h)) : (mFn MV (mCons (mName 1) (mCons (mName 3) (mCons (mName 6) (mCons (mName 10) mNil))))) (GT ds p n W E B (.val v) S7 S8 S9 (.val (.int q)) S11) = some (.dat t, GT ds p n W E B (.val v) S7 S8 S9 (.val (.int q)) S11) := by
  simp only [e_bodyM, e_seq, e_nil, e_if, e_set, e_ret, e_drop, e_par, e_asg, e_for, e_app, e_setix, e_aug, e_name, e_c, e_anil, e_acons, e_bin, e_cmp, e_brk, e_cnt, e_retn, e_ix, e_call, e_fn, e_fn0, e_fnD, e_ifx, e_oft, e_tru, e_not, e_and, e_or, e_andv, e_orv, e_notv, e_neg, e_isi, e_chain, e_lst, e_tup, e_it, e_rg1, e_rg2, e_zip, e_enum, e_revi, e_rev, e_o0, e_o1, e_sl, e_dict0, e_yes, e_comp, e_pop, e_asB, e_toDd, e_toDf, e_toDs, e_lkd, e_lkf, e_lks, e_lan, e_lac, e_tdn, e_tdc, e_tsn, e_tsd, e_tsf, e_tss, e_snd, e_snf, e_snn, e_snc, e_sod, e_sof, e_st, e_fln, e_keep, e_itl, e_itt, e_rr1, e_rr2, e_tupRg, e_lstRg, e_revR, e_popAt, e_ext, e_tupRev, e_repL, e_lenSet, e_enumA, e_zipA, e_zip3, d_addT, flat1,
  d_add, d_sub, d_lt, d_le, d_gt, d_ge, d_eq, d_ne, d_ixl, d_ixt, d_lenl, d_lent, d_inti, d_intb, d_abs, d_max2, d_min2, d_tupl, d_tupt, d_lsl, d_lst, d_rb, t_b, t_i, t_l, t_t, is_nb, is_bb, k_ii, k_ib, k_bi, k_bb, k_ni, k_si, k_ti, k_li, k_di, k_tt, isNone, isBl,
  Option.bind_some, Option.bind_none, Option.map_some, Option.map_none, List.append_nil, List.cons_append, List.nil_append, List.replicate, List.getElem?_cons_zero, List.getElem?_cons_succ, List.getElem?_nil, List.set_cons_zero, List.set_cons_succ, List.length_cons, List.length_nil, List.mapIdx_cons, List.mapIdx_nil, List.contains_nil, List.contains_cons, Bool.false_eq_true, if_true, if_false, reduceIte, Bool.not_true, Bool.not_false, Option.getD_some, Function.comp, List.map_cons, List.map_nil,
  Nat.reduceLT, Nat.reduceAdd, Nat.reduceBEq, Nat.reduceEqDiff, Nat.reduceLeDiff, Int.reduceLT, Int.reduceLE, decide_true, decide_false, beq_self_eq_true, Bool.or_false, Bool.or_true, Bool.true_or, Bool.false_or, Bool.and_true, Bool.true_and, Bool.and_false, Bool.false_and, and_self, Nat.zero_add, e]
theorem sr_11 {C : ME} {E B S6 S7 S8 S9 S10 : Sl} {L : List Da} (e : C (GT ds p n W E B S6 S7 S8 S9 S10 .un) = some (.fresh L, GT ds p n W E B S6 S7 S8 S9 S10 .un)) : sSet 11 C (GT ds p n W E B S6 S7 S8 S9 S10 .un) = some (.nx, GT ds p n W E B S6 S7 S8 S9 S10 (.own L)) := by
  simp only [e_bodyM, e_seq, e_nil, e_if, e_set, e_ret, e_drop, e_par, e_asg, e_for, e_app, e_setix, e_aug, e_name, e_c, e_anil, e_acons, e_bin, e_cmp, e_brk, e_cnt, e_retn, e_ix, e_call, e_fn, e_fn0, e_fnD, e_ifx, e_oft, e_tru, e_not, e_and, e_or, e_andv, e_orv, e_notv, e_neg, e_isi, e_chain, e_lst, e_tup, e_it, e_rg1, e_rg2, e_zip, e_enum, e_revi, e_rev, e_o0, e_o1, e_sl, e_dict0, e_yes, e_comp, e_pop, e_asB, e_toDd, e_toDf, e_toDs, e_lkd, e_lkf, e_lks, e_lan, e_lac, e_tdn, e_tdc, e_tsn, e_tsd, e_tsf, e_tss, e_snd, e_snf, e_snn, e_snc, e_sod, e_sof, e_st, e_fln, e_keep, e_itl, e_itt, e_rr1, e_rr2, e_tupRg, e_lstRg, e_revR, e_popAt, e_ext, e_tupRev, e_repL, e_lenSet, e_enumA, e_zipA, e_zip3, d_addT, flat1,
  d_add, d_sub, d_lt, d_le, d_gt, d_ge, d_eq, d_ne, d_ixl, d_ixt, d_lenl, d_lent, d_inti, d_intb, d_abs, d_max2, d_min2, d_tupl, d_tupt, d_lsl, d_lst, d_rb, t_b, t_i, t_l, t_t, is_nb, is_bb, k_ii, k_ib, k_bi, k_bb, k_ni, k_si, k_ti, k_li, k_di, k_tt, isNone, isBl,
  Option.bind_some, Option.bind_none, Option.map_some, Option.map_none, List.append_nil, List.cons_append, List.nil_append, List.replicate, List.getElem?_cons_zero, List.getElem?_cons_succ, List.getElem?_nil, List.set_cons_zero, List.set_cons_succ, List.length_cons, List.length_nil, List.mapIdx_cons, List.mapIdx_nil, List.contains_nil, List.contains_cons, Bool.false_eq_true, if_true, if_false, reduceIte, Bool.not_true, Bool.not_false, Option.getD_some, Function.comp, List.map_cons, List.map_nil,
  Nat.reduceLT, Nat.reduceAdd, Nat.reduceBEq, Nat.reduceEqDiff, Nat.reduceLeDiff, Int.reduceLT, Int.reduceLE, decide_true, decide_false, beq_self_eq_true, Bool.or_false, Bool.or_true, Bool.true_or, Bool.false_or, Bool.and_true, Bool.true_and, Bool.and_false, Bool.false_and, and_self, Nat.zero_add, e]
theorem sr_12y {E S6 S8 : Sl} {o q m : Int} {D : Da} {X L : List Da} (hX : dDIx D (.int o) = some (.dat (.list X))) (hm : ((X.length : Nat) : Int) = m) (ok : okRg m = true) (hr : List.replicate m.toNat PyData.none = L) (z : (1 * m.toNat ≤ sizeLine) = True) (eb : dEq (.list L) (.list L) = some (.dat (.bool true))) : (sIf (mTru (mName 7)) (sRet [0] (mBin dEq (mName 11) (mRepL (mLst (mCons (mC .none) mNil)) (mCall dLen (mCons (mDIx (mNameG 5) (mName 9)) mNil))))) sNil) (GT ds p n W E (.val D) S6 (.val (.bool true)) S8 (.val (.int o)) (.val (.int q)) (.own L)) = some (.rt (.dat (.bool true)), GT ds p n W E (.val D) S6 (.val (.bool true)) S8 (.val (.int o)) (.val (.int q)) (.own L)) := by
  simp only [e_bodyM, e_seq, e_nil, e_if, e_set, e_ret, e_drop, e_par, e_asg, e_for, e_app, e_setix, e_aug, e_name, e_c, e_anil, e_acons, e_bin, e_cmp, e_brk, e_cnt, e_retn, e_ix, e_call, e_fn, e_fn0, e_fnD, e_ifx, e_oft, e_tru, e_not, e_and, e_or, e_andv, e_orv, e_notv, e_neg, e_isi, e_chain, e_lst, e_tup, e_it, e_rg1, e_rg2, e_zip, e_enum, e_revi, e_rev, e_o0, e_o1, e_sl, e_dict0, e_yes, e_comp, e_pop, e_asB, e_toDd, e_toDf, e_toDs, e_lkd, e_lkf, e_lks, e_lan, e_lac, e_tdn, e_tdc, e_tsn, e_tsd, e_tsf, e_tss, e_snd, e_snf, e_snn, e_snc, e_sod, e_sof, e_st, e_fln, e_keep, e_itl, e_itt, e_rr1, e_rr2, e_tupRg, e_lstRg, e_revR, e_popAt, e_ext, e_tupRev, e_repL, e_lenSet, e_enumA, e_zipA, e_zip3, d_addT, flat1,
  d_add, d_sub, d_lt, d_le, d_gt, d_ge, d_eq, d_ne, d_ixl, d_ixt, d_lenl, d_lent, d_inti, d_intb, d_abs, d_max2, d_min2, d_tupl, d_tupt, d_lsl, d_lst, d_rb, t_b, t_i, t_l, t_t, is_nb, is_bb, k_ii, k_ib, k_bi, k_bb, k_ni, k_si, k_ti, k_li, k_di, k_tt, isNone, isBl,
  Option.bind_some, Option.bind_none, Option.map_some, Option.map_none, List.append_nil, List.cons_append, List.nil_append, List.replicate, List.getElem?_cons_zero, List.getElem?_cons_succ, List.getElem?_nil, List.set_cons_zero, List.set_cons_succ, List.length_cons, List.length_nil, List.mapIdx_cons, List.mapIdx_nil, List.contains_nil, List.contains_cons, Bool.false_eq_true, if_true, if_false, reduceIte, Bool.not_true, Bool.not_false, Option.getD_some, Function.comp, List.map_cons, List.map_nil,
  Nat.reduceLT, Nat.reduceAdd, Nat.reduceBEq, Nat.reduceEqDiff, Nat.reduceLeDiff, Int.reduceLT, Int.reduceLE, decide_true, decide_false, beq_self_eq_true, Bool.or_false, Bool.or_true, Bool.true_or, Bool.false_or, Bool.and_true, Bool.true_and, Bool.and_false, Bool.false_and, and_self, Nat.zero_add, e_nameG, e_dix, hX, hm, e_repL, ok, z, z1, hr, eb]
theorem sr_12n {E B S6 S8 S9 S10 S11 : Sl} {M : MS} : (sIf (mTru (mName 7)) M sNil) (GT ds p n W E B S6 (.val (.bool false)) S8 S9 S10 S11) = some (.nx, GT ds p n W E B S6 (.val (.bool false)) S8 S9 S10 S11) := by
  simp only [e_bodyM, e_seq, e_nil, e_if, e_set, e_ret, e_drop, e_par, e_asg, e_for, e_app, e_setix, e_aug, e_name, e_c, e_anil, e_acons, e_bin, e_cmp, e_brk, e_cnt, e_retn, e_ix, e_call, e_fn, e_fn0, e_fnD, e_ifx, e_oft, e_tru, e_not, e_and, e_or, e_andv, e_orv, e_notv, e_neg, e_isi, e_chain, e_lst, e_tup, e_it, e_rg1, e_rg2, e_zip, e_enum, e_revi, e_rev, e_o0, e_o1, e_sl, e_dict0, e_yes, e_comp, e_pop, e_asB, e_toDd, e_toDf, e_toDs, e_lkd, e_lkf, e_lks, e_lan, e_lac, e_tdn, e_tdc, e_tsn, e_tsd, e_tsf, e_tss, e_snd, e_snf, e_snn, e_snc, e_sod, e_sof, e_st, e_fln, e_keep, e_itl, e_itt, e_rr1, e_rr2, e_tupRg, e_lstRg, e_revR, e_popAt, e_ext, e_tupRev, e_repL, e_lenSet, e_enumA, e_zipA, e_zip3, d_addT, flat1,
  d_add, d_sub, d_lt, d_le, d_gt, d_ge, d_eq, d_ne, d_ixl, d_ixt, d_lenl, d_lent, d_inti, d_intb, d_abs, d_max2, d_min2, d_tupl, d_tupt, d_lsl, d_lst, d_rb, t_b, t_i, t_l, t_t, is_nb, is_bb, k_ii, k_ib, k_bi, k_bb, k_ni, k_si, k_ti, k_li, k_di, k_tt, isNone, isBl,
  Option.bind_some, Option.bind_none, Option.map_some, Option.map_none, List.append_nil, List.cons_append, List.nil_append, List.replicate, List.getElem?_cons_zero, List.getElem?_cons_succ, List.getElem?_nil, List.set_cons_zero, List.set_cons_succ, List.length_cons, List.length_nil, List.mapIdx_cons, List.mapIdx_nil, List.contains_nil, List.contains_cons, Bool.false_eq_true, if_true, if_false, reduceIte, Bool.not_true, Bool.not_false, Option.getD_some, Function.comp, List.map_cons, List.map_nil,
  Nat.reduceLT, Nat.reduceAdd, Nat.reduceBEq, Nat.reduceEqDiff, Nat.reduceLeDiff, Int.reduceLT, Int.reduceLE, decide_true, decide_false, beq_self_eq_true, Bool.or_false, Bool.or_true, Bool.true_or, Bool.false_or, Bool.and_true, Bool.true_and, Bool.and_false, Bool.false_and, and_self, Nat.zero_add, ]
theorem sr_13 {E S6 S7 S8 : Sl} {o q : Int} {D : Da} {Y L : List Da} (hY : dDIx D (.int q) = some (.dat (.list Y))) (es : dSortedB [.list L] = some (.fresh Y)) (n1 : dNe (.list Y) (.list Y) = some (.dat (.bool false))) : (sIf (mCmp dNe (mCall dSortedB (mCons (mName 11) mNil)) (mDIx (mNameG 5) (mName 10))) (sRet [0] (mC (.bool false))) sNil) (GT ds p n W E (.val D) S6 S7 S8 (.val (.int o)) (.val (.int q)) (.own L)) = some (.nx, GT ds p n W E (.val D) S6 S7 S8 (.val (.int o)) (.val (.int q)) (.own L)) := by
  simp only [e_bodyM, e_seq, e_nil, e_if, e_set, e_ret, e_drop, e_par, e_asg, e_for, e_app, e_setix, e_aug, e_name, e_c, e_anil, e_acons, e_bin, e_cmp, e_brk, e_cnt, e_retn, e_ix, e_call, e_fn, e_fn0, e_fnD, e_ifx, e_oft, e_tru, e_not, e_and, e_or, e_andv, e_orv, e_notv, e_neg, e_isi, e_chain, e_lst, e_tup, e_it, e_rg1, e_rg2, e_zip, e_enum, e_revi, e_rev, e_o0, e_o1, e_sl, e_dict0, e_yes, e_comp, e_pop, e_asB, e_toDd, e_toDf, e_toDs, e_lkd, e_lkf, e_lks, e_lan, e_lac, e_tdn, e_tdc, e_tsn, e_tsd, e_tsf, e_tss, e_snd, e_snf, e_snn, e_snc, e_sod, e_sof, e_st, e_fln, e_keep, e_itl, e_itt, e_rr1, e_rr2, e_tupRg, e_lstRg, e_revR, e_popAt, e_ext, e_tupRev, e_repL, e_lenSet, e_enumA, e_zipA, e_zip3, d_addT, flat1,
  d_add, d_sub, d_lt, d_le, d_gt, d_ge, d_eq, d_ne, d_ixl, d_ixt, d_lenl, d_lent, d_inti, d_intb, d_abs, d_max2, d_min2, d_tupl, d_tupt, d_lsl, d_lst, d_rb, t_b, t_i, t_l, t_t, is_nb, is_bb, k_ii, k_ib, k_bi, k_bb, k_ni, k_si, k_ti, k_li, k_di, k_tt, isNone, isBl,
  Option.bind_some, Option.bind_none, Option.map_some, Option.map_none, List.append_nil, List.cons_append, List.nil_append, List.replicate, List.getElem?_cons_zero, List.getElem?_cons_succ, List.getElem?_nil, List.set_cons_zero, List.set_cons_succ, List.length_cons, List.length_nil, List.mapIdx_cons, List.mapIdx_nil, List.contains_nil, List.contains_cons, Bool.false_eq_true, if_true, if_false, reduceIte, Bool.not_true, Bool.not_false, Option.getD_some, Function.comp, List.map_cons, List.map_nil,
  Nat.reduceLT, Nat.reduceAdd, Nat.reduceBEq, Nat.reduceEqDiff, Nat.reduceLeDiff, Int.reduceLT, Int.reduceLE, decide_true, decide_false, beq_self_eq_true, Bool.or_false, Bool.or_true, Bool.true_or, Bool.false_or, Bool.and_true, Bool.true_and, Bool.and_false, Bool.false_and, and_self, Nat.zero_add, e_nameG, e_dix, hY, es, n1]
theorem sr_14i {E B S6 S7 S8 S9 S10 : Sl} {L : List Da} : mIt (mName 11) (GT ds p n W E B S6 S7 S8 S9 S10 (.own L)) = some (L, GT ds p n W E B S6 S7 S8 S9 S10 (.val (.list L))) := by
  simp only [e_bodyM, e_seq, e_nil, e_if, e_set, e_ret, e_drop, e_par, e_asg, e_for, e_app, e_setix, e_aug, e_name, e_c, e_anil, e_acons, e_bin, e_cmp, e_brk, e_cnt, e_retn, e_ix, e_call, e_fn, e_fn0, e_fnD, e_ifx, e_oft, e_tru, e_not, e_and, e_or, e_andv, e_orv, e_notv, e_neg, e_isi, e_chain, e_lst, e_tup, e_it, e_rg1, e_rg2, e_zip, e_enum, e_revi, e_rev, e_o0, e_o1, e_sl, e_dict0, e_yes, e_comp, e_pop, e_asB, e_toDd, e_toDf, e_toDs, e_lkd, e_lkf, e_lks, e_lan, e_lac, e_tdn, e_tdc, e_tsn, e_tsd, e_tsf, e_tss, e_snd, e_snf, e_snn, e_snc, e_sod, e_sof, e_st, e_fln, e_keep, e_itl, e_itt, e_rr1, e_rr2, e_tupRg, e_lstRg, e_revR, e_popAt, e_ext, e_tupRev, e_repL, e_lenSet, e_enumA, e_zipA, e_zip3, d_addT, flat1,
  d_add, d_sub, d_lt, d_le, d_gt, d_ge, d_eq, d_ne, d_ixl, d_ixt, d_lenl, d_lent, d_inti, d_intb, d_abs, d_max2, d_min2, d_tupl, d_tupt, d_lsl, d_lst, d_rb, t_b, t_i, t_l, t_t, is_nb, is_bb, k_ii, k_ib, k_bi, k_bb, k_ni, k_si, k_ti, k_li, k_di, k_tt, isNone, isBl,
  Option.bind_some, Option.bind_none, Option.map_some, Option.map_none, List.append_nil, List.cons_append, List.nil_append, List.replicate, List.getElem?_cons_zero, List.getElem?_cons_succ, List.getElem?_nil, List.set_cons_zero, List.set_cons_succ, List.length_cons, List.length_nil, List.mapIdx_cons, List.mapIdx_nil, List.contains_nil, List.contains_cons, Bool.false_eq_true, if_true, if_false, reduceIte, Bool.not_true, Bool.not_false, Option.getD_some, Function.comp, List.map_cons, List.map_nil,
  Nat.reduceLT, Nat.reduceAdd, Nat.reduceBEq, Nat.reduceEqDiff, Nat.reduceLeDiff, Int.reduceLT, Int.reduceLE, decide_true, decide_false, beq_self_eq_true, Bool.or_false, Bool.or_true, Bool.true_or, Bool.false_or, Bool.and_true, Bool.true_and, Bool.and_false, Bool.false_and, and_self, Nat.zero_add, ]
theorem sr_14e {MV : MF} {E B S7 S8 S10 S11 : Sl} {v t : Da} {o : Int} {h : Gh} (e : MV [.val (.int p), .val W, .val v, .val (.int o)] = some (.dat t, h)) : (mFn MV (mCons (mName 1) (mCons (mName 3) (mCons (mName 6) (mCons (mName 9) mNil))))) (GT ds p n W E B (.val v) S7 S8 (.val (.int o)) S10 S11) = some (.dat t, GT ds p n W E B (.val v) S7 S8 (.val (.int o)) S10 S11) := by
  simp only [e_bodyM, e_seq, e_nil, e_if, e_set, e_ret, e_drop, e_par, e_asg, e_for, e_app, e_setix, e_aug, e_name, e_c, e_anil, e_acons, e_bin, e_cmp, e_brk, e_cnt, e_retn, e_ix, e_call, e_fn, e_fn0, e_fnD, e_ifx, e_oft, e_tru, e_not, e_and, e_or, e_andv, e_orv, e_notv, e_neg, e_isi, e_chain, e_lst, e_tup, e_it, e_rg1, e_rg2, e_zip, e_enum, e_revi, e_rev, e_o0, e_o1, e_sl, e_dict0, e_yes, e_comp, e_pop, e_asB, e_toDd, e_toDf, e_toDs, e_lkd, e_lkf, e_lks, e_lan, e_lac, e_tdn, e_tdc, e_tsn, e_tsd, e_tsf, e_tss, e_snd, e_snf, e_snn, e_snc, e_sod, e_sof, e_st, e_fln, e_keep, e_itl, e_itt, e_rr1, e_rr2, e_tupRg, e_lstRg, e_revR, e_popAt, e_ext, e_tupRev, e_repL, e_lenSet, e_enumA, e_zipA, e_zip3, d_addT, flat1,
  d_add, d_sub, d_lt, d_le, d_gt, d_ge, d_eq, d_ne, d_ixl, d_ixt, d_lenl, d_lent, d_inti, d_intb, d_abs, d_max2, d_min2, d_tupl, d_tupt, d_lsl, d_lst, d_rb, t_b, t_i, t_l, t_t, is_nb, is_bb, k_ii, k_ib, k_bi, k_bb, k_ni, k_si, k_ti, k_li, k_di, k_tt, isNone, isBl,
  Option.bind_some, Option.bind_none, Option.map_some, Option.map_none, List.append_nil, List.cons_append, List.nil_append, List.replicate, List.getElem?_cons_zero, List.getElem?_cons_succ, List.getElem?_nil, List.set_cons_zero, List.set_cons_succ, List.length_cons, List.length_nil, List.mapIdx_cons, List.mapIdx_nil, List.contains_nil, List.contains_cons, Bool.false_eq_true, if_true, if_false, reduceIte, Bool.not_true, Bool.not_false, Option.getD_some, Function.comp, List.map_cons, List.map_nil,
  Nat.reduceLT, Nat.reduceAdd, Nat.reduceBEq, Nat.reduceEqDiff, Nat.reduceLeDiff, Int.reduceLT, Int.reduceLE, decide_true, decide_false, beq_self_eq_true, Bool.or_false, Bool.or_true, Bool.true_or, Bool.false_or, Bool.and_true, Bool.true_and, Bool.and_false, Bool.false_and, and_self, Nat.zero_add, e]
theorem sr_14 {C : ME} {E S6 S7 S8 S11 S11' : Sl} {o q : Int} {D : Da} {X : List Da} (e : C (GT ds p n W E (.val D) S6 S7 S8 (.val (.int o)) (.val (.int q)) S11) = some (.fresh X, GT ds p n W E (.val D) S6 S7 S8 (.val (.int o)) (.val (.int q)) S11')) (hX : dDIx D (.int o) = some (.dat (.list X))) (eb : dEq (.list X) (.list X) = some (.dat (.bool true))) : (sRet [0] (mBin dEq C (mDIx (mNameG 5) (mName 9)))) (GT ds p n W E (.val D) S6 S7 S8 (.val (.int o)) (.val (.int q)) S11) = some (.rt (.dat (.bool true)), GT ds p n W E (.val D) S6 S7 S8 (.val (.int o)) (.val (.int q)) S11') := by
  simp only [e_bodyM, e_seq, e_nil, e_if, e_set, e_ret, e_drop, e_par, e_asg, e_for, e_app, e_setix, e_aug, e_name, e_c, e_anil, e_acons, e_bin, e_cmp, e_brk, e_cnt, e_retn, e_ix, e_call, e_fn, e_fn0, e_fnD, e_ifx, e_oft, e_tru, e_not, e_and, e_or, e_andv, e_orv, e_notv, e_neg, e_isi, e_chain, e_lst, e_tup, e_it, e_rg1, e_rg2, e_zip, e_enum, e_revi, e_rev, e_o0, e_o1, e_sl, e_dict0, e_yes, e_comp, e_pop, e_asB, e_toDd, e_toDf, e_toDs, e_lkd, e_lkf, e_lks, e_lan, e_lac, e_tdn, e_tdc, e_tsn, e_tsd, e_tsf, e_tss, e_snd, e_snf, e_snn, e_snc, e_sod, e_sof, e_st, e_fln, e_keep, e_itl, e_itt, e_rr1, e_rr2, e_tupRg, e_lstRg, e_revR, e_popAt, e_ext, e_tupRev, e_repL, e_lenSet, e_enumA, e_zipA, e_zip3, d_addT, flat1,
  d_add, d_sub, d_lt, d_le, d_gt, d_ge, d_eq, d_ne, d_ixl, d_ixt, d_lenl, d_lent, d_inti, d_intb, d_abs, d_max2, d_min2, d_tupl, d_tupt, d_lsl, d_lst, d_rb, t_b, t_i, t_l, t_t, is_nb, is_bb, k_ii, k_ib, k_bi, k_bb, k_ni, k_si, k_ti, k_li, k_di, k_tt, isNone, isBl,
  Option.bind_some, Option.bind_none, Option.map_some, Option.map_none, List.append_nil, List.cons_append, List.nil_append, List.replicate, List.getElem?_cons_zero, List.getElem?_cons_succ, List.getElem?_nil, List.set_cons_zero, List.set_cons_succ, List.length_cons, List.length_nil, List.mapIdx_cons, List.mapIdx_nil, List.contains_nil, List.contains_cons, Bool.false_eq_true, if_true, if_false, reduceIte, Bool.not_true, Bool.not_false, Option.getD_some, Function.comp, List.map_cons, List.map_nil,
  Nat.reduceLT, Nat.reduceAdd, Nat.reduceBEq, Nat.reduceEqDiff, Nat.reduceLeDiff, Int.reduceLT, Int.reduceLE, decide_true, decide_false, beq_self_eq_true, Bool.or_false, Bool.or_true, Bool.true_or, Bool.false_or, Bool.and_true, Bool.true_and, Bool.and_false, Bool.false_and, and_self, Nat.zero_add, e_nameG, e_dix, hX, e, eb]
theorem b1312 {M : MS} {a a' : Sl} {s1 s2 s3 s4 s5 s6 s7 s8 s9 s10 s11 s12 : Sl} {w : Wv} (h : M [a, .un, .un, .un, .un, .un, .un, .un, .un, .un, .un, .un, .un] = some (.rt w, [a', s1, s2, s3, s4, s5, s6, s7, s8, s9, s10, s11, s12])) : bodyM [0] 12 M [a] = some (w, [a']) := by
  show (M [a, .un, .un, .un, .un, .un, .un, .un, .un, .un, .un, .un, .un]).bind _ = _
  rw [h]
  rfl
end
end K01
end
section
set_option exponentiation.threshold 3000
namespace K01
open PySem PySem.Spec PyProof.Rows L2 EV
open Lib
/-! ### the small case whole -/
noncomputable def putB : MS := (sGApp 5 (mFn Lib.F__law_fd_dot (mCons (mName 1) (mCons (mName 3) (mCons (mName 6) mNil)))) (mName 6))
def askB : MS := (sSeq (sIf (mCmp dNe (mFn Lib.F_vectors_count (mCons (mName 1) (mCons (mName 3) (mCons (mName 8) mNil)))) (mCall dLen (mCons (mDIx (mNameG 5) (mName 8)) mNil))) (sRet [0] (mC (.bool false))) sNil)
    (sIf (mAnd (mNot (mTru (mName 7))) (mCmp dNe (mBin dMul (mCall dLen (mCons (mDIx (mNameG 5) (mName 8)) mNil)) (mName 1)) (mCall dLen (mCons (mName 4) mNil)))) (sRet [0] (mC (.bool false))) sNil))
noncomputable def srRest : MS :=     (sSeq (sFor (mIt (mName 4)) (setN 6) (sGApp 5 (mFn Lib.F__law_fd_dot (mCons (mName 1) (mCons (mName 3) (mCons (mName 6) mNil)))) (mName 6)))
    (sSeq (sSet 7 (mBin dEq (mComp [12] (mIt (mName 3)) (setN 12) (mCmp dNe (mName 12) (mC (.int 0))) (mName 12)) (mLst mNil)))
    (sSeq (sFor (mRg1 (mCons (mName 1) mNil)) (setN 8) (sSeq (sIf (mCmp dNe (mFn Lib.F_vectors_count (mCons (mName 1) (mCons (mName 3) (mCons (mName 8) mNil)))) (mCall dLen (mCons (mDIx (mNameG 5) (mName 8)) mNil))) (sRet [0] (mC (.bool false))) sNil)
    (sIf (mAnd (mNot (mTru (mName 7))) (mCmp dNe (mBin dMul (mCall dLen (mCons (mDIx (mNameG 5) (mName 8)) mNil)) (mName 1)) (mCall dLen (mCons (mName 4) mNil)))) (sRet [0] (mC (.bool false))) sNil)))
    (sSeq (sPar [9, 10] (mCons (mFnD Lib.F__law_roll (mCons (mName 0) (mCons (mName 1) mNil))) (mCons (mFnD Lib.F__law_roll (mCons (mName 0) (mCons (mName 1) mNil))) mNil)))
    (sSeq (sIf (mOr (mCmp dNe (mFn Lib.F_vectors_with (mCons (mName 1) (mCons (mName 3) (mCons (mName 9) mNil)))) (mCall dTuple (mCons (mDIx (mNameG 5) (mName 9)) mNil))) (mCmp dNe (mFn Lib.F_vectors_with (mCons (mName 1) (mCons (mName 3) (mCons (mName 10) mNil)))) (mCall dTuple (mCons (mDIx (mNameG 5) (mName 10)) mNil)))) (sRet [0] (mC (.bool false))) sNil)
    (sSeq (sSet 11 (mComp [6] (mIt (mDIx (mNameG 5) (mName 9))) (setN 6) mYes (mFn Lib.F_moved (mCons (mName 1) (mCons (mName 3) (mCons (mName 6) (mCons (mName 10) mNil)))))))
    (sSeq (sIf (mTru (mName 7)) (sRet [0] (mBin dEq (mName 11) (mRepL (mLst (mCons (mC .none) mNil)) (mCall dLen (mCons (mDIx (mNameG 5) (mName 9)) mNil))))) sNil)
    (sSeq (sIf (mCmp dNe (mCall dSortedB (mCons (mName 11) mNil)) (mDIx (mNameG 5) (mName 10))) (sRet [0] (mC (.bool false))) sNil)
    (sRet [0] (mBin dEq (mComp [6] (mIt (mName 11)) (setN 6) mYes (mFn Lib.F_moved (mCons (mName 1) (mCons (mName 3) (mCons (mName 6) (mCons (mName 9) mNil)))))) (mDIx (mNameG 5) (mName 9))))))))))))
def lastS : List Da → Sl → Sl
  | [], s => s
  | d :: ds, _ => lastS ds (.val d)
theorem grI_range : ∀ (n o : Nat), grI o n = (List.range' o n).map fun k : Nat => (k : Int)
  | 0, _ => rfl
  | n + 1, o => by rw [grI, grI_range n (o + 1)]; rfl
section
variable {p n : Int} {ds : List Da}
theorem put_go (hp : 5 ≤ p) (hp2 : p ≤ 997) {w : List Int} {m : Nat} (iw : InF p w) (lw : w.length = m) {E : Sl} {qs : List Addr} (hq : qs.length = p.toNat) : ∀ (L done : List (List Int)) (S6 : Sl), (∀ v ∈ L, v.length = m ∧ InF p v) → done.length + L.length ≤ 100000 →
    forL (setN 6) putB (L.map tupI) (GT ds p n (tupI w) E (.grp qs (grpR p w done)) S6 .un .un .un .un .un) = some (.nx, GT ds p n (tupI w) E (.grp qs (grpR p w (done ++ L))) (lastS (L.map tupI) S6) .un .un .un .un .un)
  | [], done, S6, _, _ => by rw [List.append_nil]; rfl
  | v :: L, done, S6, h, hl => by
    obtain ⟨lv, iv⟩ := h v List.mem_cons_self
    have ih := put_go hp hp2 iw lw (E := E) hq L (done ++ [v]) (.val (tupI v)) (fun u hu => h u (List.mem_cons_of_mem _ hu)) (by simp at hl ⊢; omega)
    obtain ⟨x, hx⟩ : ∃ x : Int, x = dotZ w v % p := ⟨_, rfl⟩
    have x0 : 0 ≤ x := by rw [hx]; exact Int.emod_nonneg _ (by omega)
    have x1 : x < p := by rw [hx]; exact Int.emod_lt_of_pos _ (by omega)
    have eD := t_law_fd_dot hp hp2 iw iv (lw.trans lv.symm)
    rw [← hx] at eD
    have hl1 : ((done.filter fun v => dotZ w v % p == ((x.toNat : Nat) : Int)).map tupI).length < sizeLine := by
      rw [List.length_map]
      have := List.length_filter_le (fun v => dotZ w v % p == ((x.toNat : Nat) : Int)) done
      simp at hl
      exact sl_lt (by omega)
    have st := e_gapp (i := 5) (fi := mFn Lib.F__law_fd_dot (mCons (mName 1) (mCons (mName 3) (mCons (mName 6) mNil)))) (fe := mName 6) (g := GT ds p n (tupI w) E (.grp qs (grpR p w done)) (.val (tupI v)) .un .un .un .un .un) (m := x) (w := .dat (tupI v)) (d := tupI v) (sr_5f eD) rfl rfl ⟨x0, by rw [hq]; omega⟩ rfl rfl rfl (grpR_at (m := x.toNat) (by omega)) hl1
    rw [grpR_put (by omega) (by omega)] at st
    rw [List.append_assoc] at ih
    exact (forL_cons (tg := setN 6) (B := putB) rfl st).trans ih
theorem dix_grp {w : List Int} {L : List (List Int)} {g : Int} (g0 : 0 ≤ g) (g1 : g < p) : dDIx (.dict (grF 0 (grpR p w L))) (.int g) = some (.dat (.list ((L.filter fun v => dotZ w v % p == g).map tupI))) := by
  show ((getE (grF 0 (grpR p w L)) (.inl g)).map Wv.dat) = _
  have z := getE_F (rs := grpR p w L) (o := 0) (m := g.toNat)
  rw [Nat.zero_add, grpR_at (by omega), Int.toNat_of_nonneg g0] at z
  rw [z]
  rfl
theorem ask_go (hf : isFld p = true) {w : List Int} {m : Nat} {b : Bool} {S6 : Sl} {L : List Da} (iw : InF p w) (lw : w.length = m) (hm : m ≤ 60) {qs : List Addr} {l : Int} (hl : ((L.length : Nat) : Int) = l) (hb : b = false → p ^ (m - 1) * p = l) (hdm : b = false → dMul (.int (p ^ (m - 1))) (.int p) = some (.dat (.int (p ^ (m - 1) * p)))) (hbb : b = false → heavyR m w ≠ []) : ∀ (K : List Nat) (B S8 : Sl), (∀ k ∈ K, (k : Int) < p) → (B = .grp qs (grpR p w (vecs p m)) ∨ B = .val (.dict (grF 0 (grpR p w (vecs p m))))) → ∃ B', (K ≠ [] → B' = .val (.dict (grF 0 (grpR p w (vecs p m))))) ∧ (K = [] → B' = B) ∧
    forL (setN 8) askB (K.map intN) (GT ds p n (tupI w) (.val (.list L)) B S6 (.val (.bool b)) S8 .un .un .un) = some (.nx, GT ds p n (tupI w) (.val (.list L)) B' S6 (.val (.bool b)) (lastS (K.map intN) S8) .un .un .un)
  | [], B, S8, _, _ => ⟨B, fun z => absurd rfl z, fun _ => rfl, rfl⟩
  | k :: K, B, S8, h, hB => by
    have hk := h k List.mem_cons_self
    obtain ⟨B', h1, h2, ih⟩ := ask_go (qs := qs) hf iw lw hm hl hb hdm hbb K (.val (.dict (grF 0 (grpR p w (vecs p m))))) (.val (intN k)) (fun j hj => h j (List.mem_cons_of_mem _ hj)) (.inr rfl)
    refine ⟨B', fun _ => ?_, fun z => absurd z (by simp), ?_⟩
    · cases K with
      | nil => exact h2 rfl
      | cons a K => exact h1 (by simp)
    · have e := t_vectors_count hf iw lw hm (g := (k : Int)) (by omega) hk
      have fm := fib_many hf iw lw (g := (k : Int)) (by omega) hk
      have st := sr_8 (ds := ds) (n := n) (W := tupI w) (S6 := S6) (g := (k : Int)) (b := b) (L := L) hB (dix_grp (by omega) hk) e (by rw [List.length_map]; exact fm) hl (fun z => by
        unfold manyR
        rw [if_neg (hbb z)]
        have z2 := hb z
        rw [← z2]
        exact hdm z)
      exact (forL_cons (tg := setN 8) (B := askB) rfl st).trans ih
end
section
variable {p n : Int} {ds : List Da}
theorem flat_rows (L : List (List Int)) : Flat 2 (.list (L.map tupI)) := flat_list (n := 1) fun x hx => by
  obtain ⟨v, _, rfl⟩ := List.mem_map.mp hx
  exact flat_ti v
theorem flat_rowsT (L : List (List Int)) : Flat 2 (.tuple (L.map tupI)) := flat_tuple (n := 1) fun x hx => by
  obtain ⟨v, _, rfl⟩ := List.mem_map.mp hx
  exact flat_ti v
theorem heavy_empty {w : List Int} {m : Nat} (lw : w.length = m) : ((w.filter fun x => !(x == 0)).map PyData.int).isEmpty = (heavyR m w).isEmpty := by
  rw [Bool.eq_iff_iff, List.isEmpty_iff, List.isEmpty_iff, List.map_eq_nil_iff, List.filter_eq_nil_iff, heavy_nil lw]
  exact ⟨fun h x hx => by simpa using h x hx, fun h x hx => by simpa using h x hx⟩
theorem sr_rest (hf : isFld p = true) {w : List Int} {m : Nat} (iw : InF p w) (lw : w.length = m) (hm : m ≤ 60) (hs : p.toNat ^ m ≤ 1000) {E : Sl} (hE : E = .own ((vecs p m).map tupI) ∨ E = .val (.list ((vecs p m).map tupI))) {d1 d2 : List Da} {o q : Int} (o0 : 0 ≤ o) (o1 : o < p) (q0 : 0 ≤ q) (q1 : q < p) (eo : F__law_roll [.own ds, .val (.int p)] = some (.dat (.int o), [.own d1, .val (.int p)])) (er : F__law_roll [.own d1, .val (.int p)] = some (.dat (.int q), [.own d2, .val (.int p)])) :
    ∃ S11, ∀ qs : List Addr, qs.length = p.toNat → srRest (GT ds p n (tupI w) E (.grp qs (grpR p w [])) .un .un .un .un .un .un) = some (.rt (.dat (.bool true)), GT d2 p n (tupI w) (.val (.list ((vecs p m).map tupI))) (.val (.dict (grF 0 (grpR p w (vecs p m))))) (lastS ((vecs p m).map tupI) .un) (.val (.bool (heavyR m w).isEmpty)) (lastS ((List.range p.toNat).map intN) .un) (.val (.int o)) (.val (.int q)) S11) := by
  have hp := fld_pos hf
  have lv : (vecs p m).length = p.toNat ^ m := len_vecs p m
  have lf : ∀ g, (fib p m w g).length ≤ 1000 := fun g => by
    have := List.length_filter_le (fun v => dotZ w v % p == g) (vecs p m)
    unfold fib
    omega
  obtain ⟨S6, hS6⟩ : ∃ S6, S6 = lastS ((vecs p m).map tupI) .un := ⟨_, rfl⟩
  obtain ⟨S8, hS8⟩ : ∃ S8, S8 = lastS ((List.range p.toNat).map intN) .un := ⟨_, rfl⟩
  obtain ⟨D, hD⟩ : ∃ D, D = PyData.dict (grF 0 (grpR p w (vecs p m))) := ⟨_, rfl⟩
  obtain ⟨b, hb⟩ : ∃ b, b = (heavyR m w).isEmpty := ⟨_, rfl⟩
  have hX : dDIx D (.int o) = some (.dat (.list ((fib p m w o).map tupI))) := by rw [hD]; exact dix_grp o0 o1
  have hY : dDIx D (.int q) = some (.dat (.list ((fib p m w q).map tupI))) := by rw [hD]; exact dix_grp q0 q1
  have e10 := sr_10 (ds := d2) (n := n) (W := tupI w) (E := .val (.list ((vecs p m).map tupI))) (S6 := S6) (S7 := .val (.bool b)) (S8 := S8) hX hY (t_vectors_with hf iw lw hm o0 o1 (by omega)) (t_vectors_with hf iw lw hm q0 q1 (by omega)) (d_neS (flat_rowsT _)) (d_neS (flat_rowsT _))
  have e11 : ∀ Fq : List Int → Da, (∀ v ∈ fib p m w o, optT (movR p m w v q) = Fq v) → mComp [6] (mIt (mDIx (mNameG 5) (mName 9))) (setN 6) mYes (mFn Lib.F_moved (mCons (mName 1) (mCons (mName 3) (mCons (mName 6) (mCons (mName 10) mNil))))) (GT d2 p n (tupI w) (.val (.list ((vecs p m).map tupI))) (.val D) S6 (.val (.bool b)) S8 (.val (.int o)) (.val (.int q)) .un) = some (.fresh ((fib p m w o).map Fq), GT d2 p n (tupI w) (.val (.list ((vecs p m).map tupI))) (.val D) S6 (.val (.bool b)) S8 (.val (.int o)) (.val (.int q)) .un) := fun Fq hF => by
    refine comp_of3 (vs := [6]) (e := tupI) (F := Fq) (xs := fib p m w o) (g' := GT d2 p n (tupI w) (.val (.list ((vecs p m).map tupI))) (.val D) S6 (.val (.bool b)) S8 (.val (.int o)) (.val (.int q)) .un) (gw := GT d2 p n (tupI w) (.val (.list ((vecs p m).map tupI))) (.val D) .un (.val (.bool b)) S8 (.val (.int o)) (.val (.int q)) .un) (sr_11i hX) (by have := lf o; omega) rfl rfl fun v hv => ?_
    obtain ⟨⟨l1, i1⟩, _⟩ := mem_fib.mp hv
    have e := t_moved hf iw i1 lw l1 hm q0 q1
    rw [hF v hv] at e
    exact ⟨GT d2 p n (tupI w) (.val (.list ((vecs p m).map tupI))) (.val D) (.val (tupI v)) (.val (.bool b)) S8 (.val (.int o)) (.val (.int q)) .un, .dat (Fq v), GT d2 p n (tupI w) (.val (.list ((vecs p m).map tupI))) (.val D) (.val (tupI v)) (.val (.bool b)) S8 (.val (.int o)) (.val (.int q)) .un, GT d2 p n (tupI w) (.val (.list ((vecs p m).map tupI))) (.val D) (.val (tupI v)) (.val (.bool b)) S8 (.val (.int o)) (.val (.int q)) .un, rfl, sr_11e e, rfl, rfl⟩
  have pre : ∀ {M : MS} {X : Option (Fl × Gh)} (qs : List Addr), qs.length = p.toNat → M (GT d2 p n (tupI w) (.val (.list ((vecs p m).map tupI))) (.val D) S6 (.val (.bool b)) S8 (.val (.int o)) (.val (.int q)) .un) = X → (sSeq (sFor (mIt (mName 4)) (setN 6) putB)
    (sSeq (sSet 7 (mBin dEq (mComp [12] (mIt (mName 3)) (setN 12) (mCmp dNe (mName 12) (mC (.int 0))) (mName 12)) (mLst mNil)))
    (sSeq (sFor (mRg1 (mCons (mName 1) mNil)) (setN 8) askB)
    (sSeq (sPar [9, 10] (mCons (mFnD Lib.F__law_roll (mCons (mName 0) (mCons (mName 1) mNil))) (mCons (mFnD Lib.F__law_roll (mCons (mName 0) (mCons (mName 1) mNil))) mNil)))
    (sSeq (sIf (mOr (mCmp dNe (mFn Lib.F_vectors_with (mCons (mName 1) (mCons (mName 3) (mCons (mName 9) mNil)))) (mCall dTuple (mCons (mDIx (mNameG 5) (mName 9)) mNil))) (mCmp dNe (mFn Lib.F_vectors_with (mCons (mName 1) (mCons (mName 3) (mCons (mName 10) mNil)))) (mCall dTuple (mCons (mDIx (mNameG 5) (mName 10)) mNil)))) (sRet [0] (mC (.bool false))) sNil) M))))) (GT ds p n (tupI w) E (.grp qs (grpR p w [])) .un .un .un .un .un .un) = X := fun {M X} qs hq h => by
    have e5 : sFor (mIt (mName 4)) (setN 6) putB (GT ds p n (tupI w) E (.grp qs (grpR p w [])) .un .un .un .un .un .un) = some (.nx, GT ds p n (tupI w) (.val (.list ((vecs p m).map tupI))) (.grp qs (grpR p w (vecs p m))) S6 .un .un .un .un .un) := by
      rw [e_for, sr_5i hE, hS6]
      exact put_go hp.1 hp.2 iw lw hq (vecs p m) [] .un (fun v hv => mem_vecs.mp hv) (by simp; omega)
    have eC : mComp [12] (mIt (mName 3)) (setN 12) (mCmp dNe (mName 12) (mC (.int 0))) (mName 12) (GT ds p n (tupI w) (.val (.list ((vecs p m).map tupI))) (.grp qs (grpR p w (vecs p m))) S6 .un .un .un .un .un) = some (.fresh ((w.filter fun x => !(x == 0)).map PyData.int), GT ds p n (tupI w) (.val (.list ((vecs p m).map tupI))) (.grp qs (grpR p w (vecs p m))) S6 .un .un .un .un .un) :=
      comp_filt (vs := [12]) (e := PyData.int) (F := PyData.int) (q := fun x => !(x == 0)) (xs := w) (g' := GT ds p n (tupI w) (.val (.list ((vecs p m).map tupI))) (.grp qs (grpR p w (vecs p m))) S6 .un .un .un .un .un) (gw := GT ds p n (tupI w) (.val (.list ((vecs p m).map tupI))) (.grp qs (grpR p w (vecs p m))) S6 .un .un .un .un .un) rfl (by omega) rfl rfl fun x hx =>
        ⟨[.own ds, .val (.int p), .val (.int n), .val (tupI w), .val (.list ((vecs p m).map tupI)), .grp qs (grpR p w (vecs p m)), S6, .un, .un, .un, .un, .un, .val (.int x)], [.own ds, .val (.int p), .val (.int n), .val (tupI w), .val (.list ((vecs p m).map tupI)), .grp qs (grpR p w (vecs p m)), S6, .un, .un, .un, .un, .un, .val (.int x)], rfl, sr_7q rfl, fun _ => ⟨.dat (.int x), [.own ds, .val (.int p), .val (.int n), .val (tupI w), .val (.list ((vecs p m).map tupI)), .grp qs (grpR p w (vecs p m)), S6, .un, .un, .un, .un, .un, .val (.int x)], [.own ds, .val (.int p), .val (.int n), .val (tupI w), .val (.list ((vecs p m).map tupI)), .grp qs (grpR p w (vecs p m)), S6, .un, .un, .un, .un, .un, .val (.int x)], rfl, rfl, rfl⟩, fun _ => rfl⟩
    have eb : dEq (.list ((w.filter fun x => !(x == 0)).map PyData.int)) (.list []) = some (.dat (.bool b)) := by
      rw [d_eqNil (n := 1) (flat_list (n := 0) (flat_ints _)), heavy_empty lw, hb]
    have e7 := sr_7 eC eb
    have hv : b = false → heavyR m w ≠ [] := fun z e => by rw [hb, e] at z; cases z
    obtain ⟨B', h1, h2, hA⟩ := ask_go (n := n) (ds := ds) (S6 := S6) (L := (vecs p m).map tupI) (b := b) hf iw lw hm (qs := qs) rfl (fun z => by
      have m1 : m ≠ 0 := fun e => hv z (by subst e; rfl)
      rw [List.length_map, lv, Int.natCast_pow, Int.toNat_of_nonneg (by omega), ← Int.pow_succ]
      rw [show (m - 1).succ = m by omega]) (fun z => by
      have m1 : m ≠ 0 := fun e => hv z (by subst e; rfl)
      have b1 : p ^ (m - 1) ≤ 1000 := by
        have q1 : ((p.toNat ^ (m - 1) : Nat) : Int) = p ^ (m - 1) := by rw [Int.natCast_pow, Int.toNat_of_nonneg (by omega)]
        have q2 : p.toNat ^ (m - 1) ≤ p.toNat ^ m := Nat.pow_le_pow_right (by omega) (by omega)
        omega
      have b0 : 0 ≤ p ^ (m - 1) := Int.pow_nonneg (by omega)
      exact d_mul _ _ (Nat.lt_of_lt_of_le (show (p ^ (m - 1)).natAbs < 2 ^ 20 by omega) (by decide)) (Nat.lt_of_lt_of_le (show p.natAbs < 2 ^ 20 by omega) (by decide))) hv (List.range p.toNat) (.grp qs (grpR p w (vecs p m))) .un (fun k hk => by have := List.mem_range.mp hk; omega) (.inl rfl)
    have hB' : B' = .val D := by rw [hD]; exact h1 (by simp; omega)
    rw [hB', ← hS8] at hA
    have e8 : sFor (mRg1 (mCons (mName 1) mNil)) (setN 8) askB (GT ds p n (tupI w) (.val (.list ((vecs p m).map tupI))) (.grp qs (grpR p w (vecs p m))) S6 (.val (.bool b)) .un .un .un .un) = some (.nx, GT ds p n (tupI w) (.val (.list ((vecs p m).map tupI))) (.val D) S6 (.val (.bool b)) S8 .un .un .un) := by
      rw [e_for, sr_8r (okRg' (by omega) (by omega)), rgD_nat (m := p) (n := p.toNat) (by omega)]
      exact hA
    exact (seq_nx e5).trans ((seq_nx e7).trans ((seq_nx e8).trans ((seq_nx (sr_9 eo er)).trans ((seq_nx e10).trans h))))
  rw [← hD, ← hS6, ← hS8, ← hb]
  cases hh : heavyR m w with
  | nil =>
    have bt : b = true := by rw [hb, hh]; rfl
    have e := e11 (fun _ => .none) fun v hv => by rw [movR_nil hh]; rfl
    have eL : (fib p m w o).map (fun _ => PyData.none) = List.replicate (fib p m w o).length PyData.none := List.map_const' ..
    refine ⟨.own ((fib p m w o).map fun _ => PyData.none), fun qs hq => ?_⟩
    refine pre qs hq ((seq_nx (sr_11 e)).trans (seq_rt ?_))
    rw [bt]
    refine sr_12y (m := (((fib p m w o).length : Nat) : Int)) hX (by rw [List.length_map]) (okRg' (by omega) (by have := lf o; omega)) ?_ (eq_true (by have := lf o; rw [Nat.one_mul, Int.toNat_natCast]; exact Nat.le_of_lt (sl_lt (by omega)))) ?_
    · rw [Int.toNat_natCast, eL]
    · exact d_eqS (flat_list (n := 0) fun x hx => by
        obtain ⟨_, _, rfl⟩ := List.mem_map.mp hx
        exact flat_none)
  | cons k ks =>
    have hk : k < m ∧ cf w k ≠ 0 := by
      have : k ∈ heavyR m w := by rw [hh]; exact List.mem_cons_self
      obtain ⟨h1, h2⟩ := List.mem_filter.mp this
      exact ⟨List.mem_range.mp h1, by simpa using h2⟩
    have bf : b = false := by rw [hb, hh]; rfl
    have e := e11 (fun v => tupI (mvR p w k q v)) fun v hv => by rw [movR_cons hh]; rfl
    have eL : (fib p m w o).map (fun v => tupI (mvR p w k q v)) = ((fib p m w o).map (mvR p w k q)).map tupI := by rw [List.map_map]; rfl
    have es : dSortedB [.list ((fib p m w o).map fun v => tupI (mvR p w k q v))] = some (.fresh ((fib p m w q).map tupI)) := by
      rw [eL, ← led_sorted hf iw lw hk.1 hk.2 o0 o1 q0 q1]
      exact d_sortB
    refine ⟨.val (.list ((fib p m w o).map fun v => tupI (mvR p w k q v))), fun qs hq => ?_⟩
    refine pre qs hq ((seq_nx (sr_11 e)).trans ?_)
    rw [bf]
    refine (seq_nx sr_12n).trans ((seq_nx (sr_13 hY es (d_neS (flat_rows _)))).trans ?_)
    refine sr_14 ?_ hX (d_eqS (flat_rows _))
    have eX : (fib p m w o).map tupI = ((fib p m w o).map (mvR p w k q)).map fun u => tupI (mvR p w k o u) := by
      rw [List.map_map]
      refine List.map_congr_left fun v hv => ?_
      show tupI v = tupI (mvR p w k o (mvR p w k q v))
      rw [(mv_fib hf iw lw hk.1 hk.2 q0 q1 hv).2]
    rw [eX, eL]
    refine comp_of3 (vs := [6]) (e := tupI) (F := fun u => tupI (mvR p w k o u)) (xs := (fib p m w o).map (mvR p w k q)) (g' := GT d2 p n (tupI w) (.val (.list ((vecs p m).map tupI))) (.val D) S6 (.val (.bool false)) S8 (.val (.int o)) (.val (.int q)) (.val (.list (((fib p m w o).map (mvR p w k q)).map tupI)))) (gw := GT d2 p n (tupI w) (.val (.list ((vecs p m).map tupI))) (.val D) .un (.val (.bool false)) S8 (.val (.int o)) (.val (.int q)) (.val (.list (((fib p m w o).map (mvR p w k q)).map tupI)))) sr_14i (by rw [List.length_map]; have := lf o; omega) rfl rfl fun u hu => ?_
    obtain ⟨v, hv, rfl⟩ := List.mem_map.mp hu
    obtain ⟨⟨l1, i1⟩, _⟩ := mem_fib.mp (mv_fib hf iw lw hk.1 hk.2 q0 q1 hv).1
    have e2 := t_moved hf iw i1 lw l1 hm o0 o1
    rw [movR_cons hh] at e2
    exact ⟨GT d2 p n (tupI w) (.val (.list ((vecs p m).map tupI))) (.val D) (.val (tupI (mvR p w k q v))) (.val (.bool false)) S8 (.val (.int o)) (.val (.int q)) (.val (.list (((fib p m w o).map (mvR p w k q)).map tupI))), .dat (tupI (mvR p w k o (mvR p w k q v))), GT d2 p n (tupI w) (.val (.list ((vecs p m).map tupI))) (.val D) (.val (tupI (mvR p w k q v))) (.val (.bool false)) S8 (.val (.int o)) (.val (.int q)) (.val (.list (((fib p m w o).map (mvR p w k q)).map tupI))), GT d2 p n (tupI w) (.val (.list ((vecs p m).map tupI))) (.val D) (.val (tupI (mvR p w k q v))) (.val (.bool false)) S8 (.val (.int o)) (.val (.int q)) (.val (.list (((fib p m w o).map (mvR p w k q)).map tupI))), rfl, sr_14e e2, rfl, rfl⟩
theorem t_small_right {k : Nat} {ds : List Da} (hd0 : DiceOk k ds) (hk : k ≤ 20000) : ∃ ds' k', k' ≤ k + 400 ∧ DiceOk k' ds' ∧ F__law_small_right [.own ds] = some (.dat (.bool true), [.own ds']) := by
  obtain ⟨p, d1, hpm, h1, e1⟩ := t_pickI (xs := [5, 5, 7]) hd0 (by omega) (by simp) (by simp)
  have hpp : p = 5 ∨ p = 7 := by simpa using hpm
  have hf : isFld p = true := by rcases hpp with rfl | rfl <;> decide +kernel
  have hp := fld_pos hf
  obtain ⟨c, hc⟩ : ∃ c : Int, (if (p == 5) = true then (5 : Int) else 4) = c := ⟨_, rfl⟩
  have hc2 : c = 5 ∨ c = 4 := by
    rw [← hc]
    split
    · exact .inl rfl
    · exact .inr rfl
  obtain ⟨ni, d2, n0, n1, h2, e2⟩ := t_roll (m := c) h1 (by omega) (by omega) (by omega)
  obtain ⟨m, hni⟩ : ∃ m : Nat, ni = (m : Nat) := ⟨ni.toNat, by omega⟩
  have hs : p.toNat ^ m ≤ 1000 := by
    rcases hpp with rfl | rfl
    · rw [if_pos (by decide)] at hc
      have : m ≤ 4 := by omega
      exact Nat.le_trans (Nat.pow_le_pow_right (by decide) this) (by decide)
    · rw [if_neg (by decide)] at hc
      have : m ≤ 3 := by omega
      exact Nat.le_trans (Nat.pow_le_pow_right (by decide) this) (by decide)
  obtain ⟨w, d3, iw, lw, h3, e3⟩ := t_weights_drawn h2 (by omega) hp.1 hp.2 hni (by omega)
  obtain ⟨x, hx, e4⟩ := t_law_all hp.1 hp.2 hni (by omega) (show p.toNat ^ m ≤ 200000 by omega)
  obtain ⟨o, d4, o0, o1, h4, eo⟩ := t_roll (m := p) h3 (by omega) (by omega) (by omega)
  obtain ⟨q, d5, q0, q1, h5, er⟩ := t_roll (m := p) h4 (by omega) (by omega) (by omega)
  refine ⟨d5, _, ?_, h5, ?_⟩
  · omega
  obtain ⟨s, hs1, hs2⟩ : ∃ s, slW x = some s ∧ (s = .own ((vecs p m).map tupI) ∨ s = .val (.list ((vecs p m).map tupI))) := by
    rcases hx with rfl | rfl
    · exact ⟨_, rfl, .inl rfl⟩
    · exact ⟨_, rfl, .inr rfl⟩
  obtain ⟨S11, hR⟩ := sr_rest (n := ni) hf iw lw (by omega) hs hs2 o0 o1 q0 q1 eo er
  have eK : mCompK [8] (mRg1 (mCons (mName 1) mNil)) (setN 8) mYes (mName 8) [.own d3, .val (.int p), .val (.int ni), .val (tupI w), .un, .un, .un, .un, .un, .un, .un, .un, .un] = some (grI 0 p.toNat, [.own d3, .val (.int p), .val (.int ni), .val (tupI w), .un, .un, .un, .un, .un, .un, .un, .un, .un]) := by
    unfold mCompK
    rw [sr_4r (okRg' (by omega) (by omega)), Option.bind_some]
    dsimp only
    rw [if_pos (by rw [rgD_len]; exact sl_lt (by omega)), rgD_nat (m := p) (n := p.toNat) (by omega)]
    have z := compK_of (vs := [8]) (tg := setN 8) (el := mName 8) (e := intN) (R := fun k : Nat => (k : Int)) (g := [.own d3, .val (.int p), .val (.int ni), .val (tupI w), .un, .un, .un, .un, .un, .un, .un, .un, .un]) (xs := List.range p.toNat) fun k hk => ⟨[.own d3, .val (.int p), .val (.int ni), .val (tupI w), .un, .un, .un, .un, .val (intN k), .un, .un, .un, .un], [.own d3, .val (.int p), .val (.int ni), .val (tupI w), .un, .un, .un, .un, .val (intN k), .un, .un, .un, .un], rfl, rfl, rfl⟩
    rw [grI_range, ← List.range_eq_range']
    show ((compK [8] (setN 8) mYes (mName 8) ((List.range p.toNat).map intN) [.own d3, .val (.int p), .val (.int ni), .val (tupI w), .un, .un, .un, .un, .un, .un, .un, .un, .un]).bind _) = _
    rw [z]
    rfl
  unfold F__law_small_right m__law_small_right
  refine b1312 (s1 := .val (.int p)) (s2 := .val (.int ni)) (s3 := .val (tupI w)) (s4 := .val (.list ((vecs p m).map tupI))) (s5 := .val (.dict (grF 0 (grpR p w (vecs p m))))) (s6 := lastS ((vecs p m).map tupI) .un) (s7 := .val (.bool (heavyR m w).isEmpty)) (s8 := lastS ((List.range p.toNat).map intN) .un) (s9 := .val (.int o)) (s10 := .val (.int q)) (s11 := S11) (s12 := .un) ?_
  refine (seq_nx (sr_1 e1)).trans ((seq_nx (sr_2 rfl hc e2)).trans ((seq_nx (sr_3 e3)).trans ?_))
  refine e_sGrp (sr_4a (by rcases hx with rfl | rfl; exact .inl ⟨_, rfl⟩; exact .inr ⟨_, rfl⟩) e4) hs1 eK (by simp) (by simp) fun qs hq => ?_
  rw [← grpR_nil (p := p) (w := w)]
  exact hR qs hq
end
end K01
end
section
set_option exponentiation.threshold 3000
namespace K01
open PySem PySem.Spec PyProof.Rows L2 EV
open Lib
noncomputable def spotB : MS := (sSeq (sSet 2 (mFn Lib.F__law_dice (mCons (mName 0) (mCons (mName 1) mNil))))
    (sIf (mOr (mNot (mTru (mFnD F__law_small_right (mCons (mName 2) mNil)))) (mOr (mNot (mTru (mFnD Lib.F__law_great_right (mCons (mName 2) mNil)))) (mNot (mTru (mFnD Lib.F__law_great_right (mCons (mName 2) mNil)))))) (sRet [] (mC (.bool false))) sNil))
theorem spot_gen {A R S : MF} {N n : Da} {d1 d2 d3 d4 : List Da} {s2 s3 : Sl} {h : Gh} (e0 : A [.val N, .val n] = some (.fresh d1, h)) (e1 : R [.own d1] = some (.dat (.bool true), [.own d2])) (e2 : S [.own d2] = some (.dat (.bool true), [.own d3])) (e3 : S [.own d3] = some (.dat (.bool true), [.own d4])) :
  (sSeq (sSet 2 (mFn A (mCons (mName 0) (mCons (mName 1) mNil))))
    (sIf (mOr (mNot (mTru (mFnD R (mCons (mName 2) mNil)))) (mOr (mNot (mTru (mFnD S (mCons (mName 2) mNil)))) (mNot (mTru (mFnD S (mCons (mName 2) mNil)))))) (sRet [] (mC (.bool false))) sNil)) [.val N, .val n, s2, s3] = some (.nx, [.val N, .val n, .own d4, s3]) := by
  simp only [e_bodyM, e_seq, e_nil, e_if, e_set, e_ret, e_drop, e_par, e_asg, e_for, e_app, e_setix, e_aug, e_name, e_c, e_anil, e_acons, e_bin, e_cmp, e_brk, e_cnt, e_retn, e_ix, e_call, e_fn, e_fn0, e_fnD, e_ifx, e_oft, e_tru, e_not, e_and, e_or, e_andv, e_orv, e_notv, e_neg, e_isi, e_chain, e_lst, e_tup, e_it, e_rg1, e_rg2, e_zip, e_enum, e_revi, e_rev, e_o0, e_o1, e_sl, e_dict0, e_yes, e_comp, e_pop, e_asB, e_toDd, e_toDf, e_toDs, e_lkd, e_lkf, e_lks, e_lan, e_lac, e_tdn, e_tdc, e_tsn, e_tsd, e_tsf, e_tss, e_snd, e_snf, e_snn, e_snc, e_sod, e_sof, e_st, e_fln, e_keep, e_itl, e_itt, e_rr1, e_rr2, e_tupRg, e_lstRg, e_revR, e_popAt, e_ext, e_tupRev, e_repL, e_lenSet, e_enumA, e_zipA, e_zip3, d_addT, flat1,
  d_add, d_sub, d_lt, d_le, d_gt, d_ge, d_eq, d_ne, d_ixl, d_ixt, d_lenl, d_lent, d_inti, d_intb, d_abs, d_max2, d_min2, d_tupl, d_tupt, d_lsl, d_lst, d_rb, t_b, t_i, t_l, t_t, is_nb, is_bb, k_ii, k_ib, k_bi, k_bb, k_ni, k_si, k_ti, k_li, k_di, k_tt, isNone, isBl,
  Option.bind_some, Option.bind_none, Option.map_some, Option.map_none, List.append_nil, List.cons_append, List.nil_append, List.replicate, List.getElem?_cons_zero, List.getElem?_cons_succ, List.getElem?_nil, List.set_cons_zero, List.set_cons_succ, List.length_cons, List.length_nil, List.mapIdx_cons, List.mapIdx_nil, List.contains_nil, List.contains_cons, Bool.false_eq_true, if_true, if_false, reduceIte, Bool.not_true, Bool.not_false, Option.getD_some, Function.comp, List.map_cons, List.map_nil,
  Nat.reduceLT, Nat.reduceAdd, Nat.reduceBEq, Nat.reduceEqDiff, Nat.reduceLeDiff, Int.reduceLT, Int.reduceLE, decide_true, decide_false, beq_self_eq_true, Bool.or_false, Bool.or_true, Bool.true_or, Bool.false_or, Bool.and_true, Bool.true_and, Bool.and_false, Bool.false_and, and_self, Nat.zero_add, e0, e1, e2, e3]
theorem spot_ok {ns : List Int} (n : Nat) (tl : Gh) (hn : n < 100) (ht : tl = [tl.headD .un, .un]) : ∃ (s1 : Sl) (tl' : Gh), tl' = [tl'.headD .un, .un] ∧ spotB (.val (.list (ns.map PyData.int)) :: .val (.int (n : Nat)) :: tl) = some (.nx, .val (.list (ns.map PyData.int)) :: s1 :: tl') := by
  rw [ht]
  obtain ⟨d1, h1, e0⟩ := t_dice (ns := ns) (s := n) (by omega)
  obtain ⟨d2, k2, l2, h2, e1⟩ := t_small_right h1 (by omega)
  obtain ⟨d3, k3, l3, h3, e2⟩ := t_great_right h2 (by omega)
  obtain ⟨d4, k4, l4, h4, e3⟩ := t_great_right h3 (by omega)
  exact ⟨_, [.own d4, .un], rfl, spot_gen e0 e1 e2 e3⟩
theorem f5 : isFld 5 = true := by decide +kernel
theorem f7 : isFld 7 = true := by decide +kernel
theorem inA {p : Int} {xs : List Int} (h : xs.all (fun x => decide (0 ≤ x) && decide (x < p)) = true) : InF p xs := fun x hx => by
  have := List.all_eq_true.mp h x hx
  simp only [Bool.and_eq_true, decide_eq_true_eq] at this
  exact this
theorem fixA {WE VC VW : MF} {N : Da} {s1 s2 : Sl} {X Y : List Da} {h1 h2 h3 h4 : Gh} (z4 : (4 ≤ sizeLine) = True) (a1 : WE [.val (.int 5), .val (.tuple [.int 1, .int 2]), .val (.tuple [.int 3, .int 4])] = some (.dat (.int 1), h1)) (a2 : VC [.val (.int 5), .val (.tuple [.int 1, .int 2]), .val (.int 1)] = some (.dat (.int 5), h2)) (a3 : VC [.val (.int 5), .val (.tuple [.int 0, .int 0]), .val (.int 1)] = some (.dat (.int 0), h3)) (a4 : VW [.val (.int 5), .val (.tuple [.int 0, .int 1]), .val (.int 2)] = some (.dat (.tuple X), h4)) (hc : EV.cutD X none (some 2) = Y) :
  (sSet 3 (mLst (mCons (mFn WE (mCons (mC (.int 5)) (mCons (mTup (mCons (mC (.int 1)) (mCons (mC (.int 2)) mNil))) (mCons (mTup (mCons (mC (.int 3)) (mCons (mC (.int 4)) mNil))) mNil)))) (mCons (mFn VC (mCons (mC (.int 5)) (mCons (mTup (mCons (mC (.int 1)) (mCons (mC (.int 2)) mNil))) (mCons (mC (.int 1)) mNil)))) (mCons (mFn VC (mCons (mC (.int 5)) (mCons (mTup (mCons (mC (.int 0)) (mCons (mC (.int 0)) mNil))) (mCons (mC (.int 1)) mNil)))) (mCons (mSl (mFn VW (mCons (mC (.int 5)) (mCons (mTup (mCons (mC (.int 0)) (mCons (mC (.int 1)) mNil))) (mCons (mC (.int 2)) mNil)))) mO0 (mO1 (mC (.int 2)))) mNil)))))) [.val N, s1, s2, .un] = some (.nx, [.val N, s1, s2, .own [.int 1, .int 5, .int 0, .tuple Y]]) := by
  simp only [e_bodyM, e_seq, e_nil, e_if, e_set, e_ret, e_drop, e_par, e_asg, e_for, e_app, e_setix, e_aug, e_name, e_c, e_anil, e_acons, e_bin, e_cmp, e_brk, e_cnt, e_retn, e_ix, e_call, e_fn, e_fn0, e_fnD, e_ifx, e_oft, e_tru, e_not, e_and, e_or, e_andv, e_orv, e_notv, e_neg, e_isi, e_chain, e_lst, e_tup, e_it, e_rg1, e_rg2, e_zip, e_enum, e_revi, e_rev, e_o0, e_o1, e_sl, e_dict0, e_yes, e_comp, e_pop, e_asB, e_toDd, e_toDf, e_toDs, e_lkd, e_lkf, e_lks, e_lan, e_lac, e_tdn, e_tdc, e_tsn, e_tsd, e_tsf, e_tss, e_snd, e_snf, e_snn, e_snc, e_sod, e_sof, e_st, e_fln, e_keep, e_itl, e_itt, e_rr1, e_rr2, e_tupRg, e_lstRg, e_revR, e_popAt, e_ext, e_tupRev, e_repL, e_lenSet, e_enumA, e_zipA, e_zip3, d_addT, flat1,
  d_add, d_sub, d_lt, d_le, d_gt, d_ge, d_eq, d_ne, d_ixl, d_ixt, d_lenl, d_lent, d_inti, d_intb, d_abs, d_max2, d_min2, d_tupl, d_tupt, d_lsl, d_lst, d_rb, t_b, t_i, t_l, t_t, is_nb, is_bb, k_ii, k_ib, k_bi, k_bb, k_ni, k_si, k_ti, k_li, k_di, k_tt, isNone, isBl,
  Option.bind_some, Option.bind_none, Option.map_some, Option.map_none, List.append_nil, List.cons_append, List.nil_append, List.replicate, List.getElem?_cons_zero, List.getElem?_cons_succ, List.getElem?_nil, List.set_cons_zero, List.set_cons_succ, List.length_cons, List.length_nil, List.mapIdx_cons, List.mapIdx_nil, List.contains_nil, List.contains_cons, Bool.false_eq_true, if_true, if_false, reduceIte, Bool.not_true, Bool.not_false, Option.getD_some, Function.comp, List.map_cons, List.map_nil,
  Nat.reduceLT, Nat.reduceAdd, Nat.reduceBEq, Nat.reduceEqDiff, Nat.reduceLeDiff, Int.reduceLT, Int.reduceLE, decide_true, decide_false, beq_self_eq_true, Bool.or_false, Bool.or_true, Bool.true_or, Bool.false_or, Bool.and_true, Bool.true_and, Bool.and_false, Bool.false_and, and_self, Nat.zero_add, a1, a2, a3, a4, hc, z2, z4]
theorem fixB {MV : MF} {N : Da} {s1 s2 : Sl} {h1 h2 : Gh} (z4 : (4 ≤ sizeLine) = True) (a1 : MV [.val (.int 5), .val (.tuple [.int 0, .int 2]), .val (.tuple [.int 3, .int 4]), .val (.int 0)] = some (.dat (.tuple [.int 3, .int 0]), h1)) (a2 : MV [.val (.int 5), .val (.tuple [.int 0, .int 0]), .val (.tuple [.int 3, .int 4]), .val (.int 0)] = some (.dat .none, h2)) (n1 : dNe (.list [.int 1, .int 5, .int 0, .tuple [.tuple [.int 0, .int 2], .tuple [.int 1, .int 2]]]) (.list [.int 1, .int 5, .int 0, .tuple [.tuple [.int 0, .int 2], .tuple [.int 1, .int 2]]]) = some (.dat (.bool false))) (n2 : dNe (.list [.tuple [.int 3, .int 0], .none]) (.list [.tuple [.int 3, .int 0], .none]) = some (.dat (.bool false))) :
  (sIf (mOr (mCmp dNe (mName 3) (mLst (mCons (mC (.int 1)) (mCons (mC (.int 5)) (mCons (mC (.int 0)) (mCons (mTup (mCons (mTup (mCons (mC (.int 0)) (mCons (mC (.int 2)) mNil))) (mCons (mTup (mCons (mC (.int 1)) (mCons (mC (.int 2)) mNil))) mNil))) mNil)))))) (mCmp dNe (mLst (mCons (mFn MV (mCons (mC (.int 5)) (mCons (mTup (mCons (mC (.int 0)) (mCons (mC (.int 2)) mNil))) (mCons (mTup (mCons (mC (.int 3)) (mCons (mC (.int 4)) mNil))) (mCons (mC (.int 0)) mNil))))) (mCons (mFn MV (mCons (mC (.int 5)) (mCons (mTup (mCons (mC (.int 0)) (mCons (mC (.int 0)) mNil))) (mCons (mTup (mCons (mC (.int 3)) (mCons (mC (.int 4)) mNil))) (mCons (mC (.int 0)) mNil))))) mNil))) (mLst (mCons (mTup (mCons (mC (.int 3)) (mCons (mC (.int 0)) mNil))) (mCons (mC .none) mNil))))) (sRet [] (mC (.bool false))) sNil) [.val N, s1, s2, .own [.int 1, .int 5, .int 0, .tuple [.tuple [.int 0, .int 2], .tuple [.int 1, .int 2]]]] = some (.nx, [.val N, s1, s2, .own [.int 1, .int 5, .int 0, .tuple [.tuple [.int 0, .int 2], .tuple [.int 1, .int 2]]]]) := by
  simp only [e_bodyM, e_seq, e_nil, e_if, e_set, e_ret, e_drop, e_par, e_asg, e_for, e_app, e_setix, e_aug, e_name, e_c, e_anil, e_acons, e_bin, e_cmp, e_brk, e_cnt, e_retn, e_ix, e_call, e_fn, e_fn0, e_fnD, e_ifx, e_oft, e_tru, e_not, e_and, e_or, e_andv, e_orv, e_notv, e_neg, e_isi, e_chain, e_lst, e_tup, e_it, e_rg1, e_rg2, e_zip, e_enum, e_revi, e_rev, e_o0, e_o1, e_sl, e_dict0, e_yes, e_comp, e_pop, e_asB, e_toDd, e_toDf, e_toDs, e_lkd, e_lkf, e_lks, e_lan, e_lac, e_tdn, e_tdc, e_tsn, e_tsd, e_tsf, e_tss, e_snd, e_snf, e_snn, e_snc, e_sod, e_sof, e_st, e_fln, e_keep, e_itl, e_itt, e_rr1, e_rr2, e_tupRg, e_lstRg, e_revR, e_popAt, e_ext, e_tupRev, e_repL, e_lenSet, e_enumA, e_zipA, e_zip3, d_addT, flat1,
  d_add, d_sub, d_lt, d_le, d_gt, d_ge, d_eq, d_ne, d_ixl, d_ixt, d_lenl, d_lent, d_inti, d_intb, d_abs, d_max2, d_min2, d_tupl, d_tupt, d_lsl, d_lst, d_rb, t_b, t_i, t_l, t_t, is_nb, is_bb, k_ii, k_ib, k_bi, k_bb, k_ni, k_si, k_ti, k_li, k_di, k_tt, isNone, isBl,
  Option.bind_some, Option.bind_none, Option.map_some, Option.map_none, List.append_nil, List.cons_append, List.nil_append, List.replicate, List.getElem?_cons_zero, List.getElem?_cons_succ, List.getElem?_nil, List.set_cons_zero, List.set_cons_succ, List.length_cons, List.length_nil, List.mapIdx_cons, List.mapIdx_nil, List.contains_nil, List.contains_cons, Bool.false_eq_true, if_true, if_false, reduceIte, Bool.not_true, Bool.not_false, Option.getD_some, Function.comp, List.map_cons, List.map_nil,
  Nat.reduceLT, Nat.reduceAdd, Nat.reduceBEq, Nat.reduceEqDiff, Nat.reduceLeDiff, Int.reduceLT, Int.reduceLE, decide_true, decide_false, beq_self_eq_true, Bool.or_false, Bool.or_true, Bool.true_or, Bool.false_or, Bool.and_true, Bool.true_and, Bool.and_false, Bool.false_and, and_self, Nat.zero_add, a1, a2, n1, n2, z2, z4]
theorem fixC {WE VC VW : MF} {N : Da} {s1 s2 s3 : Sl} {h1 h2 h3 h4 : Gh} (z4 : (4 ≤ sizeLine) = True) (a1 : WE [.val (.int 7), .val (.tuple []), .val (.tuple [])] = some (.dat (.int 0), h1)) (a2 : VW [.val (.int 7), .val (.tuple []), .val (.int 0)] = some (.dat (.tuple [.tuple []]), h2)) (a3 : VW [.val (.int 7), .val (.tuple []), .val (.int 1)] = some (.dat (.tuple []), h3)) (a4 : VC [.val (.int 7), .val (.tuple []), .val (.int 0)] = some (.dat (.int 1), h4)) (n1 : dEq (.list [.int 0, .tuple [.tuple []], .tuple [], .int 1]) (.list [.int 0, .tuple [.tuple []], .tuple [], .int 1]) = some (.dat (.bool true))) :
  (sRet [] (mBin dEq (mLst (mCons (mFn WE (mCons (mC (.int 7)) (mCons (mTup mNil) (mCons (mTup mNil) mNil)))) (mCons (mFn VW (mCons (mC (.int 7)) (mCons (mTup mNil) (mCons (mC (.int 0)) mNil)))) (mCons (mFn VW (mCons (mC (.int 7)) (mCons (mTup mNil) (mCons (mC (.int 1)) mNil)))) (mCons (mFn VC (mCons (mC (.int 7)) (mCons (mTup mNil) (mCons (mC (.int 0)) mNil)))) mNil))))) (mLst (mCons (mC (.int 0)) (mCons (mTup (mCons (mTup mNil) mNil)) (mCons (mTup mNil) (mCons (mC (.int 1)) mNil))))))) [.val N, s1, s2, s3] = some (.rt (.dat (.bool true)), [.val N, s1, s2, s3]) := by
  simp only [e_bodyM, e_seq, e_nil, e_if, e_set, e_ret, e_drop, e_par, e_asg, e_for, e_app, e_setix, e_aug, e_name, e_c, e_anil, e_acons, e_bin, e_cmp, e_brk, e_cnt, e_retn, e_ix, e_call, e_fn, e_fn0, e_fnD, e_ifx, e_oft, e_tru, e_not, e_and, e_or, e_andv, e_orv, e_notv, e_neg, e_isi, e_chain, e_lst, e_tup, e_it, e_rg1, e_rg2, e_zip, e_enum, e_revi, e_rev, e_o0, e_o1, e_sl, e_dict0, e_yes, e_comp, e_pop, e_asB, e_toDd, e_toDf, e_toDs, e_lkd, e_lkf, e_lks, e_lan, e_lac, e_tdn, e_tdc, e_tsn, e_tsd, e_tsf, e_tss, e_snd, e_snf, e_snn, e_snc, e_sod, e_sof, e_st, e_fln, e_keep, e_itl, e_itt, e_rr1, e_rr2, e_tupRg, e_lstRg, e_revR, e_popAt, e_ext, e_tupRev, e_repL, e_lenSet, e_enumA, e_zipA, e_zip3, d_addT, flat1,
  d_add, d_sub, d_lt, d_le, d_gt, d_ge, d_eq, d_ne, d_ixl, d_ixt, d_lenl, d_lent, d_inti, d_intb, d_abs, d_max2, d_min2, d_tupl, d_tupt, d_lsl, d_lst, d_rb, t_b, t_i, t_l, t_t, is_nb, is_bb, k_ii, k_ib, k_bi, k_bb, k_ni, k_si, k_ti, k_li, k_di, k_tt, isNone, isBl,
  Option.bind_some, Option.bind_none, Option.map_some, Option.map_none, List.append_nil, List.cons_append, List.nil_append, List.replicate, List.getElem?_cons_zero, List.getElem?_cons_succ, List.getElem?_nil, List.set_cons_zero, List.set_cons_succ, List.length_cons, List.length_nil, List.mapIdx_cons, List.mapIdx_nil, List.contains_nil, List.contains_cons, Bool.false_eq_true, if_true, if_false, reduceIte, Bool.not_true, Bool.not_false, Option.getD_some, Function.comp, List.map_cons, List.map_nil,
  Nat.reduceLT, Nat.reduceAdd, Nat.reduceBEq, Nat.reduceEqDiff, Nat.reduceLeDiff, Int.reduceLT, Int.reduceLE, decide_true, decide_false, beq_self_eq_true, Bool.or_false, Bool.or_true, Bool.true_or, Bool.false_or, Bool.and_true, Bool.true_and, Bool.and_false, Bool.false_and, and_self, Nat.zero_add, a1, a2, a3, a4, n1, z0, z1, z4]
theorem law_end {M : MS} {N : Da} {w : Wv} {g : Gh} (h : M [.val N, .un, .un, .un] = some (.rt w, g)) : ∃ g', bodyM [] 3 M [.val N] = some (w, g') := ⟨_, by
  show (M [.val N, .un, .un, .un]).bind _ = _
  rw [h]
  rfl⟩
theorem flF : Flat 3 (.list [.int 1, .int 5, .int 0, .tuple [.tuple [.int 0, .int 2], .tuple [.int 1, .int 2]]]) := flat_list (n := 2) fun x hx => by
  simp only [List.mem_cons, List.not_mem_nil, or_false] at hx
  rcases hx with rfl | rfl | rfl | rfl
  · exact flat_int _
  · exact flat_int _
  · exact flat_int _
  · exact flat_rowsT [[0, 2], [1, 2]]
theorem flM : Flat 2 (.list [.tuple [.int 3, .int 0], .none]) := flat_list (n := 1) fun x hx => by
  simp only [List.mem_cons, List.not_mem_nil, or_false] at hx
  rcases hx with rfl | rfl
  · exact flat_ti [3, 0]
  · exact flat_none
theorem flR : Flat 3 (.list [.int 0, .tuple [.tuple []], .tuple [], .int 1]) := flat_list (n := 2) fun x hx => by
  simp only [List.mem_cons, List.not_mem_nil, or_false] at hx
  rcases hx with rfl | rfl | rfl | rfl
  · exact flat_int _
  · exact flat_rowsT [[]]
  · exact flat_rowsT []
  · exact flat_int _
theorem law_true (ns : List Int) (hl : ns.length ≤ 63) (hb : ∀ z ∈ ns, PySem.Builtin.Int.intBits z ≤ 1048576) : ∃ g', F_law [.val (.list (ns.map PyData.int))] = some (.dat (.bool true), g') := by
  obtain ⟨s1, tl, ht, eL⟩ := law_frameQ (N := .list (ns.map PyData.int)) rfl (by rw [List.length_map]; omega) (C := 3) (by decide) (by decide) (B := spotB) (fun tl => tl = [tl.headD .un, .un]) (fun n tl h1 h2 => spot_ok n tl h1 h2) .un [.un, .un] rfl
  obtain ⟨s2, hs2⟩ : ∃ s2, tl.headD .un = s2 := ⟨_, rfl⟩
  rw [hs2] at ht
  subst ht
  have z4 : (4 ≤ sizeLine) = True := eq_true (by decide)
  have a1 := t_weighted (p := 5) (w := [1, 2]) (v := [3, 4]) (n := 2) f5 (inA (by decide +kernel)) (inA (by decide +kernel)) rfl rfl (by decide)
  rw [show dotZ [1, 2] [3, 4] % 5 = 1 by decide +kernel] at a1
  have a2 := t_vectors_count (p := 5) (w := [1, 2]) (n := 2) f5 (inA (by decide +kernel)) rfl (by decide) (g := 1) (by decide) (by decide)
  rw [show manyR 5 2 [1, 2] 1 = 5 by decide +kernel] at a2
  have a3 := t_vectors_count (p := 5) (w := [0, 0]) (n := 2) f5 (inA (by decide +kernel)) rfl (by decide) (g := 1) (by decide) (by decide)
  rw [show manyR 5 2 [0, 0] 1 = 0 by decide +kernel] at a3
  have a4 := t_vectors_with (p := 5) (w := [0, 1]) (n := 2) (g := 2) f5 (inA (by decide +kernel)) rfl (by decide) (by decide) (by decide) (by decide +kernel)
  rw [show ((vecs 5 2).filter fun v => dotZ [0, 1] v % 5 == 2) = [[0, 2], [1, 2], [2, 2], [3, 2], [4, 2]] by decide +kernel] at a4
  have b1 := t_moved (p := 5) (w := [0, 2]) (v := [3, 4]) (n := 2) f5 (inA (by decide +kernel)) (inA (by decide +kernel)) rfl rfl (by decide) (g := 0) (by decide) (by decide)
  rw [show movR 5 2 [0, 2] [3, 4] 0 = some [3, 0] by decide +kernel] at b1
  have b2 := t_moved (p := 5) (w := [0, 0]) (v := [3, 4]) (n := 2) f5 (inA (by decide +kernel)) (inA (by decide +kernel)) rfl rfl (by decide) (g := 0) (by decide) (by decide)
  rw [show movR 5 2 [0, 0] [3, 4] 0 = none by decide +kernel] at b2
  have c1 := t_weighted (p := 7) (w := []) (v := []) (n := 0) f7 (inA (by decide +kernel)) (inA (by decide +kernel)) rfl rfl (by decide)
  rw [show dotZ [] [] % 7 = 0 by decide +kernel] at c1
  have c2 := t_vectors_with (p := 7) (w := []) (n := 0) (g := 0) f7 (inA (by decide +kernel)) rfl (by decide) (by decide) (by decide) (by decide +kernel)
  rw [show ((vecs 7 0).filter fun v => dotZ [] v % 7 == 0) = [[]] by decide +kernel] at c2
  have c3 := t_vectors_with (p := 7) (w := []) (n := 0) (g := 1) f7 (inA (by decide +kernel)) rfl (by decide) (by decide) (by decide) (by decide +kernel)
  rw [show ((vecs 7 0).filter fun v => dotZ [] v % 7 == 1) = [] by decide +kernel] at c3
  have c4 := t_vectors_count (p := 7) (w := []) (n := 0) f7 (inA (by decide +kernel)) rfl (by decide) (g := 0) (by decide) (by decide)
  rw [show manyR 7 0 [] 0 = 1 by decide +kernel] at c4
  unfold F_law m_law
  refine law_end (g := [.val (.list (ns.map PyData.int)), s1, s2, .own [.int 1, .int 5, .int 0, .tuple [.tuple [.int 0, .int 2], .tuple [.int 1, .int 2]]]]) ?_
  refine (seq_nx eL).trans ?_
  refine (seq_nx (fixA z4 a1 a2 a3 a4 (by rfl))).trans ?_
  refine (seq_nx (fixB z4 b1 b2 (d_neS flF) (d_neS flM))).trans ?_
  exact fixC z4 c1 c2 c3 c4 (d_eqS flR)
end K01
end
open PySem PySem.W PyProof.Rows
set_option maxHeartbeats 0 in
theorem PySem.Challenge.cw_evencoins_k01_whole_even_sums_and_moved_holds : PySem.Challenge.rw_evencoins_k01_whole_even_sums_and_moved.Holds := by
  w_on; o_law; k_head; (case hw => w_witness2)
  k_fill
  refine L2.walk_ofB (l := PySem.Challenge.rw_evencoins_k01_whole_even_sums_and_moved) (n := 63) (k := 13) (x := "script") (CX := fun _ => L2.CX0) (sp := fun w => EV.spM _ 1 [] K01.F_law) rfl (by decide) rfl ⟨rfl, by decide, by decide⟩ (fun w h Y => PySem.W.kIn_of Y) ?F (fun w H a ns hl hb hO hS => EV.law_sp hS (K01.law_true ns hl hb)) (fun _ _ _ _ _ h => h)
  case F =>
    intro w mg fa h KX G hmg
    refine' K01.all_mk KX G hmg ?a_is_integer ?l_is_integer ?c_is_integer ?k_is_integer ?a_is_field ?l_is_field ?c_is_field ?k_is_field ?a_are_numbers ?l_are_numbers ?c_are_numbers ?k_are_numbers ?a_is_vector ?l_is_vector ?c_is_vector ?k_is_vector ?a_check_integer ?l_check_integer ?c_check_integer ?k_check_integer ?a_check_field ?l_check_field ?c_check_field ?k_check_field ?a_check_number ?l_check_number ?c_check_number ?k_check_number ?a_check_vector ?l_check_vector ?c_check_vector ?k_check_vector ?a_raised ?l_raised ?c_raised ?k_raised ?a_inverse ?l_inverse ?c_inverse ?k_inverse ?a_rows_count ?l_rows_count ?c_rows_count ?k_rows_count ?a_sum_of_products ?l_sum_of_products ?c_sum_of_products ?k_sum_of_products ?a_weighted ?l_weighted ?c_weighted ?k_weighted ?a_vectors_count ?l_vectors_count ?c_vectors_count ?k_vectors_count ?a_heavy_places ?l_heavy_places ?c_heavy_places ?k_heavy_places ?a_all_vectors ?l_all_vectors ?c_all_vectors ?k_all_vectors ?a_all_lacks ?l_all_lacks ?c_all_lacks ?k_all_lacks ?a_solved_vectors ?l_solved_vectors ?c_solved_vectors ?k_solved_vectors ?a_vectors_with ?l_vectors_with ?c_vectors_with ?k_vectors_with ?a_moved ?l_moved ?c_moved ?k_moved ?a__law_dice ?l__law_dice ?c__law_dice ?k__law_dice ?a__law_roll ?l__law_roll ?c__law_roll ?k__law_roll ?a__law_pick ?l__law_pick ?c__law_pick ?k__law_pick ?a__law_fd_primes ?l__law_fd_primes ?c__law_fd_primes ?k__law_fd_primes ?a__law_fd_dot ?l__law_fd_dot ?c__law_fd_dot ?k__law_fd_dot ?a__law_fd_times ?l__law_fd_times ?c__law_fd_times ?k__law_fd_times ?a__law_all ?l__law_all ?c__law_all ?k__law_all ?a__law_weights_drawn ?l__law_weights_drawn ?c__law_weights_drawn ?k__law_weights_drawn ?a__law_small_right ?l__law_small_right ?c__law_small_right ?k__law_small_right ?a__law_great_right ?l__law_great_right ?c__law_great_right ?k__law_great_right ?a_law ?l_law ?c_law ?k_law ?z_abs ?z_any ?z_dict ?z_int ?z_isinstance ?z_len ?z_list ?z_max ?z_min ?z_range ?z_sorted ?z_sum ?z_tuple ?z_zip ?q_LEAST_FIELD ?q_MAX_FIELD ?q_MAX_SIDE ?q_MOST_LISTED ?q_SMALL_PRIMES ?r_SMALL_PRIMES
    (case a_is_integer => k_is)
    (case l_is_integer => k_is)
    (case c_is_integer => k_is)
    (case k_is_integer => k_is)
    (case a_is_field => k_is)
    (case l_is_field => k_is)
    (case c_is_field => k_is)
    (case k_is_field => k_is)
    (case a_are_numbers => k_is)
    (case l_are_numbers => k_is)
    (case c_are_numbers => k_is)
    (case k_are_numbers => k_is)
    (case a_is_vector => k_is)
    (case l_is_vector => k_is)
    (case c_is_vector => k_is)
    (case k_is_vector => k_is)
    (case a_check_integer => k_is)
    (case l_check_integer => k_is)
    (case c_check_integer => k_is)
    (case k_check_integer => k_is)
    (case a_check_field => k_is)
    (case l_check_field => k_is)
    (case c_check_field => k_is)
    (case k_check_field => k_is)
    (case a_check_number => k_is)
    (case l_check_number => k_is)
    (case c_check_number => k_is)
    (case k_check_number => k_is)
    (case a_check_vector => k_is)
    (case l_check_vector => k_is)
    (case c_check_vector => k_is)
    (case k_check_vector => k_is)
    (case a_raised => k_is)
    (case l_raised => k_is)
    (case c_raised => k_is)
    (case k_raised => k_is)
    (case a_inverse => k_is)
    (case l_inverse => k_is)
    (case c_inverse => k_is)
    (case k_inverse => k_is)
    (case a_rows_count => k_is)
    (case l_rows_count => k_is)
    (case c_rows_count => k_is)
    (case k_rows_count => k_is)
    (case a_sum_of_products => k_is)
    (case l_sum_of_products => k_is)
    (case c_sum_of_products => k_is)
    (case k_sum_of_products => k_is)
    (case a_weighted => k_is)
    (case l_weighted => k_is)
    (case c_weighted => k_is)
    (case k_weighted => k_is)
    (case a_vectors_count => k_is)
    (case l_vectors_count => k_is)
    (case c_vectors_count => k_is)
    (case k_vectors_count => k_is)
    (case a_heavy_places => k_is)
    (case l_heavy_places => k_is)
    (case c_heavy_places => k_is)
    (case k_heavy_places => k_is)
    (case a_all_vectors => k_is)
    (case l_all_vectors => k_is)
    (case c_all_vectors => k_is)
    (case k_all_vectors => k_is)
    (case a_all_lacks => k_is)
    (case l_all_lacks => k_is)
    (case c_all_lacks => k_is)
    (case k_all_lacks => k_is)
    (case a_solved_vectors => k_is)
    (case l_solved_vectors => k_is)
    (case c_solved_vectors => k_is)
    (case k_solved_vectors => k_is)
    (case a_vectors_with => k_is)
    (case l_vectors_with => k_is)
    (case c_vectors_with => k_is)
    (case k_vectors_with => k_is)
    (case a_moved => k_is)
    (case l_moved => k_is)
    (case c_moved => k_is)
    (case k_moved => k_is)
    (case a__law_dice => k_is)
    (case l__law_dice => k_is)
    (case c__law_dice => k_is)
    (case k__law_dice => k_is)
    (case a__law_roll => k_is)
    (case l__law_roll => k_is)
    (case c__law_roll => k_is)
    (case k__law_roll => k_is)
    (case a__law_pick => k_is)
    (case l__law_pick => k_is)
    (case c__law_pick => k_is)
    (case k__law_pick => k_is)
    (case a__law_fd_primes => k_is)
    (case l__law_fd_primes => k_is)
    (case c__law_fd_primes => k_is)
    (case k__law_fd_primes => k_is)
    (case a__law_fd_dot => k_is)
    (case l__law_fd_dot => k_is)
    (case c__law_fd_dot => k_is)
    (case k__law_fd_dot => k_is)
    (case a__law_fd_times => k_is)
    (case l__law_fd_times => k_is)
    (case c__law_fd_times => k_is)
    (case k__law_fd_times => k_is)
    (case a__law_all => k_is)
    (case l__law_all => k_is)
    (case c__law_all => k_is)
    (case k__law_all => k_is)
    (case a__law_weights_drawn => k_is)
    (case l__law_weights_drawn => k_is)
    (case c__law_weights_drawn => k_is)
    (case k__law_weights_drawn => k_is)
    (case a__law_small_right => k_is)
    (case l__law_small_right => k_is)
    (case c__law_small_right => k_is)
    (case k__law_small_right => k_is)
    (case a__law_great_right => k_is)
    (case l__law_great_right => k_is)
    (case c__law_great_right => k_is)
    (case k__law_great_right => k_is)
    (case a_law => k_is)
    (case l_law => k_is)
    (case c_law => k_is)
    (case k_law => k_is)
    (case z_abs => k_is)
    (case z_any => k_is)
    (case z_dict => k_is)
    (case z_int => k_is)
    (case z_isinstance => k_is)
    (case z_len => k_is)
    (case z_list => k_is)
    (case z_max => k_is)
    (case z_min => k_is)
    (case z_range => k_is)
    (case z_sorted => k_is)
    (case z_sum => k_is)
    (case z_tuple => k_is)
    (case z_zip => k_is)
    (case q_LEAST_FIELD => k_is)
    (case q_MAX_FIELD => k_is)
    (case q_MAX_SIDE => k_is)
    (case q_MOST_LISTED => k_is)
    (case q_SMALL_PRIMES => k_is)
    (case r_SMALL_PRIMES => k_is)
