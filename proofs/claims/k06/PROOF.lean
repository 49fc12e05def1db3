import PyProof.Rows.All
import Wide.All
import OpenK.AllK
import Wide.FinOn
import HandS.ForMost
import HandS.Wide
import HandS.Zip
import HandS.Rev
import HandS.IsInst
import HandS.Walk
import HandS.TupAny
import HandS.Conv
import HandS.EndBits
import HandS.RaiseMore
import HandS.Flow
import HandS.Evl
import HandS.Style
import HandS.TupMul
import HandS.TupLe
import HandS.Iter
import HandS.RevRange
import HandS.SortInts
import HandS.SetFor
import HandS.Strs
import KE.GoesMore
import KE.GoesEnum
import KE.GoesZip
import KE.KItemsList
import PyProof.ListNew
import HandS.List
import HandS.NamedTupSort
import KE.KSortTup
import PyProof.ListOps
import PyProof.Rows.SeqMore
import HandS.Dict
import HandS.More
import KE.KDictSum
import KE.KDictList
import KE.KRevSl
import HandS.Deep
import HandS.WordsExc
import HandS.ExcOwn
import HandS.ExcInit
import KE.KExcInit
import HandS.Lambda
import HandS.TryMany
import HandS.ExcField
import HandS.EndTab
import KE.KExcLine
import KE.RegKTryMore
import PySem.Challenge.RW_evencoins_k06_errors_of_polys
set_option Elab.async false
set_option linter.all false
set_option maxRecDepth 100000
set_option maxHeartbeats 4000000
section
set_option maxHeartbeats 2000000
set_option autoImplicit false
/-! EV: a mirror of plain functions over data, with its soundness over the hand layer's readings. -/
namespace EV
open PySem PySem.Spec PyProof.Rows L2
abbrev Da := PyData
abbrev Frag := PySem.W.Frag
/-! ### data that stands in a heap -/
def keyD : Key → PyData
  | .inl i => .int i
  | .inr x => .str x
def zipK (ks : List Key) (ds : List PyData) : List (PyData × PyData) := List.zipWith (fun k d => (keyD k, d)) ks ds
def zipT (ks : List (List Key)) (ds : List PyData) : List (PyData × PyData) := List.zipWith (fun k d => (.tuple (k.map keyD), d)) ks ds
mutual
inductive Rep (K : Frag) (H : Hp) : V → PyData → Prop
  | non : Rep K H .non .none
  | bl (b : Bool) : Rep K H (.bl b) (.bool b)
  | int (i : Int) : Rep K H (.int i) (.int i)
  | str (x : Str) : Rep K H (.str x) (.str x)
  | lst {a : Addr} {xs : List V} {ds : List PyData} : SqL K H a xs → RepAll K H xs ds → Rep K H (.ref a) (.list ds)
  | tup {a : Addr} {xs : List V} {ds : List PyData} : SqT K H a xs → RepAll K H xs ds → Rep K H (.ref a) (.tuple ds)
  | dk {a : Addr} {o : Obj} {kvs : List (Key × V)} {ds : List PyData} : H a = some (.frz o (.dK kvs)) → RepAll K H (kvs.map fun q => q.2) ds → Rep K H (.ref a) (.dict (zipK (kvs.map fun q => q.1) ds))
inductive RepAll (K : Frag) (H : Hp) : List V → List PyData → Prop
  | nil : RepAll K H [] []
  | cons {v : V} {vs : List V} {d : PyData} {ds : List PyData} : Rep K H v d → RepAll K H vs ds → RepAll K H (v :: vs) (d :: ds)
end
section
variable {K : Frag} {H H' : Hp}
mutual
theorem Rep.mono (e : Evl.Ex H H') : ∀ {v : V} {d : PyData}, Rep K H v d → Rep K H' v d
  | _, _, .non => .non
  | _, _, .bl b => .bl b
  | _, _, .int i => .int i
  | _, _, .str x => .str x
  | _, _, .lst h r => .lst (Evl.ex_l e h) (RepAll.mono e r)
  | _, _, .tup h r => .tup (Evl.ex_t e h) (RepAll.mono e r)
  | _, _, .dk h r => .dk (e _ _ h) (RepAll.mono e r)
theorem RepAll.mono (e : Evl.Ex H H') : ∀ {vs : List V} {ds : List PyData}, RepAll K H vs ds → RepAll K H' vs ds
  | _, _, .nil => .nil
  | _, _, .cons a b => .cons (Rep.mono e a) (RepAll.mono e b)
end
theorem RepAll.length : ∀ {vs : List V} {ds : List PyData}, RepAll K H vs ds → vs.length = ds.length
  | _, _, .nil => rfl
  | _, _, .cons _ b => by rw [List.length_cons, List.length_cons, RepAll.length b]
theorem RepAll.append : ∀ {vs ws : List V} {ds es : List PyData}, RepAll K H vs ds → RepAll K H ws es → RepAll K H (vs ++ ws) (ds ++ es)
  | _, _, _, _, .nil, h => h
  | _, _, _, _, .cons a b, h => .cons a (RepAll.append b h)
theorem RepAll.get : ∀ {vs : List V} {ds : List PyData} {i : Nat} {d : PyData}, RepAll K H vs ds → ds[i]? = some d → ∃ v, vs[i]? = some v ∧ Rep K H v d
  | _, _, _, _, .nil, e => by simp at e
  | _, _, 0, _, .cons a _, e => by simp at e; subst e; exact ⟨_, rfl, a⟩
  | _, _, i + 1, d, .cons _ b, e => by
    obtain ⟨v, h1, h2⟩ := RepAll.get (i := i) (d := d) b (by simpa using e)
    exact ⟨v, by simpa using h1, h2⟩
theorem RepAll.set : ∀ {vs : List V} {ds : List PyData} {v : V} {d : PyData} (i : Nat), RepAll K H vs ds → Rep K H v d → RepAll K H (vs.set i v) (ds.set i d)
  | _, _, _, _, _, .nil, _ => .nil
  | _, _, _, _, 0, .cons _ b, r => .cons r b
  | _, _, _, _, i + 1, .cons a b, r => .cons a (RepAll.set i b r)
theorem RepAll.take : ∀ {vs : List V} {ds : List PyData} (n : Nat), RepAll K H vs ds → RepAll K H (vs.take n) (ds.take n)
  | _, _, 0, _ => .nil
  | _, _, _ + 1, .nil => .nil
  | _, _, n + 1, .cons a b => .cons a (RepAll.take n b)
theorem RepAll.drop : ∀ {vs : List V} {ds : List PyData} (n : Nat), RepAll K H vs ds → RepAll K H (vs.drop n) (ds.drop n)
  | _, _, 0, r => r
  | _, _, _ + 1, .nil => .nil
  | _, _, n + 1, .cons _ b => RepAll.drop n b
theorem RepAll.dropLast {vs : List V} {ds : List PyData} (r : RepAll K H vs ds) : RepAll K H vs.dropLast ds.dropLast := by
  rw [List.dropLast_eq_take, List.dropLast_eq_take, r.length]
  exact r.take _
theorem RepAll.reverse : ∀ {vs : List V} {ds : List PyData}, RepAll K H vs ds → RepAll K H vs.reverse ds.reverse
  | _, _, .nil => .nil
  | _, _, .cons a b => by
    rw [List.reverse_cons, List.reverse_cons]
    exact RepAll.append (RepAll.reverse b) (.cons a .nil)
theorem RepAll.ints : ∀ {vs : List V} {ns : List Int}, RepAll K H vs (ns.map PyData.int) → vs = ns.map V.int
  | _, [], .nil => rfl
  | _, _ :: _, .cons (.int _) b => by rw [List.map_cons, RepAll.ints b]
theorem RepAll.bools : ∀ {vs : List V} {ns : List Bool}, RepAll K H vs (ns.map PyData.bool) → vs = ns.map V.bl
  | _, [], .nil => rfl
  | _, _ :: _, .cons (.bl _) b => by rw [List.map_cons, RepAll.bools b]
theorem RepAll.of_ints : ∀ (ns : List Int), RepAll K H (ns.map V.int) (ns.map PyData.int)
  | [] => .nil
  | n :: ns => .cons (.int n) (RepAll.of_ints ns)
mutual
def noDict : PyData → Bool
  | .dict _ => false
  | .list xs => noDictAll xs
  | .tuple xs => noDictAll xs
  | _ => true
def noDictAll : List PyData → Bool
  | [] => true
  | d :: ds => noDict d && noDictAll ds
end
mutual
theorem Rep.dp : ∀ {v : V} {d : PyData}, Rep K H v d → noDict d = true → Dp K H v d
  | _, _, .non, _ => .non
  | _, _, .bl b, _ => .bl b
  | _, _, .int i, _ => .int i
  | _, _, .str x, _ => .str x
  | _, _, .lst h r, n => .lst h (RepAll.dp r (by simpa [noDict] using n))
  | _, _, .tup h r, n => .tup h (RepAll.dp r (by simpa [noDict] using n))
  | _, _, .dk h _, n => by simp [noDict] at n
theorem RepAll.dp : ∀ {vs : List V} {ds : List PyData}, RepAll K H vs ds → noDictAll ds = true → DpAll K H vs ds
  | _, _, .nil, _ => .nil
  | _, _, .cons a b, n => by
    simp only [noDictAll, Bool.and_eq_true] at n
    exact .cons (Rep.dp a n.1) (RepAll.dp b n.2)
end
end
/-! ### slots, values on the way -/
/-- what stands for itself and never changes: a locked dict whose keys are tuples, a new tuple, a caught exception (at a, its dict at dd) that keeps d under f -/
inductive Xd where
  | ld (es : List (Da × Da)) | nt (ds : List Da) | er (a dd : Addr) (f : Str) (d : Da)
inductive Sl where
  | un | val (d : Da) | own (ds : List Da) | raw (v : V) | dic (t : Bool) (es : List (Da × Da)) | tab (qs : List Addr) (rs : List (List Da)) | grp (qs : List Addr) (rs : List (List Da)) | rg (lo hi : Int) | x (d : Xd)
def Sl.ow : Sl → Bool
  | .own _ => true
  | .dic _ _ => true
  | .tab _ _ => true
  | .grp _ _ => true
  | _ => false
/-- what stands behind a slot besides its own object: the rows of a table -/
def Sl.inn : Sl → List Addr
  | .tab qs _ => qs
  | .grp qs _ => qs
  | _ => []
/-- the object of a slot, or one of its rows -/
def At (s : Sl) (v : Option (Option V)) (p : Addr) : Prop := v = some (some (.ref p)) ∨ p ∈ s.inn
theorem At.imp {s : Sl} {v v' : Option (Option V)} {p : Addr} (h : At s v p) (f : v = some (some (.ref p)) → v' = some (some (.ref p))) : At s v' p := h.elim (fun z => .inl (f z)) .inr
theorem At.eq {s : Sl} {v : Option (Option V)} {p : Addr} (h : At s v p) (n : s.inn = [] := by rfl) : v = some (some (.ref p)) := by
  rcases h with h | h
  · exact h
  · rw [n] at h; cases h
/-- a dict of one's own: its keys ints and texts, or tuples of them -/
def DicOk (K : Frag) (Hf : Hp) (o : Option HO) : Bool → List (Da × Da) → Prop
  | false, es => ∃ (kvs : List (Key × V)) (ds : List Da), o = some (.dK kvs) ∧ RepAll K Hf (kvs.map fun q => q.2) ds ∧ es = zipK (kvs.map fun q => q.1) ds
  | true, es => ∃ (kvs : List (List Key × V)) (ds : List Da), o = some (.dT kvs) ∧ RepAll K Hf (kvs.map fun q => q.2) ds ∧ es = zipT (kvs.map fun q => q.1) ds
theorem DicOk.mono {K : Frag} {Hf Hf' : Hp} {o : Option HO} {t : Bool} {es : List (Da × Da)} (e : Evl.Ex Hf Hf') (h : DicOk K Hf o t es) : DicOk K Hf' o t es := by
  cases t with
  | false => obtain ⟨kvs, ds, h1, h2, h3⟩ := h; exact ⟨kvs, ds, h1, h2.mono e, h3⟩
  | true => obtain ⟨kvs, ds, h1, h2, h3⟩ := h; exact ⟨kvs, ds, h1, h2.mono e, h3⟩
theorem DicOk.some {K : Frag} {Hf : Hp} {o : Option HO} {t : Bool} {es : List (Da × Da)} (h : DicOk K Hf o t es) : ∃ u, o = some u := by
  cases t with
  | false => obtain ⟨kvs, ds, h1, _⟩ := h; exact ⟨_, h1⟩
  | true => obtain ⟨kvs, ds, h1, _⟩ := h; exact ⟨_, h1⟩
inductive Wv where
  | dat (d : Da) | fresh (ds : List Da) | slot (i : Nat) | raw (v : V) | x (d : Xd)
abbrev Gh := List Sl
/-- the rows of a table of one's own -/
inductive TabOk (K : Frag) (Hf H : Hp) : List Addr → List (List Da) → Prop
  | nil : TabOk K Hf H [] []
  | cons {q : Addr} {vs : List V} {r : List Da} {qs : List Addr} {rs : List (List Da)} : Hf q = none → H q = some (.lst vs) → RepAll K Hf vs r → TabOk K Hf H qs rs → TabOk K Hf H (q :: qs) (r :: rs)
theorem TabOk.stay {K : Frag} {Hf Hf' H H' : Hp} (ex : Evl.Ex Hf Hf') : ∀ {qs : List Addr} {rs : List (List Da)}, TabOk K Hf H qs rs → (∀ p u, p ∈ qs → H p = some u → Hf p = none → H' p = some u ∧ Hf' p = none) → TabOk K Hf' H' qs rs
  | _, _, .nil, _ => .nil
  | _, _, .cons (q := q) a b c d, k => by
    obtain ⟨k1, k2⟩ := k q _ List.mem_cons_self b a
    exact .cons k2 k1 (c.mono ex) (TabOk.stay ex d fun p u hp => k p u (List.mem_cons_of_mem _ hp))
theorem TabOk.there {K : Frag} {Hf H : Hp} {p : Addr} : ∀ {qs : List Addr} {rs : List (List Da)}, TabOk K Hf H qs rs → p ∈ qs → ∃ u, H p = some u ∧ Hf p = none
  | _, _, .cons a b c d, h => by
    rcases List.mem_cons.mp h with rfl | h
    · exact ⟨_, b, a⟩
    · exact d.there h
/-- the pairs of a dict of lists of one's own: its keys are 0, 1, .. -/
def kvG (qs : List Addr) : List (Key × V) := qs.mapIdx fun i q => (.inl ((i : Nat) : Int), .ref q)
def XOk (K : Frag) (Hf : Hp) : Xd → V → Prop
  | .ld es, v => ∃ (p : Addr) (o : Obj) (kvs : List (List Key × V)) (ds : List Da), v = .ref p ∧ Hf p = some (.frz o (.dT kvs)) ∧ RepAll K Hf (kvs.map fun q => q.2) ds ∧ es = zipT (kvs.map fun q => q.1) ds
  | .nt ds, v => ∃ (p : Addr) (us : List V), v = .ref p ∧ Hf p = some (.tup us) ∧ RepAll K Hf us ds
  | .er a dd f d, v => v = .ref a ∧ ∃ w : V, Hf dd = some (.xd [(f, w)]) ∧ Rep K Hf w d
theorem XOk.mono {K : Frag} {Hf Hf' : Hp} (ex : Evl.Ex Hf Hf') : ∀ {d : Xd} {v : V}, XOk K Hf d v → XOk K Hf' d v
  | .ld _, _, ⟨p, o, kvs, ds, e, h1, h2, h3⟩ => ⟨p, o, kvs, ds, e, ex _ _ h1, h2.mono ex, h3⟩
  | .nt _, _, ⟨p, us, e, h1, h2⟩ => ⟨p, us, e, ex _ _ h1, h2.mono ex⟩
  | .er _ _ _ _, _, ⟨e, w, h1, h2⟩ => ⟨e, w, ex _ _ h1, h2.mono ex⟩
def SlotOk (K : Frag) (Hf H : Hp) (s : Sl) (v : V) : Prop :=
  match s with
  | .un => True
  | .val d => Rep K Hf v d
  | .own ds => ∃ p vs, v = .ref p ∧ Hf p = none ∧ H p = some (.lst vs) ∧ RepAll K Hf vs ds
  | .raw w => v = w
  | .dic t es => ∃ p, v = .ref p ∧ Hf p = none ∧ DicOk K Hf (H p) t es
  | .tab qs rs => ∃ p, v = .ref p ∧ Hf p = none ∧ H p = some (.lst (qs.map V.ref)) ∧ (p :: qs).Nodup ∧ TabOk K Hf H qs rs
  | .grp qs rs => ∃ p, v = .ref p ∧ Hf p = none ∧ H p = some (.dK (kvG qs)) ∧ (p :: qs).Nodup ∧ TabOk K Hf H qs rs
  | .rg lo hi => ∃ p, v = .ref p ∧ Hf p = some (.rng lo hi)
  | .x d => XOk K Hf d v
def Own (g : Gh) (σ : L2.St) (p : Addr) : Prop := ∃ (i : Nat) (s : Sl), g[i]? = some s ∧ s.ow = true ∧ At s σ[i]? p
structure En (K : Frag) (pr : List Nat) (B : Addr → Prop) (Hf H : Hp) (g : Gh) (σ : L2.St) : Prop where
  ex : Evl.Ex Hf H
  len : g.length = σ.length
  ok : ∀ (i : Nat) (s : Sl), g[i]? = some s → s ≠ .un → ∃ v, σ[i]? = some (some v) ∧ SlotOk K Hf H s v
  dis : ∀ (i j : Nat) (s t : Sl) (p : Addr), g[i]? = some s → s.ow = true → g[j]? = some t → t.ow = true → At s σ[i]? p → At t σ[j]? p → i = j
  nb : ∀ p, H p = none → B p
  ob : ∀ (i : Nat) (s : Sl) (p : Addr), g[i]? = some s → s.ow = true → σ[i]? = some (some (.ref p)) → i ∈ pr ∨ B p
  obi : ∀ (i : Nat) (s : Sl) (p : Addr), g[i]? = some s → p ∈ s.inn → B p ∧ i ∉ pr
structure Tr (O : Addr → Prop) (Hf H Hf' H' : Hp) : Prop where
  ex : Evl.Ex Hf Hf'
  keep : ∀ p o, H p = some o → ¬ O p → H' p = some o ∧ Hf' p = Hf p
  stay : ∀ p, H' p = none → H p = none
/-- a value on the way, as it stands -/
def WOk (K : Frag) (B : Addr → Prop) (Hf H : Hp) (g : Gh) (σ : L2.St) (w : Wv) (v : V) : Prop :=
  match w with
  | .dat d => Rep K Hf v d
  | .fresh ds => ∃ p vs, v = .ref p ∧ B p ∧ Hf p = none ∧ H p = some (.lst vs) ∧ RepAll K Hf vs ds ∧ ¬ Own g σ p
  | .slot i => σ[i]? = some (some v)
  | .raw x => v = x
  | .x d => XOk K Hf d v
section
variable {K : Frag} {pr : List Nat} {B : Addr → Prop} {Hf H Hf' H' Hf1 H1 Hf2 H2 : Hp} {g g' g1 g2 : Gh} {σ σ' : L2.St} {O O1 : Addr → Prop} {v : V} {w : Wv} {d : Da}
theorem upd_none {H : Hp} {p q : Addr} {o : HO} (h : upd H p o q = none) : H q = none := by
  by_cases e : q = p
  · subst e; rw [upd_same] at h; cases h
  · rw [upd_ne e] at h; exact h
theorem Tr.refl : Tr O Hf H Hf H := ⟨Evl.Ex.refl Hf, fun _ _ h _ => ⟨h, rfl⟩, fun _ h => h⟩
theorem Tr.trans (a : Tr O Hf H Hf1 H1) (b : Tr O1 Hf1 H1 Hf2 H2) (s : ∀ p, O1 p → O p ∨ H p = none) : Tr O Hf H Hf2 H2 :=
  ⟨a.ex.trans b.ex, fun p o h n => by
    obtain ⟨h1, e1⟩ := a.keep p o h n
    obtain ⟨h2, e2⟩ := b.keep p o h1 fun z => by
      rcases s p z with z | z
      · exact n z
      · rw [h] at z; cases z
    exact ⟨h2, e2.trans e1⟩, fun p h => a.stay p (b.stay p h)⟩
theorem Tr.trans' (a : Tr O Hf H Hf1 H1) (b : Tr O1 Hf1 H1 Hf2 H2) (s : ∀ p, O1 p → O p) : Tr O Hf H Hf2 H2 := a.trans b fun p h => .inl (s p h)
theorem Tr.wide (a : Tr O Hf H Hf1 H1) (s : ∀ p, O p → O1 p) : Tr O1 Hf H Hf1 H1 := ⟨a.ex, fun p o h n => a.keep p o h fun z => n (s p z), a.stay⟩
theorem En.frz (E : En K pr B Hf H g σ) {p : Addr} (h : H p = none) : Hf p = none := Evl.fresh_back E.ex h
theorem SlotOk.there {s : Sl} {v : V} (h : SlotOk K Hf H s v) (o : s.ow = true) : ∃ p u, v = .ref p ∧ H p = some u ∧ Hf p = none := by
  cases s with
  | own ds =>
    obtain ⟨p, vs, e, h1, h2, _⟩ := h
    exact ⟨p, _, e, h2, h1⟩
  | dic t es =>
    obtain ⟨p, e, h1, h2⟩ := h
    obtain ⟨u, hu⟩ := h2.some
    exact ⟨p, u, e, hu, h1⟩
  | tab qs rs =>
    obtain ⟨p, e, h1, h2, _⟩ := h
    exact ⟨p, _, e, h2, h1⟩
  | grp qs rs =>
    obtain ⟨p, e, h1, h2, _⟩ := h
    exact ⟨p, _, e, h2, h1⟩
  | un => cases o
  | val d => cases o
  | raw w => cases o
  | x d => cases o
  | rg a b => cases o
theorem SlotOk.inn {s : Sl} {v : V} {p : Addr} (h : SlotOk K Hf H s v) (hp : p ∈ s.inn) : ∃ u, H p = some u ∧ Hf p = none := by
  cases s with
  | tab qs rs =>
    obtain ⟨_, _, _, _, _, t⟩ := h
    exact t.there hp
  | grp qs rs =>
    obtain ⟨_, _, _, _, _, t⟩ := h
    exact t.there hp
  | _ => cases hp
theorem SlotOk.atS {s : Sl} {v : V} {p : Addr} (h : SlotOk K Hf H s v) (o : s.ow = true) (a : At s (some (some v)) p) : ∃ u, H p = some u ∧ Hf p = none := by
  rcases a with a | a
  · obtain ⟨q, u, rfl, h1, h2⟩ := h.there o
    cases a
    exact ⟨u, h1, h2⟩
  · exact h.inn a
theorem SlotOk.stay {s : Sl} {v : V} (h : SlotOk K Hf H s v) (ex : Evl.Ex Hf Hf') (k : ∀ p u, s.ow = true → At s (some (some v)) p → H p = some u → Hf p = none → H' p = some u ∧ Hf' p = none) : SlotOk K Hf' H' s v := by
  cases s with
  | un => trivial
  | val d => exact Rep.mono ex h
  | own ds =>
    obtain ⟨q, vs, rfl, h1, h2, h3⟩ := h
    obtain ⟨k1, k2⟩ := k q _ rfl (.inl rfl) h2 h1
    exact ⟨q, vs, rfl, k2, k1, h3.mono ex⟩
  | dic t es =>
    obtain ⟨q, rfl, h1, h2⟩ := h
    obtain ⟨u, hu⟩ := h2.some
    obtain ⟨k1, k2⟩ := k q _ rfl (.inl rfl) hu h1
    exact ⟨q, rfl, k2, by rw [k1, ← hu]; exact h2.mono ex⟩
  | tab qs rs =>
    obtain ⟨q, rfl, h1, h2, h3, h4⟩ := h
    obtain ⟨k1, k2⟩ := k q _ rfl (.inl rfl) h2 h1
    exact ⟨q, rfl, k2, k1, h3, h4.stay ex fun p u hp => k p u rfl (.inr hp)⟩
  | grp qs rs =>
    obtain ⟨q, rfl, h1, h2, h3, h4⟩ := h
    obtain ⟨k1, k2⟩ := k q _ rfl (.inl rfl) h2 h1
    exact ⟨q, rfl, k2, k1, h3, h4.stay ex fun p u hp => k p u rfl (.inr hp)⟩
  | rg a b =>
    obtain ⟨q, rfl, h1⟩ := h
    exact ⟨q, rfl, ex _ _ h1⟩
  | raw w => exact h
  | x d => exact XOk.mono ex h
theorem inn_ow {s : Sl} {p : Addr} (h : p ∈ s.inn) : s.ow = true := by
  cases s with
  | tab qs rs => rfl
  | grp qs rs => rfl
  | _ => cases h
theorem ow_ne {s : Sl} (o : s.ow = true) : s ≠ .un := fun z => by rw [z] at o; cases o
theorem En.own_some (E : En K pr B Hf H g σ) {p : Addr} (h : Own g σ p) : ∃ u, H p = some u ∧ Hf p = none := by
  obtain ⟨i, s, e1, o, e2⟩ := h
  obtain ⟨v, e3, sl⟩ := E.ok i _ e1 (ow_ne o)
  rw [e3] at e2
  exact sl.atS o e2
theorem En.own_none (E : En K pr B Hf H g σ) {p : Addr} (h : H p = none) : ¬ Own g σ p := fun z => by
  obtain ⟨u, h1, _⟩ := E.own_some z
  rw [h] at h1; cases h1
/-- a new object, frozen at once -/
theorem En.new (E : En K pr B Hf H g σ) {p : Addr} {o : HO} (h : H p = none) : En K pr B (upd Hf p o) (upd H p o) g σ where
  ex := fun a u e => by
    by_cases q : a = p
    · subst q; rw [upd_same] at e ⊢; exact e
    · rw [upd_ne q] at e ⊢; exact E.ex a u e
  len := E.len
  ok := fun i s e n => by
    obtain ⟨v, e1, s1⟩ := E.ok i s e n
    refine ⟨v, e1, ?_⟩
    exact s1.stay (Evl.Ex.new (E.frz h)) fun q u _ _ h2 h1 => by
      have ne : q ≠ p := ne_of_none h2 h
      exact ⟨by rw [upd_ne ne]; exact h2, by rw [upd_ne ne]; exact h1⟩
  dis := E.dis
  nb := fun q hq => by
    by_cases e : q = p
    · subst e; rw [upd_same] at hq; cases hq
    · rw [upd_ne e] at hq; exact E.nb q hq
  ob := E.ob
  obi := E.obi
theorem Tr.new {p : Addr} {o : HO} (hf : Hf p = none) (h : H p = none) : Tr O Hf H (upd Hf p o) (upd H p o) :=
  ⟨Evl.Ex.new hf, fun q u e _ => by
    have ne : q ≠ p := ne_of_none e h
    exact ⟨by rw [upd_ne ne]; exact e, upd_ne ne⟩, fun q hq => upd_none hq⟩
/-- a new object that is not frozen -/
theorem En.mut (E : En K pr B Hf H g σ) {p : Addr} {o : HO} (h : H p = none) : En K pr B Hf (upd H p o) g σ where
  ex := Evl.Ex.mut E.ex (E.frz h)
  len := E.len
  ok := fun i s e n => by
    obtain ⟨v, e1, s1⟩ := E.ok i s e n
    refine ⟨v, e1, ?_⟩
    exact s1.stay (Evl.Ex.refl _) fun q u _ _ h2 h1 => ⟨by rw [upd_ne (ne_of_none h2 h)]; exact h2, h1⟩
  dis := E.dis
  nb := fun q hq => by
    by_cases e : q = p
    · subst e; rw [upd_same] at hq; cases hq
    · rw [upd_ne e] at hq; exact E.nb q hq
  ob := E.ob
  obi := E.obi
theorem Tr.mut {p : Addr} {o : HO} (h : H p = none) : Tr O Hf H Hf (upd H p o) :=
  ⟨Evl.Ex.refl _, fun q u e _ => ⟨by rw [upd_ne (ne_of_none e h)]; exact e, rfl⟩, fun q hq => upd_none hq⟩
/-- an object that no slot owns and that is not frozen, changed -/
theorem En.put (E : En K pr B Hf H g σ) {p : Addr} {o : HO} (hf : Hf p = none) (n : ¬ Own g σ p) : En K pr B Hf (upd H p o) g σ where
  ex := Evl.Ex.mut E.ex hf
  len := E.len
  ok := fun i s e m => by
    obtain ⟨v, e1, s1⟩ := E.ok i s e m
    refine ⟨v, e1, ?_⟩
    exact s1.stay (Evl.Ex.refl _) fun q u o z h2 h1 => by
      have ne : q ≠ p := fun y => by subst y; exact n ⟨i, s, e, o, by rw [e1]; exact z⟩
      exact ⟨by rw [upd_ne ne]; exact h2, h1⟩
  dis := E.dis
  nb := fun q hq => by
    by_cases e : q = p
    · subst e; rw [upd_same] at hq; cases hq
    · rw [upd_ne e] at hq; exact E.nb q hq
  ob := E.ob
  obi := E.obi
/-- such an object is frozen as it stands -/
theorem En.freeze (E : En K pr B Hf H g σ) {p : Addr} {o : HO} (h : H p = some o) (hf : Hf p = none) (n : ¬ Own g σ p) : En K pr B (upd Hf p o) H g σ where
  ex := fun a u e => by
    by_cases q : a = p
    · subst q; rw [upd_same] at e; cases e; exact h
    · rw [upd_ne q] at e; exact E.ex a u e
  len := E.len
  ok := fun i s e m => by
    obtain ⟨v, e1, s1⟩ := E.ok i s e m
    refine ⟨v, e1, ?_⟩
    exact s1.stay (Evl.Ex.new hf) fun q u o z h2 h1 => by
      have ne : q ≠ p := fun y => by subst y; exact n ⟨i, s, e, o, by rw [e1]; exact z⟩
      exact ⟨h2, by rw [upd_ne ne]; exact h1⟩
  dis := E.dis
  nb := E.nb
  ob := E.ob
  obi := E.obi
theorem get_set {α : Type} {l : List α} {i j : Nat} {a b : α} (h : (l.set i a)[j]? = some b) : (j = i ∧ b = a) ∨ (j ≠ i ∧ l[j]? = some b) := by
  by_cases e : i = j
  · subst e
    by_cases hl : i < l.length
    · rw [List.getElem?_set_self hl] at h
      cases h
      exact .inl ⟨rfl, rfl⟩
    · rw [List.getElem?_eq_none (by simpa using hl)] at h
      cases h
  · rw [List.getElem?_set_ne e] at h
    exact .inr ⟨fun z => e z.symm, h⟩
/-- a slot given up -/
theorem get_un {g : Gh} {i j : Nat} {s : Sl} (h : (g.set i .un)[j]? = some s) (o : s.ow = true) : j ≠ i ∧ g[j]? = some s := by
  rcases get_set h with ⟨_, z⟩ | ⟨n, h⟩
  · rw [z] at o; cases o
  · exact ⟨n, h⟩
theorem En.drop (E : En K pr B Hf H g σ) (i : Nat) : En K pr B Hf H (g.set i .un) σ where
  ex := E.ex
  len := by rw [List.length_set]; exact E.len
  ok := fun j s e n => by
    rcases get_set e with ⟨_, z⟩ | ⟨_, e⟩
    · exact absurd z n
    · exact E.ok j s e n
  dis := fun a b s t p h1 o1 h2 o2 => E.dis a b s t p (get_un h1 o1).2 o1 (get_un h2 o2).2 o2
  nb := E.nb
  ob := fun a s p h1 o1 => E.ob a s p (get_un h1 o1).2 o1
  obi := fun a s p h1 hp => E.obi a s p (get_un h1 (inn_ow hp)).2 hp
theorem own_drop {i : Nat} {p : Addr} (h : Own (g.set i .un) σ p) : Own g σ p := by
  obtain ⟨j, s, e1, o, e2⟩ := h
  exact ⟨j, s, (get_un e1 o).2, o, e2⟩
/-- behind giving up, the object is nobody's -/
theorem En.not_own_dropS (E : En K pr B Hf H g σ) {i : Nat} {s : Sl} {p : Addr} (h : g[i]? = some s) (o : s.ow = true) (e : At s σ[i]? p) : ¬ Own (g.set i .un) σ p := fun z => by
  obtain ⟨j, t, e1, o1, e2⟩ := z
  obtain ⟨ne, e1⟩ := get_un e1 o1
  exact ne (E.dis j i t s p e1 o1 h o e2 e)
theorem En.not_own_drop (E : En K pr B Hf H g σ) {i : Nat} {ds : List Da} {p : Addr} (h : g[i]? = some (.own ds)) (e : σ[i]? = some (some (.ref p))) : ¬ Own (g.set i .un) σ p := E.not_own_dropS h rfl (.inl e)
/-- a slot's word replaced, the value as it stands -/
theorem En.put_slotT (E : En K pr B Hf H g σ) {i : Nat} {s : Sl} {v : V} (hv : σ[i]? = some (some v)) (hs : SlotOk K Hf H s v) (ho : s.ow = true → ∀ p, v = .ref p → ¬ Own (g.set i .un) σ p ∧ (i ∈ pr ∨ B p)) (hi : ∀ p, p ∈ s.inn → ¬ Own (g.set i .un) σ p ∧ B p ∧ i ∉ pr) : En K pr B Hf H (g.set i s) σ where
  ex := E.ex
  len := by rw [List.length_set]; exact E.len
  ok := fun j t e n => by
    rcases get_set e with ⟨rfl, rfl⟩ | ⟨_, e⟩
    · exact ⟨v, hv, hs⟩
    · exact E.ok j t e n
  dis := fun a b s1 t1 p h1 o1 h2 o2 e1 e2 => by
    have no : s.ow = true → At s σ[i]? p → ¬ Own (g.set i .un) σ p := fun o z => by
      rcases z with z | z
      · rw [hv] at z
        exact (ho o p (Option.some.inj (Option.some.inj z))).1
      · exact (hi p z).1
    rcases get_set h1 with ⟨rfl, rfl⟩ | ⟨na, h1'⟩
    · rcases get_set h2 with ⟨rfl, _⟩ | ⟨nb, h2'⟩
      · rfl
      · exact absurd ⟨b, t1, by rw [List.getElem?_set_ne (Ne.symm nb)]; exact h2', o2, e2⟩ (no o1 e1)
    · rcases get_set h2 with ⟨rfl, rfl⟩ | ⟨nb, h2'⟩
      · exact absurd ⟨a, s1, by rw [List.getElem?_set_ne (Ne.symm na)]; exact h1', o1, e1⟩ (no o2 e2)
      · exact E.dis a b s1 t1 p h1' o1 h2' o2 e1 e2
  nb := E.nb
  ob := fun a s1 p h1 o1 e1 => by
    rcases get_set h1 with ⟨rfl, rfl⟩ | ⟨na, h1'⟩
    · rw [e1] at hv; cases hv
      exact (ho o1 p rfl).2
    · exact E.ob a s1 p h1' o1 e1
  obi := fun a s1 p h1 hp => by
    rcases get_set h1 with ⟨rfl, rfl⟩ | ⟨na, h1'⟩
    · exact (hi p hp).2
    · exact E.obi a s1 p h1' hp
theorem En.put_slotS (E : En K pr B Hf H g σ) {i : Nat} {s : Sl} {v : V} (hv : σ[i]? = some (some v)) (hs : SlotOk K Hf H s v) (ho : s.ow = true → ∀ p, v = .ref p → ¬ Own (g.set i .un) σ p ∧ (i ∈ pr ∨ B p)) (ni : s.inn = []) : En K pr B Hf H (g.set i s) σ :=
  E.put_slotT hv hs ho fun p hp => by rw [ni] at hp; cases hp
theorem En.put_slot (E : En K pr B Hf H g σ) {i : Nat} {s : Sl} {v : V} (hv : σ[i]? = some (some v)) (hs : SlotOk K Hf H s v) (ho : ∀ ds, s = .own ds → ∀ p, v = .ref p → ¬ Own (g.set i .un) σ p ∧ (i ∈ pr ∨ B p)) (nd : ∀ t es, s ≠ .dic t es := by intro _ _ z; cases z) (nt : ∀ t es, s ≠ .tab t es := by intro _ _ z; cases z) (ng : ∀ t es, s ≠ .grp t es := by intro _ _ z; cases z) : En K pr B Hf H (g.set i s) σ :=
  E.put_slotS hv hs (fun o p => by
    cases s with
    | own ds => exact ho ds rfl p
    | dic t es => exact absurd rfl (nd t es)
    | tab t es => exact absurd rfl (nt t es)
    | grp t es => exact absurd rfl (ng t es)
    | un => cases o
    | val d => cases o
    | raw w => cases o
    | x d => cases o
    | rg a b => cases o) (by cases s <;> first | rfl | exact absurd rfl (nt _ _) | exact absurd rfl (ng _ _))
theorem own_putS {i : Nat} {s : Sl} {p : Addr} (h : Own (g.set i s) σ p) : Own (g.set i .un) σ p ∨ (s.ow = true ∧ At s σ[i]? p) := by
  obtain ⟨j, t, e1, o, e2⟩ := h
  rcases get_set e1 with ⟨rfl, rfl⟩ | ⟨n, e1⟩
  · exact .inr ⟨o, e2⟩
  · exact .inl ⟨j, t, by rw [List.getElem?_set_ne (Ne.symm n)]; exact e1, o, e2⟩
theorem own_put {i : Nat} {s : Sl} {p : Addr} (h : Own (g.set i s) σ p) (nd : ∀ t es, s ≠ .dic t es := by intro _ _ z; cases z) (nt : ∀ t es, s ≠ .tab t es := by intro _ _ z; cases z) (ng : ∀ t es, s ≠ .grp t es := by intro _ _ z; cases z) : Own (g.set i .un) σ p ∨ (∃ ds, s = .own ds ∧ σ[i]? = some (some (.ref p))) := by
  rcases own_putS h with z | ⟨o, z⟩
  · exact .inl z
  · refine .inr ?_
    cases s with
    | own ds => exact ⟨ds, rfl, z.eq⟩
    | dic t es => exact absurd rfl (nd t es)
    | tab t es => exact absurd rfl (nt t es)
    | grp t es => exact absurd rfl (ng t es)
    | un => cases o
    | val d => cases o
    | raw w => cases o
    | x d => cases o
    | rg a b => cases o
/-- a slot's word weakened -/
theorem En.own_val (E : En K pr B Hf H g σ) {i : Nat} {ds : List Da} (h : g[i]? = some (.own ds)) :
    ∃ p vs, σ[i]? = some (some (.ref p)) ∧ H p = some (.lst vs) ∧ Hf p = none ∧ RepAll K Hf vs ds ∧ Own g σ p := by
  obtain ⟨v, e1, p, vs, rfl, h1, h2, h3⟩ := E.ok i _ h (by simp)
  exact ⟨p, vs, e1, h2, h1, h3, i, .own ds, h, rfl, .inl e1⟩
theorem lt_of_get {α : Type} {l : List α} {i : Nat} {a : α} (h : l[i]? = some a) : i < l.length := by
  rcases Nat.lt_or_ge i l.length with q | q
  · exact q
  · rw [List.getElem?_eq_none q] at h; cases h
/-- a slot that owns is frozen -/
theorem En.freezeSlot (E : En K pr B Hf H g σ) {i : Nat} {ds : List Da} {p : Addr} {vs : List V} (h : g[i]? = some (.own ds)) (e : σ[i]? = some (some (.ref p))) (hp : H p = some (.lst vs)) :
    En K pr B (upd Hf p (.lst vs)) H (g.set i (.val (.list ds))) σ ∧ Rep K (upd Hf p (.lst vs)) (.ref p) (.list ds) ∧ Tr (Own g σ) Hf H (upd Hf p (.lst vs)) H ∧ (∀ q, Own (g.set i (.val (.list ds))) σ q → Own g σ q) := by
  obtain ⟨p', vs', e1, h1, h2, h3, ow⟩ := E.own_val h
  rw [e] at e1; cases e1
  rw [hp] at h1; cases h1
  have n := E.not_own_drop h e
  have E1 := (E.drop i).freeze hp h2 n
  have r : Rep K (upd Hf p (.lst vs)) (.ref p) (.list ds) := .lst (.inl (.inl upd_same)) (h3.mono (Evl.Ex.new h2))
  have E2 := E1.put_slot (i := i) (s := .val (.list ds)) e r (fun _ z => by cases z)
  rw [List.set_set] at E2
  refine ⟨E2, r, ⟨Evl.Ex.new h2, fun q o hq no => ⟨hq, upd_ne (fun z => no (z ▸ ow))⟩, fun _ h => h⟩, fun q hq => ?_⟩
  rcases own_put hq with z | ⟨_, z, _⟩
  · exact own_drop z
  · cases z
/-- the word of a value on the way, further on -/
theorem WOk.step (h : WOk K B Hf1 H1 g1 σ w v) (E1 : En K pr B Hf1 H1 g1 σ) (t : Tr (Own g1 σ) Hf1 H1 Hf2 H2) (s : ∀ p, Own g2 σ p → Own g1 σ p ∨ H1 p = none) : WOk K B Hf2 H2 g2 σ w v := by
  cases w with
  | dat d => exact Rep.mono t.ex h
  | fresh ds =>
    obtain ⟨p, vs, rfl, hb, hf, hp, r, n⟩ := h
    obtain ⟨k1, k2⟩ := t.keep p _ hp n
    refine ⟨p, vs, rfl, hb, k2.trans hf, k1, r.mono t.ex, fun z => ?_⟩
    rcases s p z with z | z
    · exact n z
    · rw [hp] at z; cases z
  | slot i => exact h
  | raw x => exact h
  | x d => exact XOk.mono t.ex h
end
/-! ### from a value on the way to data -/
def toD : Wv → Gh → Option (Da × Gh)
  | .dat d, g => some (d, g)
  | .fresh ds, g => some (.list ds, g)
  | .slot i, g => match g[i]? with
    | some (.own ds) => some (.list ds, g.set i (.val (.list ds)))
    | some (.val d) => some (d, g)
    | _ => none
  | .raw _, _ => none
  | .x _, _ => none
def look : Wv → Gh → Option Da
  | .dat d, _ => some d
  | .fresh ds, _ => some (.list ds)
  | .slot i, g => match g[i]? with
    | some (.own ds) => some (.list ds)
    | some (.val d) => some d
    | _ => none
  | .raw _, _ => none
  | .x _, _ => none
section
variable {K : Frag} {pr : List Nat} {B : Addr → Prop} {Hf H Hf' H' Hf1 H1 Hf2 H2 : Hp} {g g' g1 g2 : Gh} {σ σ' : L2.St} {O O1 : Addr → Prop} {v : V} {w : Wv} {d : Da}
/-- the step: what an expression leaves -/
structure Stp (K : Frag) (pr : List Nat) (B : Addr → Prop) (Hf H : Hp) (g : Gh) (σ : L2.St) (Hf' H' : Hp) (g' : Gh) : Prop where
  tr : Tr (Own g σ) Hf H Hf' H'
  env : En K pr B Hf' H' g' σ
  sub : ∀ p, Own g' σ p → Own g σ p
theorem Stp.refl (E : En K pr B Hf H g σ) : Stp K pr B Hf H g σ Hf H g := ⟨Tr.refl, E, fun _ h => h⟩
theorem Stp.trans (a : Stp K pr B Hf H g σ Hf1 H1 g1) (b : Stp K pr B Hf1 H1 g1 σ Hf2 H2 g2) : Stp K pr B Hf H g σ Hf2 H2 g2 :=
  ⟨a.tr.trans' b.tr a.sub, b.env, fun p h => a.sub p (b.sub p h)⟩
theorem Stp.way (a : Stp K pr B Hf1 H1 g1 σ Hf2 H2 g2) (E : En K pr B Hf1 H1 g1 σ) (h : WOk K B Hf1 H1 g1 σ w v) : WOk K B Hf2 H2 g2 σ w v := h.step E a.tr fun p z => .inl (a.sub p z)
/-- freezing a fresh list: the step is from ahead of its making (B p: it is young) -/
theorem toD_ok (E : En K pr B Hf H g σ) (h : WOk K B Hf H g σ w v) (e : toD w g = some (d, g')) :
    ∃ Hf', En K pr B Hf' H g' σ ∧ Rep K Hf' v d ∧ Evl.Ex Hf Hf' ∧ (∀ p, Own g' σ p → Own g σ p) ∧ (∀ p o, H p = some o → ¬ Own g σ p → Hf' p = Hf p ∨ ((∃ ds, w = .fresh ds) ∧ v = .ref p)) := by
  cases w with
  | dat d' =>
    cases e
    exact ⟨Hf, E, h, Evl.Ex.refl _, fun _ h => h, fun _ _ _ _ => .inl rfl⟩
  | fresh ds =>
    cases e
    obtain ⟨p, vs, rfl, hb, hf, hp, r, n⟩ := h
    refine ⟨upd Hf p (.lst vs), E.freeze hp hf n, .lst (.inl (.inl upd_same)) (r.mono (Evl.Ex.new hf)), Evl.Ex.new hf, fun _ h => h, fun q o hq nq => ?_⟩
    by_cases z : q = p
    · subst z; exact .inr ⟨⟨ds, rfl⟩, rfl⟩
    · exact .inl (upd_ne z)
  | slot i =>
    have h : σ[i]? = some (some v) := h
    unfold toD at e
    dsimp only at e
    cases hg : g[i]? with
    | none => rw [hg] at e; cases e
    | some sl =>
      rw [hg] at e
      cases sl with
      | own ds =>
        cases e
        obtain ⟨p, vs, e1, h1, h2, h3, ow⟩ := E.own_val hg
        rw [h] at e1; cases e1
        obtain ⟨E2, r, t, s⟩ := E.freezeSlot hg h h1
        exact ⟨_, E2, r, t.ex, s, fun q o hq nq => .inl (t.keep q o hq nq).2⟩
      | val d' =>
        cases e
        obtain ⟨v', e1, r⟩ := E.ok i _ hg (by simp)
        rw [h] at e1; cases e1
        exact ⟨Hf, E, r, Evl.Ex.refl _, fun _ h => h, fun _ _ _ _ => .inl rfl⟩
      | un => cases e
      | raw x => cases e
      | x d => cases e
      | dic t es => cases e
      | tab t es => cases e
      | grp t es => cases e
      | rg a b => cases e
  | raw x => cases e
  | x d => cases e
/-- .. as a step from ahead, where the fresh list did not stand -/
theorem Stp.toD (a : Stp K pr B Hf H g σ Hf1 H1 g1) (hn : ∀ ds, w = .fresh ds → ∀ p, v = .ref p → H p = none) (h : WOk K B Hf1 H1 g1 σ w v) (e : toD w g1 = some (d, g')) :
    ∃ Hf', Stp K pr B Hf H g σ Hf' H1 g' ∧ Rep K Hf' v d := by
  obtain ⟨Hf', E', r, ex, s, k⟩ := toD_ok a.env h e
  refine ⟨Hf', ⟨⟨a.tr.ex.trans ex, fun p o hp no => ?_, a.tr.stay⟩, E', fun p z => a.sub p (s p z)⟩, r⟩
  obtain ⟨k1, k2⟩ := a.tr.keep p o hp no
  refine ⟨k1, ?_⟩
  rcases k p o k1 (fun z => no (a.sub p z)) with z | ⟨⟨ds, z⟩, z2⟩
  · exact z.trans k2
  · have := hn ds z p z2
    rw [hp] at this; cases this
theorem look_ok (E : En K pr B Hf H g σ) (h : WOk K B Hf H g σ w v) (e : look w g = some d) : Rep K H v d ∧ (Rep K Hf v d ∨ ∃ p vs ds, v = .ref p ∧ d = .list ds ∧ H p = some (.lst vs) ∧ RepAll K Hf vs ds) := by
  cases w with
  | dat d' => cases e; exact ⟨Rep.mono E.ex h, .inl h⟩
  | fresh ds =>
    cases e
    obtain ⟨p, vs, rfl, hb, hf, hp, r, n⟩ := h
    exact ⟨.lst (.inl (.inl hp)) (r.mono E.ex), .inr ⟨p, vs, ds, rfl, rfl, hp, r⟩⟩
  | slot i =>
    have h : σ[i]? = some (some v) := h
    unfold look at e
    dsimp only at e
    cases hg : g[i]? with
    | none => rw [hg] at e; cases e
    | some sl =>
      rw [hg] at e
      cases sl with
      | own ds =>
        cases e
        obtain ⟨p, vs, e1, h1, h2, h3, ow⟩ := E.own_val hg
        rw [h] at e1; cases e1
        exact ⟨.lst (.inl (.inl h1)) (h3.mono E.ex), .inr ⟨p, vs, ds, rfl, rfl, h1, h3⟩⟩
      | val d' =>
        cases e
        obtain ⟨v', e1, r⟩ := E.ok i _ hg (by simp)
        rw [h] at e1; cases e1
        exact ⟨Rep.mono E.ex r, .inl r⟩
      | un => cases e
      | raw x => cases e
      | x d => cases e
      | dic t es => cases e
      | tab t es => cases e
      | grp t es => cases e
      | rg a b => cases e
  | raw x => cases e
  | x d => cases e
end
end EV
end
section
set_option maxHeartbeats 2000000
set_option autoImplicit false
namespace EV
open PySem PySem.Spec PyProof.Rows L2
/-! ### families of contexts -/
structure Fam where
  ι : Type
  X : ι → Cx
  K : Frag
  hK : ∀ i, (X i).K = K
def Fam.one (X : Cx) : Fam := ⟨Unit, fun _ => X, X.K, fun _ => rfl⟩
def Fam.blk (F : Fam) (scope : Scope) : Fam :=
  ⟨F.ι × Shared × Hp × Addr × List (Str × Addr) × List Addr, fun i => (F.X i.1).blk i.2.1 i.2.2.1 scope (compEnvC scope i.2.2.2.2.1 i.2.2.2.1 (F.X i.1).env) i.2.2.2.2.2, F.K, fun i => F.hK i.1⟩
section
variable (F : Fam)
def U (e : Expr) : TE := fun σ H Q => ∃ t : TE, (∀ i, PE (F.X i) e t) ∧ t σ H Q
def UT (e : Expr) : TT := fun σ H Q => ∃ t : TT, (∀ i, PT (F.X i) e t) ∧ t σ H Q
def UW (e : Expr) : TT := fun σ H Q => ∃ t : TT, (∀ i, PW (F.X i) e t) ∧ t σ H Q
def UTs (e : List Expr) : TT := fun σ H Q => ∃ t : TT, (∀ i, PTs (F.X i) e t) ∧ t σ H Q
def UA (es : List Expr) : TA := fun σ H Q => ∃ t : TA, (∀ i, PA (F.X i) es t) ∧ t σ H Q
def US (st : Stmt) : TS := fun D σ H => ∃ t : TS, (∀ i, PS (F.X i) st t) ∧ t D σ H
def USs (st : List Stmt) : TS := fun D σ H => ∃ t : TS, (∀ i, PSs (F.X i) st t) ∧ t D σ H
def UG (tg : Expr) : TG := fun v σ H Q => ∃ t : TG, (∀ i, PG (F.X i) tg t) ∧ t v σ H Q
def UI (tg it : Expr) : TI := fun σ H R => ∃ t : TI, (∀ i, PI (F.X i) tg it t) ∧ t σ H R
def UO (e : Option Expr) : TO := fun σ H Q => ∃ t : TO, (∀ i, PO (F.X i) e t) ∧ t σ H Q
variable {F}
theorem pe_U {e : Expr} (i : F.ι) : PE (F.X i) e (U F e) := ⟨fun pins s σ H Q I ⟨t, ht, h⟩ => (ht i).run pins s σ H Q I h⟩
theorem pt_U {e : Expr} (i : F.ι) : PT (F.X i) e (UT F e) := ⟨fun pins s σ H Q I ⟨t, ht, h⟩ => (ht i).run pins s σ H Q I h⟩
theorem pw_U {e : Expr} (i : F.ι) : PW (F.X i) e (UW F e) := ⟨fun wh pins s σ H Q I ⟨t, ht, h⟩ => (ht i).run wh pins s σ H Q I h⟩
theorem pts_U {e : List Expr} (i : F.ι) : PTs (F.X i) e (UTs F e) := ⟨fun pins s σ H Q I ⟨t, ht, h⟩ => (ht i).run pins s σ H Q I h⟩
theorem pa_U {e : List Expr} (i : F.ι) : PA (F.X i) e (UA F e) := ⟨fun pos pins s σ H Q I ⟨t, ht, h⟩ => (ht i).run pos pins s σ H Q I h⟩
theorem ps_U {e : Stmt} (i : F.ι) : PS (F.X i) e (US F e) := ⟨fun pins s σ H D I ⟨t, ht, h⟩ => (ht i).run pins s σ H D I h⟩
theorem pss_U {e : List Stmt} (i : F.ι) : PSs (F.X i) e (USs F e) := ⟨fun pins s σ H D I ⟨t, ht, h⟩ => (ht i).run pins s σ H D I h⟩
theorem pg_U {e : Expr} (i : F.ι) : PG (F.X i) e (UG F e) := ⟨fun pins s σ H v u Q I r ⟨t, ht, h⟩ => (ht i).run pins s σ H v u Q I r h⟩
theorem pi_U {tg e : Expr} (i : F.ι) : PI (F.X i) tg e (UI F tg e) := ⟨fun pins s σ H Q I ⟨t, ht, h⟩ => (ht i).run pins s σ H Q I h⟩
theorem po_U {e : Option Expr} (i : F.ι) : PO (F.X i) e (UO F e) := ⟨fun pins s σ H Q I ⟨t, ht, h⟩ => (ht i).run pins s σ H Q I h⟩
end
/-! ### the judgements -/
abbrev ME := Gh → Option (Wv × Gh)
abbrev MT := Gh → Option (Bool × Gh)
abbrev MA := Gh → Option (List Wv × Gh)
abbrev MI := Gh → Option (List Da × Gh)
inductive Fl where
  | nx | rt (w : Wv) | bk | ct
abbrev MS := Gh → Option (Fl × Gh)
/-- a fresh list did not stand at H -/
def Yng (H : Hp) (w : Wv) (v : V) : Prop := ∀ ds, w = .fresh ds → ∀ p, v = .ref p → H p = none
def Apart (w : Wv) (v : V) (ws : List Wv) (vs : List V) : Prop := ∀ ds p, w = .fresh ds → v = .ref p → ∀ (i : Nat) es, ws[i]? = some (.fresh es) → vs[i]? = some (.ref p) → False
inductive WAll (K : Frag) (B : Addr → Prop) (Hf H : Hp) (g : Gh) (σ : L2.St) : List Wv → List V → Prop
  | nil : WAll K B Hf H g σ [] []
  | cons {w : Wv} {v : V} {ws : List Wv} {vs : List V} : WOk K B Hf H g σ w v → Apart w v ws vs → WAll K B Hf H g σ ws vs → WAll K B Hf H g σ (w :: ws) (v :: vs)
inductive YAll (H : Hp) : List Wv → List V → Prop
  | nil : YAll H [] []
  | cons {w : Wv} {v : V} {ws : List Wv} {vs : List V} : Yng H w v → YAll H ws vs → YAll H (w :: ws) (v :: vs)
section
variable (F : Fam) (pr : List Nat)
def Ev (e : Expr) (f : ME) : Prop := ∀ (B : Addr → Prop) (Hf H : Hp) (g : Gh) (σ : L2.St) (w : Wv) (g' : Gh) (Q : VK), En F.K pr B Hf H g σ → f g = some (w, g') →
  (∀ v Hf' H', Stp F.K pr B Hf H g σ Hf' H' g' → WOk F.K B Hf' H' g' σ w v → Yng H w v → Q v H') → U F e σ H Q
def EvT (e : Expr) (f : MT) : Prop := ∀ (B : Addr → Prop) (Hf H : Hp) (g : Gh) (σ : L2.St) (b : Bool) (g' : Gh) (Q : Bool → Hp → Prop), En F.K pr B Hf H g σ → f g = some (b, g') →
  (∀ Hf' H', Stp F.K pr B Hf H g σ Hf' H' g' → Q b H') → UT F e σ H Q
def EvW (e : Expr) (f : MT) : Prop := ∀ (B : Addr → Prop) (Hf H : Hp) (g : Gh) (σ : L2.St) (b : Bool) (g' : Gh) (Q : Bool → Hp → Prop), En F.K pr B Hf H g σ → f g = some (b, g') →
  (∀ Hf' H', Stp F.K pr B Hf H g σ Hf' H' g' → Q b H') → UW F e σ H Q
def EvTs (e : List Expr) (f : MT) : Prop := ∀ (B : Addr → Prop) (Hf H : Hp) (g : Gh) (σ : L2.St) (b : Bool) (g' : Gh) (Q : Bool → Hp → Prop), En F.K pr B Hf H g σ → f g = some (b, g') →
  (∀ Hf' H', Stp F.K pr B Hf H g σ Hf' H' g' → Q b H') → UTs F e σ H Q
def EvA (es : List Expr) (f : MA) : Prop := ∀ (B : Addr → Prop) (Hf H : Hp) (g : Gh) (σ : L2.St) (ws : List Wv) (g' : Gh) (Q : List V → Hp → Prop), En F.K pr B Hf H g σ → f g = some (ws, g') →
  (∀ vs Hf' H', Stp F.K pr B Hf H g σ Hf' H' g' → WAll F.K B Hf' H' g' σ ws vs → YAll H ws vs → Q vs H') → UA F es σ H Q
/-- how a walk goes over data -/
def WalkD (K : Frag) (J : It) (Hf : Hp) (ds : List Da) : Prop := ∀ Hf1 H1, Evl.Ex Hf Hf1 → Evl.Ex Hf1 H1 →
  (∀ i, i < ds.length → J.go i H1) ∧ J.stop ds.length H1 ∧ ∀ i d x H2, ds[i]? = some d → J.yld i H1 x H2 → ∃ Hf2, Tr (fun _ => False) Hf1 H1 Hf2 H2 ∧ (∀ pr B g σ, En K pr B Hf1 H1 g σ → En K pr B Hf2 H2 g σ) ∧ Rep K Hf2 x d
def EvI (tg e : Expr) (f : MI) : Prop := ∀ (B : Addr → Prop) (Hf H : Hp) (g : Gh) (σ : L2.St) (ds : List Da) (g' : Gh) (R : It → Hp → Prop), En F.K pr B Hf H g σ → f g = some (ds, g') →
  (∀ J Hf' H', Stp F.K pr B Hf H g σ Hf' H' g' → WalkD F.K J Hf' ds → R J H') → UI F tg e σ H R
/-- behind a statement -/
structure SStp (K : Frag) (pr : List Nat) (B : Addr → Prop) (Hf H : Hp) (g : Gh) (σ : L2.St) (Hf' H' : Hp) (g' : Gh) (σ' : L2.St) : Prop where
  tr : Tr (Own g σ) Hf H Hf' H'
  env : En K pr B Hf' H' g' σ'
  sub : ∀ p, Own g' σ' p → Own g σ p ∨ H p = none
  prk : ∀ i ∈ pr, σ'[i]? = σ[i]?
def FlOk (K : Frag) (B : Addr → Prop) (Hf H : Hp) (g : Gh) (σ : L2.St) (D : Ends) : Fl → Prop
  | .nx => D.nx σ H
  | .rt w => ∀ v, WOk K B Hf H g σ w v → (∀ i, w ≠ .slot i) → D.rt v H
  | .bk => D.bk σ H
  | .ct => D.ct σ H
def EvS (st : Stmt) (f : MS) : Prop := ∀ (B : Addr → Prop) (Hf H : Hp) (g : Gh) (σ : L2.St) (fl : Fl) (g' : Gh) (D : Ends), En F.K pr B Hf H g σ → f g = some (fl, g') →
  (∀ σ' Hf' H', SStp F.K pr B Hf H g σ Hf' H' g' σ' → FlOk F.K B Hf' H' g' σ' D fl) → US F st D σ H
def EvSs (st : List Stmt) (f : MS) : Prop := ∀ (B : Addr → Prop) (Hf H : Hp) (g : Gh) (σ : L2.St) (fl : Fl) (g' : Gh) (D : Ends), En F.K pr B Hf H g σ → f g = some (fl, g') →
  (∀ σ' Hf' H', SStp F.K pr B Hf H g σ Hf' H' g' σ' → FlOk F.K B Hf' H' g' σ' D fl) → USs F st D σ H
end
section
variable {F : Fam} {pr : List Nat} {B : Addr → Prop} {Hf H Hf' H' Hf1 H1 Hf2 H2 : Hp} {g g' g1 g2 : Gh} {σ σ' σ1 σ2 : L2.St} {K : Frag}
theorem SStp.refl (E : En K pr B Hf H g σ) : SStp K pr B Hf H g σ Hf H g σ := ⟨Tr.refl, E, fun _ h => .inl h, fun _ _ => rfl⟩
theorem SStp.trans (a : SStp K pr B Hf H g σ Hf1 H1 g1 σ1) (b : SStp K pr B Hf1 H1 g1 σ1 Hf2 H2 g2 σ2) : SStp K pr B Hf H g σ Hf2 H2 g2 σ2 :=
  ⟨a.tr.trans b.tr a.sub, b.env, fun p h => by
    rcases b.sub p h with z | z
    · exact a.sub p z
    · exact .inr (a.tr.stay p z), fun i hi => (b.prk i hi).trans (a.prk i hi)⟩
theorem Stp.s (a : Stp K pr B Hf H g σ Hf1 H1 g1) : SStp K pr B Hf H g σ Hf1 H1 g1 σ := ⟨a.tr, a.env, fun p h => .inl (a.sub p h), fun _ _ => rfl⟩
theorem WAll.step : ∀ {ws : List Wv} {vs : List V}, WAll K B Hf1 H1 g1 σ ws vs → En K pr B Hf1 H1 g1 σ → Stp K pr B Hf1 H1 g1 σ Hf2 H2 g2 → WAll K B Hf2 H2 g2 σ ws vs
  | _, _, .nil, _, _ => .nil
  | _, _, .cons a b c, E, s => .cons (s.way E a) b (WAll.step c E s)
theorem YAll.weak (t : ∀ p, H1 p = none → H p = none) : ∀ {ws : List Wv} {vs : List V}, YAll H1 ws vs → YAll H ws vs
  | _, _, .nil => .nil
  | _, _, .cons a b => .cons (fun ds e p e2 => t p (a ds e p e2)) (YAll.weak t b)
end
end EV
end
section
set_option maxHeartbeats 2000000
set_option autoImplicit false
namespace EV
open PySem PySem.Spec PyProof.Rows L2
section
variable {F : Fam} {pr : List Nat} {B : Addr → Prop} {Hf H Hf' H' Hf1 H1 Hf2 H2 : Hp} {g g' g1 g2 : Gh} {σ σ' σ1 σ2 : L2.St} {K : Frag}
/-! ### names and constants -/
def mName (i : Nat) : ME := fun g => match g[i]? with
  | some (.val d) => some (.dat d, g)
  | some (.own _) => some (.slot i, g)
  | some (.raw v) => some (.raw v, g)
  | some (.x d) => some (.x d, g)
  | _ => none
theorem ev_name (i : Nat) {x : Str} {pos : Pos} (hN : ∀ j, (F.X j).N[i]? = some x := by intro _; rfl) (hv : ∀ j, Vis (F.X j).env.scope x := by intro _; first | exact Or.inl rfl | exact Or.inr (Or.inl rfl) | exact Or.inr (Or.inr rfl))
    (hd : (x == ("__debug__" : Str)) = false := by decide) (hcd : (x == ("__classdict__" : Str)) = false := by decide) : Ev F pr (.Name x pos) (mName i) := by
  intro B Hf H g σ w g' Q E e q
  unfold mName at e
  cases hg : g[i]? with
  | none => rw [hg] at e; cases e
  | some s =>
    rw [hg] at e
    have hs : s ≠ .un := fun z => by subst z; cases e
    obtain ⟨v, hv1, so⟩ := E.ok i s hg hs
    refine ⟨tVar i, fun j => pe_var (hN j) (hv j) hd hcd, v, hv1, ?_⟩
    cases s with
    | un => cases e
    | val d => cases e; exact q v Hf H (Stp.refl E) so (fun _ z => nomatch z)
    | own ds => cases e; exact q v Hf H (Stp.refl E) hv1 (fun _ z => nomatch z)
    | raw x => cases e; exact q v Hf H (Stp.refl E) so (fun _ z => nomatch z)
    | x d => cases e; exact q v Hf H (Stp.refl E) so (fun _ z => nomatch z)
    | dic t es => cases e
    | tab t es => cases e
    | grp t es => cases e
    | rg a b => cases e
def mC (d : Da) : ME := fun g => some (.dat d, g)
theorem ev_c {e : Expr} {v : V} {d : Da} (h : ∀ i, PE (F.X i) e (tC v)) (r : ∀ Hf, Rep F.K Hf v d) : Ev F pr e (mC d) := by
  intro B Hf H g σ w g' Q E e q
  cases e
  exact ⟨_, h, q v Hf H (Stp.refl E) (r Hf) (fun _ z => nomatch z)⟩
theorem ev_int {i : Int} {j pos} : Ev F pr (.Constant (.int i) j pos) (mC (.int i)) := ev_c (fun _ => pe_int) fun _ => .int i
theorem ev_bl {b j pos} : Ev F pr (.Constant (.bool b) j pos) (mC (.bool b)) := ev_c (fun _ => pe_bl) fun _ => .bl b
theorem ev_non {j pos} : Ev F pr (.Constant .none j pos) (mC .none) := ev_c (fun _ => pe_non) fun _ => .non
theorem ev_str {x j pos} : Ev F pr (.Constant (.str x) j pos) (mC (.str x)) := ev_c (fun _ => pe_str) fun _ => .str x
/-- a constant of the module -/
theorem ev_glob {x : Str} {v : V} {u : Value} {d : Da} {pos : Pos} (hg : ∀ i, Gl (F.X i) x) (hm : ∀ i, (F.X i).mg x = some u) (r : RelV v u) (hr : ∀ Hf, Rep F.K Hf v d) (hd : (x == ("__debug__" : Str)) = false := by decide) : Ev F pr (.Name x pos) (mC d) :=
  ev_c (fun i => pe_glob (hg i) (hm i) r hd) hr
/-! ### argument lists -/
def mNil : MA := fun g => some ([], g)
def mCons (f : ME) (fs : MA) : MA := fun g => (f g).bind fun a => (fs a.2).bind fun b => some (a.1 :: b.1, b.2)
theorem ea_nil : EvA F pr [] mNil := by
  intro B Hf H g σ ws g' Q E e q
  cases e
  exact ⟨tNil, fun _ => pa_nil, q [] Hf H (Stp.refl E) .nil .nil⟩
theorem yall_apart {w : Wv} {v : V} (h : WOk K B Hf H g σ w v) : ∀ {ws : List Wv} {vs : List V}, YAll H ws vs → Apart w v ws vs
  | _, _, .nil => fun ds p _ _ i es h _ => by simp at h
  | _, _, .cons y ys => fun ds p e1 e2 i es h1 h2 => by
    cases i with
    | zero =>
      simp at h1 h2
      subst h1; subst h2; subst e1; subst e2
      obtain ⟨q, vs, e3, _, _, hp, _⟩ := h
      cases e3
      rw [y es rfl _ rfl] at hp; cases hp
    | succ i => exact yall_apart h ys ds p e1 e2 i es (by simpa using h1) (by simpa using h2)
theorem ea_cons {e : Expr} {es : List Expr} {f : ME} {fs : MA} (h : Ev F pr e f) (hs : EvA F pr es fs) (hst : ∀ i, starEach (e :: es) (F.X i).env = (false, eval e (F.X i).env) :: starEach es (F.X i).env := by intro _; rfl) : EvA F pr (e :: es) (mCons f fs) := by
  intro B Hf H g σ ws g' Q E eq q
  obtain ⟨⟨w, g1⟩, e1, eq⟩ := Option.bind_eq_some_iff.mp eq
  obtain ⟨⟨ws', g2⟩, e2, eq⟩ := Option.bind_eq_some_iff.mp eq
  cases eq
  refine ⟨tCons (U F e) (UA F es), fun i => pa_cons (pe_U i) (pa_U i) (hst i), ?_⟩
  refine h B Hf H g σ w g1 _ E e1 fun v Hf1 H1 s1 w1 y1 => ?_
  refine hs B Hf1 H1 g1 σ ws' g2 _ s1.env e2 fun vs Hf2 H2 s2 w2 y2 => ?_
  exact q _ Hf2 H2 (s1.trans s2) (.cons (s2.way s1.env w1) (yall_apart w1 y2 ) w2) (.cons y1 (YAll.weak s1.tr.stay y2))
/-! ### from values on the way to data -/
def toDs : List Wv → Gh → Option (List Da × Gh)
  | [], g => some ([], g)
  | w :: ws, g => (toD w g).bind fun a => (toDs ws a.2).bind fun b => some (a.1 :: b.1, b.2)
def lookAll : List Wv → Gh → Option (List Da)
  | [], _ => some []
  | w :: ws, g => (look w g).bind fun a => (lookAll ws g).bind fun b => some (a :: b)
theorem WOk.frz {w' : Wv} {v' : V} {w : Wv} {v : V} (h : WOk K B Hf H g σ w' v') (ex : Evl.Ex Hf Hf') (s : ∀ p, Own g' σ p → Own g σ p) (k : ∀ p o, H p = some o → ¬ Own g σ p → Hf' p = Hf p ∨ ((∃ ds, w = .fresh ds) ∧ v = .ref p))
    (a : ∀ ds es p, w = .fresh ds → w' = .fresh es → v = .ref p → v' = .ref p → False) : WOk K B Hf' H g' σ w' v' := by
  cases w' with
  | dat d => exact Rep.mono ex h
  | fresh es =>
    obtain ⟨p, vs, rfl, hb, hf, hp, r, n⟩ := h
    refine ⟨p, vs, rfl, hb, ?_, hp, r.mono ex, fun z => n (s p z)⟩
    rcases k p _ hp n with z | ⟨⟨ds, z⟩, z2⟩
    · exact z.trans hf
    · exact (a ds es p z rfl z2 rfl).elim
  | slot i => exact h
  | raw x => exact h
  | x d => exact XOk.mono ex h
theorem WAll.frz {w : Wv} {v : V} (ex : Evl.Ex Hf Hf') (s : ∀ p, Own g' σ p → Own g σ p) (k : ∀ p o, H p = some o → ¬ Own g σ p → Hf' p = Hf p ∨ ((∃ ds, w = .fresh ds) ∧ v = .ref p)) :
    ∀ {ws : List Wv} {vs : List V}, WAll K B Hf H g σ ws vs → Apart w v ws vs → WAll K B Hf' H g' σ ws vs
  | _, _, .nil, _ => .nil
  | _, _, .cons a b c, ap => .cons (a.frz ex s k fun ds es p e1 e2 e3 e4 => ap ds p e1 e3 0 es (by simp [e2]) (by simp [e4])) b (WAll.frz ex s k c fun ds p e1 e2 i es h1 h2 => ap ds p e1 e2 (i + 1) es (by simpa using h1) (by simpa using h2))
theorem toDs_ok : ∀ {ws : List Wv} {vs : List V} {ds : List Da} {Hf1 : Hp} {g1 g' : Gh}, Stp K pr B Hf H g σ Hf1 H1 g1 → WAll K B Hf1 H1 g1 σ ws vs → YAll H ws vs → toDs ws g1 = some (ds, g') →
    ∃ Hf', Stp K pr B Hf H g σ Hf' H1 g' ∧ Evl.Ex Hf1 Hf' ∧ RepAll K Hf' vs ds
  | _, _, ds, Hf1, g1, g2, s, .nil, _, e => by cases e; exact ⟨Hf1, s, Evl.Ex.refl _, .nil⟩
  | _, _, ds, Hf1, g1, g3, s, .cons a b c, .cons y ys, e => by
    obtain ⟨⟨d, g2⟩, e1, e⟩ := Option.bind_eq_some_iff.mp e
    obtain ⟨⟨ds', g4⟩, e2, e⟩ := Option.bind_eq_some_iff.mp e
    cases e
    obtain ⟨Hf2, E2, r, ex, sb, k⟩ := toD_ok s.env a e1
    have s2 : Stp K pr B Hf H g σ Hf2 H1 g2 := by
      refine ⟨⟨s.tr.ex.trans ex, fun p o hp no => ?_, s.tr.stay⟩, E2, fun p z => s.sub p (sb p z)⟩
      obtain ⟨k1, k2⟩ := s.tr.keep p o hp no
      refine ⟨k1, ?_⟩
      rcases k p o k1 (fun z => no (s.sub p z)) with z | ⟨⟨es, z⟩, z2⟩
      · exact z.trans k2
      · have := y es z p z2
        rw [hp] at this; cases this
    obtain ⟨Hf', s3, ex3, r3⟩ := toDs_ok s2 (WAll.frz ex sb k c b) ys e2
    exact ⟨Hf', s3, ex.trans ex3, .cons (r.mono ex3) r3⟩
/-- what is looked at, as it stands -/
def RL (K : Frag) (Hf H : Hp) (v : V) (d : Da) : Prop := Rep K H v d ∧ (Rep K Hf v d ∨ ∃ p vs ds, v = .ref p ∧ d = .list ds ∧ H p = some (.lst vs) ∧ RepAll K Hf vs ds)
inductive RLs (K : Frag) (Hf H : Hp) : List V → List Da → Prop
  | nil : RLs K Hf H [] []
  | cons {v : V} {vs : List V} {d : Da} {ds : List Da} : RL K Hf H v d → RLs K Hf H vs ds → RLs K Hf H (v :: vs) (d :: ds)
theorem lookAll_ok (E : En K pr B Hf H g σ) : ∀ {ws : List Wv} {vs : List V} {ds : List Da}, WAll K B Hf H g σ ws vs → lookAll ws g = some ds → RLs K Hf H vs ds
  | _, _, ds, .nil, e => by cases e; exact .nil
  | _, _, ds, .cons a b c, e => by
    obtain ⟨d, e1, e⟩ := Option.bind_eq_some_iff.mp e
    obtain ⟨ds', e2, e⟩ := Option.bind_eq_some_iff.mp e
    cases e
    exact .cons (look_ok E a e1) (lookAll_ok E c e2)
theorem RL.seqL {v : V} {ds : List Da} (h : RL K Hf H v (.list ds)) (ex : Evl.Ex Hf H) : ∃ p xs, v = .ref p ∧ SqL K H p xs ∧ RepAll K Hf xs ds := by
  rcases h.2 with r | ⟨p, vs, es, rfl, e, hp, r⟩
  · cases r with
    | lst q r => exact ⟨_, _, rfl, Evl.ex_l ex q, r⟩
  · cases e
    exact ⟨p, vs, rfl, .inl (.inl hp), r⟩
theorem RL.seqT {v : V} {ds : List Da} (h : RL K Hf H v (.tuple ds)) (ex : Evl.Ex Hf H) : ∃ p xs, v = .ref p ∧ SqT K H p xs ∧ RepAll K Hf xs ds := by
  rcases h.2 with r | ⟨p, vs, es, rfl, e, hp, r⟩
  · cases r with
    | tup q r => exact ⟨_, _, rfl, Evl.ex_t ex q, r⟩
  · cases e
theorem RL.int {v : V} {i : Int} (h : RL K Hf H v (.int i)) : v = .int i := by
  cases h.1; rfl
theorem RL.bool {v : V} {i : Bool} (h : RL K Hf H v (.bool i)) : v = .bl i := by
  cases h.1; rfl
theorem RL.str {v : V} {i : Str} (h : RL K Hf H v (.str i)) : v = .str i := by
  cases h.1; rfl
theorem RL.none {v : V} (h : RL K Hf H v .none) : v = .non := by
  cases h.1; rfl
theorem RL.of (ex : Evl.Ex Hf H) {v : V} {d : Da} (h : Rep K Hf v d) : RL K Hf H v d := ⟨h.mono ex, .inl h⟩
/-! ### displays -/
def mTup (fa : MA) : ME := fun g => (fa g).bind fun a => (toDs a.1 a.2).bind fun r => if r.1.length ≤ sizeLine then some (.dat (.tuple r.1), r.2) else none
def mLst (fa : MA) : ME := fun g => (fa g).bind fun a => (toDs a.1 a.2).bind fun r => if r.1.length ≤ sizeLine then some (.fresh r.1, r.2) else none
theorem ev_tup {es : List Expr} {fa : MA} {x1} {pos : Pos} (h : EvA F pr es fa) : Ev F pr (.Tuple es x1 pos) (mTup fa) := by
  intro B Hf H g σ w g' Q E eq q
  obtain ⟨⟨ws, g1⟩, e1, eq⟩ := Option.bind_eq_some_iff.mp eq
  obtain ⟨⟨ds, g2⟩, e2, eq⟩ := Option.bind_eq_some_iff.mp eq
  dsimp only at eq
  split at eq
  · rename_i hl
    cases eq
    refine ⟨tTup (UA F es), fun i => pe_tup (pa_U i), ?_⟩
    refine h B Hf H g σ ws g1 _ E e1 fun vs Hf1 H1 s1 w1 y1 => ?_
    obtain ⟨Hf2, s2, _, r2⟩ := toDs_ok s1 w1 y1 e2
    refine ⟨by rw [r2.length]; exact hl, fun p hp => ?_⟩
    have hf := s2.env.frz hp
    refine q _ (upd Hf2 p (.tup vs)) (upd H1 p (.tup vs)) (s2.trans ⟨Tr.new hf hp, s2.env.new hp, fun _ h => h⟩) ?_ (fun _ z => nomatch z)
    exact .tup (.inl (.inl upd_same)) (r2.mono (Evl.Ex.new hf))
  · cases eq
theorem ev_lst {es : List Expr} {fa : MA} {pos : Pos} (h : EvA F pr es fa) : Ev F pr (.List es pos) (mLst fa) := by
  intro B Hf H g σ w g' Q E eq q
  obtain ⟨⟨ws, g1⟩, e1, eq⟩ := Option.bind_eq_some_iff.mp eq
  obtain ⟨⟨ds, g2⟩, e2, eq⟩ := Option.bind_eq_some_iff.mp eq
  dsimp only at eq
  split at eq
  · rename_i hl
    cases eq
    refine ⟨tLst (UA F es), fun i => pe_lst (pa_U i), ?_⟩
    refine h B Hf H g σ ws g1 _ E e1 fun vs Hf1 H1 s1 w1 y1 => ?_
    obtain ⟨Hf2, s2, _, r2⟩ := toDs_ok s1 w1 y1 e2
    refine ⟨by rw [r2.length]; exact hl, fun p hp => ?_⟩
    have hf := s2.env.frz hp
    refine q _ Hf2 (upd H1 p (.lst vs)) (s2.trans ⟨Tr.mut hp, s2.env.mut hp, fun _ h => h⟩) ?_ (fun ds _ p' e => ?_)
    · exact ⟨p, vs, rfl, s2.env.nb p hp, hf, upd_same, r2, s2.env.own_none hp⟩
    · cases e; exact s2.tr.stay _ hp
  · cases eq
/-- an empty dict -/
def mDict0 : ME := fun g => some (.dat (.dict []), g)
/-! ### operators -/
/-- what a way's end hands over -/
def Cont (K : Frag) (pr : List Nat) (B : Addr → Prop) (Hf H : Hp) (g : Gh) (σ : L2.St) (w : Wv) (Q : VK) : Prop := ∀ v Hf' H', Stp K pr B Hf H g σ Hf' H' g → WOk K B Hf' H' g σ w v → Yng H w v → Q v H'
theorem Cont.dat {d : Da} {Q : VK} {v : V} (E : En K pr B Hf H g σ) (c : Cont K pr B Hf H g σ (.dat d) Q) (r : Rep K Hf v d) : Q v H := c v Hf H (Stp.refl E) r (fun _ z => nomatch z)
theorem Cont.newT {ds : List Da} {Q : VK} {vs : List V} {p : Addr} (E : En K pr B Hf H g σ) (c : Cont K pr B Hf H g σ (.dat (.tuple ds)) Q) (r : RepAll K Hf vs ds) (hp : H p = none) : Q (.ref p) (upd H p (.tup vs)) := by
  have hf := E.frz hp
  exact c _ (upd Hf p (.tup vs)) _ ⟨Tr.new hf hp, E.new hp, fun _ h => h⟩ (.tup (.inl (.inl upd_same)) (r.mono (Evl.Ex.new hf))) (fun _ z => nomatch z)
theorem Cont.newL {ds : List Da} {Q : VK} {vs : List V} {p : Addr} (E : En K pr B Hf H g σ) (c : Cont K pr B Hf H g σ (.fresh ds) Q) (r : RepAll K Hf vs ds) (hp : H p = none) : Q (.ref p) (upd H p (.lst vs)) := by
  have hf := E.frz hp
  exact c _ Hf _ ⟨Tr.mut hp, E.mut hp, fun _ h => h⟩ ⟨p, vs, rfl, E.nb p hp, hf, upd_same, r, E.own_none hp⟩ (fun ds _ p' e => by cases e; exact hp)
def OpD (F : Fam) (f : Value → Value → Sem Value) (Fn : Da → Da → Option Wv) : Prop := ∀ x y w, Fn x y = some w → ∃ r : R2, (∀ i, OpR (F.X i) f r) ∧
  ∀ pr B Hf H g σ vx vy (Q : VK), En F.K pr B Hf H g σ → RL F.K Hf H vx x → RL F.K Hf H vy y → Cont F.K pr B Hf H g σ w Q → r vx vy H Q
def mBin (Fn : Da → Da → Option Wv) (fa fb : ME) : ME := fun g => (fa g).bind fun a => (fb a.2).bind fun b => (look a.1 b.2).bind fun x => (look b.1 b.2).bind fun y => (Fn x y).bind fun w => some (w, b.2)
theorem bin_ok {a b : Expr} {fa fb : ME} {Fn : Da → Da → Option Wv} {f : Value → Value → Sem Value} (ha : Ev F pr a fa) (hb : Ev F pr b fb) (ho : OpD F f Fn) {w : Wv} {Q : VK} (E : En F.K pr B Hf H g σ) (eq : mBin Fn fa fb g = some (w, g'))
    (q : ∀ v Hf' H', Stp F.K pr B Hf H g σ Hf' H' g' → WOk F.K B Hf' H' g' σ w v → Yng H w v → Q v H') : ∃ r : R2, (∀ i, OpR (F.X i) f r) ∧ tOp r (U F a) (U F b) σ H Q := by
  obtain ⟨⟨wa, g1⟩, e1, eq⟩ := Option.bind_eq_some_iff.mp eq
  obtain ⟨⟨wb, g2⟩, e2, eq⟩ := Option.bind_eq_some_iff.mp eq
  obtain ⟨x, e3, eq⟩ := Option.bind_eq_some_iff.mp eq
  obtain ⟨y, e4, eq⟩ := Option.bind_eq_some_iff.mp eq
  obtain ⟨w', e5, eq⟩ := Option.bind_eq_some_iff.mp eq
  cases eq
  obtain ⟨r, hr, hk⟩ := ho x y w e5
  refine ⟨r, hr, ?_⟩
  refine ha B Hf H g σ wa g1 _ E e1 fun v Hf1 H1 s1 w1 y1 => ?_
  refine hb B Hf1 H1 g1 σ wb _ _ s1.env e2 fun u Hf2 H2 s2 w2 y2 => ?_
  refine hk pr B Hf2 H2 _ σ v u Q s2.env (look_ok s2.env (s2.way s1.env w1) e3) (look_ok s2.env w2 e4) fun z Hf3 H3 s3 w3 y3 => ?_
  exact q z Hf3 H3 ((s1.trans s2).trans s3) w3 fun ds e p e' => s1.tr.stay p (s2.tr.stay p (y3 ds e p e'))
theorem ev_bin {a b : Expr} {fa fb : ME} {Fn : Da → Da → Option Wv} {op : Operator} {pos : Pos} (ho : OpD F (binaryOp op) Fn) (ha : Ev F pr a fa) (hb : Ev F pr b fb) : Ev F pr (.BinOp a op b pos) (mBin Fn fa fb) := by
  intro B Hf H g σ w g' Q E eq q
  obtain ⟨r, hr, t⟩ := bin_ok ha hb ho E eq q
  exact ⟨_, fun i => pe_op (hr i) (pe_U i) (pe_U i), t⟩
/-- a comparison as a value -/
theorem ev_cmp {a b : Expr} {fa fb : ME} {Fn : Da → Da → Option Wv} {op : CmpOp} {pos : Pos} (ho : OpD F (compareOp op) Fn) (ha : Ev F pr a fa) (hb : Ev F pr b fb) (hm : behindInMarks op b = false := by first | exact nomark _ | rfl) : Ev F pr (.Compare a [op] [b] pos) (mBin Fn fa fb) := by
  intro B Hf H g σ w g' Q E eq q
  obtain ⟨r, hr, t⟩ := bin_ok ha hb ho E eq q
  exact ⟨_, fun i => pe_cmpR (hr i) (pe_U i) (pe_U i) hm, t⟩
/-- a comparison as a test -/
def asB : Option (Wv × Gh) → Option (Bool × Gh)
  | some (.dat (.bool b), g) => some (b, g)
  | _ => none
theorem asB_some {o : Option (Wv × Gh)} {b : Bool} (h : asB o = some (b, g)) : o = some (.dat (.bool b), g) := by
  unfold asB at h
  split at h
  · cases h; rfl
  · cases h
/-- a comparison as a test -/
def mCmp (Fn : Da → Da → Option Wv) (fa fb : ME) : MT := fun g => asB (mBin Fn fa fb g)
theorem et_cmp {a b : Expr} {fa fb : ME} {Fn : Da → Da → Option Wv} {op : CmpOp} {pos : Pos} (ho : OpD F (compareOp op) Fn) (ha : Ev F pr a fa) (hb : Ev F pr b fb) (hm : behindInMarks op b = false := by first | exact nomark _ | rfl) :
    EvT F pr (.Compare a [op] [b] pos) (mCmp Fn fa fb) := by
  intro B Hf H g σ k g' Q E eq q
  obtain ⟨r, hr, t⟩ := bin_ok (Q := fun x H' => ∃ k, x = .bl k ∧ Q k H') ha hb ho E (asB_some eq) fun v Hf' H' s w y => by
    cases w
    exact ⟨_, rfl, q Hf' H' s⟩
  exact ⟨_, fun i => pt_cmpR (hr i) (pe_U i) (pe_U i) hm, t⟩
end
end EV
end
section
set_option maxHeartbeats 2000000
set_option autoImplicit false
namespace EV
open PySem PySem.Spec PyProof.Rows L2
section
variable {F : Fam} {pr : List Nat} {B : Addr → Prop} {Hf H Hf' H' Hf1 H1 Hf2 H2 : Hp} {g g' g1 g2 : Gh} {σ σ' σ1 σ2 : L2.St} {K : Frag}
/-! ### the operators over data -/
def dII (c : Int → Int → Bool) (h : Int → Int → Int) : Da → Da → Option Wv
  | .int a, .int b => if c a b = true then some (.dat (.int (h a b))) else none
  | _, _ => none
def dIB (h : Int → Int → Bool) : Da → Da → Option Wv
  | .int a, .int b => some (.dat (.bool (h a b)))
  | _, _ => none
theorem opd_II {f : Value → Value → Sem Value} {c : Int → Int → Bool} {h : Int → Int → Int} {C : Int → Int → Prop} (hr : ∀ i, OpR (F.X i) f (rI C fun i j => .int (h i j))) (hc : ∀ a b, c a b = true → C a b) : OpD F f (dII c h) := by
  intro x y w e
  unfold dII at e
  split at e
  · rename_i a b
    split at e
    · rename_i h1
      cases e
      exact ⟨_, hr, fun pr B Hf H g σ vx vy Q E hx hy c => ⟨a, b, hx.int, hy.int, hc a b h1, c.dat E (.int _)⟩⟩
    · cases e
  · cases e
theorem opd_IB {f : Value → Value → Sem Value} {h : Int → Int → Bool} (hr : ∀ i, OpR (F.X i) f (rI0 fun i j => .bl (h i j))) : OpD F f (dIB h) := by
  intro x y w e
  unfold dIB at e
  split at e
  · rename_i a b
    cases e
    exact ⟨_, hr, fun pr B Hf H g σ vx vy Q E hx hy c => ⟨a, b, hx.int, hy.int, c.dat E (.bl _)⟩⟩
  · cases e
def dSub := dII (fun _ _ => true) (fun a b => a - b)
theorem rI_of0 {g : Int → Int → V} {X : Cx} {f : Value → Value → Sem Value} (h : OpR X f (rI0 g)) : OpR X f (rI (fun _ _ => True) g) := fun pins s σ H x y v u Q I rx ry ⟨i, j, e1, e2, _, q⟩ => h pins s σ H x y v u Q I rx ry ⟨i, j, e1, e2, q⟩
theorem od_sub : OpD F (binaryOp .Sub) dSub := opd_II (fun _ => rI_of0 op_sub) (fun _ _ _ => trivial)
def dMod := dII (fun _ b => decide (0 < b)) (fun a b => a % b)
theorem od_mod : OpD F (binaryOp .Mod) dMod := opd_II (fun _ => op_mod) (fun _ _ h => of_decide_eq_true h)
def dFdiv := dII (fun _ b => decide (0 < b) && decide (b.natAbs.log2 < 9000)) (fun a b => a / b)
theorem od_fdiv : OpD F (binaryOp .FloorDiv) dFdiv := opd_II (fun _ => op_fdivW) (fun _ _ h => by
  rw [Bool.and_eq_true] at h
  exact ⟨of_decide_eq_true h.1, of_decide_eq_true h.2⟩)
def dPow := dII (fun a b => decide (0 ≤ b) && decide (b ≤ 1000000) && decide (a.natAbs < 2 ^ 64)) (fun a b => a ^ b.toNat)
theorem od_pow : OpD F (binaryOp .Pow) dPow := opd_II (fun _ => op_pow) (fun _ _ h => by
  rw [Bool.and_eq_true, Bool.and_eq_true] at h
  exact ⟨of_decide_eq_true h.1.1, of_decide_eq_true h.1.2, of_decide_eq_true h.2⟩)
def dLt := dIB fun a b => decide (a < b)
def dLe := dIB fun a b => decide (a ≤ b)
def dGt := dIB fun a b => decide (b < a)
def dGe := dIB fun a b => decide (b ≤ a)
theorem od_lt : OpD F (compareOp .Lt) dLt := opd_IB fun _ => op_lt
theorem od_le : OpD F (compareOp .LtE) dLe := opd_IB fun _ => op_le
theorem od_gt : OpD F (compareOp .Gt) dGt := opd_IB fun _ => op_gt
/-- a * b: ints; a tuple times an int -/
def dMul : Da → Da → Option Wv
  | .int a, .int b => if a.natAbs.log2 + b.natAbs.log2 < 1000000 then some (.dat (.int (a * b))) else none
  | _, _ => none
theorem od_mul : OpD F (binaryOp .Mult) dMul := by
  intro x y w e
  unfold dMul at e
  split at e
  · rename_i a b
    split at e
    · rename_i h1
      cases e
      exact ⟨_, fun i => op_mulW, fun pr B Hf H g σ vx vy Q E hx hy c => ⟨a, b, hx.int, hy.int, h1, c.dat E (.int _)⟩⟩
    · cases e
  · cases e
/-- a + b: ints, tuples, texts -/
def dAdd : Da → Da → Option Wv
  | .int a, .int b => some (.dat (.int (a + b)))
  | .tuple xs, .tuple ys => if xs.length + ys.length ≤ sizeLine then some (.dat (.tuple (xs ++ ys))) else none
  | .str a, .str b => if a.length + b.length ≤ sizeLine then some (.dat (.str (a ++ b))) else none
  | _, _ => none
theorem od_add : OpD F (binaryOp .Add) dAdd := by
  intro x y w e
  unfold dAdd at e
  split at e
  · rename_i a b
    cases e
    exact ⟨_, fun i => op_add, fun pr B Hf H g σ vx vy Q E hx hy c => ⟨a, b, hx.int, hy.int, c.dat E (.int _)⟩⟩
  · rename_i xs ys
    split at e
    · rename_i h1
      cases e
      refine ⟨rCatA F.K, fun i => by have h := @op_catA (F.X i); rw [F.hK i] at h; exact h, fun pr B Hf H g σ vx vy Q E hx hy c => ?_⟩
      obtain ⟨p, us, rfl, h2, r2⟩ := hx.seqT E.ex
      obtain ⟨q, ws, rfl, h3, r3⟩ := hy.seqT E.ex
      refine ⟨p, q, us, ws, rfl, rfl, h2, h3, by rw [r2.length, r3.length]; exact h1, fun z => ?_, fun _ z => ?_, fun _ _ a ha => c.newT E (r2.append r3) ha⟩
      · subst z
        cases r2
        rcases hy.2 with r | ⟨_, _, _, _, z, _⟩
        · exact c.dat E r
        · cases z
      · subst z
        cases r3
        rcases hx.2 with r | ⟨_, _, _, _, z, _⟩
        · exact c.dat E (by rw [List.append_nil]; exact r)
        · cases z
    · cases e
  · rename_i a b
    split at e
    · rename_i h1
      cases e
      exact ⟨_, fun i => op_add_str, fun pr B Hf H g σ vx vy Q E hx hy c => ⟨a, b, hx.str, hy.str, h1, c.dat E (.str _)⟩⟩
    · cases e
  · cases e
/-- == of data -/
def okEq (d : Da) : Bool := noDict d && SeqAt.shaped d
def eqB (x y : Da) : Option Bool := match x, y with
  | .int a, .int b => some (a == b)
  | x, y => if okEq x && okEq y then some (PyData.eqv x y) else none
def dEq (x y : Da) : Option Wv := (eqB x y).map fun b => .dat (.bool b)
def dNe (x y : Da) : Option Wv := (eqB x y).map fun b => .dat (.bool (!b))
theorem eqB_ok {x y : Da} {b : Bool} (e : eqB x y = some b) : (∃ i j, x = .int i ∧ y = .int j ∧ b = (i == j)) ∨ (okEq x = true ∧ okEq y = true ∧ b = PyData.eqv x y) := by
  unfold eqB at e
  split at e
  · cases e; exact .inl ⟨_, _, rfl, rfl, rfl⟩
  · split at e
    · rename_i h
      cases e
      rw [Bool.and_eq_true] at h
      exact .inr ⟨h.1, h.2, rfl⟩
    · cases e
theorem okEq_dp {v : V} {d : Da} (h : RL K Hf H v d) (o : okEq d = true) : Dp K H v d ∧ SeqAt.shaped d = true := by
  unfold okEq at o
  rw [Bool.and_eq_true] at o
  exact ⟨h.1.dp o.1, o.2⟩
theorem od_eq (hu : ∀ i, (F.X i).A.units + 64 < cLine) : OpD F (compareOp .Eq) dEq := by
  intro x y w e
  obtain ⟨b, e1, e2⟩ := Option.map_eq_some_iff.mp e
  subst e2
  rcases eqB_ok e1 with ⟨i, j, rfl, rfl, rfl⟩ | ⟨o1, o2, rfl⟩
  · refine ⟨rEq, fun i => op_eq, fun pr B Hf H g σ vx vy Q E hx hy c => ?_⟩
    cases hx.int
    cases hy.int
    exact ⟨rfl, by rw [dec_int]; exact c.dat E (.bl _)⟩
  · refine ⟨rEqD F.K, fun i => by have h := op_eqD (hu i); rw [F.hK i] at h; exact h, fun pr B Hf H g σ vx vy Q E hx hy c => ?_⟩
    exact ⟨x, y, (okEq_dp hx o1).1, (okEq_dp hy o2).1, (okEq_dp hx o1).2, (okEq_dp hy o2).2, c.dat E (.bl _)⟩
theorem od_ne (hu : ∀ i, (F.X i).A.units + 64 < cLine) : OpD F (compareOp .NotEq) dNe := by
  intro x y w e
  obtain ⟨b, e1, e2⟩ := Option.map_eq_some_iff.mp e
  subst e2
  rcases eqB_ok e1 with ⟨i, j, rfl, rfl, rfl⟩ | ⟨o1, o2, rfl⟩
  · refine ⟨rNe, fun i => op_ne, fun pr B Hf H g σ vx vy Q E hx hy c => ?_⟩
    cases hx.int
    cases hy.int
    exact ⟨rfl, by rw [dec_int]; exact c.dat E (.bl _)⟩
  · refine ⟨rNeD F.K, fun i => by have h := op_neD (hu i); rw [F.hK i] at h; exact h, fun pr B Hf H g σ vx vy Q E hx hy c => ?_⟩
    exact ⟨x, y, (okEq_dp hx o1).1, (okEq_dp hy o2).1, (okEq_dp hx o1).2, (okEq_dp hy o2).2, c.dat E (.bl _)⟩
/-- in, not in: flat items -/
def flatD : Da → Bool
  | .none | .bool _ | .int _ | .str _ => true
  | _ => false
def itemsD : Da → Option (List Da)
  | .list xs => some xs
  | .tuple xs => some xs
  | _ => none
def inD (x : Da) (xs : List Da) : Bool := xs.any fun y => PyData.eqv y x
def dIn (neg : Bool) (x y : Da) : Option Wv := (itemsD y).bind fun xs => if flatD x && xs.all flatD then some (.dat (.bool (if neg then !inD x xs else inD x xs))) else none
theorem flat_rep {v : V} {d : Da} (h : Rep K H v d) (f : flatD d = true) : flatV v = true := by
  cases h <;> first | rfl | cases f
theorem eqv_rep {v u : V} {d e : Da} (h : Rep K H v d) (h2 : Rep K H u e) (f : flatD d = true) (f2 : flatD e = true) : eqV v u = PyData.eqv d e := by
  cases h <;> cases h2 <;> first | rfl | cases f | cases f2
theorem flats_rep : ∀ {vs : List V} {ds : List Da}, RepAll K H vs ds → ds.all flatD = true → vs.all flatV = true
  | _, _, .nil, _ => rfl
  | _, _, .cons a b, f => by
    rw [List.all_cons, Bool.and_eq_true] at f ⊢
    exact ⟨flat_rep a f.1, flats_rep b f.2⟩
theorem in_rep {u : V} {e : Da} (h2 : Rep K H u e) (f2 : flatD e = true) : ∀ {vs : List V} {ds : List Da}, RepAll K H vs ds → ds.all flatD = true → inV u vs = inD e ds
  | _, _, .nil, _ => rfl
  | _, _, .cons a b, f => by
    rw [List.all_cons, Bool.and_eq_true] at f
    have ih := in_rep h2 f2 b f.2
    unfold inV inD at ih ⊢
    rw [List.any_cons, List.any_cons, ih, eqv_rep a h2 f.1 f2]
theorem in_ok {neg : Bool} {f : Value → Value → Sem Value} (hr : ∀ i, OpR (F.X i) f (rIn (F.X i).K neg)) : OpD F f (dIn neg) := by
  intro x y w e
  obtain ⟨xs, e1, e⟩ := Option.bind_eq_some_iff.mp e
  split at e
  · rename_i h
    rw [Bool.and_eq_true] at h
    cases e
    refine ⟨rIn F.K neg, fun i => by have h := hr i; rw [F.hK i] at h; exact h, fun pr B Hf H g σ vx vy Q E hx hy c => ?_⟩
    have go : ∀ p us, vy = .ref p → (SqL F.K H p us ∨ SqT F.K H p us) → RepAll F.K Hf us xs → rIn F.K neg vx vy H Q := fun p us e2 s r => by
      have r' := r.mono E.ex
      refine ⟨p, us, e2, s, flat_rep hx.1 h.1, flats_rep r' h.2, ?_⟩
      rw [in_rep hx.1 h.1 r' h.2]
      exact c.dat E (.bl _)
    cases y with
    | list ys => cases e1; obtain ⟨p, us, e2, s, r⟩ := hy.seqL E.ex; exact go p us e2 (.inl s) r
    | tuple ys => cases e1; obtain ⟨p, us, e2, s, r⟩ := hy.seqT E.ex; exact go p us e2 (.inr s) r
    | _ => cases e1
  · cases e
theorem od_in : OpD F (compareOp .In) (dIn false) := in_ok fun _ => op_in_seq
/-- is None, is not None; is True, is False -/
def isNone : Da → Bool
  | .none => true
  | _ => false
def isBl (b : Bool) : Da → Bool
  | .bool a => if b then a else !a
  | _ => false
def dIs (neg : Bool) : Da → Da → Option Wv
  | x, .none => some (.dat (.bool (if neg then !isNone x else isNone x)))
  | x, .bool b => some (.dat (.bool (if neg then !isBl b x else isBl b x)))
  | _, _ => none
theorem op_isB {X : Cx} : OpR X (compareOp .Is) (fun x y H Q => ∃ b, y = .bl b ∧ Q (.bl (decide (x = .bl b))) H) := by
  intro pins s σ H x y v u Q I rx ry h
  obtain ⟨b, rfl, q⟩ := h
  cases (show u = Value.bool b from ry)
  refine wpAny_is_plain ?_ (fin_bl I q ?_)
  · cases x <;> first
      | (cases rx; rfl)
      | (obtain ⟨t, rfl⟩ := rx; rfl)
  · cases x <;> first
      | (obtain ⟨t, rfl⟩ := rx; cases b <;> rfl)
      | (rename_i a; cases (show v = Value.bool a from rx); cases a <;> cases b <;> rfl)
      | (cases rx; cases b <;> rfl)
theorem op_isnotB {X : Cx} : OpR X (compareOp .IsNot) (fun x y H Q => ∃ b, y = .bl b ∧ Q (.bl (!decide (x = .bl b))) H) := by
  intro pins s σ H x y v u Q I rx ry h
  obtain ⟨b, rfl, q⟩ := h
  cases (show u = Value.bool b from ry)
  refine wpAny_isNot_plain ?_ (fin_bl I q ?_)
  · cases x <;> first
      | (cases rx; rfl)
      | (obtain ⟨t, rfl⟩ := rx; rfl)
  · cases x <;> first
      | (obtain ⟨t, rfl⟩ := rx; cases b <;> rfl)
      | (rename_i a; cases (show v = Value.bool a from rx); cases a <;> cases b <;> rfl)
      | (cases rx; cases b <;> rfl)
theorem isB_rep {v : V} {d : Da} {b : Bool} (h : Rep K H v d) : decide (v = .bl b) = isBl b d := by
  cases h <;> cases b <;> simp [isBl]
theorem isN_rep {v : V} {d : Da} (h : Rep K H v d) : decide (v = .non) = isNone d := by
  cases h <;> simp [isNone]
theorem od_is : OpD F (compareOp .Is) (dIs false) := by
  intro x y w e
  unfold dIs at e
  split at e
  · cases e
    refine ⟨_, fun i => op_isN, fun pr B Hf H g σ vx vy Q E hx hy c => ⟨hy.none, ?_⟩⟩
    rw [isN_rep hx.1]
    exact c.dat E (.bl _)
  · rename_i b
    cases e
    refine ⟨_, fun i => op_isB, fun pr B Hf H g σ vx vy Q E hx hy c => ⟨b, hy.bool, ?_⟩⟩
    rw [isB_rep hx.1]
    exact c.dat E (.bl _)
  · cases e
theorem od_isnot : OpD F (compareOp .IsNot) (dIs true) := by
  intro x y w e
  unfold dIs at e
  split at e
  · cases e
    refine ⟨_, fun i => op_notN, fun pr B Hf H g σ vx vy Q E hx hy c => ⟨hy.none, ?_⟩⟩
    rw [isN_rep hx.1]
    exact c.dat E (.bl _)
  · rename_i b
    cases e
    refine ⟨_, fun i => op_isnotB, fun pr B Hf H g σ vx vy Q E hx hy c => ⟨b, hy.bool, ?_⟩⟩
    rw [isB_rep hx.1]
    exact c.dat E (.bl _)
  · cases e
/-! ### -a -/
def mNeg (f : ME) : ME := fun g => (f g).bind fun a => (look a.1 a.2).bind fun x => match x with | .int i => some (.dat (.int (-i)), a.2) | _ => none
theorem ev_neg {a : Expr} {f : ME} {pos : Pos} (h : Ev F pr a f) : Ev F pr (.UnaryOp .USub a pos) (mNeg f) := by
  intro B Hf H g σ w g' Q E eq q
  obtain ⟨⟨wa, g1⟩, e1, eq⟩ := Option.bind_eq_some_iff.mp eq
  obtain ⟨x, e2, eq⟩ := Option.bind_eq_some_iff.mp eq
  dsimp only at eq
  split at eq
  · rename_i i
    cases eq
    refine ⟨_, fun j => pe_un un_neg (pe_U j), ?_⟩
    refine h B Hf H g σ wa _ _ E e1 fun v Hf1 H1 s1 w1 y1 => ?_
    have l := look_ok s1.env w1 e2
    exact ⟨i, RL.int (Hf := Hf1) l, q _ Hf1 H1 s1 (Rep.int _) (fun _ z => nomatch z)⟩
  · cases eq
/-! ### tests -/
def truthD : Da → Option Bool
  | .none => some false
  | .bool b => some b
  | .int i => some (i != 0)
  | .str y => if y.length ≤ sizeLine then some ((y.length : Int) != 0) else none
  | .list xs => some (!xs.isEmpty)
  | .tuple xs => some (!xs.isEmpty)
  | .dict _ => none
theorem isEmpty_rep {vs : List V} {ds : List Da} (r : RepAll K H vs ds) : (!vs.isEmpty) = !ds.isEmpty := by
  cases r <;> rfl
theorem truth_ok {v : V} {d : Da} {b : Bool} (E : En K pr B Hf H g σ) (h : RL K Hf H v d) (e : truthD d = some b) : TruV K v H b := by
  cases d with
  | none => cases e; cases h.none; rfl
  | bool c => cases e; cases h.bool; rfl
  | int i => cases e; cases h.int; rfl
  | str y =>
    have e : (if y.length ≤ sizeLine then some ((y.length : Int) != 0) else none) = some b := e
    split at e
    · rename_i hl
      cases e; cases h.str; exact ⟨hl, rfl⟩
    · cases e
  | list xs =>
    cases e
    obtain ⟨p, us, rfl, s, r⟩ := h.seqL E.ex
    exact .inl ⟨us, s, (isEmpty_rep r).symm⟩
  | tuple xs =>
    cases e
    obtain ⟨p, us, rfl, s, r⟩ := h.seqT E.ex
    exact .inr (.inl ⟨us, s, (isEmpty_rep r).symm⟩)
  | dict kvs => cases e
def mTru (f : ME) : MT := fun g => (f g).bind fun a => (look a.1 a.2).bind fun x => (truthD x).bind fun b => some (b, a.2)
theorem et_tru {a : Expr} {f : ME} (h : Ev F pr a f) (he : ∀ i, ∀ whole, isTrue a (F.X i).env whole = (do let v ← whole; standAt a.pos; holding [v] (truthy v)) := by intro _ _; rfl) : EvT F pr a (mTru f) := by
  intro B Hf H g σ b g' Q E eq q
  obtain ⟨⟨wa, g1⟩, e1, eq⟩ := Option.bind_eq_some_iff.mp eq
  obtain ⟨x, e2, eq⟩ := Option.bind_eq_some_iff.mp eq
  obtain ⟨b', e3, eq⟩ := Option.bind_eq_some_iff.mp eq
  cases eq
  refine ⟨fun σ H Q => U F a σ H fun x H' => ∃ k, TruV F.K x H' k ∧ Q k H', fun i => by have z := pt_truth (pe_U (F := F) (e := a) i) (he i); rw [F.hK i] at z; exact z, ?_⟩
  refine h B Hf H g σ wa _ _ E e1 fun v Hf1 H1 s1 w1 y1 => ?_
  exact ⟨b, truth_ok s1.env (look_ok s1.env w1 e2) e3, q Hf1 H1 s1⟩
def mNot (f : MT) : MT := fun g => (f g).bind fun a => some (!a.1, a.2)
theorem et_not {a : Expr} {f : MT} {pos : Pos} (h : EvT F pr a f) : EvT F pr (.UnaryOp .Not a pos) (mNot f) := by
  intro B Hf H g σ b g' Q E eq q
  obtain ⟨⟨c, g1⟩, e1, eq⟩ := Option.bind_eq_some_iff.mp eq
  cases eq
  exact ⟨tNot (UT F a), fun i => pt_not (pt_U i), h B Hf H g σ c _ _ E e1 fun Hf1 H1 s1 => q Hf1 H1 s1⟩
def mAnd (f h : MT) : MT := fun g => (f g).bind fun a => if a.1 = true then h a.2 else some (false, a.2)
def mOr (f h : MT) : MT := fun g => (f g).bind fun a => if a.1 = true then some (true, a.2) else h a.2
theorem et_w {a : Expr} {f : MT} (h : EvW F pr a f) : EvT F pr a f := by
  intro B Hf H g σ b g' Q E eq q
  exact ⟨UW F a, fun i => (pw_U i).pt, h B Hf H g σ b g' Q E eq q⟩
theorem ew_and1 {a : Expr} {f : MT} {pos : Pos} (h : EvT F pr a f) : EvW F pr (.BoolOp .And [a] pos) f := by
  intro B Hf H g σ b g' Q E eq q
  exact ⟨UT F a, fun i => pw_and1 (pt_U i), h B Hf H g σ b g' Q E eq q⟩
theorem ew_or1 {a : Expr} {f : MT} {pos : Pos} (h : EvT F pr a f) : EvW F pr (.BoolOp .Or [a] pos) f := by
  intro B Hf H g σ b g' Q E eq q
  exact ⟨UT F a, fun i => pw_or1 (pt_U i), h B Hf H g σ b g' Q E eq q⟩
theorem ew_and {a c : Expr} {r : List Expr} {f h : MT} {pos : Pos} (ha : EvT F pr a f) (hb : EvW F pr (.BoolOp .And (c :: r) pos) h) : EvW F pr (.BoolOp .And (a :: c :: r) pos) (mAnd f h) := by
  intro B Hf H g σ b g' Q E eq q
  obtain ⟨⟨k, g1⟩, e1, eq⟩ := Option.bind_eq_some_iff.mp eq
  refine ⟨tAnd (UT F a) (UW F (.BoolOp .And (c :: r) pos)), fun i => pw_and (pt_U i) (pw_U i), ?_⟩
  refine ha B Hf H g σ k g1 _ E e1 fun Hf1 H1 s1 => ?_
  cases k with
  | true => exact hb B Hf1 H1 g1 σ b g' Q s1.env eq fun Hf2 H2 s2 => q Hf2 H2 (s1.trans s2)
  | false => cases eq; exact q Hf1 H1 s1
theorem ew_or {a c : Expr} {r : List Expr} {f h : MT} {pos : Pos} (ha : EvT F pr a f) (hb : EvW F pr (.BoolOp .Or (c :: r) pos) h) : EvW F pr (.BoolOp .Or (a :: c :: r) pos) (mOr f h) := by
  intro B Hf H g σ b g' Q E eq q
  obtain ⟨⟨k, g1⟩, e1, eq⟩ := Option.bind_eq_some_iff.mp eq
  refine ⟨tOr (UT F a) (UW F (.BoolOp .Or (c :: r) pos)), fun i => pw_or (pt_U i) (pw_U i), ?_⟩
  refine ha B Hf H g σ k g1 _ E e1 fun Hf1 H1 s1 => ?_
  cases k with
  | false => exact hb B Hf1 H1 g1 σ b g' Q s1.env eq fun Hf2 H2 s2 => q Hf2 H2 (s1.trans s2)
  | true => cases eq; exact q Hf1 H1 s1
/-- a chain of two comparisons -/
def mChain (F1 F2 : Da → Da → Option Wv) (fa fb fc : ME) : MT := fun g => (fa g).bind fun a => (fb a.2).bind fun b => (look a.1 b.2).bind fun x => (look b.1 b.2).bind fun y => match F1 x y with
  | some (.dat (.bool true)) => (fc b.2).bind fun c => (look b.1 c.2).bind fun y' => (look c.1 c.2).bind fun z => match F2 y' z with | some (.dat (.bool k)) => some (k, c.2) | _ => none
  | some (.dat (.bool false)) => some (false, b.2)
  | _ => none
theorem chain_ok {a b c : Expr} {fa fb fc : ME} {F1 F2 : Da → Da → Option Wv} {f1 f2 : Value → Value → Sem Value} (ha : Ev F pr a fa) (hb : Ev F pr b fb) (hc : Ev F pr c fc) (h1 : OpD F f1 F1) (h2 : OpD F f2 F2) (d1 : ∃ r : R2, ∀ i, OpR (F.X i) f2 r) {k : Bool} {Q : VK} (E : En F.K pr B Hf H g σ)
    (eq : mChain F1 F2 fa fb fc g = some (k, g')) (q : ∀ Hf' H', Stp F.K pr B Hf H g σ Hf' H' g' → Q (.bl k) H') : ∃ r r' : R2, (∀ i, OpR (F.X i) f1 r) ∧ (∀ i, OpR (F.X i) f2 r') ∧ tChain r r' (U F a) (U F b) (U F c) σ H Q := by
  obtain ⟨⟨wa, g1⟩, e1, eq⟩ := Option.bind_eq_some_iff.mp eq
  obtain ⟨⟨wb, g2⟩, e2, eq⟩ := Option.bind_eq_some_iff.mp eq
  obtain ⟨x, e3, eq⟩ := Option.bind_eq_some_iff.mp eq
  obtain ⟨y, e4, eq⟩ := Option.bind_eq_some_iff.mp eq
  dsimp only at eq
  split at eq
  · rename_i e5
    obtain ⟨⟨wc, g3⟩, e6, eq⟩ := Option.bind_eq_some_iff.mp eq
    obtain ⟨y', e7, eq⟩ := Option.bind_eq_some_iff.mp eq
    obtain ⟨z, e8, eq⟩ := Option.bind_eq_some_iff.mp eq
    dsimp only at eq
    split at eq
    · rename_i k' e9
      cases eq
      obtain ⟨r, hr, hk⟩ := h1 x y _ e5
      obtain ⟨r', hr', hk'⟩ := h2 y' z _ e9
      refine ⟨r, r', hr, hr', ?_⟩
      refine ha B Hf H g σ wa g1 _ E e1 fun v Hf1 H1 s1 w1 y1 => ?_
      refine hb B Hf1 H1 g1 σ wb g2 _ s1.env e2 fun u Hf2 H2 s2 w2 y2 => ?_
      refine hk pr B Hf2 H2 g2 σ v u _ s2.env (look_ok s2.env (s2.way s1.env w1) e3) (look_ok s2.env w2 e4) fun t Hf3 H3 s3 w3 y3 => ?_
      have w3 : Rep F.K Hf3 t (.bool true) := w3
      cases w3
      refine ⟨true, rfl, ?_⟩
      rw [if_pos rfl]
      refine hc B Hf3 H3 g2 σ wc _ _ s3.env e6 fun s Hf4 H4 s4 w4 y4 => ?_
      refine hk' pr B Hf4 H4 _ σ u s _ s4.env (look_ok s4.env (s4.way s3.env (s3.way s2.env w2)) e7) (look_ok s4.env w4 e8) fun o Hf5 H5 s5 w5 y5 => ?_
      have w5 : Rep F.K Hf5 o (.bool _) := w5
      cases w5
      exact q Hf5 H5 ((((s1.trans s2).trans s3).trans s4).trans s5)
    · cases eq
  · rename_i e5
    cases eq
    obtain ⟨r, hr, hk⟩ := h1 x y _ e5
    obtain ⟨r', hr'⟩ := d1
    refine ⟨r, r', hr, hr', ?_⟩
    refine ha B Hf H g σ wa g1 _ E e1 fun v Hf1 H1 s1 w1 y1 => ?_
    refine hb B Hf1 H1 g1 σ wb _ _ s1.env e2 fun u Hf2 H2 s2 w2 y2 => ?_
    refine hk pr B Hf2 H2 _ σ v u _ s2.env (look_ok s2.env (s2.way s1.env w1) e3) (look_ok s2.env w2 e4) fun t Hf3 H3 s3 w3 y3 => ?_
    have w3 : Rep F.K Hf3 t (.bool false) := w3
    cases w3
    refine ⟨false, rfl, ?_⟩
    rw [if_neg Bool.false_ne_true]
    exact q Hf3 H3 ((s1.trans s2).trans s3)
  · cases eq
theorem et_chain {a b c : Expr} {fa fb fc : ME} {F1 F2 : Da → Da → Option Wv} {op op' : CmpOp} {pos : Pos} (h1 : OpD F (compareOp op) F1) (h2 : OpD F (compareOp op') F2) (d1 : ∃ r : R2, ∀ i, OpR (F.X i) (compareOp op') r) (ha : Ev F pr a fa) (hb : Ev F pr b fb) (hc : Ev F pr c fc)
    (hm : lastMarks [op, op'] [b, c] = false := by with_unfolding_all rfl) : EvT F pr (.Compare a [op, op'] [b, c] pos) (mChain F1 F2 fa fb fc) := by
  intro B Hf H g σ k g' Q E eq q
  obtain ⟨r, r', hr, hr', t⟩ := chain_ok (Q := fun x H' => ∃ k, x = .bl k ∧ Q k H') ha hb hc h1 h2 d1 E eq fun Hf' H' s => ⟨k, rfl, q Hf' H' s⟩
  exact ⟨_, fun i => pt_chain (hr i) (hr' i) (pe_U i) (pe_U i) (pe_U i) hm, t⟩
/-! ### tests as values -/
def mOfT (f : MT) : ME := fun g => (f g).bind fun a => some (.dat (.bool a.1), a.2)
theorem ev_chain {a b c : Expr} {fa fb fc : ME} {F1 F2 : Da → Da → Option Wv} {op op' : CmpOp} {pos : Pos} (h1 : OpD F (compareOp op) F1) (h2 : OpD F (compareOp op') F2) (d1 : ∃ r : R2, ∀ i, OpR (F.X i) (compareOp op') r) (ha : Ev F pr a fa) (hb : Ev F pr b fb) (hc : Ev F pr c fc)
    (hm : lastMarks [op, op'] [b, c] = false := by with_unfolding_all rfl) : Ev F pr (.Compare a [op, op'] [b, c] pos) (mOfT (mChain F1 F2 fa fb fc)) := by
  intro B Hf H g σ w g' Q E eq q
  obtain ⟨⟨k, g1⟩, e1, eq⟩ := Option.bind_eq_some_iff.mp eq
  cases eq
  obtain ⟨r, r', hr, hr', t⟩ := chain_ok ha hb hc h1 h2 d1 E e1 fun Hf' H' s => q _ Hf' H' s (.bl k) (fun _ z => nomatch z)
  exact ⟨_, fun i => pe_chain (hr i) (hr' i) (pe_U i) (pe_U i) (pe_U i) hm, t⟩
theorem d1_lt : ∃ r : R2, ∀ i, OpR (F.X i) (compareOp .Lt) r := ⟨_, fun _ => op_lt⟩
theorem d1_le : ∃ r : R2, ∀ i, OpR (F.X i) (compareOp .LtE) r := ⟨_, fun _ => op_le⟩
def mNotV (f : ME) : ME := fun g => (f g).bind fun a => match a.1 with | .dat (.bool b) => some (.dat (.bool (!b)), a.2) | _ => none
def mAndV (f h : ME) : ME := fun g => (f g).bind fun a => match a.1 with | .dat (.bool true) => h a.2 | .dat (.bool false) => some (.dat (.bool false), a.2) | _ => none
def mOrV (f h : ME) : ME := fun g => (f g).bind fun a => match a.1 with | .dat (.bool false) => h a.2 | .dat (.bool true) => some (.dat (.bool true), a.2) | _ => none
theorem ev_one {op} {a : Expr} {f : ME} {pos : Pos} (h : Ev F pr a f) : Ev F pr (.BoolOp op [a] pos) f := by
  intro B Hf H g σ w g' Q E eq q
  exact ⟨U F a, fun i => pe_one (pe_U i), h B Hf H g σ w g' Q E eq q⟩
theorem ev_and {a c : Expr} {r : List Expr} {f h : ME} {pos : Pos} (ha : Ev F pr a f) (hb : Ev F pr (.BoolOp .And (c :: r) pos) h) : Ev F pr (.BoolOp .And (a :: c :: r) pos) (mAndV f h) := by
  intro B Hf H g σ w g' Q E eq q
  obtain ⟨⟨wa, g1⟩, e1, eq⟩ := Option.bind_eq_some_iff.mp eq
  refine ⟨tAndV (U F a) (U F (.BoolOp .And (c :: r) pos)), fun i => pe_and (pe_U i) (pe_U i), ?_⟩
  refine ha B Hf H g σ wa g1 _ E e1 fun v Hf1 H1 s1 w1 y1 => ?_
  dsimp only at eq
  split at eq
  · have w1 : Rep F.K Hf1 v (.bool true) := w1
    cases w1
    exact ⟨true, rfl, hb B Hf1 H1 g1 σ w g' Q s1.env eq fun v Hf2 H2 s2 w2 y2 => q v Hf2 H2 (s1.trans s2) w2 fun ds e p e' => s1.tr.stay p (y2 ds e p e')⟩
  · cases eq
    have w1 : Rep F.K Hf1 v (.bool false) := w1
    cases w1
    exact ⟨false, rfl, q _ Hf1 H1 s1 (.bl _) (fun _ z => nomatch z)⟩
  · cases eq
theorem ev_or {a c : Expr} {r : List Expr} {f h : ME} {pos : Pos} (ha : Ev F pr a f) (hb : Ev F pr (.BoolOp .Or (c :: r) pos) h) : Ev F pr (.BoolOp .Or (a :: c :: r) pos) (mOrV f h) := by
  intro B Hf H g σ w g' Q E eq q
  obtain ⟨⟨wa, g1⟩, e1, eq⟩ := Option.bind_eq_some_iff.mp eq
  refine ⟨tOrV (U F a) (U F (.BoolOp .Or (c :: r) pos)), fun i => pe_or (pe_U i) (pe_U i), ?_⟩
  refine ha B Hf H g σ wa g1 _ E e1 fun v Hf1 H1 s1 w1 y1 => ?_
  dsimp only at eq
  split at eq
  · have w1 : Rep F.K Hf1 v (.bool false) := w1
    cases w1
    exact ⟨false, rfl, hb B Hf1 H1 g1 σ w g' Q s1.env eq fun v Hf2 H2 s2 w2 y2 => q v Hf2 H2 (s1.trans s2) w2 fun ds e p e' => s1.tr.stay p (y2 ds e p e')⟩
  · cases eq
    have w1 : Rep F.K Hf1 v (.bool true) := w1
    cases w1
    exact ⟨true, rfl, q _ Hf1 H1 s1 (.bl _) (fun _ z => nomatch z)⟩
  · cases eq
/-- a if t else b -/
def mIf (t : MT) (f h : ME) : ME := fun g => (t g).bind fun a => if a.1 = true then f a.2 else h a.2
theorem ev_if {t a b : Expr} {ft : MT} {f h : ME} {pos : Pos} (ht : EvT F pr t ft) (ha : Ev F pr a f) (hb : Ev F pr b h) : Ev F pr (.IfExp t a b pos) (mIf ft f h) := by
  intro B Hf H g σ w g' Q E eq q
  obtain ⟨⟨k, g1⟩, e1, eq⟩ := Option.bind_eq_some_iff.mp eq
  refine ⟨tIf (UT F t) (U F a) (U F b), fun i => pe_ifExp (pt_U i) (pe_U i) (pe_U i), ?_⟩
  refine ht B Hf H g σ k g1 _ E e1 fun Hf1 H1 s1 => ?_
  cases k with
  | true => exact ha B Hf1 H1 g1 σ w g' Q s1.env eq fun v Hf2 H2 s2 w2 y2 => q v Hf2 H2 (s1.trans s2) w2 fun ds e p e' => s1.tr.stay p (y2 ds e p e')
  | false => exact hb B Hf1 H1 g1 σ w g' Q s1.env eq fun v Hf2 H2 s2 w2 y2 => q v Hf2 H2 (s1.trans s2) w2 fun ds e p e' => s1.tr.stay p (y2 ds e p e')
end
end EV
end
section
set_option maxHeartbeats 2000000
set_option autoImplicit false
namespace EV
open PySem PySem.Spec PyProof.Rows L2
section
variable {F : Fam} {pr : List Nat} {B : Addr → Prop} {Hf H Hf' H' Hf1 H1 Hf2 H2 : Hp} {g g' g1 g2 : Gh} {σ σ' σ1 σ2 : L2.St} {K : Frag}
/-! ### subscripts -/
theorem atI_rep {vs : List V} {ds : List Da} {i : Int} {d : Da} (r : RepAll K H vs ds) (e : atI ds i = some d) : ∃ v, atI vs i = some v ∧ Rep K H v d := by
  unfold atI at e ⊢
  rw [r.length]
  cases h : ixN ds.length i with
  | none => rw [h] at e; cases e
  | some j =>
    rw [h] at e
    obtain ⟨v, e1, e2⟩ := r.get (i := j) (d := d) e
    exact ⟨v, e1, e2⟩
def dIx : Da → Da → Option Da
  | .list xs, .int i => atI xs i
  | .tuple xs, .int i => atI xs i
  | _, _ => none
theorem dIx_some {x y d : Da} (e : dIx x y = some d) : ∃ xs i, y = .int i ∧ ((x = .list xs ∧ atI xs i = some d) ∨ (x = .tuple xs ∧ atI xs i = some d)) := by
  unfold dIx at e
  split at e
  · exact ⟨_, _, rfl, .inl ⟨rfl, e⟩⟩
  · exact ⟨_, _, rfl, .inr ⟨rfl, e⟩⟩
  · cases e
def mIx (fa fb : ME) : ME := fun g => (fa g).bind fun a => (fb a.2).bind fun b => (look a.1 b.2).bind fun x => (look b.1 b.2).bind fun y => (dIx x y).bind fun d => some (.dat d, b.2)
theorem ev_ix {a b : Expr} {fa fb : ME} {pos : Pos} (ha : Ev F pr a fa) (hb : Ev F pr b fb) (hs : PlainIx b := by exact fun _ _ => rfl) : Ev F pr (.Subscript a b pos) (mIx fa fb) := by
  intro B Hf H g σ w g' Q E eq q
  obtain ⟨⟨wa, g1⟩, e1, eq⟩ := Option.bind_eq_some_iff.mp eq
  obtain ⟨⟨wb, g2⟩, e2, eq⟩ := Option.bind_eq_some_iff.mp eq
  obtain ⟨x, e3, eq⟩ := Option.bind_eq_some_iff.mp eq
  obtain ⟨y, e4, eq⟩ := Option.bind_eq_some_iff.mp eq
  obtain ⟨d, e5, eq⟩ := Option.bind_eq_some_iff.mp eq
  cases eq
  obtain ⟨xs, i, rfl, ⟨rfl, e5⟩ | ⟨rfl, e5⟩⟩ := dIx_some e5
  · refine ⟨tOp (rIxL F.K) (U F a) (U F b), fun j => pe_ix (by have h := @ix_list (F.X j); rw [F.hK j] at h; exact h) (pe_U j) (pe_U j) hs, ?_⟩
    refine ha B Hf H g σ wa g1 _ E e1 fun v Hf1 H1 s1 w1 y1 => ?_
    refine hb B Hf1 H1 g1 σ wb _ _ s1.env e2 fun u Hf2 H2 s2 w2 y2 => ?_
    have l1 : RL F.K Hf2 H2 v _ := look_ok s2.env (s2.way s1.env w1) e3
    have l2 : RL F.K Hf2 H2 u _ := look_ok s2.env w2 e4
    obtain ⟨p, us, rfl, hp, r⟩ := l1.seqL s2.env.ex
    obtain ⟨z, hz, rz⟩ := atI_rep r e5
    exact ⟨p, us, i, z, rfl, l2.int, hp, hz, q z Hf2 H2 (s1.trans s2) rz (fun _ z => nomatch z)⟩
  · refine ⟨tOp (rIxT F.K) (U F a) (U F b), fun j => pe_ix (by have h := @ix_tup (F.X j); rw [F.hK j] at h; exact h) (pe_U j) (pe_U j) hs, ?_⟩
    refine ha B Hf H g σ wa g1 _ E e1 fun v Hf1 H1 s1 w1 y1 => ?_
    refine hb B Hf1 H1 g1 σ wb _ _ s1.env e2 fun u Hf2 H2 s2 w2 y2 => ?_
    have l1 : RL F.K Hf2 H2 v _ := look_ok s2.env (s2.way s1.env w1) e3
    have l2 : RL F.K Hf2 H2 u _ := look_ok s2.env w2 e4
    obtain ⟨p, us, rfl, hp, r⟩ := l1.seqT s2.env.ex
    obtain ⟨z, hz, rz⟩ := atI_rep r e5
    exact ⟨p, us, i, z, rfl, l2.int, hp, hz, q z Hf2 H2 (s1.trans s2) rz (fun _ z => nomatch z)⟩
/-! ### slices -/
abbrev MO := Gh → Option (Option Int × Gh)
def EvO (F : Fam) (pr : List Nat) (e : Option Expr) (f : MO) : Prop := ∀ (B : Addr → Prop) (Hf H : Hp) (g : Gh) (σ : L2.St) (o : Option Int) (g' : Gh) (Q : Option Int → Hp → Prop), En F.K pr B Hf H g σ → f g = some (o, g') →
  (∀ Hf' H', Stp F.K pr B Hf H g σ Hf' H' g' → Q o H') → UO F e σ H Q
def mO0 : MO := fun g => some (none, g)
def mO1 (f : ME) : MO := fun g => (f g).bind fun a => (look a.1 a.2).bind fun x => match x with | .int i => some (some i, a.2) | _ => none
theorem eo_none : EvO F pr none mO0 := by
  intro B Hf H g σ o g' Q E eq q
  cases eq
  exact ⟨tNoPart, fun _ => po_none, q Hf H (Stp.refl E)⟩
theorem eo_some {e : Expr} {f : ME} (h : Ev F pr e f) : EvO F pr (some e) (mO1 f) := by
  intro B Hf H g σ o g' Q E eq q
  obtain ⟨⟨wa, g1⟩, e1, eq⟩ := Option.bind_eq_some_iff.mp eq
  obtain ⟨x, e2, eq⟩ := Option.bind_eq_some_iff.mp eq
  dsimp only at eq
  split at eq
  · rename_i i
    cases eq
    refine ⟨tPart (U F e), fun j => po_some (pe_U j), ?_⟩
    refine h B Hf H g σ wa _ _ E e1 fun v Hf1 H1 s1 w1 y1 => ?_
    exact ⟨i, RL.int (Hf := Hf1) (look_ok s1.env w1 e2), q Hf1 H1 s1⟩
  · cases eq
def cutD (xs : List Da) (lo hi : Option Int) : List Da := (xs.drop (HT.sIx xs.length 0 lo)).take (HT.sIx xs.length xs.length hi - HT.sIx xs.length 0 lo)
theorem cut_rep {vs : List V} {ds : List Da} (r : RepAll K H vs ds) (lo hi : Option Int) : RepAll K H (cutV vs lo hi) (cutD ds lo hi) := by
  unfold cutV cutD
  rw [r.length]
  exact (r.drop _).take _
def mSl (fa : ME) (fl fh : MO) : ME := fun g => (fa g).bind fun a => (fl a.2).bind fun l => (fh l.2).bind fun h => (look a.1 h.2).bind fun x => match x with
  | .list xs => some (.fresh (cutD xs l.1 h.1), h.2)
  | .tuple xs => some (.dat (.tuple (cutD xs l.1 h.1)), h.2)
  | _ => none
theorem sIx_whole {xs : List Da} {lo hi : Option Int} (h : HT.sIx xs.length 0 lo = 0 ∧ HT.sIx xs.length xs.length hi = xs.length) : cutD xs lo hi = xs := by
  unfold cutD
  rw [h.1, h.2, List.drop_zero, Nat.sub_zero, List.take_length]
theorem ev_sl {a : Expr} {lo hi : Option Expr} {fa : ME} {fl fh : MO} {p2 pos : Pos} (ha : Ev F pr a fa) (hl : EvO F pr lo fl) (hh : EvO F pr hi fh) : Ev F pr (.Subscript a (.Slice lo hi none p2) pos) (mSl fa fl fh) := by
  intro B Hf H g σ w g' Q E eq q
  obtain ⟨⟨wa, g1⟩, e1, eq⟩ := Option.bind_eq_some_iff.mp eq
  obtain ⟨⟨ol, g2⟩, e2, eq⟩ := Option.bind_eq_some_iff.mp eq
  obtain ⟨⟨oh, g3⟩, e3, eq⟩ := Option.bind_eq_some_iff.mp eq
  obtain ⟨x, e4, eq⟩ := Option.bind_eq_some_iff.mp eq
  have go : ∀ r : V → Option Int → Option Int → Hp → VK → Prop, (∀ j, SlR (F.X j) r) →
      (∀ v Hf' H', Stp F.K pr B Hf H g σ Hf' H' g3 → RL F.K Hf' H' v x → r v ol oh H' Q) → U F (.Subscript a (.Slice lo hi none p2) pos) σ H Q := fun r hr hk => by
    refine ⟨tSl r (U F a) (UO F lo) (UO F hi), fun j => pe_slice (hr j) (pe_U j) (po_U j) (po_U j), ?_⟩
    refine ha B Hf H g σ wa g1 _ E e1 fun v Hf1 H1 s1 w1 y1 => ?_
    refine hl B Hf1 H1 g1 σ ol g2 _ s1.env e2 fun Hf2 H2 s2 => ?_
    refine hh B Hf2 H2 g2 σ oh g3 _ s2.env e3 fun Hf3 H3 s3 => ?_
    exact hk v Hf3 H3 ((s1.trans s2).trans s3) (look_ok s3.env (s3.way s2.env (s2.way s1.env w1)) e4)
  dsimp only at eq
  split at eq
  · rename_i xs
    cases eq
    refine go (rSlL F.K) (fun j => by have h := @sl_list (F.X j); rw [F.hK j] at h; exact h) fun v Hf1 H1 s1 l => ?_
    obtain ⟨p, us, rfl, hp, r⟩ := l.seqL s1.env.ex
    have c : Cont F.K pr B Hf1 H1 _ σ (.fresh (cutD xs ol oh)) Q := fun v Hf' H' s w y => q v Hf' H' (s1.trans s) w fun ds e p e' => s1.tr.stay p (y ds e p e')
    exact ⟨p, us, rfl, hp, fun z hz => c.newL s1.env (cut_rep r ol oh) hz⟩
  · rename_i xs
    cases eq
    refine go (rSlA F.K) (fun j => by have h := @sl_tupA (F.X j); rw [F.hK j] at h; exact h) fun v Hf1 H1 s1 l => ?_
    obtain ⟨p, us, rfl, hp, r⟩ := l.seqT s1.env.ex
    have c : Cont F.K pr B Hf1 H1 _ σ (.dat (.tuple (cutD xs ol oh))) Q := fun v Hf' H' s w y => q v Hf' H' (s1.trans s) w fun ds e p e' => s1.tr.stay p (y ds e p e')
    refine ⟨p, us, rfl, hp, fun hw => ?_, fun _ z hz => c.newT s1.env (cut_rep r ol oh) hz⟩
    rw [r.length] at hw
    rw [sIx_whole hw] at c
    rcases l.2 with z | ⟨_, _, _, _, z, _⟩
    · exact c.dat s1.env z
    · cases z
  · cases eq
/-- xs[::-1], a list -/
def mRev (fa : ME) : ME := fun g => (fa g).bind fun a => (look a.1 a.2).bind fun x => match x with | .list xs => some (.fresh xs.reverse, a.2) | _ => none
/-! ### built-in calls -/
def CallD (F : Fam) (f : Value) (Fn : List Da → Option Wv) : Prop := ∀ ds w, Fn ds = some w → ∃ r : List V → Hp → VK → Prop, (∀ i, CallR (F.X i) f r) ∧
  ∀ pr B Hf H g σ vs (Q : VK), En F.K pr B Hf H g σ → RLs F.K Hf H vs ds → Cont F.K pr B Hf H g σ w Q → r vs H Q
def mCall (Fn : List Da → Option Wv) (fa : MA) : ME := fun g => (fa g).bind fun a => (lookAll a.1 a.2).bind fun ds => (Fn ds).bind fun w => some (w, a.2)
theorem callD_ok {es : List Expr} {fa : MA} {f : Value} {Fn : List Da → Option Wv} (hc : CallD F f Fn) (ha : EvA F pr es fa) {w : Wv} {Q : VK} (E : En F.K pr B Hf H g σ) (eq : mCall Fn fa g = some (w, g'))
    (q : ∀ v Hf' H', Stp F.K pr B Hf H g σ Hf' H' g' → WOk F.K B Hf' H' g' σ w v → Yng H w v → Q v H') : ∃ r : List V → Hp → VK → Prop, (∀ i, CallR (F.X i) f r) ∧ tCB r (UA F es) σ H Q := by
  obtain ⟨⟨ws, g1⟩, e1, eq⟩ := Option.bind_eq_some_iff.mp eq
  obtain ⟨ds, e2, eq⟩ := Option.bind_eq_some_iff.mp eq
  obtain ⟨w', e3, eq⟩ := Option.bind_eq_some_iff.mp eq
  cases eq
  obtain ⟨r, hr, hk⟩ := hc ds w e3
  refine ⟨r, hr, ?_⟩
  refine ha B Hf H g σ ws _ _ E e1 fun vs Hf1 H1 s1 w1 y1 => ?_
  exact hk pr B Hf1 H1 _ σ vs Q s1.env (lookAll_ok s1.env w1 e2) fun v Hf' H' s w y => q v Hf' H' (s1.trans s) w fun ds e p e' => s1.tr.stay p (y ds e p e')
theorem ev_callB {x : Str} {p pos : Pos} {e : Expr} {es : List Expr} {id : String} {fa : MA} {Fn : List Da → Option Wv} (hc : CallD F (.builtin id) Fn) (hm : ∀ i, (F.X i).mg x = none) (ha : EvA F pr (e :: es) fa)
    (hg : ∀ i, Gl (F.X i) x := by intro _; rfl) (hv : bootBuiltins x = some (.builtin id) := by decide +kernel) (hn : x ≠ "__name__" := by decide) (hdb : (x == ("__debug__" : Str)) = false := by decide)
    (he : ∀ i, starEach (e :: es) (F.X i).env = (false, eval e (F.X i).env) :: starEach es (F.X i).env := by intro _; rfl) (hpl : ∀ i, (backTo pos (starEach es (F.X i).env)).any (·.1) = false := by intro _; rfl) : Ev F pr (.Call (.Name x p) (e :: es) [] pos) (mCall Fn fa) := by
  intro B Hf H g σ w g' Q E eq q
  obtain ⟨r, hr, t⟩ := callD_ok hc ha E eq q
  exact ⟨_, fun i => pe_callB (hr i) (hg i) (hm i) hv (pa_U i) hn hdb (he i) (hpl i), t⟩
theorem ev_callTy {x : Str} {p pos : Pos} {e : Expr} {es : List Expr} {T : String} {fa : MA} {Fn : List Da → Option Wv} (hc : CallD F (.type T) Fn) (hm : ∀ i, (F.X i).mg x = none) (ha : EvA F pr (e :: es) fa)
    (hg : ∀ i, Gl (F.X i) x := by intro _; rfl) (hv : bootBuiltins x = some (.type T) := by decide +kernel) (hn : x ≠ "__name__" := by decide) (hdb : (x == ("__debug__" : Str)) = false := by decide)
    (he : ∀ i, starEach (e :: es) (F.X i).env = (false, eval e (F.X i).env) :: starEach es (F.X i).env := by intro _; rfl) (hpl : ∀ i, (backTo pos (starEach es (F.X i).env)).any (·.1) = false := by intro _; rfl) : Ev F pr (.Call (.Name x p) (e :: es) [] pos) (mCall Fn fa) := by
  intro B Hf H g σ w g' Q E eq q
  obtain ⟨r, hr, t⟩ := callD_ok hc ha E eq q
  exact ⟨_, fun i => pe_callTy (hr i) (hg i) (hm i) hv (pa_U i) hn hdb (he i) (hpl i), t⟩
def dLen : List Da → Option Wv
  | [.list xs] => some (.dat (.int xs.length))
  | [.tuple xs] => some (.dat (.int xs.length))
  | [.str x] => if x.length ≤ sizeLine then some (.dat (.int x.length)) else none
  | _ => none
theorem RLs.one {vs : List V} {d : Da} (h : RLs K Hf H vs [d]) : ∃ v, vs = [v] ∧ RL K Hf H v d := by
  cases h with
  | cons a b => cases b; exact ⟨_, rfl, a⟩
theorem RLs.two {vs : List V} {d e : Da} (h : RLs K Hf H vs [d, e]) : ∃ v u, vs = [v, u] ∧ RL K Hf H v d ∧ RL K Hf H u e := by
  cases h with
  | cons a b => cases b with | cons b c => cases c; exact ⟨_, _, rfl, a, b⟩
theorem cd_len : CallD F (.builtin "len") dLen := by
  intro ds w e
  unfold dLen at e
  split at e
  · rename_i xs
    cases e
    refine ⟨fun vs H Q => ∃ p ys, vs = [.ref p] ∧ (SqL F.K H p ys ∨ SqT F.K H p ys) ∧ Q (.int ys.length) H, fun i => by have h := @call_len_seq (F.X i); rw [F.hK i] at h; exact h, fun pr B Hf H g σ vs Q E h c => ?_⟩
    obtain ⟨v, rfl, l⟩ := h.one
    obtain ⟨p, us, rfl, s, r⟩ := l.seqL E.ex
    exact ⟨p, us, rfl, .inl s, by rw [r.length]; exact c.dat E (.int _)⟩
  · rename_i xs
    cases e
    refine ⟨fun vs H Q => ∃ p ys, vs = [.ref p] ∧ (SqL F.K H p ys ∨ SqT F.K H p ys) ∧ Q (.int ys.length) H, fun i => by have h := @call_len_seq (F.X i); rw [F.hK i] at h; exact h, fun pr B Hf H g σ vs Q E h c => ?_⟩
    obtain ⟨v, rfl, l⟩ := h.one
    obtain ⟨p, us, rfl, s, r⟩ := l.seqT E.ex
    exact ⟨p, us, rfl, .inr s, by rw [r.length]; exact c.dat E (.int _)⟩
  · rename_i x
    split at e
    · rename_i hl
      cases e
      refine ⟨_, fun i => call_len_str, fun pr B Hf H g σ vs Q E h c => ?_⟩
      obtain ⟨v, rfl, l⟩ := h.one
      cases l.str
      exact ⟨x, rfl, hl, c.dat E (.int _)⟩
    · cases e
  · cases e
def dInt : List Da → Option Wv
  | [.int i] => some (.dat (.int i))
  | [.bool k] => some (.dat (.int (if k then 1 else 0)))
  | _ => none
theorem cd_int : CallD F (.type "int") dInt := by
  intro ds w e
  unfold dInt at e
  split at e
  · rename_i i
    cases e
    refine ⟨_, fun i => call_int1, fun pr B Hf H g σ vs Q E h c => ?_⟩
    obtain ⟨v, rfl, l⟩ := h.one
    cases l.int
    exact .inl ⟨i, rfl, c.dat E (.int _)⟩
  · rename_i k
    cases e
    refine ⟨_, fun i => call_int1, fun pr B Hf H g σ vs Q E h c => ?_⟩
    obtain ⟨v, rfl, l⟩ := h.one
    cases l.bool
    exact .inr ⟨k, rfl, c.dat E (.int _)⟩
  · cases e
def dAbs : List Da → Option Wv
  | [.int i] => some (.dat (.int (if i < 0 then -i else i)))
  | _ => none
theorem cd_abs : CallD F (.builtin "abs") dAbs := by
  intro ds w e
  unfold dAbs at e
  split at e
  · rename_i i
    cases e
    refine ⟨_, fun i => call_abs, fun pr B Hf H g σ vs Q E h c => ?_⟩
    obtain ⟨v, rfl, l⟩ := h.one
    cases l.int
    exact ⟨i, rfl, c.dat E (.int _)⟩
  · cases e
def intsOf : List Da → Option (List Int)
  | [] => some []
  | .int i :: r => (intsOf r).map fun s => i :: s
  | _ :: _ => none
theorem intsOf_some : ∀ {ds : List Da} {ns : List Int}, intsOf ds = some ns → ds = ns.map PyData.int
  | [], ns, e => by cases e; rfl
  | .int i :: r, ns, e => by
    obtain ⟨s, e1, e2⟩ := Option.map_eq_some_iff.mp (show (intsOf r).map (fun s => i :: s) = some ns from e)
    subst e2
    rw [List.map_cons, ← intsOf_some e1]
theorem intsOf_map : ∀ ns : List Int, intsOf (ns.map PyData.int) = some ns
  | [] => rfl
  | n :: ns => by
    show (intsOf (ns.map PyData.int)).map (fun s => n :: s) = _
    rw [intsOf_map ns]; rfl
def boolsOf : List Da → Option (List Bool)
  | [] => some []
  | .bool i :: r => (boolsOf r).map fun s => i :: s
  | _ :: _ => none
theorem boolsOf_some : ∀ {ds : List Da} {ns : List Bool}, boolsOf ds = some ns → ds = ns.map PyData.bool
  | [], ns, e => by cases e; rfl
  | .bool i :: r, ns, e => by
    obtain ⟨s, e1, e2⟩ := Option.map_eq_some_iff.mp (show (boolsOf r).map (fun s => i :: s) = some ns from e)
    subst e2
    rw [List.map_cons, ← boolsOf_some e1]
/-- max, min: of two ints, of a list of ints -/
def maxL : List Int → Option Int
  | [] => none
  | [x] => some x
  | x :: y :: r => (maxL (y :: r)).map fun m => if m < x then x else m
def minL : List Int → Option Int
  | [] => none
  | [x] => some x
  | x :: y :: r => (minL (y :: r)).map fun m => if x < m then x else m
theorem maxL_is : ∀ {ns : List Int} {m : Int}, maxL ns = some m → m ∈ ns ∧ ∀ y ∈ ns, y ≤ m
  | [x], m, e => by cases e; simp
  | x :: y :: r, m, e => by
    obtain ⟨k, e1, e2⟩ := Option.map_eq_some_iff.mp (show (maxL (y :: r)).map _ = some m from e)
    obtain ⟨h1, h2⟩ := maxL_is e1
    subst e2
    split
    · refine ⟨List.mem_cons_self, fun z hz => ?_⟩
      rcases List.mem_cons.mp hz with q | q
      · omega
      · have := h2 z q; omega
    · refine ⟨List.mem_cons_of_mem _ h1, fun z hz => ?_⟩
      rcases List.mem_cons.mp hz with q | q
      · omega
      · exact h2 z q
theorem minL_is : ∀ {ns : List Int} {m : Int}, minL ns = some m → m ∈ ns ∧ ∀ y ∈ ns, m ≤ y
  | [x], m, e => by cases e; simp
  | x :: y :: r, m, e => by
    obtain ⟨k, e1, e2⟩ := Option.map_eq_some_iff.mp (show (minL (y :: r)).map _ = some m from e)
    obtain ⟨h1, h2⟩ := minL_is e1
    subst e2
    split
    · refine ⟨List.mem_cons_self, fun z hz => ?_⟩
      rcases List.mem_cons.mp hz with q | q
      · omega
      · have := h2 z q; omega
    · refine ⟨List.mem_cons_of_mem _ h1, fun z hz => ?_⟩
      rcases List.mem_cons.mp hz with q | q
      · omega
      · exact h2 z q
def dMax : List Da → Option Wv
  | [.int a, .int b] => some (.dat (.int (if b > a then b else a)))
  | [.list xs] => (intsOf xs).bind fun ns => (maxL ns).map fun m => .dat (.int m)
  | _ => none
def dMin : List Da → Option Wv
  | [.int a, .int b] => some (.dat (.int (if b < a then b else a)))
  | [.list xs] => (intsOf xs).bind fun ns => (minL ns).map fun m => .dat (.int m)
  | _ => none
theorem cd_max (hc : ∀ i, (F.X i).calm = true) : CallD F (.builtin "max") dMax := by
  intro ds w e
  unfold dMax at e
  split at e
  · rename_i a b
    cases e
    refine ⟨_, fun i => call_max2 (hc i), fun pr B Hf H g σ vs Q E h c => ?_⟩
    obtain ⟨v, u, rfl, l1, l2⟩ := h.two
    cases l1.int; cases l2.int
    exact ⟨a, b, rfl, c.dat E (.int _)⟩
  · rename_i xs
    obtain ⟨ns, e1, e⟩ := Option.bind_eq_some_iff.mp e
    obtain ⟨m, e2, e3⟩ := Option.map_eq_some_iff.mp e
    subst e3
    have e1 := intsOf_some e1
    subst e1
    obtain ⟨k1, k2⟩ := maxL_is e2
    refine ⟨rMax F.K, fun i => by have h := cr_max (hc i); rw [F.hK i] at h; exact h, fun pr B Hf H g σ vs Q E h c => ?_⟩
    obtain ⟨v, rfl, l⟩ := h.one
    obtain ⟨p, us, rfl, s, r⟩ := l.seqL E.ex
    have := r.ints
    subst this
    refine ⟨p, ns, rfl, s, ?_, fun z h1 h2 => ?_⟩
    · cases ns with
      | nil => cases e2
      | cons _ _ => simp
    · have e : z = m := Int.le_antisymm (k2 z h1) (h2 m k1)
      rw [e]; exact c.dat E (.int _)
  · cases e
theorem cd_min (hc : ∀ i, (F.X i).calm = true) : CallD F (.builtin "min") dMin := by
  intro ds w e
  unfold dMin at e
  split at e
  · rename_i a b
    cases e
    refine ⟨_, fun i => call_min2 (hc i), fun pr B Hf H g σ vs Q E h c => ?_⟩
    obtain ⟨v, u, rfl, l1, l2⟩ := h.two
    cases l1.int; cases l2.int
    exact ⟨a, b, rfl, c.dat E (.int _)⟩
  · rename_i xs
    obtain ⟨ns, e1, e⟩ := Option.bind_eq_some_iff.mp e
    obtain ⟨m, e2, e3⟩ := Option.map_eq_some_iff.mp e
    subst e3
    have e1 := intsOf_some e1
    subst e1
    obtain ⟨k1, k2⟩ := minL_is e2
    refine ⟨rMin F.K, fun i => by have h := cr_min (hc i); rw [F.hK i] at h; exact h, fun pr B Hf H g σ vs Q E h c => ?_⟩
    obtain ⟨v, rfl, l⟩ := h.one
    obtain ⟨p, us, rfl, s, r⟩ := l.seqL E.ex
    have := r.ints
    subst this
    refine ⟨p, ns, rfl, s, ?_, fun z h1 h2 => ?_⟩
    · cases ns with
      | nil => cases e2
      | cons _ _ => simp
    · have e : z = m := Int.le_antisymm (h2 m k1) (k2 z h1)
      rw [e]; exact c.dat E (.int _)
  · cases e
def dAll : List Da → Option Wv
  | [.list xs] => (boolsOf xs).map fun ns => .dat (.bool (ns.all id))
  | _ => none
theorem cd_all (hc : ∀ i, (F.X i).calm = true) : CallD F (.builtin "all") dAll := by
  intro ds w e
  unfold dAll at e
  split at e
  · rename_i xs
    obtain ⟨ns, e1, e3⟩ := Option.map_eq_some_iff.mp e
    subst e3
    have e1 := boolsOf_some e1
    subst e1
    refine ⟨rAll F.K, fun i => by have h := cr_all (hc i); rw [F.hK i] at h; exact h, fun pr B Hf H g σ vs Q E h c => ?_⟩
    obtain ⟨v, rfl, l⟩ := h.one
    obtain ⟨p, us, rfl, s, r⟩ := l.seqL E.ex
    have := r.bools
    subst this
    exact ⟨p, ns, rfl, s, c.dat E (.bl _)⟩
  · cases e
def dTuple : List Da → Option Wv
  | [.list xs] => some (.dat (.tuple xs))
  | [.tuple xs] => some (.dat (.tuple xs))
  | _ => none
def dList : List Da → Option Wv
  | [.list xs] => some (.fresh xs)
  | [.tuple xs] => some (.fresh xs)
  | _ => none
theorem cd_tuple : CallD F (.type "tuple") dTuple := by
  intro ds w e
  have hr : ∀ i, CallR (F.X i) (.type "tuple") (fun xs H Q => ∃ p ys, xs = [.ref p] ∧ ((SqL F.K H p ys ∧ ∀ l, H l = none → Q (.ref l) (upd H l (.tup ys))) ∨ (SqT F.K H p ys ∧ Q (.ref p) H))) := fun i => by have h := @call_tuple_of (F.X i); rw [F.hK i] at h; exact h
  unfold dTuple at e
  split at e
  · rename_i xs
    cases e
    refine ⟨_, hr, fun pr B Hf H g σ vs Q E h c => ?_⟩
    obtain ⟨v, rfl, l⟩ := h.one
    obtain ⟨p, us, rfl, s, r⟩ := l.seqL E.ex
    exact ⟨p, us, rfl, .inl ⟨s, fun l hl => c.newT E r hl⟩⟩
  · rename_i xs
    cases e
    refine ⟨_, hr, fun pr B Hf H g σ vs Q E h c => ?_⟩
    obtain ⟨v, rfl, l⟩ := h.one
    obtain ⟨p, us, rfl, s, r⟩ := l.seqT E.ex
    rcases l.2 with z | ⟨_, _, _, _, z, _⟩
    · exact ⟨p, us, rfl, .inr ⟨s, c.dat E z⟩⟩
    · cases z
  · cases e
theorem cd_list : CallD F (.type "list") dList := by
  intro ds w e
  have hr : ∀ i, CallR (F.X i) (.type "list") (fun xs H Q => ∃ p ys, xs = [.ref p] ∧ (SqL F.K H p ys ∨ SqT F.K H p ys) ∧ ∀ l, H l = none → Q (.ref l) (upd H l (.lst ys))) := fun i => by have h := @call_list_of (F.X i); rw [F.hK i] at h; exact h
  unfold dList at e
  split at e
  · rename_i xs
    cases e
    refine ⟨_, hr, fun pr B Hf H g σ vs Q E h c => ?_⟩
    obtain ⟨v, rfl, l⟩ := h.one
    obtain ⟨p, us, rfl, s, r⟩ := l.seqL E.ex
    exact ⟨p, us, rfl, .inl s, fun l hl => c.newL E r hl⟩
  · rename_i xs
    cases e
    refine ⟨_, hr, fun pr B Hf H g σ vs Q E h c => ?_⟩
    obtain ⟨v, rfl, l⟩ := h.one
    obtain ⟨p, us, rfl, s, r⟩ := l.seqT E.ex
    exact ⟨p, us, rfl, .inr s, fun l hl => c.newL E r hl⟩
  · cases e
/-- isinstance(e, T), T a built-in class -/
def tyName : Da → String
  | .none => "NoneType" | .bool _ => "bool" | .int _ => "int" | .str _ => "str" | .list _ => "list" | .tuple _ => "tuple" | .dict _ => "dict"
theorem tyx_rep {v : V} {d : Da} (h : Rep K H v d) : TyX K H v (.type (tyName d)) := by
  cases h with
  | non => exact .base .non
  | bl b => exact .base (.bl b)
  | int i => exact .base (.int i)
  | str x => exact .base (.str x)
  | lst q r =>
    rcases q with (q | ⟨o, q⟩) | ⟨o, its, n, q, c, _⟩
    · exact .base (.lst q)
    · exact .base (.frz q)
    · exact .kList q c
  | tup q r =>
    rcases q with (q | ⟨o, q⟩) | ⟨o, its, n, q, c, _⟩
    · exact .base (.tup q)
    · exact .fTuple q
    · exact .kTuple q c
  | dk q r => exact .fDict q
def mIsi (T : String) (f : ME) : ME := fun g => (f g).bind fun a => (look a.1 a.2).bind fun x => (kitB (tyName x) T).bind fun b => some (.dat (.bool b), a.2)
theorem ev_isi {T : String} {x : Str} {e : Expr} {f : ME} {p p2 pos : Pos} (h : Ev F pr e f) (hm : ∀ i, (F.X i).mg "isinstance" = none) (hmT : ∀ i, (F.X i).mg x = none) (hg : ∀ i, Gl (F.X i) "isinstance" := by intro _; rfl) (hgT : ∀ i, Gl (F.X i) x := by intro _; rfl)
    (hvT : bootBuiltins x = some (.type T) := by decide +kernel) (hn : x ≠ "__name__" := by decide) (hd : (x == ("__debug__" : Str)) = false := by decide)
    (hv : bootBuiltins "isinstance" = some (.builtin "isinstance") := by decide +kernel)
    (he : ∀ i, starEach (e :: [.Name x p2]) (F.X i).env = (false, eval e (F.X i).env) :: starEach [.Name x p2] (F.X i).env := by intro _; rfl) (he2 : ∀ i, starEach [.Name x p2] (F.X i).env = (false, eval (.Name x p2) (F.X i).env) :: starEach [] (F.X i).env := by intro _; rfl) (hpl : ∀ i, (backTo pos (starEach [.Name x p2] (F.X i).env)).any (·.1) = false := by intro _; rfl) :
    Ev F pr (.Call (.Name "isinstance" p) [e, .Name x p2] [] pos) (mIsi T f) := by
  intro B Hf H g σ w g' Q E eq q
  obtain ⟨⟨wa, g1⟩, e1, eq⟩ := Option.bind_eq_some_iff.mp eq
  obtain ⟨d, e2, eq⟩ := Option.bind_eq_some_iff.mp eq
  obtain ⟨b, e3, eq⟩ := Option.bind_eq_some_iff.mp eq
  cases eq
  refine ⟨tCB (rIsi F.K) (tCons (U F e) (tCons (tC (.ty T)) tNil)), fun i => pe_callB (by have h := @call_isi (F.X i); rw [F.hK i] at h; exact h) (hg i) (hm i) hv (pa_cons (pe_U i) (pa_cons (pe_bltn (hgT i) (hmT i) hvT rfl hn hd) pa_nil (he2 i)) (he i)) (by decide) (by decide) (he i) (hpl i), ?_⟩
  refine h B Hf H g σ wa _ _ E e1 fun v Hf1 H1 s1 w1 y1 => ?_
  have l := look_ok s1.env w1 e2
  exact ⟨v, .ty T, _, _, b, rfl, .ty T, tyx_rep l.1, kit_ty e3, q _ Hf1 H1 s1 (.bl b) (fun _ z => nomatch z)⟩
/-- repr of what is flat -/
def dRepr : List Da → Option Wv
  | [.bool b] => some (.dat (.str (if b then "True" else "False")))
  | [.none] => some (.dat (.str "None"))
  | [.int i] => if i.natAbs.log2 < 1920 then some (.dat (.str (toString i))) else none
  | _ => none
theorem pe_lockBehind {X : Cx} {e : Expr} {t : TE} (h : PE X e t) : PE X e (fun σ H Q => t σ H fun v H1 => ∃ d u, H1 d = some u ∧ Mut (some u) ∧ ∀ od, Q v (upd H1 d (.frz od u))) := by
  refine ⟨fun pins s σ H Q I hw => ?_⟩
  refine thn (h.run pins s σ H _ I hw) fun v s1 ⟨x, H1, I1, r, d, u, hd, mu, q⟩ => ?_
  obtain ⟨od, I2⟩ := I1.lock hd mu
  exact ⟨x, _, I2, r, q od⟩
/-- {} -/
theorem ev_dict0 {pos : Pos} : Ev F pr (.Dict [] [] pos) mDict0 := by
  intro B Hf H g σ w g' Q E eq q
  cases eq
  refine ⟨_, fun i => pe_lockBehind pe_dnewK, fun p hp => ⟨p, _, upd_same, True.intro, fun od => ?_⟩⟩
  have hf := E.frz hp
  rw [upd_upd]
  exact q _ (upd Hf p (.frz od (.dK []))) (upd H p (.frz od (.dK []))) ⟨Tr.new hf hp, E.new hp, fun _ h => h⟩ (.dk (kvs := []) (ds := []) upd_same .nil) (fun _ z => nomatch z)
end
end EV
end
section
set_option maxHeartbeats 2000000
set_option autoImplicit false
namespace EV
open PySem PySem.Spec PyProof.Rows L2
section
variable {F : Fam} {pr : List Nat} {B : Addr → Prop} {Hf H Hf' H' Hf1 H1 Hf2 H2 : Hp} {g g' g1 g2 : Gh} {σ σ' σ1 σ2 : L2.St} {K : Frag}
/-! ### targets -/
structure GStp (K : Frag) (pr : List Nat) (B : Addr → Prop) (vs : List Nat) (w : Wv) (v : V) (Hf H : Hp) (g : Gh) (σ : L2.St) (Hf' H' : Hp) (g' : Gh) (σ' : L2.St) : Prop where
  tr : Tr (Own g σ) Hf H Hf' H'
  env : En K pr B Hf' H' g' σ'
  sub : ∀ p, Own g' σ' p → Own g σ p ∨ ((∃ ds, w = .fresh ds) ∧ v = .ref p)
  prk : ∀ i ∈ pr, σ'[i]? = σ[i]?
  oth : ∀ i, i ∉ vs → σ'[i]? = σ[i]?
  slen : σ'.length = σ.length
def EvG (F : Fam) (pr : List Nat) (vs : List Nat) (tg : Expr) (m : Wv → Gh → Option Gh) : Prop := ∀ (B : Addr → Prop) (Hf H : Hp) (g : Gh) (σ : L2.St) (w : Wv) (v : V) (g' : Gh) (Q : L2.St → Hp → Prop), En F.K pr B Hf H g σ → WOk F.K B Hf H g σ w v → m w g = some g' →
  (∀ σ' Hf' H', GStp F.K pr B vs w v Hf H g σ Hf' H' g' σ' → Q σ' H') → UG F tg v σ H Q
theorem own_storeS {i : Nat} {s : Sl} {v : V} {p : Addr} (h : Own (g.set i s) (σ.set i (some v)) p) (ni : s.inn = []) : Own g σ p ∨ (s.ow = true ∧ v = .ref p) := by
  obtain ⟨j, t, e1, o, e2⟩ := h
  rcases get_set e1 with ⟨rfl, rfl⟩ | ⟨n, e1⟩
  · rcases get_set (e2.eq ni) with ⟨_, z2⟩ | ⟨n, _⟩
    · cases z2; exact .inr ⟨o, rfl⟩
    · exact absurd rfl n
  · rw [List.getElem?_set_ne (Ne.symm n)] at e2
    exact .inl ⟨j, t, e1, o, e2⟩
theorem own_store {i : Nat} {s : Sl} {v : V} {p : Addr} (h : Own (g.set i s) (σ.set i (some v)) p) (nd : ∀ t es, s ≠ .dic t es := by intro _ _ z; cases z) (nt : ∀ t es, s ≠ .tab t es := by intro _ _ z; cases z) (ng : ∀ t es, s ≠ .grp t es := by intro _ _ z; cases z) : Own g σ p ∨ (∃ ds, s = .own ds ∧ v = .ref p) := by
  rcases own_storeS h (by cases s <;> first | rfl | exact absurd rfl (nt _ _) | exact absurd rfl (ng _ _)) with z | ⟨o, z⟩
  · exact .inl z
  · refine .inr ?_
    cases s with
    | own ds => exact ⟨ds, rfl, z⟩
    | dic t es => exact absurd rfl (nd t es)
    | tab t es => exact absurd rfl (nt t es)
    | grp t es => exact absurd rfl (ng t es)
    | un => cases o
    | val d => cases o
    | raw w => cases o
    | x d => cases o
    | rg a b => cases o
theorem En.storeT (E : En K pr B Hf H g σ) {i : Nat} {s : Sl} {v : V} (hi : i < g.length) (hs : SlotOk K Hf H s v) (ho : s.ow = true → ∀ p, At s (some (some v)) p → ¬ Own g σ p ∧ B p) (hp : s.inn = [] ∨ i ∉ pr) : En K pr B Hf H (g.set i s) (σ.set i (some v)) where
  ex := E.ex
  len := by rw [List.length_set, List.length_set]; exact E.len
  ok := fun j t e n => by
    rcases get_set e with ⟨rfl, rfl⟩ | ⟨ne, e⟩
    · exact ⟨v, List.getElem?_set_self (by rw [← E.len]; exact hi), hs⟩
    · obtain ⟨u, e1, h1⟩ := E.ok j t e n
      exact ⟨u, by rw [List.getElem?_set_ne (Ne.symm ne)]; exact e1, h1⟩
  dis := fun a b s1 t1 p h1 o1 h2 o2 e1 e2 => by
    have sv : (σ.set i (some v))[i]? = some (some v) := List.getElem?_set_self (by rw [← E.len]; exact hi)
    rcases get_set h1 with ⟨rfl, rfl⟩ | ⟨na, h1'⟩
    · rcases get_set h2 with ⟨rfl, _⟩ | ⟨nb, h2'⟩
      · rfl
      · rw [List.getElem?_set_ne (Ne.symm nb)] at e2
        rw [sv] at e1
        exact absurd ⟨b, t1, h2', o2, e2⟩ (ho o1 p e1).1
    · rcases get_set h2 with ⟨rfl, rfl⟩ | ⟨nb, h2'⟩
      · rw [List.getElem?_set_ne (Ne.symm na)] at e1
        rw [sv] at e2
        exact absurd ⟨a, s1, h1', o1, e1⟩ (ho o2 p e2).1
      · rw [List.getElem?_set_ne (Ne.symm na)] at e1
        rw [List.getElem?_set_ne (Ne.symm nb)] at e2
        exact E.dis a b s1 t1 p h1' o1 h2' o2 e1 e2
  nb := E.nb
  ob := fun a s1 p h1 o1 e1 => by
    rcases get_set h1 with ⟨rfl, rfl⟩ | ⟨na, h1'⟩
    · rcases get_set e1 with ⟨_, z1⟩ | ⟨n, _⟩
      · cases z1; exact .inr (ho o1 p (.inl rfl)).2
      · exact absurd rfl n
    · rw [List.getElem?_set_ne (Ne.symm na)] at e1
      exact E.ob a s1 p h1' o1 e1
  obi := fun a s1 p h1 hm => by
    rcases get_set h1 with ⟨rfl, rfl⟩ | ⟨na, h1'⟩
    · refine ⟨(ho (inn_ow hm) p (.inr hm)).2, ?_⟩
      rcases hp with z | z
      · rw [z] at hm; cases hm
      · exact z
    · exact E.obi a s1 p h1' hm
theorem En.storeS (E : En K pr B Hf H g σ) {i : Nat} {s : Sl} {v : V} (hi : i < g.length) (hs : SlotOk K Hf H s v) (ho : s.ow = true → ∀ p, v = .ref p → ¬ Own g σ p ∧ B p) (ni : s.inn = []) : En K pr B Hf H (g.set i s) (σ.set i (some v)) :=
  E.storeT hi hs (fun o p z => ho o p (by cases z.eq ni; rfl)) (.inl ni)
theorem En.store (E : En K pr B Hf H g σ) {i : Nat} {s : Sl} {v : V} (hi : i < g.length) (hs : SlotOk K Hf H s v) (ho : ∀ ds, s = .own ds → ∀ p, v = .ref p → ¬ Own g σ p ∧ B p) (nd : ∀ t es, s ≠ .dic t es := by intro _ _ z; cases z) (nt : ∀ t es, s ≠ .tab t es := by intro _ _ z; cases z) (ng : ∀ t es, s ≠ .grp t es := by intro _ _ z; cases z) : En K pr B Hf H (g.set i s) (σ.set i (some v)) :=
  E.storeS hi hs (fun o p => by
    cases s with
    | own ds => exact ho ds rfl p
    | dic t es => exact absurd rfl (nd t es)
    | tab t es => exact absurd rfl (nt t es)
    | grp t es => exact absurd rfl (ng t es)
    | un => cases o
    | val d => cases o
    | raw w => cases o
    | x d => cases o
    | rg a b => cases o) (by cases s <;> first | rfl | exact absurd rfl (nt _ _) | exact absurd rfl (ng _ _))
def setN (i : Nat) (w : Wv) (g : Gh) : Option Gh := if i < g.length then (match w with
  | .dat d => some (g.set i (.val d))
  | .fresh ds => some (g.set i (.own ds))
  | .raw v => some (g.set i (.raw v))
  | .x d => some (g.set i (.x d))
  | .slot j => (toD (.slot j) g).map fun r => r.2.set i (.val r.1)) else none
theorem toD_len : ∀ {w : Wv} {d : Da}, toD w g = some (d, g') → g'.length = g.length
  | .dat _, _, e => by cases e; rfl
  | .fresh _, _, e => by cases e; rfl
  | .raw _, _, e => by cases e
  | .x _, _, e => by cases e
  | .slot i, d, e => by
    unfold toD at e
    dsimp only at e
    split at e
    · cases e; rw [List.length_set]
    · cases e; rfl
    · cases e
theorem setN_ok {i : Nat} {w : Wv} {v : V} (E : En K pr B Hf H g σ) (h : WOk K B Hf H g σ w v) (e : setN i w g = some g') (hp : i ∉ pr) : ∃ Hf', GStp K pr B [i] w v Hf H g σ Hf' H g' (σ.set i (some v)) := by
  unfold setN at e
  split at e
  · rename_i hi
    have prk : ∀ j ∈ pr, (σ.set i (some v))[j]? = σ[j]? := fun j hj => List.getElem?_set_ne (fun z => by subst z; exact hp hj)
    have oth : ∀ j, j ∉ [i] → (σ.set i (some v))[j]? = σ[j]? := fun j hj => List.getElem?_set_ne (fun z => hj (by simp [z]))
    cases w with
    | dat d =>
      cases e
      refine ⟨Hf, Tr.refl, E.store hi h (fun _ z => nomatch z), fun p z => ?_, prk, oth, List.length_set⟩
      rcases own_store z with z | ⟨_, z, _⟩
      · exact .inl z
      · cases z
    | fresh ds =>
      cases e
      obtain ⟨p, us, rfl, hb, hf, hq, r, n⟩ := h
      refine ⟨Hf, Tr.refl, E.store hi ⟨p, us, rfl, hf, hq, r⟩ (fun _ _ q z => by cases z; exact ⟨n, hb⟩), fun q z => ?_, prk, oth, List.length_set⟩
      rcases own_store z with z | ⟨_, z, z2⟩
      · exact .inl z
      · exact .inr ⟨⟨ds, rfl⟩, z2⟩
    | raw x =>
      cases e
      refine ⟨Hf, Tr.refl, E.store hi h (fun _ z => nomatch z), fun p z => ?_, prk, oth, List.length_set⟩
      rcases own_store z with z | ⟨_, z, _⟩
      · exact .inl z
      · cases z
    | x d =>
      cases e
      refine ⟨Hf, Tr.refl, E.store hi h (fun _ z => nomatch z), fun p z => ?_, prk, oth, List.length_set⟩
      rcases own_store z with z | ⟨_, z, _⟩
      · exact .inl z
      · cases z
    | slot j =>
      obtain ⟨⟨d, g1⟩, e1, e2⟩ := Option.map_eq_some_iff.mp e
      subst e2
      obtain ⟨Hf', E', r, ex, s, k⟩ := toD_ok E h e1
      refine ⟨Hf', ⟨ex, fun p o hp no => ⟨hp, ?_⟩, fun _ h => h⟩, E'.store (by rw [toD_len e1]; exact hi) r (fun _ z => nomatch z), fun p z => ?_, prk, oth, List.length_set⟩
      · rcases k p o hp no with z | ⟨⟨_, z⟩, _⟩
        · exact z
        · cases z
      · rcases own_store z with z | ⟨_, z, _⟩
        · exact .inl (s p z)
        · cases z
  · cases e
theorem eg_name (i : Nat) {x : Str} {pos : Pos} (hN : ∀ j, (F.X j).N.Nodup) (hi : ∀ j, (F.X j).N[i]? = some x := by intro _; rfl) (hx : ∀ j, Loc (F.X j).env.scope x := by intro _; first | exact Or.inl rfl | exact Or.inr rfl)
    (hf : ∀ j, (F.X j).fn x = true ∨ (F.X j).env.scope.names.lookup x = some .local := by intro _; first | exact .inl rfl | exact .inr rfl) (hp : i ∉ pr := by decide) : EvG F pr [i] (.Name x pos) (setN i) := by
  intro B Hf H g σ w v g' Q E h e q
  obtain ⟨Hf', s⟩ := setN_ok E h e hp
  exact ⟨gName i, fun j => pg_name (hN j) (hi j) (hx j) (hf j), q _ Hf' H s⟩
/-- names, from the left -/
def gNames : List Nat → TGs
  | [] => gNil
  | i :: is => gCons (gName i) (gNames is)
def slOf : Wv → Option Sl
  | .dat d => some (.val d)
  | .fresh ds => some (.own ds)
  | .raw v => some (.raw v)
  | .x d => some (.x d)
  | .slot _ => none
def setNs : List Nat → List Wv → Gh → Option Gh
  | [], [], g => some g
  | i :: is, w :: ws, g => (slOf w).bind fun s => if i < g.length then setNs is ws (g.set i s) else none
  | _, _, _ => none
theorem slOf_store {i : Nat} {w : Wv} {v : V} {s : Sl} (E : En K pr B Hf H g σ) (h : WOk K B Hf H g σ w v) (e : slOf w = some s) (hi : i < g.length) : En K pr B Hf H (g.set i s) (σ.set i (some v)) ∧ ∀ p, Own (g.set i s) (σ.set i (some v)) p → Own g σ p ∨ ((∃ ds, w = .fresh ds) ∧ v = .ref p) := by
  cases w with
  | dat d =>
    cases e
    refine ⟨E.store hi h (fun _ z => nomatch z), fun p z => ?_⟩
    rcases own_store z with z | ⟨_, z, _⟩
    · exact .inl z
    · cases z
  | fresh ds =>
    cases e
    obtain ⟨p, us, rfl, hb, hf, hq, r, n⟩ := h
    refine ⟨E.store hi ⟨p, us, rfl, hf, hq, r⟩ (fun _ _ q z => by cases z; exact ⟨n, hb⟩), fun q z => ?_⟩
    rcases own_store z with z | ⟨_, z, z2⟩
    · exact .inl z
    · exact .inr ⟨⟨ds, rfl⟩, z2⟩
  | raw x =>
    cases e
    refine ⟨E.store hi h (fun _ z => nomatch z), fun p z => ?_⟩
    rcases own_store z with z | ⟨_, z, _⟩
    · exact .inl z
    · cases z
  | x d =>
    cases e
    refine ⟨E.store hi h (fun _ z => nomatch z), fun p z => ?_⟩
    rcases own_store z with z | ⟨_, z, _⟩
    · exact .inl z
    · cases z
  | slot j => cases e
theorem WOk.by_own {w : Wv} {v : V} (h : WOk K B Hf H g σ w v) (e : (slOf w).isSome = true) (o : ∀ ds p, w = .fresh ds → v = .ref p → Own g1 σ1 p → Own g σ p) : WOk K B Hf H g1 σ1 w v := by
  cases w with
  | dat d => exact h
  | fresh ds =>
    obtain ⟨p, us, rfl, hb, hf, hq, r, n⟩ := h
    exact ⟨p, us, rfl, hb, hf, hq, r, fun z => n (o ds p rfl rfl z)⟩
  | raw x => exact h
  | x d => exact h
  | slot j => cases e
theorem setNs_all : ∀ {is : List Nat} {ws : List Wv} {g g' : Gh}, setNs is ws g = some g' → ∀ w ∈ ws, (slOf w).isSome = true
  | [], [], _, _, _, _, h => by cases h
  | i :: is, w :: ws, g, g', e, u, h => by
    obtain ⟨s, e1, e⟩ := Option.bind_eq_some_iff.mp (show ((slOf w).bind fun s => if i < g.length then setNs is ws (g.set i s) else none) = some g' from e)
    split at e
    · rcases List.mem_cons.mp h with q | q
      · subst q; rw [e1]; rfl
      · exact setNs_all e u q
    · cases e
theorem WAll.by_own {w : Wv} {v : V} (o : ∀ p, Own g1 σ1 p → Own g σ p ∨ ((∃ ds, w = .fresh ds) ∧ v = .ref p)) : ∀ {ws : List Wv} {us : List V}, WAll K B Hf H g σ ws us → Apart w v ws us → (∀ w ∈ ws, (slOf w).isSome = true) → WAll K B Hf H g1 σ1 ws us
  | _, _, .nil, _, _ => .nil
  | _, _, .cons a b c, ap, n => by
    refine .cons (a.by_own (n _ List.mem_cons_self) fun ds p e1 e2 z => ?_) b (WAll.by_own o c (fun ds p e1 e2 i es h1 h2 => ap ds p e1 e2 (i + 1) es (by simpa using h1) (by simpa using h2)) fun w h => n w (List.mem_cons_of_mem _ h))
    rcases o p z with z | ⟨⟨es, z⟩, z2⟩
    · exact z
    · exact (ap es p z z2 0 ds (by simp [e1]) (by simp [e2])).elim
theorem setNs_ok : ∀ {is : List Nat} {ws : List Wv} {us : List V} {g g' : Gh} {σ : L2.St} {D : L2.St → Hp → Prop}, En K pr B Hf H g σ → WAll K B Hf H g σ ws us → setNs is ws g = some g' → (∀ i ∈ is, i ∉ pr) →
    (∀ σ', En K pr B Hf H g' σ' → (∀ p, Own g' σ' p → Own g σ p ∨ ∃ (i : Nat) (ds : List Da), ws[i]? = some (.fresh ds) ∧ us[i]? = some (.ref p)) → (∀ i ∈ pr, σ'[i]? = σ[i]?) → (∀ i, i ∉ is → σ'[i]? = σ[i]?) → σ'.length = σ.length → D σ' H) → gNames is us σ H D
  | [], _, _, g, g', σ, D, E, .nil, e, hp, k => by
    cases e
    exact ⟨rfl, k σ E (fun _ h => .inl h) (fun _ _ => rfl) (fun _ _ => rfl) rfl⟩
  | [], _, _, _, _, _, _, _, .cons _ _ _, e, _, _ => nomatch e
  | i :: is, _, _, g, g', σ, D, E, @WAll.cons _ _ _ _ _ _ w v ws us a b c, e, hp, k => by
    have all := setNs_all e
    obtain ⟨s, e1, e⟩ := Option.bind_eq_some_iff.mp (show ((slOf w).bind fun s => if i < g.length then setNs is ws (g.set i s) else none) = some g' from e)
    split at e
    · rename_i hi
      obtain ⟨E1, o1⟩ := slOf_store E a e1 hi
      have hip : i ∉ pr := hp i List.mem_cons_self
      refine ⟨v, us, rfl, setNs_ok E1 (WAll.by_own o1 c b fun w h => all w (List.mem_cons_of_mem _ h)) e (fun j hj => hp j (List.mem_cons_of_mem _ hj)) fun σ' E' o2 p2 t2 l2 => ?_⟩
      refine k σ' E' (fun p hq => ?_) (fun j hj => (p2 j hj).trans (List.getElem?_set_ne fun z => by subst z; exact hip hj)) (fun j hj => (t2 j fun z => hj (List.mem_cons_of_mem _ z)).trans (List.getElem?_set_ne fun z => by subst z; exact hj List.mem_cons_self)) (l2.trans List.length_set)
      rcases o2 p hq with z | ⟨j, ds, z, z2⟩
      · rcases o1 p z with z | ⟨⟨ds, z⟩, z2⟩
        · exact .inl z
        · exact .inr ⟨0, ds, by simp [z], by simp [z2]⟩
      · exact .inr ⟨j + 1, ds, by simpa using z, by simpa using z2⟩
    · cases e
  | _ :: _, _, _, _, _, _, _, _, .nil, e, _, _ => by cases e
/-- (a, b, ..), a tuple of data -/
def setT (is : List Nat) : Wv → Gh → Option Gh
  | .dat (.tuple ds), g => if ds.length = is.length then setNs is (ds.map Wv.dat) g else none
  | _, _ => none
theorem wall_dats : ∀ {us : List V} {ds : List Da}, RepAll K Hf us ds → WAll K B Hf H g σ (ds.map Wv.dat) us
  | _, _, .nil => .nil
  | _, _, .cons a b => .cons a (fun _ _ z => nomatch z) (wall_dats b)
theorem eg_tup (is : List Nat) {es : List Expr} {k : Nat} {pos : Pos} (hc : ∀ i, (F.X i).calm = true) (h : ∀ i, PGs (F.X i) es (gNames is)) (hn : ∀ i, (assignEach es (F.X i).env).length = is.length := by intro _; rfl)
    (hst : ∀ i, (assignEach es (F.X i).env).findIdx? (·.1) = none := by intro _; rfl) (hp : ∀ i ∈ is, i ∉ pr := by decide) : EvG F pr is (.Tuple es k pos) (setT is) := by
  intro B Hf H g σ w v g' Q E h1 e q
  unfold setT at e
  split at e
  · rename_i ds
    split at e
    · rename_i hl
      have h1 : Rep F.K Hf v (.tuple ds) := h1
      cases h1 with
      | @tup a xs _ sq r =>
        refine ⟨gTup F.K is.length (gNames is), fun i => by have z := pg_tup (hc i) (h i) (hn i) (hst i) (k := k) (pos := pos); rw [F.hK i] at z; exact z, a, xs, rfl, Evl.ex_t E.ex sq, r.length.trans hl, ?_⟩
        refine setNs_ok E (wall_dats r) e hp fun σ' E' o p2 t2 l2 => q σ' Hf H ⟨Tr.refl, E', fun p hq => ?_, p2, t2, l2⟩
        rcases o p hq with z | ⟨j, es, z, _⟩
        · exact .inl z
        · rw [List.getElem?_map] at z
          cases q2 : ds[j]? with
          | none => rw [q2] at z; cases z
          | some d => rw [q2] at z; cases z
    · cases e
  · cases e
end
end EV
end
section
set_option maxHeartbeats 2000000
set_option autoImplicit false
namespace EV
open PySem PySem.Spec PyProof.Rows L2
section
variable {F : Fam} {pr : List Nat} {B : Addr → Prop} {Hf H Hf' H' Hf1 H1 Hf2 H2 : Hp} {g g' g1 g2 : Gh} {σ σ' σ1 σ2 : L2.St} {K : Frag}
/-! ### what is walked -/
theorem walkd_list {a : Addr} {xs : List V} {ds : List Da} (sq : SqL K Hf a xs) (r : RepAll K Hf xs ds) : WalkD K (Itl K a) Hf ds := by
  intro Hf1 H1 e1 e2
  have s1 : SqL K H1 a xs := Evl.ex_l (e1.trans e2) sq
  refine ⟨fun i hi => ⟨xs, xs[i]'(by rw [r.length]; exact hi), s1, by simp [r.length, hi]⟩, ⟨xs, s1, by rw [r.length]; exact Nat.le_refl _⟩, fun i d x H2 hd y => ?_⟩
  obtain ⟨rfl, y⟩ := y
  obtain ⟨v, hv, rv⟩ := r.get hd
  have := y xs s1
  rw [hv] at this; cases this
  exact ⟨Hf1, Tr.refl, fun _ _ _ _ E => E, rv.mono e1⟩
theorem walkd_tup {a : Addr} {xs : List V} {ds : List Da} (sq : SqT K Hf a xs) (r : RepAll K Hf xs ds) : WalkD K (Itt K a) Hf ds := by
  intro Hf1 H1 e1 e2
  have s1 : SqT K H1 a xs := Evl.ex_t (e1.trans e2) sq
  refine ⟨fun i hi => ⟨xs, xs[i]'(by rw [r.length]; exact hi), s1, by simp [r.length, hi]⟩, ⟨xs, s1, by rw [r.length]; exact Nat.le_refl _⟩, fun i d x H2 hd y => ?_⟩
  obtain ⟨rfl, y⟩ := y
  obtain ⟨v, hv, rv⟩ := r.get hd
  have := y xs s1
  rw [hv] at this; cases this
  exact ⟨Hf1, Tr.refl, fun _ _ _ _ E => E, rv.mono e1⟩
def mIt (f : ME) : MI := fun g => (f g).bind fun a => (toD a.1 a.2).bind fun r => (itemsD r.1).bind fun ds => some (ds, r.2)
theorem ei_val {tg e : Expr} {f : ME} (h : Ev F pr e f) : EvI F pr tg e (mIt f) := by
  intro B Hf H g σ ds g' R E eq q
  obtain ⟨⟨wa, g1⟩, e1, eq⟩ := Option.bind_eq_some_iff.mp eq
  obtain ⟨⟨d, g2⟩, e2, eq⟩ := Option.bind_eq_some_iff.mp eq
  obtain ⟨ds', e3, eq⟩ := Option.bind_eq_some_iff.mp eq
  cases eq
  cases d with
  | list xs =>
    cases e3
    refine ⟨iList F.K (U F e), fun i => by have z := pi_list (tg := tg) (pe_U (F := F) (e := e) i); rw [F.hK i] at z; exact z, ?_⟩
    refine h B Hf H g σ wa g1 _ E e1 fun v Hf1 H1 s1 w1 y1 => ?_
    obtain ⟨Hf2, s2, r⟩ := s1.toD y1 w1 e2
    cases r with
    | lst sq r => exact ⟨_, rfl, ⟨_, Evl.ex_l s2.env.ex sq⟩, q _ Hf2 H1 s2 (walkd_list sq r)⟩
  | tuple xs =>
    cases e3
    refine ⟨iTup F.K (U F e), fun i => by have z := pi_tup (tg := tg) (pe_U (F := F) (e := e) i); rw [F.hK i] at z; exact z, ?_⟩
    refine h B Hf H g σ wa g1 _ E e1 fun v Hf1 H1 s1 w1 y1 => ?_
    obtain ⟨Hf2, s2, r⟩ := s1.toD y1 w1 e2
    cases r with
    | tup sq r => exact ⟨_, rfl, ⟨_, Evl.ex_t s2.env.ex sq⟩, q _ Hf2 H1 s2 (walkd_tup sq r)⟩
  | _ => cases e3
def rgD (lo hi : Int) : List Da := (List.range (hi - lo).toNat).map fun k => .int (lo + (k : Nat))
theorem walkd_range {lo : Int} {n : Nat} : WalkD K (Itr lo n) Hf ((List.range n).map fun (k : Nat) => PyData.int (lo + k)) := by
  intro Hf1 H1 e1 e2
  refine ⟨fun i hi => by show i < n; simpa using hi, by show n ≤ _; simp, fun i d x H2 hd y => ?_⟩
  obtain ⟨rfl, rfl⟩ := y
  rw [List.getElem?_map] at hd
  by_cases hi : i < n
  · rw [List.getElem?_range hi] at hd
    cases hd
    exact ⟨Hf1, Tr.refl, fun _ _ _ _ E => E, .int _⟩
  · rw [List.getElem?_eq_none (by simpa using hi)] at hd; cases hd
def okRg (i : Int) : Bool := decide (-(2 ^ 62) ≤ i) && decide (i < 2 ^ 62)
theorem okRg_of {i : Int} (h : okRg i = true) : -(2 ^ 62) ≤ i ∧ i < 2 ^ 62 := by
  unfold okRg at h
  rw [Bool.and_eq_true] at h
  exact ⟨of_decide_eq_true h.1, of_decide_eq_true h.2⟩
def mRg1 (fa : MA) : MI := fun g => (fa g).bind fun a => (lookAll a.1 a.2).bind fun ds => match ds with
  | [.int j] => if okRg j = true then some (rgD 0 j, a.2) else none
  | _ => none
def mRg2 (fa : MA) : MI := fun g => (fa g).bind fun a => (lookAll a.1 a.2).bind fun ds => match ds with
  | [.int i, .int j] => if okRg i = true ∧ okRg j = true then some (rgD i j, a.2) else none
  | _ => none
theorem ei_range1 {tg a : Expr} {fa : MA} {p pos : Pos} (hm : ∀ i, (F.X i).mg "range" = none) (ha : EvA F pr [a] fa) (hg : ∀ i, Gl (F.X i) "range" := by intro _; rfl) (hs : ∀ i, starEach [a] (F.X i).env = [(false, eval a (F.X i).env)] := by intro _; rfl) :
    EvI F pr tg (.Call (.Name "range" p) [a] [] pos) (mRg1 fa) := by
  intro B Hf H g σ ds g' R E eq q
  obtain ⟨⟨ws, g1⟩, e1, eq1⟩ := Option.bind_eq_some_iff.mp eq
  obtain ⟨xs, e2, eq2⟩ := Option.bind_eq_some_iff.mp eq1
  refine ⟨iRng1 (UA F [a]), fun i => pi_range1 (hg i) (hm i) (pa_U i) (hs i), ?_⟩
  refine ha B Hf H g σ ws g1 _ E e1 fun vs Hf1 H1 s1 w1 y1 => ?_
  have l := lookAll_ok s1.env w1 e2
  dsimp only at eq2
  split at eq2
  · rename_i j
    split at eq2
    · rename_i hj
      cases eq2
      obtain ⟨v, rfl, l2⟩ := l.one
      cases l2.int
      obtain ⟨h1, h2⟩ := okRg_of hj
      refine ⟨j, rfl, h1, h2, q _ Hf1 H1 s1 ?_⟩
      unfold rgD
      rw [Int.sub_zero]
      exact walkd_range
    · cases eq2
  · cases eq2
/-- pairs -/
def zipD : List Da → List Da → List Da := List.zipWith fun x y => .tuple [x, y]
theorem new_pair {x y : V} {d e : Da} {T : Addr} (E2 : Evl.Ex Hf1 H1) (rx : Rep K Hf1 x d) (ry : Rep K Hf1 y e) (h : H1 T = none) :
    ∃ Hf2, Tr (fun _ => False) Hf1 H1 Hf2 (upd H1 T (.tup [x, y])) ∧ (∀ pr B g σ, En K pr B Hf1 H1 g σ → En K pr B Hf2 (upd H1 T (.tup [x, y])) g σ) ∧ Rep K Hf2 (.ref T) (.tuple [d, e]) := by
  have hf := Evl.fresh_back E2 h
  exact ⟨upd Hf1 T (.tup [x, y]), Tr.new hf h, fun _ _ _ _ E => E.new h, .tup (.inl (.inl upd_same)) (.cons (rx.mono (Evl.Ex.new hf)) (.cons (ry.mono (Evl.Ex.new hf)) .nil))⟩
theorem zip_get {ds es : List Da} {i : Nat} {d : Da} (h : (zipD ds es)[i]? = some d) : ∃ x y, ds[i]? = some x ∧ es[i]? = some y ∧ d = .tuple [x, y] := by
  unfold zipD at h
  rw [List.getElem?_zipWith] at h
  cases h1 : ds[i]? with
  | none => rw [h1] at h; cases h
  | some x =>
    cases h2 : es[i]? with
    | none => rw [h1, h2] at h; cases h
    | some y => rw [h1, h2] at h; cases h; exact ⟨x, y, rfl, rfl, rfl⟩
theorem zip_len {ds es : List Da} : (zipD ds es).length = min ds.length es.length := by unfold zipD; rw [List.length_zipWith]
def mZip (fa : MA) : MI := fun g => (fa g).bind fun a => (toDs a.1 a.2).bind fun r => match r.1 with
  | [.list ds, .list es] => some (zipD ds es, r.2)
  | [.tuple ds, .tuple es] => some (zipD ds es, r.2)
  | _ => none
def enumD : Nat → List Da → List Da
  | _, [] => []
  | n, d :: ds => .tuple [.int n, d] :: enumD (n + 1) ds
def mEnum (fa : MA) : MI := fun g => (fa g).bind fun a => (toDs a.1 a.2).bind fun r => match r.1 with
  | [.list ds] => some (enumD 0 ds, r.2)
  | _ => none
theorem walkd_rev {a : Addr} {xs : List V} {ds : List Da} (sa : SqL K Hf a xs) (ra : RepAll K Hf xs ds) : WalkD K (Itv K a xs.length) Hf ds.reverse := by
  intro Hf1 H1 e1 e2
  have s1 : SqL K H1 a xs := Evl.ex_l (e1.trans e2) sa
  have l1 := ra.length
  refine ⟨fun i hi => ?_, by show xs.length ≤ _; simp [l1], fun i d x H2 hd y => ?_⟩
  · rw [List.length_reverse] at hi
    exact ⟨by omega, xs, xs[xs.length - 1 - i]'(by omega), s1, by simp [show xs.length - 1 - i < xs.length by omega]⟩
  · obtain ⟨rfl, y⟩ := y
    have hi : i < ds.length := by
      have := lt_of_get hd
      simpa using this
    rw [List.getElem?_reverse hi, ← l1] at hd
    obtain ⟨u, hu, ru⟩ := ra.get hd
    have := y xs s1
    rw [hu] at this; cases this
    exact ⟨Hf1, Tr.refl, fun _ _ _ _ E => E, ru.mono e1⟩
theorem walkd_revT {a : Addr} {xs : List V} {ds : List Da} (sa : SqT K Hf a xs) (ra : RepAll K Hf xs ds) : WalkD K (RT.ItvT K a xs.length) Hf ds.reverse := by
  intro Hf1 H1 e1 e2
  have s1 : SqT K H1 a xs := Evl.ex_t (e1.trans e2) sa
  have l1 := ra.length
  refine ⟨fun i hi => ?_, by show xs.length ≤ _; simp [l1], fun i d x H2 hd y => ?_⟩
  · rw [List.length_reverse] at hi
    exact ⟨by omega, xs, xs[xs.length - 1 - i]'(by omega), s1, by simp [show xs.length - 1 - i < xs.length by omega]⟩
  · obtain ⟨rfl, y⟩ := y
    have hi : i < ds.length := by
      have := lt_of_get hd
      simpa using this
    rw [List.getElem?_reverse hi, ← l1] at hd
    obtain ⟨u, hu, ru⟩ := ra.get hd
    have := y xs s1
    rw [hu] at this; cases this
    exact ⟨Hf1, Tr.refl, fun _ _ _ _ E => E, ru.mono e1⟩
def mRevI (f : ME) : MI := fun g => (f g).bind fun a => (toD a.1 a.2).bind fun r => (itemsD r.1).bind fun ds => some (ds.reverse, r.2)
theorem ei_rev {tg e : Expr} {f : ME} {p pos : Pos} (hm : ∀ i, (F.X i).mg "reversed" = none) (h : Ev F pr e f) (hg : ∀ i, Gl (F.X i) "reversed" := by intro _; rfl) (hs : ∀ i, starEach [e] (F.X i).env = (false, eval e (F.X i).env) :: starEach [] (F.X i).env := by intro _; rfl) :
    EvI F pr tg (.Call (.Name "reversed" p) [e] [] pos) (mRevI f) := by
  intro B Hf H g σ ds g' R E eq q
  obtain ⟨⟨wa, g1⟩, e1, eq1⟩ := Option.bind_eq_some_iff.mp eq
  obtain ⟨⟨d, g2⟩, e2, eq2⟩ := Option.bind_eq_some_iff.mp eq1
  obtain ⟨ds', e3, eq3⟩ := Option.bind_eq_some_iff.mp eq2
  cases eq3
  refine ⟨RT.iRevA F.K (U F e), fun i => by have z := RT.pi_revA (tg := tg) (hg i) (hm i) (pe_U (F := F) (e := e) i) (hs i) (p := p) (pos := pos); rw [F.hK i] at z; exact z, ?_⟩
  refine h B Hf H g σ wa g1 _ E e1 fun v Hf1 H1 s1 w1 y1 => ?_
  obtain ⟨Hf2, s2, r⟩ := s1.toD y1 w1 e2
  cases d with
  | list xs =>
    cases e3
    cases r with
    | lst sq r => exact ⟨_, _, rfl, .inl ⟨Evl.ex_l s2.env.ex sq, q _ Hf2 H1 s2 (walkd_rev sq r)⟩⟩
  | tuple xs =>
    cases e3
    cases r with
    | tup sq r => exact ⟨_, _, rfl, .inr ⟨Evl.ex_t s2.env.ex sq, q _ Hf2 H1 s2 (walkd_revT sq r)⟩⟩
  | _ => cases e3
end
end EV
end
section
set_option maxHeartbeats 2000000
set_option autoImplicit false
namespace EV
open PySem PySem.Spec PyProof.Rows L2
section
variable {F : Fam} {pr : List Nat} {B : Addr → Prop} {Hf H Hf' H' Hf1 H1 Hf2 H2 : Hp} {g g' g1 g2 : Gh} {σ σ' σ1 σ2 : L2.St} {K : Frag}
/-! ### list comprehensions -/
def wipeG (g : Gh) : List Nat → Gh
  | [] => g
  | v :: vs => (wipeG g vs).set v .un
def restore : List Nat → Gh → Gh → Gh
  | [], _, g => g
  | v :: vs, g0, g => match g0[v]? with
    | some s => (restore vs g0 g).set v s
    | none => restore vs g0 g
theorem wipeG_len (g : Gh) : ∀ vs, (wipeG g vs).length = g.length
  | [] => rfl
  | v :: vs => by unfold wipeG; rw [List.length_set, wipeG_len]
theorem wipeG_get {i : Nat} {s : Sl} : ∀ {vs : List Nat}, (wipeG g vs)[i]? = some s → s ≠ .un → g[i]? = some s ∧ i ∉ vs
  | [], h, _ => ⟨h, by simp⟩
  | v :: vs, h, n => by
    unfold wipeG at h
    rcases get_set h with ⟨_, z⟩ | ⟨ne, h⟩
    · exact absurd z n
    · obtain ⟨h1, h2⟩ := wipeG_get h n
      exact ⟨h1, by simp only [List.mem_cons, not_or]; exact ⟨ne, h2⟩⟩
theorem wipe_get {i : Nat} : ∀ {vs : List Nat}, i ∉ vs → (wipe σ vs)[i]? = σ[i]?
  | [], _ => rfl
  | v :: vs, h => by
    unfold wipe
    rw [List.getElem?_set_ne (fun z => h (by simp [z]))]
    exact wipe_get fun z => h (List.mem_cons_of_mem _ z)
theorem wipe_eq {vs : List Nat} (hl : σ1.length = σ2.length) (h : ∀ i, i ∉ vs → σ1[i]? = σ2[i]?) : wipe σ1 vs = wipe σ2 vs := by
  apply List.ext_getElem?
  intro i
  by_cases hi : i ∈ vs
  · have : ∀ (σ : L2.St) (vs : List Nat), i ∈ vs → (wipe σ vs)[i]? = if i < σ.length then some none else none := by
      intro σ vs hm
      induction vs with
      | nil => cases hm
      | cons v vs ih =>
        unfold wipe
        by_cases e : v = i
        · subst e
          by_cases hl : v < σ.length
          · rw [List.getElem?_set_self (by rw [wipe_length]; exact hl), if_pos hl]
          · rw [List.getElem?_eq_none (by rw [List.length_set, wipe_length]; omega), if_neg hl]
        · rw [List.getElem?_set_ne e]
          rcases List.mem_cons.mp hm with z | z
          · exact absurd z.symm e
          · exact ih z
    rw [this σ1 vs hi, this σ2 vs hi, hl]
  · rw [wipe_get hi, wipe_get hi]; exact h i hi
theorem En.wipe (E : En K pr B Hf H g σ) (vs : List Nat) : En K pr B Hf H (wipeG g vs) (wipe σ vs) where
  ex := E.ex
  len := by rw [wipeG_len, wipe_length]; exact E.len
  ok := fun i s e n => by
    obtain ⟨e1, h1⟩ := wipeG_get e n
    obtain ⟨v, e2, h2⟩ := E.ok i s e1 n
    exact ⟨v, by rw [wipe_get h1]; exact e2, h2⟩
  dis := fun i j s t p h1 o1 h2 o2 e1 e2 => E.dis i j s t p (wipeG_get h1 (ow_ne o1)).1 o1 (wipeG_get h2 (ow_ne o2)).1 o2 (e1.imp fun z => (wipe_some z).1) (e2.imp fun z => (wipe_some z).1)
  nb := E.nb
  ob := fun i s p h o e => E.ob i s p (wipeG_get h (ow_ne o)).1 o (wipe_some e).1
  obi := fun i s p h hp => E.obi i s p (wipeG_get h (ow_ne (inn_ow hp))).1 hp
theorem own_wipe {vs : List Nat} {p : Addr} (h : Own (wipeG g vs) (wipe σ vs) p) : Own g σ p := by
  obtain ⟨i, s, e1, o, e2⟩ := h
  exact ⟨i, s, (wipeG_get e1 (ow_ne o)).1, o, e2.imp fun z => (wipe_some z).1⟩
theorem restore_len (g0 : Gh) : ∀ vs, (restore vs g0 g).length = g.length
  | [] => rfl
  | v :: vs => by
    unfold restore
    split
    · rw [List.length_set, restore_len]
    · exact restore_len g0 vs
theorem restore_get (g0 : Gh) (hl : g0.length = g.length) {i : Nat} : ∀ vs, (restore vs g0 g)[i]? = if i ∈ vs then g0[i]? else g[i]?
  | [] => by simp [restore]
  | v :: vs => by
    unfold restore
    have ih := restore_get g0 hl vs (i := i)
    by_cases e : v = i
    · subst e
      cases h : g0[v]? with
      | none =>
        have : g[v]? = none := by
          rw [List.getElem?_eq_none_iff] at h ⊢; omega
        dsimp only
        rw [ih]
        simp [h, this]
      | some s =>
        dsimp only
        rw [List.getElem?_set_self (by rw [restore_len]; have := lt_of_get h; omega)]
        simp
    · have m : (i ∈ v :: vs) ↔ i ∈ vs := by simp [Ne.symm e]
      split
      · rw [List.getElem?_set_ne e, ih]; simp [m]
      · rw [ih]; simp [m]
def compL (vs : List Nat) (tg : Wv → Gh → Option Gh) (ts : MT) (el : ME) : List Da → Gh → Option (List Da × Gh)
  | [], g => some ([], g)
  | d :: ds, g => (tg (.dat d) g).bind fun g1 => (ts g1).bind fun b => if b.1 = true then
      (el b.2).bind fun w => (toD w.1 w.2).bind fun r => (compL vs tg ts el ds (wipeG r.2 vs)).bind fun q => some (r.1 :: q.1, q.2)
    else compL vs tg ts el ds (wipeG b.2 vs)
def mComp (vs : List Nat) (it : MI) (tg : Wv → Gh → Option Gh) (ts : MT) (el : ME) : ME := fun g => (it g).bind fun a => if a.1.length < sizeLine then (compL vs tg ts el a.1 (wipeG a.2 vs)).bind fun r => some (.fresh r.1, restore vs a.2 r.2) else none
def mYes : MT := fun g => some (true, g)
theorem ets_nil : EvTs F pr [] mYes := by
  intro B Hf H g σ b g' Q E eq q
  cases eq
  exact ⟨tYes, fun _ => pts_nil, q Hf H (Stp.refl E)⟩
/-- the state between two turns -/
structure CInv (K : Frag) (pr : List Nat) (B : Addr → Prop) (Hf1 H1 : Hp) (g1 : Gh) (σ : L2.St) (vs : List Nat) (D : Addr) (Hf' H' : Hp) (g' : Gh) (acc : List Da) : Prop where
  env : En K pr B Hf' H' g' (wipe σ vs)
  tr : Tr (Own (wipeG g1 vs) (wipe σ vs)) Hf1 H1 Hf' H'
  sub : ∀ p, Own g' (wipe σ vs) p → Own (wipeG g1 vs) (wipe σ vs) p
  at_ : ∃ xs, H' D = some (.lst xs) ∧ RepAll K Hf' xs acc
  fz : Hf' D = none
  no : ¬ Own g' (wipe σ vs) D
theorem comp_ok {scope : Scope} {vs : List Nat} {tg iter elt : Expr} {ifs : List Expr} {it : MI} {tm : Wv → Gh → Option Gh} {ts : MT} {el : ME} (hi : EvI F pr tg iter it) (hg : EvG (F.blk scope) pr vs tg tm) (ht : EvTs (F.blk scope) pr ifs ts) (he : Ev (F.blk scope) pr elt el)
    {w : Wv} {Q : VK} (E : En F.K pr B Hf H g σ) (eq : mComp vs it tm ts el g = some (w, g')) (q : ∀ v Hf' H', Stp F.K pr B Hf H g σ Hf' H' g' → WOk F.K B Hf' H' g' σ w v → Yng H w v → Q v H') :
    tLc (UI F tg iter) (UG (F.blk scope) tg) (UTs (F.blk scope) ifs) (U (F.blk scope) elt) vs σ H Q := by
  obtain ⟨⟨ds, g1⟩, e1, eq1⟩ := Option.bind_eq_some_iff.mp eq
  dsimp only at eq1
  split at eq1
  · rename_i hlen
    obtain ⟨⟨out, g2⟩, e2, eq2⟩ := Option.bind_eq_some_iff.mp eq1
    cases eq2
    refine hi B Hf H g σ ds g1 _ E e1 fun J Hf1 H1 s1 wk D hD => ?_
    have hfD : Hf1 D = none := s1.env.frz hD
    -- the invariant by the turn
    let Pv : Nat → Hp → Prop := fun i H' => ∃ Hf' g' acc rest, CInv F.K pr B Hf1 H1 g1 σ vs D Hf' H' g' acc ∧ compL vs tm ts el (ds.drop i) g' = some (rest, g2) ∧ acc ++ rest = out ∧ acc.length ≤ i
    refine ⟨fun i m H' => m = ds.length - i ∧ i ≤ ds.length ∧ Pv i H', ⟨ds.length, by simp, Nat.zero_le _, Hf1, wipeG g1 vs, [], out, ⟨?_, ?_, fun _ h => h, ⟨[], upd_same, .nil⟩, hfD, ?_⟩, by rw [List.drop_zero]; exact e2, rfl, Nat.le_refl _⟩, ?_⟩
    · exact (s1.env.wipe vs).mut hD
    · exact Tr.mut hD
    · exact fun z => s1.env.own_none hD (own_wipe z)
    rintro i m H' ⟨rfl, hi, Hf', g', acc, rest, c, er, eo, ha⟩
    have ex1 : Evl.Ex Hf1 Hf' := c.tr.ex
    obtain ⟨go, stop, yld⟩ := wk Hf' H' ex1 c.env.ex
    by_cases hlt : i < ds.length
    · refine .inr ⟨go i hlt, Pv (i + 1), fun H'' p => ⟨ds.length - (i + 1), by omega, rfl, hlt, p⟩, fun x H'' y => ?_⟩
      have hd : ds[i]? = some ds[i] := by simp [hlt]
      rw [List.drop_eq_getElem_cons hlt] at er
      obtain ⟨Hf2, t2, en2, rx⟩ := yld i _ x H'' hd y
      have E2 := en2 pr B g' (wipe σ vs) c.env
      obtain ⟨gt, k1, er1⟩ := Option.bind_eq_some_iff.mp (show ((tm (.dat ds[i]) g').bind _) = some (rest, g2) from er)
      obtain ⟨⟨b, gb⟩, k2, er2⟩ := Option.bind_eq_some_iff.mp er1
      obtain ⟨xs, hxs, rxs⟩ := c.at_
      -- D through the yield
      obtain ⟨hD2, fD2⟩ := t2.keep D _ hxs (fun z => z)
      refine hg B Hf2 H'' g' (wipe σ vs) (.dat ds[i]) x gt _ E2 rx k1 fun σ3 Hf3 H3 s3 => ?_
      have nD3 : ¬ Own gt σ3 D := fun z => by
        rcases s3.sub D z with z | ⟨⟨_, z⟩, _⟩
        · exact c.no z
        · cases z
      obtain ⟨hD3, fD3⟩ := s3.tr.keep D _ hD2 c.no
      have wl : wipe σ3 vs = wipe σ vs := by
        rw [wipe_eq (σ1 := σ3) (σ2 := wipe σ vs) ?_ s3.oth]
        · rw [wipe_eq (σ1 := wipe σ vs) (σ2 := σ) (by rw [wipe_length]) fun i hi => wipe_get hi]
        · exact s3.slen
      refine ⟨wl, ?_⟩
      refine ht B Hf3 H3 gt σ3 b gb _ s3.env k2 fun Hf4 H4 s4 => ?_
      obtain ⟨hD4, fD4⟩ := s4.tr.keep D _ hD3 nD3
      have nD4 : ¬ Own gb σ3 D := fun z => nD3 (s4.sub D z)
      -- from the block's start to here
      have sub3 : ∀ p, Own gt σ3 p → Own (wipeG g1 vs) (wipe σ vs) p := fun p z => by
        rcases s3.sub p z with z | ⟨⟨_, z⟩, _⟩
        · exact c.sub p z
        · cases z
      have sub4 : ∀ p, Own gb σ3 p → Own (wipeG g1 vs) (wipe σ vs) p := fun p z => sub3 p (s4.sub p z)
      have T4 : Tr (Own (wipeG g1 vs) (wipe σ vs)) Hf1 H1 Hf4 H4 := ((c.tr.trans' t2 fun p z => z.elim).trans' s3.tr c.sub).trans' s4.tr sub3
      have e0 : ∀ {Hx : Hp}, Evl.Ex Hf2 Hx → Evl.Ex Hf' Hx := fun z => t2.ex.trans z
      cases b with
      | false =>
        dsimp only at er2
        rw [if_neg Bool.false_ne_true] at er2
        show if false = true then _ else Pv (i + 1) H4
        rw [if_neg Bool.false_ne_true]
        refine ⟨Hf4, wipeG gb vs, acc, rest, ⟨?_, T4, fun p z => ?_, ⟨xs, hD4, rxs.mono (e0 (s3.tr.ex.trans s4.tr.ex))⟩, ?_, fun z => ?_⟩, er2, eo, by omega⟩
        · have := s4.env.wipe vs
          rw [wl] at this; exact this
        · rw [← wl] at z; exact sub4 p (own_wipe z)
        · rw [fD4, fD3, fD2]; exact c.fz
        · rw [← wl] at z; exact nD4 (own_wipe z)
      | true =>
        dsimp only at er2
        rw [if_pos rfl] at er2
        rw [if_pos rfl]
        obtain ⟨⟨we, ge⟩, k3, er3⟩ := Option.bind_eq_some_iff.mp er2
        obtain ⟨⟨d, gr⟩, k4, er4⟩ := Option.bind_eq_some_iff.mp er3
        obtain ⟨⟨rest', g3⟩, k5, er5⟩ := Option.bind_eq_some_iff.mp er4
        cases er5
        refine he B Hf4 H4 gb σ3 we ge _ s4.env k3 fun y' Hf5 H5 s5 w5 y5 => ?_
        obtain ⟨Hf6, s6, r6⟩ := s5.toD y5 w5 k4
        obtain ⟨hD6, fD6⟩ := s6.tr.keep D _ hD4 nD4
        have nD6 : ¬ Own gr σ3 D := fun z => nD4 (s6.sub D z)
        have fD : Hf6 D = none := by rw [fD6, fD4, fD3, fD2]; exact c.fz
        have T6 := T4.trans' s6.tr sub4
        have la := rxs.length
        refine ⟨xs, hD6, by omega, Hf6, wipeG gr vs, acc ++ [d], rest', ⟨?_, ⟨T6.ex, fun p o hp no => ?_, fun p hp => T6.stay p (upd_none hp)⟩, fun p z => ?_, ⟨xs ++ [y'], upd_same, ?_⟩, fD, fun z => ?_⟩, k5, by rw [← eo]; simp, by simp; omega⟩
        · have := (s6.env.put (o := .lst (xs ++ [y'])) fD nD6).wipe vs
          rw [wl] at this; exact this
        · obtain ⟨k1, k2⟩ := T6.keep p o hp no
          exact ⟨by rw [upd_ne (ne_of_none hp hD)]; exact k1, k2⟩
        · rw [← wl] at z; exact sub4 p (s6.sub p (own_wipe z))
        · exact (rxs.mono (e0 (s3.tr.ex.trans (s4.tr.ex.trans s6.tr.ex)))).append (.cons r6 .nil)
        · rw [← wl] at z; exact nD6 (own_wipe z)
    · have e : i = ds.length := by omega
      subst e
      refine .inl ⟨stop, ?_⟩
      rw [List.drop_length] at er
      cases er
      rw [List.append_nil] at eo
      subst eo
      obtain ⟨xs, hxs, rxs⟩ := c.at_
      have gl : g1.length = g2.length := by
        have h1 := s1.env.len
        have h2 := c.env.len
        rw [wipe_length] at h2; omega
      have apart : ∀ (i : Nat) (s : Sl) p, i ∈ vs → g1[i]? = some s → s.ow = true → At s σ[i]? p → ¬ Own (wipeG g1 vs) (wipe σ vs) p := fun i s p hi h1 o1 h2 z => by
        obtain ⟨j, t, e1, o2, e2⟩ := z
        obtain ⟨e1, nj⟩ := wipeG_get e1 (ow_ne o2)
        have := s1.env.dis i j s t p h1 o1 e1 o2 h2 (e2.imp fun z => (wipe_some z).1)
        exact nj (this ▸ hi)
      have own_r : ∀ p, Own (restore vs g1 g2) σ p → Own g1 σ p := fun p ⟨i, s, e1, o1, e2⟩ => by
        rw [restore_get g1 gl] at e1
        split at e1
        · exact ⟨i, s, e1, o1, e2⟩
        · rename_i hi
          exact own_wipe (c.sub p ⟨i, s, e1, o1, by rw [wipe_get hi]; exact e2⟩)
      have er : En F.K pr B Hf' H' (restore vs g1 g2) σ := by
        refine ⟨c.env.ex, by rw [restore_len, ← gl]; exact s1.env.len, fun i s e n => ?_, fun i j es fs p h1 o1 h2 o2 e1 e2 => ?_, c.env.nb, fun i es p h1 o1 e1 => ?_, fun i es p h1 hp => ?_⟩
        · rw [restore_get g1 gl] at e
          split at e
          · rename_i hi
            obtain ⟨v, e1, so⟩ := s1.env.ok i s e n
            refine ⟨v, e1, ?_⟩
            exact so.stay c.tr.ex fun p u o z h2 h1 => by
              obtain ⟨k1, k2⟩ := c.tr.keep p _ h2 (apart i s p hi e o (by rw [e1]; exact z))
              exact ⟨k1, k2.trans h1⟩
          · rename_i hi
            obtain ⟨v, e1, so⟩ := c.env.ok i s e n
            exact ⟨v, by rw [wipe_get hi] at e1; exact e1, so⟩
        · rw [restore_get g1 gl] at h1 h2
          split at h1
          · rename_i hi
            split at h2
            · exact s1.env.dis i j es fs p h1 o1 h2 o2 e1 e2
            · rename_i hj
              exact (apart i es p hi h1 o1 e1 (c.sub p ⟨j, fs, h2, o2, by rw [wipe_get hj]; exact e2⟩)).elim
          · rename_i hi
            split at h2
            · rename_i hj
              exact (apart j fs p hj h2 o2 e2 (c.sub p ⟨i, es, h1, o1, by rw [wipe_get hi]; exact e1⟩)).elim
            · rename_i hj
              exact c.env.dis i j es fs p h1 o1 h2 o2 (by rw [wipe_get hi]; exact e1) (by rw [wipe_get hj]; exact e2)
        · rw [restore_get g1 gl] at h1
          split at h1
          · exact s1.env.ob i es p h1 o1 e1
          · rename_i hi
            exact c.env.ob i es p h1 o1 (by rw [wipe_get hi]; exact e1)
        · rw [restore_get g1 gl] at h1
          split at h1
          · exact s1.env.obi i es p h1 hp
          · exact c.env.obi i es p h1 hp
      refine q _ Hf' H' ⟨s1.tr.trans' c.tr fun p z => s1.sub p (own_wipe z), er, fun p z => s1.sub p (own_r p z)⟩ ⟨D, xs, rfl, s1.env.nb D hD, c.fz, hxs, rxs, fun z => ?_⟩ (fun _ _ p e => by cases e; exact s1.tr.stay _ hD)
      exact s1.env.own_none hD (own_r D z)
  · cases eq1
theorem ev_comp {scope : Scope} {own : List (Str × Nat)} {tg iter elt : Expr} {ifs : List Expr} {it : MI} {tm : Wv → Gh → Option Gh} {ts : MT} {el : ME} {pos : Pos} (hc : ∀ i, (F.X i).calm = true) (hN : ∀ i, (F.X i).N.Nodup) (ok : ∀ i, BlkOk (F.X i).N (F.X i).env.scope scope own)
    (hi : EvI F pr tg iter it) (hg : EvG (F.blk scope) pr (own.map (·.2)) tg tm) (ht : EvTs (F.blk scope) pr ifs ts) (he : Ev (F.blk scope) pr elt el) (hs : ∀ i, ∀ x, foldedSetIterable iter (F.X i).env x = pure x := by intro _ _; rfl) :
    Ev F pr (.ListComp elt [⟨tg, iter, ifs, 0⟩] scope pos) (mComp (own.map (·.2)) it tm ts el) := by
  intro B Hf H g σ w g' Q E eq q
  exact ⟨_, fun i => pe_lc (hc i) (hN i) (pi_U i) (ok i) (fun s H C cl fp => pg_U (F := F.blk scope) (i, s, H, C, cl, fp)) (fun s H C cl fp => pts_U (F := F.blk scope) (i, s, H, C, cl, fp)) (fun s H C cl fp => pe_U (F := F.blk scope) (i, s, H, C, cl, fp)) (hs i), comp_ok hi hg ht he E eq q⟩
end
end EV
end
section
set_option maxHeartbeats 2000000
set_option autoImplicit false
namespace EV
open PySem PySem.Spec PyProof.Rows L2
section
variable {F : Fam} {pr : List Nat} {B : Addr → Prop} {Hf H Hf' H' Hf1 H1 Hf2 H2 : Hp} {g g' g1 g2 : Gh} {σ σ' σ1 σ2 : L2.St} {K : Frag}
/-! ### statements -/
theorem FlOk.step {D : Ends} {fl : Fl} : FlOk K B Hf H g σ D fl → FlOk K B Hf H g σ D fl := id
def sNil : MS := fun g => some (.nx, g)
def sSeq (f h : MS) : MS := fun g => (f g).bind fun a => match a.1 with
  | .nx => h a.2
  | fl => some (fl, a.2)
theorem ss_nil : EvSs F pr [] sNil := by
  intro B Hf H g σ fl g' D E eq q
  cases eq
  exact ⟨tNext, fun _ => pss_nil, q σ Hf H (SStp.refl E)⟩
theorem ss_one {st : Stmt} {f : MS} (h : EvS F pr st f) : EvSs F pr [st] f := by
  intro B Hf H g σ fl g' D E eq q
  exact ⟨US F st, fun i => pss_one (ps_U i), h B Hf H g σ fl g' D E eq q⟩
theorem ss_cons {st : Stmt} {r : List Stmt} {f h : MS} (h1 : EvS F pr st f) (h2 : EvSs F pr r h) : EvSs F pr (st :: r) (sSeq f h) := by
  intro B Hf H g σ fl g' D E eq q
  obtain ⟨⟨fl1, g1⟩, e1, eq1⟩ := Option.bind_eq_some_iff.mp eq
  refine ⟨tSeq (US F st) (USs F r), fun i => pss_cons (ps_U i) (pss_U i), ?_⟩
  refine h1 B Hf H g σ fl1 g1 _ E e1 fun σ1 Hf1 H1 s1 => ?_
  cases fl1 with
  | nx => exact h2 B Hf1 H1 g1 σ1 fl g' D s1.env eq1 fun σ2 Hf2 H2 s2 => q σ2 Hf2 H2 (s1.trans s2)
  | rt w => cases eq1; exact q σ1 Hf1 H1 s1
  | bk => cases eq1; exact q σ1 Hf1 H1 s1
  | ct => cases eq1; exact q σ1 Hf1 H1 s1
def sBrk : MS := fun g => some (.bk, g)
def sCnt : MS := fun g => some (.ct, g)
/-- code that is never come to -/
def sNo : MS := fun _ => none
theorem s_never {st : Stmt} : EvS F pr st sNo := by
  intro B Hf H g σ fl g' D E eq q
  cases eq
def sDrop (f : ME) : MS := fun g => (f g).bind fun a => some (.nx, a.2)
theorem s_expr {e : Expr} {f : ME} {pos : Pos} (h : Ev F pr e f) (hs : ∀ i, swapsWith e none pos.line (F.X i).env = pure false := by intro _; rfl) : EvS F pr (.Expr e pos) (sDrop f) := by
  intro B Hf H g σ fl g' D E eq q
  obtain ⟨⟨w, g1⟩, e1, eq1⟩ := Option.bind_eq_some_iff.mp eq
  cases eq1
  refine ⟨tDrop (U F e), fun i => ps_expr (pe_U i) (hs i), ?_⟩
  exact h B Hf H g σ w _ _ E e1 fun v Hf1 H1 s1 w1 y1 => q σ Hf1 H1 s1.s
def sRet (pr : List Nat) (f : ME) : MS := fun g => (f g).bind fun a => match a.1 with
  | .slot i => if pr.contains i then (toD (.slot i) a.2).bind fun r => some (.rt (.dat r.1), r.2) else match a.2[i]? with
    | some (.own ds) => some (.rt (.fresh ds), a.2.set i .un)
    | some (.val d) => some (.rt (.dat d), a.2)
    | _ => none
  | w => some (.rt w, a.2)
theorem s_ret {e : Expr} {f : ME} {pos : Pos} (h : Ev F pr e f) : EvS F pr (.Return (some e) pos) (sRet pr f) := by
  intro B Hf H g σ fl g' D E eq q
  obtain ⟨⟨w, g1⟩, e1, eq1⟩ := Option.bind_eq_some_iff.mp eq
  refine ⟨tRet (U F e), fun i => ps_ret (pe_U i), ?_⟩
  refine h B Hf H g σ w g1 _ E e1 fun v Hf1 H1 s1 w1 y1 => ?_
  cases w with
  | dat d => cases eq1; exact q σ Hf1 H1 s1.s v w1 (fun _ z => nomatch z)
  | fresh ds => cases eq1; exact q σ Hf1 H1 s1.s v w1 (fun _ z => nomatch z)
  | raw x => cases eq1; exact q σ Hf1 H1 s1.s v w1 (fun _ z => nomatch z)
  | x d => cases eq1; exact q σ Hf1 H1 s1.s v w1 (fun _ z => nomatch z)
  | slot i =>
    dsimp only at eq1
    split at eq1
    · obtain ⟨⟨d, g2⟩, e2, eq2⟩ := Option.bind_eq_some_iff.mp eq1
      cases eq2
      obtain ⟨Hf2, s2, r⟩ := s1.toD y1 w1 e2
      exact q σ Hf2 H1 s2.s v r (fun _ z => nomatch z)
    · rename_i hp
      cases hg : g1[i]? with
      | none => rw [hg] at eq1; cases eq1
      | some sl =>
        rw [hg] at eq1
        have w1 : σ[i]? = some (some v) := w1
        cases sl with
        | own ds =>
          cases eq1
          obtain ⟨p, us, e3, k1, k2, k3, ow⟩ := s1.env.own_val hg
          rw [w1] at e3; cases e3
          have hb : B p := by
            rcases s1.env.ob i _ p hg rfl w1 with z | z
            · exact absurd (List.contains_iff_mem.mpr z) hp
            · exact z
          refine q σ Hf1 H1 ⟨s1.tr, s1.env.drop i, fun p z => .inl (s1.sub p (own_drop z)), fun _ _ => rfl⟩ _ ⟨p, us, rfl, hb, k2, k1, k3, s1.env.not_own_drop hg w1⟩ (fun _ z => nomatch z)
        | val d =>
          cases eq1
          obtain ⟨v', e3, r⟩ := s1.env.ok i _ hg (by simp)
          rw [w1] at e3; cases e3
          exact q σ Hf1 H1 s1.s v r (fun _ z => nomatch z)
        | un => cases eq1
        | raw x => cases eq1
        | x d => cases eq1
        | dic t es => cases eq1
        | tab t es => cases eq1
        | grp t es => cases eq1
        | rg a b => cases eq1
def sRetN : MS := fun g => some (.rt (.dat .none), g)
def sIf (t : MT) (f h : MS) : MS := fun g => (t g).bind fun a => if a.1 = true then f a.2 else h a.2
theorem s_if {t : Expr} {a b : List Stmt} {ft : MT} {f h : MS} {pos : Pos} (ht : EvT F pr t ft) (ha : EvSs F pr a f) (hb : EvSs F pr b h) : EvS F pr (.If t a b pos) (sIf ft f h) := by
  intro B Hf H g σ fl g' D E eq q
  obtain ⟨⟨k, g1⟩, e1, eq1⟩ := Option.bind_eq_some_iff.mp eq
  refine ⟨tIfS (UT F t) (USs F a) (USs F b), fun i => ps_if (pt_U i) (pss_U i) (pss_U i), ?_⟩
  refine ht B Hf H g σ k g1 _ E e1 fun Hf1 H1 s1 => ?_
  cases k with
  | true => exact ha B Hf1 H1 g1 σ fl g' D s1.env eq1 fun σ2 Hf2 H2 s2 => q σ2 Hf2 H2 (s1.s.trans s2)
  | false => exact hb B Hf1 H1 g1 σ fl g' D s1.env eq1 fun σ2 Hf2 H2 s2 => q σ2 Hf2 H2 (s1.s.trans s2)
/-- x = e -/
def sSet (i : Nat) (f : ME) : MS := fun g => (f g).bind fun a => (setN i a.1 a.2).bind fun g' => some (.nx, g')
theorem set_sstp {w : Wv} {v : V} {vs : List Nat} (s : Stp K pr B Hf H g σ Hf1 H1 g1) (y : Yng H w v) (t : GStp K pr B vs w v Hf1 H1 g1 σ Hf2 H2 g2 σ2) : SStp K pr B Hf H g σ Hf2 H2 g2 σ2 :=
  ⟨s.tr.trans' t.tr s.sub, t.env, fun p z => by
    rcases t.sub p z with z | ⟨⟨ds, z⟩, z2⟩
    · exact .inl (s.sub p z)
    · exact .inr (y ds z p z2), t.prk⟩
theorem s_set (i : Nat) {x : Str} {e : Expr} {f : ME} {pos pos' : Pos} (h : Ev F pr e f) (hN : ∀ j, (F.X j).N.Nodup) (hi : ∀ j, (F.X j).N[i]? = some x := by intro _; rfl) (hx : ∀ j, Loc (F.X j).env.scope x := by intro _; first | exact Or.inl rfl | exact Or.inr rfl)
    (hs : ∀ j, swapsWith e (some (.Name x pos')) pos.line (F.X j).env = pure false := by intro _; rfl) (hf : ∀ j, (F.X j).fn x = true ∨ (F.X j).env.scope.names.lookup x = some .local := by intro _; first | exact .inl rfl | exact .inr rfl) (hp : i ∉ pr := by decide) :
    EvS F pr (.Assign [.Name x pos'] e pos) (sSet i f) := by
  intro B Hf H g σ fl g' D E eq q
  obtain ⟨⟨w, g1⟩, e1, eq1⟩ := Option.bind_eq_some_iff.mp eq
  obtain ⟨g2, e2, eq2⟩ := Option.bind_eq_some_iff.mp eq1
  cases eq2
  refine ⟨tAsg (U F e) (gName i), fun j => ps_set (hN j) (hi j) (hx j) (pe_U j) (hs j) (hf j), ?_⟩
  refine h B Hf H g σ w g1 _ E e1 fun v Hf1 H1 s1 w1 y1 => ?_
  obtain ⟨Hf2, t⟩ := setN_ok s1.env w1 e2 hp
  exact q _ Hf2 H1 (set_sstp s1 y1 t)
/-- y = [.. for ..], y a local: stored within -/
theorem s_setLc (i : Nat) {y : Str} {scope : Scope} {own : List (Str × Nat)} {tg iter elt : Expr} {ifs : List Expr} {it : MI} {tm : Wv → Gh → Option Gh} {ts : MT} {el : ME} {pos spos py : Pos} (hc : ∀ i, (F.X i).calm = true) (hN : ∀ i, (F.X i).N.Nodup) (ok : ∀ i, BlkOk (F.X i).N (F.X i).env.scope scope own)
    (hi : EvI F pr tg iter it) (hg : EvG (F.blk scope) pr (own.map (·.2)) tg tm) (ht : EvTs (F.blk scope) pr ifs ts) (he : Ev (F.blk scope) pr elt el)
    (hy : ∀ j, (F.X j).N[i]? = some y := by intro _; rfl) (hyl : ∀ j, (F.X j).env.scope.names.lookup y = some .local := by intro _; rfl) (hsw : ∀ j, swapsWith (.ListComp elt [⟨tg, iter, ifs, 0⟩] scope pos) (some (.Name y py)) spos.line (F.X j).env = pure true := by intro _; exact sw_true rfl rfl rfl (by decide +kernel))
    (hs : ∀ i, ∀ x, foldedSetIterable iter (F.X i).env x = pure x := by intro _ _; rfl) (hp : i ∉ pr := by decide) :
    EvS F pr (.Assign [.Name y py] (.ListComp elt [⟨tg, iter, ifs, 0⟩] scope pos) spos) (sSet i (mComp (own.map (·.2)) it tm ts el)) := by
  intro B Hf H g σ fl g' D E eq q
  obtain ⟨⟨w, g1⟩, e1, eq1⟩ := Option.bind_eq_some_iff.mp eq
  obtain ⟨g2, e2, eq2⟩ := Option.bind_eq_some_iff.mp eq1
  cases eq2
  refine ⟨_, fun j => ps_setLc (hc j) (hN j) (hy j) (hyl j) (hsw j) (pi_U j) (ok j) (fun s H C cl fp => pg_U (F := F.blk scope) (j, s, H, C, cl, fp)) (fun s H C cl fp => pts_U (F := F.blk scope) (j, s, H, C, cl, fp)) (fun s H C cl fp => pe_U (F := F.blk scope) (j, s, H, C, cl, fp)) (hs j), ?_⟩
  refine comp_ok (Q := fun x H1 => gName i x σ H1 D.nx) hi hg ht he E e1 fun v Hf1 H1 s1 w1 y1 => ?_
  obtain ⟨Hf2, t⟩ := setN_ok s1.env w1 e2 hp
  exact q _ Hf2 H1 (set_sstp s1 y1 t)
/-- target = e, a target of names -/
def sAsg (f : ME) (m : Wv → Gh → Option Gh) : MS := fun g => (f g).bind fun a => (m a.1 a.2).bind fun g' => some (.nx, g')
/-- a, b, .. = x, y, .. -/
def sPar (is : List Nat) (fa : MA) : MS := fun g => (fa g).bind fun a => (setNs is a.1 a.2).bind fun g' => some (.nx, g')
theorem par_sstp {ws : List Wv} {us : List V} {is : List Nat} (s : Stp K pr B Hf H g σ Hf1 H1 g1) (y : YAll H ws us) (E2 : En K pr B Hf1 H1 g2 σ2) (o : ∀ p, Own g2 σ2 p → Own g1 σ p ∨ ∃ (i : Nat) (ds : List Da), ws[i]? = some (.fresh ds) ∧ us[i]? = some (.ref p)) (pk : ∀ i ∈ pr, σ2[i]? = σ[i]?) : SStp K pr B Hf H g σ Hf1 H1 g2 σ2 :=
  ⟨s.tr, E2, fun p z => by
    rcases o p z with z | ⟨i, ds, z, z2⟩
    · exact .inl (s.sub p z)
    · refine .inr ?_
      have go : ∀ {ws : List Wv} {us : List V} {i : Nat}, YAll H ws us → ws[i]? = some (.fresh ds) → us[i]? = some (.ref p) → H p = none := by
        intro ws us i y
        induction y generalizing i with
        | nil => intro h; simp at h
        | cons a b ih =>
          intro h h2
          cases i with
          | zero => simp at h h2; exact a ds h p h2
          | succ i => exact ih (by simpa using h) (by simpa using h2)
      exact go y z z2, pk⟩
theorem s_par2 (i j : Nat) {x y : Str} {a b : Expr} {fa : MA} {px py pt pos : Pos} {kt k2 pt2} (ha : EvA F pr [a, b] fa) (hc : ∀ q, (F.X q).calm = true) (hN : ∀ q, (F.X q).N.Nodup) (hi : ∀ q, (F.X q).N[i]? = some x := by intro _; rfl) (hj : ∀ q, (F.X q).N[j]? = some y := by intro _; rfl) (hij : i ≠ j := by decide)
    (hx : ∀ q, (F.X q).env.scope.names.lookup x = some .local := by intro _; rfl) (hy : ∀ q, (F.X q).env.scope.names.lookup y = some .local := by intro _; rfl)
    (hw : ∀ q, swappedStores [.Tuple [.Name x px, .Name y py] kt pt] (.Tuple [a, b] k2 pt2) (F.X q).env = pure (some [x, y]) := by intro _; rfl)
    (hs : ∀ q, swapsWithSole [.Tuple [.Name x px, .Name y py] kt pt] (.Tuple [a, b] k2 pt2) pos.line (F.X q).env = pure false := by intro _; rfl) (hp : ∀ q ∈ [i, j], q ∉ pr := by decide) :
    EvS F pr (.Assign [.Tuple [.Name x px, .Name y py] kt pt] (.Tuple [a, b] k2 pt2) pos) (sPar [i, j] fa) := by
  intro B Hf H g σ fl g' D E eq q
  obtain ⟨⟨ws, g1⟩, e1, eq1⟩ := Option.bind_eq_some_iff.mp eq
  obtain ⟨g2, e2, eq2⟩ := Option.bind_eq_some_iff.mp eq1
  cases eq2
  refine ⟨tPar i j (UA F [a, b]), fun q => ps_par (hc q) (hN q) (hi q) (hj q) hij (hx q) (hy q) (pa_U q) (hw q) (hs q), ?_⟩
  refine ha B Hf H g σ ws g1 _ E e1 fun vs Hf1 H1 s1 w1 y1 => ?_
  have k := setNs_ok (D := fun σ' H' => D.nx σ' H') s1.env w1 e2 hp fun σ' E' o p2 t2 l2 => q σ' Hf1 H1 (par_sstp (is := [i, j]) s1 y1 E' o p2)
  obtain ⟨v, r, rfl, v2, r2, rfl, rfl, k⟩ := k
  exact ⟨v, v2, rfl, k⟩
theorem s_parT (is : List Nat) {es : List Expr} {tes : List Expr} {fa : MA} {pt pos : Pos} {kt k2 pt2} (ha : EvA F pr es fa) (hc : ∀ q, (F.X q).calm = true) (h : ∀ i, PGs (F.X i) tes (gNames is)) (hn : ∀ i, (assignEach tes (F.X i).env).length = is.length := by intro _; rfl) (hst : ∀ i, (assignEach tes (F.X i).env).findIdx? (·.1) = none := by intro _; rfl)
    (hs : ∀ j, swapsWithSole [.Tuple tes kt pt] (.Tuple es k2 pt2) pos.line (F.X j).env = pure false := by intro _; rfl) (hw : ∀ j, swappedStores [.Tuple tes kt pt] (.Tuple es k2 pt2) (F.X j).env = pure none := by intro _; rfl)
    (h1 : ∀ j, (assignEach [.Tuple tes kt pt] (F.X j).env).map (·.2) = [assign (.Tuple tes kt pt) (F.X j).env] := by intro _; rfl) (hp : ∀ q ∈ is, q ∉ pr := by decide) (hlen : is.length ≤ 1000 := by decide) :
    EvS F pr (.Assign [.Tuple tes kt pt] (.Tuple es k2 pt2) pos) (sPar is fa) := by
  intro B Hf H g σ fl g' D E eq q
  obtain ⟨⟨ws, g1⟩, e1, eq1⟩ := Option.bind_eq_some_iff.mp eq
  obtain ⟨g2, e2, eq2⟩ := Option.bind_eq_some_iff.mp eq1
  cases eq2
  refine ⟨tAsg (tTup (UA F es)) (gTup F.K is.length (gNames is)), fun j => ps_asg (pe_tup (pa_U j)) (by have z := pg_tup (hc j) (h j) (hn j) (hst j) (k := kt) (pos := pt); rw [F.hK j] at z; exact z) (hs j) (hw j) (h1 j), ?_⟩
  refine ha B Hf H g σ ws g1 _ E e1 fun vs Hf1 H1 s1 w1 y1 => ?_
  have hl : vs.length = is.length := (wall_len w1).symm.trans (setNs_len e2)
  refine ⟨Nat.le_trans (by rw [hl]; exact hlen) (by decide : 1000 ≤ sizeLine), fun p hp1 => ⟨p, vs, rfl, .inl (.inl upd_same), hl, ?_⟩⟩
  have s2 : Stp F.K pr B Hf1 H1 g1 σ Hf1 (upd H1 p (.tup vs)) g1 := ⟨Tr.mut hp1, s1.env.mut hp1, fun _ h => h⟩
  exact setNs_ok (D := fun σ' H' => D.nx σ' H') s2.env (w1.step s1.env s2) e2 hp fun σ' E' o p2 t2 l2 => q σ' Hf1 _ (par_sstp (is := is) (s1.trans s2) y1 E' o p2)
where
  wall_len {B : Addr → Prop} {Hf H : Hp} {g : Gh} {σ : L2.St} {ws : List Wv} {vs : List V} (h : WAll F.K B Hf H g σ ws vs) : ws.length = vs.length := by
    induction h with
    | nil => rfl
    | cons a b c ih => simp [ih]
  setNs_len : ∀ {is : List Nat} {ws : List Wv} {g g' : Gh}, setNs is ws g = some g' → ws.length = is.length
    | [], [], _, _, _ => rfl
    | i :: is, w :: ws, g, g', e => by
      obtain ⟨s, e1, e⟩ := Option.bind_eq_some_iff.mp (show ((slOf w).bind fun s => if i < g.length then setNs is ws (g.set i s) else none) = some g' from e)
      split at e
      · simp [setNs_len e]
      · cases e
    | [], _ :: _, _, _, e => by cases e
    | _ :: _, [], _, _, e => by cases e
/-! ### lists that a name owns -/
/-- an owned list changed -/
theorem En.change (E : En K pr B Hf H g σ) {i : Nat} {ds es : List Da} {p : Addr} {us : List V} (h : g[i]? = some (.own ds)) (e : σ[i]? = some (some (.ref p))) (r : RepAll K Hf us es) : En K pr B Hf (upd H p (.lst us)) (g.set i (.own es)) σ := by
  obtain ⟨p', vs', e1, h1, h2, h3, ow⟩ := E.own_val h
  rw [e] at e1; cases e1
  have n := E.not_own_drop h e
  have E1 := (E.drop i).put (o := .lst us) h2 n
  have E2 := E1.put_slot (i := i) (s := .own es) e ⟨p, us, rfl, h2, upd_same, r⟩ (fun ds' _ q z => by cases z; exact ⟨by rw [List.set_set]; exact n, E.ob i _ p h rfl e⟩)
  rw [List.set_set] at E2
  exact E2
theorem own_change {i : Nat} {ds es : List Da} {p q : Addr} (h : g[i]? = some (.own ds)) (e : σ[i]? = some (some (.ref p))) (z : Own (g.set i (.own es)) σ q) : Own g σ q := by
  rcases own_put z with z | ⟨_, _, z⟩
  · exact own_drop z
  · rw [e] at z; cases z; exact ⟨i, _, h, rfl, .inl e⟩
theorem Stp.change (s : Stp K pr B Hf H g σ Hf1 H1 g1) {i : Nat} {ds es : List Da} {p : Addr} {us : List V} (h : g1[i]? = some (.own ds)) (e : σ[i]? = some (some (.ref p))) (r : RepAll K Hf1 us es) : Stp K pr B Hf H g σ Hf1 (upd H1 p (.lst us)) (g1.set i (.own es)) := by
  have ow : Own g σ p := s.sub p ⟨i, _, h, rfl, .inl e⟩
  refine ⟨⟨s.tr.ex, fun q o hq no => ?_, fun q hq => s.tr.stay q (upd_none hq)⟩, s.env.change h e r, fun q z => s.sub q (own_change h e z)⟩
  obtain ⟨k1, k2⟩ := s.tr.keep q o hq no
  exact ⟨by rw [upd_ne (fun z => no (by subst z; exact ow))]; exact k1, k2⟩
/-- xs.append(e) -/
def sApp (i : Nat) (f : ME) : MS := fun g => match g[i]? with
  | some (.own _) => (f g).bind fun a => (toD a.1 a.2).bind fun r => match r.2[i]? with
    | some (.own ds) => if ds.length < sizeLine then some (.nx, r.2.set i (.own (ds ++ [r.1]))) else none
    | _ => none
  | _ => none
theorem s_app (i : Nat) {x : Str} {e : Expr} {f : ME} {p1 p2 pos pos' : Pos} (h : Ev F pr e f) (hN : ∀ j, (F.X j).N[i]? = some x := by intro _; rfl) (hv : ∀ j, Vis (F.X j).env.scope x := by intro _; first | exact Or.inl rfl | exact Or.inr (Or.inl rfl) | exact Or.inr (Or.inr rfl))
    (hpe : ∀ (t : TE), (∀ j, PE (F.X j) e t) → ∀ j, PE (F.X j) (.Call (.Attribute (.Name x p1) "append" p2) [e] [] pos) (tBM (F.X j).K "list" rAppend (tVar i) (tCons t tNil)) := by
      intro t ht j
      exact pe_bm PySem.F.plainAttrs_list PySem.F.slot_list_append PySem.F.type_list_append mt_append (pv _) (pa_cons (ht j) pa_nil))
    (hs : ∀ j, swapsWith (.Call (.Attribute (.Name x p1) "append" p2) [e] [] pos) none pos'.line (F.X j).env = pure false := by intro _; rfl) : EvS F pr (.Expr (.Call (.Attribute (.Name x p1) "append" p2) [e] [] pos) pos') (sApp i f) := by
  intro B Hf H g σ fl g' D E eq q
  unfold sApp at eq
  split at eq
  · rename_i ds0 hg0
    obtain ⟨⟨w, g1⟩, e1, eq1⟩ := Option.bind_eq_some_iff.mp eq
    obtain ⟨⟨d, g2⟩, e2, eq2⟩ := Option.bind_eq_some_iff.mp eq1
    dsimp only at eq2
    split at eq2
    · rename_i ds hg
      split at eq2
      · rename_i hl
        cases eq2
        obtain ⟨p, us0, k0, k1, k2, k3, _⟩ := E.own_val hg0
        refine ⟨tDrop (tBM F.K "list" rAppend (tVar i) (tCons (U F e) tNil)), fun j => ps_expr (by have z := hpe (U F e) (fun j => pe_U j) j; rw [F.hK j] at z; exact z) (hs j), ?_⟩
        refine ⟨.ref p, k0, .inl ⟨rfl, _, .inl (.inl k1)⟩, ?_⟩
        refine h B Hf H g σ w g1 _ E e1 fun v Hf1 H1 s1 w1 y1 => ?_
        obtain ⟨Hf2, s2, r⟩ := s1.toD y1 w1 e2
        obtain ⟨p', us, k4, k5, k6, k7, _⟩ := s2.env.own_val hg
        rw [k0] at k4; cases k4
        refine ⟨p, us, v, rfl, rfl, k5, by rw [k7.length]; exact hl, ?_⟩
        exact q σ Hf2 _ (s2.change hg k0 (k7.append (.cons r .nil))).s
      · cases eq2
    · cases eq2
  · cases eq
/-- xs.pop(), its value dropped or taken -/
def mPop (i : Nat) : ME := fun g => match g[i]? with
  | some (.own ds) => (ds.getLast?).bind fun d => some (.dat d, g.set i (.own ds.dropLast))
  | _ => none
/-- xs[j] = e -/
def sSetIx (i : Nat) (f fi : ME) : MS := fun g => (f g).bind fun a => (toD a.1 a.2).bind fun r => match r.2[i]? with
  | some (.own _) => (fi r.2).bind fun b => (look b.1 b.2).bind fun y => match y, b.2[i]? with
    | .int k, some (.own ds) => (ixN ds.length k).bind fun j => some (.nx, b.2.set i (.own (ds.set j r.1)))
    | _, _ => none
  | _ => none
theorem s_setix (i : Nat) {x : Str} {e ie : Expr} {f fi : ME} {p1 tpos pos : Pos} (h : Ev F pr e f) (hi : Ev F pr ie fi) (hN : ∀ j, (F.X j).N[i]? = some x := by intro _; rfl) (hv : ∀ j, Vis (F.X j).env.scope x := by intro _; first | exact Or.inl rfl | exact Or.inr (Or.inl rfl) | exact Or.inr (Or.inr rfl))
    (hps : ∀ (t ti : TE), (∀ j, PE (F.X j) e t) → (∀ j, PE (F.X j) ie ti) → ∀ j, PS (F.X j) (.Assign [.Subscript (.Name x p1) ie tpos] e pos) (tAsg t (gSub (tVar i) ti rSetL)) := by
      intro t ti ht hti j
      exact ps_asg (ht j) (pg_sub (pv _) (hti j) set_list)) : EvS F pr (.Assign [.Subscript (.Name x p1) ie tpos] e pos) (sSetIx i f fi) := by
  intro B Hf H g σ fl g' D E eq q
  obtain ⟨⟨w, g1⟩, e1, eq1⟩ := Option.bind_eq_some_iff.mp eq
  obtain ⟨⟨d, g2⟩, e2, eq2⟩ := Option.bind_eq_some_iff.mp eq1
  dsimp only at eq2
  split at eq2
  · rename_i ds0 hg0
    obtain ⟨⟨wb, g3⟩, e3, eq3⟩ := Option.bind_eq_some_iff.mp eq2
    obtain ⟨y, e4, eq4⟩ := Option.bind_eq_some_iff.mp eq3
    dsimp only at eq4
    split at eq4
    · rename_i k ds hg
      obtain ⟨j, e5, eq5⟩ := Option.bind_eq_some_iff.mp eq4
      cases eq5
      refine ⟨tAsg (U F e) (gSub (tVar i) (U F ie) rSetL), fun q => hps _ _ (fun q => pe_U q) (fun q => pe_U q) q, ?_⟩
      refine h B Hf H g σ w g1 _ E e1 fun v Hf1 H1 s1 w1 y1 => ?_
      obtain ⟨Hf2, s2, r⟩ := s1.toD y1 w1 e2
      obtain ⟨p, us0, k0, k1, k2, k3, _⟩ := s2.env.own_val hg0
      refine ⟨.ref p, k0, ?_⟩
      refine hi B Hf2 H1 g2 σ wb _ _ s2.env e3 fun u Hf3 H3 s3 w3 y3 => ?_
      obtain ⟨p', us, k4, k5, k6, k7, _⟩ := s3.env.own_val hg
      rw [k0] at k4; cases k4
      have l := look_ok s3.env w3 e4
      have hu := RL.int (Hf := Hf3) l
      subst hu
      refine ⟨p, us, k, j, rfl, rfl, k5, by rw [k7.length]; exact e5, ?_⟩
      exact q σ Hf3 _ ((s2.trans s3).change hg k0 (k7.set j (r.mono s3.tr.ex))).s
    · cases eq4
  · cases eq2
/-- x += e, x -= e: ints -/
def sAug (i : Nat) (h : Int → Int → Int) (f : ME) : MS := fun g => match g[i]? with
  | some (.val (.int a)) => (f g).bind fun b => (look b.1 b.2).bind fun y => match y with
    | .int k => if i < b.2.length then some (.nx, b.2.set i (.val (.int (h a k)))) else none
    | _ => none
  | _ => none
theorem s_aug (i : Nat) {h : Int → Int → Int} {x : Str} {e : Expr} {f : ME} {op : Operator} {pos pos' : Pos} (he : Ev F pr e f) (ho : ∀ j, PIp (F.X j) op (ipI h)) (hN : ∀ j, (F.X j).N.Nodup) (hi : ∀ j, (F.X j).N[i]? = some x := by intro _; rfl) (hx : ∀ j, Loc (F.X j).env.scope x := by intro _; first | exact Or.inl rfl | exact Or.inr rfl)
    (hf : ∀ j, (F.X j).fn x = true ∨ (F.X j).env.scope.names.lookup x = some .local := by intro _; first | exact .inl rfl | exact .inr rfl) (hp : i ∉ pr := by decide) : EvS F pr (.AugAssign (.Name x pos') op e pos) (sAug i h f) := by
  intro B Hf H g σ fl g' D E eq q
  unfold sAug at eq
  split at eq
  · rename_i a hg
    obtain ⟨⟨wb, g1⟩, e1, eq1⟩ := Option.bind_eq_some_iff.mp eq
    obtain ⟨y, e2, eq2⟩ := Option.bind_eq_some_iff.mp eq1
    dsimp only at eq2
    split at eq2
    · rename_i k
      split at eq2
      · rename_i hl
        cases eq2
        obtain ⟨v, hv, so⟩ := E.ok i _ hg (by simp)
        cases so
        refine ⟨tAug i (U F e) (ipI h), fun j => ps_aug (hN j) (hi j) (hx j) (pe_U j) (ho j) (hf j), .int a, hv, ?_⟩
        refine he B Hf H g σ wb g1 _ E e1 fun u Hf1 H1 s1 w1 y1 => ?_
        have hu := RL.int (Hf := Hf1) (look_ok s1.env w1 e2)
        subst hu
        refine ⟨a, k, rfl, rfl, q _ Hf1 H1 ⟨s1.tr, s1.env.store hl (Rep.int _) (fun _ z => nomatch z), fun p z => ?_, fun j hj => List.getElem?_set_ne (fun z => by subst z; exact hp hj)⟩⟩
        rcases own_store z with z | ⟨_, z, _⟩
        · exact .inl (s1.sub p z)
        · cases z
      · cases eq2
    · cases eq2
  · cases eq
/-! ### loops -/
def forL (tg : Wv → Gh → Option Gh) (body : MS) : List Da → Gh → Option (Fl × Gh)
  | [], g => some (.nx, g)
  | d :: ds, g => (tg (.dat d) g).bind fun g1 => (body g1).bind fun a => match a.1 with
    | .nx => forL tg body ds a.2
    | .ct => forL tg body ds a.2
    | .bk => some (.nx, a.2)
    | .rt w => some (.rt w, a.2)
def sFor (it : MI) (tg : Wv → Gh → Option Gh) (body : MS) : MS := fun g => (it g).bind fun a => forL tg body a.1 a.2
theorem s_for {tg iter : Expr} {body : List Stmt} {it : MI} {tm : Wv → Gh → Option Gh} {fb : MS} {vs : List Nat} {pos : Pos} (hp : ∀ i, PassesOwn (model (F.X i).prog (F.X i).w) (F.X i).A (F.X i).env (F.X i).xe) (hc : ∀ i, (F.X i).calm = true) (hi : EvI F pr tg iter it) (hg : EvG F pr vs tg tm) (hb : EvSs F pr body fb)
    (hs : ∀ i, ∀ x, foldedSetIterable iter (F.X i).env x = pure x := by intro _ _; rfl) : EvS F pr (.For tg iter body [] pos) (sFor it tm fb) := by
  intro B Hf H g σ fl g' D E eq q
  obtain ⟨⟨ds, g1⟩, e1, e2⟩ := Option.bind_eq_some_iff.mp eq
  refine ⟨tFor (UI F tg iter) (UG F tg) (USs F body), fun i => ps_for (hp i) (hc i) (pi_U i) (pg_U i) (pss_U i) (hs i), ?_⟩
  refine hi B Hf H g σ ds g1 _ E e1 fun J Hf1 H1 s1 wk => ?_
  let Pv : Nat → L2.St → Hp → Prop := fun i σ' H' => ∃ Hf' g'', SStp F.K pr B Hf H g σ Hf' H' g'' σ' ∧ Evl.Ex Hf1 Hf' ∧ forL tm fb (ds.drop i) g'' = some (fl, g')
  refine ⟨fun i m σ' H' => m = ds.length - i ∧ i ≤ ds.length ∧ Pv i σ' H', ⟨ds.length, by simp, Nat.zero_le _, Hf1, g1, s1.s, Evl.Ex.refl _, by rw [List.drop_zero]; exact e2⟩, ?_⟩
  rintro i m σ' H' ⟨rfl, hi', Hf', g'', s, ex, er⟩
  obtain ⟨go, stop, yld⟩ := wk Hf' H' ex s.env.ex
  by_cases hlt : i < ds.length
  · refine .inr ⟨go i hlt, Pv (i + 1), fun σ2 H2 p => ⟨ds.length - (i + 1), by omega, rfl, hlt, p⟩, fun x H'' y => ?_⟩
    have hd : ds[i]? = some ds[i] := by simp [hlt]
    rw [List.drop_eq_getElem_cons hlt] at er
    obtain ⟨Hf2, t2, en2, rx⟩ := yld i _ x H'' hd y
    have E2 := en2 pr B g'' σ' s.env
    obtain ⟨gt, k1, er1⟩ := Option.bind_eq_some_iff.mp (show ((tm (.dat ds[i]) g'').bind _) = some (fl, g') from er)
    obtain ⟨⟨f1, gb⟩, k2, er2⟩ := Option.bind_eq_some_iff.mp er1
    refine hg B Hf2 H'' g'' σ' (.dat ds[i]) x gt _ E2 rx k1 fun σ3 Hf3 H3 s3 => ?_
    have T3 : SStp F.K pr B Hf H g σ Hf3 H3 gt σ3 := by
      refine s.trans (⟨(t2.wide (fun _ z => z.elim)).trans' s3.tr (fun _ z => z), s3.env, fun p z => ?_, s3.prk⟩ : SStp F.K pr B Hf' H' g'' σ' Hf3 H3 gt σ3)
      rcases s3.sub p z with z | ⟨⟨_, z⟩, _⟩
      · exact .inl z
      · cases z
    have x3 : Evl.Ex Hf1 Hf3 := ex.trans (t2.ex.trans s3.tr.ex)
    refine hb B Hf3 H3 gt σ3 f1 gb _ s3.env k2 fun σ4 Hf4 H4 s4 => ?_
    have T4 := T3.trans s4
    have x4 := x3.trans s4.tr.ex
    cases f1 with
    | nx => exact ⟨Hf4, gb, T4, x4, er2⟩
    | ct => exact ⟨Hf4, gb, T4, x4, er2⟩
    | bk => cases er2; exact q σ4 Hf4 H4 T4
    | rt w => cases er2; exact q σ4 Hf4 H4 T4
  · have e : i = ds.length := by omega
    subst e
    rw [List.drop_length] at er
    cases er
    exact .inl ⟨stop, q σ' Hf' H' s⟩
def whileL (t : MT) (body : MS) : Nat → Gh → Option (Fl × Gh)
  | 0, _ => none
  | n + 1, g => (t g).bind fun b => if b.1 = true then (body b.2).bind fun a => match a.1 with
      | .nx => whileL t body n a.2
      | .ct => whileL t body n a.2
      | .bk => some (.nx, a.2)
      | .rt w => some (.rt w, a.2)
    else some (.nx, b.2)
def sWhile (n : Nat) (t : MT) (body : MS) : MS := whileL t body n
theorem s_while (n : Nat) {c : Expr} {body : List Stmt} {ft : MT} {fb : MS} {pos : Pos} (hp : ∀ i, PassesOwn (model (F.X i).prog (F.X i).w) (F.X i).A (F.X i).env (F.X i).xe) (ht : EvT F pr c ft) (hb : EvSs F pr body fb) : EvS F pr (.While c body [] pos) (sWhile n ft fb) := by
  intro B Hf H g σ fl g' D E eq q
  refine ⟨tWhile (UT F c) (USs F body), fun i => ps_while (hp i) (pt_U i) (pss_U i), ?_⟩
  refine ⟨fun m σ' H' => ∃ Hf' g'', SStp F.K pr B Hf H g σ Hf' H' g'' σ' ∧ whileL ft fb m g'' = some (fl, g'), ⟨n, Hf, g, SStp.refl E, eq⟩, ?_⟩
  rintro m σ' H' ⟨Hf', g'', s, er⟩
  cases m with
  | zero => cases er
  | succ m =>
    obtain ⟨⟨b, g1⟩, k1, er1⟩ := Option.bind_eq_some_iff.mp (show ((ft g'').bind _) = some (fl, g') from er)
    refine ht B Hf' H' g'' σ' b g1 _ s.env k1 fun Hf1 H1 s1 => ?_
    have T1 := s.trans s1.s
    cases b with
    | false => cases er1; exact q σ' Hf1 H1 T1
    | true =>
      rw [if_pos rfl]
      dsimp only at er1
      rw [if_pos rfl] at er1
      obtain ⟨⟨f1, gb⟩, k2, er2⟩ := Option.bind_eq_some_iff.mp er1
      refine ⟨fun σ2 H2 => ∃ Hf2 g2, SStp F.K pr B Hf H g σ Hf2 H2 g2 σ2 ∧ whileL ft fb m g2 = some (fl, g'), fun σ2 H2 p => ⟨m, Nat.lt_succ_self _, p⟩, ?_⟩
      refine hb B Hf1 H1 g1 σ' f1 gb _ s1.env k2 fun σ4 Hf4 H4 s4 => ?_
      have T4 := T1.trans s4
      cases f1 with
      | nx => exact ⟨Hf4, gb, T4, er2⟩
      | ct => exact ⟨Hf4, gb, T4, er2⟩
      | bk => cases er2; exact q σ4 Hf4 H4 T4
      | rt w => cases er2; exact q σ4 Hf4 H4 T4
end
end EV
end
section
set_option maxHeartbeats 2000000
set_option autoImplicit false
namespace EV
open PySem PySem.Spec PyProof.Rows L2
section
variable {F : Fam} {pr : List Nat} {B : Addr → Prop} {Hf H Hf' H' Hf1 H1 Hf2 H2 : Hp} {g g' g1 g2 : Gh} {σ σ' σ1 σ2 : L2.St} {K : Frag} {O : Addr → Prop}
/-! ### what a def promises -/
abbrev MF := Gh → Option (Wv × Gh)
def spM (K : Frag) (n : Nat) (pr : List Nat) (m : MF) : Sp := fun vs H Q _ => vs.length = n ∧ ∃ Hf G w G', En K pr (fun p => H p = none) Hf H G (vs.map some) ∧ (∀ i ∈ pr, ∃ ds, G[i]? = some (.own ds)) ∧ m G = some (w, G') ∧
  ∀ v Hf' H', Stp K pr (fun p => H p = none) Hf H G (vs.map some) Hf' H' G' → WOk K (fun p => H p = none) Hf' H' G' (vs.map some) w v → (∀ i, w ≠ .slot i) → Q v H'
def keepArgs (pr : List Nat) (g0 g1 : Gh) : Gh := g0.mapIdx fun i s => if pr.contains i then g1[i]?.getD .un else s
def bodyM (pr : List Nat) (n : Nat) (f : MS) : MF := fun G => (f (G ++ List.replicate n .un)).bind fun a => match a.1 with
  | .rt w => some (w, keepArgs pr G a.2)
  | .nx => some (.dat .none, keepArgs pr G a.2)
  | _ => none
theorem keep_get {g0 g1 : Gh} {i : Nat} {s : Sl} (h : (keepArgs pr g0 g1)[i]? = some s) (n : s ≠ .un) : (i ∈ pr ∧ g1[i]? = some s) ∨ (i ∉ pr ∧ g0[i]? = some s) := by
  unfold keepArgs at h
  rw [List.getElem?_mapIdx] at h
  cases e : g0[i]? with
  | none => rw [e] at h; cases h
  | some s0 =>
    rw [e] at h
    have h : (if pr.contains i = true then g1[i]?.getD .un else s0) = s := Option.some.inj h
    by_cases c : pr.contains i = true
    · rw [if_pos c] at h
      refine .inl ⟨List.contains_iff_mem.mp c, ?_⟩
      cases e2 : g1[i]? with
      | none => rw [e2] at h; exact absurd h.symm n
      | some s1 => rw [e2] at h; exact congrArg some h
    · rw [if_neg c] at h
      exact .inr ⟨fun z => c (List.contains_iff_mem.mpr z), congrArg some h⟩
theorem start_get {N : List Str} {vs : List V} {i : Nat} {v : V} (h : (L2.start N vs)[i]? = some (some v)) : vs[i]? = some v := by
  unfold L2.start at h
  by_cases hi : i < vs.length
  · rw [List.getElem?_append_left (by simpa using hi), List.getElem?_map] at h
    cases e : vs[i]? with
    | none => rw [e] at h; cases h
    | some a => rw [e] at h; cases h; rfl
  · rw [List.getElem?_append_right (by simpa using hi), List.getElem?_replicate] at h
    split at h <;> cases h
theorem start_of {N : List Str} {vs : List V} {i : Nat} {o : Option V} (h : (vs.map some)[i]? = some o) : (L2.start N vs)[i]? = some o := by
  unfold L2.start
  rw [List.getElem?_append_left (lt_of_get h)]
  exact h
theorem map_get {vs : List V} {i : Nat} {v : V} (h : vs[i]? = some v) : (vs.map some)[i]? = some (some v) := by
  rw [List.getElem?_map, h]; rfl
theorem def_ok {P : Program} {w : World} {mg : Str → Option Value} {base : Heap} {x qual : Str} {st : Stmt} {f : Addr} {fd : FuncData} {N ps : List Str} {k n : Nat} {m : MS} (Fu : Fun K x qual st f fd) (S : FnScope N ps (defScope st))
    (hn : N.length = ps.length + n) (hb : ∀ (cdv : Value) (A : Around) (outer : List PySem.Env) (s : Shared) (H : Hp) (E : XK), Room k (A.deeper (envOfC qual (defScope st) s.heap.objs.size f cdv)) →
      EvSs (Fam.one (cxOf CX0 P w K mg base N qual (defScope st) f cdv A outer s H E).nox) pr (defBody st) m) : FnOk P w K mg base CX0 (k + 1) f fd ps (spM K ps.length pr (bodyM pr n m)) := by
  refine Fu.ok S (fun vs H Q E h => h.1) fun cdv A outer s H vs Q E hr h => ?_
  obtain ⟨hl, Hf, G, w, G', En0, hown, em, q⟩ := h
  obtain ⟨⟨fl, g2⟩, e1, e2⟩ := Option.bind_eq_some_iff.mp em
  have lenG : G.length = vs.length := by have := En0.len; rwa [List.length_map] at this
  have ga : ∀ {i : Nat} {sl : Sl}, (G ++ List.replicate n Sl.un)[i]? = some sl → sl ≠ .un → G[i]? = some sl := fun {i sl} h1 h2 => by
    by_cases hi : i < G.length
    · rwa [List.getElem?_append_left hi] at h1
    · rw [List.getElem?_append_right (by omega), List.getElem?_replicate] at h1
      split at h1
      · cases h1; exact absurd rfl h2
      · cases h1
  have E1 : En K pr (fun p => H p = none) Hf H (G ++ List.replicate n .un) (L2.start N vs) := by
    refine ⟨En0.ex, ?_, fun i sl h1 h2 => ?_, fun i j ds es p h1 o1 h2 o2 k1 k2 => ?_, En0.nb, fun i ds p h1 o1 k1 => ?_, fun i ds p h1 hp => En0.obi i ds p (ga h1 (ow_ne (inn_ow hp))) hp⟩
    · unfold L2.start
      rw [List.length_append, List.length_append, List.length_map, List.length_replicate, List.length_replicate]; omega
    · obtain ⟨v, e, so⟩ := En0.ok i sl (ga h1 h2) h2
      exact ⟨v, start_of e, so⟩
    · exact En0.dis i j ds es p (ga h1 (ow_ne o1)) o1 (ga h2 (ow_ne o2)) o2 (k1.imp fun z => map_get (start_get z)) (k2.imp fun z => map_get (start_get z))
    · exact En0.ob i ds p (ga h1 (ow_ne o1)) o1 (map_get (start_get k1))
  have ow : ∀ p, Own (G ++ List.replicate n .un) (L2.start N vs) p → Own G (vs.map some) p := fun p ⟨i, ds, h1, o, h2⟩ => ⟨i, ds, ga h1 (ow_ne o), o, h2.imp fun z => map_get (start_get z)⟩
  have fin : ∀ σ' Hf' H', SStp K pr (fun p => H p = none) Hf H (G ++ List.replicate n .un) (L2.start N vs) Hf' H' g2 σ' → Stp K pr (fun p => H p = none) Hf H G (vs.map some) Hf' H' (keepArgs pr G g2) ∧ ∀ p, Own (keepArgs pr G g2) (vs.map some) p → Own g2 σ' p := fun σ' Hf' H' s => by
    -- the slots that are handed on stand as they stood
    have at_ : ∀ {i : Nat} {v : V}, i ∈ pr → (vs.map some)[i]? = some (some v) → σ'[i]? = some (some v) := fun {i v} hi e => (s.prk i hi).trans (start_of e)
    have noown : ∀ (i : Nat) (sl : Sl), i ∉ pr → G[i]? = some sl → sl.ow = true → False := fun i sl hi h o => by
      obtain ⟨v, k0, so⟩ := En0.ok i sl h (ow_ne o)
      obtain ⟨p, u, rfl, k1, _⟩ := so.there o
      rcases En0.ob i sl p h o k0 with z | z
      · exact hi z
      · rw [k1] at z; cases z
    have o2 : ∀ p, Own (keepArgs pr G g2) (vs.map some) p → Own g2 σ' p := fun p ⟨i, ds, h1, o, h2⟩ => by
      rcases keep_get h1 (ow_ne o) with ⟨hi, h3⟩ | ⟨hi, h3⟩
      · exact ⟨i, ds, h3, o, h2.imp (at_ hi)⟩
      · exact (noown i ds hi h3 o).elim
    refine ⟨⟨⟨s.tr.ex, fun p o hp no => s.tr.keep p o hp fun z => no (ow p z), s.tr.stay⟩, ⟨s.env.ex, ?_, fun i sl h1 h2 => ?_, fun i j ds es p h1 o1 h2 o2 k1 k2 => ?_, s.env.nb, fun i ds p h1 o1 k1 => ?_, fun i ds p h1 hp => ?_⟩, fun p z => ?_⟩, o2⟩
    · unfold keepArgs
      rw [List.length_mapIdx]; exact En0.len
    · rcases keep_get h1 h2 with ⟨hi, h3⟩ | ⟨hi, h3⟩
      · obtain ⟨ds0, hg⟩ := hown i hi
        obtain ⟨p, us, k0, _⟩ := En0.own_val hg
        obtain ⟨v, e, so⟩ := s.env.ok i sl h3 h2
        rw [at_ hi k0] at e; cases e
        exact ⟨_, k0, so⟩
      · obtain ⟨v, e, so⟩ := En0.ok i sl h3 h2
        refine ⟨v, e, ?_⟩
        cases sl with
        | un => trivial
        | val d => exact Rep.mono s.tr.ex so
        | own ds => exact (noown i _ hi h3 rfl).elim
        | raw x => exact so
        | x d => exact XOk.mono s.tr.ex so
        | dic t es => exact (noown i _ hi h3 rfl).elim
        | tab t es => exact (noown i _ hi h3 rfl).elim
        | grp t es => exact (noown i _ hi h3 rfl).elim
        | rg a b =>
          obtain ⟨q, e, h1⟩ := so
          exact ⟨q, e, s.tr.ex _ _ h1⟩
    · rcases keep_get h1 (ow_ne o1) with ⟨hi, h3⟩ | ⟨hi, h3⟩
      · rcases keep_get h2 (ow_ne o2) with ⟨hj, h4⟩ | ⟨hj, h4⟩
        · exact s.env.dis i j ds es p h3 o1 h4 o2 (k1.imp (at_ hi)) (k2.imp (at_ hj))
        · exact (noown j es hj h4 o2).elim
      · exact (noown i ds hi h3 o1).elim
    · rcases keep_get h1 (ow_ne o1) with ⟨hi, h3⟩ | ⟨hi, h3⟩
      · exact .inl hi
      · exact (noown i ds hi h3 o1).elim
    · rcases keep_get h1 (ow_ne (inn_ow hp)) with ⟨hi, h3⟩ | ⟨hi, h3⟩
      · exact absurd hi (s.env.obi i ds p h3 hp).2
      · exact (noown i ds hi h3 (inn_ow hp)).elim
    · obtain ⟨i, ds, h1, o1, h2⟩ := z
      rcases keep_get h1 (ow_ne o1) with ⟨hi, h3⟩ | ⟨hi, h3⟩
      · have nin : ds.inn = [] := by
          cases hq : ds.inn with
          | nil => rfl
          | cons a b => exact absurd hi (s.env.obi i ds a h3 (by rw [hq]; exact List.mem_cons_self)).2
        have h2 := h2.eq nin
        rcases s.sub p ⟨i, ds, h3, o1, .inl (at_ hi h2)⟩ with z | z
        · exact ow p z
        · obtain ⟨ds0, hg⟩ := hown i hi
          obtain ⟨p', us, k0, k1, _⟩ := En0.own_val hg
          rw [k0] at h2; cases h2
          rw [k1] at z; cases z
      · exact (noown i ds hi h3 o1).elim
  have wk : ∀ {σ' : L2.St} {Hf' H' : Hp} {w' : Wv} {v : V}, (∀ p, Own (keepArgs pr G g2) (vs.map some) p → Own g2 σ' p) → WOk K (fun p => H p = none) Hf' H' g2 σ' w' v → (∀ i, w' ≠ .slot i) → WOk K (fun p => H p = none) Hf' H' (keepArgs pr G g2) (vs.map some) w' v := fun {σ' Hf' H' w' v} o2 h hs => by
    cases w' with
    | dat d => exact h
    | fresh ds =>
      obtain ⟨p, us, rfl, hb, hf, hq, r, no⟩ := h
      exact ⟨p, us, rfl, hb, hf, hq, r, fun z => no (o2 p z)⟩
    | slot i => exact absurd rfl (hs i)
    | raw x => exact h
    | x d => exact h
  have body := hb cdv A outer s H E hr (fun p => H p = none) Hf H _ (L2.start N vs) fl g2 { nx := fun _ H' => Q .non H', rt := Q } E1 e1 fun σ' Hf' H' s => by
    obtain ⟨s2, o2⟩ := fin σ' Hf' H' s
    cases fl with
    | nx => cases e2; exact q .non Hf' H' s2 .non (fun _ z => nomatch z)
    | rt w' => cases e2; exact fun v h hs => q v Hf' H' s2 (wk o2 h hs) hs
    | bk => cases e2
    | ct => cases e2
  obtain ⟨t, ht, hq⟩ := body
  exact ⟨t, ht (), hq⟩
/-! ### calls -/
theorem En.step (E : En K pr B Hf H g σ) (t : Tr O Hf H Hf' H') (no : ∀ p, Own g σ p → ¬ O p) (ex : Evl.Ex Hf' H') : En K pr B Hf' H' g σ where
  ex := ex
  len := E.len
  ok := fun i s e n => by
    obtain ⟨v, e1, s1⟩ := E.ok i s e n
    refine ⟨v, e1, ?_⟩
    exact s1.stay t.ex fun q u o z h2 h1 => by
      obtain ⟨k1, k2⟩ := t.keep q _ h2 (no q ⟨i, s, e, o, by rw [e1]; exact z⟩)
      exact ⟨k1, k2.trans h1⟩
  dis := E.dis
  nb := fun p h => E.nb p (t.stay p h)
  ob := E.ob
  obi := E.obi
/-- arguments that are handed on as data -/
def toSls : List Wv → Gh → Option (List Sl × Gh)
  | [], g => some ([], g)
  | .raw v :: ws, g => (toSls ws g).bind fun b => some (.raw v :: b.1, b.2)
  | .x d :: ws, g => (toSls ws g).bind fun b => some (.x d :: b.1, b.2)
  | w :: ws, g => (toD w g).bind fun a => (toSls ws a.2).bind fun b => some (.val a.1 :: b.1, b.2)
/-- the slots of a callee: data alone -/
inductive SlAll (K : Frag) (Hf : Hp) : List Sl → List V → Prop
  | nil : SlAll K Hf [] []
  | val {d : Da} {v : V} {ss : List Sl} {vs : List V} : Rep K Hf v d → SlAll K Hf ss vs → SlAll K Hf (.val d :: ss) (v :: vs)
  | raw {v : V} {ss : List Sl} {vs : List V} : SlAll K Hf ss vs → SlAll K Hf (.raw v :: ss) (v :: vs)
  | x {d : Xd} {v : V} {ss : List Sl} {vs : List V} : XOk K Hf d v → SlAll K Hf ss vs → SlAll K Hf (.x d :: ss) (v :: vs)
theorem SlAll.mono (e : Evl.Ex Hf Hf') : ∀ {ss : List Sl} {vs : List V}, SlAll K Hf ss vs → SlAll K Hf' ss vs
  | _, _, .nil => .nil
  | _, _, .val a b => .val (a.mono e) (SlAll.mono e b)
  | _, _, .raw b => .raw (SlAll.mono e b)
  | _, _, .x a b => .x (XOk.mono e a) (SlAll.mono e b)
theorem SlAll.len : ∀ {ss : List Sl} {vs : List V}, SlAll K Hf ss vs → ss.length = vs.length
  | _, _, .nil => rfl
  | _, _, .val _ b => by simp [SlAll.len b]
  | _, _, .raw b => by simp [SlAll.len b]
  | _, _, .x _ b => by simp [SlAll.len b]
theorem SlAll.get : ∀ {ss : List Sl} {vs : List V} {i : Nat} {s : Sl}, SlAll K Hf ss vs → ss[i]? = some s → ∃ v, vs[i]? = some v ∧ SlotOk K Hf H s v ∧ s.ow = false
  | _, _, _, _, .nil, h => by simp at h
  | _, _, 0, _, .val a b, h => by simp at h; subst h; exact ⟨_, rfl, a, rfl⟩
  | _, _, 0, _, .raw b, h => by simp at h; subst h; exact ⟨_, rfl, rfl, rfl⟩
  | _, _, 0, _, .x a b, h => by simp at h; subst h; exact ⟨_, rfl, a, rfl⟩
  | _, _, i + 1, _, .val a b, h => by
    obtain ⟨v, e, r⟩ := SlAll.get b (i := i) (by simpa using h)
    exact ⟨v, by simpa using e, r⟩
  | _, _, i + 1, _, .raw b, h => by
    obtain ⟨v, e, r⟩ := SlAll.get b (i := i) (by simpa using h)
    exact ⟨v, by simpa using e, r⟩
  | _, _, i + 1, _, .x _ b, h => by
    obtain ⟨v, e, r⟩ := SlAll.get b (i := i) (by simpa using h)
    exact ⟨v, by simpa using e, r⟩
theorem toSls_ok : ∀ {ws : List Wv} {vs : List V} {ss : List Sl} {Hf1 : Hp} {g1 g' : Gh}, Stp K pr B Hf H g σ Hf1 H1 g1 → WAll K B Hf1 H1 g1 σ ws vs → YAll H ws vs → toSls ws g1 = some (ss, g') →
    ∃ Hf', Stp K pr B Hf H g σ Hf' H1 g' ∧ Evl.Ex Hf1 Hf' ∧ SlAll K Hf' ss vs
  | _, _, ds, Hf1, g1, g2, s, .nil, _, e => by cases e; exact ⟨Hf1, s, Evl.Ex.refl _, .nil⟩
  | _, _, ds, Hf1, g1, g3, s, @WAll.cons _ _ _ _ _ _ w v ws vs a b c, .cons y ys, e => by
    have dat : ∀ (_ : (toD w g1).bind (fun a => (toSls ws a.2).bind fun b => some (Sl.val a.1 :: b.1, b.2)) = some (ds, g3)), ∃ Hf', Stp K pr B Hf H g σ Hf' H1 g3 ∧ Evl.Ex Hf1 Hf' ∧ SlAll K Hf' ds (v :: vs) := fun e => by
      obtain ⟨⟨d, g2⟩, e1, e⟩ := Option.bind_eq_some_iff.mp e
      obtain ⟨⟨ds', g4⟩, e2, e⟩ := Option.bind_eq_some_iff.mp e
      cases e
      obtain ⟨Hf2, E2, r, ex, sb, k⟩ := toD_ok s.env a e1
      have s2 : Stp K pr B Hf H g σ Hf2 H1 g2 := by
        refine ⟨⟨s.tr.ex.trans ex, fun p o hp no => ?_, s.tr.stay⟩, E2, fun p z => s.sub p (sb p z)⟩
        obtain ⟨k1, k2⟩ := s.tr.keep p o hp no
        refine ⟨k1, ?_⟩
        rcases k p o k1 (fun z => no (s.sub p z)) with z | ⟨⟨es, z⟩, z2⟩
        · exact z.trans k2
        · have := y es z p z2
          rw [hp] at this; cases this
      obtain ⟨Hf', s3, ex3, r3⟩ := toSls_ok s2 (WAll.frz ex sb k c b) ys e2
      exact ⟨Hf', s3, ex.trans ex3, .val (r.mono ex3) r3⟩
    cases w with
    | raw x =>
      obtain ⟨⟨ss', g4⟩, e2, e⟩ := Option.bind_eq_some_iff.mp (show ((toSls ws g1).bind fun b => some (Sl.raw x :: b.1, b.2)) = some (ds, g3) from e)
      cases e
      have a : v = x := a
      subst a
      obtain ⟨Hf', s3, ex3, r3⟩ := toSls_ok s c ys e2
      exact ⟨Hf', s3, ex3, .raw r3⟩
    | x d =>
      obtain ⟨⟨ss', g4⟩, e2, e⟩ := Option.bind_eq_some_iff.mp (show ((toSls ws g1).bind fun b => some (Sl.x d :: b.1, b.2)) = some (ds, g3) from e)
      cases e
      have a : XOk K Hf1 d v := a
      obtain ⟨Hf', s3, ex3, r3⟩ := toSls_ok s c ys e2
      exact ⟨Hf', s3, ex3, .x (XOk.mono ex3 a) r3⟩
    | dat d => exact dat e
    | fresh es => exact dat e
    | slot i => exact dat e
/-- a call of a def whose arguments are data -/
def mFn (m : MF) (fa : MA) : ME := fun g => (fa g).bind fun a => (toSls a.1 a.2).bind fun r => (m r.1).bind fun c => some (c.1, r.2)
theorem yall_len : ∀ {ws : List Wv} {vs : List V}, YAll H ws vs → ws.length = vs.length
  | _, _, .nil => rfl
  | _, _, .cons a b => by simp [yall_len b]
theorem fn_core {n : Nat} {m : MF} {ws : List Wv} {vs : List V} {ss : List Sl} {wc : Wv} {gc : Gh} {Q : VK} {E : XK} (s1 : Stp F.K pr B Hf H g σ Hf1 H1 g1) (w1 : WAll F.K B Hf1 H1 g1 σ ws vs) (y1 : YAll H ws vs) (e2 : toSls ws g1 = some (ss, g2)) (hl : ws.length = n) (e3 : m ss = some (wc, gc))
    (q : ∀ v Hf' H', Stp F.K pr B Hf H g σ Hf' H' g2 → WOk F.K B Hf' H' g2 σ wc v → Yng H wc v → Q v H') : spM F.K n [] m vs H1 Q E := by
  obtain ⟨Hf2, s2, _, sa⟩ := toSls_ok s1 w1 y1 e2
  have noown : ∀ (i : Nat) (t : Sl), ss[i]? = some t → t.ow = true → False := fun i t h o => by
    obtain ⟨v, _, _, no⟩ := SlAll.get (H := H1) sa h
    rw [o] at no; cases no
  refine ⟨by rw [← yall_len y1]; exact hl, Hf2, ss, wc, gc, ⟨s2.env.ex, by rw [List.length_map]; exact sa.len, fun i s h _ => ?_, fun i j ds es p h1 o1 => (noown i ds h1 o1).elim, fun p h => h, fun i ds p h1 o1 => (noown i ds h1 o1).elim, fun i ds p h1 hp => (noown i ds h1 (inn_ow hp)).elim⟩, fun i hi => absurd hi (by simp), e3, fun v Hf' H' sc wk ns => ?_⟩
  · obtain ⟨v, e, so, _⟩ := SlAll.get (H := H1) sa h
    exact ⟨v, map_get e, so⟩
  · have no : ∀ p, ¬ Own ss (vs.map some) p := fun p ⟨i, ds, h1, o, _⟩ => noown i ds h1 o
    have E3 : En F.K pr B Hf' H' g2 σ := s2.env.step sc.tr (fun p _ => no p) sc.env.ex
    have s3 : Stp F.K pr B Hf H g σ Hf' H' g2 := ⟨s2.tr.trans' (sc.tr.wide (O1 := Own g2 σ) fun p z => (no p z).elim) s2.sub, E3, s2.sub⟩
    refine q v Hf' H' s3 ?_ ?_
    · cases wc with
      | dat d => exact wk
      | fresh ds =>
        obtain ⟨p, us, rfl, hb, hf, hq, r, n'⟩ := wk
        exact ⟨p, us, rfl, s2.env.nb p hb, hf, hq, r, s2.env.own_none hb⟩
      | slot i => exact absurd rfl (ns i)
      | raw x => exact wk
      | x d => exact wk
    · intro ds e p e'
      subst e
      obtain ⟨p', us, e'', hb, _⟩ := wk
      rw [e'] at e''; cases e''
      exact s2.tr.stay _ hb
theorem fn_ok {es : List Expr} {fa : MA} {n : Nat} {m : MF} (ha : EvA F pr es fa) (hn : ∀ g ws g', fa g = some (ws, g') → ws.length = n) {w : Wv} {Q : VK} {E : XK} (En0 : En F.K pr B Hf H g σ) (eq : mFn m fa g = some (w, g'))
    (q : ∀ v Hf' H', Stp F.K pr B Hf H g σ Hf' H' g' → WOk F.K B Hf' H' g' σ w v → Yng H w v → Q v H') : tCall (spM F.K n [] m) [] E (UA F es) σ H Q := by
  obtain ⟨⟨ws, g1⟩, e1, eq1⟩ := Option.bind_eq_some_iff.mp eq
  obtain ⟨⟨ss, g2⟩, e2, eq2⟩ := Option.bind_eq_some_iff.mp eq1
  obtain ⟨⟨wc, gc⟩, e3, eq3⟩ := Option.bind_eq_some_iff.mp eq2
  cases eq3
  refine ha B Hf H g σ ws g1 _ En0 e1 fun vs Hf1 H1 s1 w1 y1 => ?_
  rw [List.append_nil]
  exact fn_core s1 w1 y1 e2 (hn g ws g1 e1) e3 q
theorem ev_fn {x : Str} {e : Expr} {es : List Expr} {fa : MA} {n k : Nat} {m : MF} {f : Addr} {fd : FuncData} {ps : List Str} {p pos : Pos} (FO : ∀ i, FnOk (F.X i).prog (F.X i).w (F.X i).K (F.X i).mg (F.X i).base CX0 k f fd ps (spM F.K n [] m)) (hr : ∀ i, Room k (F.X i).A) (hm : ∀ i, (F.X i).mg x = some (.ref f)) (hk : ∀ i, PySem.W.keepIn (F.X i).K (.ref f) = true) (hb : ∀ i, Binds (F.X i).K fd ps [])
    (ha : EvA F pr (e :: es) fa) (hn : ∀ g ws g', fa g = some (ws, g') → ws.length = n) (hg : ∀ i, Gl (F.X i) x := by intro _; rfl) (hdb : (x == ("__debug__" : Str)) = false := by decide)
    (he : ∀ i, starEach (e :: es) (F.X i).env = (false, eval e (F.X i).env) :: starEach es (F.X i).env := by intro _; rfl) (hpl : ∀ i, (backTo pos (starEach es (F.X i).env)).any (·.1) = false := by intro _; rfl) : Ev F pr (.Call (.Name x p) (e :: es) [] pos) (mFn m fa) := by
  intro B Hf H g σ w g' Q E eq q
  exact ⟨_, fun i => pe_call (FO i) (hr i) (hg i) (hm i) (hk i) (hb i) .nil pass0 (pa_U i) hdb (he i) (hpl i), fn_ok ha hn E eq q⟩
def mFn0 (m : MF) : ME := fun g => (m []).bind fun c => some (c.1, g)
/-- a call whose first argument is a list that a name owns: the callee may change it -/
def mFnD (m : MF) (fa : MA) : ME := fun g => (fa g).bind fun a => match a.1 with
  | .slot i :: ws => (toSls ws a.2).bind fun r => match r.2[i]? with
    | some (.own ds) => (m (.own ds :: r.1)).bind fun c => match c.2 with
      | s :: _ => some (c.1, r.2.set i s)
      | [] => none
    | _ => none
  | _ => none
theorem fnD_ok {es : List Expr} {fa : MA} {n : Nat} {m : MF} (ha : EvA F pr es fa) (hn : ∀ g ws g', fa g = some (ws, g') → ws.length = n) {w : Wv} {Q : VK} {E : XK} (En0 : En F.K pr B Hf H g σ) (eq : mFnD m fa g = some (w, g'))
    (q : ∀ v Hf' H', Stp F.K pr B Hf H g σ Hf' H' g' → WOk F.K B Hf' H' g' σ w v → Yng H w v → Q v H') : tCall (spM F.K n [0] m) [] E (UA F es) σ H Q := by
  obtain ⟨⟨ws0, g1⟩, e1, eq1⟩ := Option.bind_eq_some_iff.mp eq
  dsimp only at eq1
  split at eq1
  · rename_i i ws
    obtain ⟨⟨ss, g2⟩, e2, eq2⟩ := Option.bind_eq_some_iff.mp eq1
    dsimp only at eq2
    split at eq2
    · rename_i ds hg
      obtain ⟨⟨wc, gc⟩, e3, eq3⟩ := Option.bind_eq_some_iff.mp eq2
      dsimp only at eq3
      split at eq3
      · rename_i s rest
        cases eq3
        refine ha B Hf H g σ _ g1 _ En0 e1 fun vs0 Hf1 H1 s1 w1 y1 => ?_
        rw [List.append_nil]
        have lw : (Wv.slot i :: ws).length = vs0.length := by
          have go : ∀ {ws : List Wv} {vs : List V}, YAll H ws vs → ws.length = vs.length := by
            intro ws vs h
            induction h with
            | nil => rfl
            | cons a b ih => simp [ih]
          exact go y1
        cases w1 with
        | @cons _ v0 _ vs a b c =>
          cases y1 with
          | cons y ys =>
            obtain ⟨Hf2, s2, _, sa⟩ := toSls_ok s1 c ys e2
            have a : σ[i]? = some (some v0) := a
            obtain ⟨p, us, k0, k1, k2, k3, ow⟩ := s2.env.own_val hg
            rw [a] at k0; cases k0
            have noown : ∀ (j : Nat) (t : Sl), ss[j]? = some t → t.ow = true → False := fun j t h o => by
              obtain ⟨v, _, _, no⟩ := SlAll.get (H := H1) sa h
              rw [o] at no; cases no
            have own0 : ∀ z, Own (.own ds :: ss) ((V.ref p :: vs).map some) z → z = p := fun z ⟨j, es, h1, o, h2⟩ => by
              cases j with
              | zero => simp at h1; subst h1; have h2 := h2.eq; simp at h2; exact h2.symm
              | succ j => exact (noown j es (by simpa using h1) o).elim
            refine ⟨by rw [← lw]; exact hn g _ g1 e1, Hf2, .own ds :: ss, w, s :: rest, ⟨s2.env.ex, by rw [List.length_map, List.length_cons, List.length_cons, sa.len], fun j t h _ => ?_, fun j1 j2 ds' es z h1 o1 h2 o2 l1 l2 => ?_, fun p h => h, fun j ds' z h1 o1 _ => ?_, fun j ds' z h1 hp => by
              cases j with
              | zero => simp at h1; subst h1; cases hp
              | succ j => exact (noown j ds' (by simpa using h1) (inn_ow hp)).elim⟩, fun j hj => ⟨ds, by simp at hj; subst hj; rfl⟩, e3, fun v Hf' H' sc wk ns => ?_⟩
            · cases j with
              | zero => simp at h; subst h; exact ⟨.ref p, rfl, p, us, rfl, k2, k1, k3⟩
              | succ j =>
                obtain ⟨v, e, so, _⟩ := SlAll.get (H := H1) sa (i := j) (by simpa using h)
                exact ⟨v, map_get (by simpa using e), so⟩
            · cases j1 with
              | zero =>
                cases j2 with
                | zero => rfl
                | succ j2 => exact (noown j2 es (by simpa using h2) o2).elim
              | succ j1 => exact (noown j1 ds' (by simpa using h1) o1).elim
            · cases j with
              | zero => exact .inl (by simp)
              | succ j => exact (noown j ds' (by simpa using h1) o1).elim
            · -- behind the call
              have n2 := s2.env.not_own_drop hg a
              have Ed : En F.K pr B Hf' H' (g2.set i .un) σ := (s2.env.drop i).step sc.tr (fun z hz hz2 => by
                have := own0 z hz2
                subst this
                exact n2 hz) sc.env.ex
              have nin : s.inn = [] := by
                cases hq : s.inn with
                | nil => rfl
                | cons a b => exact absurd (by simp) (sc.env.obi 0 s a rfl (by rw [hq]; exact List.mem_cons_self)).2
              have so : SlotOk F.K Hf' H' s (.ref p) := by
                cases s with
                | un => trivial
                | val d => obtain ⟨v', e, so⟩ := sc.env.ok 0 _ rfl (by simp); cases e; exact so
                | own es => obtain ⟨v', e, so⟩ := sc.env.ok 0 _ rfl (by simp); cases e; exact so
                | raw x => obtain ⟨v', e, so⟩ := sc.env.ok 0 _ rfl (by simp); cases e; exact so
                | x d => obtain ⟨v', e, so⟩ := sc.env.ok 0 _ rfl (by simp); cases e; exact so
                | dic t es => obtain ⟨v', e, so⟩ := sc.env.ok 0 _ rfl (by simp); cases e; exact so
                | tab t es => obtain ⟨v', e, so⟩ := sc.env.ok 0 _ rfl (by simp); cases e; exact so
                | grp t es => obtain ⟨v', e, so⟩ := sc.env.ok 0 _ rfl (by simp); cases e; exact so
                | rg x y => obtain ⟨v', e, so⟩ := sc.env.ok 0 _ rfl (by simp); cases e; exact so
              have E3 := Ed.put_slotS (i := i) (s := s) a so (fun _ z e => by cases e; exact ⟨by rw [List.set_set]; exact n2, s2.env.ob i _ p hg rfl a⟩) nin
              rw [List.set_set] at E3
              have sub3 : ∀ z, Own (g2.set i s) σ z → Own g2 σ z := fun z hz => by
                rcases own_putS hz with hz | ⟨_, hz⟩
                · exact own_drop hz
                · have hz := hz.eq nin; rw [a] at hz; cases hz; exact ow
              have s3 : Stp F.K pr B Hf H g σ Hf' H' (g2.set i s) := ⟨s2.tr.trans' (sc.tr.wide (O1 := Own g2 σ) fun z hz => by rw [own0 z hz]; exact ow) s2.sub, E3, fun z hz => s2.sub z (sub3 z hz)⟩
              refine q v Hf' H' s3 ?_ ?_
              · cases w with
                | dat d => exact wk
                | fresh es =>
                  obtain ⟨z, us', rfl, hb, hf, hq, r, n'⟩ := wk
                  exact ⟨z, us', rfl, s2.env.nb z hb, hf, hq, r, fun hz => s2.env.own_none hb (sub3 z hz)⟩
                | slot i => exact absurd rfl (ns i)
                | raw x => exact wk
                | x d => exact wk
              · intro es e z e'
                subst e
                obtain ⟨z', us', e'', hb, _⟩ := wk
                rw [e'] at e''; cases e''
                exact s2.tr.stay _ hb
      · cases eq3
    · cases eq2
  · cases eq1
theorem ev_fnD {x : Str} {e : Expr} {es : List Expr} {fa : MA} {n k : Nat} {m : MF} {f : Addr} {fd : FuncData} {ps : List Str} {p pos : Pos} (FO : ∀ i, FnOk (F.X i).prog (F.X i).w (F.X i).K (F.X i).mg (F.X i).base CX0 k f fd ps (spM F.K n [0] m)) (hr : ∀ i, Room k (F.X i).A) (hm : ∀ i, (F.X i).mg x = some (.ref f)) (hk : ∀ i, PySem.W.keepIn (F.X i).K (.ref f) = true) (hb : ∀ i, Binds (F.X i).K fd ps [])
    (ha : EvA F pr (e :: es) fa) (hn : ∀ g ws g', fa g = some (ws, g') → ws.length = n) (hg : ∀ i, Gl (F.X i) x := by intro _; rfl) (hdb : (x == ("__debug__" : Str)) = false := by decide)
    (he : ∀ i, starEach (e :: es) (F.X i).env = (false, eval e (F.X i).env) :: starEach es (F.X i).env := by intro _; rfl) (hpl : ∀ i, (backTo pos (starEach es (F.X i).env)).any (·.1) = false := by intro _; rfl) : Ev F pr (.Call (.Name x p) (e :: es) [] pos) (mFnD m fa) := by
  intro B Hf H g σ w g' Q E eq q
  exact ⟨_, fun i => pe_call (FO i) (hr i) (hg i) (hm i) (hk i) (hb i) .nil pass0 (pa_U i) hdb (he i) (hpl i), fnD_ok ha hn E eq q⟩
/-- how many an argument list gives -/
theorem na_nil : ∀ g ws g', mNil g = some (ws, g') → ws.length = 0 := fun g ws g' e => by cases e; rfl
theorem na_cons {f : ME} {fs : MA} {n : Nat} (h : ∀ g ws g', fs g = some (ws, g') → ws.length = n) : ∀ g ws g', mCons f fs g = some (ws, g') → ws.length = n + 1 := fun g ws g' e => by
  obtain ⟨a, e1, e⟩ := Option.bind_eq_some_iff.mp e
  obtain ⟨b, e2, e⟩ := Option.bind_eq_some_iff.mp e
  cases e
  rw [List.length_cons, h a.2 b.1 b.2 e2]
theorem vals_ints' : ∀ (ns : List Int) (ts : List Tok), ns.length = ts.length → Vals (ns.map V.int) (List.zipWith Value.int ns ts)
  | [], [], _ => .nil
  | n :: ns, t :: ts, h => .cons ⟨t, rfl⟩ (vals_ints' ns ts (by simpa using h))
/-- a tuple of ints of the module -/
theorem rep_tupK {a : Addr} {dd : Option Addr} {n : Nat} {sl : Array (Option Value)} (ns : List Int) (ts : List Tok) {its : Array Value} (h : K.lookup a = some ⟨.type "tuple", dd, .seq its n, sl⟩) (e : its.toList = List.zipWith Value.int ns ts) (hl : ns.length = ts.length) (hz : ns.length ≤ 1000) (Hf : Hp) :
    Rep K Hf (.ref a) (.tuple (ns.map PyData.int)) := by
  refine .tup (xs := ns.map V.int) (.inr ⟨_, its, n, h, rfl, rfl, ?_, ?_⟩) (RepAll.of_ints ns)
  · have : its.size = ns.length := by
      rw [← Array.length_toList, e, List.length_zipWith, hl, Nat.min_self]
    rw [this]
    exact Nat.le_trans hz (by decide)
  · rw [e]; exact vals_ints' ns ts hl
def fuel : Nat := 18446744073709551616
end
end EV
end
section
set_option maxHeartbeats 2000000
set_option autoImplicit false
/-! further: ranges made to tuples and lists, walked backwards; pop(i); extend; sorted ints -/
namespace EV
open PySem PySem.Spec PyProof.Rows L2
section
variable {F : Fam} {pr : List Nat} {K : Frag} {B : Addr → Prop} {Hf H : Hp} {g g' : Gh} {σ : L2.St}
/-! ### ranges -/
abbrev MR := Gh → Option ((Int × Int) × Gh)
def EvRg (F : Fam) (pr : List Nat) (e : Expr) (m : MR) : Prop := ∀ (B : Addr → Prop) (Hf H : Hp) (g : Gh) (σ : L2.St) (a b : Int) (g' : Gh) (R : Int → Int → Hp → Prop), En F.K pr B Hf H g σ → m g = some ((a, b), g') →
  (∀ Hf' H', Stp F.K pr B Hf H g σ Hf' H' g' → okRg a = true → okRg b = true → R a b H') → ∃ t, (∀ i, PRg (F.X i) e t) ∧ t σ H R
def mRr1 (f : ME) : MR := fun g => (f g).bind fun a => (look a.1 a.2).bind fun x => match x with
  | .int j => if okRg j = true then some ((0, j), a.2) else none
  | _ => none
def mRr2 (f h : ME) : MR := fun g => (f g).bind fun a => (h a.2).bind fun b => (look a.1 b.2).bind fun x => (look b.1 b.2).bind fun y => match x, y with
  | .int i, .int j => if okRg i = true ∧ okRg j = true then some ((i, j), b.2) else none
  | _, _ => none
theorem er_1 {a : Expr} {f : ME} {p pos : Pos} (hm : ∀ i, (F.X i).mg "range" = none) (h : Ev F pr a f) (hg : ∀ i, Gl (F.X i) "range" := by intro _; rfl) (hs : ∀ i, starEach [a] (F.X i).env = (false, eval a (F.X i).env) :: starEach [] (F.X i).env := by intro _; rfl) :
    EvRg F pr (.Call (.Name "range" p) [a] [] pos) (mRr1 f) := by
  intro B Hf H g σ x y g' R E eq q
  obtain ⟨⟨wa, g1⟩, e1, eq1⟩ := Option.bind_eq_some_iff.mp eq
  obtain ⟨d, e2, eq2⟩ := Option.bind_eq_some_iff.mp eq1
  dsimp only at eq2
  split at eq2
  · rename_i j
    split at eq2
    · rename_i hj
      cases eq2
      refine ⟨tRg1 (U F a), fun i => prg_1 (hg i) (hm i) (pe_U i) (hs i), ?_⟩
      refine h B Hf H g σ wa _ _ E e1 fun v Hf1 H1 s1 w1 y1 => ?_
      have l : RL F.K Hf1 H1 v (.int _) := look_ok s1.env w1 e2
      cases l.int
      exact ⟨_, rfl, q Hf1 H1 s1 rfl hj⟩
    · cases eq2
  · cases eq2
def mTupRg (m : MR) : ME := fun g => (m g).bind fun a => if (a.1.2 - a.1.1).toNat ≤ sizeLine then some (.dat (.tuple (rgD a.1.1 a.1.2)), a.2) else none
def mLstRg (m : MR) : ME := fun g => (m g).bind fun a => if (a.1.2 - a.1.1).toNat ≤ sizeLine then some (.fresh (rgD a.1.1 a.1.2), a.2) else none
/-- reversed(range(..)) -/
def mRevR (m : MR) : MI := fun g => (m g).bind fun a => some ((rgD a.1.1 a.1.2).reverse, a.2)
theorem walkd_revR {a b : Int} : WalkD K (Itc (a + (((b - a).toNat : Nat) : Int) - 1) (-1) (b - a).toNat) Hf (rgD a b).reverse := by
  have hl : (rgD a b).length = (b - a).toNat := by unfold rgD; rw [List.length_map, List.length_range]
  intro Hf1 H1 e1 e2
  refine ⟨fun i hi => by show i < _; rw [List.length_reverse, hl] at hi; exact hi, by show _ ≤ _; rw [List.length_reverse, hl]; exact Nat.le_refl _, fun i d x H2 hd y => ?_⟩
  obtain ⟨rfl, rfl⟩ := y
  by_cases hi : i < (b - a).toNat
  · rw [List.getElem?_reverse (by rw [hl]; exact hi), hl] at hd
    unfold rgD at hd
    rw [List.getElem?_map, List.getElem?_range (by omega)] at hd
    cases hd
    refine ⟨Hf1, Tr.refl, fun _ _ _ _ E => E, ?_⟩
    have e : a + (((b - a).toNat : Nat) : Int) - 1 + (i : Nat) * -1 = a + (((b - a).toNat - 1 - i : Nat) : Int) := by omega
    rw [e]
    exact .int _
  · rw [List.getElem?_eq_none (by rw [List.length_reverse, hl]; omega)] at hd
    cases hd
theorem ei_revR {tg e : Expr} {m : MR} {p pos : Pos} (hm : ∀ i, (F.X i).mg "reversed" = none) (h : EvRg F pr e m) (hg : ∀ i, Gl (F.X i) "reversed" := by intro _; rfl) (hs : ∀ i, starEach [e] (F.X i).env = (false, eval e (F.X i).env) :: starEach [] (F.X i).env := by intro _; rfl) :
    EvI F pr tg (.Call (.Name "reversed" p) [e] [] pos) (mRevR m) := by
  intro B Hf H g σ ds g' R E eq q
  obtain ⟨⟨⟨a, b⟩, g1⟩, e1, eq⟩ := Option.bind_eq_some_iff.mp eq
  cases eq
  obtain ⟨t, ht, z⟩ := h B Hf H g σ a b _ (fun a b H1 => -(2 ^ 62) ≤ a ∧ a < 2 ^ 62 ∧ -(2 ^ 62) ≤ b ∧ b < 2 ^ 62 ∧ R (Itc (a + (((b - a).toNat : Nat) : Int) - 1) (-1) (b - a).toNat) H1) E e1 fun Hf1 H1 s1 h1 h2 =>
    ⟨(okRg_of h1).1, (okRg_of h1).2, (okRg_of h2).1, (okRg_of h2).2, q _ Hf1 H1 s1 walkd_revR⟩
  exact ⟨iRevR t, fun i => pi_revR (hg i) (hm i) (ht i) (hs i), z⟩
/-! ### lists that change -/
theorem RepAll.eraseIdx {vs : List V} {ds : List Da} (r : RepAll K H vs ds) (j : Nat) : RepAll K H (vs.eraseIdx j) (ds.eraseIdx j) := by
  rw [List.eraseIdx_eq_take_drop_succ, List.eraseIdx_eq_take_drop_succ]
  exact (r.take j).append (r.drop (j + 1))
/-- xs.pop(k) -/
def mPopAt (i : Nat) (f : ME) : ME := fun g => match g[i]? with
  | some (.own _) => (f g).bind fun b => (look b.1 b.2).bind fun y => match y, b.2[i]? with
    | .int k, some (.own ds) => if okRg k = true then (ixN ds.length k).bind fun j => (ds[j]?).bind fun d => some (.dat d, b.2.set i (.own (ds.eraseIdx j))) else none
    | _, _ => none
  | _ => none
/-- xs.extend(e), e a new list -/
def sExt (i : Nat) (f : ME) : MS := fun g => match g[i]? with
  | some (.own _) => (f g).bind fun a => match a.1, a.2[i]? with
    | .fresh es, some (.own ds) => if ds.length + es.length ≤ sizeLine then some (.nx, a.2.set i (.own (ds ++ es))) else none
    | _, _ => none
  | _ => none
/-! ### sorted ints -/
/-! ### tuple(reversed(list)) -/
def mTupRev (f : ME) : ME := fun g => (f g).bind fun a => (look a.1 a.2).bind fun x => match x with | .list xs => some (.dat (.tuple xs.reverse), a.2) | _ => none
theorem ev_tupRev {e : Expr} {f : ME} {p p2 pos pos2 : Pos} (hc : ∀ i, (F.X i).calm = true) (hm : ∀ i, (F.X i).mg "tuple" = none) (hm2 : ∀ i, (F.X i).mg "reversed" = none) (h : Ev F pr e f) (hg : ∀ i, Gl (F.X i) "tuple" := by intro _; rfl) (hg2 : ∀ i, Gl (F.X i) "reversed" := by intro _; rfl)
    (hs : ∀ i, starEach [e] (F.X i).env = (false, eval e (F.X i).env) :: starEach [] (F.X i).env := by intro _; rfl)
    (hs2 : ∀ i, starEach [.Call (.Name "reversed" p2) [e] [] pos2] (F.X i).env = (false, eval (.Call (.Name "reversed" p2) [e] [] pos2) (F.X i).env) :: starEach [] (F.X i).env := by intro _; rfl) :
    Ev F pr (.Call (.Name "tuple" p) [.Call (.Name "reversed" p2) [e] [] pos2] [] pos) (mTupRev f) := by
  intro B Hf H g σ w g' Q E eq q
  obtain ⟨⟨wa, g1⟩, e1, eq1⟩ := Option.bind_eq_some_iff.mp eq
  obtain ⟨x, e2, eq2⟩ := Option.bind_eq_some_iff.mp eq1
  dsimp only at eq2
  split at eq2
  · rename_i xs
    cases eq2
    refine ⟨RT.tTupRev F.K (U F e), fun j => by have z := RT.pe_tupRev (hc j) (hg j) (hm j) (hg2 j) (hm2 j) (pe_U (F := F) (e := e) j) (hs j) (hs2 j) (p := p) (pos := pos); rw [F.hK j] at z; exact z, ?_⟩
    refine h B Hf H g σ wa _ _ E e1 fun v Hf1 H1 s1 w1 y1 => ?_
    have l : RL F.K Hf1 H1 v (.list xs) := look_ok s1.env w1 e2
    obtain ⟨p, us, rfl, hp, r⟩ := l.seqL s1.env.ex
    refine ⟨p, us, rfl, hp, fun z hz => ?_⟩
    have hf := s1.env.frz hz
    exact q _ (upd Hf1 z (.tup us.reverse)) (upd H1 z (.tup us.reverse)) (s1.trans ⟨Tr.new hf hz, s1.env.new hz, fun _ h => h⟩) (.tup (.inl (.inl upd_same)) (r.reverse.mono (Evl.Ex.new hf))) (fun _ z => nomatch z)
  · cases eq2
end
end EV
end
section
set_option maxHeartbeats 2000000
set_option autoImplicit false
/-! a new list, or a tuple, times an int -/
namespace EV
open PySem PySem.Spec PyProof.Rows L2
section
variable {F : Fam} {pr : List Nat} {K : Frag} {B : Addr → Prop} {Hf H : Hp} {g g' : Gh} {σ : L2.St}
theorem RepAll.rep {vs : List V} {ds : List Da} (r : RepAll K H vs ds) : ∀ n : Nat, RepAll K H (List.replicate n vs).flatten (List.replicate n ds).flatten
  | 0 => .nil
  | n + 1 => by
    rw [List.replicate_succ, List.replicate_succ, List.flatten_cons, List.flatten_cons]
    exact r.append (RepAll.rep r n)
/-! ### a tuple times an int: the same one, or the empty one -/
theorem mulT_same (l : Addr) (tis : Array Value) (n : Nat) (dd : Option Addr) (sl : Array (Option Value)) (x : Int) (u : Tok)
    (z0 : (decide (x < -(2 ^ 63)) || decide (x ≥ 2 ^ 63)) = false) (z1 : (tis.isEmpty || x == 1) = true) :
    Meets (Builtin.«tuple.__mul__» ⟨[.ref l, .int x u], []⟩) (fun _ R s => s.heap.get? l = some { cls := .type "tuple", dict := dd, data := .seq tis n, slots := sl } ∧ R (.ok (.ret (.ref l))) s) :=
  .of_wp fun _ _ _ _ sh hh => by
    obtain ⟨q1, q2, q3, q4, q5⟩ := sh
    obtain ⟨hgl, hr⟩ := hh
    have g1 := AutoSeq1.idx_int
    wp_walk using wpAny_loadPart' hgl
    refine wpAny_ite_false (decide_eq_false (by rw [z0]; exact Bool.false_ne_true)) ?_
    wp_walk using wpAny_loadPart' hgl
    exact ⟨_, rfl, hr⟩
theorem mulT_none (l : Addr) (tis : Array Value) (n : Nat) (dd : Option Addr) (sl : Array (Option Value)) (x : Int) (u : Tok)
    (z0 : (decide (x < -(2 ^ 63)) || decide (x ≥ 2 ^ 63)) = false) (z1 : (tis.isEmpty || x == 1) = false) (z2 : (decide (x ≤ 0) || tis.isEmpty) = true) :
    Meets (Builtin.«tuple.__mul__» ⟨[.ref l, .int x u], []⟩) (fun _ R s => s.heap.get? l = some { cls := .type "tuple", dict := dd, data := .seq tis n, slots := sl } ∧ R (.ok (.ret (.ref s.heap.objs.size))) { s with heap := s.heap.push { cls := Value.type "tuple", data := Data.seq #[] }, toks := s.toks }) :=
  .of_wp fun _ _ _ _ sh hh => by
    obtain ⟨q1, q2, q3, q4, q5⟩ := sh
    obtain ⟨hgl, hr⟩ := hh
    have g1 := AutoSeq1.idx_int
    wp_walk using wpAny_loadPart' hgl
    refine wpAny_ite_false (decide_eq_false (by rw [z0]; exact Bool.false_ne_true)) ?_
    wp_walk using wpAny_loadPart' hgl
    first
      | exact ⟨_, rfl, hr⟩
      | trace_state
def rRep1 (K : Frag) : R2 := fun x y H Q => ∃ l k xs, x = .ref l ∧ y = .int k ∧ SqT K H l xs ∧ (xs = [] ∨ k = 1) ∧ -(2 ^ 62) ≤ k ∧ k < 2 ^ 62 ∧ Q (.ref l) H
def rRep0 (K : Frag) : R2 := fun x y H Q => ∃ l k xs, x = .ref l ∧ y = .int k ∧ SqT K H l xs ∧ xs ≠ [] ∧ -(2 ^ 62) ≤ k ∧ k ≤ 0 ∧ ∀ p, H p = none → Q (.ref p) (upd H p (.tup []))
theorem op_rep1 {X : Cx} : OpR X (binaryOp .Mult) (rRep1 X.K) := by
  intro pins s σ H x y v u Q I rx ry hh
  obtain ⟨l, k, xs, rfl, rfl, hT, hk, b1, b2, q⟩ := hh
  cases rx
  obtain ⟨t, rfl⟩ := ry
  obtain ⟨tis, r, ⟨⟨c1, dd, d1, sl⟩, ho, hc, n, hd⟩, hs⟩ := I.tuple hT
  simp only at hc hd
  subst hc hd
  have z0 : (decide (k < -(2 ^ 63)) || decide (k ≥ 2 ^ 63)) = false := by
    rw [decide_eq_false (by omega), decide_eq_false (by omega)]
    rfl
  have z1 : (tis.toArray.isEmpty || k == 1) = true := by
    rcases hk with rfl | rfl
    · have : tis = [] := List.eq_nil_of_length_eq_zero r.length.symm
      subst this
      rfl
    · simp
  refine wpAny_binaryOp_repeat_ref (T := "tuple") (U := "int") (by decide) ⟨_, ho, rfl⟩ (fun s' => typeIs_int s' k t) noFill_tuple_mul F.fills_int_mul F.slot_int_rmul repeat_tuple F.slot_int_index.lookup ?_
  refine call_meets F.slot_int_rmul (typeIs_int s k t) F.entry_int_rmul (F.args_int_rmul_2 _ _) (int_rmul_tuple k t l tis.toArray n dd sl) ⟨ho, rfl, ⟨_, ho, rfl⟩, ?_⟩
  refine call_meets F.slot_tuple_mul ⟨_, ho, rfl⟩ F.entry_tuple_mul (F.args_tuple_mul_2 _ _) (mulT_same l tis.toArray n dd sl k t z0 z1) ⟨ho, ?_⟩
  exact ⟨.ref l, H, I, rfl, q⟩
theorem op_rep0 {X : Cx} : OpR X (binaryOp .Mult) (rRep0 X.K) := by
  intro pins s σ H x y v u Q I rx ry hh
  obtain ⟨l, k, xs, rfl, rfl, hT, hne, b1, b2, q⟩ := hh
  cases rx
  obtain ⟨t, rfl⟩ := ry
  obtain ⟨tis, r, ⟨⟨c1, dd, d1, sl⟩, ho, hc, n, hd⟩, hs⟩ := I.tuple hT
  simp only at hc hd
  subst hc hd
  have hi : tis.toArray.isEmpty = false := by
    cases tis with
    | nil => exact absurd (List.eq_nil_of_length_eq_zero r.length) hne
    | cons _ _ => rfl
  have z0 : (decide (k < -(2 ^ 63)) || decide (k ≥ 2 ^ 63)) = false := by
    rw [decide_eq_false (by omega), decide_eq_false (by omega)]
    rfl
  have z1 : (tis.toArray.isEmpty || k == 1) = false := by
    rw [hi, Bool.false_or]
    exact beq_eq_false_iff_ne.mpr (by omega)
  have z2 : (decide (k ≤ 0) || tis.toArray.isEmpty) = true := by
    rw [decide_eq_true b2]
    rfl
  refine wpAny_binaryOp_repeat_ref (T := "tuple") (U := "int") (by decide) ⟨_, ho, rfl⟩ (fun s' => typeIs_int s' k t) noFill_tuple_mul F.fills_int_mul F.slot_int_rmul repeat_tuple F.slot_int_index.lookup ?_
  refine call_meets F.slot_int_rmul (typeIs_int s k t) F.entry_int_rmul (F.args_int_rmul_2 _ _) (int_rmul_tuple k t l tis.toArray n dd sl) ⟨ho, rfl, ⟨_, ho, rfl⟩, ?_⟩
  refine call_meets F.slot_tuple_mul ⟨_, ho, rfl⟩ F.entry_tuple_mul (F.args_tuple_mul_2 _ _) (mulT_none l tis.toArray n dd sl k t z0 z1 z2) ⟨ho, ?_⟩
  exact ⟨.ref s.heap.objs.size, _, I.laid (t' := s.toks) (o := .tup []) (fun b ob q => Heap.get?_push_of_some _ q) (Nat.le_refl _) ⟨Nat.zero_le _, _, .nil, IsTup.new _ _⟩, rfl, q _ (I.hok.fresh (Nat.le_refl _))⟩
/-- ints, and a tuple times an int -/
def dMulT : Da → Da → Option Wv
  | .int a, .int b => if a.natAbs.log2 + b.natAbs.log2 < 1000000 then some (.dat (.int (a * b))) else none
  | .tuple xs, .int k => if okRg k = true ∧ (xs = [] ∨ k ≤ 1 ∨ (k ≤ 1000 ∧ xs.length ≤ 1000)) then some (.dat (.tuple (List.replicate k.toNat xs).flatten)) else none
  | _, _ => none
theorem rep_nil {α : Type} : ∀ n : Nat, (List.replicate n ([] : List α)).flatten = []
  | 0 => rfl
  | n + 1 => by rw [List.replicate_succ, List.flatten_cons, rep_nil n, List.nil_append]
theorem od_mulT : OpD F (binaryOp .Mult) dMulT := by
  intro x y w e
  unfold dMulT at e
  split at e
  · split at e
    · rename_i h1
      cases e
      exact ⟨_, fun i => op_mulW, fun pr B Hf H g σ vx vy Q E hx hy c => ⟨_, _, hx.int, hy.int, h1, c.dat E (.int _)⟩⟩
    · cases e
  · rename_i xs k
    split at e
    · rename_i h1
      cases e
      obtain ⟨hk, h2⟩ := h1
      obtain ⟨b1, b2⟩ := okRg_of hk
      by_cases h3 : xs = [] ∨ k = 1
      · refine ⟨rRep1 F.K, fun i => by have h := @op_rep1 (F.X i); rw [F.hK i] at h; exact h, fun pr B Hf H g σ vx vy Q E hx hy c => ?_⟩
        obtain ⟨p, us, rfl, s, r⟩ := hx.seqT E.ex
        cases hy.int
        refine ⟨p, k, us, rfl, rfl, s, ?_, b1, b2, ?_⟩
        · rcases h3 with rfl | h3
          · exact .inl (List.eq_nil_of_length_eq_zero r.length)
          · exact .inr h3
        · have e : (List.replicate k.toNat xs).flatten = xs := by
            rcases h3 with rfl | rfl
            · exact rep_nil _
            · show (List.replicate 1 xs).flatten = xs
              simp
          rw [e] at c
          rcases hx.2 with r | ⟨_, _, _, _, z, _⟩
          · exact c.dat E r
          · cases z
      · have hne : xs ≠ [] := fun z => h3 (.inl z)
        by_cases h4 : k ≤ 0
        · refine ⟨rRep0 F.K, fun i => by have h := @op_rep0 (F.X i); rw [F.hK i] at h; exact h, fun pr B Hf H g σ vx vy Q E hx hy c => ?_⟩
          obtain ⟨p, us, rfl, s, r⟩ := hx.seqT E.ex
          cases hy.int
          refine ⟨p, k, us, rfl, rfl, s, ?_, b1, h4, fun z hz => ?_⟩
          · intro z
            subst z
            exact hne (List.eq_nil_of_length_eq_zero r.length.symm)
          · have e : (List.replicate k.toNat xs).flatten = [] := by rw [show k.toNat = 0 by omega]; rfl
            rw [e] at c
            exact c.newT E .nil hz
        · have h5 : k ≤ 1000 ∧ xs.length ≤ 1000 := by
            rcases h2 with h | h | h
            · exact absurd h hne
            · exact absurd (show k = 1 by omega) fun z => h3 (.inr z)
            · exact h
          refine ⟨rRepT F.K, fun i => by have h := @op_repT (F.X i); rw [F.hK i] at h; exact h, fun pr B Hf H g σ vx vy Q E hx hy c => ?_⟩
          obtain ⟨p, us, rfl, s, r⟩ := hx.seqT E.ex
          cases hy.int
          refine ⟨p, k, us, rfl, rfl, s, ?_, ?_, h5.1, by rw [r.length]; exact h5.2, fun z hz => c.newT E (r.rep _) hz⟩
          · intro z
            subst z
            exact hne (List.eq_nil_of_length_eq_zero r.length.symm)
          · have : k ≠ 1 := fun z => h3 (.inr z)
            omega
    · cases e
  · cases e
/-- [..] * k -/
def mRepL (f h : ME) : ME := fun g => (f g).bind fun a => (h a.2).bind fun b => (look b.1 b.2).bind fun y => match a.1, y with
  | .fresh xs, .int k => if okRg k = true ∧ xs.length * k.toNat ≤ sizeLine then some (.fresh (List.replicate k.toNat xs).flatten, b.2) else none
  | _, _ => none
theorem ev_repL {a b : Expr} {fa fb : ME} {pos : Pos} (ha : Ev F pr a fa) (hb : Ev F pr b fb) : Ev F pr (.BinOp a .Mult b pos) (mRepL fa fb) := by
  intro B Hf H g σ w g' Q E eq q
  obtain ⟨⟨wa, g1⟩, e1, eq⟩ := Option.bind_eq_some_iff.mp eq
  obtain ⟨⟨wb, g2⟩, e2, eq⟩ := Option.bind_eq_some_iff.mp eq
  obtain ⟨y, e4, eq⟩ := Option.bind_eq_some_iff.mp eq
  dsimp only at eq
  split at eq
  · split at eq
    · rename_i hk
      cases eq
      obtain ⟨b1, b2⟩ := okRg_of hk.1
      refine ⟨_, fun i => pe_op (op_rep (X := F.X i)) (pe_U i) (pe_U i), ?_⟩
      refine ha B Hf H g σ _ g1 _ E e1 fun v Hf1 H1 s1 w1 y1 => ?_
      refine hb B Hf1 H1 g1 σ wb _ _ s1.env e2 fun u Hf2 H2 s2 w2 y2 => ?_
      have l2 : RL F.K Hf2 H2 u (.int _) := look_ok s2.env w2 e4
      cases l2.int
      have w3 := s2.way s1.env w1
      obtain ⟨p, vs, rfl, _, _, hp, rp, _⟩ := w3
      refine ⟨p, _, vs, rfl, rfl, hp, by omega, by omega, by rw [rp.length]; exact hk.2, fun z hz => ?_⟩
      have hf := s2.env.frz hz
      refine q _ Hf2 _ ((s1.trans s2).trans ⟨Tr.mut hz, s2.env.mut hz, fun _ h => h⟩) ?_ (fun ds _ p' e => ?_)
      · exact ⟨z, _, rfl, s2.env.nb z hz, hf, upd_same, rp.rep _, s2.env.own_none hz⟩
      · cases e; exact s1.tr.stay _ (s2.tr.stay _ hz)
    · cases eq
  · cases eq
end
end EV
end
section
set_option maxHeartbeats 2000000
set_option autoImplicit false
/-! how many unlike ints a tuple has -/
namespace EV
open PySem PySem.Spec PyProof.Rows L2
/-- unlike ones -/
def uniq : List Int → List Int
  | [] => []
  | x :: r => if x ∈ r then uniq r else x :: uniq r
theorem mem_uniq : ∀ (xs : List Int) (a : Int), a ∈ uniq xs ↔ a ∈ xs
  | [], a => by unfold uniq; exact Iff.rfl
  | x :: r, a => by
    unfold uniq
    split
    · rename_i h
      rw [mem_uniq r a, List.mem_cons]
      exact ⟨.inr, fun z => z.elim (fun e => e ▸ h) id⟩
    · rw [List.mem_cons, List.mem_cons, mem_uniq r a]
theorem nodup_uniq : ∀ xs : List Int, (uniq xs).Nodup
  | [] => by unfold uniq; exact List.nodup_nil
  | x :: r => by
    unfold uniq
    split
    · exact nodup_uniq r
    · rename_i h
      exact List.nodup_cons.mpr ⟨fun z => h ((mem_uniq r x).mp z), nodup_uniq r⟩
theorem uniq_len {xs : List Int} (h : xs.Nodup) : (uniq xs).length = xs.length := ((List.perm_ext_iff_of_nodup (nodup_uniq xs) h).mpr (mem_uniq xs)).length_eq
section
variable {X : Cx}
def tLenSetT (K : Frag) (ta : TE) : TE := fun σ H Q => ta σ H fun x H1 => ∃ (l : Addr) (ns : List Int), x = .ref l ∧ SqT K H1 l (ns.map V.int) ∧ ns.length ≤ 1000 ∧ Q (.int (uniq ns).length) H1
theorem pe_lenSetT {a : Expr} {ta : TE} {p p2 q pos : Pos} (hc : X.calm = true) (hg : Gl X "len") (hm : X.mg "len" = none) (hg2 : Gl X "set") (hm2 : X.mg "set" = none) (ha : PE X a ta)
    (na : starEach [a] X.env = (false, eval a X.env) :: starEach [] X.env := by rfl) : PE X (.Call (.Name "len" p) [.Call (.Name "set" p2) [a] [] q] [] pos) (tLenSetT X.K ta) := by
  refine ⟨fun pins s σ H Q I hh => Call_ (ld_blt I hg hm boot_len (PyProof.Rows.callWith_builtin1 (PyProof.Rows.args_cons (Call_ (ld_blt I hg2 hm2 boot_set (PyProof.Rows.callWith_type1 (PyProof.Rows.args_cons (thn (ha.run pins s σ H _ I hh) fun v s1 ⟨x, H1, I1, r1, q1⟩ => PyProof.Rows.args_nil ?_) na) na rfl))) rfl) rfl rfl))⟩
  obtain ⟨l, ns, rfl, hq, hl, q1⟩ := q1
  cases r1
  obtain ⟨its, rv, pt, hz⟩ := I1.tuple hq
  refine call_set_tupI ns (I1.ok.hd hc) (show s1.heap.IsTuple l its.toArray from pt) (show IntsAre its.toArray.toList ns from ints_of_vals rv) (by unfold scanBound; omega) fun h' tk c R1 hcn k => PyProof.Rows.args_nil ?_
  obtain ⟨o, es, ep, t, ho, hex, hdt, g, nd, hm3, hb, hf, hn, hr, hl2⟩ := R1
  have e : es.size = (uniq ns).length := by
    have z := ((List.perm_ext_iff_of_nodup nd (nodup_uniq ns)).mpr fun j => by rw [← hm3 j, decide_eq_true_eq, mem_uniq]).length_eq
    rw [List.length_map, Array.length_toList] at z
    exact z
  have I2 : Inv X pins σ H1 { s1 with heap := h', toks := tk } := I1.kept fun b o e => k b o e
  exact call_len_set ho hex hdt hf (by unfold scanBound at hb; omega) ⟨.int (uniq ns).length, H1, I2.tok _, ⟨_, by rw [e]⟩, q1⟩
end
section
variable {F : Fam} {pr : List Nat} {K : Frag} {B : Addr → Prop} {Hf H : Hp} {g g' : Gh} {σ : L2.St}
def mLenSet (f : ME) : ME := fun g => (f g).bind fun a => (look a.1 a.2).bind fun x => match x with | .tuple xs => (intsOf xs).bind fun ns => if ns.length ≤ 1000 then some (.dat (.int (uniq ns).length), a.2) else none | _ => none
theorem ev_lenSet {e : Expr} {f : ME} {p p2 pos pos2 : Pos} (hc : ∀ i, (F.X i).calm = true) (hm : ∀ i, (F.X i).mg "len" = none) (hm2 : ∀ i, (F.X i).mg "set" = none) (h : Ev F pr e f) (hg : ∀ i, Gl (F.X i) "len" := by intro _; rfl) (hg2 : ∀ i, Gl (F.X i) "set" := by intro _; rfl)
    (hs : ∀ i, starEach [e] (F.X i).env = (false, eval e (F.X i).env) :: starEach [] (F.X i).env := by intro _; rfl) :
    Ev F pr (.Call (.Name "len" p) [.Call (.Name "set" p2) [e] [] pos2] [] pos) (mLenSet f) := by
  intro B Hf H g σ w g' Q E eq q
  obtain ⟨⟨wa, g1⟩, e1, eq1⟩ := Option.bind_eq_some_iff.mp eq
  obtain ⟨x, e2, eq2⟩ := Option.bind_eq_some_iff.mp eq1
  dsimp only at eq2
  split at eq2
  · rename_i xs
    obtain ⟨ns, e3, eq3⟩ := Option.bind_eq_some_iff.mp eq2
    have e3 := intsOf_some e3
    subst e3
    split at eq3
    · rename_i hl
      cases eq3
      refine ⟨tLenSetT F.K (U F e), fun j => by have z := pe_lenSetT (hc j) (hg j) (hm j) (hg2 j) (hm2 j) (pe_U (F := F) (e := e) j) (hs j) (p := p) (p2 := p2) (q := pos2) (pos := pos); rw [F.hK j] at z; exact z, ?_⟩
      refine h B Hf H g σ wa _ _ E e1 fun v Hf1 H1 s1 w1 y1 => ?_
      have l : RL F.K Hf1 H1 v (.tuple (ns.map PyData.int)) := look_ok s1.env w1 e2
      obtain ⟨p, us, rfl, hp, r⟩ := l.seqT s1.env.ex
      have := r.ints
      subst this
      exact ⟨p, ns, rfl, hp, hl, q _ Hf1 H1 s1 (.int _) (fun _ z => nomatch z)⟩
    · cases eq3
  · cases eq2
end
end EV
end
section
set_option maxHeartbeats 2000000
set_option autoImplicit false
/-! sorted(tuple of ints) -/
namespace EV
open PySem PySem.Spec PyProof.Rows L2
end EV
end
section
set_option maxHeartbeats 2000000
set_option autoImplicit false
/-! enumerate(tuple) -/
namespace EV
open PySem PySem.Spec PyProof.Rows L2
section
variable {F : Fam} {pr : List Nat} {K : Frag} {B : Addr → Prop} {Hf H : Hp} {g g' : Gh} {σ : L2.St}
/-- enumerate of a list or a tuple -/
def mEnumA (fa : MA) : MI := fun g => (fa g).bind fun a => (toDs a.1 a.2).bind fun r => match r.1 with
  | [.list ds] => some (enumD 0 ds, r.2)
  | [.tuple ds] => some (enumD 0 ds, r.2)
  | _ => none
end
end EV
end
section
set_option maxHeartbeats 2000000
set_option autoImplicit false
/-! zip of two, and of three, each a list or a tuple -/
namespace EV
open PySem PySem.Spec PyProof.Rows L2
section
/-- a list (false) or a tuple (true) -/
def SqA (K : Frag) (b : Bool) (H : Hp) (a : Addr) (xs : List V) : Prop := cond b (SqT K H a xs) (SqL K H a xs)
def ItA (b : Bool) (h : Heap) (it a : Addr) (i : Nat) : Prop := cond b (h.IsTupleIter it a i) (h.IsListIter it a i)
def IsA (b : Bool) (h : Heap) (a : Addr) (xs : Array Value) : Prop := cond b (h.IsTuple a xs) (h.IsList a xs)
def obA (b : Bool) (a : Addr) : Obj := cond b { cls := .type "tuple_iterator", data := .fields #[.ref a, .int 0 0] } { cls := .type "list_iterator", data := .fields #[.ref a, .int 0 0] }
theorem draws_A {P : Program} {w : World} {A : Around} (hh : A.handled = none) (b : Bool) (it a : Addr) (ne : a ≠ it) (xs : Array Value) :
    Draws P w A it [it, a] xs.size (fun i v => xs[i]? = some v) (fun i h => ItA b h it a i ∧ IsA b h a xs) := by
  cases b
  · exact Draws.list hh it a ne xs
  · exact Draws.tuple hh it a ne xs
theorem begins_A (b : Bool) (a : Addr) (xs : Array Value) : Begins (.ref a) (obA b a) fun h => IsA b h a xs := by
  cases b
  · exact begins_list a xs
  · exact begins_tuple a xs
theorem SqA.ex {K : Frag} {b : Bool} {H H' : Hp} {a : Addr} {xs : List V} (e : Evl.Ex H H') (h : SqA K b H a xs) : SqA K b H' a xs := by
  cases b
  · exact Evl.ex_l e h
  · exact Evl.ex_t e h
theorem inv_A {X : Cx} {pns : List (Addr × Obj)} {σ : L2.St} {H : Hp} {s : Shared} {b : Bool} {a : Addr} {xs : List V} (I : L2.Inv X pns σ H s) (h : SqA X.K b H a xs) : ∃ its : List Value, Vals xs its ∧ IsA b s.heap a its.toArray ∧ xs.length ≤ sizeLine := by
  cases b
  · obtain ⟨its, rv, pl, hz⟩ := I.list h
    exact ⟨its, rv, pl.isList, hz⟩
  · obtain ⟨its, rv, pt, hz⟩ := I.tuple h
    exact ⟨its, rv, pt, hz⟩
theorem inj_A {X : Cx} {pns : List (Addr × Obj)} {σ : L2.St} {H : Hp} {s : Shared} {b : Bool} {a : Addr} {xs ys : List V} (I : L2.Inv X pns σ H s) (h : SqA X.K b H a xs) (h2 : SqA X.K b H a ys) : xs = ys := by
  cases b
  · exact I.list_inj h h2
  · exact I.tuple_inj h h2
theorem itA_at {b : Bool} {h h' : Heap} {it a : Addr} {i : Nat} (x : ItA b h it a i) (k : ∀ o, h.get? it = some o → h'.get? it = some o) : ItA b h' it a i := by
  cases b
  · exact Heap.IsListIter.at x k
  · exact Heap.IsTupleIter.at x k
theorem itA_get {b : Bool} {h : Heap} {it a : Addr} {i : Nat} (x : ItA b h it a i) : ∃ o, h.get? it = some o ∧ ∀ v, o.data ≠ .cell v := by
  cases b
  · obtain ⟨o, ho, hc, hd⟩ := x
    exact ⟨o, ho, fun v q => by rw [hd] at q; cases q⟩
  · obtain ⟨o, ho, hc, hd⟩ := x
    exact ⟨o, ho, fun v q => by rw [hd] at q; cases q⟩
theorem itA_new {b : Bool} {h : Heap} {it a : Addr} (x : h.get? it = some (obA b a)) : ItA b h it a 0 := by
  cases b
  · exact ⟨_, x, rfl, rfl⟩
  · exact ⟨_, x, rfl, rfl⟩
def Itz2 (K : Frag) (b1 b2 : Bool) (a1 a2 : Addr) : It :=
  ⟨fun i H => ∃ (xs ys : List V) (x y : V), SqA K b1 H a1 xs ∧ SqA K b2 H a2 ys ∧ xs[i]? = some x ∧ ys[i]? = some y,
   fun i H v H' => ∃ T x y, v = .ref T ∧ H T = none ∧ H' = upd H T (.tup [x, y]) ∧ (∀ xs, SqA K b1 H a1 xs → xs[i]? = some x) ∧ (∀ ys, SqA K b2 H a2 ys → ys[i]? = some y),
   fun i H => ∃ xs ys : List V, SqA K b1 H a1 xs ∧ SqA K b2 H a2 ys ∧ min xs.length ys.length = i⟩
theorem turn_z2 {P : Program} {w : World} {K : Frag} {elts : List Expr} {kk : Nat} {tpos : Pos} {b1 b2 : Bool} {a1 a2 z TI TO i1 i2 : Addr} (sep : ZipSep2 z TI TO i1 i2 [i1, a1] [i2, a2]) :
    Turn P w K (.Tuple elts kk tpos) (Itz2 K b1 b2 a1 a2) [z, TI, TO, i1, i2] z (fun i h => IsZip h z TI TO .none ∧ IsTupOf2 h TI (.ref i1) (.ref i2) ∧ (∃ x y, IsTupOf2 h TO x y) ∧ ItA b1 h i1 a1 i ∧ ItA b2 h i2 a2 i) where
  mem := List.mem_cons_self
  obj := fun i h st b hb => by
    obtain ⟨hz, hI, ⟨x, y, hO⟩, h1, h2⟩ := st
    rcases (show b = z ∨ b = TI ∨ b = TO ∨ b = i1 ∨ b = i2 by simpa using hb) with rfl | rfl | rfl | rfl | rfl
    · exact ⟨_, hz, fun v q => nomatch q⟩
    · exact ⟨_, hI, fun v q => nomatch q⟩
    · exact ⟨_, hO, fun v q => nomatch q⟩
    · exact itA_get h1
    · exact itA_get h2
  keep := fun i h h' st k => by
    obtain ⟨hz, hI, ⟨x, y, hO⟩, h1, h2⟩ := st
    exact ⟨k z (by simp) _ hz, k TI (by simp) _ hI, ⟨x, y, k TO (by simp) _ hO⟩, itA_at h1 (k i1 (by simp)), itA_at h2 (k i2 (by simp))⟩
  item := by
    intro X hQ hw hK hcm i pns s σ H E I hf st hg
    subst hQ hw hK
    obtain ⟨hz, hI, ⟨o1, o2, hO⟩, h1, h2⟩ := st
    obtain ⟨xs, ys, x, y, q1, q2, hx, hy⟩ := hg
    obtain ⟨is1, rv1, p1, _⟩ := inv_A I q1
    obtain ⟨is2, rv2, p2, _⟩ := inv_A I q2
    obtain ⟨u1, hu1, ru1⟩ := rv1.get hx
    obtain ⟨u2, hu2, ru2⟩ := rv2.get hy
    have n1 : a1 ≠ i1 := fun e => by
      cases b1
      · obtain ⟨_, c1, c2, _⟩ := h1
        obtain ⟨_, c3, c4, _⟩ := p1
        rw [e, c1] at c3
        cases c3
        rw [c2] at c4
        simp at c4
      · obtain ⟨_, c1, c2, _⟩ := h1
        obtain ⟨_, c3, c4, _⟩ := p1
        rw [e, c1] at c3
        cases c3
        rw [c2] at c4
        simp at c4
    have n2 : a2 ≠ i2 := fun e => by
      cases b2
      · obtain ⟨_, c1, c2, _⟩ := h2
        obtain ⟨_, c3, c4, _⟩ := p2
        rw [e, c1] at c3
        cases c3
        rw [c2] at c4
        simp at c4
      · obtain ⟨_, c1, c2, _⟩ := h2
        obtain ⟨_, c3, c4, _⟩ := p2
        rw [e, c1] at c3
        cases c3
        rw [c2] at c4
        simp at c4
    have lz : z < s.heap.objs.size := Heap.lt_size hz
    have lI : TI < s.heap.objs.size := Heap.lt_size hI
    have lO : TO < s.heap.objs.size := Heap.lt_size hO
    have l1 : i1 < s.heap.objs.size := by obtain ⟨_, q, _⟩ := itA_get h1; exact Heap.lt_size q
    have l2 : i2 < s.heap.objs.size := by obtain ⟨_, q, _⟩ := itA_get h2; exact Heap.lt_size q
    have z1 : i1 ≠ z := fun e => sep.zf1 (by simp [e])
    have z2 : i2 ≠ z := fun e => sep.zf2 (by simp [e])
    have t1 : TI ≠ i1 := sep.TIi1
    have t2 : TI ≠ i2 := sep.TIi2
    refine wpAny_pyNext_zipD2_item sep (draws_A (A := X.A.in1) (I.ok.hd hcm) b1 i1 a1 n1 is1.toArray) (draws_A (A := X.A.in1) (I.ok.hd hcm) b2 i2 a2 n2 is2.toArray) hz hI hO ⟨h1, p1⟩ ⟨h2, p2⟩ (by rw [List.size_toArray]; exact lt_of_get hu1) (by rw [List.size_toArray]; exact lt_of_get hu2) fun y1 y2 h' tk k1 k2 hz' hO' st1 st2 hT hsz hk => ?_
    have e1 : y1 = u1 := by
      have c : is1[i]? = some y1 := by simpa using k1
      rw [hu1] at c
      cases c
      rfl
    have e2 : y2 = u2 := by
      have c : is2[i]? = some y2 := by simpa using k2
      rw [hu2] at c
      cases c
      rfl
    subst e1 e2
    refine ⟨_, rfl, wpAny_letOwnedTupleGo_zip (s := { s with heap := h', toks := tk }) hz' fun h3 hz3 sb => ?_⟩
    have hT3 : h3.get? s.heap.objs.size = some { cls := .type "tuple", data := .seq #[y1, y2] } := (sb.2 _ (Nat.ne_of_gt lz)).trans hT
    have J1 : Inv X pns σ (upd H s.heap.objs.size (.tup [x, y])) { s with heap := h3, toks := tk } :=
      I.turnedNew (ch := [z, TO, i1, i2]) (fun b ob hb q => (sb.2 b (fun c => hb (by simp [c]))).trans (hk b ob (fun c => hb (by simp [c])) (fun c => hb (by simp [c])) (fun c => hb (by simp [c])) (fun c => hb (by simp [c])) q)) (fun b hb => hf b (by
          rcases (show b = z ∨ b = TO ∨ b = i1 ∨ b = i2 by simpa using hb) with rfl | rfl | rfl | rfl <;> simp)) (Nat.le_refl _)
        ⟨by show 2 ≤ sizeLine; decide, [y1, y2], .cons ru1 (.cons ru2 .nil), ⟨_, hT3, rfl, _, rfl⟩⟩
    refine ⟨.ref s.heap.objs.size, _, J1, rfl, ⟨_, x, y, rfl, I.hok.fresh (Nat.le_refl _), rfl, (fun vs hv => by rw [inj_A I hv q1]; exact hx), fun vs hv => by rw [inj_A I hv q2]; exact hy⟩, ⟨hz3, ?_, ⟨y1, y2, (sb.2 TO sep.TOz).trans hO'⟩, itA_at st1.1 fun o q => (sb.2 i1 z1).trans q, itA_at st2.1 fun o q => (sb.2 i2 z2).trans q⟩, fun b hb => ?_⟩
    · exact (sb.2 TI sep.TIz).trans (hk TI _ sep.TIz sep.TITO t1 t2 hI)
    · have hb2 : b < s.heap.objs.size := by
        rcases (show b = z ∨ b = TI ∨ b = TO ∨ b = i1 ∨ b = i2 by simpa using hb) with rfl | rfl | rfl | rfl | rfl <;> assumption
      rw [upd_ne (Nat.ne_of_lt hb2)]
      exact (hf b hb).1
  done := by
    intro X hQ hw hK hcm i pns s σ H E I hf st hg
    subst hQ hw hK
    obtain ⟨hz, hI, ⟨o1, o2, hO⟩, h1, h2⟩ := st
    obtain ⟨xs, ys, q1, q2, hm⟩ := hg
    obtain ⟨is1, rv1, p1, _⟩ := inv_A I q1
    obtain ⟨is2, rv2, p2, _⟩ := inv_A I q2
    have n1 : a1 ≠ i1 := fun e => by
      cases b1
      · obtain ⟨_, c1, c2, _⟩ := h1
        obtain ⟨_, c3, c4, _⟩ := p1
        rw [e, c1] at c3
        cases c3
        rw [c2] at c4
        simp at c4
      · obtain ⟨_, c1, c2, _⟩ := h1
        obtain ⟨_, c3, c4, _⟩ := p1
        rw [e, c1] at c3
        cases c3
        rw [c2] at c4
        simp at c4
    have n2 : a2 ≠ i2 := fun e => by
      cases b2
      · obtain ⟨_, c1, c2, _⟩ := h2
        obtain ⟨_, c3, c4, _⟩ := p2
        rw [e, c1] at c3
        cases c3
        rw [c2] at c4
        simp at c4
      · obtain ⟨_, c1, c2, _⟩ := h2
        obtain ⟨_, c3, c4, _⟩ := p2
        rw [e, c1] at c3
        cases c3
        rw [c2] at c4
        simp at c4
    have e1 := rv1.length
    have e2 := rv2.length
    refine wpAny_pyNext_zipD2_end sep (draws_A (A := X.A.in1) (I.ok.hd hcm) b1 i1 a1 n1 is1.toArray) (draws_A (A := X.A.in1) (I.ok.hd hcm) b2 i2 a2 n2 is2.toArray) hz hI hO ⟨h1, p1⟩ ⟨h2, p2⟩ (by rw [List.size_toArray]; omega) (by rw [List.size_toArray]; omega) (by rw [List.size_toArray, List.size_toArray]; omega) fun h' tk hk => ⟨rfl, I.turnedL (ch := [z, TO, i1, i2]) (fun b o hb q => hk b o (fun c => hb (by simp [c])) (fun c => hb (by simp [c])) (fun c => hb (by simp [c])) (fun c => hb (by simp [c])) q) (fun b hb => hf b (by
          rcases (show b = z ∨ b = TO ∨ b = i1 ∨ b = i2 by simpa using hb) with rfl | rfl | rfl | rfl <;> simp))⟩
  self := fun A i s Q E st h => wpAny_pyIter_zip st.1 h
end
end EV
namespace EV
open PySem PySem.Spec PyProof.Rows L2
section
theorem isA_lt {b : Bool} {h : Heap} {a : Addr} {xs : Array Value} (x : IsA b h a xs) : a < h.objs.size := by
  cases b
  · obtain ⟨_, q, _⟩ := x
    exact Heap.lt_size q
  · obtain ⟨_, q, _⟩ := x
    exact Heap.lt_size q
def iZ2 (K : Frag) (ta : TA) : TI := fun σ H R => ta σ H fun vs H1 => ∃ (b1 b2 : Bool) (a1 a2 : Addr) (xs ys : List V), vs = [.ref a1, .ref a2] ∧ SqA K b1 H1 a1 xs ∧ SqA K b2 H1 a2 ys ∧ R (Itz2 K b1 b2 a1 a2) H1
theorem pi_z2 {X : Cx} {e e2 : Expr} {ta : TA} {p pos tpos : Pos} {elts : List Expr} {kk : Nat} (hg : Gl X "zip") (hm : X.mg "zip" = none) (ha : PA X [e, e2] ta)
    (hs : starEach [e, e2] X.env = (false, eval e X.env) :: starEach [e2] X.env) (hpl : (backTo pos (starEach [e2] X.env)).any (·.1) = false) :
    PI X (.Tuple elts kk tpos) (.Call (.Name "zip" p) [e, e2] [] pos) (iZ2 X.K ta) := by
  refine ⟨fun pns s σ H R I hh => Call_ (ld_blt I hg hm boot_zip (PyProof.Rows.callWith_type1 (thn (ha.run pos pns s σ H _ I hh) fun us s1 ⟨vs, H1, J1, r1, q1⟩ => ?_) hs hpl))⟩
  obtain ⟨b1, b2, a1, a2, xs, ys, rfl, s1', s2', q⟩ := q1
  cases r1 with
  | cons r rr =>
    cases rr with
    | cons r' rr' =>
      cases rr'
      cases r
      cases r'
      obtain ⟨is1, rv1, p1, _⟩ := inv_A J1 s1'
      obtain ⟨is2, rv2, p2, _⟩ := inv_A J1 s2'
      have m1 := isA_lt p1
      have m2 := isA_lt p2
      refine zip_begins2 (begins_A b1 a1 is1.toArray) (begins_A b2 a2 is2.toArray) p1 p2 fun h' hz hI hO ho1 ho2 hsz hk => wpAny_pyIter_zip hz ?_
      have fp : ∀ b ∈ [s1.heap.objs.size + 4, s1.heap.objs.size + 2, s1.heap.objs.size + 3, s1.heap.objs.size, s1.heap.objs.size + 1], FpOk X pns H1 b := fun b hb => by
        have hls : s1.heap.objs.size ≤ b := by
          rcases (show b = s1.heap.objs.size + 4 ∨ b = s1.heap.objs.size + 2 ∨ b = s1.heap.objs.size + 3 ∨ b = s1.heap.objs.size ∨ b = s1.heap.objs.size + 1 by simpa using hb) with z | z | z | z | z <;> omega
        exact J1.fpOk hls (J1.hok.fresh hls)
      exact ⟨s1.heap.objs.size + 4, [s1.heap.objs.size + 4, s1.heap.objs.size + 2, s1.heap.objs.size + 3, s1.heap.objs.size, s1.heap.objs.size + 1], _, _, H1, rfl, J1.kept (t' := s1.toks) hk, turn_z2 (zip_sep2 (by simpa using m1) (by simpa using m2)), ⟨hz, hI, ⟨_, _, hO⟩, itA_new ho1, itA_new ho2⟩, fp, q⟩
end
section
variable {F : Fam} {pr : List Nat} {K : Frag} {B : Addr → Prop} {Hf H Hf1 H1 : Hp} {g g' : Gh} {σ : L2.St}
theorem rep_seq {v : V} {d : Da} {ds : List Da} (r : Rep K Hf v d) (h : itemsD d = some ds) : ∃ (b : Bool) (a : Addr) (xs : List V), v = .ref a ∧ SqA K b Hf a xs ∧ RepAll K Hf xs ds := by
  cases r with
  | lst sa ra => cases h; exact ⟨false, _, _, rfl, sa, ra⟩
  | tup sa ra => cases h; exact ⟨true, _, _, rfl, sa, ra⟩
  | _ => cases h
theorem walkd_z2 {b1 b2 : Bool} {a b : Addr} {xs ys : List V} {ds es : List Da} (sa : SqA K b1 Hf a xs) (sb : SqA K b2 Hf b ys) (ra : RepAll K Hf xs ds) (rb : RepAll K Hf ys es) : WalkD K (Itz2 K b1 b2 a b) Hf (zipD ds es) := by
  intro Hf1 H1 e1 e2
  have s1 : SqA K b1 H1 a xs := sa.ex (e1.trans e2)
  have s2 : SqA K b2 H1 b ys := sb.ex (e1.trans e2)
  have l1 := ra.length
  have l2 := rb.length
  refine ⟨fun i hi => ?_, ⟨xs, ys, s1, s2, ?_⟩, fun i d x H2 hd y => ?_⟩
  · rw [zip_len] at hi
    exact ⟨xs, ys, xs[i]'(by omega), ys[i]'(by omega), s1, s2, by simp [show i < xs.length by omega], by simp [show i < ys.length by omega]⟩
  · rw [zip_len]; omega
  · obtain ⟨T, u, v, rfl, hT, rfl, h1, h2⟩ := y
    obtain ⟨dx, dy, k1, k2, rfl⟩ := zip_get hd
    obtain ⟨u', hu, ru⟩ := ra.get k1
    obtain ⟨v', hv, rv⟩ := rb.get k2
    have q1 := h1 xs s1
    have q2 := h2 ys s2
    rw [hu] at q1; cases q1
    rw [hv] at q2; cases q2
    exact new_pair e2 (ru.mono e1) (rv.mono e1) hT
/-- zip of two, each a list or a tuple -/
def mZipA (fa : MA) : MI := fun g => (fa g).bind fun a => (toDs a.1 a.2).bind fun r => match r.1 with
  | [x, y] => (itemsD x).bind fun ds => (itemsD y).bind fun es => some (zipD ds es, r.2)
  | _ => none
theorem ei_zipA {a b : Expr} {fa : MA} {p pos tpos : Pos} {elts : List Expr} {kk : Nat} (hm : ∀ i, (F.X i).mg "zip" = none) (ha : EvA F pr [a, b] fa) (hg : ∀ i, Gl (F.X i) "zip" := by intro _; rfl)
    (hs : ∀ i, starEach [a, b] (F.X i).env = (false, eval a (F.X i).env) :: starEach [b] (F.X i).env := by intro _; rfl) (hpl : ∀ i, (backTo pos (starEach [b] (F.X i).env)).any (·.1) = false := by intro _; rfl) :
    EvI F pr (.Tuple elts kk tpos) (.Call (.Name "zip" p) [a, b] [] pos) (mZipA fa) := by
  intro B Hf H g σ ds g' R E eq q
  obtain ⟨⟨ws, g1⟩, e1, eq1⟩ := Option.bind_eq_some_iff.mp eq
  obtain ⟨⟨xs, g2⟩, e2, eq2⟩ := Option.bind_eq_some_iff.mp eq1
  refine ⟨iZ2 F.K (UA F [a, b]), fun i => by have z := pi_z2 (hg i) (hm i) (pa_U (F := F) (e := [a, b]) i) (hs i) (hpl i) (p := p) (tpos := tpos) (elts := elts) (kk := kk); rw [F.hK i] at z; exact z, ?_⟩
  refine ha B Hf H g σ ws g1 _ E e1 fun vs Hf1 H1 s1 w1 y1 => ?_
  obtain ⟨Hf2, s2, _, r2⟩ := toDs_ok s1 w1 y1 e2
  dsimp only at eq2
  split at eq2
  · obtain ⟨d1, i1, eq3⟩ := Option.bind_eq_some_iff.mp eq2
    obtain ⟨d2, i2, eq4⟩ := Option.bind_eq_some_iff.mp eq3
    cases eq4
    cases r2 with
    | cons r r' =>
      cases r' with
      | cons r' r'' =>
        cases r''
        obtain ⟨b1, a1, x1, rfl, sa, ra⟩ := rep_seq r i1
        obtain ⟨b2, a2, x2, rfl, sb, rb⟩ := rep_seq r' i2
        exact ⟨b1, b2, a1, a2, x1, x2, rfl, sa.ex s2.env.ex, sb.ex s2.env.ex, q _ Hf2 H1 s2 (walkd_z2 sa sb ra rb)⟩
  · cases eq2
end
end EV
namespace EV
open PySem PySem.Spec PyProof.Rows L2
section
theorem isA_ne {b : Bool} {h : Heap} {it a : Addr} {i : Nat} {xs : Array Value} (h1 : ItA b h it a i) (p1 : IsA b h a xs) : a ≠ it := fun e => by
  cases b
  · obtain ⟨_, c1, c2, _⟩ := h1
    obtain ⟨_, c3, c4, _⟩ := p1
    rw [e, c1] at c3
    cases c3
    rw [c2] at c4
    simp at c4
  · obtain ⟨_, c1, c2, _⟩ := h1
    obtain ⟨_, c3, c4, _⟩ := p1
    rw [e, c1] at c3
    cases c3
    rw [c2] at c4
    simp at c4
def Itz3 (K : Frag) (b1 b2 b3 : Bool) (a1 a2 a3 : Addr) : It :=
  ⟨fun i H => ∃ (xs ys zs : List V) (x y z : V), SqA K b1 H a1 xs ∧ SqA K b2 H a2 ys ∧ SqA K b3 H a3 zs ∧ xs[i]? = some x ∧ ys[i]? = some y ∧ zs[i]? = some z,
   fun i H v H' => ∃ T x y z, v = .ref T ∧ H T = none ∧ H' = upd H T (.tup [x, y, z]) ∧ (∀ xs, SqA K b1 H a1 xs → xs[i]? = some x) ∧ (∀ ys, SqA K b2 H a2 ys → ys[i]? = some y) ∧ (∀ zs, SqA K b3 H a3 zs → zs[i]? = some z),
   fun i H => ∃ xs ys zs : List V, SqA K b1 H a1 xs ∧ SqA K b2 H a2 ys ∧ SqA K b3 H a3 zs ∧ min xs.length (min ys.length zs.length) = i⟩
theorem turn_z3 {P : Program} {w : World} {K : Frag} {elts : List Expr} {kk : Nat} {tpos : Pos} {b1 b2 b3 : Bool} {a1 a2 a3 z TI TO i1 i2 i3 : Addr} (sep : ZipSep3 z TI TO i1 i2 i3 [i1, a1] [i2, a2] [i3, a3]) :
    Turn P w K (.Tuple elts kk tpos) (Itz3 K b1 b2 b3 a1 a2 a3) [z, TI, TO, i1, i2, i3] z (fun i h => IsZip h z TI TO .none ∧ IsTupOf3 h TI (.ref i1) (.ref i2) (.ref i3) ∧ (∃ x y u, IsTupOf3 h TO x y u) ∧ ItA b1 h i1 a1 i ∧ ItA b2 h i2 a2 i ∧ ItA b3 h i3 a3 i) where
  mem := List.mem_cons_self
  obj := fun i h st b hb => by
    obtain ⟨hz, hI, ⟨x, y, u, hO⟩, h1, h2, h3⟩ := st
    rcases (show b = z ∨ b = TI ∨ b = TO ∨ b = i1 ∨ b = i2 ∨ b = i3 by simpa using hb) with rfl | rfl | rfl | rfl | rfl | rfl
    · exact ⟨_, hz, fun v q => nomatch q⟩
    · exact ⟨_, hI, fun v q => nomatch q⟩
    · exact ⟨_, hO, fun v q => nomatch q⟩
    · exact itA_get h1
    · exact itA_get h2
    · exact itA_get h3
  keep := fun i h h' st k => by
    obtain ⟨hz, hI, ⟨x, y, u, hO⟩, h1, h2, h3⟩ := st
    exact ⟨k z (by simp) _ hz, k TI (by simp) _ hI, ⟨x, y, u, k TO (by simp) _ hO⟩, itA_at h1 (k i1 (by simp)), itA_at h2 (k i2 (by simp)), itA_at h3 (k i3 (by simp))⟩
  item := by
    intro X hQ hw hK hcm i pns s σ H E I hf st hg
    subst hQ hw hK
    obtain ⟨hz, hI, ⟨o1, o2, o3, hO⟩, h1, h2, h3⟩ := st
    obtain ⟨xs, ys, zs, x, y, u, q1, q2, q3, hx, hy, hu⟩ := hg
    obtain ⟨is1, rv1, p1, _⟩ := inv_A I q1
    obtain ⟨is2, rv2, p2, _⟩ := inv_A I q2
    obtain ⟨is3, rv3, p3, _⟩ := inv_A I q3
    obtain ⟨u1, hu1, ru1⟩ := rv1.get hx
    obtain ⟨u2, hu2, ru2⟩ := rv2.get hy
    obtain ⟨u3, hu3, ru3⟩ := rv3.get hu
    have n1 := isA_ne h1 p1
    have n2 := isA_ne h2 p2
    have n3 := isA_ne h3 p3
    have lz : z < s.heap.objs.size := Heap.lt_size hz
    have lI : TI < s.heap.objs.size := Heap.lt_size hI
    have lO : TO < s.heap.objs.size := Heap.lt_size hO
    have l1 : i1 < s.heap.objs.size := by obtain ⟨_, q, _⟩ := itA_get h1; exact Heap.lt_size q
    have l2 : i2 < s.heap.objs.size := by obtain ⟨_, q, _⟩ := itA_get h2; exact Heap.lt_size q
    have l3 : i3 < s.heap.objs.size := by obtain ⟨_, q, _⟩ := itA_get h3; exact Heap.lt_size q
    have z1 : i1 ≠ z := fun e => sep.zf1 (by simp [e])
    have z2 : i2 ≠ z := fun e => sep.zf2 (by simp [e])
    have z3 : i3 ≠ z := fun e => sep.zf3 (by simp [e])
    refine wpAny_pyNext_zipD3_item sep (draws_A (A := X.A.in1) (I.ok.hd hcm) b1 i1 a1 n1 is1.toArray) (draws_A (A := X.A.in1) (I.ok.hd hcm) b2 i2 a2 n2 is2.toArray) (draws_A (A := X.A.in1) (I.ok.hd hcm) b3 i3 a3 n3 is3.toArray) hz hI hO ⟨h1, p1⟩ ⟨h2, p2⟩ ⟨h3, p3⟩ (by rw [List.size_toArray]; exact lt_of_get hu1) (by rw [List.size_toArray]; exact lt_of_get hu2) (by rw [List.size_toArray]; exact lt_of_get hu3) fun y1 y2 y3 h' tk k1 k2 k3 hz' hO' st1 st2 st3 hT hsz hk => ?_
    have e1 : y1 = u1 := by
      have c : is1[i]? = some y1 := by simpa using k1
      rw [hu1] at c
      cases c
      rfl
    have e2 : y2 = u2 := by
      have c : is2[i]? = some y2 := by simpa using k2
      rw [hu2] at c
      cases c
      rfl
    have e3 : y3 = u3 := by
      have c : is3[i]? = some y3 := by simpa using k3
      rw [hu3] at c
      cases c
      rfl
    subst e1 e2 e3
    refine ⟨_, rfl, wpAny_letOwnedTupleGo_zip (s := { s with heap := h', toks := tk }) hz' fun h4 hz4 sb => ?_⟩
    have hT3 : h4.get? s.heap.objs.size = some { cls := .type "tuple", data := .seq #[y1, y2, y3] } := (sb.2 _ (Nat.ne_of_gt lz)).trans hT
    have J1 : Inv X pns σ (upd H s.heap.objs.size (.tup [x, y, u])) { s with heap := h4, toks := tk } :=
      I.turnedNew (ch := [z, TO, i1, i2, i3]) (fun b ob hb q => (sb.2 b (fun c => hb (by simp [c]))).trans (hk b ob (fun c => hb (by simp [c])) (fun c => hb (by simp [c])) (fun c => hb (by simp [c])) (fun c => hb (by simp [c])) (fun c => hb (by simp [c])) q)) (fun b hb => hf b (by
          rcases (show b = z ∨ b = TO ∨ b = i1 ∨ b = i2 ∨ b = i3 by simpa using hb) with rfl | rfl | rfl | rfl | rfl <;> simp)) (Nat.le_refl _)
        ⟨by show 3 ≤ sizeLine; decide, [y1, y2, y3], .cons ru1 (.cons ru2 (.cons ru3 .nil)), ⟨_, hT3, rfl, _, rfl⟩⟩
    refine ⟨.ref s.heap.objs.size, _, J1, rfl, ⟨_, x, y, u, rfl, I.hok.fresh (Nat.le_refl _), rfl, (fun vs hv => by rw [inj_A I hv q1]; exact hx), (fun vs hv => by rw [inj_A I hv q2]; exact hy), fun vs hv => by rw [inj_A I hv q3]; exact hu⟩, ⟨hz4, ?_, ⟨y1, y2, y3, (sb.2 TO sep.TOz).trans hO'⟩, itA_at st1.1 (fun o q => (sb.2 i1 z1).trans q), itA_at st2.1 (fun o q => (sb.2 i2 z2).trans q), itA_at st3.1 fun o q => (sb.2 i3 z3).trans q⟩, fun b hb => ?_⟩
    · exact (sb.2 TI sep.TIz).trans (hk TI _ sep.TIz sep.TITO sep.TIi1 sep.TIi2 sep.TIi3 hI)
    · have hb2 : b < s.heap.objs.size := by
        rcases (show b = z ∨ b = TI ∨ b = TO ∨ b = i1 ∨ b = i2 ∨ b = i3 by simpa using hb) with rfl | rfl | rfl | rfl | rfl | rfl <;> assumption
      rw [upd_ne (Nat.ne_of_lt hb2)]
      exact (hf b hb).1
  done := by
    intro X hQ hw hK hcm i pns s σ H E I hf st hg
    subst hQ hw hK
    obtain ⟨hz, hI, ⟨o1, o2, o3, hO⟩, h1, h2, h3⟩ := st
    obtain ⟨xs, ys, zs, q1, q2, q3, hm⟩ := hg
    obtain ⟨is1, rv1, p1, _⟩ := inv_A I q1
    obtain ⟨is2, rv2, p2, _⟩ := inv_A I q2
    obtain ⟨is3, rv3, p3, _⟩ := inv_A I q3
    have n1 := isA_ne h1 p1
    have n2 := isA_ne h2 p2
    have n3 := isA_ne h3 p3
    have e1 := rv1.length
    have e2 := rv2.length
    have e3 := rv3.length
    refine wpAny_pyNext_zipD3_end sep (draws_A (A := X.A.in1) (I.ok.hd hcm) b1 i1 a1 n1 is1.toArray) (draws_A (A := X.A.in1) (I.ok.hd hcm) b2 i2 a2 n2 is2.toArray) (draws_A (A := X.A.in1) (I.ok.hd hcm) b3 i3 a3 n3 is3.toArray) hz hI hO ⟨h1, p1⟩ ⟨h2, p2⟩ ⟨h3, p3⟩ (by rw [List.size_toArray]; omega) (by rw [List.size_toArray]; omega) (by rw [List.size_toArray]; omega) (by rw [List.size_toArray, List.size_toArray, List.size_toArray]; omega) fun h' tk hk => ⟨rfl, I.turnedL (ch := [z, TO, i1, i2, i3]) (fun b o hb q => hk b o (fun c => hb (by simp [c])) (fun c => hb (by simp [c])) (fun c => hb (by simp [c])) (fun c => hb (by simp [c])) (fun c => hb (by simp [c])) q) (fun b hb => hf b (by
          rcases (show b = z ∨ b = TO ∨ b = i1 ∨ b = i2 ∨ b = i3 by simpa using hb) with rfl | rfl | rfl | rfl | rfl <;> simp))⟩
  self := fun A i s Q E st h => wpAny_pyIter_zip st.1 h
def iZ3 (K : Frag) (ta : TA) : TI := fun σ H R => ta σ H fun vs H1 => ∃ (b1 b2 b3 : Bool) (a1 a2 a3 : Addr) (xs ys zs : List V), vs = [.ref a1, .ref a2, .ref a3] ∧ SqA K b1 H1 a1 xs ∧ SqA K b2 H1 a2 ys ∧ SqA K b3 H1 a3 zs ∧ R (Itz3 K b1 b2 b3 a1 a2 a3) H1
theorem pi_z3 {X : Cx} {e e2 e3 : Expr} {ta : TA} {p pos tpos : Pos} {elts : List Expr} {kk : Nat} (hg : Gl X "zip") (hm : X.mg "zip" = none) (ha : PA X [e, e2, e3] ta)
    (hs : starEach [e, e2, e3] X.env = (false, eval e X.env) :: starEach [e2, e3] X.env) (hpl : (backTo pos (starEach [e2, e3] X.env)).any (·.1) = false) :
    PI X (.Tuple elts kk tpos) (.Call (.Name "zip" p) [e, e2, e3] [] pos) (iZ3 X.K ta) := by
  refine ⟨fun pns s σ H R I hh => Call_ (ld_blt I hg hm boot_zip (PyProof.Rows.callWith_type1 (thn (ha.run pos pns s σ H _ I hh) fun us s1 ⟨vs, H1, J1, r1, q1⟩ => ?_) hs hpl))⟩
  obtain ⟨b1, b2, b3, a1, a2, a3, xs, ys, zs, rfl, s1', s2', s3', q⟩ := q1
  cases r1 with
  | cons r rr =>
    cases rr with
    | cons r' rr' =>
      cases rr' with
      | cons r'' rr'' =>
        cases rr''
        cases r
        cases r'
        cases r''
        obtain ⟨is1, rv1, p1, _⟩ := inv_A J1 s1'
        obtain ⟨is2, rv2, p2, _⟩ := inv_A J1 s2'
        obtain ⟨is3, rv3, p3, _⟩ := inv_A J1 s3'
        have m1 := isA_lt p1
        have m2 := isA_lt p2
        have m3 := isA_lt p3
        refine zip_begins3 (begins_A b1 a1 is1.toArray) (begins_A b2 a2 is2.toArray) (begins_A b3 a3 is3.toArray) p1 p2 p3 fun h' hz hI hO ho1 ho2 ho3 hsz hk => wpAny_pyIter_zip hz ?_
        have fp : ∀ b ∈ [s1.heap.objs.size + 5, s1.heap.objs.size + 3, s1.heap.objs.size + 4, s1.heap.objs.size, s1.heap.objs.size + 1, s1.heap.objs.size + 2], FpOk X pns H1 b := fun b hb => by
          have hls : s1.heap.objs.size ≤ b := by
            rcases (show b = s1.heap.objs.size + 5 ∨ b = s1.heap.objs.size + 3 ∨ b = s1.heap.objs.size + 4 ∨ b = s1.heap.objs.size ∨ b = s1.heap.objs.size + 1 ∨ b = s1.heap.objs.size + 2 by simpa using hb) with z | z | z | z | z | z <;> omega
          exact J1.fpOk hls (J1.hok.fresh hls)
        exact ⟨s1.heap.objs.size + 5, [s1.heap.objs.size + 5, s1.heap.objs.size + 3, s1.heap.objs.size + 4, s1.heap.objs.size, s1.heap.objs.size + 1, s1.heap.objs.size + 2], _, _, H1, rfl, J1.kept (t' := s1.toks) hk, turn_z3 (zip_sep3 (by simpa using m1) (by simpa using m2) (by simpa using m3)), ⟨hz, hI, ⟨_, _, _, hO⟩, itA_new ho1, itA_new ho2, itA_new ho3⟩, fp, q⟩
end
section
variable {F : Fam} {pr : List Nat} {K : Frag} {B : Addr → Prop} {Hf H Hf1 H1 : Hp} {g g' : Gh} {σ : L2.St}
theorem new_triple {x y z : V} {d e f : Da} {T : Addr} (E2 : Evl.Ex Hf1 H1) (rx : Rep K Hf1 x d) (ry : Rep K Hf1 y e) (rz : Rep K Hf1 z f) (h : H1 T = none) :
    ∃ Hf2, Tr (fun _ => False) Hf1 H1 Hf2 (upd H1 T (.tup [x, y, z])) ∧ (∀ pr B g σ, En K pr B Hf1 H1 g σ → En K pr B Hf2 (upd H1 T (.tup [x, y, z])) g σ) ∧ Rep K Hf2 (.ref T) (.tuple [d, e, f]) := by
  have hf := Evl.fresh_back E2 h
  exact ⟨upd Hf1 T (.tup [x, y, z]), Tr.new hf h, fun _ _ _ _ E => E.new h, .tup (.inl (.inl upd_same)) (.cons (rx.mono (Evl.Ex.new hf)) (.cons (ry.mono (Evl.Ex.new hf)) (.cons (rz.mono (Evl.Ex.new hf)) .nil)))⟩
/-- triples -/
def zipD3 : List Da → List Da → List Da → List Da
  | d :: ds, e :: es, f :: fs => .tuple [d, e, f] :: zipD3 ds es fs
  | _, _, _ => []
theorem zip3_len : ∀ (ds es fs : List Da), (zipD3 ds es fs).length = min ds.length (min es.length fs.length)
  | [], es, fs => by simp [zipD3]
  | d :: ds, [], fs => by simp [zipD3]
  | d :: ds, e :: es, [] => by simp [zipD3]
  | d :: ds, e :: es, f :: fs => by
    simp only [zipD3, List.length_cons, zip3_len ds es fs]
    omega
theorem zip3_get : ∀ {ds es fs : List Da} {i : Nat} {d : Da}, (zipD3 ds es fs)[i]? = some d → ∃ x y z, ds[i]? = some x ∧ es[i]? = some y ∧ fs[i]? = some z ∧ d = .tuple [x, y, z]
  | [], es, fs, i, d, h => by simp [zipD3] at h
  | x :: ds, [], fs, i, d, h => by simp [zipD3] at h
  | x :: ds, y :: es, [], i, d, h => by simp [zipD3] at h
  | x :: ds, y :: es, z :: fs, 0, d, h => by
    simp [zipD3] at h
    exact ⟨x, y, z, rfl, rfl, rfl, h.symm⟩
  | x :: ds, y :: es, z :: fs, i + 1, d, h => by
    simp only [zipD3, List.getElem?_cons_succ] at h
    obtain ⟨a, b, c, h1, h2, h3, h4⟩ := zip3_get h
    exact ⟨a, b, c, by simpa using h1, by simpa using h2, by simpa using h3, h4⟩
theorem walkd_z3 {b1 b2 b3 : Bool} {a b c : Addr} {xs ys zs : List V} {ds es fs : List Da} (sa : SqA K b1 Hf a xs) (sb : SqA K b2 Hf b ys) (sc : SqA K b3 Hf c zs) (ra : RepAll K Hf xs ds) (rb : RepAll K Hf ys es) (rc : RepAll K Hf zs fs) : WalkD K (Itz3 K b1 b2 b3 a b c) Hf (zipD3 ds es fs) := by
  intro Hf1 H1 e1 e2
  have s1 : SqA K b1 H1 a xs := sa.ex (e1.trans e2)
  have s2 : SqA K b2 H1 b ys := sb.ex (e1.trans e2)
  have s3 : SqA K b3 H1 c zs := sc.ex (e1.trans e2)
  have l1 := ra.length
  have l2 := rb.length
  have l3 := rc.length
  refine ⟨fun i hi => ?_, ⟨xs, ys, zs, s1, s2, s3, ?_⟩, fun i d x H2 hd y => ?_⟩
  · rw [zip3_len] at hi
    exact ⟨xs, ys, zs, xs[i]'(by omega), ys[i]'(by omega), zs[i]'(by omega), s1, s2, s3, by simp [show i < xs.length by omega], by simp [show i < ys.length by omega], by simp [show i < zs.length by omega]⟩
  · rw [zip3_len]; omega
  · obtain ⟨T, u, v, t, rfl, hT, rfl, h1, h2, h3⟩ := y
    obtain ⟨dx, dy, dz, k1, k2, k3, rfl⟩ := zip3_get hd
    obtain ⟨u', hu, ru⟩ := ra.get k1
    obtain ⟨v', hv, rv⟩ := rb.get k2
    obtain ⟨t', ht, rt⟩ := rc.get k3
    have q1 := h1 xs s1
    have q2 := h2 ys s2
    have q3 := h3 zs s3
    rw [hu] at q1; cases q1
    rw [hv] at q2; cases q2
    rw [ht] at q3; cases q3
    exact new_triple e2 (ru.mono e1) (rv.mono e1) (rt.mono e1) hT
/-- zip of three, each a list or a tuple -/
def mZip3 (fa : MA) : MI := fun g => (fa g).bind fun a => (toDs a.1 a.2).bind fun r => match r.1 with
  | [x, y, z] => (itemsD x).bind fun ds => (itemsD y).bind fun es => (itemsD z).bind fun fs => some (zipD3 ds es fs, r.2)
  | _ => none
theorem ei_zip3 {a b c : Expr} {fa : MA} {p pos tpos : Pos} {elts : List Expr} {kk : Nat} (hm : ∀ i, (F.X i).mg "zip" = none) (ha : EvA F pr [a, b, c] fa) (hg : ∀ i, Gl (F.X i) "zip" := by intro _; rfl)
    (hs : ∀ i, starEach [a, b, c] (F.X i).env = (false, eval a (F.X i).env) :: starEach [b, c] (F.X i).env := by intro _; rfl) (hpl : ∀ i, (backTo pos (starEach [b, c] (F.X i).env)).any (·.1) = false := by intro _; rfl) :
    EvI F pr (.Tuple elts kk tpos) (.Call (.Name "zip" p) [a, b, c] [] pos) (mZip3 fa) := by
  intro B Hf H g σ ds g' R E eq q
  obtain ⟨⟨ws, g1⟩, e1, eq1⟩ := Option.bind_eq_some_iff.mp eq
  obtain ⟨⟨xs, g2⟩, e2, eq2⟩ := Option.bind_eq_some_iff.mp eq1
  refine ⟨iZ3 F.K (UA F [a, b, c]), fun i => by have z := pi_z3 (hg i) (hm i) (pa_U (F := F) (e := [a, b, c]) i) (hs i) (hpl i) (p := p) (tpos := tpos) (elts := elts) (kk := kk); rw [F.hK i] at z; exact z, ?_⟩
  refine ha B Hf H g σ ws g1 _ E e1 fun vs Hf1 H1 s1 w1 y1 => ?_
  obtain ⟨Hf2, s2, _, r2⟩ := toDs_ok s1 w1 y1 e2
  dsimp only at eq2
  split at eq2
  · obtain ⟨d1, i1, eq3⟩ := Option.bind_eq_some_iff.mp eq2
    obtain ⟨d2, i2, eq4⟩ := Option.bind_eq_some_iff.mp eq3
    obtain ⟨d3, i3, eq5⟩ := Option.bind_eq_some_iff.mp eq4
    cases eq5
    cases r2 with
    | cons r r' =>
      cases r' with
      | cons r' r'' =>
        cases r'' with
        | cons r'' r''' =>
          cases r'''
          obtain ⟨b1, a1, x1, rfl, sa, ra⟩ := rep_seq r i1
          obtain ⟨b2, a2, x2, rfl, sb, rb⟩ := rep_seq r' i2
          obtain ⟨b3, a3, x3, rfl, sc, rc⟩ := rep_seq r'' i3
          exact ⟨b1, b2, b3, a1, a2, a3, x1, x2, x3, rfl, sa.ex s2.env.ex, sb.ex s2.env.ex, sc.ex s2.env.ex, q _ Hf2 H1 s2 (walkd_z3 sa sb sc ra rb rc)⟩
  · cases eq2
end
end EV
end
section
set_option autoImplicit false
namespace Lib
open PySem PySem.Spec PyProof.Rows L2 EV
def m_is_integer : MS :=
    (sRet [] (mAndV (mIsi "int" (mName 0)) (mAndV (mBin (dIs true) (mName 0) (mC (.bool true))) (mAndV (mBin (dIs true) (mName 0) (mC (.bool false))) (mOfT (mChain dLe dLe (mName 1) (mName 0) (mName 2)))))))
def F_is_integer : MF := bodyM [] 0 m_is_integer
def m_is_field : MS :=
    (sSeq (sIf (mNot (mTru (mFn F_is_integer (mCons (mName 0) (mCons (mC (.int 5)) (mCons (mC (.int 997)) mNil)))))) (sRet [] (mC (.bool false))) sNil)
    (sSeq (sFor (mIt (mC (.tuple [(.int 2), (.int 3), (.int 5), (.int 7), (.int 11), (.int 13), (.int 17), (.int 19), (.int 23), (.int 29), (.int 31)]))) (setN 1) (sIf (mCmp dEq (mBin dMod (mName 0) (mName 1)) (mC (.int 0))) (sRet [] (mBin dEq (mName 0) (mName 1))) sNil))
    (sRet [] (mC (.bool true)))))
def F_is_field : MF := bodyM [] 1 m_is_field
def m_check_field : MS :=
    (sIf (mNot (mTru (mFn F_is_field (mCons (mName 0) mNil)))) sNo sNil)
def F_check_field : MF := bodyM [] 0 m_check_field
def m_check_integer : MS :=
    (sIf (mNot (mTru (mFn F_is_integer (mCons (mName 0) (mCons (mName 1) (mCons (mName 2) mNil)))))) sNo sNil)
def F_check_integer : MF := bodyM [] 0 m_check_integer
def m_check_number : MS :=
    (sDrop (mFn F_check_integer (mCons (mName 1) (mCons (mC (.int 0)) (mCons (mBin dSub (mName 0) (mC (.int 1))) mNil)))))
def F_check_number : MF := bodyM [] 0 m_check_number
def m_raised : MS :=
    (sSeq (sSet 3 (mC (.int 1)))
    (sSeq (sSet 4 (mBin dMod (mName 1) (mName 0)))
    (sSeq (sSet 5 (mName 2))
    (sSeq (sWhile EV.fuel (mCmp dGt (mName 5) (mC (.int 0))) (sSeq (sIf (mCmp dEq (mBin dMod (mName 5) (mC (.int 2))) (mC (.int 1))) (sSet 3 (mBin dMod (mBin dMul (mName 3) (mName 4)) (mName 0))) sNil)
    (sSeq (sSet 4 (mBin dMod (mBin dMul (mName 4) (mName 4)) (mName 0)))
    (sSet 5 (mBin dFdiv (mName 5) (mC (.int 2)))))))
    (sRet [] (mName 3))))))
def F_raised : MF := bodyM [] 3 m_raised
def m_inverse : MS :=
    (sRet [] (mFn F_raised (mCons (mName 0) (mCons (mName 1) (mCons (mBin dSub (mName 0) (mC (.int 2))) mNil)))))
def F_inverse : MF := bodyM [] 0 m_inverse
def m__law_dice : MS :=
    (sSeq (sSet 2 (mIf (mCmp dLt (mName 1) (mCall dLen (mCons (mName 0) mNil))) (mCall dInt (mCons (mIx (mName 0) (mName 1)) mNil)) (mBin dAdd (mBin dMul (mC (.int 103)) (mName 1)) (mC (.int 67)))))
    (sSeq (sSet 3 (mBin dMod (mCall dMax (mCons (mC (.int 0)) (mCons (mBin dSub (mCall dAbs (mCons (mName 2) mNil)) (mBin dPow (mC (.int 10)) (mC (.int 16)))) mNil))) (mBin dMul (mBin dPow (mC (.int 10)) (mC (.int 57))) (mBin dPow (mC (.int 10)) (mC (.int 60))))))
    (sRet [] (mLst (mCons (mName 3) (mCons (mBin dAdd (mBin dAdd (mBin dAdd (mBin dMul (mBin dMod (mCall dAbs (mCons (mName 2) mNil)) (mC (.int 1152921504606846733))) (mC (.int 97))) (mBin dMul (mC (.int 1013)) (mName 1))) (mBin dMul (mC (.int 53)) (mCall dInt (mCons (mBin dLt (mName 2) (mC (.int 0))) mNil)))) (mC (.int 41))) (mCons (mC (.int 0)) mNil)))))))
def F__law_dice : MF := bodyM [] 2 m__law_dice
def m__law_roll : MS :=
    (sSeq (sIf (mCmp dGt (mIx (mName 0) (mC (.int 0))) (mC (.int 0))) (sSeq (sSet 2 (mBin dMod (mCall dInt (mCons (mIx (mName 0) (mC (.int 0))) mNil)) (mName 1)))
    (sSeq (sSetIx 0 (mBin dFdiv (mIx (mName 0) (mC (.int 0))) (mName 1)) (mC (.int 0)))
    (sRet [0] (mName 2)))) sNil)
    (sSeq (sSetIx 0 (mBin dAdd (mIx (mName 0) (mC (.int 2))) (mC (.int 1))) (mC (.int 2)))
    (sSeq (sSet 3 (mBin dMod (mCall dInt (mCons (mBin dAdd (mIx (mName 0) (mC (.int 1))) (mBin dMul (mC (.int 86028157)) (mIx (mName 0) (mC (.int 2))))) mNil)) (mC (.int 2305843009213693487))))
    (sSeq (sSet 4 (mBin dAdd (mBin dMul (mBin dMod (mCall dInt (mCons (mBin dAdd (mBin dMul (mName 3) (mName 3)) (mBin dMul (mC (.int 101)) (mIx (mName 0) (mC (.int 2))))) mNil)) (mC (.int 2305843009213693669))) (mC (.int 6700417))) (mName 3)))
    (sRet [0] (mBin dMod (mCall dInt (mCons (mBin dFdiv (mName 4) (mC (.int 65537))) mNil)) (mName 1)))))))
def F__law_roll : MF := bodyM [0] 3 m__law_roll
def m__law_pick : MS :=
    (sRet [0] (mIx (mName 1) (mFnD F__law_roll (mCons (mName 0) (mCons (mCall dLen (mCons (mName 1) mNil)) mNil)))))
def F__law_pick : MF := bodyM [0] 0 m__law_pick
def m_are_numbers : MS :=
    (sSeq (sIf (mNot (mTru (mIsi "tuple" (mName 1)))) (sRet [] (mC (.bool false))) sNil)
    (sSeq (sFor (mIt (mName 1)) (setN 2) (sIf (mOr (mNot (mTru (mIsi "int" (mName 2)))) (mOr (mCmp (dIs false) (mName 2) (mC (.bool true))) (mOr (mCmp (dIs false) (mName 2) (mC (.bool false))) (mNot (mChain dLe dLt (mC (.int 0)) (mName 2) (mName 0)))))) (sRet [] (mC (.bool false))) sNil))
    (sRet [] (mC (.bool true)))))
def F_are_numbers : MF := bodyM [] 1 m_are_numbers
def m_is_poly : MS :=
    (sSeq (sDrop (mFn Lib.F_check_field (mCons (mName 0) mNil)))
    (sSeq (sIf (mOr (mNot (mTru (mFn F_are_numbers (mCons (mName 0) (mCons (mName 1) mNil))))) (mCmp dGt (mCall dLen (mCons (mName 1) mNil)) (mBin dAdd (mC (.int 60)) (mC (.int 1))))) (sRet [] (mC (.bool false))) sNil)
    (sRet [] (mOrV (mBin dEq (mName 1) (mTup mNil)) (mBin dNe (mIx (mName 1) (mNeg (mC (.int 1)))) (mC (.int 0)))))))
def F_is_poly : MF := bodyM [] 0 m_is_poly
def m_are_unlike : MS :=
    (sRet [] (mAndV (mFn F_are_numbers (mCons (mName 0) (mCons (mName 1) mNil))) (mAndV (mBin dLe (mCall dLen (mCons (mName 1) mNil)) (mC (.int 60))) (mBin dEq (mLenSet (mName 1)) (mCall dLen (mCons (mName 1) mNil))))))
def F_are_unlike : MF := bodyM [] 0 m_are_unlike
def m_check_poly : MS :=
    (sIf (mNot (mTru (mFn F_is_poly (mCons (mName 0) (mCons (mName 1) mNil))))) sNo sNil)
def F_check_poly : MF := bodyM [] 0 m_check_poly
def m_check_places : MS :=
    (sIf (mOr (mNot (mTru (mFn F_are_unlike (mCons (mName 0) (mCons (mName 1) mNil))))) (mNot (mTru (mName 1)))) sNo sNil)
def F_check_places : MF := bodyM [] 0 m_check_places
def m_trimmed : MS :=
    (sSeq (sSet 1 (mCall dLen (mCons (mName 0) mNil)))
    (sSeq (sWhile EV.fuel (mAnd (mCmp dGt (mName 1) (mC (.int 0))) (mCmp dEq (mIx (mName 0) (mBin dSub (mName 1) (mC (.int 1)))) (mC (.int 0)))) (sAug 1 (fun i j => i - j) (mC (.int 1))))
    (sRet [] (mCall dTuple (mCons (mSl (mName 0) mO0 (mO1 (mName 1))) mNil)))))
def F_trimmed : MF := bodyM [] 1 m_trimmed
def m_padded : MS :=
    (sRet [] (mBin dAdd (mCall dTuple (mCons (mName 0) mNil)) (mBin dMulT (mTup (mCons (mC (.int 0)) mNil)) (mBin dSub (mName 1) (mCall dLen (mCons (mName 0) mNil))))))
def F_padded : MF := bodyM [] 0 m_padded
def m_scaled : MS :=
    (sRet [] (mComp [3] (mIt (mName 1)) (setN 3) mYes (mBin dMod (mBin dMul (mName 2) (mName 3)) (mName 0))))
def F_scaled : MF := bodyM [] 1 m_scaled
def m_added : MS :=
    (sSeq (sSet 3 (mCall dMax (mCons (mCall dLen (mCons (mName 1) mNil)) (mCons (mCall dLen (mCons (mName 2) mNil)) mNil))))
    (sRet [] (mFn F_trimmed (mCons (mComp [4, 5] (mZipA (mCons (mFn F_padded (mCons (mName 1) (mCons (mName 3) mNil))) (mCons (mFn F_padded (mCons (mName 2) (mCons (mName 3) mNil))) mNil))) (setT [4, 5]) mYes (mBin dMod (mBin dAdd (mName 4) (mName 5)) (mName 0))) mNil))))
def F_added : MF := bodyM [] 3 m_added
def m_multiplied : MS :=
    (sSeq (sIf (mOr (mNot (mTru (mName 1))) (mNot (mTru (mName 2)))) (sRet [] (mTup mNil)) sNil)
    (sSeq (sSet 3 (mRepL (mLst (mCons (mC (.int 0)) mNil)) (mBin dSub (mBin dAdd (mCall dLen (mCons (mName 1) mNil)) (mCall dLen (mCons (mName 2) mNil))) (mC (.int 1)))))
    (sSeq (sFor (mRg1 (mCons (mCall dLen (mCons (mName 1) mNil)) mNil)) (setN 4) (sFor (mRg1 (mCons (mCall dLen (mCons (mName 2) mNil)) mNil)) (setN 5) (sSetIx 3 (mBin dMod (mBin dAdd (mIx (mName 3) (mBin dAdd (mName 4) (mName 5))) (mBin dMul (mIx (mName 1) (mName 4)) (mIx (mName 2) (mName 5)))) (mName 0)) (mBin dAdd (mName 4) (mName 5)))))
    (sRet [] (mCall dTuple (mCons (mName 3) mNil))))))
def F_multiplied : MF := bodyM [] 3 m_multiplied
def m_evaluated : MS :=
    (sSeq (sSet 3 (mC (.int 0)))
    (sSeq (sFor (mRevI (mName 1)) (setN 4) (sSet 3 (mBin dMod (mBin dAdd (mBin dMul (mName 3) (mName 2)) (mName 4)) (mName 0))))
    (sRet [] (mName 3))))
def F_evaluated : MF := bodyM [] 2 m_evaluated
def m_poly_sum : MS :=
    (sSeq (sDrop (mFn Lib.F_check_field (mCons (mName 0) mNil)))
    (sSeq (sDrop (mFn F_check_poly (mCons (mName 0) (mCons (mName 1) mNil))))
    (sSeq (sDrop (mFn F_check_poly (mCons (mName 0) (mCons (mName 2) mNil))))
    (sRet [] (mFn F_added (mCons (mName 0) (mCons (mName 1) (mCons (mName 2) mNil))))))))
def F_poly_sum : MF := bodyM [] 0 m_poly_sum
def m_poly_scaled : MS :=
    (sSeq (sDrop (mFn Lib.F_check_field (mCons (mName 0) mNil)))
    (sSeq (sDrop (mFn F_check_poly (mCons (mName 0) (mCons (mName 1) mNil))))
    (sSeq (sDrop (mFn Lib.F_check_number (mCons (mName 0) (mCons (mName 2) mNil))))
    (sRet [] (mFn F_trimmed (mCons (mFn F_scaled (mCons (mName 0) (mCons (mName 1) (mCons (mName 2) mNil)))) mNil))))))
def F_poly_scaled : MF := bodyM [] 0 m_poly_scaled
def m_poly_product : MS :=
    (sSeq (sDrop (mFn Lib.F_check_field (mCons (mName 0) mNil)))
    (sSeq (sDrop (mFn F_check_poly (mCons (mName 0) (mCons (mName 1) mNil))))
    (sSeq (sDrop (mFn F_check_poly (mCons (mName 0) (mCons (mName 2) mNil))))
    (sSeq (sIf (mCmp dGt (mBin dSub (mBin dAdd (mCall dLen (mCons (mName 1) mNil)) (mCall dLen (mCons (mName 2) mNil))) (mC (.int 2))) (mC (.int 60))) sNo sNil)
    (sRet [] (mFn F_multiplied (mCons (mName 0) (mCons (mName 1) (mCons (mName 2) mNil)))))))))
def F_poly_product : MF := bodyM [] 0 m_poly_product
def m_poly_divided : MS :=
    (sSeq (sDrop (mFn Lib.F_check_field (mCons (mName 0) mNil)))
    (sSeq (sDrop (mFn F_check_poly (mCons (mName 0) (mCons (mName 1) mNil))))
    (sSeq (sDrop (mFn F_check_poly (mCons (mName 0) (mCons (mName 2) mNil))))
    (sSeq (sIf (mCmp dEq (mName 2) (mTup mNil)) sNo sNil)
    (sSeq (sSet 3 (mCall dList (mCons (mName 1) mNil)))
    (sSeq (sSet 4 (mRepL (mLst (mCons (mC (.int 0)) mNil)) (mCall dMax (mCons (mBin dAdd (mBin dSub (mCall dLen (mCons (mName 1) mNil)) (mCall dLen (mCons (mName 2) mNil))) (mC (.int 1))) (mCons (mC (.int 0)) mNil)))))
    (sSeq (sSet 5 (mFn Lib.F_inverse (mCons (mName 0) (mCons (mIx (mName 2) (mNeg (mC (.int 1)))) mNil))))
    (sSeq (sFor (mRevR (mRr1 (mCall dLen (mCons (mName 4) mNil)))) (setN 6) (sSeq (sSet 7 (mBin dMod (mBin dMul (mIx (mName 3) (mBin dSub (mBin dAdd (mName 6) (mCall dLen (mCons (mName 2) mNil))) (mC (.int 1)))) (mName 5)) (mName 0)))
    (sSeq (sSetIx 4 (mName 7) (mName 6))
    (sFor (mRg1 (mCons (mCall dLen (mCons (mName 2) mNil)) mNil)) (setN 8) (sSetIx 3 (mBin dMod (mBin dSub (mIx (mName 3) (mBin dAdd (mName 6) (mName 8))) (mBin dMul (mName 7) (mIx (mName 2) (mName 8)))) (mName 0)) (mBin dAdd (mName 6) (mName 8)))))))
    (sRet [] (mTup (mCons (mFn F_trimmed (mCons (mName 4) mNil)) (mCons (mFn F_trimmed (mCons (mName 3) mNil)) mNil))))))))))))
def F_poly_divided : MF := bodyM [] 6 m_poly_divided
def m_value_at : MS :=
    (sSeq (sDrop (mFn Lib.F_check_field (mCons (mName 0) mNil)))
    (sSeq (sDrop (mFn F_check_poly (mCons (mName 0) (mCons (mName 1) mNil))))
    (sSeq (sDrop (mFn Lib.F_check_number (mCons (mName 0) (mCons (mName 2) mNil))))
    (sRet [] (mFn F_evaluated (mCons (mName 0) (mCons (mName 1) (mCons (mName 2) mNil))))))))
def F_value_at : MF := bodyM [] 0 m_value_at
def m_values_at : MS :=
    (sSeq (sDrop (mFn Lib.F_check_field (mCons (mName 0) mNil)))
    (sSeq (sDrop (mFn F_check_poly (mCons (mName 0) (mCons (mName 1) mNil))))
    (sSeq (sDrop (mFn F_check_places (mCons (mName 0) (mCons (mName 2) mNil))))
    (sRet [] (mCall dTuple (mCons (mComp [3] (mIt (mName 2)) (setN 3) mYes (mFn F_evaluated (mCons (mName 0) (mCons (mName 1) (mCons (mName 3) mNil))))) mNil))))))
def F_values_at : MF := bodyM [] 1 m_values_at
def m_check_points : MS :=
    (sSeq (sIf (mOr (mNot (mTru (mIsi "tuple" (mName 1)))) (mNot (mTru (mCall dAll (mCons (mComp [2] (mIt (mName 1)) (setN 2) mYes (mAndV (mFn Lib.F_are_numbers (mCons (mName 0) (mCons (mName 2) mNil))) (mBin dEq (mCall dLen (mCons (mName 2) mNil)) (mC (.int 2))))) mNil))))) sNo sNil)
    (sDrop (mFn Lib.F_check_places (mCons (mName 0) (mCons (mCall dTuple (mCons (mComp [3, 4] (mIt (mName 1)) (setT [3, 4]) mYes (mName 3)) mNil)) mNil)))))
def F_check_points : MF := bodyM [] 3 m_check_points
def m_vanishing : MS :=
    (sSeq (sSet 2 (mTup (mCons (mC (.int 1)) mNil)))
    (sSeq (sFor (mIt (mName 1)) (setN 3) (sSet 2 (mFn Lib.F_multiplied (mCons (mName 0) (mCons (mName 2) (mCons (mTup (mCons (mBin dMod (mNeg (mName 3)) (mName 0)) (mCons (mC (.int 1)) mNil))) mNil))))))
    (sRet [] (mName 2))))
def F_vanishing : MF := bodyM [] 2 m_vanishing
def m_without_root : MS :=
    (sSeq (sSet 3 (mLst mNil))
    (sSeq (sSet 4 (mC (.int 0)))
    (sSeq (sFor (mRevI (mName 1)) (setN 5) (sSeq (sSet 4 (mBin dMod (mBin dAdd (mBin dMul (mName 4) (mName 2)) (mName 5)) (mName 0)))
    (sApp 3 (mName 4))))
    (sRet [] (mTupRev (mSl (mName 3) mO0 (mO1 (mNeg (mC (.int 1))))))))))
def F_without_root : MF := bodyM [] 3 m_without_root
def m_parts_of : MS :=
    (sSeq (sSet 2 (mFn F_vanishing (mCons (mName 0) (mCons (mName 1) mNil))))
    (sRet [] (mComp [3] (mIt (mName 1)) (setN 3) mYes (mFn F_without_root (mCons (mName 0) (mCons (mName 2) (mCons (mName 3) mNil)))))))
def F_parts_of : MF := bodyM [] 2 m_parts_of
def m_units_of : MS :=
    (sRet [] (mComp [3, 4] (mZipA (mCons (mName 1) (mCons (mName 2) mNil))) (setT [3, 4]) mYes (mFn Lib.F_inverse (mCons (mName 0) (mCons (mFn Lib.F_evaluated (mCons (mName 0) (mCons (mName 4) (mCons (mName 3) mNil)))) mNil)))))
def F_units_of : MF := bodyM [] 2 m_units_of
def m_interpolated : MS :=
    (sSeq (sSet 3 (mFn F_parts_of (mCons (mName 0) (mCons (mName 1) mNil))))
    (sSeq (sSet 4 (mTup mNil))
    (sSeq (sFor (mZip3 (mCons (mName 3) (mCons (mFn F_units_of (mCons (mName 0) (mCons (mName 1) (mCons (mName 3) mNil)))) (mCons (mName 2) mNil)))) (setT [5, 6, 7]) (sSet 4 (mFn Lib.F_added (mCons (mName 0) (mCons (mName 4) (mCons (mFn Lib.F_scaled (mCons (mName 0) (mCons (mName 5) (mCons (mBin dMod (mBin dMul (mName 6) (mName 7)) (mName 0)) mNil)))) mNil))))))
    (sRet [] (mName 4)))))
def F_interpolated : MF := bodyM [] 5 m_interpolated
def m_through : MS :=
    (sSeq (sDrop (mFn Lib.F_check_field (mCons (mName 0) mNil)))
    (sSeq (sDrop (mFn F_check_points (mCons (mName 0) (mCons (mName 1) mNil))))
    (sRet [] (mFn F_interpolated (mCons (mName 0) (mCons (mComp [2, 3] (mIt (mName 1)) (setT [2, 3]) mYes (mName 2)) (mCons (mComp [2, 3] (mIt (mName 1)) (setT [2, 3]) mYes (mName 3)) mNil)))))))
def F_through : MF := bodyM [] 2 m_through
def m_weights : MS :=
    (sSeq (sDrop (mFn Lib.F_check_field (mCons (mName 0) mNil)))
    (sSeq (sDrop (mFn Lib.F_check_places (mCons (mName 0) (mCons (mName 1) mNil))))
    (sSeq (sDrop (mFn Lib.F_check_number (mCons (mName 0) (mCons (mName 2) mNil))))
    (sSeq (sSet 3 (mFn F_parts_of (mCons (mName 0) (mCons (mName 1) mNil))))
    (sSeq (sSet 4 (mFn F_units_of (mCons (mName 0) (mCons (mName 1) (mCons (mName 3) mNil)))))
    (sRet [] (mCall dTuple (mCons (mComp [5, 6] (mZipA (mCons (mName 3) (mCons (mName 4) mNil))) (setT [5, 6]) mYes (mBin dMod (mBin dMul (mFn Lib.F_evaluated (mCons (mName 0) (mCons (mName 5) (mCons (mName 2) mNil)))) (mName 6)) (mName 0))) mNil))))))))
def F_weights : MF := bodyM [] 4 m_weights
def m_check_rows : MS :=
    (sSeq (sSet 3 (mLst mNil))
    (sSeq (sSet 4 (mFn F_units_of (mCons (mName 0) (mCons (mName 1) (mCons (mFn F_parts_of (mCons (mName 0) (mCons (mName 1) mNil))) mNil)))))
    (sSeq (sFor (mRg1 (mCons (mBin dSub (mBin dSub (mCall dLen (mCons (mName 1) mNil)) (mName 2)) (mC (.int 1))) mNil)) (setN 5) (sSeq (sApp 3 (mCall dTuple (mCons (mName 4) mNil)))
    (sSet 4 (mComp [6, 7] (mZipA (mCons (mName 4) (mCons (mName 1) mNil))) (setT [6, 7]) mYes (mBin dMod (mBin dMul (mName 6) (mName 7)) (mName 0))))))
    (sRet [] (mCall dTuple (mCons (mName 3) mNil))))))
def F_check_rows : MF := bodyM [] 5 m_check_rows
def m_checks : MS :=
    (sSeq (sDrop (mFn Lib.F_check_field (mCons (mName 0) mNil)))
    (sSeq (sDrop (mFn Lib.F_check_places (mCons (mName 0) (mCons (mName 1) mNil))))
    (sSeq (sDrop (mFn Lib.F_check_integer (mCons (mName 2) (mCons (mNeg (mC (.int 1))) (mCons (mC (.int 60)) mNil)))))
    (sRet [] (mFn F_check_rows (mCons (mName 0) (mCons (mName 1) (mCons (mName 2) mNil))))))))
def F_checks : MF := bodyM [] 0 m_checks
def m_check_hidden_places : MS :=
    (sIf (mOr (mNot (mTru (mFn Lib.F_are_unlike (mCons (mName 0) (mCons (mName 1) mNil))))) (mCmp (dIn false) (mC (.int 0)) (mName 1))) sNo sNil)
def F_check_hidden_places : MF := bodyM [] 0 m_check_hidden_places
def m_hiding_poly : MS :=
    (sSeq (sSet 2 (mFn Lib.F_vanishing (mCons (mName 0) (mCons (mName 1) mNil))))
    (sRet [] (mCall dTuple (mCons (mFn Lib.F_scaled (mCons (mName 0) (mCons (mName 2) (mCons (mFn Lib.F_inverse (mCons (mName 0) (mCons (mIx (mName 2) (mC (.int 0))) mNil))) mNil)))) mNil))))
def F_hiding_poly : MF := bodyM [] 1 m_hiding_poly
def m_hiding : MS :=
    (sSeq (sDrop (mFn Lib.F_check_field (mCons (mName 0) mNil)))
    (sSeq (sDrop (mFn F_check_hidden_places (mCons (mName 0) (mCons (mName 1) mNil))))
    (sRet [] (mFn F_hiding_poly (mCons (mName 0) (mCons (mName 1) mNil))))))
def F_hiding : MF := bodyM [] 0 m_hiding
def m_hidden : MS :=
    (sSeq (sDrop (mFn Lib.F_check_field (mCons (mName 0) mNil)))
    (sSeq (sDrop (mFn Lib.F_check_poly (mCons (mName 0) (mCons (mName 1) mNil))))
    (sSeq (sDrop (mFn F_check_hidden_places (mCons (mName 0) (mCons (mName 2) mNil))))
    (sSeq (sDrop (mFn Lib.F_check_number (mCons (mName 0) (mCons (mName 3) mNil))))
    (sSeq (sSet 4 (mBin dMod (mBin dSub (mName 3) (mFn Lib.F_evaluated (mCons (mName 0) (mCons (mName 1) (mCons (mC (.int 0)) mNil))))) (mName 0)))
    (sRet [] (mFn Lib.F_added (mCons (mName 0) (mCons (mName 1) (mCons (mFn Lib.F_scaled (mCons (mName 0) (mCons (mFn F_hiding_poly (mCons (mName 0) (mCons (mName 2) mNil))) (mCons (mName 4) mNil)))) mNil))))))))))
def F_hidden : MF := bodyM [] 1 m_hidden
end Lib
end
section
set_option maxHeartbeats 2000000
set_option autoImplicit false
/-! list(zip(..)): zip whose last tuple is out and kept -/
namespace EV
open PySem PySem.Spec
section
variable {P : Program} {w : World} {A : Around} {E : Value → Shared → Prop} {s : Shared} {z TI TO T i1 i2 : Addr} {fp1 fp2 : List Addr} {n1 n2 i : Nat} {P1 P2 : Nat → Value → Prop} {St1 St2 : Nat → Heap → Prop} {f : Bool} {oT : Obj}
/-- the cell of a zip when the tuple that it gave last is still held -/
abbrev ZOut (h : Heap) (z TI TO T : Addr) (f : Bool) : Prop := h.get? z = some { cls := .type "zip", dict := none, data := .fields #[rawInt T, .bool f, .bool false, .ref TI, .ref TO], slots := #[] }
/-- the cell of a zip: its tuple is free, or out and held -/
def ZSt (h : Heap) (z TI TO i1 i2 : Addr) : Prop := (IsZip h z TI TO .none ∧ ∃ x y, IsTupOf2 h TO x y) ∨ ∃ (T : Addr) (f : Bool) (o : Obj), ZOut h z TI TO T f ∧ h.get? T = some o ∧ T ≠ z ∧ T ≠ TO ∧ T ≠ i1 ∧ T ≠ i2 ∧ ∃ x y, IsTupOf2 h TO x y
theorem ZSt.get {h : Heap} (x : ZSt h z TI TO i1 i2) : ∃ fs, h.get? z = some { cls := .type "zip", dict := none, data := .fields fs, slots := #[] } := by
  rcases x with ⟨hz, _⟩ | ⟨T, f, o, hz, _⟩
  · exact ⟨_, hz⟩
  · exact ⟨_, hz⟩
theorem ZSt.at {h h' : Heap} (x : ZSt h z TI TO i1 i2) {S : Addr} (nz : S ≠ z) (nTO : S ≠ TO) (ne : ∀ T f, ZOut h z TI TO T f → T ≠ S) (k : ∀ b o, b ≠ S → h.get? b = some o → h'.get? b = some o) : ZSt h' z TI TO i1 i2 := by
  rcases x with ⟨hz, a, b, hT⟩ | ⟨T, f, o, hz, hT, r1, r2, r3, r4, a, b, hO⟩
  · exact .inl ⟨k _ _ nz.symm hz, a, b, k _ _ nTO.symm hT⟩
  · exact .inr ⟨T, f, o, k _ _ nz.symm hz, k _ _ (ne T f hz) hT, r1, r2, r3, r4, a, b, k _ _ nTO.symm hO⟩
end
end EV
end
section
set_option maxHeartbeats 2000000
set_option autoImplicit false
/-! list(zip(..)) -/
namespace EV
open PySem PySem.Spec PyProof.Rows L2
/-- tuples laid one behind the other -/
inductive TN : Hp → List (V × V) → List Addr → Hp → Prop
  | nil {H : Hp} : TN H [] [] H
  | snoc {H G : Hp} {ps : List (V × V)} {Ts : List Addr} {T : Addr} {x y : V} : TN H ps Ts G → G T = none → TN H (ps ++ [(x, y)]) (Ts ++ [T]) (upd G T (.tup [x, y]))
theorem TN.ex {H G : Hp} {ps : List (V × V)} {Ts : List Addr} (t : TN H ps Ts G) : Evl.Ex H G := by
  induction t with
  | nil => exact Evl.Ex.refl _
  | snoc t n ih => exact ih.trans (Evl.Ex.new n)
theorem TN.len {H G : Hp} {ps : List (V × V)} {Ts : List Addr} (t : TN H ps Ts G) : Ts.length = ps.length := by
  induction t with
  | nil => rfl
  | snoc t n ih => rw [List.length_append, List.length_append, ih]; rfl
end EV
namespace EV
open PySem PySem.Spec PyProof.Rows L2
end EV
namespace EV
open PySem PySem.Spec PyProof.Rows L2
end EV
end
section
set_option maxHeartbeats 2000000
set_option autoImplicit false
/-! sorted(rows), each row a tuple of ints, of any length -/
namespace EV
open PySem PySem.Spec PyProof.Rows
section
variable {P : Program} {w : World} {A : Around} {E : Value → Shared → Prop} {s : Shared}
/-- a tuple of these ints -/
def T1 (h : Heap) (v : Value) (ns : List Int) : Prop := ∃ (a : Addr) (items : Array Value), v = .ref a ∧ IsTup h a items ∧ IntsAre items.toList ns
theorem T1.keeps {h h' : Heap} {v : Value} {ns : List Int} (x : T1 h v ns) (k : ∀ b o, h.get? b = some o → o.cls = .type "tuple" → h'.get? b = some o) : T1 h' v ns := by
  obtain ⟨a, its, e, ⟨o, ho, hc, n, hd⟩, r⟩ := x
  exact ⟨a, its, e, ⟨o, k _ _ ho hc, hc, n, hd⟩, r⟩
end
end EV
end
section
set_option maxHeartbeats 2000000
set_option autoImplicit false
/-! sorted(list of tuples of ints), over data -/
namespace EV
open PySem PySem.Spec PyProof.Rows L2
end EV
end
section
set_option maxHeartbeats 2000000
set_option autoImplicit false
/-! list + list -/
namespace EV
open PySem PySem.Spec PyProof.Rows L2
section
variable {X : Cx}
def rCatL (K : Frag) : R2 := fun x y H Q => ∃ l b xs zs, x = .ref l ∧ y = .ref b ∧ SqL K H l xs ∧ SqL K H b zs ∧ xs.length + zs.length ≤ sizeLine ∧ ∀ p, H p = none → Q (.ref p) (upd H p (.lst (xs ++ zs)))
theorem op_catL : OpR X (binaryOp .Add) (rCatL X.K) := by
  intro pins s σ H x y v u Q I rx ry h
  obtain ⟨l, b, xs, zs, rfl, rfl, hH, hB, hz, q⟩ := h
  cases rx
  cases ry
  obtain ⟨its, r, ⟨⟨cls, dd, data, sl⟩, n, e, hc, hd, hs⟩, _⟩ := I.list hH
  obtain ⟨its2, r2, ⟨⟨cls2, dd2, data2, sl2⟩, n2, e2, hc2, hd2, hs2⟩, _⟩ := I.list hB
  simp only at hc hd hs hc2 hd2 hs2
  subst hc hd hs hc2 hd2 hs2
  have z1 := r.length
  have z2 := r2.length
  refine concat_meets ⟨_, e, rfl⟩ ⟨_, e2, rfl⟩ noFill_list_add seq_list_add F.slot_list_add F.entry_list_add (F.args_list_add_2 _ _) (list_addW l b its.toArray its2.toArray n n2 none none sl sl2 (by rw [List.size_toArray, List.size_toArray]; omega)) ⟨e, e2, ?_⟩
  have ea : its.toArray ++ its2.toArray = (its ++ its2).toArray := by simp
  rw [ea]
  exact ⟨.ref _, _, I.lnew (t' := s.toks) (r.append r2) (by rw [List.length_append]; omega), rfl, q _ I.fresh⟩
end
section
variable {F : Fam}
def dAddM : Da → Da → Option Wv
  | .list xs, .list ys => if xs.length + ys.length ≤ sizeLine then some (.fresh (xs ++ ys)) else none
  | _, _ => none
theorem od_addM : OpD F (binaryOp .Add) dAddM := by
  intro x y w e
  unfold dAddM at e
  split at e
  · rename_i xs ys
    split at e
    · rename_i h1
      cases e
      refine ⟨rCatL F.K, fun i => by have h := @op_catL (F.X i); rw [F.hK i] at h; exact h, fun pr B Hf H g σ vx vy Q E hx hy c => ?_⟩
      obtain ⟨p, us, rfl, h2, r2⟩ := hx.seqL E.ex
      obtain ⟨q, ws, rfl, h3, r3⟩ := hy.seqL E.ex
      exact ⟨p, q, us, ws, rfl, rfl, h2, h3, by rw [r2.length, r3.length]; exact h1, fun a ha => c.newL E (r2.append r3) ha⟩
    · cases e
  · cases e
end
end EV
end
section
set_option maxHeartbeats 2000000
set_option autoImplicit false
/-! a call of a def that changes its second parameter -/
namespace EV
open PySem PySem.Spec PyProof.Rows L2
end EV
end
section
set_option maxHeartbeats 2000000
set_option autoImplicit false
/-! x[i], x[j] = a, b -/
namespace EV
open PySem PySem.Spec PyProof.Rows L2
end EV
end
section
set_option maxHeartbeats 2000000
set_option autoImplicit false
/-! list comprehensions with two sources -/
namespace EV
open PySem PySem.Spec PyProof.Rows L2
end EV
end
section
set_option maxHeartbeats 2000000
set_option autoImplicit false
/-! sorted(tuple of tuples of ints) -/
namespace EV
open PySem PySem.Spec PyProof.Rows L2
end EV
end
section
set_option maxHeartbeats 2000000
set_option autoImplicit false
/-! defs of which it is known that no repr is under way (guards): what repr of nested data asks -/
namespace EV
open PySem PySem.Spec PyProof.Rows L2
section
variable {pr : List Nat}
/-- what a def promises where no repr is under way -/
structure FnG (P : Program) (w : World) (K : Frag) (mg : Str → Option Value) (base : Heap) (k : Nat) (f : Addr) (fd : FuncData) (ps : List Str) (sp : Sp) : Prop where
  len : ∀ vs H Q E, sp vs H Q E → vs.length = ps.length
  run : ∀ (A : Around), A.guards = some [] → Room k A → ∀ (outer : List PySem.Env) (s : Shared) (H : Hp) (args : Args) (us : List Value) (vs : List V) (Q : VK) (E : XK), Env0 P w K mg base A outer s H → BindsTo s fd args (ps.zip us) → Vals vs us → sp vs H Q E →
    codeAny (model P w) A (.call (.ref f) args) (CR CX0 outer P w H s Q E) s
section
variable {X : Cx} {x : Str} {p pos : Pos} {e : Expr} {es : List Expr} {t : TA} {k : Nat} {f : Addr} {fd : FuncData} {ps : List Str} {sp : Sp}
theorem run_fnG {pins : List (Addr × Obj)} {σ : L2.St} {H : Hp} {s : Shared} {Q : VK} {us : List Value} {vs : List V} (F : FnG X.prog X.w X.K X.mg X.base k f fd ps sp) (gd : X.A.guards = some []) (hr : Room k X.A) (hb : Binds X.K fd ps [])
    (I : Inv X pins σ H s) (r : Vals vs us) (h : sp vs H Q E0) : wpAny (model X.prog X.w) X.A (call (.ref f) us) (EP X pins σ Q) X.xe s := by
  have hl : (us ++ []).length = ps.length := by rw [List.append_nil, ← r.length]; exact F.len _ _ _ _ h
  have bi := hb s us I.kIn hl
  rw [List.append_nil] at bi
  refine wpAny_call (codeAny_mono (F.run X.A gd hr X.stack s H ⟨us, []⟩ us vs Q E0 I.env0 bi r h) fun r s' hq => ?_)
  match r, hq with
  | .ok (.ret u), hq => exact I.after hq
theorem pe_callG (F : FnG X.prog X.w X.K X.mg X.base k f fd ps sp) (gd : X.A.guards = some []) (hr : Room k X.A) (hg : Gl X x) (hm : X.mg x = some (.ref f)) (hk : PySem.W.keepIn X.K (.ref f) = true) (hb : Binds X.K fd ps [])
    (ha : PA X (e :: es) t) (hdb : (x == ("__debug__" : Str)) = false := by decide) (he : starEach (e :: es) X.env = (false, eval e X.env) :: starEach es X.env := by rfl) (hpl : (backTo pos (starEach es X.env)).any (·.1) = false := by rfl) :
    PE X (.Call (.Name x p) (e :: es) [] pos) (tCall sp [] E0 t) :=
  ⟨fun pins s σ H Q I h => wpAny_Call_Name_kw (ld_glob I hg hm (PySem.W.callWith_K (h₀ := X.base) I.ok.mod.kin hk (thn (ha.run pos pins s σ H _ I h) fun us s1 ⟨vs, H1, I1, r, q⟩ => ⟨I1.kIn, run_fnG F gd hr hb I1 r (by have q : sp (vs ++ []) H1 Q E0 := q; rwa [List.append_nil] at q)⟩) he hpl) hdb)⟩
end
variable {F : Fam}
/-- repr of nested data -/
def dReprN : List Da → Option Wv
  | [d] => if noDict d && d.showable && decide (d.shown.length ≤ sizeLine) && decide (d.depth ≤ 40) then some (.dat (.str d.shown)) else none
  | _ => none
theorem call_repr_nest {X : Cx} (gd : X.A.guards = some []) (hu : X.A.units + 64 < cLine) : CallR X (.builtin "repr") (fun xs H Q => ∃ v d, xs = [v] ∧ Dp X.K H v d ∧ d.hasDict = false ∧ d.showable = true ∧ d.shown.length ≤ sizeLine ∧ d.depth ≤ 40 ∧ Q (.str d.shown) H) := by
  intro pins s σ H xs us Q I r h
  obtain ⟨v, d, rfl, hd, nd, hs, hz, hp, q⟩ := h
  obtain ⟨u, rfl, rx⟩ := vals1 r
  obtain ⟨as, rd⟩ := Dp.reads I d v u hd rx
  have fin : ∀ h' u' tk, (∀ b o, s.heap.get? b = some o → h'.get? b = some o) → EP X pins σ Q (.str d.shown u') { s with heap := h', toks := tk } := fun h' u' tk hk => ⟨.str d.shown, H, I.kept hk, ⟨_, rfl⟩, q⟩
  cases rd with
  | none => exact PySem.P.repr_of_none (fin s.heap _ _ fun _ _ e => e)
  | bool b => exact PySem.P.repr_of_bool (fin s.heap _ _ fun _ _ e => e)
  | int i t => exact PySem.P.repr_of_int (by simpa [PyData.showable] using hs) (fin s.heap _ _ fun _ _ e => e)
  | str x t => exact PySem.P.repr_of_str (fin s.heap _ _ fun _ _ e => e) (by simpa only [PyData.shown] using hz)
  | list h1 h2 h3 h4 => exact repr_of_reads' (.list h1 h2 h3 h4) hs (fun z => by rw [nd] at z; cases z) gd (by omega) (fun _ _ e => e) fin hz
  | tuple h1 h2 h3 h4 => exact repr_of_reads' (.tuple h1 h2 h3 h4) hs (fun z => by rw [nd] at z; cases z) gd (by omega) (fun _ _ e => e) fin hz
  | dict h1 h2 h3 h4 h5 => exact absurd nd (by simp [PyData.hasDict])
mutual
theorem noDict_has : ∀ d : PyData, noDict d = true → d.hasDict = false
  | .none, _ | .bool _, _ | .int _, _ | .str _, _ => by simp only [PyData.hasDict]
  | .list xs, h => by simp only [PyData.hasDict]; exact noDict_hasAll xs (by simpa [noDict] using h)
  | .tuple xs, h => by simp only [PyData.hasDict]; exact noDict_hasAll xs (by simpa [noDict] using h)
  | .dict _, h => by simp [noDict] at h
theorem noDict_hasAll : ∀ ds : List PyData, noDictAll ds = true → PyData.hasDictAll ds = false
  | [], _ => by simp only [PyData.hasDictAll]
  | d :: ds, h => by
    simp only [noDictAll, Bool.and_eq_true] at h
    simp only [PyData.hasDictAll, noDict_has d h.1, noDict_hasAll ds h.2, Bool.or_self]
end
theorem cd_reprN (gd : ∀ i, (F.X i).A.guards = some []) (hu : ∀ i, (F.X i).A.units + 64 < cLine) : CallD F (.builtin "repr") dReprN := by
  intro ds w e
  unfold dReprN at e
  split at e
  · rename_i d
    split at e
    · rename_i hc
      cases e
      simp only [Bool.and_eq_true, decide_eq_true_eq] at hc
      obtain ⟨⟨⟨c1, c2⟩, c3⟩, c4⟩ := hc
      refine ⟨_, fun i => by have h := call_repr_nest (gd i) (hu i); rw [F.hK i] at h; exact h, fun pr B Hf H g σ vs Q E h c => ?_⟩
      obtain ⟨v, rfl, l⟩ := h.one
      exact ⟨v, d, rfl, l.1.dp c1, noDict_has d c1, c2, c3, c4, c.dat E (.str _)⟩
    · cases e
  · cases e
/-! ### the law's end -/
end
end EV
end
section
set_option maxHeartbeats 2000000
set_option autoImplicit false
/-! {} != a tuple; str(int) -/
namespace PySem
open PySem PySem.Spec PyProof.Rows
end PySem
namespace EV
open PySem PySem.Spec PyProof.Rows L2
end EV
end
section
set_option maxHeartbeats 2000000
set_option autoImplicit false
/-! EwE: dicts with ints and texts as keys: made, written, read; once they are data they are locked for good. -/
namespace EV
open PySem PySem.Spec PyProof.Rows L2
/-! ### the contents -/
def kOf : Da → Option Key
  | .int i => some (.inl i)
  | .str x => some (.inr x)
  | _ => none
theorem kOf_keyD (k : Key) : kOf (keyD k) = some k := by cases k <;> rfl
def isK (k : Key) (e : Da × Da) : Bool := decide (kOf e.1 = some k)
theorem isK_keyD (k j : Key) (d : Da) : isK k (keyD j, d) = decide (j = k) := by
  unfold isK
  rw [kOf_keyD]
  by_cases h : j = k
  · subst h; simp
  · have : ¬ (some j = some k) := fun z => h (Option.some.inj z)
    simp [h]
def getE (es : List (Da × Da)) (k : Key) : Option Da := (es.find? (isK k)).map fun e => e.2
def putE (es : List (Da × Da)) (k : Key) (d : Da) : List (Da × Da) := if es.any (isK k) then es.map (fun e => if isK k e then (e.1, d) else e) else es ++ [(keyD k, d)]
inductive KDE (K : Frag) (Hf : Hp) : List (Key × V) → List (Da × Da) → Prop
  | nil : KDE K Hf [] []
  | cons {k : Key} {v : V} {d : Da} {kvs : List (Key × V)} {es : List (Da × Da)} : Rep K Hf v d → KDE K Hf kvs es → KDE K Hf ((k, v) :: kvs) ((keyD k, d) :: es)
section
variable {K : Frag} {Hf Hf' : Hp}
theorem KDE.mono (e : Evl.Ex Hf Hf') : ∀ {kvs : List (Key × V)} {es : List (Da × Da)}, KDE K Hf kvs es → KDE K Hf' kvs es
  | _, _, .nil => .nil
  | _, _, .cons r t => .cons (r.mono e) (KDE.mono e t)
theorem KDE.of : ∀ {kvs : List (Key × V)} {ds : List Da}, RepAll K Hf (kvs.map fun q => q.2) ds → KDE K Hf kvs (zipK (kvs.map fun q => q.1) ds)
  | [], _, .nil => .nil
  | (k, v) :: kvs, _, .cons r t => .cons r (KDE.of t)
theorem KDE.length : ∀ {kvs : List (Key × V)} {es : List (Da × Da)}, KDE K Hf kvs es → kvs.length = es.length
  | _, _, .nil => rfl
  | _, _, .cons _ t => by rw [List.length_cons, List.length_cons, KDE.length t]
theorem KDE.get : ∀ {kvs : List (Key × V)} {es : List (Da × Da)}, KDE K Hf kvs es → ∀ k : Key, (getE es k = none ∧ valV kvs k = none) ∨ ∃ v d, valV kvs k = some v ∧ getE es k = some d ∧ Rep K Hf v d
  | _, _, .nil, k => .inl ⟨rfl, rfl⟩
  | _, _, @KDE.cons _ _ j v d kvs es r t, k => by
    by_cases h : j = k
    · refine .inr ⟨v, d, valV_pos h, ?_, r⟩
      unfold getE
      rw [List.find?_cons_of_pos (by rw [isK_keyD]; exact decide_eq_true h)]
      rfl
    · have e : getE ((keyD j, d) :: es) k = getE es k := by
        unfold getE
        rw [List.find?_cons_of_neg (by rw [isK_keyD, decide_eq_false h]; decide)]
      rw [e, valV_neg h]
      exact KDE.get t k
theorem KDE.any : ∀ {kvs : List (Key × V)} {es : List (Da × Da)}, KDE K Hf kvs es → ∀ k : Key, (kvs.any fun kv => decide (kv.1 = k)) = es.any (isK k)
  | _, _, .nil, k => rfl
  | _, _, @KDE.cons _ _ j v d kvs es r t, k => by rw [List.any_cons, List.any_cons, isK_keyD, KDE.any t k]
theorem KDE.repl {k : Key} {v : V} {d : Da} (r : Rep K Hf v d) : ∀ {kvs : List (Key × V)} {es : List (Da × Da)}, KDE K Hf kvs es → KDE K Hf (kvs.map fun kv => if kv.1 = k then (kv.1, v) else kv) (es.map fun e => if isK k e then (e.1, d) else e)
  | _, _, .nil => .nil
  | _, _, @KDE.cons _ _ j w x kvs es q t => by
    rw [List.map_cons, List.map_cons, isK_keyD]
    by_cases h : j = k
    · rw [if_pos h, if_pos (decide_eq_true h)]
      exact .cons r (KDE.repl r t)
    · rw [if_neg h, if_neg (by rw [decide_eq_false h]; decide)]
      exact .cons q (KDE.repl r t)
theorem KDE.snoc {k : Key} {v : V} {d : Da} (r : Rep K Hf v d) : ∀ {kvs : List (Key × V)} {es : List (Da × Da)}, KDE K Hf kvs es → KDE K Hf (kvs ++ [(k, v)]) (es ++ [(keyD k, d)])
  | _, _, .nil => .cons r .nil
  | _, _, .cons q t => .cons q (KDE.snoc r t)
theorem KDE.put {kvs : List (Key × V)} {es : List (Da × Da)} (t : KDE K Hf kvs es) {k : Key} {v : V} {d : Da} (r : Rep K Hf v d) : KDE K Hf (putK kvs k v) (putE es k d) := by
  unfold putK putE
  rw [t.any k]
  split
  · exact t.repl r
  · exact t.snoc r
end
/-! ### locking -/
section
variable {F : Fam} {pr : List Nat} {B : Addr → Prop} {Hf H Hf' H' Hf1 H1 Hf2 H2 : Hp} {g g' g1 g2 : Gh} {σ σ' σ1 σ2 : L2.St} {K : Frag}
/-- a dict that is read: it is locked, or empty -/
theorem Rep.dict {v : V} {es : List (Da × Da)} (h : Rep K Hf v (.dict es)) : ∃ (a : Addr) (o : Obj) (kvs : List (Key × V)), v = .ref a ∧ Hf a = some (.frz o (.dK kvs)) ∧ KDE K Hf kvs es := by
  generalize hd : PyData.dict es = d at h
  cases h with
  | dk h r => cases hd; exact ⟨_, _, _, rfl, h, KDE.of r⟩
  | _ => cases hd
theorem RL.dict {v : V} {es : List (Da × Da)} (h : RL K Hf H v (.dict es)) (ex : Evl.Ex Hf H) : ∃ (a : Addr) (kvs : List (Key × V)), v = .ref a ∧ Rd H a (.dK kvs) ∧ KDE K Hf kvs es := by
  rcases h.2 with r | ⟨p, vs, ds, rfl, e, hp, r⟩
  · obtain ⟨a, o, kvs, e, h1, h2⟩ := r.dict
    exact ⟨a, kvs, e, .inr ⟨o, ex _ _ h1⟩, h2⟩
  · cases e
/-! ### d[k], d.get -/
/-! ### d[k] = v -/
end
end EV
end
section
set_option maxHeartbeats 2000000
set_option autoImplicit false
/-! EwF: dicts walked, asked, sorted, made of pairs, written out. -/
namespace EV
open PySem PySem.Spec PyProof.Rows L2
section
variable {F : Fam} {pr : List Nat} {B : Addr → Prop} {Hf H Hf' H' Hf1 H1 Hf2 H2 : Hp} {g g' g1 g2 : Gh} {σ σ' σ1 σ2 : L2.St} {K : Frag}
/-! ### for k in d -/
/-! ### k in d -/
theorem KDE.isSome {kvs : List (Key × V)} {es : List (Da × Da)} (h : KDE K Hf kvs es) (k : Key) : (valV kvs k).isSome = (getE es k).isSome := by
  rcases h.get k with ⟨z1, z2⟩ | ⟨v, d, z1, z2, _⟩ <;> rw [z1, z2] <;> rfl
/-! ### sorted(d) -/
theorem KDE.ints : ∀ {kvs : List (Key × V)} {es : List (Da × Da)} {ns : List Int}, KDE K Hf kvs es → (es.map fun e => e.1) = ns.map PyData.int → kvs.map (fun q => q.1) = ns.map Sum.inl
  | _, _, [], .nil, _ => rfl
  | _, _, n :: ns, .nil, h => by simp at h
  | _, _, [], .cons _ _, h => by simp at h
  | _, _, n :: ns, @KDE.cons _ _ k _ _ _ _ _ t, h => by
    simp only [List.map_cons, List.cons.injEq] at h
    rw [List.map_cons, List.map_cons, KDE.ints t h.2]
    congr 1
    cases k with
    | inl i => exact congrArg _ (PyData.int.inj h.1)
    | inr x => cases h.1
/-! ### dict(pairs) -/
inductive KDQ (K : Frag) (Hf : Hp) : List (Key × V) → List (Key × Da) → Prop
  | nil : KDQ K Hf [] []
  | cons {k : Key} {v : V} {d : Da} {kvs : List (Key × V)} {qs : List (Key × Da)} : Rep K Hf v d → KDQ K Hf kvs qs → KDQ K Hf ((k, v) :: kvs) ((k, d) :: qs)
end
end EV
end
section
set_option maxHeartbeats 2000000
set_option autoImplicit false
/-! EwG: dicts written out; tuple(d.values()); sorted(set(tuple)). -/
namespace EV
open PySem PySem.Spec PyProof.Rows L2
/-! ### {k: v, ..} -/
section
variable {F : Fam} {pr : List Nat} {B : Addr → Prop} {Hf H Hf' H' Hf1 H1 Hf2 H2 : Hp} {g g' g1 g2 : Gh} {σ σ' σ1 σ2 : L2.St} {K : Frag}
theorem KDQ.mono (e : Evl.Ex Hf Hf') : ∀ {kvs : List (Key × V)} {qs : List (Key × Da)}, KDQ K Hf kvs qs → KDQ K Hf' kvs qs
  | _, _, .nil => .nil
  | _, _, .cons r t => .cons (r.mono e) (KDQ.mono e t)
theorem KDQ.length : ∀ {kvs : List (Key × V)} {qs : List (Key × Da)}, KDQ K Hf kvs qs → kvs.length = qs.length
  | _, _, .nil => rfl
  | _, _, .cons _ t => by rw [List.length_cons, List.length_cons, KDQ.length t]
end
end EV
/-! ### tuple(d.values()) -/
namespace PySem
end PySem
namespace EV
open PySem PySem.Spec PyProof.Rows L2
/-! ### sorted(set(xs)), xs a tuple of ints -/
end EV
end
section
set_option maxHeartbeats 2000000
set_option autoImplicit false
/-! EwH: xs[::-1] of a list or a tuple. -/
namespace PySem
end PySem
namespace EV
open PySem PySem.Spec PyProof.Rows L2
end EV
end
section
set_option maxHeartbeats 2000000
set_option autoImplicit false
/-! EwI: the dict words, applied. -/
namespace EV
open PySem PySem.Spec PyProof.Rows L2
end EV
end
section
set_option autoImplicit false
set_option exponentiation.threshold 1000
/-! the mirrors' equations, for simp: each where it is applied to the slots -/
namespace EV
open PySem PySem.Spec PyProof.Rows L2
section
variable (g g0 : Gh) (f h : ME) (t u : MT) (fa : MA) (it : MI) (s r : MS) (n i : Nat) (Fn F2 : Da → Da → Option Wv) (d : Da) (m : MF) (w : Wv) (ws : List Wv)
theorem e_bodyM (pr : List Nat) : bodyM pr n s g = (s (g ++ List.replicate n .un)).bind fun a => match a.1 with | .rt w => some (w, keepArgs pr g a.2) | .nx => some (.dat .none, keepArgs pr g a.2) | _ => none := rfl
theorem e_seq : sSeq s r g = (s g).bind fun a => match a.1 with | .nx => r a.2 | fl => some (fl, a.2) := rfl
theorem e_nil : sNil g = some (.nx, g) := rfl
theorem e_if : sIf t s r g = (t g).bind fun a => if a.1 = true then s a.2 else r a.2 := rfl
theorem e_set : sSet i f g = (f g).bind fun a => (setN i a.1 a.2).bind fun g' => some (.nx, g') := rfl
theorem e_ret (pr : List Nat) : sRet pr f g = (f g).bind fun a => match a.1 with
  | .slot i => if pr.contains i then (toD (.slot i) a.2).bind fun r => some (.rt (.dat r.1), r.2) else match a.2[i]? with
    | some (.own ds) => some (.rt (.fresh ds), a.2.set i .un)
    | some (.val d) => some (.rt (.dat d), a.2)
    | _ => none
  | w => some (.rt w, a.2) := rfl
theorem e_drop : sDrop f g = (f g).bind fun a => some (.nx, a.2) := rfl
theorem e_par (is : List Nat) : sPar is fa g = (fa g).bind fun a => (setNs is a.1 a.2).bind fun g' => some (.nx, g') := rfl
theorem e_asg (mm : Wv → Gh → Option Gh) : sAsg f mm g = (f g).bind fun a => (mm a.1 a.2).bind fun g' => some (.nx, g') := rfl
theorem e_for (tg : Wv → Gh → Option Gh) : sFor it tg s g = (it g).bind fun a => forL tg s a.1 a.2 := rfl
theorem e_app : sApp i f g = match g[i]? with
  | some (.own _) => (f g).bind fun a => (toD a.1 a.2).bind fun r => match r.2[i]? with
    | some (.own ds) => if ds.length < sizeLine then some (.nx, r.2.set i (.own (ds ++ [r.1]))) else none
    | _ => none
  | _ => none := rfl
theorem e_setix : sSetIx i f h g = (f g).bind fun a => (toD a.1 a.2).bind fun r => match r.2[i]? with
  | some (.own _) => (h r.2).bind fun b => (look b.1 b.2).bind fun y => match y, b.2[i]? with
    | .int k, some (.own ds) => (ixN ds.length k).bind fun j => some (.nx, b.2.set i (.own (ds.set j r.1)))
    | _, _ => none
  | _ => none := rfl
theorem e_aug (k : Int → Int → Int) : sAug i k f g = match g[i]? with
  | some (.val (.int a)) => (f g).bind fun b => (look b.1 b.2).bind fun y => match y with
    | .int j => if i < b.2.length then some (.nx, b.2.set i (.val (.int (k a j)))) else none
    | _ => none
  | _ => none := rfl
theorem e_while : sWhile n t s g = whileL t s n g := rfl
theorem e_name : mName i g = match g[i]? with | some (.val d) => some (.dat d, g) | some (.own _) => some (.slot i, g) | some (.raw v) => some (.raw v, g) | some (.x d) => some (.x d, g) | _ => none := rfl
theorem e_c : mC d g = some (.dat d, g) := rfl
theorem e_anil : mNil g = some ([], g) := rfl
theorem e_acons : mCons f fa g = (f g).bind fun a => (fa a.2).bind fun b => some (a.1 :: b.1, b.2) := rfl
theorem e_bin : mBin Fn f h g = (f g).bind fun a => (h a.2).bind fun b => (look a.1 b.2).bind fun x => (look b.1 b.2).bind fun y => (Fn x y).bind fun w => some (w, b.2) := rfl
theorem e_cmp : mCmp Fn f h g = asB (mBin Fn f h g) := rfl
theorem e_brk : sBrk g = some (.bk, g) := rfl
theorem e_cnt : sCnt g = some (.ct, g) := rfl
theorem e_retn : sRetN g = some (.rt (.dat .none), g) := rfl
theorem e_ix : mIx f h g = (f g).bind fun a => (h a.2).bind fun b => (look a.1 b.2).bind fun x => (look b.1 b.2).bind fun y => (dIx x y).bind fun d => some (.dat d, b.2) := rfl
theorem e_call (Fc : List Da → Option Wv) : mCall Fc fa g = (fa g).bind fun a => (lookAll a.1 a.2).bind fun ds => (Fc ds).bind fun w => some (w, a.2) := rfl
theorem e_fn : mFn m fa g = (fa g).bind fun a => (toSls a.1 a.2).bind fun r => (m r.1).bind fun c => some (c.1, r.2) := rfl
theorem e_fn0 : mFn0 m g = (m []).bind fun c => some (c.1, g) := rfl
theorem e_fnD : mFnD m fa g = (fa g).bind fun a => match a.1 with
  | .slot i :: ws => (toSls ws a.2).bind fun r => match r.2[i]? with
    | some (.own ds) => (m (.own ds :: r.1)).bind fun c => match c.2 with
      | s :: _ => some (c.1, r.2.set i s)
      | [] => none
    | _ => none
  | _ => none := rfl
theorem e_ifx : mIf t f h g = (t g).bind fun a => if a.1 = true then f a.2 else h a.2 := rfl
theorem e_oft : mOfT t g = (t g).bind fun a => some (.dat (.bool a.1), a.2) := rfl
theorem e_tru : mTru f g = (f g).bind fun a => (look a.1 a.2).bind fun x => (truthD x).bind fun b => some (b, a.2) := rfl
theorem e_not : mNot t g = (t g).bind fun a => some (!a.1, a.2) := rfl
theorem e_and : mAnd t u g = (t g).bind fun a => if a.1 = true then u a.2 else some (false, a.2) := rfl
theorem e_or : mOr t u g = (t g).bind fun a => if a.1 = true then some (true, a.2) else u a.2 := rfl
theorem e_andv : mAndV f h g = (f g).bind fun a => match a.1 with | .dat (.bool true) => h a.2 | .dat (.bool false) => some (.dat (.bool false), a.2) | _ => none := rfl
theorem e_orv : mOrV f h g = (f g).bind fun a => match a.1 with | .dat (.bool false) => h a.2 | .dat (.bool true) => some (.dat (.bool true), a.2) | _ => none := rfl
theorem e_notv : mNotV f g = (f g).bind fun a => match a.1 with | .dat (.bool b) => some (.dat (.bool (!b)), a.2) | _ => none := rfl
theorem e_neg : mNeg f g = (f g).bind fun a => (look a.1 a.2).bind fun x => match x with | .int i => some (.dat (.int (-i)), a.2) | _ => none := rfl
theorem e_isi (T : String) : mIsi T f g = (f g).bind fun a => (look a.1 a.2).bind fun x => (kitB (tyName x) T).bind fun b => some (.dat (.bool b), a.2) := rfl
theorem e_chain (fc : ME) : mChain Fn F2 f h fc g = (f g).bind fun a => (h a.2).bind fun b => (look a.1 b.2).bind fun x => (look b.1 b.2).bind fun y => match Fn x y with
  | some (.dat (.bool true)) => (fc b.2).bind fun c => (look b.1 c.2).bind fun y' => (look c.1 c.2).bind fun z => match F2 y' z with | some (.dat (.bool k)) => some (k, c.2) | _ => none
  | some (.dat (.bool false)) => some (false, b.2)
  | _ => none := rfl
theorem e_lst : mLst fa g = (fa g).bind fun a => (toDs a.1 a.2).bind fun r => if r.1.length ≤ sizeLine then some (.fresh r.1, r.2) else none := rfl
theorem e_tup : mTup fa g = (fa g).bind fun a => (toDs a.1 a.2).bind fun r => if r.1.length ≤ sizeLine then some (.dat (.tuple r.1), r.2) else none := rfl
theorem e_it : mIt f g = (f g).bind fun a => (toD a.1 a.2).bind fun r => (itemsD r.1).bind fun ds => some (ds, r.2) := rfl
theorem e_rg1 : mRg1 fa g = (fa g).bind fun a => (lookAll a.1 a.2).bind fun ds => match ds with | [.int j] => if okRg j = true then some (rgD 0 j, a.2) else none | _ => none := rfl
theorem e_rg2 : mRg2 fa g = (fa g).bind fun a => (lookAll a.1 a.2).bind fun ds => match ds with | [.int i, .int j] => if okRg i = true ∧ okRg j = true then some (rgD i j, a.2) else none | _ => none := rfl
theorem e_zip : mZip fa g = (fa g).bind fun a => (toDs a.1 a.2).bind fun r => match r.1 with | [.list ds, .list es] => some (zipD ds es, r.2) | [.tuple ds, .tuple es] => some (zipD ds es, r.2) | _ => none := rfl
theorem e_enum : mEnum fa g = (fa g).bind fun a => (toDs a.1 a.2).bind fun r => match r.1 with | [.list ds] => some (enumD 0 ds, r.2) | _ => none := rfl
theorem e_revi : mRevI f g = (f g).bind fun a => (toD a.1 a.2).bind fun r => (itemsD r.1).bind fun ds => some (ds.reverse, r.2) := rfl
theorem e_rev : mRev f g = (f g).bind fun a => (look a.1 a.2).bind fun x => match x with | .list xs => some (.fresh xs.reverse, a.2) | _ => none := rfl
theorem e_o0 : mO0 g = some (none, g) := rfl
theorem e_o1 : mO1 f g = (f g).bind fun a => (look a.1 a.2).bind fun x => match x with | .int i => some (some i, a.2) | _ => none := rfl
theorem e_sl (fl fh : MO) : mSl f fl fh g = (f g).bind fun a => (fl a.2).bind fun l => (fh l.2).bind fun h => (look a.1 h.2).bind fun x => match x with
  | .list xs => some (.fresh (cutD xs l.1 h.1), h.2)
  | .tuple xs => some (.dat (.tuple (cutD xs l.1 h.1)), h.2)
  | _ => none := rfl
theorem e_dict0 : mDict0 g = some (.dat (.dict []), g) := rfl
theorem e_yes : mYes g = some (true, g) := rfl
theorem e_comp (vs : List Nat) (tg : Wv → Gh → Option Gh) : mComp vs it tg t f g = (it g).bind fun a => if a.1.length < sizeLine then (compL vs tg t f a.1 (wipeG a.2 vs)).bind fun r => some (.fresh r.1, restore vs a.2 r.2) else none := rfl
theorem e_pop : mPop i g = match g[i]? with | some (.own ds) => (ds.getLast?).bind fun d => some (.dat d, g.set i (.own ds.dropLast)) | _ => none := rfl
theorem e_asB (b : Bool) : asB (some (.dat (.bool b), g)) = some (b, g) := rfl
theorem e_toDd : toD (.dat d) g = some (d, g) := rfl
theorem e_toDf (ds : List Da) : toD (.fresh ds) g = some (.list ds, g) := rfl
theorem e_toDs : toD (.slot i) g = match g[i]? with | some (.own ds) => some (.list ds, g.set i (.val (.list ds))) | some (.val d) => some (d, g) | _ => none := rfl
theorem e_lkd : look (.dat d) g = some d := rfl
theorem e_lkf (ds : List Da) : look (.fresh ds) g = some (.list ds) := rfl
theorem e_lks : look (.slot i) g = match g[i]? with | some (.own ds) => some (.list ds) | some (.val d) => some d | _ => none := rfl
theorem e_lan : lookAll [] g = some [] := rfl
theorem e_lac : lookAll (w :: ws) g = (look w g).bind fun a => (lookAll ws g).bind fun b => some (a :: b) := rfl
theorem e_tdn : toDs [] g = some ([], g) := rfl
theorem e_tdc : toDs (w :: ws) g = (toD w g).bind fun a => (toDs ws a.2).bind fun b => some (a.1 :: b.1, b.2) := rfl
theorem e_tsn : toSls [] g = some ([], g) := rfl
theorem e_tsd : toSls (.dat d :: ws) g = (toSls ws g).bind fun b => some (.val d :: b.1, b.2) := rfl
theorem e_tsf (ds : List Da) : toSls (.fresh ds :: ws) g = (toSls ws g).bind fun b => some (.val (.list ds) :: b.1, b.2) := rfl
theorem e_tss : toSls (.slot i :: ws) g = (toD (.slot i) g).bind fun a => (toSls ws a.2).bind fun b => some (.val a.1 :: b.1, b.2) := rfl
theorem e_snd : setN i (.dat d) g = if i < g.length then some (g.set i (.val d)) else none := rfl
theorem e_snf (ds : List Da) : setN i (.fresh ds) g = if i < g.length then some (g.set i (.own ds)) else none := rfl
theorem e_snn : setNs [] [] g = some g := rfl
theorem e_snc (is : List Nat) : setNs (i :: is) (w :: ws) g = (slOf w).bind fun s => if i < g.length then setNs is ws (g.set i s) else none := rfl
theorem e_sod : slOf (.dat d) = some (.val d) := rfl
theorem e_sof (ds : List Da) : slOf (.fresh ds) = some (.own ds) := rfl
theorem e_st (is : List Nat) (ds : List Da) : setT is (.dat (.tuple ds)) g = if ds.length = is.length then setNs is (ds.map Wv.dat) g else none := rfl
theorem e_fln (tg : Wv → Gh → Option Gh) : forL tg s [] g = some (.nx, g) := rfl
theorem e_keep (pr : List Nat) : keepArgs pr g0 g = g0.mapIdx fun i s => if pr.contains i then g[i]?.getD .un else s := rfl
theorem e_itl (ds : List Da) : itemsD (.list ds) = some ds := rfl
theorem e_itt (ds : List Da) : itemsD (.tuple ds) = some ds := rfl
end
section
variable (a b : Int) (k : Bool) (xs ys : List Da) (d e : Da)
theorem d_add : dAdd (.int a) (.int b) = some (.dat (.int (a + b))) := rfl
theorem d_addT : dAdd (.tuple xs) (.tuple ys) = if xs.length + ys.length ≤ sizeLine then some (.dat (.tuple (xs ++ ys))) else none := rfl
theorem d_sub : dSub (.int a) (.int b) = some (.dat (.int (a - b))) := rfl
theorem d_mod (h : 0 < b) : dMod (.int a) (.int b) = some (.dat (.int (a % b))) := if_pos (decide_eq_true h)
theorem d_fdiv (h : 0 < b) (h2 : b < 1000000000000000000000) : dFdiv (.int a) (.int b) = some (.dat (.int (a / b))) := by
  have : b.natAbs.log2 < 9000 := by
    have h3 : b.natAbs < 2 ^ 100 := by omega
    exact Nat.lt_of_lt_of_le (PySem.Flt.log2_lt_of (by decide) h3) (by decide)
  exact if_pos (show (decide (0 < b) && decide (b.natAbs.log2 < 9000)) = true by rw [decide_eq_true h, decide_eq_true this]; rfl)
theorem d_pow (h : 0 ≤ b) (h2 : b ≤ 1000000) (h3 : a.natAbs < 2 ^ 64) : dPow (.int a) (.int b) = some (.dat (.int (a ^ b.toNat))) := if_pos (show (decide (0 ≤ b) && decide (b ≤ 1000000) && decide (a.natAbs < 2 ^ 64)) = true by rw [decide_eq_true h, decide_eq_true h2, decide_eq_true h3]; rfl)
theorem d_mulW (h : a.natAbs.log2 + b.natAbs.log2 < 1000000) : dMul (.int a) (.int b) = some (.dat (.int (a * b))) := if_pos h
theorem log2_le {x : Int} {k : Nat} (h : x.natAbs < 2 ^ (k + 1)) : x.natAbs.log2 ≤ k := Nat.le_of_lt_succ (PySem.Flt.log2_lt_of (Nat.succ_pos k) h)
/-- where one factor is below 2^64 and the other below 2^900000 -/
theorem d_mul (h : a.natAbs < 2 ^ 400) (h2 : b.natAbs < 2 ^ 400) : dMul (.int a) (.int b) = some (.dat (.int (a * b))) := by
  refine d_mulW a b ?_
  have h1 := log2_le (k := 399) h
  have h3 := log2_le (k := 399) h2
  omega
theorem d_lt : dLt (.int a) (.int b) = some (.dat (.bool (decide (a < b)))) := rfl
theorem d_le : dLe (.int a) (.int b) = some (.dat (.bool (decide (a ≤ b)))) := rfl
theorem d_gt : dGt (.int a) (.int b) = some (.dat (.bool (decide (b < a)))) := rfl
theorem d_ge : dGe (.int a) (.int b) = some (.dat (.bool (decide (b ≤ a)))) := rfl
theorem d_eq : dEq (.int a) (.int b) = some (.dat (.bool (a == b))) := rfl
theorem d_ne : dNe (.int a) (.int b) = some (.dat (.bool (!(a == b)))) := rfl
theorem eqB_D (h : okEq d = true) (h2 : okEq e = true) : eqB d e = some (PyData.eqv d e) := by
  unfold eqB
  split
  · simp only [PyData.eqv]
  · rw [h, h2]; rfl
theorem d_eqD (h : okEq d = true) (h2 : okEq e = true) : dEq d e = some (.dat (.bool (PyData.eqv d e))) := by
  unfold dEq; rw [eqB_D d e h h2]; rfl
theorem d_ixl : dIx (.list xs) (.int a) = atI xs a := rfl
theorem d_ixt : dIx (.tuple xs) (.int a) = atI xs a := rfl
theorem d_lenl : dLen [.list xs] = some (.dat (.int xs.length)) := rfl
theorem d_lent : dLen [.tuple xs] = some (.dat (.int xs.length)) := rfl
theorem d_inti : dInt [.int a] = some (.dat (.int a)) := rfl
theorem d_intb : dInt [.bool k] = some (.dat (.int (if k then 1 else 0))) := rfl
theorem d_abs : dAbs [.int a] = some (.dat (.int (if a < 0 then -a else a))) := rfl
theorem d_max2 : dMax [.int a, .int b] = some (.dat (.int (if b > a then b else a))) := rfl
theorem d_min2 : dMin [.int a, .int b] = some (.dat (.int (if b < a then b else a))) := rfl
theorem d_tupl : dTuple [.list xs] = some (.dat (.tuple xs)) := rfl
theorem d_tupt : dTuple [.tuple xs] = some (.dat (.tuple xs)) := rfl
theorem d_lsl : dList [.list xs] = some (.fresh xs) := rfl
theorem d_lst : dList [.tuple xs] = some (.fresh xs) := rfl
theorem d_rb : dRepr [.bool k] = some (.dat (.str (if k then "True" else "False"))) := rfl
theorem t_b : truthD (.bool k) = some k := rfl
theorem t_i : truthD (.int a) = some (a != 0) := rfl
theorem t_l : truthD (.list xs) = some (!xs.isEmpty) := rfl
theorem t_t : truthD (.tuple xs) = some (!xs.isEmpty) := rfl
theorem is_nb (neg : Bool) : dIs neg d .none = some (.dat (.bool (if neg then !isNone d else isNone d))) := by unfold dIs; cases d <;> rfl
theorem is_bb (neg : Bool) (j : Bool) : dIs neg d (.bool j) = some (.dat (.bool (if neg then !isBl j d else isBl j d))) := by unfold dIs; cases d <;> rfl
theorem k_ii : kitB (tyName (.int a)) "int" = some true := by show kitB "int" "int" = _; decide +kernel
theorem k_ib : kitB (tyName (.int a)) "bool" = some false := by show kitB "int" "bool" = _; decide +kernel
theorem k_bi : kitB (tyName (.bool k)) "int" = some true := by show kitB "bool" "int" = _; decide +kernel
theorem k_bb : kitB (tyName (.bool k)) "bool" = some true := by show kitB "bool" "bool" = _; decide +kernel
theorem k_ni : kitB (tyName .none) "int" = some false := by show kitB "NoneType" "int" = _; decide +kernel
theorem k_si (x : Str) : kitB (tyName (.str x)) "int" = some false := by show kitB "str" "int" = _; decide +kernel
theorem k_ti : kitB (tyName (.tuple xs)) "int" = some false := by show kitB "tuple" "int" = _; decide +kernel
theorem k_li : kitB (tyName (.list xs)) "int" = some false := by show kitB "list" "int" = _; decide +kernel
theorem k_di (q : List (Da × Da)) : kitB (tyName (.dict q)) "int" = some false := by show kitB "dict" "int" = _; decide +kernel
theorem k_tt : kitB (tyName (.tuple xs)) "tuple" = some true := by show kitB "tuple" "tuple" = _; decide +kernel
end
end EV
end
section
set_option autoImplicit false
set_option exponentiation.threshold 1000
/-! comparing data: what may be compared, and what comes out -/
namespace EV
open PySem PySem.Spec PyProof.Rows L2
/-- data without dicts, of at most so deep a nesting -/
def Flat (n : Nat) (d : Da) : Prop := noDict d = true ∧ d.canLay0 = true ∧ d.depth ≤ n
theorem flat_all {n : Nat} : ∀ {xs : List Da}, (∀ x ∈ xs, Flat n x) → noDictAll xs = true ∧ PyData.canLayAll0 xs = true ∧ PyData.depthAll xs ≤ n
  | [], _ => ⟨rfl, by simp only [PyData.canLayAll0], by simp only [PyData.depthAll]; omega⟩
  | x :: xs, h => by
    obtain ⟨h1, h2, h3⟩ := h x List.mem_cons_self
    obtain ⟨k1, k2, k3⟩ := flat_all fun x hx => h x (List.mem_cons_of_mem _ hx)
    refine ⟨?_, ?_, ?_⟩
    · simp only [noDictAll, h1, k1, Bool.and_true]
    · simp only [PyData.canLayAll0, h2, k2, Bool.and_true]
    · simp only [PyData.depthAll]; omega
theorem flat_list {n : Nat} {xs : List Da} (h : ∀ x ∈ xs, Flat n x) : Flat (n + 1) (.list xs) := by
  obtain ⟨k1, k2, k3⟩ := flat_all h
  exact ⟨by simp only [noDict, k1], by simp only [PyData.canLay0, k2], by simp only [PyData.depth]; omega⟩
theorem flat_tuple {n : Nat} {xs : List Da} (h : ∀ x ∈ xs, Flat n x) : Flat (n + 1) (.tuple xs) := by
  obtain ⟨k1, k2, k3⟩ := flat_all h
  exact ⟨by simp only [noDict, k1], by simp only [PyData.canLay0, k2], by simp only [PyData.depth]; omega⟩
theorem ok_flat {n : Nat} {d : Da} (h : Flat n d) (hn : n ≤ 64 := by decide) : okEq d = true := by
  show (noDict d && SeqAt.shaped d) = true
  rw [h.1]
  show (d.canLay0 && decide (d.depth ≤ 64)) = true
  rw [h.2.1, decide_eq_true (Nat.le_trans h.2.2 hn)]
  rfl
mutual
theorem eqv_self : ∀ d : Da, noDict d = true → PyData.eqv d d = true
  | .none, _ => by simp only [PyData.eqv]
  | .bool b, _ => by simp only [PyData.eqv, beq_self_eq_true]
  | .int b, _ => by simp only [PyData.eqv, beq_self_eq_true]
  | .str b, _ => by simp only [PyData.eqv, beq_self_eq_true]
  | .list xs, h => by simp only [PyData.eqv]; exact eqvAll_self xs (by simpa only [noDict] using h)
  | .tuple xs, h => by simp only [PyData.eqv]; exact eqvAll_self xs (by simpa only [noDict] using h)
  | .dict _, h => by simp [noDict] at h
theorem eqvAll_self : ∀ xs : List Da, noDictAll xs = true → PyData.eqvAll xs xs = true
  | [], _ => by simp only [PyData.eqvAll]
  | x :: xs, h => by
    simp only [noDictAll, Bool.and_eq_true] at h
    simp only [PyData.eqvAll, eqv_self x h.1, eqvAll_self xs h.2, Bool.and_self]
end
theorem d_eqS {n : Nat} {d : Da} (h : Flat n d) (hn : n ≤ 64 := by decide) : dEq d d = some (.dat (.bool true)) := by
  rw [d_eqD _ _ (ok_flat h hn) (ok_flat h hn), eqv_self d h.1]
end EV
end
section
set_option maxHeartbeats 2000000
set_option autoImplicit false
/-! EwJ: x in a tuple of plain items, where x may be data of any depth. -/
namespace EV
open PySem PySem.Spec PyProof.Rows L2
end EV
end
section
set_option maxHeartbeats 2000000
set_option autoImplicit false
/-! EyA: what is raised. A second mirror of a def tells the error that it lets out, where it does. -/
namespace EV
open PySem PySem.Spec PyProof.Rows L2
/-- an error: the name of its class, what it keeps -/
abbrev Er := Str × Option (Str × Da)
abbrev MX := Gh → Option Er
/-- the exception that stands for it; its dict was not there at H0 -/
def ErOk (mg : Str → Option Value) (K : Frag) (H0 Hf H : Hp) (er : Er) (cls : Value) (d : Option Addr) : Prop :=
  Evl.Ex Hf H ∧ ∃ C : Addr, mg er.1 = some (.ref C) ∧ cls = .ref C ∧ match er.2 with
    | none => d = none
    | some (f, da) => ∃ (dd : Addr) (v : V), d = some dd ∧ H0 dd = none ∧ H dd = some (.xd [(f, v)]) ∧ Rep K Hf v da
theorem ErOk.back {mg : Str → Option Value} {K : Frag} {H0 H1 Hf H : Hp} {er : Er} {cls : Value} {d : Option Addr} (k : ErOk mg K H1 Hf H er cls d) (st : ∀ p, H1 p = none → H0 p = none) : ErOk mg K H0 Hf H er cls d := by
  obtain ⟨hx, C, h1, h2, h3⟩ := k
  refine ⟨hx, C, h1, h2, ?_⟩
  obtain ⟨nm, o⟩ := er
  cases o with
  | none => exact h3
  | some z =>
    obtain ⟨dd, v, e, n, r⟩ := h3
    exact ⟨dd, v, e, st _ n, r⟩
/-- where an error is let out: it, and how the slots stand -/
abbrev MXe := Gh → Option (Er × Gh)
section
variable (F : Fam) (mg : Str → Option Value) (pr : List Nat) (W : WX)
/-- a statement that lets an error out -/
def EvX (st : Stmt) (m : MX) : Prop := ∀ (B : Addr → Prop) (Hf H : Hp) (g : Gh) (σ : L2.St) (er : Er) (D : Ends), En F.K pr B Hf H g σ → m g = some er →
  (∀ Hf' H' σ' cls d, Tr (Own g σ) Hf H Hf' H' → ErOk mg F.K H Hf' H' er cls d → W cls d σ' H') → US F st D σ H
def EvXs (st : List Stmt) (m : MX) : Prop := ∀ (B : Addr → Prop) (Hf H : Hp) (g : Gh) (σ : L2.St) (er : Er) (D : Ends), En F.K pr B Hf H g σ → m g = some er →
  (∀ Hf' H' σ' cls d, Tr (Own g σ) Hf H Hf' H' → ErOk mg F.K H Hf' H' er cls d → W cls d σ' H') → USs F st D σ H
/-- an expression that lets an error out -/
def EvXe (e : Expr) (m : MXe) : Prop := ∀ (B : Addr → Prop) (Hf H : Hp) (g : Gh) (σ : L2.St) (er : Er) (g' : Gh) (Q : VK), En F.K pr B Hf H g σ → m g = some (er, g') →
  (∀ Hf' H' σ' cls d, Stp F.K pr B Hf H g σ Hf' H' g' → ErOk mg F.K H Hf' H' er cls d → W cls d σ' H') → U F e σ H Q
end
section
variable {F : Fam} {mg : Str → Option Value} {pr : List Nat} {W : WX} {B : Addr → Prop} {Hf H Hf' H' Hf1 H1 Hf2 H2 : Hp} {g g' g1 g2 : Gh} {σ σ' σ1 σ2 : L2.St} {K : Frag}
theorem Tr.after {O O1 : Addr → Prop} (a : Tr O Hf H Hf1 H1) (b : Tr O1 Hf1 H1 Hf2 H2) (s : ∀ p, O1 p → O p ∨ H p = none) : Tr O Hf H Hf2 H2 := a.trans b s
/-! ### one statement behind the other -/
def xNil : MX := fun _ => none
def xSeq (ms : MS) (xs xr : MX) : MX := fun g => match xs g with
  | some e => some e
  | none => (ms g).bind fun a => match a.1 with
    | .nx => xr a.2
    | _ => none
theorem xs_cons {st : Stmt} {r : List Stmt} {ms : MS} {xs xr : MX} (h : EvS F pr st ms) (h1 : EvX F mg pr W st xs) (h2 : EvXs F mg pr W r xr) : EvXs F mg pr W (st :: r) (xSeq ms xs xr) := by
  intro B Hf H g σ er D E eq q
  refine ⟨tSeq (US F st) (USs F r), fun i => pss_cons (ps_U i) (pss_U i), ?_⟩
  unfold xSeq at eq
  split at eq
  · rename_i e he
    cases eq
    exact h1 B Hf H g σ er _ E he q
  · obtain ⟨⟨fl, g1⟩, e1, eq1⟩ := Option.bind_eq_some_iff.mp eq
    cases fl with
    | nx =>
      refine h B Hf H g σ .nx g1 _ E e1 fun σ1 Hf1 H1 s1 => ?_
      exact h2 B Hf1 H1 g1 σ1 er D s1.env eq1 fun Hf' H' σ' cls d t k => q Hf' H' σ' cls d (s1.tr.trans t s1.sub) (k.back s1.tr.stay)
    | rt w => cases eq1
    | bk => cases eq1
    | ct => cases eq1
theorem xs_nil {r : List Stmt} : EvXs F mg pr W r xNil := fun _ _ _ _ _ _ _ _ eq _ => by cases eq
theorem xs_one {st : Stmt} {x : MX} (h : EvX F mg pr W st x) : EvXs F mg pr W [st] x := by
  intro B Hf H g σ er D E eq q
  exact ⟨tSeq (US F st) tNext, fun i => pss_cons (ps_U i) pss_nil, h B Hf H g σ er _ E eq q⟩
def xIf (t : MT) (a b : MX) : MX := fun g => (t g).bind fun r => if r.1 = true then a r.2 else b r.2
theorem x_if {t : Expr} {a b : List Stmt} {ft : MT} {f h : MX} {pos : Pos} (ht : EvT F pr t ft) (ha : EvXs F mg pr W a f) (hb : EvXs F mg pr W b h) : EvX F mg pr W (.If t a b pos) (xIf ft f h) := by
  intro B Hf H g σ er D E eq q
  obtain ⟨⟨k, g1⟩, e1, eq1⟩ := Option.bind_eq_some_iff.mp eq
  refine ⟨tIfS (UT F t) (USs F a) (USs F b), fun i => ps_if (pt_U i) (pss_U i) (pss_U i), ?_⟩
  refine ht B Hf H g σ k g1 _ E e1 fun Hf1 H1 s1 => ?_
  cases k with
  | true => exact ha B Hf1 H1 g1 σ er D s1.env eq1 fun Hf' H' σ' cls d t k => q Hf' H' σ' cls d (s1.tr.trans t fun p z => .inl (s1.sub p z)) (k.back s1.tr.stay)
  | false => exact hb B Hf1 H1 g1 σ er D s1.env eq1 fun Hf' H' σ' cls d t k => q Hf' H' σ' cls d (s1.tr.trans t fun p z => .inl (s1.sub p z)) (k.back s1.tr.stay)
/-! ### calls -/
def xOf (x : MXe) : MX := fun g => (x g).map fun r => r.1
theorem x_drop {e : Expr} {x : MXe} {pos : Pos} (h : EvXe F mg pr W e x) (hs : ∀ j, swapsWith e none pos.line (F.X j).env = pure false := by intro _; rfl) : EvX F mg pr W (.Expr e pos) (xOf x) := by
  intro B Hf H g σ er D E eq q
  obtain ⟨⟨er', g'⟩, e1, e2⟩ := Option.map_eq_some_iff.mp eq
  cases e2
  exact ⟨tDrop (U F e), fun i => ps_expr (pe_U i) (hs i), h B Hf H g σ er' g' _ E e1 fun Hf' H' σ' cls d s k => q Hf' H' σ' cls d s.tr k⟩
/-- what a def promises that lets an error out -/
def spX (K : Frag) (mg : Str → Option Value) (n : Nat) (m : MX) : Sp := fun vs H _ E => vs.length = n ∧ ∃ Hf G er, En K [] (fun p => H p = none) Hf H G (vs.map some) ∧ m G = some er ∧
  ∀ Hf' H' cls d, Tr (Own G (vs.map some)) Hf H Hf' H' → ErOk mg K H Hf' H' er cls d → E cls d H'
def xFn (x : MX) (fa : MA) : MXe := fun g => (fa g).bind fun a => (toSls a.1 a.2).bind fun r => (x r.1).map fun er => (er, r.2)
theorem x_fn {y : Str} {e : Expr} {es : List Expr} {fa : MA} {n k : Nat} {m : MX} {f : Addr} {fd : FuncData} {ps : List Str} {p pos : Pos} (tk : ∀ i, Takes (F.X i) W) (FO : ∀ i, FnOk (F.X i).prog (F.X i).w (F.X i).K (F.X i).mg (F.X i).base (L2.CX (F.X i).prog (F.X i).w) k f fd ps (spX F.K mg n m)) (hr : ∀ i, Room k (F.X i).A) (hm : ∀ i, (F.X i).mg y = some (.ref f)) (hk : ∀ i, PySem.W.keepIn (F.X i).K (.ref f) = true) (hb : ∀ i, Binds (F.X i).K fd ps [])
    (ha : EvA F pr (e :: es) fa) (hn : ∀ g ws g', fa g = some (ws, g') → ws.length = n) (hg : ∀ i, Gl (F.X i) y := by intro _; rfl) (hdb : (y == ("__debug__" : Str)) = false := by decide)
    (he : ∀ i, starEach (e :: es) (F.X i).env = (false, eval e (F.X i).env) :: starEach es (F.X i).env := by intro _; rfl) (hpl : ∀ i, (backTo pos (starEach es (F.X i).env)).any (·.1) = false := by intro _; rfl) : EvXe F mg pr W (.Call (.Name y p) (e :: es) [] pos) (xFn m fa) := by
  intro B Hf H g σ er g2 Q E eq q
  obtain ⟨⟨ws, g1⟩, e1, eq1⟩ := Option.bind_eq_some_iff.mp eq
  obtain ⟨⟨ss, g3⟩, e2, eq2⟩ := Option.bind_eq_some_iff.mp eq1
  obtain ⟨er0, e8, e9⟩ := Option.map_eq_some_iff.mp eq2
  cases e9
  refine ⟨tCall (spX F.K mg n m) [] (fun cls d H' => ∀ σ', W cls d σ' H') (UA F (e :: es)), fun i => pe_call (FO i) (hr i) (hg i) (hm i) (hk i) (hb i) .nil (passes_call (tk i) fun cls d σ H z => z σ) (pa_U i) hdb (he i) (hpl i), ?_⟩
  refine ha B Hf H g σ ws g1 _ E e1 fun vs Hf1 H1 s1 w1 y1 => ?_
  rw [List.append_nil]
  obtain ⟨Hf2, s2, _, sa⟩ := toSls_ok s1 w1 y1 e2
  have noown : ∀ (i : Nat) (t : Sl), ss[i]? = some t → t.ow = true → False := fun i t h o => by
    obtain ⟨v, _, _, no⟩ := SlAll.get (H := H1) sa h
    rw [o] at no; cases no
  refine ⟨by rw [← yall_len y1]; exact hn g ws g1 e1, Hf2, ss, er, ⟨s2.env.ex, by rw [List.length_map]; exact sa.len, fun i s h _ => ?_, fun i j ds es p h1 o1 => (noown i ds h1 o1).elim, fun p h => h, fun i ds p h1 o1 => (noown i ds h1 o1).elim, fun i ds p h1 hp => (noown i ds h1 (inn_ow hp)).elim⟩, e8, fun Hf' H' cls d t k σ' => ?_⟩
  · obtain ⟨v, e, so, _⟩ := SlAll.get (H := H1) sa h
    exact ⟨v, map_get e, so⟩
  · have no : ∀ p, ¬ Own ss (vs.map some) p := fun p ⟨i, ds, h1, o, _⟩ => noown i ds h1 o
    have E3 : En F.K pr B Hf' H' g3 σ := s2.env.step t (fun p _ => no p) k.1
    exact q Hf' H' σ' cls d ⟨s2.tr.trans' (t.wide (O1 := Own g3 σ) fun p z => (no p z).elim) s2.sub, E3, s2.sub⟩ (k.back s2.tr.stay)
/-! ### raise -/
/-- an own class of errors over ValueError without an __init__ of its own -/
structure ClsE (K : Frag) (mg : Str → Option Value) (x : Str) (C : Addr) : Prop where
  g : mg x = some (.ref C)
  ex : PySem.W.excIn K C [.type "ValueError", .type "Exception", .type "BaseException", .type "object"] "ValueError.__new__" = true
  kp : PySem.W.keepIn K (.ref C) = true
  sb : PySem.W.subIn K (.ref C) (.type "BaseException") = some true
  ty : PySem.W.typeIn K (.ref C) = some (.type "type")
def xRaise (x : Str) : MX := fun _ => some (x, none)
theorem x_raise {x m : Str} {C : Addr} {j : Nat} {p p2 pos pos' : Pos} (hc : ∀ i, (F.X i).calm = true) (tk : ∀ i, Takes (F.X i) W) (hmg : ∀ i, (F.X i).mg = mg) (T : ClsE F.K mg x C) (hg : ∀ i, Gl (F.X i) x := by intro _; rfl) (hdb : (x == ("__debug__" : Str)) = false := by decide) :
    EvX F mg pr W (.Raise (some (.Call (.Name x p) [.Constant (.str m) j p2] [] pos)) none pos') (xRaise x) := by
  intro B Hf H g σ er D E eq q
  cases eq
  refine ⟨fun _ σ H => W (.ref C) none σ H, fun i => ps_raise (hc i) (tk i) (pmk_own PySem.F.excBase_ValueError (by rw [F.hK i]; exact T.ex) (by rw [hmg i]; exact T.g) (by rw [F.hK i]; exact T.kp) (raises_own (by rw [F.hK i]; exact T.sb) (by rw [F.hK i]; exact T.ty)) (hg i) hdb), ?_⟩
  exact q Hf H σ _ _ Tr.refl ⟨E.ex, C, T.g, rfl, rfl⟩
/-! ### defs -/
def bodyX (n : Nat) (m : MX) : MX := fun G => m (G ++ List.replicate n .un)
theorem def_okX {P : Program} {w : World} {mg : Str → Option Value} {base : Heap} {x qual : Str} {st : Stmt} {f : Addr} {fd : FuncData} {N ps : List Str} {k n : Nat} {m : MX} (Fu : Fun K x qual st f fd) (S : FnScope N ps (defScope st))
    (hn : N.length = ps.length + n) (hb : ∀ (cdv : Value) (A : Around) (outer : List PySem.Env) (s : Shared) (H : Hp) (E : XK), Room k (A.deeper (envOfC qual (defScope st) s.heap.objs.size f cdv)) →
      EvXs (Fam.one (cxOf (L2.CX P w) P w K mg base N qual (defScope st) f cdv A outer s H E)) mg [] (fun cls d _ H' => E cls d H') (defBody st) m) : FnOk P w K mg base (L2.CX P w) (k + 1) f fd ps (spX K mg ps.length (bodyX n m)) := by
  refine Fu.okX S (fun vs H Q E h => h.1) fun cdv A outer s H vs Q E hr h => ?_
  obtain ⟨hl, Hf, G, er, En0, em, q⟩ := h
  have lenG : G.length = vs.length := by have := En0.len; rwa [List.length_map] at this
  have ga : ∀ {i : Nat} {sl : Sl}, (G ++ List.replicate n Sl.un)[i]? = some sl → sl ≠ .un → G[i]? = some sl := fun {i sl} h1 h2 => by
    by_cases hi : i < G.length
    · rwa [List.getElem?_append_left hi] at h1
    · rw [List.getElem?_append_right (by omega), List.getElem?_replicate] at h1
      split at h1
      · cases h1; exact absurd rfl h2
      · cases h1
  have E1 : En K [] (fun p => H p = none) Hf H (G ++ List.replicate n .un) (L2.start N vs) := by
    refine ⟨En0.ex, ?_, fun i sl h1 h2 => ?_, fun i j ds es p h1 o1 h2 o2 k1 k2 => ?_, En0.nb, fun i ds p h1 o1 k1 => ?_, fun i ds p h1 hp => En0.obi i ds p (ga h1 (ow_ne (inn_ow hp))) hp⟩
    · unfold L2.start
      rw [List.length_append, List.length_append, List.length_map, List.length_replicate, List.length_replicate]; omega
    · obtain ⟨v, e, so⟩ := En0.ok i sl (ga h1 h2) h2
      exact ⟨v, start_of e, so⟩
    · exact En0.dis i j ds es p (ga h1 (ow_ne o1)) o1 (ga h2 (ow_ne o2)) o2 (k1.imp fun z => map_get (start_get z)) (k2.imp fun z => map_get (start_get z))
    · exact En0.ob i ds p (ga h1 (ow_ne o1)) o1 (map_get (start_get k1))
  have ow : ∀ p, Own (G ++ List.replicate n .un) (L2.start N vs) p → Own G (vs.map some) p := fun p ⟨i, ds, h1, o, h2⟩ => ⟨i, ds, ga h1 (ow_ne o), o, h2.imp fun z => map_get (start_get z)⟩
  obtain ⟨t, ht, hq⟩ := hb cdv A outer s H E hr (fun p => H p = none) Hf H _ (L2.start N vs) er { nx := fun _ H' => Q .non H', rt := Q } E1 em fun Hf' H' σ' cls d t k => q Hf' H' cls d (t.wide ow) k
  exact ⟨t, ht (), hq⟩
end
end EV
end
section
set_option autoImplicit false
/-! EyB: own classes of errors over any built-in one, whose __init__ keeps its one argument; raised. -/
namespace EV
open PySem PySem.Spec PyProof.Rows L2
/-- what the written part says of the class: its built-in's mro is bmB -/
structure OxG (K : Frag) (C : Addr) (bmB : List Value) (newId : String) : Prop where
  ii : PySem.W.excInitIn K C bmB newId = true
  hd : (PySem.W.clsIn K C).any (fun cd => cd.hasDict) = true
  sa : PySem.W.findIn K (.ref C) "__setattr__" = some (some (.builtin "object.__setattr__"))
  exC : PySem.W.subIn K (.ref C) (.type "BaseException") = some true
  tyC : PySem.W.typeIn K (.ref C) = some (.type "type")
  kC : PySem.W.keepIn K (.ref C) = true
theorem OxG.cls {K : Frag} {C : Addr} {bmB : List Value} {newId : String} (T : OxG K C bmB newId) : ∃ nm N qn bs bm sn sub ab col dd k0 k1 k2 k3 k5, K.lookup C = some (excClassObj nm qn C N bs bm true sn sub ab col dd k0 k1 k2 k3 k5 newId) ∧ PySem.W.excTail bmB bm = true := by
  have q := T.ii
  have hd := T.hd
  unfold PySem.W.excInitIn at q
  split at q
  · rename_i dd cd sl ho
    split at q
    · rename_i C' bm k0 k1 k2 k3 n k5 hm hs
      simp only [Bool.and_eq_true, beq_iff_eq, Bool.not_eq_true'] at q
      obtain ⟨⟨⟨rfl, rfl⟩, hdel⟩, ht⟩ := q
      obtain ⟨nm, bs, mro, ns, qn, h0, sn, sub, ab, col, del⟩ := cd
      dsimp only at hm hdel
      subst hm hdel
      have hsl : sl = #[k0, k1, k2, k3, some (.builtin n), k5] := by
        obtain ⟨l⟩ := sl
        simp only at hs
        rw [hs]
      subst hsl
      have h1 : h0 = true := by
        unfold PySem.W.clsIn at hd
        rw [ho] at hd
        exact hd
      subst h1
      exact ⟨nm, ns, qn, bs, bm, sn, sub, ab, col, dd, k0, k1, k2, k3, k5, ho, ht⟩
    · cases q
  · cases q
section
open PySem.W PySem.Calls PySem.HandSPX Builtin Builtin.ObjectAttr
variable {prog : Program} {w : World} {A : Around} {E : Value → Shared → Prop} {R : Result → Shared → Prop} {hp : Heap} {g : Array GenState} {d : Drawn} {t : Nat} {os : OsState} {bmB : List Value} {B : String}
/-- object.__setattr__ on such an exception that has no dict as yet -/
theorem osaG {K : PySem.W.Frag} {name : Str} {tk : Tok} {v : Value} {x C : Addr} {fv : Array Value} {cd : ClassData} {bm : List Value} (SB : StoreFacts B bmB "object.__setattr__" "object")
    (X : K.In hp) (hx : hp.get? x = some { cls := .ref C, data := .fields fv }) (hcd : PySem.W.clsIn K C = some cd) (hm : cd.mro = .ref C :: bm) (hbm : PySem.W.excTail bmB bm = true) (hh : cd.hasDict = true) (ha : PySem.W.findIn K (.ref C) name = some none)
    (hq : ∀ h' tk' dx, (∀ b o, b ≠ x → hp.get? b = some o → h'.get? b = some o) → hp.objs.size ≤ dx → dx ≠ x → h'.get? x = some { cls := .ref C, dict := some dx, data := .fields fv } →
      h'.Ns1 dx (fun y => if y = name then some v else none) → R (.ok (.ret .none)) ⟨h', g, d, tk', os⟩) :
    codeAny (model prog w) A (.call (.builtin "object.__setattr__") ⟨[.ref x, .str name tk, v], []⟩) R ⟨hp, g, d, t, os⟩ := by
  have I : PySem.W.InstAt hp x { cls := .ref C, data := .fields fv } C none := ⟨hx, rfl, rfl, trivial⟩
  have SF := PySem.F.store_object
  have hmt : PySem.W.excTail bmB cd.mro = true := by rw [hm]; exact hbm
  have ne : cd.mro.isEmpty = false := by rw [hm]; rfl
  have hob : cd.mro.contains (.type "object") = true := (PySem.W.excTail_contains "object" _ hmt).trans SB.hasOwner
  have hxs : x ≠ hp.objs.size := Nat.ne_of_lt (Heap.lt_size hx)
  have sub : PySem.W.Looks (model prog w) hp (isInstance (.ref x) (.type "object")) true := I.type.andThen (PySem.W.looks_mroIn X (by unfold PySem.W.mroIn; rw [hcd, Option.bind_some, if_neg (by rw [ne]; decide), hob]))
  refine codeAny_call_builtin SF.slot.plain SF.entry (@PySem.W.check_slot (model prog w) _ _ ⟨hp, g, d, t, os⟩ "object.__setattr__" "object" "__setattr__" (.ref x) [.str name tk, v] [] _ SF.kind SF.split sub (SF.args (.ref x) (.str name tk) v) ?_)
  have hmr : PySem.W.Looks (model prog w) hp (mroOf (.ref C)) cd.mro := (PySem.W.looks_clsIn X hcd).andThen .now
  have L3 : PySem.W.Looks (model prog w) hp (storeTaker? none) none := .now
  have hcls : PySem.W.Looks (model prog w) hp (classData C) cd := PySem.W.looks_clsIn X hcd
  rw [PySem.W.osa_eq, refuse_eq]
  refine wpAny_bind (wpAny_bind (I.type.at (wpAny_bind (hmr.at ?_))))
  rw [PySem.W.excTail_pass _ (SB.passes _) _ hmt]
  refine wpAny_pure (wpAny_bind (I.type.at (wpAny_bind ((PySem.W.looks_findIn X ha).at (wpAny_bind (L3.at ?_))))))
  show wpAny _ _ (storeInOwnDict (.ref x) (.ref C) (.str name tk) name v false) _ _ _
  obtain ⟨nm, bs, mro, ns, qn, hd, sn, sb, ab, col, del⟩ := cd
  dsimp only at hh
  subst hh
  unfold storeInOwnDict ownDictForStores
  repeat (first | with_reducible refine store_in_new ?_ ?_ | with_reducible refine wpAny_loadPart_at hx ?_ | with_reducible refine hcls.at ?_ | wp_step)
  · exact ⟨_, #[], _, (Heap.get?_update_ne _ _ _ _ hxs.symm).trans (Heap.get?_push_at rfl rfl), rfl, fun e he => absurd he (by simp), fun _ => rfl⟩
  · intro h' tk' hn' hs
    have hx₁ : (hp.push { cls := .type "dict", data := .dict #[] }).get? x = some { cls := .ref C, data := .fields fv } := Heap.get?_push_of_some _ hx
    refine hq h' tk' hp.objs.size (fun b o hb ho => ?_) (Nat.le_refl _) hxs.symm ?_ hn'
    · exact (hs.2 b (Nat.ne_of_lt (Heap.lt_size ho))).trans ((Heap.get?_update_ne _ _ _ _ hb).trans (Heap.get?_push_of_some _ ho))
    · exact (hs.2 x hxs).trans (Heap.get?_update_self _ hx₁ rfl)
end
section
variable {X : Cx} {pins : List (Addr × Obj)} {σ : L2.St} {H : Hp} {s : Shared} {a C dx : Addr} {f : Str} {y : V} {u : Value} {fs : List (Str × V)} {bmB : List Value} {B newId initId : String}
/-- self.f = y, the one thing that is kept -/
theorem setG {Q : Unit → Shared → Prop} {E : Value → Shared → Prop} {A : Around} (SB : StoreFacts B bmB "object.__setattr__" "object") (T : OxG X.K C bmB newId) (I : Inv X pins σ H s) (e : H a = some (exo a C none)) (hno : PySem.W.findIn X.K (.ref C) f = some none) (ry : RelV y u)
    (h : ∀ dx s', H dx = none → dx ≠ a → Inv X pins σ (upd (upd H dx (exd dx [(f, y)])) a (exo a C (some dx))) s' → Q () s') : wpAny (model X.prog X.w) A (setAttr (.ref a) f u) Q E s := by
  obtain ⟨nm, N, qn, bs, bm, sn, sub, ab, col, dd, k0, k1, k2, k3, k5, hC, hbm⟩ := T.cls
  have hcl : PySem.W.clsIn X.K C = some { name := nm, bases := bs, mro := .ref C :: bm, ns := N, qualname := qn, hasDict := true, slotNames := sn, subclasses := sub, abstract := ab, collection := col, hasDel := false } := by unfold PySem.W.clsIn; rw [hC] <;> rfl
  obtain ⟨t1, ho⟩ := exo_at I.hok e
  obtain ⟨hp, g, d, t, os⟩ := s
  refine PySem.W.set_plain I.kIn (ox := { cls := .ref C, dict := none, data := .fields #[.ref t1, .none, .none, .none, .bool false, .none] }) (od := none) ⟨ho, rfl, rfl, trivial⟩ T.sa ?_
  refine osaG SB I.kIn ho hcl rfl hbm rfl hno (fun h' tk' dx k dn dne hx hn => ?_)
  have hnd : H dx = none := I.hok.fresh dn
  have nd : ∀ {b : Addr} {o : Obj}, hp.get? b = some o → b ≠ dx := fun {b o} q => Nat.ne_of_lt (Nat.lt_of_lt_of_le (Heap.lt_size q) dn)
  have na : ∀ {b : Addr}, H b = none → b ≠ a := fun {b} n z => by
    rw [z, e] at n
    cases n
  have Un1 : Un X.fs [] H (upd (upd H dx (exd dx [(f, y)])) a (exo a C (some dx))) hp h' := {
    keep := fun b o q n _ _ => k b o (na n) q
    slot := fun b o q n _ _ => ⟨o.slots, k b o (na n) q⟩
    free := fun b o q n _ => by rw [upd_ne (na n), upd_ne (nd q)]; exact n
    there := fun b o q _ => by
      by_cases hb : b = a
      · exact ⟨_, by rw [hb]; exact hx⟩
      · exact ⟨o, k b o hb q⟩
    tups := fun b xs q => by rw [upd_ne (at_ne e q exo_tup), upd_ne (ne_of_none q hnd)]; exact q
    frzs := fun b o v q => by rw [upd_ne (at_ne e q exo_frz), upd_ne (ne_of_none q hnd)]; exact q
    tbls := fun b ps q => ⟨#[], by rw [upd_ne (at_ne e q exo_tbl), upd_ne (ne_of_none q hnd), q]; simp⟩ }
  refine h dx _ hnd dne (I.un (t' := tk') Un1 fun b o q => ?_)
  by_cases hb : b = a
  · subst hb
    rw [upd_same] at q
    cases q
    exact exo_ok hx
  · rw [upd_ne hb] at q
    by_cases hd : b = dx
    · subst hd
      rw [upd_same] at q
      cases q
      exact exd_ok hn (relO_put (fs := []) ry fun g => True.intro)
    · rw [upd_ne hd] at q
      exact (I.hok b o q).stay (fun c v hc z => k c v (by
          rcases hc with hc | hc
          · rw [hc]
            exact hb
          · exact at_ne e hc exo_own) z)
        (fun c hc => by rw [upd_ne (at_ne e hc exo_own), upd_ne (ne_of_none hc hnd)]; exact hc) (fun c xs hc => by rw [upd_ne (at_ne e hc exo_tup), upd_ne (ne_of_none hc hnd)]; exact hc)
/-- the reading of self.f = e in the __init__ -/
def tSetG (C : Addr) (f : Str) (to te : TE) : TS := fun D σ H => te σ H fun y H1 => to σ H1 fun x H2 => ∃ a : Addr, x = .ref a ∧ H2 a = some (exo a C none) ∧ ∀ dx, H2 dx = none → dx ≠ a → D.nx σ (upd (upd H2 dx (exd dx [(f, y)])) a (exo a C (some dx)))
theorem ps_setG {o e : Expr} {to te : TE} {p' pos : Pos} (SB : StoreFacts B bmB "object.__setattr__" "object") (T : OxG X.K C bmB newId) (hno : PySem.W.findIn X.K (.ref C) f = some none) (ho : PE X o to) (he : PE X e te) (hs : swapsWith e (some (.Attribute o f p')) pos.line X.env = pure false := by rfl) : PS X (.Assign [.Attribute o f p'] e pos) (tSetG C f to te) := by
  refine ⟨fun pins s σ H D I h => ?_⟩
  refine plainObj_wpAny_Assign_Attribute (thn (he.run pins s σ H _ I h) fun v s1 ⟨y, H1, I1, r1, q1⟩ => thn (ho.run pins s1 σ H1 _ I1 q1) fun u s2 ⟨x, H2, I2, r2, a, ex, ea, q⟩ => ?_) hs
  subst ex
  obtain rfl : u = Value.ref a := r2
  exact setG SB T I2 ea hno r1 fun dx s' n ne J => ⟨σ, _, J, q dx n ne⟩
/-- what such an __init__ promises -/
def spInit (C : Addr) (f : Str) : Sp := fun vs H Q _ => ∃ (a : Addr) (y : V), vs = [.ref a, y] ∧ H a = some (exo a C none) ∧ ∀ dx, H dx = none → dx ≠ a → Q .non (upd (upd H dx (exd dx [(f, y)])) a (exo a C (some dx)))
theorem init_okG {P : Program} {w : World} {K : Frag} {mg : Str → Option Value} {base : Heap} {qual : Str} {st : Stmt} {fI : Addr} {fd : FuncData} {N : List Str} {p q : Str} {k : Nat} {p1 p2 p3 pos : Pos} (SB : StoreFacts B bmB "object.__setattr__" "object") (T : OxG K C bmB newId) (hno : PySem.W.findIn K (.ref C) f = some none)
    (Fu : Fun K "__init__" qual st fI fd) (S : FnScope N [p, q] (defScope st)) (hN : N = [p, q]) (hb : defBody st = [.Assign [.Attribute (.Name p p1) f p2] (.Name q p3) pos]) (hp : Vis (defScope st) p) (hq : Vis (defScope st) q)
    (hd : (p == ("__debug__" : Str)) = false := by decide) (hcd : (p == ("__classdict__" : Str)) = false := by decide) (hd2 : (q == ("__debug__" : Str)) = false := by decide) (hcd2 : (q == ("__classdict__" : Str)) = false := by decide)
    (hs : ∀ (cdv : Value) (A : Around) (outer : List PySem.Env) (s : Shared) (H : Hp) (E : XK), swapsWith (.Name q p3) (some (.Attribute (.Name p p1) f p2)) pos.line (cxOf CX0 P w K mg base N qual (defScope st) fI cdv A outer s H E).nox.env = pure false := by intros; rfl) :
    FnOk P w K mg base CX0 (k + 1) fI fd [p, q] (spInit C f) := by
  refine Fu.ok S (fun vs H Q E h => by obtain ⟨a, y, rfl, _⟩ := h; rfl) fun cdv A outer s H vs Q E hr h => ?_
  obtain ⟨a, y, rfl, ea, q'⟩ := h
  subst hN
  refine ⟨_, by rw [hb]; exact pss_one (ps_setG (X := (cxOf CX0 P w K mg base [p, q] qual (defScope st) fI cdv A outer s H E).nox) (C := C) (bmB := bmB) (newId := newId) (f := f) SB T hno (pe_var (i := 0) rfl hp hd hcd) (pe_var (i := 1) rfl hq hd2 hcd2) (hs cdv A outer s H E)), ?_⟩
  exact ⟨y, rfl, .ref a, rfl, a, rfl, ea, fun dx n ne => q' dx n ne⟩
/-- C(e) -/
theorem pmkG {x : Str} {fI : Addr} {k : Nat} {fd : FuncData} {ps : List Str} {e : Expr} {te : TE} {p pos : Pos} (FB : ExcBaseFacts B newId initId bmB) (T : OxG X.K C bmB newId) (iC : PySem.W.findIn X.K (.ref C) "__init__" = some (some (.ref fI))) (tI : PySem.W.typeIn X.K (.ref fI) = some (.type "function"))
    (F1 : FnOk X.prog X.w X.K X.mg X.base CX0 k fI fd ps (spInit C f)) (hr : Room (k + 1) X.A) (hb : Binds X.K fd ps []) (hg : Gl X x) (hm : X.mg x = some (.ref C)) (he0 : PE X e te)
    (hdb : (x == ("__debug__" : Str)) = false := by decide) (he : starEach [e] X.env = (false, eval e X.env) :: starEach [] X.env := by rfl) (hpl : (backTo pos (starEach [] X.env)).any (·.1) = false := by rfl) :
    PMk X (.Call (.Name x p) [e] [] pos) (fun σ H Q => te σ H fun y H1 => ∀ d, H1 d = none → Q (.ref C) (some d) (upd H1 d (.xd [(f, y)]))) := by
  intro pins s σ H Q I h
  obtain ⟨nm, N, qn, bs, bm, sn, sub, ab, col, dd, k0, k1, k2, k3, k5, hC, hbm⟩ := T.cls
  have ha : PA X [e] (tCons te tNil) := pa_cons he0 pa_nil he
  refine wpAny_Call_Name_kw (ld_glob I hg hm ?_ hdb)
  refine PySem.W.callWith_K (h₀ := X.base) I.ok.mod.kin T.kC (thn (ha.run pos pins s σ H (fun vs H1 => ∃ y, vs = [y] ∧ ∀ d, H1 d = none → Q (.ref C) (some d) (upd H1 d (.xd [(f, y)]))) I (by
    show te σ H fun y H1 => ∃ y', [y] = [y'] ∧ _
    refine cast ?_ h
    congr 1
    funext y H1
    exact propext ⟨fun z => ⟨y, rfl, z⟩, fun ⟨y', e, z⟩ => by cases e; exact z⟩)) fun us s1 hh => ?_) he hpl
  obtain ⟨vs, H1, I1, r1, y, rfl, q1⟩ := hh
  refine ⟨I1.kIn, ?_⟩
  show wpAny _ _ (call (.ref C) us) _ _ _
  obtain ⟨hp, g, dr, tk, os⟩ := s1
  have hsz : hp.objs.size ≤ hp.objs.size + 1 := Nat.le_succ _
  have hn : H1 (hp.objs.size + 1) = none := I1.hok.fresh hsz
  have kk : ∀ b o, hp.get? b = some o → ((hp.push (PySem.W.kdv_tup us)).push (PySem.HandSPX.excO C hp.objs.size)).get? b = some o := fun b o e => Heap.get?_push_of_some _ (Heap.get?_push_of_some _ e)
  have hget : ((hp.push (PySem.W.kdv_tup us)).push (PySem.HandSPX.excO C hp.objs.size)).get? (hp.objs.size + 1) = some (PySem.HandSPX.excO C hp.objs.size) := by heap_get
  have I2 : Inv X pins σ (upd H1 (hp.objs.size + 1) (exo (hp.objs.size + 1) C none)) ⟨(hp.push (PySem.W.kdv_tup us)).push (PySem.HandSPX.excO C hp.objs.size), g, dr, tk, os⟩ :=
    I1.laid (t' := tk) (a := hp.objs.size + 1) (o := exo (hp.objs.size + 1) C none) (h' := (hp.push (PySem.W.kdv_tup us)).push (PySem.HandSPX.excO C hp.objs.size)) kk hsz (exo_ok hget)
  have r2 : Vals [V.ref (hp.objs.size + 1), y] (Value.ref (hp.objs.size + 1) :: us) := .cons rfl r1
  have hq : spInit C f [V.ref (hp.objs.size + 1), y] (upd H1 (hp.objs.size + 1) (exo (hp.objs.size + 1) C none)) (fun v H2 => v = .non ∧ ∃ (d : Addr) (fs : List (Str × V)), H2 (hp.objs.size + 1) = some (exo (hp.objs.size + 1) C (some d)) ∧ H2 d = some (exd d fs) ∧ H1 d = none ∧ Q (.ref C) (some d) (upd (del H2 (hp.objs.size + 1)) d (.xd fs))) (fun _ _ _ => False) := by
    refine ⟨hp.objs.size + 1, y, rfl, upd_same, fun dx n ne => ⟨rfl, dx, [(f, y)], upd_same, by rw [upd_ne ne, upd_same], upd_none n, ?_⟩⟩
    have n1 : H1 dx = none := upd_none n
    have eH : upd (del (upd (upd (upd H1 (hp.objs.size + 1) (exo (hp.objs.size + 1) C none)) dx (exd dx [(f, y)])) (hp.objs.size + 1) (exo (hp.objs.size + 1) C (some dx))) (hp.objs.size + 1)) dx (.xd [(f, y)]) = upd H1 dx (.xd [(f, y)]) := by
      funext b
      by_cases hb : b = dx
      · rw [hb, upd_same, upd_same]
      · rw [upd_ne hb, upd_ne hb]
        by_cases hb2 : b = hp.objs.size + 1
        · rw [hb2, del_same, hn]
        · rw [del_ne hb2, upd_ne hb2, upd_ne hb, upd_ne hb2]
    rw [eH]
    exact q1 dx n1
  have hl : (Value.ref (hp.objs.size + 1) :: us ++ []).length = ps.length := by
    have e := r2.length
    rw [F1.len _ _ _ _ hq] at e
    rw [List.append_nil]
    exact e.symm
  have bt := hb _ (Value.ref (hp.objs.size + 1) :: us) I2.kIn hl
  rw [List.append_nil] at bt
  have hus : us.length ≤ sizeLine := by
    rw [← Paired.length r1, sizeLine_eq]
    show 1 ≤ _
    omega
  refine wpAny_call (PySem.HandSPX.call_own FB (fun Y => PySem.W.excTail_contains Y bm hbm) (I1.kIn _ _ hC) (PySem.W.looks_findIn I1.kIn iC) (fun self => PySem.W.bind_fn I1.kIn self tI) hus
    (codeAny_mono (F1.run _ X.stack _ _ ⟨Value.ref (hp.objs.size + 1) :: us, []⟩ (Value.ref (hp.objs.size + 1) :: us) _ _ (fun _ _ _ => False) (hr.make C us []) (I2.env0.make C us []) bt r2 hq) fun r s' hq' => ?_))
  cases r with
  | error er => exact (show False from hq').elim
  | ok fl =>
    cases fl with
    | ret u =>
      obtain ⟨v, H2, os2, bare2, un2, hok2, rv, ev, d, fs, ea, ed, hd1, q2⟩ := hq'
      subst ev
      obtain ⟨h2, g2, d2, t2, os'⟩ := s'
      exact ⟨rv, mk_end (raises_own T.exC T.tyC) I1 hsz kk un2 hok2 os2 bare2 ea ed hd1 q2⟩
    | next => exact False.elim hq'
    | brk => exact False.elim hq'
    | cont => exact False.elim hq'
end
/-! ### raise C(e) -/
section
variable {F : Fam} {mg : Str → Option Value} {pr : List Nat} {W : WX} {B : Addr → Prop} {Hf H Hf' H' Hf1 H1 Hf2 H2 : Hp} {g g' g1 g2 : Gh} {σ σ' σ1 σ2 : L2.St} {K : Frag}
/-- raise C(e): the error keeps what e gives -/
def xRaiseF (x f : Str) (m : ME) : MX := fun g => (m g).bind fun a => (toD a.1 a.2).bind fun r => some (x, some (f, r.1))
theorem x_raiseF {x f : Str} {C fI : Addr} {bmB : List Value} {Bn newId initId : String} {k : Nat} {fd : FuncData} {ps : List Str} {e : Expr} {fe : ME} {p pos pos' : Pos} (hc : ∀ i, (F.X i).calm = true) (tk : ∀ i, Takes (F.X i) W) (hmg : ∀ i, (F.X i).mg = mg) (gC : mg x = some (.ref C)) (FB : ExcBaseFacts Bn newId initId bmB) (T : OxG F.K C bmB newId)
    (iC : PySem.W.findIn F.K (.ref C) "__init__" = some (some (.ref fI))) (tI : PySem.W.typeIn F.K (.ref fI) = some (.type "function")) (F1 : ∀ i, FnOk (F.X i).prog (F.X i).w (F.X i).K (F.X i).mg (F.X i).base CX0 k fI fd ps (spInit C f)) (hr : ∀ i, Room (k + 1) (F.X i).A) (hb : Binds F.K fd ps [])
    (h : Ev F pr e fe) (hg : ∀ i, Gl (F.X i) x := by intro _; rfl) (hdb : (x == ("__debug__" : Str)) = false := by decide) (he : ∀ i, starEach [e] (F.X i).env = (false, eval e (F.X i).env) :: starEach [] (F.X i).env := by intro _; rfl) (hpl : ∀ i, (backTo pos (starEach [] (F.X i).env)).any (·.1) = false := by intro _; rfl) :
    EvX F mg pr W (.Raise (some (.Call (.Name x p) [e] [] pos)) none pos') (xRaiseF x f fe) := by
  intro B Hf H g σ er D E eq q
  obtain ⟨⟨w, g1⟩, e1, eq1⟩ := Option.bind_eq_some_iff.mp eq
  obtain ⟨⟨d, g2⟩, e2, eq2⟩ := Option.bind_eq_some_iff.mp eq1
  cases eq2
  refine ⟨fun _ σ H => U F e σ H fun y H1 => ∀ d, H1 d = none → W (.ref C) (some d) σ (upd H1 d (.xd [(f, y)])), fun i => ps_raise (hc i) (tk i) (pmkG FB (by rw [F.hK i]; exact T) (by rw [F.hK i]; exact iC) (by rw [F.hK i]; exact tI) (F1 i) (hr i) (by rw [F.hK i]; exact hb) (hg i) (by rw [hmg i]; exact gC) (pe_U i) hdb (he i) (hpl i)), ?_⟩
  refine h B Hf H g σ w g1 _ E e1 fun v Hf1 H1 s1 w1 y1 => ?_
  obtain ⟨Hf2, s2, r⟩ := s1.toD y1 w1 e2
  intro dd hn
  exact q Hf2 _ σ _ _ (s2.tr.trans' (Tr.mut (O := Own g σ) hn) fun _ z => z) ⟨(s2.env.mut hn).ex, C, gC, rfl, dd, v, rfl, s2.tr.stay _ hn, upd_same, r⟩
end
end EV
end
section
set_option autoImplicit false
/-! EyC: a lambda without parameters handed to a def: which table changes, and how. -/
namespace EV
open PySem PySem.Spec PyProof.Rows L2 LamX
/-- the heap behind the making of a lambda: as it was, or the maker's table written and one code object new -/
def LStep (P : Addr) (q : Str) (H H1 : Hp) : Prop := H1 = H ∨ ∃ (c : Addr) (ps ps' : Array Value), H P = some (.tbl ps) ∧ H c = none ∧ H1 = upd (upd H P (.tbl ps')) c (CodeO c q)
section
variable {X : Cx} {pins : List (Addr × Obj)} {σ : L2.St} {H : Hp} {s : Shared}
theorem lam_makeX {T : List (Addr × Str)} {c P : Addr} {params : Arguments} {body : Expr} {scope : Scope} {pos : Pos} {E : Value → Shared → Prop} {Q : Value → Shared → Prop} (I : Inv X pins σ H s) (TB : TabB X.base X.mg c P) (hcode : X.env.code = .ref c)
    (hm : (P, X.env.qual ++ "<lambda>") ∈ T) (hu : ∀ p ∈ T, p.1 = P → p.2 = X.env.qual ++ "<lambda>") (hT : Tabs T H) (hdef : defaultsOf params X.env = ([], [])) (hfree : ∀ y ∈ scope.names, y.2 = .free → ∃ c, X.env.cells.lookup y.1 = some c)
    (h : ∀ (f c' : Addr) (pm ctv : Value) (H1 : Hp) (s' : Shared), Inv X pins σ H1 s' → LStep P (X.env.qual ++ "<lambda>") H H1 → Tabs T H1 →
      s'.heap.get? f = some (PySem.W.kla_obj "<lambda>" (X.env.qual ++ "<lambda>") params body scope (cloFrom X.env.cells scope.names []) pm c' ctv) → H1 f = none → f ∉ frs X.stack → H1 c' = some (CodeO c' (X.env.qual ++ "<lambda>")) → Q (.ref f) s') :
    wpAny (model X.prog X.w) X.A (eval (.Lambda params body scope pos) X.env) Q E s := by
  obtain ⟨ps, hP, ht, ha⟩ := hT _ hm
  refine PySem.W.kla_eval hdef ?_
  have bP : s.heap.BuiltinsAt X.mg P := TB.bm.keeps I.bk
  have hP' : s.heap.get? P = some { cls := .none, data := .fields ps } := I.hok P _ hP
  have nofr : ∀ f, s.heap.objs.size ≤ f → f ∉ frs X.stack := fun f hf z => by
    rcases List.mem_cons.mp (I.stkSub _ z) with e | e
    · have h1 := I.lt
      rw [← e] at h1
      exact Nat.lt_irrefl _ (Nat.lt_of_lt_of_le h1 hf)
    · exact I.nofs hf e
  cases hc : codeAmong pos ps.toList with
  | none =>
    refine PySem.W.kla_makeFunction (mg := X.mg) (c := c) (P := P) (ps := ps) (closure_ok hfree) I.ok.glob (I.mod.glob.keeps I.bk) hcode (TB.code.keeps I.bk) hP' ht hc TB.gP bP fun c' ctv h' tk hx hge hlt hrec htb => ?_
    obtain ⟨c2, oc, vs, t, e2, hoc, hd, hv⟩ := hrec
    cases e2
    have hsz : s.heap.objs.size ≤ h'.objs.size := Nat.le_trans hge (Nat.le_of_lt hlt)
    have nC : H c' = none := I.hok.fresh hge
    have I1 := inv_table (t' := tk) (more := #[rawInt pos.line, rawInt pos.col, .ref c']) (h' := h'.push (PySem.W.kla_obj "<lambda>" (X.env.qual ++ "<lambda>") params body scope (cloFrom X.env.cells scope.names []) ((X.mg "__name__").getD .none) c' ctv)) I hP
      (fun b o hb e => Heap.get?_push_of_some _ (hx b o hb e)) (Heap.get?_push_of_some _ htb) hge ⟨oc, vs, t, Heap.get?_push_of_some _ hoc, hd, hv⟩
    have eL : (ps ++ #[rawInt pos.line, rawInt pos.col, .ref c']).toList = ps.toList ++ [rawInt pos.line, rawInt pos.col, .ref c'] := by simp
    have hE : ∀ b o, H b = some o → (∀ ps, o ≠ .tbl ps) → upd (upd H P (.tbl (ps ++ #[rawInt pos.line, rawInt pos.col, .ref c']))) c' (CodeO c' (X.env.qual ++ "<lambda>")) b = some o := fun b o e n => by
      rw [upd_ne (ne_of_none e nC), upd_ne (fun z => n ps (Option.some.inj (e.symm.trans (by rw [z]; exact hP))))]
      exact e
    refine h h'.objs.size c' ((X.mg "__name__").getD .none) ctv _ _ I1 (.inr ⟨c', ps, _, hP, nC, rfl⟩) (fun p hp => ?_) (Heap.get?_push_size _ rfl) ?_ (nofr _ hsz) upd_same
    · by_cases hb : p.1 = P
      · rw [hu p hp hb, hb]
        refine ⟨_, by rw [upd_ne (ne_of_none hP nC), upd_same], by rw [eL]; exact PySem.TriplesOk_snoc _ _ _ _ ht, fun p' cv hcv => ?_⟩
        rw [eL] at hcv
        rcases among_app _ ht hcv with z | z
        · obtain ⟨c0, e1, e2⟩ := ha p' cv z
          exact ⟨c0, e1, hE _ _ e2 codeO_ne⟩
        · exact ⟨c', z, upd_same⟩
      · obtain ⟨ps', a1, a2, a3⟩ := hT p hp
        refine ⟨ps', by rw [upd_ne (ne_of_none a1 nC), upd_ne hb]; exact a1, a2, fun p' cv hcv => ?_⟩
        obtain ⟨c0, e1, e2⟩ := a3 p' cv hcv
        exact ⟨c0, e1, hE _ _ e2 codeO_ne⟩
    · have n1 : h'.objs.size ≠ c' := Nat.ne_of_gt hlt
      have n2 : h'.objs.size ≠ P := Nat.ne_of_gt (Nat.lt_of_lt_of_le (Heap.lt_size hP') hsz)
      rw [upd_ne n1, upd_ne n2]
      exact I.hok.fresh hsz
  | some cv =>
    obtain ⟨c', e, hco⟩ := ha pos cv hc
    subst e
    refine PySem.W.kla_makeFunctionHit (mg := X.mg) (c := c) (P := P) (ps := ps) (closure_ok hfree) I.ok.glob (I.mod.glob.keeps I.bk) hcode (TB.code.keeps I.bk) hP' ht hc bP fun ctv h' tk hx hsz => ?_
    have I1 : Inv X pins σ H { s with heap := h'.push (PySem.W.kla_obj "<lambda>" (X.env.qual ++ "<lambda>") params body scope (cloFrom X.env.cells scope.names []) ((X.mg "__name__").getD .none) c' ctv), toks := tk } := I.kept fun b o e => Heap.get?_push_of_some _ (hx b o e)
    exact h h'.objs.size c' ((X.mg "__name__").getD .none) ctv H _ I1 (.inl rfl) hT (Heap.get?_push_size _ rfl) (I.hok.fresh hsz) (nofr _ hsz) hco
end
/-- the reading of x(lambda: body), q the lambda's qualname, P its maker's table -/
def tLamX (P : Addr) (q : Str) (T : List (Addr × Str)) (TT : (XK → Hp → VK → Prop) → Hp → VK → Prop) (t : XK → TE) : TE := fun σ H Q => Tabs T H ∧ ∀ H1, LStep P q H H1 → Tabs T H1 → TT (fun E H' Q' => t E σ H' Q') H1 Q
section
variable {X : Cx}
theorem pe_lamcallX {T : List (Addr × Str)} {TT : (XK → Hp → VK → Prop) → Hp → VK → Prop} {x a : Str} {g c P : Addr} {k : Nat} {pg : Arguments} {bg : List Stmt} {sg : Scope} {dV kV doc pm cdv ct oc : Value} {an od : Option Addr} {osl : Array (Option Value)} {Ng : List Str}
    {params : Arguments} {body : Expr} {scope : Scope} {t : XK → TE} {p lpos pos : Pos} (hg : Gl X x) (hm : X.mg x = some (.ref g)) (hk : PySem.W.keepIn X.K (.ref g) = true)
    (lk : X.K.lookup g = some ⟨oc, od, .func (PySem.W.fnOf x x pg bg sg dV kV doc pm an cdv ct), osl⟩) (hcg : PySem.W.codeIn X.K cdv x = true) (hb : L2.Binds X.K (PySem.W.fnOf x x pg bg sg dV kV doc pm an cdv ct) [a] []) (Sg : FnScope Ng [a] sg) (hNg : Ng[0]? = some a) (hva : Vis sg a)
    (hG : GivesTo X Ng x sg g cdv bg a (X.env.qual ++ "<lambda>") TT)
    (TB : TabB X.base X.mg c P) (hcode : X.env.code = .ref c) (hmT : (P, X.env.qual ++ "<lambda>") ∈ T) (hu : ∀ p ∈ T, p.1 = P → p.2 = X.env.qual ++ "<lambda>") (hr : Room (k + 2) X.A) (L : LamS X.env.scope scope) (hdef : defaultsOf params X.env = ([], []))
    (hbind : ∀ (q : Str) (cl : List (Str × Addr)) (pm cv ctv : Value), bindArgs (PySem.W.kla_fn "<lambda>" q params body scope cl pm cv ctv) ⟨[], []⟩ = pure [])
    (hbody : ∀ (A : Around) (outer : List PySem.Env) (s : Shared) (H : Hp) (E : XK) (f c' : Addr), Room k (A.deeper (lamEnv X scope s.heap.objs.size f c')) → PE (lamCx X A outer s H E scope f c') body (t E))
    (hdb : (x == ("__debug__" : Str)) = false := by decide) (hd : (a == ("__debug__" : Str)) = false := by decide) (hcd : (a == ("__classdict__" : Str)) = false := by decide) :
    PE X (.Call (.Name x p) [.Lambda params body scope lpos] [] pos) (tLamX P (X.env.qual ++ "<lambda>") T TT t) := by
  refine ⟨fun pins s σ H Q I h => ?_⟩
  obtain ⟨hT, h⟩ := h
  refine wpAny_Call_Name_kw (ld_glob I hg hm ?_ hdb)
  refine PySem.W.callWith_K (h₀ := X.base) I.ok.mod.kin hk ?_ (by rfl) (by rfl)
  show wpAny _ _ (spliced ((false, eval (.Lambda params body scope lpos) X.env) :: backTo pos (starEach [] X.env))) _ _ s
  refine Calls.spliced_cons (lam_makeX I TB hcode hmT hu hT hdef (L.has I.ok) fun f c' pm' ctv H1 s' I1 eN T1 hf hfn hfr hco => ?_)
  refine Calls.spliced_nil ⟨I1.kIn, ?_⟩
  have rc : codeAny (model X.prog X.w) X.A (.call (.ref g) ⟨[.ref f], []⟩) (CR C8.CX0 X.stack X.prog X.w H1 s' Q C8.E0) s' := by
    refine run_ofS (N := Ng) (ps := [a]) (us := [.ref f]) (vs := [.ref f]) lk hcg Sg hr I1.env0 (hb s' [.ref f] I1.kIn rfl) (.cons rfl .nil) rfl fun hr' => ?_
    obtain ⟨t', ht', hq'⟩ := hG f c' s' H1 Q (fun E H' Q' => t E σ H' Q') (fun W pn xe E p1 p2 tk hW => pe_act (i := 0) I1 L hf hfn hfr (hbind _ _ _ _ _) tk hW hr' (fun A outer s H hr2 => hbody A outer s H E f c' hr2) hNg hva hd hcd) hco (h H1 eN T1)
    exact ⟨t', ht'.nox, hq'⟩
  refine wpAny_call (codeAny_mono rc fun r s2 hq => ?_)
  cases r with
  | error e => exact (show False from hq).elim
  | ok fl =>
    cases fl with
    | ret u => exact I1.after hq
    | next => exact False.elim hq
    | brk => exact False.elim hq
    | cont => exact False.elim hq
end
end EV
end
section
set_option autoImplicit false
/-! EyD: a try with several except clauses, some of which name what they catch. -/
namespace EV
open PySem PySem.Spec PyProof.Rows L2
/-- a clause's class, the slot of its name, its suite -/
abbrev Way := Value × Option Nat × (Addr → Value → Option Addr → TS)
/-- behind a suite that stands for an exception with a name: the name goes -/
def gone (i : Nat) (D : Ends) : Ends := { nx := fun σ' H' => D.nx (σ'.set i none) H', rt := D.rt, bk := fun σ' H' => D.bk (σ'.set i none) H', ct := fun σ' H' => D.ct (σ'.set i none) H' }
def wWays (K : Frag) (Wout : WX) (D : Ends) : List Way → WX
  | [] => Wout
  | (c, none, ts) :: r => fun cls d σ H => ∃ b, PySem.W.exmOne K cls c = some b ∧ (b = true → ∀ a, H a = none → ts a cls d D σ H) ∧ (b = false → wWays K Wout D r cls d σ H)
  | (c, some i, ts) :: r => fun cls d σ H => ∃ b, PySem.W.exmOne K cls c = some b ∧ (b = true → ∀ a, H a = none → ts a cls d (gone i D) (σ.set i (some (.ref a))) H) ∧ (b = false → wWays K Wout D r cls d σ H)
inductive WaysOk (X : Cx) : List ExceptHandler → List Way → Prop
  | nil : WaysOk X [] []
  | plain {x : Str} {c : Value} {ts : Addr → Value → Option Addr → TS} {b₀ : Stmt} {suite : List Stmt} {np pos' : Pos} {hds : List ExceptHandler} {l : List Way} (hc : Names X x c)
      (hsu : ∀ (a : Addr) (oe : Obj) (cls : Value) (d : Option Addr) (pn : List (Addr × Obj)), Zc cls d oe → (∃ vs, oe.data = .fields vs) → PSs (X.suite a ((a, oe) :: pn)) (b₀ :: suite) (ts a cls d)) (r : WaysOk X hds l) :
      WaysOk X (.ExceptHandler (some (.Name x np)) none (b₀ :: suite) pos' :: hds) ((c, none, ts) :: l)
  | named {x n : Str} {c : Value} {i : Nat} {ts : Addr → Value → Option Addr → TS} {b₀ : Stmt} {suite : List Stmt} {np pos' : Pos} {hds : List ExceptHandler} {l : List Way} (hc : Names X x c) (hi : X.N[i]? = some n) (hln : X.env.kindOf n = some .local)
      (hsu : ∀ (a : Addr) (oe : Obj) (cls : Value) (d : Option Addr) (pn : List (Addr × Obj)), Zc cls d oe → (∃ vs, oe.data = .fields vs) → PSs (X.suite a ((a, oe) :: pn)) (b₀ :: suite) (ts a cls d)) (r : WaysOk X hds l) :
      WaysOk X (.ExceptHandler (some (.Name x np)) (some n) (b₀ :: suite) pos' :: hds) ((c, some i, ts) :: l)
section
variable {X : Cx} {body : List Stmt} {h₀ : ExceptHandler} {hds : List ExceptHandler} {l : List Way} {pos : Pos} {tb : WX → TS} {Wout : WX}
theorem ps_try_ways (hs : X.stack = X.env :: X.outer) (hf : X.env.frame = some X.env.locals) (hN : X.N.Nodup) (tk : Takes X Wout)
    (hb : ∀ (W : WX) (pn : List (Addr × Obj)) (xe : Value → Shared → Prop), Takes (X.tr pn xe) W → PassesOwn (model X.prog X.w) X.A X.env xe → PSs (X.tr pn xe) body (tb W))
    (hh : WaysOk X (h₀ :: hds) l) : PS X (.Try body (h₀ :: hds) [] [] pos) (fun D σ H => tb (wWays X.K Wout D l) D σ H) := by
  refine ⟨fun pins s σ H D I h => ?_⟩
  have ok := I.ok
  have hfr : X.A.frames = some (X.env :: X.outer) := by rw [ok.frames, hs]
  refine wpAny_Try_except ?_
  refine wpAny_mono ((hb (wWays X.K Wout D l) (X.pn ++ pins) (fun e s₁ => wpAny (model X.prog X.w) X.A (noteFrame e X.env) (fun _ s₂ => wpAny (model X.prog X.w) X.A (setFlight e none) (fun _ s₃ =>
    wpAny (model X.prog X.w) X.A (handleBy e X.env (h₀ :: hds)) (SP X pins D) X.xe s₃) X.xe s₂) X.xe s₁) (fun u s' xx => ?_) PassesOwn.looking).run [] s σ H D (I.toTry _) h) (fun f s1 hsp => ?_) (fun e s1 he => he)
  · obtain ⟨a, B, sI, pins', σ', H', cls, d, rfl, J', nb, up, sky, na, os, ag, w⟩ := xx
    have J : Inv X pins σ' H' sI := J'.ofTry ok
    have sky' : Sky B (X.env :: X.outer) a (Zc cls d) X.env.locals s'.heap := by rw [← hs]; exact sky
    show wpAny (model X.prog X.w) X.A (noteFrame (.ref a) X.env) _ _ _
    refine Sky.land Zc.steady hfr hf sky' fun h3 fl3 up3 => ?_
    have J3 : Inv X pins σ' H' { s' with heap := h3 } := J.landed nb fl3.1 (up.trans up3) os ag
    obtain ⟨oe3, vs3, he3, hz3, hd3⟩ := fl3.there
    have notFr : ∀ {h : Heap} {o : Obj} {vs : Array Value}, h.FunFrames B (X.env :: X.outer) → h.get? a = some o → o.data = .fields vs → a ∉ frs (X.env :: X.outer) := fun {h o vs} ff e dd hm => by
      obtain ⟨_, o', e', hnf⟩ := ff.mem hm
      rw [e] at e'; cases e'
      exact hnf _ dd
    have nfr := notFr fl3.2.2.1 he3 hd3
    have nL : a ≠ X.env.locals := fun z => nfr (List.mem_filterMap.mpr ⟨X.env, List.mem_cons_self, by rw [hf, z]⟩)
    have nF : a ∉ X.fs := fun hm => by
      obtain ⟨e, he, q⟩ := List.mem_filterMap.mp hm
      exact nfr (List.mem_filterMap.mpr ⟨e, List.mem_cons_of_mem _ he, q⟩)
    have S3 := J3.suite he3 hd3 na nL nF
    have test : ∀ {x : Str} {np : Pos} {c : Value} {Q : Value → Shared → Prop} {E : Value → Shared → Prop}, Names X x c → Q c { s' with heap := h3 } → wpAny (model X.prog X.w) (X.A.mark (some (.ref a))) (eval (.Name x np) X.env) Q E { s' with heap := h3 } := fun {x np c Q E} hc q => by
      obtain ⟨hg, hdbg, hm | ⟨hm, hv, hnn⟩⟩ := hc
      · exact ld_glob (X := X.suite a ((a, oe3) :: (X.pn ++ pins))) S3 hg hm q hdbg
      · exact ld_blt (X := X.suite a ((a, oe3) :: (X.pn ++ pins))) S3 hg hm hv q hnn hdbg
    have LT : PySem.W.Looks (model X.prog X.w) h3 (typeOf (.ref a)) cls := fun A Q E s k q => wpAny_typeOf_ref (k _ _ he3) (by rw [hz3.1]; exact q)
    have go : ∀ {hds' : List ExceptHandler} {l' : List Way}, WaysOk X hds' l' → wWays X.K Wout D l' cls d σ' H' →
        wpAny (model X.prog X.w) X.A (handleBy (.ref a) X.env hds') (SP X pins D) X.xe { s' with heap := h3 } := by
      intro hds' l' hk
      induction hk with
      | nil =>
        intro w
        refine wpAny_handleBy_nil ?_
        obtain ⟨k1, k2, k3, oe, vs, T, oT, ts', he, hz, hd, h1, hr⟩ := id fl3
        unfold PySem.passOn
        refine wpAny_bind (wpAny_field he hd h1 ?_)
        rw [if_neg (show ¬ ((Value.ref T == Value.none) = true) from by simp)]
        have fin : wpAny (model X.prog X.w) X.A (setFlight (.ref a) X.env.frame) (fun _ s4 => wpAny (model X.prog X.w) X.A (throw (.ref a) : Sem Flow) (SP X pins D) X.xe s4) X.xe { s' with heap := h3 } := by
          rw [hf]
          refine HandSPX.setFlight_upZ fl3 fun h4 hh4 up4 => wpAny_throw (tk _ _ ?_)
          exact ⟨a, B, sI, pins, σ', H', cls, d, rfl, J, nb, (up.trans up3).trans up4, .inr (.inr (by rw [hs]; exact hh4)), na, os, ag, w⟩
        first
          | exact wpAny_bind (wpAny_pure (wpAny_bind fin))
          | exact wpAny_bind fin
      | @plain x c ts b₀ suite np pos' hds2 l2 hc hsu r ih =>
        intro w
        obtain ⟨b, hb1, hyes, hno⟩ := w
        refine wpAny_handleBy_cons (codeAny_handlers_test ?_) (by intro q; cases q)
        have LM := PySem.W.exm_one (M := model X.prog X.w) (J3.kIn) LT hb1
        refine test hc (LM.here ?_)
        cases b with
        | true =>
          refine codeAny_handlers_suite ?_
          refine HandSPX.lands_againZ fl3 fun h4 fl4 up4 => ?_
          have J4 : Inv X pins σ' H' { s' with heap := h4 } := J.landed nb fl4.1 ((up.trans up3).trans up4) os ag
          obtain ⟨oe4, vs4, he4, hz4, hd4⟩ := fl4.there
          have S4 := J4.suite he4 hd4 na nL nF
          refine wpAny_mono ((hsu a oe4 cls d (X.pn ++ pins) hz4 ⟨_, hd4⟩).run [] _ _ H' _ S4 (hyes rfl a na)) (fun f s6 hsp => ?_) (fun _ _ z => False.elim z)
          cases f with
          | next =>
            obtain ⟨σ6, H6, S6, q6⟩ := hsp
            exact ⟨_, _, S6.unsuite ok, q6⟩
          | brk =>
            obtain ⟨σ6, H6, S6, q6⟩ := hsp
            exact ⟨_, _, S6.unsuite ok, q6⟩
          | cont =>
            obtain ⟨σ6, H6, S6, q6⟩ := hsp
            exact ⟨_, _, S6.unsuite ok, q6⟩
          | ret u =>
            obtain ⟨v6, σ6, H6, S6, r6, q6⟩ := hsp
            exact ⟨_, _, _, S6.unsuite ok, r6, q6⟩
        | false =>
          show wpAny _ X.A (handleBy (.ref a) X.env hds2) _ _ _
          exact ih (hno rfl)
      | @named x n c i ts b₀ suite np pos' hds2 l2 hc hi hln hsu r ih =>
        intro w
        obtain ⟨b, hb1, hyes, hno⟩ := w
        have hloc : Loc X.env.scope n := .inl hln
        refine wpAny_handleBy_cons (codeAny_handlers_test ?_) (by intro q; cases q)
        have LM := PySem.W.exm_one (M := model X.prog X.w) (J3.kIn) LT hb1
        refine test hc (LM.here ?_)
        cases b with
        | true =>
          refine codeAny_handlers_suite_as ?_
          refine HandSPX.lands_againZ fl3 fun h4 fl4 up4 => ?_
          have J4 : Inv X pins σ' H' { s' with heap := h4 } := J.landed nb fl4.1 ((up.trans up3).trans up4) os ag
          obtain ⟨oe4, vs4, he4, hz4, hd4⟩ := fl4.there
          have S4 := J4.suite he4 hd4 na nL nF
          refine store_ok (X := X.suite a ((a, oe4) :: (X.pn ++ pins))) (v := .ref a) S4 hN hi hloc rfl (fun s5 S5 => ?_) (.inr hln)
          refine wpAny_mono ((hsu a oe4 cls d (X.pn ++ pins) hz4 ⟨_, hd4⟩).run [] s5 _ H' _ S5 (hyes rfl a na)) (fun f s6 hsp => ?_) (fun _ _ z => False.elim z)
          have end_ : ∀ {σ6 : L2.St} {H6 : Hp} {Q : Shared → Prop}, Inv (X.suite a ((a, oe4) :: (X.pn ++ pins))) [] σ6 H6 s6 → (∀ s7, Inv X pins (σ6.set i none) H6 s7 → Q s7) →
              wpAny (model X.prog X.w) X.A (do bindName X.env n .none; unbindBehindTheSuite X.env n pos') (fun _ s7 => Q s7) X.xe s6 := fun {σ6 H6 Q} S6 hq => gone_ok (S6.unsuite ok) hN hi hln hq
          cases f with
          | next =>
            obtain ⟨σ6, H6, S6, q6⟩ := hsp
            exact end_ S6 fun s7 J7 => ⟨_, _, J7, q6⟩
          | brk =>
            obtain ⟨σ6, H6, S6, q6⟩ := hsp
            exact end_ S6 fun s7 J7 => ⟨_, _, J7, q6⟩
          | cont =>
            obtain ⟨σ6, H6, S6, q6⟩ := hsp
            exact end_ S6 fun s7 J7 => ⟨_, _, J7, q6⟩
          | ret u =>
            obtain ⟨v6, σ6, H6, S6, r6, q6⟩ := hsp
            exact end_ S6 fun s7 J7 => ⟨_, _, _, J7, r6, q6⟩
        | false =>
          show wpAny _ X.A (handleBy (.ref a) X.env hds2) _ _ _
          exact ih (hno rfl)
    exact go hh w
  · cases f with
    | next =>
      obtain ⟨σ', H', J', q⟩ := hsp
      exact wpAny_execs_nil ⟨σ', H', J'.ofTry ok, q⟩
    | brk =>
      obtain ⟨σ', H', J', q⟩ := hsp
      exact ⟨σ', H', J'.ofTry ok, q⟩
    | cont =>
      obtain ⟨σ', H', J', q⟩ := hsp
      exact ⟨σ', H', J'.ofTry ok, q⟩
    | ret u =>
      obtain ⟨v, σ', H', J', r, q⟩ := hsp
      exact ⟨v, σ', H', J'.ofTry ok, r, q⟩
end
end EV
end
section
set_option autoImplicit false
/-! EyE: the def that calls what it got and tells the error by its clauses. -/
namespace EV
open PySem PySem.Spec PyProof.Rows L2 LamX
/-- the contexts of a suite that stands for the exception at a, of the class cls, its dict at d -/
def Fsu (X0 : Cx) (a : Addr) (cls : Value) (d : Option Addr) : Fam := ⟨{z : Obj × List (Addr × Obj) // Zc cls d z.1 ∧ ∃ vs, z.1.data = .fields vs}, fun z => X0.suite a ((a, z.1.1) :: z.1.2), X0.K, fun _ => rfl⟩
section
variable {X0 : Cx} {pr : List Nat} {B : Addr → Prop} {Hf H Hf' H' Hf1 H1 Hf2 H2 : Hp} {g g' g1 g2 : Gh} {σ σ' : L2.St} {K : Frag}
/-- error.f -/
def mXf (a : Addr) (d : Option Addr) (i : Nat) (f : Str) : ME := fun g => match g[i]? with
  | some (.x (.er a' dd f' da)) => if a' = a ∧ d = some dd ∧ f' = f then some (.dat da, g) else none
  | _ => none
theorem ev_xf {a C : Addr} {d : Option Addr} (i : Nat) {n f : Str} {p pos : Pos} (T : XfC X0.K C) (hno : PySem.W.findIn X0.K (.ref C) f = some none) (hN : X0.N[i]? = some n := by rfl) (hv : Vis X0.env.scope n := by first | exact Or.inl rfl | exact Or.inr (Or.inl rfl) | exact Or.inr (Or.inr rfl))
    (hd : (n == ("__debug__" : Str)) = false := by decide) (hcd : (n == ("__classdict__" : Str)) = false := by decide) (hb : attributeBase (.Name n p) f X0.env (eval (.Name n p) X0.env) = eval (.Name n p) X0.env := by rfl) : Ev (Fsu X0 a (.ref C) d) pr (.Attribute (.Name n p) f pos) (mXf a d i f) := by
  intro B Hf H g σ w g' Q E eq q
  unfold mXf at eq
  split at eq
  · rename_i a' dd f' da hg
    split at eq
    · rename_i h
      obtain ⟨rfl, rfl, rfl⟩ := h
      cases eq
      obtain ⟨v, hv1, rfl, w, h1, h2⟩ := E.ok i _ hg (by simp)
      refine ⟨tXf a' (.ref C) (some dd) C f' (tVar i), fun z => pe_xf (X := X0) (oe := z.1.1) (pn := z.1.2) T hno z.2.1 z.2.2 (pe_var (i := i) hN hv hd hcd) hb, ?_⟩
      exact ⟨.ref a', hv1, rfl, rfl, dd, [(f', w)], w, rfl, E.ex _ _ h1, by simp [List.lookup], q w Hf H (Stp.refl E) h2 (fun _ z => nomatch z)⟩
    · cases eq
  · cases eq
/-! ### the clauses -/
/-- what a clause tells of an error: its class's name, the slot of its name and what is asked of the error, its suite's mirror -/
theorem en_un (n : Nat) (hl : σ.length = n) (ex : Evl.Ex Hf H) : En K [] (fun p => H p = none) Hf H (List.replicate n .un) σ := by
  have g0 : ∀ (i : Nat) (s : Sl), (List.replicate n Sl.un)[i]? = some s → s = .un := fun i s h => by
    rw [List.getElem?_replicate] at h
    split at h
    · cases h; rfl
    · cases h
  refine ⟨ex, (by rw [List.length_replicate]; exact hl.symm), fun i s h1 h2 => absurd (g0 i s h1) h2, fun i j s t p h1 o1 _ _ _ _ => ?_, fun p h => h, fun i s p h1 o1 _ => ?_, fun i s p h1 hp => ?_⟩
  · rw [g0 i s h1] at o1; cases o1
  · rw [g0 i s h1] at o1; cases o1
  · rw [g0 i s h1] at hp; cases hp
theorem own_un {n : Nat} {p : Addr} : ¬ Own (List.replicate n .un) σ p := fun ⟨i, s, h1, o1, _⟩ => by
  rw [List.getElem?_replicate] at h1
  split at h1
  · cases h1; cases o1
  · cases h1
/-- what stands behind: a value new or old, all kept -/
structure Behind (K : Frag) (H0 Hf H : Hp) (da : Da) (v : V) (Hf' H' : Hp) : Prop where
  ex : Evl.Ex Hf Hf'
  exH : Evl.Ex Hf' H'
  keep : ∀ p o, H p = some o → H' p = some o ∧ (Hf' p = Hf p ∨ H0 p = none)
  stay : ∀ p, H' p = none → H p = none
  r : Rep K Hf' v da
inductive Met (mg : Str → Option Value) (errs : List Str) (X0 : Cx) (n : Nat) : List ExceptHandler → List Way → (Er → Option Da) → Prop
  | nil : Met mg errs X0 n [] [] (fun _ => none)
  | plain {x : Str} {C : Addr} {b₀ : Stmt} {suite : List Stmt} {np pos' : Pos} {hds : List ExceptHandler} {l : List Way} {ms : MS} {da : Da} {gz : Gh} {res : Er → Option Da} (hc : Gl X0 x) (hm : X0.mg x = some (.ref C)) (hx : ∀ e ∈ errs, ∀ Ce, mg e = some (.ref Ce) → PySem.W.exmOne X0.K (.ref Ce) (.ref C) = some (decide (e = x)))
      (hEv : ∀ a cls d, EvSs (Fsu X0 a cls d) [] (b₀ :: suite) ms) (hr : ms (List.replicate n .un) = some (.rt (.dat da), gz)) (r : Met mg errs X0 n hds l res) (hdb : (x == ("__debug__" : Str)) = false) :
      Met mg errs X0 n (.ExceptHandler (some (.Name x np)) none (b₀ :: suite) pos' :: hds) ((.ref C, none, fun a cls d => USs (Fsu X0 a cls d) (b₀ :: suite)) :: l) (fun er => if er.1 = x then some da else res er)
  | named {x m f : Str} {C : Addr} {i : Nat} {b₀ : Stmt} {suite : List Stmt} {np pos' : Pos} {hds : List ExceptHandler} {l : List Way} {ms : Addr → Option Addr → MS} {sres : Da → Option Da} {res : Er → Option Da} (hc : Gl X0 x) (hm : X0.mg x = some (.ref C)) (hx : ∀ e ∈ errs, ∀ Ce, mg e = some (.ref Ce) → PySem.W.exmOne X0.K (.ref Ce) (.ref C) = some (decide (e = x)))
      (hi : X0.N[i]? = some m) (hil : i < n) (hln : X0.env.kindOf m = some .local) (hEv : ∀ a d, EvSs (Fsu X0 a (.ref C) d) [] (b₀ :: suite) (ms a d)) (hr : ∀ a dd da r, sres da = some r → ∃ gz, ms a (some dd) ((List.replicate n .un).set i (.x (.er a dd f da))) = some (.rt (.dat r), gz)) (r : Met mg errs X0 n hds l res) (hdb : (x == ("__debug__" : Str)) = false) :
      Met mg errs X0 n (.ExceptHandler (some (.Name x np)) (some m) (b₀ :: suite) pos' :: hds) ((.ref C, some i, fun a cls d => USs (Fsu X0 a cls d) (b₀ :: suite)) :: l) (fun er => if er.1 = x then (match er.2 with | some (f', da) => if f' = f then sres da else none | none => none) else res er)
theorem Met.ways {mg : Str → Option Value} {errs : List Str} {n : Nat} {hds : List ExceptHandler} {l : List Way} {res : Er → Option Da} (h : Met mg errs X0 n hds l res) : WaysOk X0 hds l := by
  induction h with
  | nil => exact .nil
  | plain hc hm hx hEv hr r hdb ih => exact .plain ⟨hc, hdb, .inl hm⟩ (fun a oe cls d pn hz hf => pss_U (F := Fsu X0 a cls d) ⟨(oe, pn), hz, hf⟩) ih
  | named hc hm hx hi hil hln hEv hr r hdb ih => exact .named ⟨hc, hdb, .inl hm⟩ hi hln (fun a oe cls d pn hz hf => pss_U (F := Fsu X0 a cls d) ⟨(oe, pn), hz, hf⟩) ih
theorem Met.use {mg : Str → Option Value} {errs : List Str} {n : Nat} {hds : List ExceptHandler} {l : List Way} {res : Er → Option Da} {Wout : WX} {D : Ends} (hmg : X0.mg = mg) (h : Met mg errs X0 n hds l res) : ∀ {H0 Hf H : Hp} {er : Er} {cls : Value} {d : Option Addr} {σ : L2.St} {r : Da}, σ.length = n → er.1 ∈ errs → ErOk mg X0.K H0 Hf H er cls d → res er = some r →
    (∀ v Hf' H', Behind X0.K H0 Hf H r v Hf' H' → D.rt v H') → wWays X0.K Wout D l cls d σ H := by
  induction h with
  | nil => intro H0 Hf H er cls d σ r _ _ _ e _; cases e
  | @plain x C b₀ suite np pos' hds l ms da gz res hc hm hx hEv hr r hdb ih =>
    intro H0 Hf H er cls d σ rr hl he k e q
    have k' := k
    obtain ⟨hex, Ce, c1, c2, c3⟩ := k
    subst c2
    refine ⟨decide (er.1 = x), hx er.1 he Ce c1, fun hb a na => ?_, fun hb => ?_⟩
    · have e1 : er.1 = x := of_decide_eq_true hb
      dsimp only at e
      rw [if_pos e1] at e
      cases e
      refine hEv a _ d (fun p => H p = none) Hf H _ σ _ _ D (en_un n hl hex) hr fun σ' Hf' H' s v w _ => ?_
      exact q v Hf' H' ⟨s.tr.ex, s.env.ex, fun p o hp => let z := s.tr.keep p o hp own_un; ⟨z.1, .inl z.2⟩, s.tr.stay, w⟩
    · have e1 : ¬ er.1 = x := of_decide_eq_false hb
      dsimp only at e
      rw [if_neg e1] at e
      exact ih hl he k' e q
  | @named x m f C i b₀ suite np pos' hds l ms sres res hc hm hx hi hil hln hEv hr r hdb ih =>
    intro H0 Hf H er cls d σ rr hl he k e q
    have k' := k
    obtain ⟨hex, Ce, c1, c2, c3⟩ := k
    subst c2
    refine ⟨decide (er.1 = x), hx er.1 he Ce c1, fun hb a na => ?_, fun hb => ?_⟩
    · have e1 : er.1 = x := of_decide_eq_true hb
      dsimp only at e
      rw [if_pos e1] at e
      obtain ⟨nm, o⟩ := er
      cases o with
      | none => cases e
      | some z =>
        obtain ⟨f', da⟩ := z
        dsimp only at e c3
        split at e
        · rename_i hf
          subst hf
          obtain ⟨dd, w, rfl, nd, hdd, rw'⟩ := c3
          obtain ⟨gz, hz⟩ := hr a dd da rr e
          have eC : Ce = C := by
            rw [hmg] at hm
            dsimp only at e1 c1
            rw [e1, hm] at c1
            cases c1; rfl
          subst eC
          have ex2 : Evl.Ex (upd Hf dd (.xd [(f', w)])) H := fun p o hp => by
            by_cases hpd : p = dd
            · subst hpd
              rw [upd_same] at hp
              cases hp
              exact hdd
            · rw [upd_ne hpd] at hp
              exact hex p o hp
          have exF : Evl.Ex Hf (upd Hf dd (.xd [(f', w)])) := fun p o hp => by
            by_cases hpd : p = dd
            · subst hpd
              have z := hex p o hp
              rw [hdd] at z
              cases z
              exact upd_same
            · rw [upd_ne hpd]
              exact hp
          have E0 := en_un (K := X0.K) n hl ex2
          have E1 := E0.store (i := i) (s := .x (.er a dd f' da)) (v := .ref a) (by rw [List.length_replicate]; exact hil) ⟨rfl, w, upd_same, rw'.mono exF⟩ (fun _ z => nomatch z)
          have no1 : ∀ p, ¬ Own ((List.replicate n Sl.un).set i (.x (.er a dd f' da))) (σ.set i (some (.ref a))) p := fun p z => by
            rcases own_store z with z | ⟨_, z, _⟩
            · exact own_un z
            · cases z
          refine hEv a (some dd) (fun p => H p = none) _ H _ _ _ _ (gone i D) E1 hz fun σ' Hf' H' s v w _ => ?_
          refine q v Hf' H' ⟨exF.trans s.tr.ex, s.env.ex, fun p o hp => ?_, s.tr.stay, w⟩
          obtain ⟨z1, z2⟩ := s.tr.keep p o hp (no1 p)
          refine ⟨z1, ?_⟩
          by_cases hpd : p = dd
          · subst hpd
            exact .inr nd
          · rw [upd_ne hpd] at z2
            exact .inl z2
        · cases e
    · have e1 : ¬ er.1 = x := of_decide_eq_false hb
      dsimp only at e
      rw [if_neg e1] at e
      exact ih hl he k' e q
end
end EV
end
section
set_option autoImplicit false
/-! EyF: the promise of the def that calls what it got; x(lambda: f(..)) as an expression. -/
namespace EV
open PySem PySem.Spec PyProof.Rows L2 LamX
theorem Takes.len {X : Cx} {W : WX} (tk : Takes X W) : Takes X (fun cls d σ H => σ.length = X.N.length → W cls d σ H) := fun u s' ⟨a, B, sI, pins, σ, H, cls, d, e, I, nb, up, sky, na, os, ag, w⟩ => tk u s' ⟨a, B, sI, pins, σ, H, cls, d, e, I, nb, up, sky, na, os, ag, w I.len⟩
/-- what it makes of the lambda's reading: the result by the error, or the one for none -/
def TTm (mg : Str → Option Value) (K : Frag) (errs : List Str) (res : Er → Option Da) (fine : Da) : (XK → Hp → VK → Prop) → Hp → VK → Prop := fun tl H Q =>
  tl (fun cls d H' => ∃ Hf' er r, ErOk mg K H Hf' H' er cls d ∧ er.1 ∈ errs ∧ res er = some r ∧ ∀ v Hf3 H3, Behind K H Hf' H' r v Hf3 H3 → Q v H3) H
    (fun _ H' => ∃ Hf', Evl.Ex Hf' H' ∧ ∀ v Hf3 H3, Behind K H Hf' H' fine v Hf3 H3 → Q v H3)
theorem met_gives {X : Cx} {Ng : List Str} {x a q : Str} {sg : Scope} {g : Addr} {cdg : Value} {errs : List Str} {res : Er → Option Da} {fine : Da} {h₀ : ExceptHandler} {hds : List ExceptHandler} {rest : List Stmt} {mr : MS} {gz : Gh} {p1 p2 p3 p4 : Pos} (nd : Ng.Nodup) (hN0 : Ng ≠ [])
    (hMet : ∀ s H, ∃ l, Met X.mg errs (cxOf C8.CX0 X.prog X.w X.K X.mg X.base Ng x sg g cdg X.A X.stack s H C8.E0).nox Ng.length (h₀ :: hds) l res)
    (hr : ∀ s H, EvSs (Fam.one (cxOf C8.CX0 X.prog X.w X.K X.mg X.base Ng x sg g cdg X.A X.stack s H C8.E0).nox) [] rest mr) (hz : mr (List.replicate Ng.length .un) = some (.rt (.dat fine), gz)) :
    GivesTo X Ng x sg g cdg (.Try [.Expr (.Call (.Name a p1) [] [] p2) p3] (h₀ :: hds) [] [] p4 :: rest) a q (TTm X.mg X.K errs res fine) := by
  intro f c' s H Q tl act hc h
  obtain ⟨l, hl⟩ := hMet s H
  have h0 : (L2.start Ng [V.ref f])[0]? = some (some (V.ref f)) := rfl
  have ln : (L2.start Ng [V.ref f]).length = Ng.length := by
    cases Ng with
    | nil => exact absurd rfl hN0
    | cons a as => unfold L2.start; simp
  refine ⟨_, pss_cons (ps_try_ways (X := (cxOf C8.CX0 X.prog X.w X.K X.mg X.base Ng x sg g cdg X.A X.stack s H C8.E0).nox) (Wout := fun _ _ _ _ => False)
      (tb := fun W D σ H => ∃ (Ech : XK) (P : Hp → Prop), (∀ cls d σ' H', Ech cls d H' → σ'.length = Ng.length → W cls d σ' H') ∧ σ[0]? = some (some (.ref f)) ∧ H c' = some (CodeO c' q) ∧ (tl Ech H fun _ H' => P H') ∧ ∀ σ' H', σ'.length = Ng.length → P H' → D.nx σ' H')
      rfl rfl nd takes_none5 (fun W pn xe tk _ => ?_) hl.ways) (pss_U (F := Fam.one (cxOf C8.CX0 X.prog X.w X.K X.mg X.base Ng x sg g cdg X.A X.stack s H C8.E0).nox) ()), ?_⟩
  · refine ⟨fun pins s' σ H' D I h' => ?_⟩
    obtain ⟨Ech, P, hW, h1, h2, h3, h4⟩ := h'
    have hp := act _ pn xe Ech p1 p2 (Takes.len tk) (fun cls d σ' H' e z => hW cls d σ' H' e z)
    have hq := pss_one (ps_expr (pos := p3) hp rfl)
    refine wpAny_mono (hq.run pins s' σ H' { nx := fun _ H' => P H', rt := D.rt, bk := D.bk, ct := D.ct } I ⟨h1, h2, h3⟩) (fun fl s2 z => ?_) fun _ _ z => z
    cases fl with
    | next =>
      obtain ⟨σ2, H2, I2, z⟩ := z
      exact ⟨σ2, H2, I2, h4 σ2 H2 I2.len z⟩
    | brk => exact z
    | cont => exact z
    | ret u => exact z
  · refine ⟨_, _, fun cls d σ' H' hE hlen => ?_, h0, hc, h, fun σ' H' hlen hP => ?_⟩
    · obtain ⟨Hf', er, r, k1, k2, k3, k4⟩ := hE
      exact Met.use (mg := X.mg) (X0 := (cxOf C8.CX0 X.prog X.w X.K X.mg X.base Ng x sg g cdg X.A X.stack s H C8.E0).nox) rfl hl hlen k2 k1 k3 k4
    · obtain ⟨Hf', ex, k⟩ := hP
      refine hr s H (fun p => H' p = none) Hf' H' _ σ' _ _ _ (en_un Ng.length hlen ex) hz fun σ2 Hf2 H2 s2 v w _ => ?_
      exact k v Hf2 H2 ⟨s2.tr.ex, s2.env.ex, fun p o hp => let z := s2.tr.keep p o hp own_un; ⟨z.1, .inl z.2⟩, s2.tr.stay, w⟩
end EV
end
section
set_option autoImplicit false
/-! EyG: defs that make lambdas: a judgement over the tables of code objects too. -/
namespace EV
open PySem PySem.Spec PyProof.Rows L2 LamX
section
variable {F : Fam} {pr : List Nat} {B : Addr → Prop} {Hf H Hf' H' Hf1 H1 Hf2 H2 Hf3 H3 : Hp} {g g' g1 g2 : Gh} {σ σ' σ1 σ2 : L2.St} {K : Frag} {T : List (Addr × Str)} {O O1 : Addr → Prop}
/-! ### tables are no one's own -/
theorem TabOk.kind {p : Addr} : ∀ {qs : List Addr} {rs : List (List Da)}, TabOk K Hf H qs rs → p ∈ qs → ∃ us, H p = some (.lst us)
  | _, _, .cons a b c d, h => by
    rcases List.mem_cons.mp h with rfl | h
    · exact ⟨_, b⟩
    · exact TabOk.kind d h
theorem En.own_kind (E : En K pr B Hf H g σ) {p : Addr} (h : Own g σ p) : ∃ u, H p = some u ∧ (∀ ps, u ≠ .tbl ps) ∧ ∀ φ, u ≠ .ext φ := by
  obtain ⟨i, s, e1, o, e2⟩ := h
  obtain ⟨v, e3, sl⟩ := E.ok i _ e1 (ow_ne o)
  rw [e3] at e2
  cases s with
  | own ds =>
    obtain ⟨q, vs, rfl, h1, h2, _⟩ := sl
    have e2 := e2.eq
    cases e2
    exact ⟨_, h2, (fun _ z => by cases z), fun _ z => by cases z⟩
  | dic t es =>
    obtain ⟨q, rfl, h1, h2⟩ := sl
    have e2 := e2.eq
    cases e2
    cases t with
    | false => obtain ⟨kvs, ds, h3, _⟩ := h2; exact ⟨_, h3, (fun _ z => by cases z), fun _ z => by cases z⟩
    | true => obtain ⟨kvs, ds, h3, _⟩ := h2; exact ⟨_, h3, (fun _ z => by cases z), fun _ z => by cases z⟩
  | tab qs rs =>
    obtain ⟨q, rfl, h1, h2, _, t⟩ := sl
    rcases e2 with e2 | e2
    · cases e2; exact ⟨_, h2, (fun _ z => by cases z), fun _ z => by cases z⟩
    · obtain ⟨us, h⟩ := t.kind e2; exact ⟨_, h, (fun _ z => by cases z), fun _ z => by cases z⟩
  | grp qs rs =>
    obtain ⟨q, rfl, h1, h2, _, t⟩ := sl
    rcases e2 with e2 | e2
    · cases e2; exact ⟨_, h2, (fun _ z => by cases z), fun _ z => by cases z⟩
    · obtain ⟨us, h⟩ := t.kind e2; exact ⟨_, h, (fun _ z => by cases z), fun _ z => by cases z⟩
  | un => cases o
  | val d => cases o
  | raw w => cases o
  | x d => cases o
  | rg a b => cases o
def TInv (T : List (Addr × Str)) (Hf H : Hp) : Prop := Tabs T H ∧ ∀ t ∈ T, Hf t.1 = none
theorem tabS_keep {P : Addr} {q : Str} (t : TabS H P q) (k : ∀ p o, H p = some o → (∃ ps, o = .tbl ps) ∨ (∃ φ, o = .ext φ) → H' p = some o) : TabS H' P q := by
  obtain ⟨ps, h1, h2, h3⟩ := t
  refine ⟨ps, k _ _ h1 (.inl ⟨_, rfl⟩), h2, fun pos cv hc => ?_⟩
  obtain ⟨c, e1, e2⟩ := h3 pos cv hc
  exact ⟨c, e1, k _ _ e2 (.inr ⟨_, rfl⟩)⟩
theorem En.no_tbl (E : En K pr B Hf H g σ) {p : Addr} {o : HO} (h : H p = some o) (k : (∃ ps, o = .tbl ps) ∨ ∃ φ, o = .ext φ) : ¬ Own g σ p := fun z => by
  obtain ⟨u, h1, h2, h3⟩ := E.own_kind z
  rw [h] at h1
  cases h1
  rcases k with ⟨ps, rfl⟩ | ⟨φ, rfl⟩
  · exact h2 ps rfl
  · exact h3 φ rfl
theorem TInv.step (I : TInv T Hf H) (E : En K pr B Hf H g σ) (t : Tr (Own g σ) Hf H Hf' H') : TInv T Hf' H' := by
  refine ⟨fun p hp => tabS_keep (I.1 p hp) fun a o h k => (t.keep a o h (E.no_tbl h k)).1, fun p hp => ?_⟩
  obtain ⟨ps, h1, _⟩ := I.1 p hp
  exact (t.keep _ _ h1 (E.no_tbl h1 (.inl ⟨_, rfl⟩))).2.trans (I.2 p hp)
/-! ### steps -/
structure Tr2 (T : List (Addr × Str)) (O : Addr → Prop) (Hf H Hf' H' : Hp) : Prop where
  ex : Evl.Ex Hf Hf'
  keep : ∀ p o, H p = some o → (∀ t ∈ T, p ≠ t.1) → ¬ O p → H' p = some o ∧ Hf' p = Hf p
  stay : ∀ p, H' p = none → H p = none
theorem Tr.two (t : Tr O Hf H Hf' H') : Tr2 T O Hf H Hf' H' := ⟨t.ex, fun p o h _ n => t.keep p o h n, t.stay⟩
theorem Tr2.trans (a : Tr2 T O Hf H Hf1 H1) (b : Tr2 T O1 Hf1 H1 Hf2 H2) (s : ∀ p, O1 p → O p ∨ H p = none) : Tr2 T O Hf H Hf2 H2 :=
  ⟨a.ex.trans b.ex, fun p o h nt n => by
    obtain ⟨h1, e1⟩ := a.keep p o h nt n
    obtain ⟨h2, e2⟩ := b.keep p o h1 nt fun z => by
      rcases s p z with z | z
      · exact n z
      · rw [h] at z; cases z
    exact ⟨h2, e2.trans e1⟩, fun p h => a.stay p (b.stay p h)⟩
theorem Tr2.wide (a : Tr2 T O Hf H Hf1 H1) (s : ∀ p, O p → O1 p) : Tr2 T O1 Hf H Hf1 H1 := ⟨a.ex, fun p o h nt n => a.keep p o h nt fun z => n (s p z), a.stay⟩
structure Stp2 (T : List (Addr × Str)) (K : Frag) (pr : List Nat) (B : Addr → Prop) (Hf H : Hp) (g : Gh) (σ : L2.St) (Hf' H' : Hp) (g' : Gh) : Prop where
  tr : Tr2 T (Own g σ) Hf H Hf' H'
  env : En K pr B Hf' H' g' σ
  sub : ∀ p, Own g' σ p → Own g σ p
  inv : TInv T Hf' H'
structure SStp2 (T : List (Addr × Str)) (K : Frag) (pr : List Nat) (B : Addr → Prop) (Hf H : Hp) (g : Gh) (σ : L2.St) (Hf' H' : Hp) (g' : Gh) (σ' : L2.St) : Prop where
  tr : Tr2 T (Own g σ) Hf H Hf' H'
  env : En K pr B Hf' H' g' σ'
  sub : ∀ p, Own g' σ' p → Own g σ p ∨ H p = none
  prk : ∀ i ∈ pr, σ'[i]? = σ[i]?
  inv : TInv T Hf' H'
theorem Stp.two (s : Stp K pr B Hf H g σ Hf' H' g') (E : En K pr B Hf H g σ) (I : TInv T Hf H) : Stp2 T K pr B Hf H g σ Hf' H' g' := ⟨s.tr.two, s.env, s.sub, I.step E s.tr⟩
theorem SStp.two (s : SStp K pr B Hf H g σ Hf' H' g' σ') (E : En K pr B Hf H g σ) (I : TInv T Hf H) : SStp2 T K pr B Hf H g σ Hf' H' g' σ' := ⟨s.tr.two, s.env, s.sub, s.prk, I.step E s.tr⟩
theorem Stp2.s (s : Stp2 T K pr B Hf H g σ Hf' H' g') : SStp2 T K pr B Hf H g σ Hf' H' g' σ := ⟨s.tr, s.env, fun p z => .inl (s.sub p z), fun _ _ => rfl, s.inv⟩
theorem Stp2.trans (a : Stp2 T K pr B Hf H g σ Hf1 H1 g1) (b : Stp2 T K pr B Hf1 H1 g1 σ Hf2 H2 g2) : Stp2 T K pr B Hf H g σ Hf2 H2 g2 := ⟨a.tr.trans b.tr fun p z => .inl (a.sub p z), b.env, fun p z => a.sub p (b.sub p z), b.inv⟩
theorem SStp2.trans (a : SStp2 T K pr B Hf H g σ Hf1 H1 g1 σ1) (b : SStp2 T K pr B Hf1 H1 g1 σ1 Hf2 H2 g2 σ2) : SStp2 T K pr B Hf H g σ Hf2 H2 g2 σ2 :=
  ⟨a.tr.trans b.tr a.sub, b.env, fun p z => by
    rcases b.sub p z with z | z
    · exact a.sub p z
    · exact .inr (a.tr.stay p z), fun i hi => (b.prk i hi).trans (a.prk i hi), b.inv⟩
theorem SStp2.refl (E : En K pr B Hf H g σ) (I : TInv T Hf H) : SStp2 T K pr B Hf H g σ Hf H g σ := (SStp.refl E).two E I
end
section
variable (F : Fam) (T : List (Addr × Str)) (pr : List Nat)
/-! ### the judgements -/
def EvLe (e : Expr) (f : ME) : Prop := ∀ (B : Addr → Prop) (Hf H : Hp) (g : Gh) (σ : L2.St) (w : Wv) (g' : Gh) (Q : VK), En F.K pr B Hf H g σ → TInv T Hf H → f g = some (w, g') →
  (∀ v Hf' H', Stp2 T F.K pr B Hf H g σ Hf' H' g' → WOk F.K B Hf' H' g' σ w v → Yng H w v → Q v H') → U F e σ H Q
def EvLt (e : Expr) (f : MT) : Prop := ∀ (B : Addr → Prop) (Hf H : Hp) (g : Gh) (σ : L2.St) (b : Bool) (g' : Gh) (Q : Bool → Hp → Prop), En F.K pr B Hf H g σ → TInv T Hf H → f g = some (b, g') →
  (∀ Hf' H', Stp2 T F.K pr B Hf H g σ Hf' H' g' → Q b H') → UT F e σ H Q
def EvL (st : Stmt) (f : MS) : Prop := ∀ (B : Addr → Prop) (Hf H : Hp) (g : Gh) (σ : L2.St) (fl : Fl) (g' : Gh) (D : Ends), En F.K pr B Hf H g σ → TInv T Hf H → f g = some (fl, g') →
  (∀ σ' Hf' H', SStp2 T F.K pr B Hf H g σ Hf' H' g' σ' → FlOk F.K B Hf' H' g' σ' D fl) → US F st D σ H
def EvLs (st : List Stmt) (f : MS) : Prop := ∀ (B : Addr → Prop) (Hf H : Hp) (g : Gh) (σ : L2.St) (fl : Fl) (g' : Gh) (D : Ends), En F.K pr B Hf H g σ → TInv T Hf H → f g = some (fl, g') →
  (∀ σ' Hf' H', SStp2 T F.K pr B Hf H g σ Hf' H' g' σ' → FlOk F.K B Hf' H' g' σ' D fl) → USs F st D σ H
end
section
variable {F : Fam} {pr : List Nat} {B : Addr → Prop} {Hf H Hf' H' Hf1 H1 Hf2 H2 Hf3 H3 : Hp} {g g' g1 g2 : Gh} {σ σ' σ1 σ2 : L2.St} {K : Frag} {T : List (Addr × Str)} {O O1 : Addr → Prop}
theorem l_lift {st : Stmt} {f : MS} (h : EvS F pr st f) : EvL F T pr st f := fun B Hf H g σ fl g' D E I eq q => h B Hf H g σ fl g' D E eq fun σ' Hf' H' s => q σ' Hf' H' (s.two E I)
theorem ls_lift {st : List Stmt} {f : MS} (h : EvSs F pr st f) : EvLs F T pr st f := fun B Hf H g σ fl g' D E I eq q => h B Hf H g σ fl g' D E eq fun σ' Hf' H' s => q σ' Hf' H' (s.two E I)
theorem ls_cons {st : Stmt} {r : List Stmt} {f h : MS} (h1 : EvL F T pr st f) (h2 : EvLs F T pr r h) : EvLs F T pr (st :: r) (sSeq f h) := by
  intro B Hf H g σ fl g' D E I eq q
  obtain ⟨⟨fl1, g1⟩, e1, eq1⟩ := Option.bind_eq_some_iff.mp eq
  refine ⟨tSeq (US F st) (USs F r), fun i => pss_cons (ps_U i) (pss_U i), ?_⟩
  refine h1 B Hf H g σ fl1 g1 _ E I e1 fun σ1 Hf1 H1 s1 => ?_
  cases fl1 with
  | nx => exact h2 B Hf1 H1 g1 σ1 fl g' D s1.env s1.inv eq1 fun σ2 Hf2 H2 s2 => q σ2 Hf2 H2 (s1.trans s2)
  | rt w => cases eq1; exact q σ1 Hf1 H1 s1
  | bk => cases eq1; exact q σ1 Hf1 H1 s1
  | ct => cases eq1; exact q σ1 Hf1 H1 s1
theorem ls_one {st : Stmt} {f : MS} (h : EvL F T pr st f) : EvLs F T pr [st] f := by
  intro B Hf H g σ fl g' D E I eq q
  refine ⟨tSeq (US F st) tNext, fun i => pss_cons (ps_U i) pss_nil, ?_⟩
  refine h B Hf H g σ fl g' _ E I eq fun σ1 Hf1 H1 s1 => ?_
  cases fl with
  | nx => exact q σ1 Hf1 H1 s1
  | rt w => exact q σ1 Hf1 H1 s1
  | bk => exact q σ1 Hf1 H1 s1
  | ct => exact q σ1 Hf1 H1 s1
theorem l_if {t : Expr} {a b : List Stmt} {ft : MT} {f h : MS} {pos : Pos} (ht : EvLt F T pr t ft) (ha : EvLs F T pr a f) (hb : EvLs F T pr b h) : EvL F T pr (.If t a b pos) (sIf ft f h) := by
  intro B Hf H g σ fl g' D E I eq q
  obtain ⟨⟨k, g1⟩, e1, eq1⟩ := Option.bind_eq_some_iff.mp eq
  refine ⟨tIfS (UT F t) (USs F a) (USs F b), fun i => ps_if (pt_U i) (pss_U i) (pss_U i), ?_⟩
  refine ht B Hf H g σ k g1 _ E I e1 fun Hf1 H1 s1 => ?_
  cases k with
  | true => exact ha B Hf1 H1 g1 σ fl g' D s1.env s1.inv eq1 fun σ2 Hf2 H2 s2 => q σ2 Hf2 H2 (s1.s.trans s2)
  | false => exact hb B Hf1 H1 g1 σ fl g' D s1.env s1.inv eq1 fun σ2 Hf2 H2 s2 => q σ2 Hf2 H2 (s1.s.trans s2)
theorem l_for {tg iter : Expr} {body : List Stmt} {it : MI} {tm : Wv → Gh → Option Gh} {fb : MS} {vs : List Nat} {pos : Pos} (hp : ∀ i, PassesOwn (model (F.X i).prog (F.X i).w) (F.X i).A (F.X i).env (F.X i).xe) (hc : ∀ i, (F.X i).calm = true) (hi : EvI F pr tg iter it) (hg : EvG F pr vs tg tm) (hb : EvLs F T pr body fb)
    (hs : ∀ i, ∀ x, foldedSetIterable iter (F.X i).env x = pure x := by intro _ _; rfl) : EvL F T pr (.For tg iter body [] pos) (sFor it tm fb) := by
  intro B Hf H g σ fl g' D E I eq q
  obtain ⟨⟨ds, g1⟩, e1, e2⟩ := Option.bind_eq_some_iff.mp eq
  refine ⟨tFor (UI F tg iter) (UG F tg) (USs F body), fun i => ps_for (hp i) (hc i) (pi_U i) (pg_U i) (pss_U i) (hs i), ?_⟩
  refine hi B Hf H g σ ds g1 _ E e1 fun J Hf1 H1 s1 wk => ?_
  let Pv : Nat → L2.St → Hp → Prop := fun i σ' H' => ∃ Hf' g'', SStp2 T F.K pr B Hf H g σ Hf' H' g'' σ' ∧ Evl.Ex Hf1 Hf' ∧ forL tm fb (ds.drop i) g'' = some (fl, g')
  refine ⟨fun i m σ' H' => m = ds.length - i ∧ i ≤ ds.length ∧ Pv i σ' H', ⟨ds.length, by simp, Nat.zero_le _, Hf1, g1, s1.s.two E I, Evl.Ex.refl _, by rw [List.drop_zero]; exact e2⟩, ?_⟩
  rintro i m σ' H' ⟨rfl, hi', Hf', g'', s, ex, er⟩
  obtain ⟨go, stop, yld⟩ := wk Hf' H' ex s.env.ex
  by_cases hlt : i < ds.length
  · refine .inr ⟨go i hlt, Pv (i + 1), fun σ2 H2 p => ⟨ds.length - (i + 1), by omega, rfl, hlt, p⟩, fun x H'' y => ?_⟩
    have hd : ds[i]? = some ds[i] := by simp [hlt]
    rw [List.drop_eq_getElem_cons hlt] at er
    obtain ⟨Hf2, t2, en2, rx⟩ := yld i _ x H'' hd y
    have E2 := en2 pr B g'' σ' s.env
    obtain ⟨gt, k1, er1⟩ := Option.bind_eq_some_iff.mp (show ((tm (.dat ds[i]) g'').bind _) = some (fl, g') from er)
    obtain ⟨⟨f1, gb⟩, k2, er2⟩ := Option.bind_eq_some_iff.mp er1
    refine hg B Hf2 H'' g'' σ' (.dat ds[i]) x gt _ E2 rx k1 fun σ3 Hf3 H3 s3 => ?_
    have S3 : SStp F.K pr B Hf' H' g'' σ' Hf3 H3 gt σ3 := by
      refine ⟨(t2.wide (fun _ z => z.elim)).trans' s3.tr (fun _ z => z), s3.env, fun p z => ?_, s3.prk⟩
      rcases s3.sub p z with z | ⟨⟨_, z⟩, _⟩
      · exact .inl z
      · cases z
    have T3 : SStp2 T F.K pr B Hf H g σ Hf3 H3 gt σ3 := s.trans (S3.two s.env s.inv)
    have x3 : Evl.Ex Hf1 Hf3 := ex.trans (t2.ex.trans s3.tr.ex)
    refine hb B Hf3 H3 gt σ3 f1 gb _ s3.env T3.inv k2 fun σ4 Hf4 H4 s4 => ?_
    have T4 := T3.trans s4
    have x4 := x3.trans s4.tr.ex
    cases f1 with
    | nx => exact ⟨Hf4, gb, T4, x4, er2⟩
    | ct => exact ⟨Hf4, gb, T4, x4, er2⟩
    | bk => cases er2; exact q σ4 Hf4 H4 T4
    | rt w => cases er2; exact q σ4 Hf4 H4 T4
  · have e : i = ds.length := by omega
    subst e
    rw [List.drop_length] at er
    cases er
    exact .inl ⟨stop, q σ' Hf' H' s⟩
/-! ### x(lambda: body), x tells the error -/
def Flam (F : Fam) (scope : Scope) (k : Nat) (E : XK) : Fam :=
  ⟨{z : F.ι × Around × List PySem.Env × Shared × Hp × Addr × Addr // Room k (z.2.1.deeper (lamEnv (F.X z.1) scope z.2.2.2.1.heap.objs.size z.2.2.2.2.2.1 z.2.2.2.2.2.2))}, fun z => lamCx (F.X z.1.1) z.1.2.1 z.1.2.2.1 z.1.2.2.2.1 z.1.2.2.2.2.1 E scope z.1.2.2.2.2.2.1 z.1.2.2.2.2.2.2, F.K, fun z => F.hK z.1.1⟩
theorem takes_lam {scope : Scope} {k : Nat} {E : XK} (z : (Flam F scope k E).ι) : Takes ((Flam F scope k E).X z) (fun cls d _ H => E cls d H) := takes_of rfl rfl rfl rfl
def mLam (errs : List Str) (res : Er → Option Da) (fine : Da) (out : MXe) (nf : ME) : ME := fun g => match out g with
  | some (er, g') => if er.1 ∈ errs then (res er).map fun r => (.dat r, g') else none
  | none => (nf g).map fun a => (.dat fine, a.2)
theorem lstep_en {P : Addr} {q : Str} (E : En K pr B Hf H g σ) (I : TInv T Hf H) (hP : (P, q) ∈ T) (h : LStep P q H H1) (hT : Tabs T H1) : Stp2 T K pr B Hf H g σ Hf H1 g := by
  rcases h with rfl | ⟨c, ps, ps', h1, h2, rfl⟩
  · exact (Stp.refl E).two E I
  · have nP : ¬ Own g σ P := E.no_tbl h1 (.inl ⟨_, rfl⟩)
    have E1 := E.put (o := .tbl ps') (I.2 _ hP) nP
    have hc : upd H P (.tbl ps') c = none := by rw [upd_ne (fun z => by rw [z, h1] at h2; cases h2)]; exact h2
    have E2 := E1.mut (o := CodeO c q) hc
    refine ⟨⟨Evl.Ex.refl _, fun p o hp nt _ => ⟨?_, rfl⟩, fun p hp => upd_none (upd_none hp)⟩, E2, fun _ z => z, hT, I.2⟩
    rw [upd_ne (ne_of_none hp h2), upd_ne (nt _ hP)]
    exact hp
theorem Behind.stp {da : Da} {v : V} (b : Behind K H1 Hf' H' da v Hf3 H3) (E : En K pr B Hf' H' g' σ) (I : TInv T Hf' H') (n : ∀ p, Own g' σ p → H1 p ≠ none) (nt : ∀ t ∈ T, H1 t.1 ≠ none) : En K pr B Hf3 H3 g' σ ∧ TInv T Hf3 H3 := by
  refine ⟨⟨b.exH, E.len, fun i s e ne => ?_, E.dis, fun p h => E.nb p (b.stay p h), E.ob, E.obi⟩, fun p hp => (I.1 p hp).ext fun a o h => (b.keep a o h).1, fun t ht => ?_⟩
  · obtain ⟨u, e1, s1⟩ := E.ok i s e ne
    refine ⟨u, e1, s1.stay b.ex fun q w o z h2 h1 => ?_⟩
    obtain ⟨k1, k2⟩ := b.keep q _ h2
    refine ⟨k1, ?_⟩
    rcases k2 with k2 | k2
    · exact k2.trans h1
    · exact absurd k2 (n q ⟨i, s, e, o, by rw [e1]; exact z⟩)
  · obtain ⟨ps, h1, _⟩ := I.1 t ht
    rcases (b.keep _ _ h1).2 with k | k
    · exact k.trans (I.2 t ht)
    · exact absurd k (nt t ht)
/-- what is known of the maker and of the def that gets the lambda -/
structure LamAt (F : Fam) (T : List (Addr × Str)) (k : Nat) (scope : Scope) (params : Arguments) (body : Expr) (x : Str) (p lpos pos : Pos) (mg : Str → Option Value) (errs : List Str) (res : Er → Option Da) (fine : Da) (P : Addr) (q : Str) : Prop where
  mem : (P, q) ∈ T
  pe : ∀ (t : XK → TE), (∀ (i : F.ι) (A : Around) (outer : List PySem.Env) (s : Shared) (H : Hp) (E : XK) (f c' : Addr), Room k (A.deeper (lamEnv (F.X i) scope s.heap.objs.size f c')) → PE (lamCx (F.X i) A outer s H E scope f c') body (t E)) →
    ∀ i, PE (F.X i) (.Call (.Name x p) [.Lambda params body scope lpos] [] pos) (tLamX P q T (TTm mg F.K errs res fine) t)
theorem le_lam {scope : Scope} {params : Arguments} {body : Expr} {x q : Str} {k : Nat} {p lpos pos : Pos} {mg : Str → Option Value} {errs : List Str} {res : Er → Option Da} {fine : Da} {P : Addr} {out : MXe} {nf : ME} (L : LamAt F T k scope params body x p lpos pos mg errs res fine P q)
    (hn : ∀ E, Ev (Flam F scope k E) pr body nf) (hx : ∀ E, EvXe (Flam F scope k E) mg pr (fun cls d _ H => E cls d H) body out) : EvLe F T pr (.Call (.Name x p) [.Lambda params body scope lpos] [] pos) (mLam errs res fine out nf) := by
  intro B Hf H g σ w g' Q E I eq q
  refine ⟨_, L.pe (fun E => U (Flam F scope k E) body) fun i A outer s H E f c' hr => pe_U (F := Flam F scope k E) ⟨(i, A, outer, s, H, f, c'), hr⟩, I.1, fun H1 hl hT => ?_⟩
  have s1 := lstep_en E I L.mem hl hT
  have own1 : ∀ p, Own g σ p → H1 p ≠ none := fun p z n => by
    obtain ⟨u, h, _⟩ := s1.env.own_some z
    rw [n] at h; cases h
  have nt1 : ∀ t ∈ T, H1 t.1 ≠ none := fun t ht n => by
    obtain ⟨ps, h, _⟩ := hT t ht
    rw [n] at h; cases h
  have fin : ∀ {Hf' H' da v Hf3 H3 g2}, Stp F.K pr B Hf H1 g σ Hf' H' g2 → Behind F.K H1 Hf' H' da v Hf3 H3 → Stp2 T F.K pr B Hf H g σ Hf3 H3 g2 := fun {Hf' H' da v Hf3 H3 g2} s b => by
    have I2 := s1.inv.step s1.env s.tr
    obtain ⟨E3, I3⟩ := b.stp s.env I2 (fun p z => own1 p (s.sub p z)) nt1
    refine s1.trans ⟨⟨s.tr.ex.trans b.ex, fun p o hp nt no => ?_, fun p h => s.tr.stay p (b.stay p h)⟩, E3, s.sub, I3⟩
    obtain ⟨k1, k2⟩ := s.tr.keep p o hp no
    obtain ⟨k3, k4⟩ := b.keep p o k1
    refine ⟨k3, ?_⟩
    rcases k4 with k4 | k4
    · exact k4.trans k2
    · rw [hp] at k4; cases k4
  unfold mLam at eq
  split at eq
  · rename_i er g2 ho
    split at eq
    · rename_i hm
      obtain ⟨r, hr, e9⟩ := Option.map_eq_some_iff.mp eq
      cases e9
      refine hx _ B Hf H1 g σ er _ _ s1.env ho fun Hf' H' σ' cls d s k => ?_
      exact ⟨Hf', er, r, k, hm, hr, fun v Hf3 H3 b => q v Hf3 H3 (fin s b) b.r (fun _ z => nomatch z)⟩
    · cases eq
  · obtain ⟨⟨wn, g2⟩, hn1, e9⟩ := Option.map_eq_some_iff.mp eq
    cases e9
    refine hn _ B Hf H1 g σ wn _ _ s1.env hn1 fun v Hf' H' s _ _ => ?_
    exact ⟨Hf', s.env.ex, fun v Hf3 H3 b => q v Hf3 H3 (fin s b) b.r (fun _ z => nomatch z)⟩
end
end EV
end
section
set_option autoImplicit false
/-! EyH: defs that make lambdas, called by one another; their lists, tests, returns. -/
namespace EV
open PySem PySem.Spec PyProof.Rows L2 LamX
section
variable {F : Fam} {pr : List Nat} {B : Addr → Prop} {Hf H Hf' H' Hf1 H1 Hf2 H2 Hf3 H3 : Hp} {g g' g1 g2 : Gh} {σ σ' σ1 σ2 : L2.St} {K : Frag} {T : List (Addr × Str)} {O O1 : Addr → Prop}
theorem En.step2 (E : En K pr B Hf H g σ) (t : Tr2 T O Hf H Hf' H') (I : TInv T Hf H) (no : ∀ p, Own g σ p → ¬ O p) (ex : Evl.Ex Hf' H') : En K pr B Hf' H' g σ where
  ex := ex
  len := E.len
  ok := fun i s e n => by
    obtain ⟨v, e1, s1⟩ := E.ok i s e n
    refine ⟨v, e1, ?_⟩
    exact s1.stay t.ex fun q u o z h2 h1 => by
      have ow : Own g σ q := ⟨i, s, e, o, by rw [e1]; exact z⟩
      obtain ⟨k1, k2⟩ := t.keep q _ h2 (fun y hy hq => by
        obtain ⟨ps, h3, _⟩ := I.1 y hy
        rw [← hq] at h3
        exact E.no_tbl h3 (.inl ⟨_, rfl⟩) ow) (no q ow)
      exact ⟨k1, k2.trans h1⟩
  dis := E.dis
  nb := fun p h => E.nb p (t.stay p h)
  ob := E.ob
  obi := E.obi
/-! ### expressions, tests -/
def mLst1 (f : ME) : ME := fun g => (f g).bind fun a => (toD a.1 a.2).bind fun r => some (.fresh [r.1], r.2)
theorem Stp2.toD {w : Wv} {v : V} {d : Da} (a : Stp2 T K pr B Hf H g σ Hf1 H1 g1) (hn : ∀ ds, w = .fresh ds → ∀ p, v = .ref p → H p = none) (h : WOk K B Hf1 H1 g1 σ w v) (e : toD w g1 = some (d, g')) (nt : ∀ ds, w ≠ .fresh ds) :
    ∃ Hf', Stp2 T K pr B Hf H g σ Hf' H1 g' ∧ Rep K Hf' v d := by
  obtain ⟨Hf', s, r⟩ := (Stp.refl a.env).toD (fun ds e => absurd e (nt ds)) h e
  exact ⟨Hf', a.trans (s.two a.env a.inv), r⟩
theorem le_lst1 {e : Expr} {f : ME} {pos : Pos} (h : EvLe F T pr e f) (hnf : ∀ g w g', f g = some (w, g') → ∀ ds, w ≠ .fresh ds) (he : ∀ i, starEach [e] (F.X i).env = (false, eval e (F.X i).env) :: starEach [] (F.X i).env := by intro _; rfl) : EvLe F T pr (.List [e] pos) (mLst1 f) := by
  intro B Hf H g σ w g' Q E I eq q
  obtain ⟨⟨w1, g1⟩, e1, eq⟩ := Option.bind_eq_some_iff.mp eq
  obtain ⟨⟨d, g2⟩, e2, eq⟩ := Option.bind_eq_some_iff.mp eq
  cases eq
  refine ⟨tLst (tCons (U F e) tNil), fun i => pe_lst (pa_cons (pe_U i) pa_nil (he i)), ?_⟩
  refine h B Hf H g σ w1 g1 _ E I e1 fun v Hf1 H1 s1 k1 y1 => ?_
  obtain ⟨Hf2, s2, r⟩ := s1.toD y1 k1 e2 (hnf g w1 g1 e1)
  refine ⟨(by decide : 1 ≤ sizeLine), fun p hp => ?_⟩
  have hf := s2.env.frz hp
  have s3 : Stp F.K pr B Hf2 H1 g2 σ Hf2 (upd H1 p (.lst [v])) g2 := ⟨Tr.mut hp, s2.env.mut hp, fun _ h => h⟩
  refine q _ Hf2 (upd H1 p (.lst [v])) (s2.trans (s3.two s2.env s2.inv)) ⟨p, [v], rfl, s2.env.nb p hp, hf, upd_same, .cons r .nil, s2.env.own_none hp⟩ (fun ds _ p' e => ?_)
  cases e
  exact s2.tr.stay p hp
theorem lt_tru {a : Expr} {f : ME} (h : EvLe F T pr a f) (he : ∀ i, ∀ whole, isTrue a (F.X i).env whole = (do let v ← whole; standAt a.pos; holding [v] (truthy v)) := by intro _ _; rfl) : EvLt F T pr a (mTru f) := by
  intro B Hf H g σ b g' Q E I eq q
  obtain ⟨⟨wa, g1⟩, e1, eq⟩ := Option.bind_eq_some_iff.mp eq
  obtain ⟨x, e2, eq⟩ := Option.bind_eq_some_iff.mp eq
  obtain ⟨b', e3, eq⟩ := Option.bind_eq_some_iff.mp eq
  cases eq
  refine ⟨fun σ H Q => U F a σ H fun x H' => ∃ k, TruV F.K x H' k ∧ Q k H', fun i => by have z := pt_truth (pe_U (F := F) (e := a) i) (he i); rw [F.hK i] at z; exact z, ?_⟩
  refine h B Hf H g σ wa _ _ E I e1 fun v Hf1 H1 s1 w1 y1 => ?_
  exact ⟨b, truth_ok s1.env (look_ok s1.env w1 e2) e3, q Hf1 H1 s1⟩
theorem lt_not {a : Expr} {f : MT} {pos : Pos} (h : EvLt F T pr a f) : EvLt F T pr (.UnaryOp .Not a pos) (mNot f) := by
  intro B Hf H g σ b g' Q E I eq q
  obtain ⟨⟨c, g1⟩, e1, eq⟩ := Option.bind_eq_some_iff.mp eq
  cases eq
  exact ⟨tNot (UT F a), fun i => pt_not (pt_U i), h B Hf H g σ c _ _ E I e1 fun Hf1 H1 s1 => q Hf1 H1 s1⟩
def EvLw (F : Fam) (T : List (Addr × Str)) (pr : List Nat) (e : Expr) (f : MT) : Prop := ∀ (B : Addr → Prop) (Hf H : Hp) (g : Gh) (σ : L2.St) (b : Bool) (g' : Gh) (Q : Bool → Hp → Prop), En F.K pr B Hf H g σ → TInv T Hf H → f g = some (b, g') →
  (∀ Hf' H', Stp2 T F.K pr B Hf H g σ Hf' H' g' → Q b H') → UW F e σ H Q
theorem lt_w {a : Expr} {f : MT} (h : EvLw F T pr a f) : EvLt F T pr a f := by
  intro B Hf H g σ b g' Q E I eq q
  exact ⟨UW F a, fun i => (pw_U i).pt, h B Hf H g σ b g' Q E I eq q⟩
theorem lw_or1 {a : Expr} {f : MT} {pos : Pos} (h : EvLt F T pr a f) : EvLw F T pr (.BoolOp .Or [a] pos) f := by
  intro B Hf H g σ b g' Q E I eq q
  exact ⟨UT F a, fun i => pw_or1 (pt_U i), h B Hf H g σ b g' Q E I eq q⟩
theorem lw_or {a c : Expr} {r : List Expr} {f h : MT} {pos : Pos} (ha : EvLt F T pr a f) (hb : EvLw F T pr (.BoolOp .Or (c :: r) pos) h) : EvLw F T pr (.BoolOp .Or (a :: c :: r) pos) (mOr f h) := by
  intro B Hf H g σ b g' Q E I eq q
  obtain ⟨⟨k, g1⟩, e1, eq⟩ := Option.bind_eq_some_iff.mp eq
  refine ⟨tOr (UT F a) (UW F (.BoolOp .Or (c :: r) pos)), fun i => pw_or (pt_U i) (pw_U i), ?_⟩
  refine ha B Hf H g σ k g1 _ E I e1 fun Hf1 H1 s1 => ?_
  cases k with
  | false => exact hb B Hf1 H1 g1 σ b g' Q s1.env s1.inv eq fun Hf2 H2 s2 => q Hf2 H2 (s1.trans s2)
  | true => cases eq; exact q Hf1 H1 s1
theorem le_one {op} {a : Expr} {f : ME} {pos : Pos} (h : EvLe F T pr a f) : EvLe F T pr (.BoolOp op [a] pos) f := by
  intro B Hf H g σ w g' Q E I eq q
  exact ⟨U F a, fun i => pe_one (pe_U i), h B Hf H g σ w g' Q E I eq q⟩
theorem le_and {a c : Expr} {r : List Expr} {f h : ME} {pos : Pos} (ha : EvLe F T pr a f) (hb : EvLe F T pr (.BoolOp .And (c :: r) pos) h) : EvLe F T pr (.BoolOp .And (a :: c :: r) pos) (mAndV f h) := by
  intro B Hf H g σ w g' Q E I eq q
  obtain ⟨⟨wa, g1⟩, e1, eq⟩ := Option.bind_eq_some_iff.mp eq
  refine ⟨tAndV (U F a) (U F (.BoolOp .And (c :: r) pos)), fun i => pe_and (pe_U i) (pe_U i), ?_⟩
  refine ha B Hf H g σ wa g1 _ E I e1 fun v Hf1 H1 s1 w1 y1 => ?_
  dsimp only at eq
  split at eq
  · have w1 : Rep F.K Hf1 v (.bool true) := w1
    cases w1
    exact ⟨true, rfl, hb B Hf1 H1 g1 σ w g' Q s1.env s1.inv eq fun v Hf2 H2 s2 w2 y2 => q v Hf2 H2 (s1.trans s2) w2 fun ds e p e' => s1.tr.stay p (y2 ds e p e')⟩
  · have w1 : Rep F.K Hf1 v (.bool false) := w1
    cases w1
    cases eq
    exact ⟨false, rfl, q _ Hf1 H1 s1 (.bl false) (fun _ z => nomatch z)⟩
  · cases eq
/-! ### statements -/
theorem l_set (i : Nat) {x : Str} {e : Expr} {f : ME} {pos pos' : Pos} (h : EvLe F T pr e f) (hN : ∀ j, (F.X j).N.Nodup) (hi : ∀ j, (F.X j).N[i]? = some x := by intro _; rfl) (hx : ∀ j, Loc (F.X j).env.scope x := by intro _; first | exact Or.inl rfl | exact Or.inr rfl)
    (hs : ∀ j, swapsWith e (some (.Name x pos')) pos.line (F.X j).env = pure false := by intro _; rfl) (hf : ∀ j, (F.X j).fn x = true ∨ (F.X j).env.scope.names.lookup x = some .local := by intro _; first | exact .inl rfl | exact .inr rfl) (hp : i ∉ pr := by decide) :
    EvL F T pr (.Assign [.Name x pos'] e pos) (sSet i f) := by
  intro B Hf H g σ fl g' D E I eq q
  obtain ⟨⟨w, g1⟩, e1, eq1⟩ := Option.bind_eq_some_iff.mp eq
  obtain ⟨g2, e2, eq2⟩ := Option.bind_eq_some_iff.mp eq1
  cases eq2
  refine ⟨tAsg (U F e) (gName i), fun j => ps_set (hN j) (hi j) (hx j) (pe_U j) (hs j) (hf j), ?_⟩
  refine h B Hf H g σ w g1 _ E I e1 fun v Hf1 H1 s1 w1 y1 => ?_
  obtain ⟨Hf2, t⟩ := setN_ok s1.env w1 e2 hp
  refine q _ Hf2 H1 ⟨s1.tr.trans t.tr.two (fun p z => .inl (s1.sub p z)), t.env, fun p z => ?_, t.prk, s1.inv.step s1.env t.tr⟩
  rcases t.sub p z with z | ⟨⟨ds, z⟩, z2⟩
  · exact .inl (s1.sub p z)
  · exact .inr (y1 ds z p z2)
theorem l_app (i : Nat) {x : Str} {e : Expr} {f : ME} {p1 p2 pos pos' : Pos} (h : EvLe F T pr e f) (hnf : ∀ g w g', f g = some (w, g') → ∀ ds, w ≠ .fresh ds) (hN : ∀ j, (F.X j).N[i]? = some x := by intro _; rfl) (hv : ∀ j, Vis (F.X j).env.scope x := by intro _; first | exact Or.inl rfl | exact Or.inr (Or.inl rfl) | exact Or.inr (Or.inr rfl))
    (hpe : ∀ (t : TE), (∀ j, PE (F.X j) e t) → ∀ j, PE (F.X j) (.Call (.Attribute (.Name x p1) "append" p2) [e] [] pos) (tBM (F.X j).K "list" rAppend (tVar i) (tCons t tNil)) := by
      intro t ht j
      exact pe_bm PySem.F.plainAttrs_list PySem.F.slot_list_append PySem.F.type_list_append mt_append (pv _) (pa_cons (ht j) pa_nil))
    (hs : ∀ j, swapsWith (.Call (.Attribute (.Name x p1) "append" p2) [e] [] pos) none pos'.line (F.X j).env = pure false := by intro _; rfl) : EvL F T pr (.Expr (.Call (.Attribute (.Name x p1) "append" p2) [e] [] pos) pos') (sApp i f) := by
  intro B Hf H g σ fl g' D E I eq q
  unfold sApp at eq
  split at eq
  · rename_i ds0 hg0
    obtain ⟨⟨w, g1⟩, e1, eq1⟩ := Option.bind_eq_some_iff.mp eq
    obtain ⟨⟨d, g2⟩, e2, eq2⟩ := Option.bind_eq_some_iff.mp eq1
    dsimp only at eq2
    split at eq2
    · rename_i ds hg
      split at eq2
      · rename_i hl
        cases eq2
        obtain ⟨p, us0, k0, k1, k2, k3, _⟩ := E.own_val hg0
        refine ⟨tDrop (tBM F.K "list" rAppend (tVar i) (tCons (U F e) tNil)), fun j => ps_expr (by have z := hpe (U F e) (fun j => pe_U j) j; rw [F.hK j] at z; exact z) (hs j), ?_⟩
        refine ⟨.ref p, k0, .inl ⟨rfl, _, .inl (.inl k1)⟩, ?_⟩
        refine h B Hf H g σ w g1 _ E I e1 fun v Hf1 H1 s1 w1 y1 => ?_
        obtain ⟨Hf2, s2, r⟩ := s1.toD y1 w1 e2 (hnf g w g1 e1)
        obtain ⟨p', us, k4, k5, k6, k7, _⟩ := s2.env.own_val hg
        rw [k0] at k4; cases k4
        refine ⟨p, us, v, rfl, rfl, k5, by rw [k7.length]; exact hl, ?_⟩
        have s3 := ((Stp.refl s2.env).change hg k0 (k7.append (.cons r .nil))).s
        exact q σ Hf2 _ (s2.s.trans (s3.two s2.env s2.inv))
      · cases eq2
    · cases eq2
  · cases eq
/-- return, of what is data -/
def sRetL (f : ME) : MS := fun g => (f g).bind fun a => match a.1 with
  | .dat d => some (.rt (.dat d), a.2)
  | _ => none
theorem l_ret {e : Expr} {f : ME} {pos : Pos} (h : EvLe F T pr e f) : EvL F T pr (.Return (some e) pos) (sRetL f) := by
  intro B Hf H g σ fl g' D E I eq q
  obtain ⟨⟨w, g1⟩, e1, eq1⟩ := Option.bind_eq_some_iff.mp eq
  refine ⟨tRet (U F e), fun i => ps_ret (pe_U i), ?_⟩
  refine h B Hf H g σ w g1 _ E I e1 fun v Hf1 H1 s1 w1 y1 => ?_
  dsimp only at eq1
  split at eq1
  · cases eq1
    exact q σ Hf1 H1 s1.s v w1 (fun _ z => nomatch z)
  · cases eq1
/-! ### calls and defs -/
def spL (T : List (Addr × Str)) (K : Frag) (n : Nat) (pr : List Nat) (m : MF) : Sp := fun vs H Q _ => vs.length = n ∧ ∃ Hf G w G', En K pr (fun p => H p = none) Hf H G (vs.map some) ∧ TInv T Hf H ∧ (∀ i ∈ pr, ∃ ds, G[i]? = some (.own ds)) ∧ m G = some (w, G') ∧
  ∀ v Hf' H', Stp2 T K pr (fun p => H p = none) Hf H G (vs.map some) Hf' H' G' → WOk K (fun p => H p = none) Hf' H' G' (vs.map some) w v → (∀ i, w ≠ .slot i) → Q v H'
theorem fnD_okL {es : List Expr} {fa : MA} {n : Nat} {m : MF} (ha : EvA F pr es fa) (hn : ∀ g ws g', fa g = some (ws, g') → ws.length = n) {w : Wv} {Q : VK} {E : XK} (En0 : En F.K pr B Hf H g σ) (I0 : TInv T Hf H) (eq : mFnD m fa g = some (w, g'))
    (q : ∀ v Hf' H', Stp2 T F.K pr B Hf H g σ Hf' H' g' → WOk F.K B Hf' H' g' σ w v → Yng H w v → Q v H') : tCall (spL T F.K n [0] m) [] E (UA F es) σ H Q := by
  obtain ⟨⟨ws0, g1⟩, e1, eq1⟩ := Option.bind_eq_some_iff.mp eq
  dsimp only at eq1
  split at eq1
  · rename_i i ws
    obtain ⟨⟨ss, g2⟩, e2, eq2⟩ := Option.bind_eq_some_iff.mp eq1
    dsimp only at eq2
    split at eq2
    · rename_i ds hg
      obtain ⟨⟨wc, gc⟩, e3, eq3⟩ := Option.bind_eq_some_iff.mp eq2
      dsimp only at eq3
      split at eq3
      · rename_i s rest
        cases eq3
        refine ha B Hf H g σ _ g1 _ En0 e1 fun vs0 Hf1 H1 s1 w1 y1 => ?_
        rw [List.append_nil]
        have lw : (Wv.slot i :: ws).length = vs0.length := by
          have go : ∀ {ws : List Wv} {vs : List V}, YAll H ws vs → ws.length = vs.length := by
            intro ws vs h
            induction h with
            | nil => rfl
            | cons a b ih => simp [ih]
          exact go y1
        cases w1 with
        | @cons _ v0 _ vs a b c =>
          cases y1 with
          | cons y ys =>
            obtain ⟨Hf2, s2, _, sa⟩ := toSls_ok s1 c ys e2
            have a : σ[i]? = some (some v0) := a
            have s2i := s2.two En0 I0
            obtain ⟨p, us, k0, k1, k2, k3, ow⟩ := s2.env.own_val hg
            rw [a] at k0; cases k0
            have noown : ∀ (j : Nat) (t : Sl), ss[j]? = some t → t.ow = true → False := fun j t h o => by
              obtain ⟨v, _, _, no⟩ := SlAll.get (H := H1) sa h
              rw [o] at no; cases no
            have own0 : ∀ z, Own (.own ds :: ss) ((V.ref p :: vs).map some) z → z = p := fun z ⟨j, es, h1, o, h2⟩ => by
              cases j with
              | zero => simp at h1; subst h1; have h2 := h2.eq; simp at h2; exact h2.symm
              | succ j => exact (noown j es (by simpa using h1) o).elim
            refine ⟨by rw [← lw]; exact hn g _ g1 e1, Hf2, .own ds :: ss, w, s :: rest, ⟨s2.env.ex, by rw [List.length_map, List.length_cons, List.length_cons, sa.len], fun j t h _ => ?_, fun j1 j2 ds' es z h1 o1 h2 o2 l1 l2 => ?_, fun p h => h, fun j ds' z h1 o1 _ => ?_, fun j ds' z h1 hp => by
              cases j with
              | zero => simp at h1; subst h1; cases hp
              | succ j => exact (noown j ds' (by simpa using h1) (inn_ow hp)).elim⟩, s2i.inv, fun j hj => ⟨ds, by simp at hj; subst hj; rfl⟩, e3, fun v Hf' H' sc wk ns => ?_⟩
            · cases j with
              | zero => simp at h; subst h; exact ⟨.ref p, rfl, p, us, rfl, k2, k1, k3⟩
              | succ j =>
                obtain ⟨v, e, so, _⟩ := SlAll.get (H := H1) sa (i := j) (by simpa using h)
                exact ⟨v, map_get (by simpa using e), so⟩
            · cases j1 with
              | zero =>
                cases j2 with
                | zero => rfl
                | succ j2 => exact (noown j2 es (by simpa using h2) o2).elim
              | succ j1 => exact (noown j1 ds' (by simpa using h1) o1).elim
            · cases j with
              | zero => exact .inl (by simp)
              | succ j => exact (noown j ds' (by simpa using h1) o1).elim
            · -- behind the call
              have n2 := s2.env.not_own_drop hg a
              have Ed : En F.K pr B Hf' H' (g2.set i .un) σ := (s2.env.drop i).step2 sc.tr s2i.inv (fun z hz hz2 => by
                have := own0 z hz2
                subst this
                exact n2 hz) sc.env.ex
              have nin : s.inn = [] := by
                cases hq : s.inn with
                | nil => rfl
                | cons a b => exact absurd (by simp) (sc.env.obi 0 s a rfl (by rw [hq]; exact List.mem_cons_self)).2
              have so : SlotOk F.K Hf' H' s (.ref p) := by
                cases s with
                | un => trivial
                | val d => obtain ⟨v', e, so⟩ := sc.env.ok 0 _ rfl (by simp); cases e; exact so
                | own es => obtain ⟨v', e, so⟩ := sc.env.ok 0 _ rfl (by simp); cases e; exact so
                | raw x => obtain ⟨v', e, so⟩ := sc.env.ok 0 _ rfl (by simp); cases e; exact so
                | x d => obtain ⟨v', e, so⟩ := sc.env.ok 0 _ rfl (by simp); cases e; exact so
                | dic t es => obtain ⟨v', e, so⟩ := sc.env.ok 0 _ rfl (by simp); cases e; exact so
                | tab t es => obtain ⟨v', e, so⟩ := sc.env.ok 0 _ rfl (by simp); cases e; exact so
                | grp t es => obtain ⟨v', e, so⟩ := sc.env.ok 0 _ rfl (by simp); cases e; exact so
                | rg x y => obtain ⟨v', e, so⟩ := sc.env.ok 0 _ rfl (by simp); cases e; exact so
              have E3 := Ed.put_slotS (i := i) (s := s) a so (fun _ z e => by cases e; exact ⟨by rw [List.set_set]; exact n2, s2.env.ob i _ p hg rfl a⟩) nin
              rw [List.set_set] at E3
              have sub3 : ∀ z, Own (g2.set i s) σ z → Own g2 σ z := fun z hz => by
                rcases own_putS hz with hz | ⟨_, hz⟩
                · exact own_drop hz
                · have hz := hz.eq nin; rw [a] at hz; cases hz; exact ow
              have s3 : Stp2 T F.K pr B Hf H g σ Hf' H' (g2.set i s) := ⟨s2i.tr.trans (sc.tr.wide (O1 := Own g2 σ) fun z hz => by rw [own0 z hz]; exact ow) (fun z hz => .inl (s2.sub z hz)), E3, fun z hz => s2.sub z (sub3 z hz), sc.inv⟩
              refine q v Hf' H' s3 ?_ ?_
              · cases w with
                | dat d => exact wk
                | fresh es =>
                  obtain ⟨z, us', rfl, hb, hf, hq, r, n'⟩ := wk
                  exact ⟨z, us', rfl, s2.env.nb z hb, hf, hq, r, fun hz => s2.env.own_none hb (sub3 z hz)⟩
                | slot i => exact absurd rfl (ns i)
                | raw x => exact wk
                | x d => exact wk
              · intro es e z e'
                subst e
                obtain ⟨z', us', e'', hb, _⟩ := wk
                rw [e'] at e''; cases e''
                exact s2.tr.stay _ hb
      · cases eq3
    · cases eq2
  · cases eq1
theorem le_fnDG {x : Str} {e : Expr} {es : List Expr} {fa : MA} {n k : Nat} {m : MF} {f : Addr} {fd : FuncData} {ps : List Str} {p pos : Pos} (FO : ∀ i, FnG (F.X i).prog (F.X i).w (F.X i).K (F.X i).mg (F.X i).base k f fd ps (spL T F.K n [0] m)) (gd : ∀ i, (F.X i).A.guards = some []) (hr : ∀ i, Room k (F.X i).A) (hm : ∀ i, (F.X i).mg x = some (.ref f)) (hk : ∀ i, PySem.W.keepIn (F.X i).K (.ref f) = true) (hb : ∀ i, Binds (F.X i).K fd ps [])
    (ha : EvA F pr (e :: es) fa) (hn : ∀ g ws g', fa g = some (ws, g') → ws.length = n) (hg : ∀ i, Gl (F.X i) x := by intro _; rfl) (hdb : (x == ("__debug__" : Str)) = false := by decide)
    (he : ∀ i, starEach (e :: es) (F.X i).env = (false, eval e (F.X i).env) :: starEach es (F.X i).env := by intro _; rfl) (hpl : ∀ i, (backTo pos (starEach es (F.X i).env)).any (·.1) = false := by intro _; rfl) : EvLe F T pr (.Call (.Name x p) (e :: es) [] pos) (mFnD m fa) := by
  intro B Hf H g σ w g' Q E I eq q
  exact ⟨_, fun i => pe_callG (FO i) (gd i) (hr i) (hg i) (hm i) (hk i) (hb i) (pa_U i) hdb (he i) (hpl i), fnD_okL ha hn E I eq q⟩
theorem def_bodyL {P : Program} {w : World} {K : Frag} {mg : Str → Option Value} {base : Heap} {qual : Str} {st : Stmt} {f : Addr} {N ps : List Str} {n : Nat} {m : MS} {cdv : Value} {A : Around} {outer : List PySem.Env} {s : Shared} {H : Hp} {vs : List V} {Q : VK} {E : XK}
    (hn : N.length = ps.length + n) (hb : EvLs (Fam.one (cxOf CX0 P w K mg base N qual (defScope st) f cdv A outer s H E).nox) T pr (defBody st) m) (h : spL T K ps.length pr (bodyM pr n m) vs H Q E) :
    ∃ t, PSs (cxOf CX0 P w K mg base N qual (defScope st) f cdv A outer s H E).nox (defBody st) t ∧ t { nx := fun _ H' => Q .non H', rt := Q } (L2.start N vs) H := by
  obtain ⟨hl, Hf, G, w, G', En0, I0, hown, em, q⟩ := h
  obtain ⟨⟨fl, g2⟩, e1, e2⟩ := Option.bind_eq_some_iff.mp em
  have lenG : G.length = vs.length := by have := En0.len; rwa [List.length_map] at this
  have ga : ∀ {i : Nat} {sl : Sl}, (G ++ List.replicate n Sl.un)[i]? = some sl → sl ≠ .un → G[i]? = some sl := fun {i sl} h1 h2 => by
    by_cases hi : i < G.length
    · rwa [List.getElem?_append_left hi] at h1
    · rw [List.getElem?_append_right (by omega), List.getElem?_replicate] at h1
      split at h1
      · cases h1; exact absurd rfl h2
      · cases h1
  have E1 : En K pr (fun p => H p = none) Hf H (G ++ List.replicate n .un) (L2.start N vs) := by
    refine ⟨En0.ex, ?_, fun i sl h1 h2 => ?_, fun i j ds es p h1 o1 h2 o2 k1 k2 => ?_, En0.nb, fun i ds p h1 o1 k1 => ?_, fun i ds p h1 hp => En0.obi i ds p (ga h1 (ow_ne (inn_ow hp))) hp⟩
    · unfold L2.start
      rw [List.length_append, List.length_append, List.length_map, List.length_replicate, List.length_replicate]; omega
    · obtain ⟨v, e, so⟩ := En0.ok i sl (ga h1 h2) h2
      exact ⟨v, start_of e, so⟩
    · exact En0.dis i j ds es p (ga h1 (ow_ne o1)) o1 (ga h2 (ow_ne o2)) o2 (k1.imp fun z => map_get (start_get z)) (k2.imp fun z => map_get (start_get z))
    · exact En0.ob i ds p (ga h1 (ow_ne o1)) o1 (map_get (start_get k1))
  have ow : ∀ p, Own (G ++ List.replicate n .un) (L2.start N vs) p → Own G (vs.map some) p := fun p ⟨i, ds, h1, o, h2⟩ => ⟨i, ds, ga h1 (ow_ne o), o, h2.imp fun z => map_get (start_get z)⟩
  have fin : ∀ σ' Hf' H', SStp2 T K pr (fun p => H p = none) Hf H (G ++ List.replicate n .un) (L2.start N vs) Hf' H' g2 σ' → Stp2 T K pr (fun p => H p = none) Hf H G (vs.map some) Hf' H' (keepArgs pr G g2) ∧ ∀ p, Own (keepArgs pr G g2) (vs.map some) p → Own g2 σ' p := fun σ' Hf' H' s => by
    -- the slots that are handed on stand as they stood
    have at_ : ∀ {i : Nat} {v : V}, i ∈ pr → (vs.map some)[i]? = some (some v) → σ'[i]? = some (some v) := fun {i v} hi e => (s.prk i hi).trans (start_of e)
    have noown : ∀ (i : Nat) (sl : Sl), i ∉ pr → G[i]? = some sl → sl.ow = true → False := fun i sl hi h o => by
      obtain ⟨v, k0, so⟩ := En0.ok i sl h (ow_ne o)
      obtain ⟨p, u, rfl, k1, _⟩ := so.there o
      rcases En0.ob i sl p h o k0 with z | z
      · exact hi z
      · rw [k1] at z; cases z
    have o2 : ∀ p, Own (keepArgs pr G g2) (vs.map some) p → Own g2 σ' p := fun p ⟨i, ds, h1, o, h2⟩ => by
      rcases keep_get h1 (ow_ne o) with ⟨hi, h3⟩ | ⟨hi, h3⟩
      · exact ⟨i, ds, h3, o, h2.imp (at_ hi)⟩
      · exact (noown i ds hi h3 o).elim
    refine ⟨⟨⟨s.tr.ex, fun p o hp nt no => s.tr.keep p o hp nt fun z => no (ow p z), s.tr.stay⟩, ⟨s.env.ex, ?_, fun i sl h1 h2 => ?_, fun i j ds es p h1 o1 h2 o2 k1 k2 => ?_, s.env.nb, fun i ds p h1 o1 k1 => ?_, fun i ds p h1 hp => ?_⟩, fun p z => ?_, s.inv⟩, o2⟩
    · unfold keepArgs
      rw [List.length_mapIdx]; exact En0.len
    · rcases keep_get h1 h2 with ⟨hi, h3⟩ | ⟨hi, h3⟩
      · obtain ⟨ds0, hg⟩ := hown i hi
        obtain ⟨p, us, k0, _⟩ := En0.own_val hg
        obtain ⟨v, e, so⟩ := s.env.ok i sl h3 h2
        rw [at_ hi k0] at e; cases e
        exact ⟨_, k0, so⟩
      · obtain ⟨v, e, so⟩ := En0.ok i sl h3 h2
        refine ⟨v, e, ?_⟩
        cases sl with
        | un => trivial
        | val d => exact Rep.mono s.tr.ex so
        | own ds => exact (noown i _ hi h3 rfl).elim
        | raw x => exact so
        | x d => exact XOk.mono s.tr.ex so
        | dic t es => exact (noown i _ hi h3 rfl).elim
        | tab t es => exact (noown i _ hi h3 rfl).elim
        | grp t es => exact (noown i _ hi h3 rfl).elim
        | rg a b =>
          obtain ⟨q, e, h1⟩ := so
          exact ⟨q, e, s.tr.ex _ _ h1⟩
    · rcases keep_get h1 (ow_ne o1) with ⟨hi, h3⟩ | ⟨hi, h3⟩
      · rcases keep_get h2 (ow_ne o2) with ⟨hj, h4⟩ | ⟨hj, h4⟩
        · exact s.env.dis i j ds es p h3 o1 h4 o2 (k1.imp (at_ hi)) (k2.imp (at_ hj))
        · exact (noown j es hj h4 o2).elim
      · exact (noown i ds hi h3 o1).elim
    · rcases keep_get h1 (ow_ne o1) with ⟨hi, h3⟩ | ⟨hi, h3⟩
      · exact .inl hi
      · exact (noown i ds hi h3 o1).elim
    · rcases keep_get h1 (ow_ne (inn_ow hp)) with ⟨hi, h3⟩ | ⟨hi, h3⟩
      · exact absurd hi (s.env.obi i ds p h3 hp).2
      · exact (noown i ds hi h3 (inn_ow hp)).elim
    · obtain ⟨i, ds, h1, o1, h2⟩ := z
      rcases keep_get h1 (ow_ne o1) with ⟨hi, h3⟩ | ⟨hi, h3⟩
      · have nin : ds.inn = [] := by
          cases hq : ds.inn with
          | nil => rfl
          | cons a b => exact absurd hi (s.env.obi i ds a h3 (by rw [hq]; exact List.mem_cons_self)).2
        have h2 := h2.eq nin
        rcases s.sub p ⟨i, ds, h3, o1, .inl (at_ hi h2)⟩ with z | z
        · exact ow p z
        · obtain ⟨ds0, hg⟩ := hown i hi
          obtain ⟨p', us, k0, k1, _⟩ := En0.own_val hg
          rw [k0] at h2; cases h2
          rw [k1] at z; cases z
      · exact (noown i ds hi h3 o1).elim
  have wk : ∀ {σ' : L2.St} {Hf' H' : Hp} {w' : Wv} {v : V}, (∀ p, Own (keepArgs pr G g2) (vs.map some) p → Own g2 σ' p) → WOk K (fun p => H p = none) Hf' H' g2 σ' w' v → (∀ i, w' ≠ .slot i) → WOk K (fun p => H p = none) Hf' H' (keepArgs pr G g2) (vs.map some) w' v := fun {σ' Hf' H' w' v} o2 h hs => by
    cases w' with
    | dat d => exact h
    | fresh ds =>
      obtain ⟨p, us, rfl, hb, hf, hq, r, no⟩ := h
      exact ⟨p, us, rfl, hb, hf, hq, r, fun z => no (o2 p z)⟩
    | slot i => exact absurd rfl (hs i)
    | raw x => exact h
    | x d => exact h
  have body := hb (fun p => H p = none) Hf H _ (L2.start N vs) fl g2 { nx := fun _ H' => Q .non H', rt := Q } E1 I0 e1 fun σ' Hf' H' s => by
    obtain ⟨s2, o2⟩ := fin σ' Hf' H' s
    cases fl with
    | nx => cases e2; exact q .non Hf' H' s2 .non (fun _ z => nomatch z)
    | rt w' => cases e2; exact fun v h hs => q v Hf' H' s2 (wk o2 h hs) hs
    | bk => cases e2
    | ct => cases e2
  obtain ⟨t, ht, hq⟩ := body
  exact ⟨t, ht (), hq⟩
theorem def_okLG {P : Program} {w : World} {K : Frag} {mg : Str → Option Value} {base : Heap} {x qual : Str} {st : Stmt} {f : Addr} {fd : FuncData} {N ps : List Str} {k n : Nat} {m : MS} (Fu : Fun K x qual st f fd) (S : FnScope N ps (defScope st))
    (hn : N.length = ps.length + n) (hb : ∀ (cdv : Value), fd.code = cdv → ∀ (A : Around) (outer : List PySem.Env) (s : Shared) (H : Hp) (E : XK), Room k (A.deeper (envOfC qual (defScope st) s.heap.objs.size f cdv)) → A.guards = some [] →
      EvLs (Fam.one (cxOf CX0 P w K mg base N qual (defScope st) f cdv A outer s H E).nox) T pr (defBody st) m) : FnG P w K mg base (k + 1) f fd ps (spL T K ps.length pr (bodyM pr n m)) := by
  obtain ⟨oc, od, kV, doc, pm, an, cdv, ct, osl, rfl, lk, hcd⟩ := Fu.ex
  refine ⟨fun vs H Q E h => h.1, fun A gd hr outer s H args us vs Q E e0 hbi r hsp => ?_⟩
  have kept : ∀ b o, base.get? b = some o → s.heap.get? b = some o := fun b o e => (e0.bs b o e).1
  have par : ∀ y ∈ ps.zip us, (defScope st).names.lookup y.1 = some .local ∨ ((defScope st).names.lookup y.1 = some .cell ∧ ((cellsFrom (s.heap.objs.size + 1) (defScope st).names []).lookup y.1).isSome = true) := fun y hy =>
    (S.par y.1 (List.of_mem_zip hy).1).imp id fun q => ⟨q, PySem.W.cellsFrom_some _ _ _ (.inl q)⟩
  refine codeAny_call_function hr.depth ((e0.mod.kin.keeps kept) _ _ lk) rfl S.co S.gen rfl (PySem.W.codeRec_of (e0.mod.kin.keeps kept) hcd) (hbi _ _ _ _ (wpAny_newFunctionEnv_cells S.kind par fun env he s1 x => ?_))
  subst he
  refine ⟨(e0.mod.nolimit.keeps kept).keeps x.toInCall.keep, codeAny_func ?_⟩
  obtain ⟨t, ht, hq⟩ := def_bodyL hn (hb cdv rfl A outer s H E (hr.deeper _) gd) hsp
  refine wpAny_mono (ht.nox.run [] s1 (L2.start N vs) H _ (inv_start S hr.hd e0 hsp.1 r x) hq) (fun fl s' hs => ?_) fun e s' hs => hs
  cases fl with
  | ret u =>
    obtain ⟨v, σ', H', J, rv, q⟩ := hs
    exact ⟨v, H', J.os, J.bare, J.base, J.hok, rv, q⟩
  | next =>
    obtain ⟨σ', H', J, q⟩ := hs
    exact ⟨V.non, H', J.os, J.bare, J.base, J.hok, rfl, q⟩
  | brk => exact hs.elim fun _ z => z.elim fun _ z => z.2.elim
  | cont => exact hs.elim fun _ z => z.elim fun _ z => z.2.elim
end
end EV
end
section
set_option autoImplicit false
/-! EyI: the end of a law whose defs make lambdas, no repr under way. -/
namespace EV
open PySem PySem.Spec PyProof.Rows L2 LamX
section
variable {P : Program} {w : World} {K : Frag} {mg mb : Str → Option Value} {k : Nat} {fa a : Addr} {cs : List (Addr × Addr)} {fd : FuncData} {x : Str} {sp : Sp} {s : Shared} {vs : List Value} {ns : List Int}
/-- the heap that is known at the start: the tables, and the script if it is none of the written part -/
def startH (K : Frag) (cs : List (Addr × Addr)) (a : Addr) (vs : List Value) (ns : List Int) : Hp := fun b =>
  if b ∈ cs.map (fun p => p.2) then some (.tbl #[]) else if b = a ∧ K.lookup a = none then some (.frz { cls := .type "list", data := .seq vs.toArray } (.lst (ns.map V.int))) else none
theorem startH_some {b : Addr} {u : HO} (h : startH K cs a vs ns b = some u) : (b ∈ cs.map (fun p => p.2) ∧ u = .tbl #[]) ∨ (b ∉ cs.map (fun p => p.2) ∧ b = a ∧ K.lookup a = none ∧ u = .frz { cls := .type "list", data := .seq vs.toArray } (.lst (ns.map V.int))) := by
  unfold startH at h
  split at h
  · rename_i m
    cases h
    exact .inl ⟨m, rfl⟩
  · rename_i m
    split at h
    · rename_i m2
      cases h
      exact .inr ⟨m, m2.1, m2.2, rfl⟩
    · cases h
theorem law_callTG (KX : K.In s.heap) (hns : s.heap.Ns mainGlobals mg) (hb : s.heap.Ns builtinsNs mb) (hbb : ∀ x : Str, x ≠ "__name__" → mb x = bootBuiltins x) (hlim : s.heap.NoLimit) (hg : s.gens = #[])
    (hT : ∀ p ∈ cs, s.heap.get? p.2 = some { cls := .none, data := .fields #[] }) (nT : ∀ p ∈ cs, K.lookup p.2 = none) (C : ∀ p ∈ cs, PySem.W.CodeHd s.heap p.1 p.2)
    (hbm : ∃ (bm : Addr) (ob : Obj), mg "__builtins__" = some (.ref bm) ∧ bm ≠ builtinsNs ∧ s.heap.get? bm = some ob ∧ ob.cls = .type "module" ∧ ob.dict = some builtinsNs ∧ ob.data = .plain)
    (ha : s.heap.get? a = some { cls := .type "list", data := .seq vs.toArray }) (hi : IntsAre vs ns) (hl : ns.length ≤ sizeLine) (hr : Room k callerA)
    (G : ∀ base : Heap, K.In base → base.Ns mainGlobals mg → (∀ p ∈ cs, TabB base mg p.1 p.2) → FnG P w K mg base k fa fd [x] sp) (hbind : ∀ (s : Shared) (u : Value), BindsTo s fd ⟨[u], []⟩ [(x, u)])
    (hsp : ∀ H : Hp, (∀ p ∈ cs, H p.2 = some (.tbl #[])) → SqL K H a (ns.map V.int) → sp [.ref a] H (fun v _ => v = .bl true) E0) :
    codeAny (model P w) callerA (.call (.ref fa) ⟨[.ref a], []⟩) (fun r s' => r = .ok (.ret (.bool true)) ∧ OldK s.heap s'.heap ∧ s'.os = s.os ∧ AllBare s'.gens) s := by
  obtain ⟨H, hH⟩ : ∃ H, H = startH K cs a vs ns := ⟨_, rfl⟩
  have inT : ∀ p ∈ cs, p.2 ∈ cs.map (fun p => p.2) := fun p hp => List.mem_map.mpr ⟨p, hp, rfl⟩
  have isT : ∀ b, b ∈ cs.map (fun p => p.2) → s.heap.get? b = some { cls := .none, data := .fields #[] } ∧ K.lookup b = none := fun b m => by
    obtain ⟨p, hp, rfl⟩ := List.mem_map.mp m
    exact ⟨hT p hp, nT p hp⟩
  have some_ : ∀ b u, H b = some u → (b ∈ cs.map (fun p => p.2) ∧ u = .tbl #[]) ∨ (b ∉ cs.map (fun p => p.2) ∧ b = a ∧ K.lookup a = none ∧ u = .frz { cls := .type "list", data := .seq vs.toArray } (.lst (ns.map V.int))) := fun b u e => startH_some (by rw [← hH]; exact e)
  have tbl : ∀ p ∈ cs, H p.2 = some (.tbl #[]) := fun p hp => by rw [hH]; exact if_pos (inT p hp)
  have na : a ∉ cs.map (fun p => p.2) := fun m => by
    have z := (isT a m).1
    rw [ha] at z
    exact nomatch congrArg Obj.data (Option.some.inj z)
  have rv := vals_ints hi
  have lenV := hi.length
  -- what is known of an object that is neither a list nor a table: it is not hidden
  have open_ : ∀ {b : Addr} {o : Obj}, s.heap.get? b = some o → (∀ us n, o.data ≠ .seq us n) → o.data ≠ .fields #[] → (hidT s.heap H).get? b = some o := fun {b o} e h1 h2 => hidT_get e (by
    cases q : H b with
    | none => rfl
    | some u =>
      rcases some_ b u q with ⟨m, _⟩ | ⟨_, rfl, _⟩
      · rw [(isT b m).1] at e; cases e; exact absurd rfl h2
      · rw [ha] at e; cases e; exact absurd rfl (h1 _ _))
  have ns_ : ∀ {b : Addr} {m : Str → Option Value}, s.heap.Ns b m → (hidT s.heap H).Ns b m := fun {b m} ⟨o, es, ep, e, d, r⟩ => ⟨o, es, ep, open_ e (fun us n z => by rw [d] at z; cases z) (fun z => by rw [d] at z; cases z), d, r⟩
  have kin : K.In (hidT s.heap H) := fun b o e => hidT_get (KX b o e) (by
    cases q : H b with
    | none => rfl
    | some u =>
      rcases some_ b u q with ⟨m, _⟩ | ⟨_, rfl, z, _⟩
      · rw [(isT b m).2] at e; cases e
      · rw [z] at e; cases e)
  have tabs : ∀ p ∈ cs, TabB (hidT s.heap H) mg p.1 p.2 := fun p hp => by
    refine ⟨?_, ?_, fun z => ?_⟩
    · obtain ⟨o, us, file, tf, flags, tg, inF, text, tt, e1, r1, r2, r3, r⟩ := C p hp
      refine ⟨o, us, file, tf, flags, tg, inF, text, tt, open_ e1 (fun us n z => ?_) (fun z => ?_), r1, r2, r3, r⟩
      · rw [r2] at z; cases z
      · rw [r2] at z; cases z; simp at r3
    · obtain ⟨bm, ob, b1, b2, b3, b4, b5, b6⟩ := hbm
      refine ⟨bm, ob, b1, b2, fun q => ?_, fun q => ?_, open_ b3 (fun us n z => by rw [b6] at z; cases z) (fun z => by rw [b6] at z; cases z), b4, b5, b6⟩
      · obtain ⟨o, es, ep, e, d, _⟩ := hns
        rw [q, e] at b3; cases b3
        rw [d] at b6; cases b6
      · rw [q, hT p hp] at b3; cases b3; cases b6
    · obtain ⟨o, es, ep, e, d, _⟩ := hns
      rw [z, hT p hp] at e; cases e; cases d
  have hok : HOk P w H s.heap := fun b u e => by
    rcases some_ b u e with ⟨m, rfl⟩ | ⟨_, rfl, _, rfl⟩
    · exact (isT b m).1
    · exact ⟨ha, by rw [List.length_map]; exact hl, vs, _, rv, ha⟩
  have sq : SqL K H a (ns.map V.int) := by
    cases q : K.lookup a with
    | none => exact .inl (.inr ⟨_, by rw [hH]; exact (if_neg na).trans (if_pos ⟨rfl, q⟩)⟩)
    | some o =>
      have e := KX a o q
      rw [ha] at e; cases e
      exact .inr ⟨_, vs.toArray, _, q, rfl, rfl, rfl, by rw [List.size_toArray, lenV]; exact hl, by simpa using rv⟩
  have e0 : Env0 P w K mg (hidT s.heap H) callerA [] s H := ⟨rfl, ⟨kin, ns_ hns, ⟨mb, ns_ hb, hbb⟩, hlim.elim fun mc z => ⟨mc, ns_ z.1, z.2⟩⟩, fun b o e => of_hidT e, Nat.le_of_eq (hidT_size _ _), trivial, fun b hb => absurd (show b ∈ ([] : List Addr) from hb) (by simp), hok, .of_eq hg⟩
  refine codeAny_mono ((G _ kin (ns_ hns) tabs).run callerA rfl hr [] s H ⟨[.ref a], []⟩ [.ref a] [.ref a] _ _ e0 (hbind s (.ref a)) (.cons rfl .nil) (hsp H tbl sq)) fun r s' h => ?_
  match r, h with
  | .ok (.ret u), ⟨v, H', os, bare, un, hok', r', q⟩ =>
    have q' : v = .bl true := q
    subst q'
    obtain rfl : u = Value.bool true := r'
    have stays : ∀ b o, b ∉ cs.map (fun p => p.2) → s.heap.get? b = some o → s'.heap.get? b = some o := fun b o m e => by
      cases q : H b with
      | none => exact un.keep b o e q (fun m => absurd (show b ∈ ([] : List Addr) from m) (by simp)) (by simp)
      | some u =>
        rcases some_ b u q with ⟨z, _⟩ | ⟨_, _, _, rfl⟩
        · exact absurd z m
        · obtain ⟨e1, _⟩ := hok b _ q
          obtain ⟨e2, _⟩ := hok' b _ (un.frzs b _ _ q)
          rw [e] at e1; cases e1
          exact e2
    have grown : ∀ p ∈ cs, ∃ more : Array Value, s'.heap.get? p.2 = some { cls := .none, data := .fields more } := fun p hp => by
      obtain ⟨more, z⟩ := un.tbls p.2 #[] (tbl p hp)
      exact ⟨_, hok' p.2 _ z⟩
    refine ⟨rfl, ⟨fun b o e => ?_, fun b o e => ?_⟩, os, bare⟩
    · by_cases m : b ∈ cs.map (fun p => p.2)
      · obtain ⟨p, hp, rfl⟩ := List.mem_map.mp m
        obtain ⟨more, hm⟩ := grown p hp
        rw [hT p hp] at e
        cases e
        exact .inr (.inl ⟨((C p hp).tab (hT p hp)).isCodeTable, rfl, #[], more, rfl, by rw [Array.empty_append]; exact hm⟩)
      · exact .inl (stays b o m e)
    · by_cases m : b ∈ cs.map (fun p => p.2)
      · obtain ⟨p, hp, rfl⟩ := List.mem_map.mp m
        exact let ⟨_, hm⟩ := grown p hp; ⟨_, hm⟩
      · exact ⟨o, stays b o m e⟩
end
/-- what is known of the law's promise at the head's heap -/
def LawG (l : PySem.W.OpenLaw) (w : World) (K : Frag) (k n : Nat) (x : Str) (mg : Str → Option Value) (fa : Addr) (h : Heap) : Prop :=
  ∃ (fd : FuncData) (cs : List (Addr × Addr)) (sp : Sp), (∀ p ∈ cs, h.get? p.2 = some { cls := .none, data := .fields #[] }) ∧ (∀ p ∈ cs, K.lookup p.2 = none) ∧ (∀ p ∈ cs, PySem.W.CodeHd h p.1 p.2) ∧ (∀ (s : Shared) (u : Value), BindsTo s fd ⟨[u], []⟩ [(x, u)]) ∧
    (∀ (H : Hp) (a : Addr) (ns : List Int), ns.length ≤ n → (∀ z ∈ ns, Builtin.Int.intBits z ≤ 1048576) → (∀ p ∈ cs, H p.2 = some (.tbl #[])) → SqL K H a (ns.map V.int) → sp [.ref a] H (fun v _ => v = .bl true) E0) ∧
    ∀ base : Heap, K.In base → base.Ns mainGlobals mg → (∀ p ∈ cs, TabB base mg p.1 p.2) → FnG l.prog w K mg base k fa fd [x] sp
end EV
end
section
set_option autoImplicit false
/-! EyJ: what the laws of errors use: the maker of lambdas, the clauses that tell the error's field. -/
namespace EV
open PySem PySem.Spec PyProof.Rows L2 LamX
section
variable {G : Gh}
/-! ### a mirror that asks nothing of the slots -/
def Fol (G : Gh) (f f' : ME) : Prop := ∀ w g', f' [] = some (w, g') → g' = [] ∧ f G = some (w, G)
def FolA (G : Gh) (f f' : MA) : Prop := ∀ w g', f' [] = some (w, g') → g' = [] ∧ f G = some (w, G)
theorem look_nil {w : Wv} {d : Da} (h : look w [] = some d) : look w G = some d := by
  cases w with
  | slot i => simp [look] at h
  | dat d => exact h
  | fresh d => exact h
  | raw d => exact h
  | x d => exact h
theorem lookAll_nil : ∀ {ws : List Wv} {ds : List Da}, lookAll ws [] = some ds → lookAll ws G = some ds
  | [], ds, h => h
  | w :: ws, ds, h => by
    obtain ⟨a, e1, h⟩ := Option.bind_eq_some_iff.mp h
    obtain ⟨b, e2, h⟩ := Option.bind_eq_some_iff.mp h
    show ((look w G).bind _) = _
    rw [look_nil e1, Option.bind_some, lookAll_nil e2, Option.bind_some]
    exact h
theorem toD_nil {w : Wv} {d : Da} {g' : Gh} (h : toD w [] = some (d, g')) : g' = [] ∧ toD w G = some (d, G) := by
  cases w with
  | slot i => simp [toD] at h
  | dat d => cases h; exact ⟨rfl, rfl⟩
  | fresh d => cases h; exact ⟨rfl, rfl⟩
  | raw d => cases h
  | x d => cases h
theorem toDs_nil : ∀ {ws : List Wv} {ds : List Da} {g' : Gh}, toDs ws [] = some (ds, g') → g' = [] ∧ toDs ws G = some (ds, G)
  | [], ds, g', h => by cases h; exact ⟨rfl, rfl⟩
  | w :: ws, ds, g', h => by
    obtain ⟨⟨a, g1⟩, e1, h⟩ := Option.bind_eq_some_iff.mp h
    obtain ⟨rfl, e1'⟩ := toD_nil (G := G) e1
    obtain ⟨⟨b, g2⟩, e2, h⟩ := Option.bind_eq_some_iff.mp h
    obtain ⟨rfl, e2'⟩ := toDs_nil e2
    cases h
    refine ⟨rfl, ?_⟩
    show ((toD w G).bind _) = _
    rw [e1', Option.bind_some, e2', Option.bind_some]
theorem fol_c {d : Da} : Fol G (mC d) (mC d) := fun w g' h => by cases h; exact ⟨rfl, rfl⟩
theorem fol_of {f : ME} {d : Da} (h : f G = some (.dat d, G)) : Fol G f (mC d) := fun w g' e => by cases e; exact ⟨rfl, h⟩
theorem fol_bin {Fn : Da → Da → Option Wv} {a a' b b' : ME} (ha : Fol G a a') (hb : Fol G b b') : Fol G (mBin Fn a b) (mBin Fn a' b') := by
  intro w g' eq
  obtain ⟨⟨wa, g1⟩, e1, eq⟩ := Option.bind_eq_some_iff.mp eq
  obtain ⟨rfl, e1'⟩ := ha _ _ e1
  obtain ⟨⟨wb, g2⟩, e2, eq⟩ := Option.bind_eq_some_iff.mp eq
  obtain ⟨rfl, e2'⟩ := hb _ _ e2
  obtain ⟨x, e3, eq⟩ := Option.bind_eq_some_iff.mp eq
  obtain ⟨y, e4, eq⟩ := Option.bind_eq_some_iff.mp eq
  obtain ⟨z, e5, eq⟩ := Option.bind_eq_some_iff.mp eq
  cases eq
  refine ⟨rfl, ?_⟩
  unfold mBin
  rw [e1', Option.bind_some]
  dsimp only
  rw [e2', Option.bind_some]
  dsimp only
  rw [look_nil e3, Option.bind_some, look_nil e4, Option.bind_some, e5, Option.bind_some]
theorem fol_call {Fn : List Da → Option Wv} {a a' : MA} (ha : FolA G a a') : Fol G (mCall Fn a) (mCall Fn a') := by
  intro w g' eq
  obtain ⟨⟨wa, g1⟩, e1, eq⟩ := Option.bind_eq_some_iff.mp eq
  obtain ⟨rfl, e1'⟩ := ha _ _ e1
  obtain ⟨ds, e2, eq⟩ := Option.bind_eq_some_iff.mp eq
  obtain ⟨z, e5, eq⟩ := Option.bind_eq_some_iff.mp eq
  cases eq
  refine ⟨rfl, ?_⟩
  unfold mCall
  rw [e1', Option.bind_some]
  dsimp only
  rw [lookAll_nil e2, Option.bind_some, e5, Option.bind_some]
theorem fol_nil : FolA G mNil mNil := fun w g' h => by cases h; exact ⟨rfl, rfl⟩
theorem fol_cons {a a' : ME} {b b' : MA} (ha : Fol G a a') (hb : FolA G b b') : FolA G (mCons a b) (mCons a' b') := by
  intro w g' eq
  obtain ⟨⟨wa, g1⟩, e1, eq⟩ := Option.bind_eq_some_iff.mp eq
  obtain ⟨rfl, e1'⟩ := ha _ _ e1
  obtain ⟨⟨wb, g2⟩, e2, eq⟩ := Option.bind_eq_some_iff.mp eq
  obtain ⟨rfl, e2'⟩ := hb _ _ e2
  cases eq
  refine ⟨rfl, ?_⟩
  unfold mCons
  rw [e1', Option.bind_some]
  dsimp only
  rw [e2', Option.bind_some]
theorem fol_tup {a a' : MA} (ha : FolA G a a') : Fol G (mTup a) (mTup a') := by
  intro w g' eq
  obtain ⟨⟨wa, g1⟩, e1, eq⟩ := Option.bind_eq_some_iff.mp eq
  obtain ⟨rfl, e1'⟩ := ha _ _ e1
  obtain ⟨⟨ds, g2⟩, e2, eq⟩ := Option.bind_eq_some_iff.mp eq
  obtain ⟨rfl, e2'⟩ := toDs_nil (G := G) e2
  dsimp only at eq
  split at eq
  · rename_i hl
    cases eq
    refine ⟨rfl, ?_⟩
    unfold mTup
    rw [e1', Option.bind_some]
    dsimp only
    rw [e2', Option.bind_some]
    exact if_pos hl
  · cases eq
/-- what a clause `return e` tells, e's mirror at the field's value -/
def sresOf (f : Da → ME) : Da → Option Da := fun da => match f da [] with
  | some (.dat r, _) => some r
  | _ => none
theorem fol_ret {f : ME} {r : Da} {da : Da} {h : Da → ME} (k : Fol G f (h da)) (e : sresOf h da = some r) : ∃ gz, sRet [] f G = some (.rt (.dat r), gz) := by
  unfold sresOf at e
  split at e
  · rename_i r' g' he
    cases e
    obtain ⟨_, e2⟩ := k _ _ he
    refine ⟨G, ?_⟩
    unfold sRet
    rw [e2]
    rfl
  · cases e
theorem fol_xf {n i a dd : Nat} {f : Str} {da : Da} (hi : i < n) : Fol ((List.replicate n .un).set i (.x (.er a dd f da))) (mXf a (some dd) i f) (mC da) := fol_of (by
  unfold mXf
  rw [List.getElem?_set_self (by rw [List.length_replicate]; exact hi)]
  simp)
end
section
variable {F : Fam} {mg : Str → Option Value} {pr : List Nat} {W : WX} {B : Addr → Prop} {Hf H Hf' H' Hf1 H1 Hf2 H2 : Hp} {g g' g1 g2 : Gh} {σ σ' : L2.St} {K : Frag}
theorem mLam_nf {errs : List Str} {res : Er → Option Da} {fine : Da} {out : MXe} {nf : ME} : ∀ g w g', mLam errs res fine out nf g = some (w, g') → ∀ ds, w ≠ .fresh ds := by
  intro g w g' e ds z
  subst z
  unfold mLam at e
  split at e
  · split at e
    · obtain ⟨r, _, h⟩ := Option.map_eq_some_iff.mp e
      cases h
    · cases e
  · obtain ⟨r, _, h⟩ := Option.map_eq_some_iff.mp e
    cases h
/-! ### the maker -/
structure MakerAt (T : List (Addr × Str)) (base : Heap) (mg : Str → Option Value) (fd : FuncData) (q : Str) (P : Addr) : Prop where
  ex : ∃ c, fd.code = .ref c ∧ TabB base mg c P
  mem : (P, q) ∈ T
  uni : ∀ p ∈ T, p.1 = P → p.2 = q
theorem lam_at {Pr : Program} {w : World} {base : Heap} {N Ng : List Str} {qual : Str} {st stm : Stmt} {f g : Addr} {cdv : Value} {A : Around} {outer : List PySem.Env} {s : Shared} {H : Hp} {E : XK} {T : List (Addr × Str)} {k : Nat} {scope : Scope} {params : Arguments} {body : Expr} {x a : Str} {p lpos pos : Pos} {errs : List Str} {res : Er → Option Da} {fine : Da} {P : Addr} {fd fdg : FuncData}
    (M : MakerAt T base mg fd (qual ++ ".<locals>." ++ "<lambda>") P) (hc : fd.code = cdv) (U : Fun K x x stm g fdg) (hm : mg x = some (.ref g)) (hb : Binds K fdg [a] []) (Sg : FnScope Ng [a] (defScope stm)) (hNg : Ng[0]? = some a) (hva : Vis (defScope stm) a)
    (hG : ∀ cdg, GivesTo (cxOf CX0 Pr w K mg base N qual (defScope st) f cdv A outer s H E).nox Ng x (defScope stm) g cdg (defBody stm) a (qual ++ ".<locals>." ++ "<lambda>") (TTm mg K errs res fine))
    (hr : Room (k + 2) (A.deeper (envOfC qual (defScope st) s.heap.objs.size f cdv))) (L : lamSB (defScope st) scope = true) (hg : (defScope st).names.lookup x = some .globalImplicit)
    (hdef : params.defaults = [] ∧ params.kw_defaults = [])
    (hbind : ∀ (q : Str) (cl : List (Str × Addr)) (pm cv ctv : Value), bindArgs (PySem.W.kla_fn "<lambda>" q params body scope cl pm cv ctv) ⟨[], []⟩ = pure [])
    (hdb : (x == ("__debug__" : Str)) = false := by decide) (hd : (a == ("__debug__" : Str)) = false := by decide) (hcd : (a == ("__classdict__" : Str)) = false := by decide) :
    LamAt (Fam.one (cxOf CX0 Pr w K mg base N qual (defScope st) f cdv A outer s H E).nox) T k scope params body x p lpos pos mg errs res fine P (qual ++ ".<locals>." ++ "<lambda>") := by
  obtain ⟨oc, od, kV, doc, pm, an, cdg, ct, osl, rfl, lk, hcg⟩ := U.ex
  obtain ⟨c, e1, TB⟩ := M.ex
  refine ⟨M.mem, fun t ht i => ?_⟩
  refine pe_lamcallX (X := (cxOf CX0 Pr w K mg base N qual (defScope st) f cdv A outer s H E).nox) (k := k) hg hm U.kp lk hcg hb Sg hNg hva (hG cdg) TB (by rw [← e1, hc]; rfl) M.mem M.uni hr (lamS_by L) ?_ hbind (fun A' outer' s' H' E' f' c' hr' => ht () A' outer' s' H' E' f' c' hr') hdb hd hcd
  obtain ⟨h1, h2⟩ := hdef
  cases params
  dsimp only at h1 h2
  subst h1 h2
  rfl
end
/-! ### the end: each def of the text has its own table, empty at the start -/
def TabsAll (q : Program) (mg : Str → Option Value) (h : Heap) : Prop := ∀ d ∈ recsOf q, ∃ a o fd c P, mg d.name = some (.ref a) ∧ h.get? a = some o ∧ o.data = .func fd ∧ fd.code = .ref c ∧ h.IsCode c P #[] ∧ h.TableAt c P #[]
theorem TabsAll.own {q : Program} {mg : Str → Option Value} {h : Heap} {K : Frag} {x : Str} {f c P : Addr} {oc e : Value} {od dd : Option Addr} {fd : FuncData} {sl sl2 : Array (Option Value)} {vs : Array Value} (T : TabsAll q mg h) (KX : K.In h) (hrec : ((recsOf q).any fun e => e.name == x) = true) (hm : mg x = some (.ref f))
    (lk : K.lookup f = some ⟨oc, od, .func fd, sl⟩) (hc : fd.code = .ref c) (lc : K.lookup c = some ⟨e, dd, .fields vs, sl2⟩) (hv : vs[11]? = some (.ref P)) : h.get? P = some { cls := .none, data := .fields #[] } ∧ PySem.W.CodeHd h c P := by
  obtain ⟨dL, hmem, hn1⟩ := List.any_eq_true.mp hrec
  have hn2 : dL.name = x := beq_iff_eq.mp hn1
  obtain ⟨a', o', fd', c', P', h1, h2, h3, h4, h5, h6⟩ := T dL hmem
  rw [hn2, hm] at h1
  cases h1
  have g1 := KX _ _ lk
  rw [g1] at h2
  cases h2
  dsimp only at h3
  cases h3
  rw [hc] at h4
  cases h4
  have hd := PySem.W.CodeHd.of h5 h6
  obtain ⟨⟨o2, vc, e1, _, e3, e4⟩, hP⟩ := h6
  have g2 := KX _ _ lc
  rw [g2] at e1
  cases e1
  cases e3
  rw [hv] at e4
  cases e4
  exact ⟨hP, hd⟩
theorem walk_ofTGr {l : PySem.W.OpenLaw} {n k : Nat} {q : Program} {loose : List Str} {XP : (Str → Option Value) → Heap → Prop} {YP : World → Heap → Prop} {d : DefRec} {K : Params → Frag} {x : Str}
    (hn : l.most = some n) (hn2 : n ≤ sizeLine) (hdf : d.params.defaults = []) (hr : Room k callerA) (hY : ∀ (w : World) (h : Heap), YP w h → (K w.params).In h)
    (F : ∀ (w : World) (mg : Str → Option Value) (fa : Addr) (h : Heap), YP w h → (K w.params).In h → h.Ns mainGlobals mg → mg d.name = some (.ref fa) → TabsAll q mg h → LawG l w (K w.params) k n x mg fa h) :
    PySem.W.WalkO q loose XP YP l.row.toRowW d [] (fun f vs => PySem.call f vs) :=
  Att.attach_callB hn hdf fun w s₀ s₁ mg mb fa o pm cd doc a vs ns G0 Y ho hd hcd hmg hobj hints hlen hbits hg => by
    obtain ⟨fd, cs, sp, hT, nT, C, hb, hsp, hF⟩ := F w mg fa _ Y (hY w _ Y) G0.T.g hmg (fun d hd => G0.T.tab d hd)
    exact law_callTG (hY w _ Y) G0.T.g G0.T.b G0.T.builtins G0.T.nolimit hg hT nT C G0.T.bmain hobj hints (Nat.le_trans hlen hn2) hr hF hb fun H hH hS => hsp H a ns hlen hbits hH hS
/-- the law's promise at the start: the tables are empty -/
theorem law_spL {T : List (Addr × Str)} {K : Frag} {H : Hp} {m : MF} {a : Addr} {ns : List Int} {E : XK} (hS : SqL K H a (ns.map V.int)) (hT : ∀ p ∈ T, H p.1 = some (.tbl #[])) (h : ∃ g', m [.val (.list (ns.map PyData.int))] = some (.dat (.bool true), g')) : spL T K 1 [] m [.ref a] H (fun v _ => v = .bl true) E := by
  obtain ⟨g', e⟩ := h
  have ex : Evl.Ex (fun b => if b ∈ T.map (fun p => p.1) then none else H b) H := fun b o hb => by
    dsimp only at hb
    split at hb
    · cases hb
    · exact hb
  have hS' : SqL K (fun b => if b ∈ T.map (fun p => p.1) then none else H b) a (ns.map V.int) := by
    rcases hS with hS | hS
    · have na : a ∉ T.map (fun p => p.1) := fun m => by
        obtain ⟨p, hp, rfl⟩ := List.mem_map.mp m
        have z := hT p hp
        rcases hS with hS | ⟨o, hS⟩
        · rw [z] at hS; cases hS
        · rw [z] at hS; cases hS
      have e1 : (if a ∈ T.map (fun p => p.1) then none else H a) = H a := if_neg na
      rcases hS with hS | ⟨o, hS⟩
      · exact .inl (.inl (e1.trans hS))
      · exact .inl (.inr ⟨o, e1.trans hS⟩)
    · exact .inr hS
  refine ⟨rfl, _, [.val (.list (ns.map PyData.int))], _, g', ⟨ex, rfl, fun i s h _ => ?_, fun i j ds es p h1 => ?_, fun p h => h, fun i ds p h1 => ?_, fun i ds p h1 hp => by
    cases i with
    | zero => simp at h1; subst h1; cases hp
    | succ i => simp at h1⟩, ⟨fun p hp => TabS.nil (hT p hp), fun t ht => if_pos (List.mem_map.mpr ⟨t, ht, rfl⟩)⟩, fun i hi => absurd hi (by simp), e, fun v Hf' H' s w _ => ?_⟩
  · cases i with
    | zero => simp at h; subst h; exact ⟨_, rfl, .lst hS' (RepAll.of_ints ns)⟩
    | succ i => simp at h
  · cases i with
    | zero => simp at h1; subst h1; intro o; cases o
    | succ i => simp at h1
  · cases i with
    | zero => simp at h1; subst h1; intro o; cases o
    | succ i => simp at h1
  · have w' : Rep K Hf' v (.bool true) := w
    cases w'
    rfl
end EV
namespace EV
open PySem PySem.Spec PyProof.Rows L2 LamX
theorem un67 {k : Nat} {A : Around} (r : Room k A) : A.units + 3 + 64 < cLine := by have := r.un; omega
theorem flam_room {F : Fam} {scope : Scope} {k : Nat} {E : XK} (z : (Flam F scope k E).ι) : Room k ((Flam F scope k E).X z).A := z.2
end EV
end
section
set_option autoImplicit false
namespace K06
open PySem PySem.Spec PyProof.Rows L2 LamX EV
def top (i : Nat) : Stmt := PySem.Challenge.pw_evencoins_k06_errors_of_polys.main.body.getD i (.Pass ⟨0, 0, 0, 0⟩)
noncomputable def X_check_integer : MX := bodyX 0
    (xIf (mNot (mTru (mFn Lib.F_is_integer (mCons (mName 0) (mCons (mName 1) (mCons (mName 2) mNil)))))) (xRaiseF "InvalidNumber" "given" (mName 0)) xNil)
noncomputable def X_check_field : MX := bodyX 0
    (xIf (mNot (mTru (mFn Lib.F_is_field (mCons (mName 0) mNil)))) (xRaiseF "InvalidNumber" "given" (mName 0)) xNil)
noncomputable def X_check_number : MX := bodyX 0
    (xOf (xFn X_check_integer (mCons (mName 1) (mCons (mC (.int 0)) (mCons (mBin dSub (mName 0) (mC (.int 1))) mNil)))))
noncomputable def X_is_poly : MX := bodyX 0
    (xSeq (sDrop (mFn Lib.F_check_field (mCons (mName 0) mNil))) (xOf (xFn X_check_field (mCons (mName 0) mNil)))
    xNil)
noncomputable def X_check_poly : MX := bodyX 0
    (xIf (mNot (mTru (mFn Lib.F_is_poly (mCons (mName 0) (mCons (mName 1) mNil))))) (xRaise "InvalidPoly") xNil)
noncomputable def X_check_places : MX := bodyX 0
    (xIf (mOr (mNot (mTru (mFn Lib.F_are_unlike (mCons (mName 0) (mCons (mName 1) mNil))))) (mNot (mTru (mName 1)))) (xRaise "InvalidOperation") xNil)
noncomputable def X_check_hidden_places : MX := bodyX 0
    (xIf (mOr (mNot (mTru (mFn Lib.F_are_unlike (mCons (mName 0) (mCons (mName 1) mNil))))) (mCmp (dIn false) (mC (.int 0)) (mName 1))) (xRaise "InvalidOperation") xNil)
noncomputable def X_check_points : MX := bodyX 3
    (xSeq (sIf (mOr (mNot (mTru (mIsi "tuple" (mName 1)))) (mNot (mTru (mCall dAll (mCons (mComp [2] (mIt (mName 1)) (setN 2) mYes (mAndV (mFn Lib.F_are_numbers (mCons (mName 0) (mCons (mName 2) mNil))) (mBin dEq (mCall dLen (mCons (mName 2) mNil)) (mC (.int 2))))) mNil))))) sNo sNil) (xIf (mOr (mNot (mTru (mIsi "tuple" (mName 1)))) (mNot (mTru (mCall dAll (mCons (mComp [2] (mIt (mName 1)) (setN 2) mYes (mAndV (mFn Lib.F_are_numbers (mCons (mName 0) (mCons (mName 2) mNil))) (mBin dEq (mCall dLen (mCons (mName 2) mNil)) (mC (.int 2))))) mNil))))) (xRaise "InvalidOperation") xNil)
    (xSeq (sDrop (mFn Lib.F_check_places (mCons (mName 0) (mCons (mCall dTuple (mCons (mComp [3, 4] (mIt (mName 1)) (setT [3, 4]) mYes (mName 3)) mNil)) mNil)))) (xOf (xFn X_check_places (mCons (mName 0) (mCons (mCall dTuple (mCons (mComp [3, 4] (mIt (mName 1)) (setT [3, 4]) mYes (mName 3)) mNil)) mNil))))
    xNil))
noncomputable def X_poly_sum : MX := bodyX 0
    (xSeq (sDrop (mFn Lib.F_check_field (mCons (mName 0) mNil))) (xOf (xFn X_check_field (mCons (mName 0) mNil)))
    (xSeq (sDrop (mFn Lib.F_check_poly (mCons (mName 0) (mCons (mName 1) mNil)))) (xOf (xFn X_check_poly (mCons (mName 0) (mCons (mName 1) mNil))))
    (xSeq (sDrop (mFn Lib.F_check_poly (mCons (mName 0) (mCons (mName 2) mNil)))) (xOf (xFn X_check_poly (mCons (mName 0) (mCons (mName 2) mNil))))
    xNil)))
noncomputable def X_poly_scaled : MX := bodyX 0
    (xSeq (sDrop (mFn Lib.F_check_field (mCons (mName 0) mNil))) (xOf (xFn X_check_field (mCons (mName 0) mNil)))
    (xSeq (sDrop (mFn Lib.F_check_poly (mCons (mName 0) (mCons (mName 1) mNil)))) (xOf (xFn X_check_poly (mCons (mName 0) (mCons (mName 1) mNil))))
    (xSeq (sDrop (mFn Lib.F_check_number (mCons (mName 0) (mCons (mName 2) mNil)))) (xOf (xFn X_check_number (mCons (mName 0) (mCons (mName 2) mNil))))
    xNil)))
noncomputable def X_poly_product : MX := bodyX 0
    (xSeq (sDrop (mFn Lib.F_check_field (mCons (mName 0) mNil))) (xOf (xFn X_check_field (mCons (mName 0) mNil)))
    (xSeq (sDrop (mFn Lib.F_check_poly (mCons (mName 0) (mCons (mName 1) mNil)))) (xOf (xFn X_check_poly (mCons (mName 0) (mCons (mName 1) mNil))))
    (xSeq (sDrop (mFn Lib.F_check_poly (mCons (mName 0) (mCons (mName 2) mNil)))) (xOf (xFn X_check_poly (mCons (mName 0) (mCons (mName 2) mNil))))
    (xSeq (sIf (mCmp dGt (mBin dSub (mBin dAdd (mCall dLen (mCons (mName 1) mNil)) (mCall dLen (mCons (mName 2) mNil))) (mC (.int 2))) (mC (.int 60))) sNo sNil) (xIf (mCmp dGt (mBin dSub (mBin dAdd (mCall dLen (mCons (mName 1) mNil)) (mCall dLen (mCons (mName 2) mNil))) (mC (.int 2))) (mC (.int 60))) (xRaiseF "TooMany" "limit" (mC (.int 60))) xNil)
    xNil))))
noncomputable def X_poly_divided : MX := bodyX 6
    (xSeq (sDrop (mFn Lib.F_check_field (mCons (mName 0) mNil))) (xOf (xFn X_check_field (mCons (mName 0) mNil)))
    (xSeq (sDrop (mFn Lib.F_check_poly (mCons (mName 0) (mCons (mName 1) mNil)))) (xOf (xFn X_check_poly (mCons (mName 0) (mCons (mName 1) mNil))))
    (xSeq (sDrop (mFn Lib.F_check_poly (mCons (mName 0) (mCons (mName 2) mNil)))) (xOf (xFn X_check_poly (mCons (mName 0) (mCons (mName 2) mNil))))
    (xSeq (sIf (mCmp dEq (mName 2) (mTup mNil)) sNo sNil) (xIf (mCmp dEq (mName 2) (mTup mNil)) (xRaiseF "Refused" "reason" (mTup (mCons (mC (.str "zero")) mNil))) xNil)
    xNil))))
noncomputable def X_value_at : MX := bodyX 0
    (xSeq (sDrop (mFn Lib.F_check_field (mCons (mName 0) mNil))) (xOf (xFn X_check_field (mCons (mName 0) mNil)))
    (xSeq (sDrop (mFn Lib.F_check_poly (mCons (mName 0) (mCons (mName 1) mNil)))) (xOf (xFn X_check_poly (mCons (mName 0) (mCons (mName 1) mNil))))
    (xSeq (sDrop (mFn Lib.F_check_number (mCons (mName 0) (mCons (mName 2) mNil)))) (xOf (xFn X_check_number (mCons (mName 0) (mCons (mName 2) mNil))))
    xNil)))
noncomputable def X_values_at : MX := bodyX 1
    (xSeq (sDrop (mFn Lib.F_check_field (mCons (mName 0) mNil))) (xOf (xFn X_check_field (mCons (mName 0) mNil)))
    (xSeq (sDrop (mFn Lib.F_check_poly (mCons (mName 0) (mCons (mName 1) mNil)))) (xOf (xFn X_check_poly (mCons (mName 0) (mCons (mName 1) mNil))))
    (xSeq (sDrop (mFn Lib.F_check_places (mCons (mName 0) (mCons (mName 2) mNil)))) (xOf (xFn X_check_places (mCons (mName 0) (mCons (mName 2) mNil))))
    xNil)))
noncomputable def X_through : MX := bodyX 2
    (xSeq (sDrop (mFn Lib.F_check_field (mCons (mName 0) mNil))) (xOf (xFn X_check_field (mCons (mName 0) mNil)))
    (xSeq (sDrop (mFn Lib.F_check_points (mCons (mName 0) (mCons (mName 1) mNil)))) (xOf (xFn X_check_points (mCons (mName 0) (mCons (mName 1) mNil))))
    xNil))
noncomputable def X_weights : MX := bodyX 4
    (xSeq (sDrop (mFn Lib.F_check_field (mCons (mName 0) mNil))) (xOf (xFn X_check_field (mCons (mName 0) mNil)))
    (xSeq (sDrop (mFn Lib.F_check_places (mCons (mName 0) (mCons (mName 1) mNil)))) (xOf (xFn X_check_places (mCons (mName 0) (mCons (mName 1) mNil))))
    (xSeq (sDrop (mFn Lib.F_check_number (mCons (mName 0) (mCons (mName 2) mNil)))) (xOf (xFn X_check_number (mCons (mName 0) (mCons (mName 2) mNil))))
    xNil)))
noncomputable def X_checks : MX := bodyX 0
    (xSeq (sDrop (mFn Lib.F_check_field (mCons (mName 0) mNil))) (xOf (xFn X_check_field (mCons (mName 0) mNil)))
    (xSeq (sDrop (mFn Lib.F_check_places (mCons (mName 0) (mCons (mName 1) mNil)))) (xOf (xFn X_check_places (mCons (mName 0) (mCons (mName 1) mNil))))
    (xSeq (sDrop (mFn Lib.F_check_integer (mCons (mName 2) (mCons (mNeg (mC (.int 1))) (mCons (mC (.int 60)) mNil))))) (xOf (xFn X_check_integer (mCons (mName 2) (mCons (mNeg (mC (.int 1))) (mCons (mC (.int 60)) mNil)))))
    xNil)))
noncomputable def X_hiding : MX := bodyX 0
    (xSeq (sDrop (mFn Lib.F_check_field (mCons (mName 0) mNil))) (xOf (xFn X_check_field (mCons (mName 0) mNil)))
    (xSeq (sDrop (mFn Lib.F_check_hidden_places (mCons (mName 0) (mCons (mName 1) mNil)))) (xOf (xFn X_check_hidden_places (mCons (mName 0) (mCons (mName 1) mNil))))
    xNil))
noncomputable def X_hidden : MX := bodyX 1
    (xSeq (sDrop (mFn Lib.F_check_field (mCons (mName 0) mNil))) (xOf (xFn X_check_field (mCons (mName 0) mNil)))
    (xSeq (sDrop (mFn Lib.F_check_poly (mCons (mName 0) (mCons (mName 1) mNil)))) (xOf (xFn X_check_poly (mCons (mName 0) (mCons (mName 1) mNil))))
    (xSeq (sDrop (mFn Lib.F_check_hidden_places (mCons (mName 0) (mCons (mName 2) mNil)))) (xOf (xFn X_check_hidden_places (mCons (mName 0) (mCons (mName 2) mNil))))
    (xSeq (sDrop (mFn Lib.F_check_number (mCons (mName 0) (mCons (mName 3) mNil)))) (xOf (xFn X_check_number (mCons (mName 0) (mCons (mName 3) mNil))))
    xNil))))
noncomputable def errs__law_met : List Str := ["InvalidPoly", "InvalidOperation", "InvalidNumber", "TooMany", "Refused"]
noncomputable def fine__law_met : Da := (.tuple [(.str "fine")])
noncomputable def res__law_met : Er → Option Da := (fun er => if er.1 = ("InvalidPoly" : Str) then some (.tuple [(.str "refused"), (.str "poly")]) else (fun er => if er.1 = ("InvalidOperation" : Str) then some (.tuple [(.str "refused"), (.str "operation")]) else (fun er => if er.1 = ("InvalidNumber" : Str) then (match er.2 with | some (f', da) => if f' = ("given" : Str) then sresOf (fun da => (mTup (mCons (mC (.str "refused")) (mCons (mBin dAdd (mC (.str "number ")) (mCall dReprN (mCons (mC da) mNil))) mNil)))) da else none | none => none) else (fun er => if er.1 = ("Refused" : Str) then (match er.2 with | some (f', da) => if f' = ("reason" : Str) then sresOf (fun da => (mTup (mCons (mC (.str "refused")) (mCons (mCall dReprN (mCons (mC da) mNil)) mNil)))) da else none | none => none) else (fun er => if er.1 = ("TooMany" : Str) then (match er.2 with | some (f', da) => if f' = ("limit" : Str) then sresOf (fun da => (mTup (mCons (mC (.str "refused")) (mCons (mBin dAdd (mC (.str "many ")) (mCall dReprN (mCons (mC da) mNil))) mNil)))) da else none | none => none) else (fun _ => none) er) er) er) er) er)
noncomputable def m__law_polys_right : MS :=
    (sSeq (sPar [4, 5] (mCons (mTup (mCons (mC (.int 1)) (mCons (mC (.int 2)) mNil))) (mCons (mBin dAdd (mC (.str "number ")) (mCall dReprN (mCons (mName 3) mNil))) mNil)))
    (sSeq (sSet 6 (mLst1 (mLam errs__law_met res__law_met fine__law_met (xFn X_poly_sum (mCons (mName 1) (mCons (mName 2) (mCons (mName 2) mNil)))) (mFn Lib.F_poly_sum (mCons (mName 1) (mCons (mName 2) (mCons (mName 2) mNil)))))))
    (sSeq (sApp 6 (mLam errs__law_met res__law_met fine__law_met (xFn X_poly_sum (mCons (mC (.int 7)) (mCons (mName 2) (mCons (mName 4) mNil)))) (mFn Lib.F_poly_sum (mCons (mC (.int 7)) (mCons (mName 2) (mCons (mName 4) mNil))))))
    (sSeq (sApp 6 (mLam errs__law_met res__law_met fine__law_met (xFn X_poly_sum (mCons (mC (.int 7)) (mCons (mName 4) (mCons (mName 2) mNil)))) (mFn Lib.F_poly_sum (mCons (mC (.int 7)) (mCons (mName 4) (mCons (mName 2) mNil))))))
    (sSeq (sApp 6 (mLam errs__law_met res__law_met fine__law_met (xFn X_poly_scaled (mCons (mC (.int 7)) (mCons (mName 2) (mCons (mName 3) mNil)))) (mFn Lib.F_poly_scaled (mCons (mC (.int 7)) (mCons (mName 2) (mCons (mName 3) mNil))))))
    (sSeq (sApp 6 (mLam errs__law_met res__law_met fine__law_met (xFn X_poly_scaled (mCons (mC (.int 7)) (mCons (mName 4) (mCons (mName 3) mNil)))) (mFn Lib.F_poly_scaled (mCons (mC (.int 7)) (mCons (mName 4) (mCons (mName 3) mNil))))))
    (sSeq (sApp 6 (mLam errs__law_met res__law_met fine__law_met (xFn X_poly_product (mCons (mC (.int 7)) (mCons (mName 4) (mCons (mName 2) mNil)))) (mFn Lib.F_poly_product (mCons (mC (.int 7)) (mCons (mName 4) (mCons (mName 2) mNil))))))
    (sSeq (sApp 6 (mLam errs__law_met res__law_met fine__law_met (xFn X_poly_divided (mCons (mC (.int 7)) (mCons (mName 2) (mCons (mTup mNil) mNil)))) (mFn Lib.F_poly_divided (mCons (mC (.int 7)) (mCons (mName 2) (mCons (mTup mNil) mNil))))))
    (sSeq (sApp 6 (mLam errs__law_met res__law_met fine__law_met (xFn X_poly_divided (mCons (mC (.int 7)) (mCons (mName 4) (mCons (mTup mNil) mNil)))) (mFn Lib.F_poly_divided (mCons (mC (.int 7)) (mCons (mName 4) (mCons (mTup mNil) mNil))))))
    (sSeq (sApp 6 (mLam errs__law_met res__law_met fine__law_met (xFn X_value_at (mCons (mC (.int 7)) (mCons (mName 2) (mCons (mName 3) mNil)))) (mFn Lib.F_value_at (mCons (mC (.int 7)) (mCons (mName 2) (mCons (mName 3) mNil))))))
    (sSeq (sApp 6 (mLam errs__law_met res__law_met fine__law_met (xFn X_value_at (mCons (mC (.int 7)) (mCons (mName 4) (mCons (mName 3) mNil)))) (mFn Lib.F_value_at (mCons (mC (.int 7)) (mCons (mName 4) (mCons (mName 3) mNil))))))
    (sSeq (sApp 6 (mLam errs__law_met res__law_met fine__law_met (xFn X_is_poly (mCons (mName 1) (mCons (mName 2) mNil))) (mFn Lib.F_is_poly (mCons (mName 1) (mCons (mName 2) mNil)))))
    (sSeq (sSet 7 (mLst (mCons (mBin dAdd (mC (.str "number ")) (mCall dReprN (mCons (mName 1) mNil))) (mCons (mC (.str "poly")) (mCons (mC (.str "poly")) (mCons (mC (.str "poly")) (mCons (mName 5) (mCons (mC (.str "poly")) (mCons (mC (.str "poly")) (mCons (mC (.str "('zero',)")) (mCons (mC (.str "poly")) (mCons (mName 5) (mCons (mBin dAdd (mC (.str "number ")) (mCall dReprN (mCons (mName 1) mNil))) mNil)))))))))))))
    (sRet [0] (mAndV (mBin dEq (mName 6) (mComp [8] (mIt (mName 7)) (setN 8) mYes (mTup (mCons (mC (.str "refused")) (mCons (mName 8) mNil))))) (mBin (dIs false) (mFn Lib.F_is_poly (mCons (mC (.int 7)) (mCons (mName 2) mNil))) (mC (.bool false))))))))))))))))))
noncomputable def F__law_polys_right : MF := bodyM [0] 5 m__law_polys_right
noncomputable def m__law_places_right : MS :=
    (sSeq (sSet 4 (mFnD Lib.F__law_pick (mCons (mName 0) (mCons (mLst (mCons (mC .none) (mCons (mTup mNil) (mCons (mTup (mCons (mC (.int 1)) (mCons (mC (.int 1)) mNil))) (mCons (mTup (mCons (mC (.int 7)) mNil)) (mCons (mTup (mCons (mNeg (mC (.int 1))) mNil)) (mCons (mTup (mCons (mC (.bool true)) mNil)) (mCons (mLst (mCons (mC (.int 1)) (mCons (mC (.int 2)) mNil))) (mCons (mC (.int 3)) (mCons (mC (.str "12")) (mCons (mTup (mCons (mC (.int 1)) (mCons (mC (.int 2)) (mCons (mC (.int 1)) mNil)))) (mCons (mTup (mCons (mTup (mCons (mC (.int 1)) mNil)) mNil)) (mCons (mTup (mCons (mC (.int 0)) (mCons (mC (.int 1)) (mCons (mC (.int 2)) (mCons (mC (.int 3)) (mCons (mC (.int 4)) (mCons (mC (.int 5)) (mCons (mC (.int 6)) (mCons (mC (.int 0)) mNil))))))))) mNil))))))))))))) mNil))))
    (sSeq (sSet 5 (mFnD Lib.F__law_pick (mCons (mName 0) (mCons (mLst (mCons (mC .none) (mCons (mTup (mCons (mC (.int 0)) mNil)) (mCons (mTup (mCons (mC (.int 1)) (mCons (mC (.int 0)) mNil))) (mCons (mTup (mCons (mC (.int 2)) (mCons (mC (.int 2)) mNil))) (mCons (mTup (mCons (mC (.int 7)) mNil)) (mCons (mTup (mCons (mC (.bool true)) mNil)) (mCons (mLst (mCons (mC (.int 1)) mNil)) (mCons (mC (.int 1)) (mCons (mC (.str "1")) (mCons (mTup (mCons (mC (.int 1)) (mCons (mC .none) mNil))) mNil))))))))))) mNil))))
    (sSeq (sSet 6 (mFnD Lib.F__law_pick (mCons (mName 0) (mCons (mLst (mCons (mC .none) (mCons (mTup mNil) (mCons (mTup (mCons (mTup (mCons (mC (.int 1)) (mCons (mC (.int 2)) mNil))) (mCons (mTup (mCons (mC (.int 1)) (mCons (mC (.int 3)) mNil))) mNil))) (mCons (mTup (mCons (mTup (mCons (mC (.int 1)) mNil)) mNil)) (mCons (mTup (mCons (mTup (mCons (mC (.int 1)) (mCons (mC (.int 2)) (mCons (mC (.int 3)) mNil)))) mNil)) (mCons (mTup (mCons (mTup (mCons (mC (.int 1)) (mCons (mC (.int 7)) mNil))) mNil)) (mCons (mTup (mCons (mTup (mCons (mC (.int 7)) (mCons (mC (.int 1)) mNil))) mNil)) (mCons (mLst (mCons (mTup (mCons (mC (.int 1)) (mCons (mC (.int 2)) mNil))) mNil)) (mCons (mTup (mCons (mLst (mCons (mC (.int 1)) (mCons (mC (.int 2)) mNil))) mNil)) (mCons (mTup (mCons (mTup (mCons (mC (.int 1)) (mCons (mC (.bool true)) mNil))) mNil)) (mCons (mC (.int 5)) (mCons (mTup (mCons (mC (.int 1)) (mCons (mC (.int 2)) mNil))) mNil))))))))))))) mNil))))
    (sSeq (sSet 7 (mFnD Lib.F__law_pick (mCons (mName 0) (mCons (mLst (mCons (mC .none) (mCons (mNeg (mC (.int 2))) (mCons (mC (.int 61)) (mCons (mC (.bool true)) (mCons (mC (.str "1")) (mCons (mBin dPow (mC (.int 10)) (mC (.int 60))) (mCons (mTup (mCons (mC (.int 1)) mNil)) mNil)))))))) mNil))))
    (sSeq (sPar [8, 9] (mCons (mBin dAdd (mC (.str "number ")) (mCall dReprN (mCons (mName 3) mNil))) (mCons (mBin dAdd (mC (.str "number ")) (mCall dReprN (mCons (mName 7) mNil))) mNil)))
    (sSeq (sSet 10 (mLst1 (mLam errs__law_met res__law_met fine__law_met (xFn X_values_at (mCons (mC (.int 7)) (mCons (mName 2) (mCons (mName 4) mNil)))) (mFn Lib.F_values_at (mCons (mC (.int 7)) (mCons (mName 2) (mCons (mName 4) mNil)))))))
    (sSeq (sApp 10 (mLam errs__law_met res__law_met fine__law_met (xFn X_values_at (mCons (mC (.int 7)) (mCons (mTup (mCons (mC (.int 1)) mNil)) (mCons (mName 4) mNil)))) (mFn Lib.F_values_at (mCons (mC (.int 7)) (mCons (mTup (mCons (mC (.int 1)) mNil)) (mCons (mName 4) mNil))))))
    (sSeq (sApp 10 (mLam errs__law_met res__law_met fine__law_met (xFn X_through (mCons (mName 1) (mCons (mName 6) mNil))) (mFn Lib.F_through (mCons (mName 1) (mCons (mName 6) mNil)))))
    (sSeq (sApp 10 (mLam errs__law_met res__law_met fine__law_met (xFn X_through (mCons (mC (.int 7)) (mCons (mName 6) mNil))) (mFn Lib.F_through (mCons (mC (.int 7)) (mCons (mName 6) mNil)))))
    (sSeq (sApp 10 (mLam errs__law_met res__law_met fine__law_met (xFn X_weights (mCons (mC (.int 7)) (mCons (mName 4) (mCons (mName 3) mNil)))) (mFn Lib.F_weights (mCons (mC (.int 7)) (mCons (mName 4) (mCons (mName 3) mNil))))))
    (sSeq (sApp 10 (mLam errs__law_met res__law_met fine__law_met (xFn X_weights (mCons (mC (.int 7)) (mCons (mTup (mCons (mC (.int 1)) (mCons (mC (.int 2)) mNil))) (mCons (mName 3) mNil)))) (mFn Lib.F_weights (mCons (mC (.int 7)) (mCons (mTup (mCons (mC (.int 1)) (mCons (mC (.int 2)) mNil))) (mCons (mName 3) mNil))))))
    (sSeq (sApp 10 (mLam errs__law_met res__law_met fine__law_met (xFn X_checks (mCons (mC (.int 7)) (mCons (mName 4) (mCons (mName 7) mNil)))) (mFn Lib.F_checks (mCons (mC (.int 7)) (mCons (mName 4) (mCons (mName 7) mNil))))))
    (sSeq (sApp 10 (mLam errs__law_met res__law_met fine__law_met (xFn X_checks (mCons (mC (.int 7)) (mCons (mTup (mCons (mC (.int 1)) (mCons (mC (.int 2)) mNil))) (mCons (mName 7) mNil)))) (mFn Lib.F_checks (mCons (mC (.int 7)) (mCons (mTup (mCons (mC (.int 1)) (mCons (mC (.int 2)) mNil))) (mCons (mName 7) mNil))))))
    (sSeq (sApp 10 (mLam errs__law_met res__law_met fine__law_met (xFn X_hiding (mCons (mName 1) (mCons (mName 5) mNil))) (mFn Lib.F_hiding (mCons (mName 1) (mCons (mName 5) mNil)))))
    (sSeq (sApp 10 (mLam errs__law_met res__law_met fine__law_met (xFn X_hiding (mCons (mC (.int 7)) (mCons (mName 5) mNil))) (mFn Lib.F_hiding (mCons (mC (.int 7)) (mCons (mName 5) mNil)))))
    (sSeq (sApp 10 (mLam errs__law_met res__law_met fine__law_met (xFn X_hidden (mCons (mC (.int 7)) (mCons (mName 2) (mCons (mName 5) (mCons (mName 3) mNil))))) (mFn Lib.F_hidden (mCons (mC (.int 7)) (mCons (mName 2) (mCons (mName 5) (mCons (mName 3) mNil)))))))
    (sSeq (sApp 10 (mLam errs__law_met res__law_met fine__law_met (xFn X_hidden (mCons (mC (.int 7)) (mCons (mTup (mCons (mC (.int 1)) mNil)) (mCons (mName 5) (mCons (mName 3) mNil))))) (mFn Lib.F_hidden (mCons (mC (.int 7)) (mCons (mTup (mCons (mC (.int 1)) mNil)) (mCons (mName 5) (mCons (mName 3) mNil)))))))
    (sSeq (sApp 10 (mLam errs__law_met res__law_met fine__law_met (xFn X_hidden (mCons (mC (.int 7)) (mCons (mTup (mCons (mC (.int 1)) mNil)) (mCons (mTup (mCons (mC (.int 2)) (mCons (mC (.int 3)) mNil))) (mCons (mName 3) mNil))))) (mFn Lib.F_hidden (mCons (mC (.int 7)) (mCons (mTup (mCons (mC (.int 1)) mNil)) (mCons (mTup (mCons (mC (.int 2)) (mCons (mC (.int 3)) mNil))) (mCons (mName 3) mNil)))))))
    (sSeq (sSet 11 (mLst (mCons (mC (.str "poly")) (mCons (mC (.str "operation")) (mCons (mBin dAdd (mC (.str "number ")) (mCall dReprN (mCons (mName 1) mNil))) (mCons (mC (.str "operation")) (mCons (mC (.str "operation")) (mCons (mName 8) (mCons (mC (.str "operation")) (mCons (mName 9) (mCons (mBin dAdd (mC (.str "number ")) (mCall dReprN (mCons (mName 1) mNil))) mNil)))))))))))
    (sRet [0] (mBin dEq (mName 10) (mComp [12] (mIt (mBin dAddM (mName 11) (mLst (mCons (mC (.str "operation")) (mCons (mC (.str "poly")) (mCons (mC (.str "operation")) (mCons (mName 8) mNil))))))) (setN 12) mYes (mTup (mCons (mC (.str "refused")) (mCons (mName 12) mNil)))))))))))))))))))))))))
noncomputable def F__law_places_right : MF := bodyM [0] 9 m__law_places_right
noncomputable def m__law_right : MS :=
    (sSeq (sSet 1 (mFnD Lib.F__law_pick (mCons (mName 0) (mCons (mLst (mCons (mC .none) (mCons (mC (.int 3)) (mCons (mC (.int 4)) (mCons (mC (.int 9)) (mCons (mC (.int 1009)) (mCons (mNeg (mC (.int 7))) (mCons (mC (.bool true)) (mCons (mC (.str "7")) (mCons (mTup (mCons (mC (.int 7)) mNil)) (mCons (mC (.int 0)) (mCons (mBin dAdd (mBin dPow (mC (.int 10)) (mC (.int 60))) (mC (.int 7))) (mCons (mC (.int 1)) (mCons (mC (.int 2)) mNil)))))))))))))) mNil))))
    (sSeq (sSet 2 (mFnD Lib.F__law_pick (mCons (mName 0) (mCons (mLst (mCons (mC .none) (mCons (mC (.int 3)) (mCons (mTup (mCons (mC (.int 0)) mNil)) (mCons (mTup (mCons (mC (.int 1)) (mCons (mC (.int 0)) mNil))) (mCons (mTup (mCons (mC (.int 7)) mNil)) (mCons (mTup (mCons (mNeg (mC (.int 1))) (mCons (mC (.int 1)) mNil))) (mCons (mTup (mCons (mC (.bool true)) mNil)) (mCons (mLst (mCons (mC (.int 1)) mNil)) (mCons (mC (.str "1")) (mCons (mTup (mCons (mC (.int 1)) (mCons (mC .none) mNil))) (mCons (mBin dMulT (mTup (mCons (mC (.int 1)) mNil)) (mC (.int 62))) (mCons (mTup (mCons (mTup (mCons (mC (.int 1)) mNil)) mNil)) (mCons mDict0 mNil)))))))))))))) mNil))))
    (sSeq (sSet 3 (mFnD Lib.F__law_pick (mCons (mName 0) (mCons (mLst (mCons (mC .none) (mCons (mC (.int 7)) (mCons (mNeg (mC (.int 1))) (mCons (mC (.bool true)) (mCons (mC (.str "0")) (mCons (mBin dPow (mC (.int 10)) (mC (.int 60))) (mCons (mTup (mCons (mC (.int 1)) mNil)) (mCons (mC (.int 997)) mNil))))))))) mNil))))
    (sRetL (mAndV (mFnD F__law_polys_right (mCons (mName 0) (mCons (mName 1) (mCons (mName 2) (mCons (mName 3) mNil))))) (mFnD F__law_places_right (mCons (mName 0) (mCons (mName 1) (mCons (mName 2) (mCons (mName 3) mNil))))))))))
noncomputable def F__law_right : MF := bodyM [0] 3 m__law_right
noncomputable def m_law : MS :=
    (sSeq (sFor (mRg1 (mCons (mCall dMax (mCons (mC (.int 1)) (mCons (mCall dMin (mCons (mC (.int 4)) (mCons (mCall dLen (mCons (mName 0) mNil)) mNil))) mNil))) mNil)) (setN 1) (sSeq (sSet 2 (mFn Lib.F__law_dice (mCons (mName 0) (mCons (mName 1) mNil))))
    (sIf (mOr (mNot (mTru (mFnD F__law_right (mCons (mName 2) mNil)))) (mNot (mTru (mFnD F__law_right (mCons (mName 2) mNil))))) (sRet [] (mC (.bool false))) sNil)))
    (sSeq (sPar [3, 4] (mCons (mBin dMulT (mTup (mCons (mC (.int 1)) mNil)) (mC (.int 61))) (mCons (mCall dTuple (mCons (mComp [7] (mRg1 (mCons (mC (.int 60)) mNil)) (setN 7) mYes (mBin dAdd (mName 7) (mC (.int 1)))) mNil)) mNil)))
    (sSeq (sSet 5 (mLst1 (mLam errs__law_met res__law_met fine__law_met (xFn X_poly_product (mCons (mC (.int 5)) (mCons (mName 3) (mCons (mTup (mCons (mC (.int 0)) (mCons (mC (.int 1)) mNil))) mNil)))) (mFn Lib.F_poly_product (mCons (mC (.int 5)) (mCons (mName 3) (mCons (mTup (mCons (mC (.int 0)) (mCons (mC (.int 1)) mNil))) mNil)))))))
    (sSeq (sApp 5 (mLam errs__law_met res__law_met fine__law_met (xFn X_poly_product (mCons (mC (.int 5)) (mCons (mName 3) (mCons (mTup (mCons (mC (.int 2)) mNil)) mNil)))) (mFn Lib.F_poly_product (mCons (mC (.int 5)) (mCons (mName 3) (mCons (mTup (mCons (mC (.int 2)) mNil)) mNil))))))
    (sSeq (sApp 5 (mLam errs__law_met res__law_met fine__law_met (xFn X_poly_product (mCons (mC (.int 5)) (mCons (mName 3) (mCons (mTup mNil) mNil)))) (mFn Lib.F_poly_product (mCons (mC (.int 5)) (mCons (mName 3) (mCons (mTup mNil) mNil))))))
    (sSeq (sApp 5 (mLam errs__law_met res__law_met fine__law_met (xFn X_hiding (mCons (mC (.int 61)) (mCons (mName 4) mNil))) (mFn Lib.F_hiding (mCons (mC (.int 61)) (mCons (mName 4) mNil)))))
    (sSeq (sApp 5 (mLam errs__law_met res__law_met fine__law_met (xFn X_hiding (mCons (mC (.int 67)) (mCons (mBin dAdd (mName 4) (mTup (mCons (mC (.int 61)) mNil))) mNil))) (mFn Lib.F_hiding (mCons (mC (.int 67)) (mCons (mBin dAdd (mName 4) (mTup (mCons (mC (.int 61)) mNil))) mNil)))))
    (sSeq (sApp 5 (mLam errs__law_met res__law_met fine__law_met (xFn X_checks (mCons (mC (.int 61)) (mCons (mName 4) (mCons (mC (.int 60)) mNil)))) (mFn Lib.F_checks (mCons (mC (.int 61)) (mCons (mName 4) (mCons (mC (.int 60)) mNil))))))
    (sSeq (sApp 5 (mLam errs__law_met res__law_met fine__law_met (xFn X_weights (mCons (mC (.int 67)) (mCons (mBin dAdd (mTup (mCons (mC (.int 0)) mNil)) (mName 4)) (mCons (mC (.int 0)) mNil)))) (mFn Lib.F_weights (mCons (mC (.int 67)) (mCons (mBin dAdd (mTup (mCons (mC (.int 0)) mNil)) (mName 4)) (mCons (mC (.int 0)) mNil))))))
    (sSeq (sSet 6 (mLst (mCons (mTup (mCons (mC (.str "refused")) (mCons (mC (.str "many 60")) mNil))) (mCons (mTup (mCons (mC (.str "fine")) mNil)) (mCons (mTup (mCons (mC (.str "fine")) mNil)) (mCons (mTup (mCons (mC (.str "fine")) mNil)) (mCons (mTup (mCons (mC (.str "refused")) (mCons (mC (.str "operation")) mNil))) (mCons (mTup (mCons (mC (.str "fine")) mNil)) (mCons (mTup (mCons (mC (.str "refused")) (mCons (mC (.str "operation")) mNil))) mNil)))))))))
    (sRet [] (mBin dEq (mName 5) (mName 6)))))))))))))
noncomputable def F_law : MF := bodyM [] 7 m_law
/-! ### the text -/
abbrev s_is_integer : Stmt := top 12
abbrev N_is_integer : List Str := ["value", "least", "most"]
theorem sc_is_integer : FnScope N_is_integer ["value", "least", "most"] (defScope s_is_integer) := ⟨rfl, rfl, rfl, by decide +kernel, rfl, by decide +kernel, by decide +kernel⟩
abbrev s_is_field : Stmt := top 13
abbrev N_is_field : List Str := ["value", "prime"]
theorem sc_is_field : FnScope N_is_field ["value"] (defScope s_is_field) := ⟨rfl, rfl, rfl, by decide +kernel, rfl, by decide +kernel, by decide +kernel⟩
abbrev s_are_numbers : Stmt := top 14
abbrev N_are_numbers : List Str := ["field", "value", "x"]
theorem sc_are_numbers : FnScope N_are_numbers ["field", "value"] (defScope s_are_numbers) := ⟨rfl, rfl, rfl, by decide +kernel, rfl, by decide +kernel, by decide +kernel⟩
abbrev s_check_integer : Stmt := top 15
abbrev N_check_integer : List Str := ["value", "least", "most"]
theorem sc_check_integer : FnScope N_check_integer ["value", "least", "most"] (defScope s_check_integer) := ⟨rfl, rfl, rfl, by decide +kernel, rfl, by decide +kernel, by decide +kernel⟩
abbrev s_check_field : Stmt := top 16
abbrev N_check_field : List Str := ["field"]
theorem sc_check_field : FnScope N_check_field ["field"] (defScope s_check_field) := ⟨rfl, rfl, rfl, by decide +kernel, rfl, by decide +kernel, by decide +kernel⟩
abbrev s_check_number : Stmt := top 17
abbrev N_check_number : List Str := ["field", "number"]
theorem sc_check_number : FnScope N_check_number ["field", "number"] (defScope s_check_number) := ⟨rfl, rfl, rfl, by decide +kernel, rfl, by decide +kernel, by decide +kernel⟩
abbrev s_raised : Stmt := top 18
abbrev N_raised : List Str := ["field", "number", "many", "result", "square", "left"]
theorem sc_raised : FnScope N_raised ["field", "number", "many"] (defScope s_raised) := ⟨rfl, rfl, rfl, by decide +kernel, rfl, by decide +kernel, by decide +kernel⟩
abbrev s_inverse : Stmt := top 19
abbrev N_inverse : List Str := ["field", "number"]
theorem sc_inverse : FnScope N_inverse ["field", "number"] (defScope s_inverse) := ⟨rfl, rfl, rfl, by decide +kernel, rfl, by decide +kernel, by decide +kernel⟩
abbrev s_is_poly : Stmt := top 22
abbrev N_is_poly : List Str := ["field", "value"]
theorem sc_is_poly : FnScope N_is_poly ["field", "value"] (defScope s_is_poly) := ⟨rfl, rfl, rfl, by decide +kernel, rfl, by decide +kernel, by decide +kernel⟩
abbrev s_are_unlike : Stmt := top 23
abbrev N_are_unlike : List Str := ["field", "value"]
theorem sc_are_unlike : FnScope N_are_unlike ["field", "value"] (defScope s_are_unlike) := ⟨rfl, rfl, rfl, by decide +kernel, rfl, by decide +kernel, by decide +kernel⟩
abbrev s_check_poly : Stmt := top 24
abbrev N_check_poly : List Str := ["field", "poly"]
theorem sc_check_poly : FnScope N_check_poly ["field", "poly"] (defScope s_check_poly) := ⟨rfl, rfl, rfl, by decide +kernel, rfl, by decide +kernel, by decide +kernel⟩
abbrev s_check_places : Stmt := top 25
abbrev N_check_places : List Str := ["field", "places"]
theorem sc_check_places : FnScope N_check_places ["field", "places"] (defScope s_check_places) := ⟨rfl, rfl, rfl, by decide +kernel, rfl, by decide +kernel, by decide +kernel⟩
abbrev s_check_hidden_places : Stmt := top 26
abbrev N_check_hidden_places : List Str := ["field", "places"]
theorem sc_check_hidden_places : FnScope N_check_hidden_places ["field", "places"] (defScope s_check_hidden_places) := ⟨rfl, rfl, rfl, by decide +kernel, rfl, by decide +kernel, by decide +kernel⟩
abbrev s_check_points : Stmt := top 27
abbrev N_check_points : List Str := ["field", "points", "pair", "place", "value"]
theorem sc_check_points : FnScope N_check_points ["field", "points"] (defScope s_check_points) := ⟨rfl, rfl, rfl, by decide +kernel, rfl, by decide +kernel, by decide +kernel⟩
abbrev s_trimmed : Stmt := top 28
abbrev N_trimmed : List Str := ["numbers", "many"]
theorem sc_trimmed : FnScope N_trimmed ["numbers"] (defScope s_trimmed) := ⟨rfl, rfl, rfl, by decide +kernel, rfl, by decide +kernel, by decide +kernel⟩
abbrev s_padded : Stmt := top 29
abbrev N_padded : List Str := ["poly", "many"]
theorem sc_padded : FnScope N_padded ["poly", "many"] (defScope s_padded) := ⟨rfl, rfl, rfl, by decide +kernel, rfl, by decide +kernel, by decide +kernel⟩
abbrev s_scaled : Stmt := top 30
abbrev N_scaled : List Str := ["field", "poly", "number", "x"]
theorem sc_scaled : FnScope N_scaled ["field", "poly", "number"] (defScope s_scaled) := ⟨rfl, rfl, rfl, by decide +kernel, rfl, by decide +kernel, by decide +kernel⟩
abbrev s_added : Stmt := top 31
abbrev N_added : List Str := ["field", "one", "other", "many", "x", "y"]
theorem sc_added : FnScope N_added ["field", "one", "other"] (defScope s_added) := ⟨rfl, rfl, rfl, by decide +kernel, rfl, by decide +kernel, by decide +kernel⟩
abbrev s_multiplied : Stmt := top 32
abbrev N_multiplied : List Str := ["field", "one", "other", "numbers", "k", "m"]
theorem sc_multiplied : FnScope N_multiplied ["field", "one", "other"] (defScope s_multiplied) := ⟨rfl, rfl, rfl, by decide +kernel, rfl, by decide +kernel, by decide +kernel⟩
abbrev s_evaluated : Stmt := top 33
abbrev N_evaluated : List Str := ["field", "poly", "place", "value", "x"]
theorem sc_evaluated : FnScope N_evaluated ["field", "poly", "place"] (defScope s_evaluated) := ⟨rfl, rfl, rfl, by decide +kernel, rfl, by decide +kernel, by decide +kernel⟩
abbrev s_poly_sum : Stmt := top 34
abbrev N_poly_sum : List Str := ["field", "one", "other"]
theorem sc_poly_sum : FnScope N_poly_sum ["field", "one", "other"] (defScope s_poly_sum) := ⟨rfl, rfl, rfl, by decide +kernel, rfl, by decide +kernel, by decide +kernel⟩
abbrev s_poly_scaled : Stmt := top 35
abbrev N_poly_scaled : List Str := ["field", "poly", "number"]
theorem sc_poly_scaled : FnScope N_poly_scaled ["field", "poly", "number"] (defScope s_poly_scaled) := ⟨rfl, rfl, rfl, by decide +kernel, rfl, by decide +kernel, by decide +kernel⟩
abbrev s_poly_product : Stmt := top 36
abbrev N_poly_product : List Str := ["field", "one", "other"]
theorem sc_poly_product : FnScope N_poly_product ["field", "one", "other"] (defScope s_poly_product) := ⟨rfl, rfl, rfl, by decide +kernel, rfl, by decide +kernel, by decide +kernel⟩
abbrev s_poly_divided : Stmt := top 37
abbrev N_poly_divided : List Str := ["field", "one", "other", "rest", "quotient", "lead", "k", "factor", "m"]
theorem sc_poly_divided : FnScope N_poly_divided ["field", "one", "other"] (defScope s_poly_divided) := ⟨rfl, rfl, rfl, by decide +kernel, rfl, by decide +kernel, by decide +kernel⟩
abbrev s_value_at : Stmt := top 38
abbrev N_value_at : List Str := ["field", "poly", "place"]
theorem sc_value_at : FnScope N_value_at ["field", "poly", "place"] (defScope s_value_at) := ⟨rfl, rfl, rfl, by decide +kernel, rfl, by decide +kernel, by decide +kernel⟩
abbrev s_values_at : Stmt := top 39
abbrev N_values_at : List Str := ["field", "poly", "places", "place"]
theorem sc_values_at : FnScope N_values_at ["field", "poly", "places"] (defScope s_values_at) := ⟨rfl, rfl, rfl, by decide +kernel, rfl, by decide +kernel, by decide +kernel⟩
abbrev s_vanishing : Stmt := top 40
abbrev N_vanishing : List Str := ["field", "places", "whole", "place"]
theorem sc_vanishing : FnScope N_vanishing ["field", "places"] (defScope s_vanishing) := ⟨rfl, rfl, rfl, by decide +kernel, rfl, by decide +kernel, by decide +kernel⟩
abbrev s_without_root : Stmt := top 42
abbrev N_without_root : List Str := ["field", "whole", "place", "numbers", "carried", "x"]
theorem sc_without_root : FnScope N_without_root ["field", "whole", "place"] (defScope s_without_root) := ⟨rfl, rfl, rfl, by decide +kernel, rfl, by decide +kernel, by decide +kernel⟩
abbrev s_parts_of : Stmt := top 41
abbrev N_parts_of : List Str := ["field", "places", "whole", "place"]
theorem sc_parts_of : FnScope N_parts_of ["field", "places"] (defScope s_parts_of) := ⟨rfl, rfl, rfl, by decide +kernel, rfl, by decide +kernel, by decide +kernel⟩
abbrev s_units_of : Stmt := top 43
abbrev N_units_of : List Str := ["field", "places", "parts", "place", "part"]
theorem sc_units_of : FnScope N_units_of ["field", "places", "parts"] (defScope s_units_of) := ⟨rfl, rfl, rfl, by decide +kernel, rfl, by decide +kernel, by decide +kernel⟩
abbrev s_interpolated : Stmt := top 44
abbrev N_interpolated : List Str := ["field", "places", "values", "parts", "total", "part", "unit", "value"]
theorem sc_interpolated : FnScope N_interpolated ["field", "places", "values"] (defScope s_interpolated) := ⟨rfl, rfl, rfl, by decide +kernel, rfl, by decide +kernel, by decide +kernel⟩
abbrev s_through : Stmt := top 45
abbrev N_through : List Str := ["field", "points", "place", "value"]
theorem sc_through : FnScope N_through ["field", "points"] (defScope s_through) := ⟨rfl, rfl, rfl, by decide +kernel, rfl, by decide +kernel, by decide +kernel⟩
abbrev s_weights : Stmt := top 46
abbrev N_weights : List Str := ["field", "places", "goal", "parts", "units", "part", "unit"]
theorem sc_weights : FnScope N_weights ["field", "places", "goal"] (defScope s_weights) := ⟨rfl, rfl, rfl, by decide +kernel, rfl, by decide +kernel, by decide +kernel⟩
abbrev s_check_rows : Stmt := top 47
abbrev N_check_rows : List Str := ["field", "places", "degree", "rows", "row", "_", "x", "place"]
theorem sc_check_rows : FnScope N_check_rows ["field", "places", "degree"] (defScope s_check_rows) := ⟨rfl, rfl, rfl, by decide +kernel, rfl, by decide +kernel, by decide +kernel⟩
abbrev s_checks : Stmt := top 48
abbrev N_checks : List Str := ["field", "places", "degree"]
theorem sc_checks : FnScope N_checks ["field", "places", "degree"] (defScope s_checks) := ⟨rfl, rfl, rfl, by decide +kernel, rfl, by decide +kernel, by decide +kernel⟩
abbrev s_hiding_poly : Stmt := top 49
abbrev N_hiding_poly : List Str := ["field", "places", "whole"]
theorem sc_hiding_poly : FnScope N_hiding_poly ["field", "places"] (defScope s_hiding_poly) := ⟨rfl, rfl, rfl, by decide +kernel, rfl, by decide +kernel, by decide +kernel⟩
abbrev s_hiding : Stmt := top 50
abbrev N_hiding : List Str := ["field", "places"]
theorem sc_hiding : FnScope N_hiding ["field", "places"] (defScope s_hiding) := ⟨rfl, rfl, rfl, by decide +kernel, rfl, by decide +kernel, by decide +kernel⟩
abbrev s_hidden : Stmt := top 51
abbrev N_hidden : List Str := ["field", "poly", "places", "goal", "change"]
theorem sc_hidden : FnScope N_hidden ["field", "poly", "places", "goal"] (defScope s_hidden) := ⟨rfl, rfl, rfl, by decide +kernel, rfl, by decide +kernel, by decide +kernel⟩
abbrev s__law_dice : Stmt := top 53
abbrev N__law_dice : List Str := ["script", "spot", "cell", "left"]
theorem sc__law_dice : FnScope N__law_dice ["script", "spot"] (defScope s__law_dice) := ⟨rfl, rfl, rfl, by decide +kernel, rfl, by decide +kernel, by decide +kernel⟩
abbrev s__law_roll : Stmt := top 54
abbrev N__law_roll : List Str := ["dice", "most", "found", "one", "two"]
theorem sc__law_roll : FnScope N__law_roll ["dice", "most"] (defScope s__law_roll) := ⟨rfl, rfl, rfl, by decide +kernel, rfl, by decide +kernel, by decide +kernel⟩
abbrev s__law_pick : Stmt := top 55
abbrev N__law_pick : List Str := ["dice", "items"]
theorem sc__law_pick : FnScope N__law_pick ["dice", "items"] (defScope s__law_pick) := ⟨rfl, rfl, rfl, by decide +kernel, rfl, by decide +kernel, by decide +kernel⟩
abbrev s__law_met : Stmt := top 56
abbrev N__law_met : List Str := ["call", "error"]
theorem sc__law_met : FnScope N__law_met ["call"] (defScope s__law_met) := ⟨rfl, rfl, rfl, by decide +kernel, rfl, by decide +kernel, by decide +kernel⟩
abbrev s__law_polys_right : Stmt := top 57
abbrev N__law_polys_right : List Str := ["dice", "none", "bad", "number", "good", "wrong", "told", "due", "word"]
theorem sc__law_polys_right : FnScope N__law_polys_right ["dice", "none", "bad", "number"] (defScope s__law_polys_right) := ⟨rfl, rfl, rfl, by decide +kernel, rfl, by decide +kernel, by decide +kernel⟩
abbrev s__law_places_right : Stmt := top 58
abbrev N__law_places_right : List Str := ["dice", "none", "bad", "number", "places", "hides", "points", "degree", "wrong", "turned", "told", "due", "word"]
theorem sc__law_places_right : FnScope N__law_places_right ["dice", "none", "bad", "number"] (defScope s__law_places_right) := ⟨rfl, rfl, rfl, by decide +kernel, rfl, by decide +kernel, by decide +kernel⟩
abbrev s__law_right : Stmt := top 59
abbrev N__law_right : List Str := ["dice", "none", "bad", "number"]
theorem sc__law_right : FnScope N__law_right ["dice"] (defScope s__law_right) := ⟨rfl, rfl, rfl, by decide +kernel, rfl, by decide +kernel, by decide +kernel⟩
abbrev s_law : Stmt := top 60
abbrev N_law : List Str := ["script", "spot", "dice", "long", "wide", "told", "due", "at"]
theorem sc_law : FnScope N_law ["script"] (defScope s_law) := ⟨rfl, rfl, rfl, by decide +kernel, rfl, by decide +kernel, by decide +kernel⟩
abbrev si_InvalidNumber : Stmt := inClass (top 4) 0
theorem sci_InvalidNumber : FnScope ["self", "given"] ["self", "given"] (defScope si_InvalidNumber) := ⟨rfl, rfl, rfl, by decide +kernel, rfl, by decide +kernel, by decide +kernel⟩
abbrev si_TooMany : Stmt := inClass (top 5) 0
theorem sci_TooMany : FnScope ["self", "limit"] ["self", "limit"] (defScope si_TooMany) := ⟨rfl, rfl, rfl, by decide +kernel, rfl, by decide +kernel, by decide +kernel⟩
abbrev si_Refused : Stmt := inClass (top 6) 0
theorem sci_Refused : FnScope ["self", "reason"] ["self", "reason"] (defScope si_Refused) := ⟨rfl, rfl, rfl, by decide +kernel, rfl, by decide +kernel, by decide +kernel⟩
structure DefAt (K : Frag) (mg : Str → Option Value) (x : Str) (st : Stmt) (ps : List Str) (f : Addr) (fd : FuncData) : Prop where
  fn : Fun K x x st f fd
  g : mg x = some (.ref f)
  b : Binds K fd ps []
structure Txt (K : Frag) (mg : Str → Option Value) (C_InvalidPoly C_InvalidOperation C_InvalidNumber C_TooMany C_Refused I_InvalidNumber I_TooMany I_Refused : Addr) (D_InvalidNumber D_TooMany D_Refused : FuncData) : Prop where
  n_abs : mg "abs" = none
  n_all : mg "all" = none
  n_int : mg "int" = none
  n_isinstance : mg "isinstance" = none
  n_len : mg "len" = none
  n_list : mg "list" = none
  n_max : mg "max" = none
  n_min : mg "min" = none
  n_range : mg "range" = none
  n_repr : mg "repr" = none
  n_reversed : mg "reversed" = none
  n_set : mg "set" = none
  n_tuple : mg "tuple" = none
  n_zip : mg "zip" = none
  c_LEAST_FIELD : ∃ (q : Value × V), mg "LEAST_FIELD" = some q.1 ∧ RelV q.2 q.1 ∧ ∀ Hf, Rep K Hf q.2 (.int 5)
  c_MAX_DEGREE : ∃ (q : Value × V), mg "MAX_DEGREE" = some q.1 ∧ RelV q.2 q.1 ∧ ∀ Hf, Rep K Hf q.2 (.int 60)
  c_MAX_FIELD : ∃ (q : Value × V), mg "MAX_FIELD" = some q.1 ∧ RelV q.2 q.1 ∧ ∀ Hf, Rep K Hf q.2 (.int 997)
  c_MAX_SIDE : ∃ (q : Value × V), mg "MAX_SIDE" = some q.1 ∧ RelV q.2 q.1 ∧ ∀ Hf, Rep K Hf q.2 (.int 60)
  c_SMALL_PRIMES : ∃ (q : Value × V), mg "SMALL_PRIMES" = some q.1 ∧ RelV q.2 q.1 ∧ ∀ Hf, Rep K Hf q.2 (.tuple [(.int 2), (.int 3), (.int 5), (.int 7), (.int 11), (.int 13), (.int 17), (.int 19), (.int 23), (.int 29), (.int 31)])
  g_InvalidPoly : mg "InvalidPoly" = some (.ref C_InvalidPoly)
  e_InvalidPoly : ClsE K mg "InvalidPoly" C_InvalidPoly
  m_InvalidPoly_InvalidPoly : PySem.W.exmOne K (.ref C_InvalidPoly) (.ref C_InvalidPoly) = some true
  m_InvalidPoly_InvalidOperation : PySem.W.exmOne K (.ref C_InvalidPoly) (.ref C_InvalidOperation) = some false
  m_InvalidPoly_InvalidNumber : PySem.W.exmOne K (.ref C_InvalidPoly) (.ref C_InvalidNumber) = some false
  m_InvalidPoly_Refused : PySem.W.exmOne K (.ref C_InvalidPoly) (.ref C_Refused) = some false
  m_InvalidPoly_TooMany : PySem.W.exmOne K (.ref C_InvalidPoly) (.ref C_TooMany) = some false
  g_InvalidOperation : mg "InvalidOperation" = some (.ref C_InvalidOperation)
  e_InvalidOperation : ClsE K mg "InvalidOperation" C_InvalidOperation
  m_InvalidOperation_InvalidPoly : PySem.W.exmOne K (.ref C_InvalidOperation) (.ref C_InvalidPoly) = some false
  m_InvalidOperation_InvalidOperation : PySem.W.exmOne K (.ref C_InvalidOperation) (.ref C_InvalidOperation) = some true
  m_InvalidOperation_InvalidNumber : PySem.W.exmOne K (.ref C_InvalidOperation) (.ref C_InvalidNumber) = some false
  m_InvalidOperation_Refused : PySem.W.exmOne K (.ref C_InvalidOperation) (.ref C_Refused) = some false
  m_InvalidOperation_TooMany : PySem.W.exmOne K (.ref C_InvalidOperation) (.ref C_TooMany) = some false
  g_InvalidNumber : mg "InvalidNumber" = some (.ref C_InvalidNumber)
  o_InvalidNumber : OxG K C_InvalidNumber [.type "IndexError", .type "LookupError", .type "Exception", .type "BaseException", .type "object"] "IndexError.__new__"
  i_InvalidNumber : PySem.W.findIn K (.ref C_InvalidNumber) "__init__" = some (some (.ref I_InvalidNumber))
  t_InvalidNumber : PySem.W.typeIn K (.ref I_InvalidNumber) = some (.type "function")
  n_InvalidNumber : PySem.W.findIn K (.ref C_InvalidNumber) "given" = some none
  f_InvalidNumber : Fun K "__init__" "InvalidNumber.__init__" si_InvalidNumber I_InvalidNumber D_InvalidNumber
  b_InvalidNumber : Binds K D_InvalidNumber ["self", "given"] []
  x_InvalidNumber : XfC K C_InvalidNumber
  m_InvalidNumber_InvalidPoly : PySem.W.exmOne K (.ref C_InvalidNumber) (.ref C_InvalidPoly) = some false
  m_InvalidNumber_InvalidOperation : PySem.W.exmOne K (.ref C_InvalidNumber) (.ref C_InvalidOperation) = some false
  m_InvalidNumber_InvalidNumber : PySem.W.exmOne K (.ref C_InvalidNumber) (.ref C_InvalidNumber) = some true
  m_InvalidNumber_Refused : PySem.W.exmOne K (.ref C_InvalidNumber) (.ref C_Refused) = some false
  m_InvalidNumber_TooMany : PySem.W.exmOne K (.ref C_InvalidNumber) (.ref C_TooMany) = some false
  g_TooMany : mg "TooMany" = some (.ref C_TooMany)
  o_TooMany : OxG K C_TooMany [.type "OverflowError", .type "ArithmeticError", .type "Exception", .type "BaseException", .type "object"] "OverflowError.__new__"
  i_TooMany : PySem.W.findIn K (.ref C_TooMany) "__init__" = some (some (.ref I_TooMany))
  t_TooMany : PySem.W.typeIn K (.ref I_TooMany) = some (.type "function")
  n_TooMany : PySem.W.findIn K (.ref C_TooMany) "limit" = some none
  f_TooMany : Fun K "__init__" "TooMany.__init__" si_TooMany I_TooMany D_TooMany
  b_TooMany : Binds K D_TooMany ["self", "limit"] []
  x_TooMany : XfC K C_TooMany
  m_TooMany_InvalidPoly : PySem.W.exmOne K (.ref C_TooMany) (.ref C_InvalidPoly) = some false
  m_TooMany_InvalidOperation : PySem.W.exmOne K (.ref C_TooMany) (.ref C_InvalidOperation) = some false
  m_TooMany_InvalidNumber : PySem.W.exmOne K (.ref C_TooMany) (.ref C_InvalidNumber) = some false
  m_TooMany_Refused : PySem.W.exmOne K (.ref C_TooMany) (.ref C_Refused) = some false
  m_TooMany_TooMany : PySem.W.exmOne K (.ref C_TooMany) (.ref C_TooMany) = some true
  g_Refused : mg "Refused" = some (.ref C_Refused)
  o_Refused : OxG K C_Refused [.type "ArithmeticError", .type "Exception", .type "BaseException", .type "object"] "ArithmeticError.__new__"
  i_Refused : PySem.W.findIn K (.ref C_Refused) "__init__" = some (some (.ref I_Refused))
  t_Refused : PySem.W.typeIn K (.ref I_Refused) = some (.type "function")
  n_Refused : PySem.W.findIn K (.ref C_Refused) "reason" = some none
  f_Refused : Fun K "__init__" "Refused.__init__" si_Refused I_Refused D_Refused
  b_Refused : Binds K D_Refused ["self", "reason"] []
  x_Refused : XfC K C_Refused
  m_Refused_InvalidPoly : PySem.W.exmOne K (.ref C_Refused) (.ref C_InvalidPoly) = some false
  m_Refused_InvalidOperation : PySem.W.exmOne K (.ref C_Refused) (.ref C_InvalidOperation) = some false
  m_Refused_InvalidNumber : PySem.W.exmOne K (.ref C_Refused) (.ref C_InvalidNumber) = some false
  m_Refused_Refused : PySem.W.exmOne K (.ref C_Refused) (.ref C_Refused) = some true
  m_Refused_TooMany : PySem.W.exmOne K (.ref C_Refused) (.ref C_TooMany) = some false
section
variable {P : Program} {w : World} {K : Frag} {mg : Str → Option Value} {base : Heap} {TL : List (Addr × Str)} {C_InvalidPoly C_InvalidOperation C_InvalidNumber C_TooMany C_Refused I_InvalidNumber I_TooMany I_Refused : Addr} {D_InvalidNumber D_TooMany D_Refused : FuncData}
theorem init_InvalidNumber (T : Txt K mg C_InvalidPoly C_InvalidOperation C_InvalidNumber C_TooMany C_Refused I_InvalidNumber I_TooMany I_Refused D_InvalidNumber D_TooMany D_Refused) : FnOk P w K mg base CX0 1 I_InvalidNumber D_InvalidNumber ["self", "given"] (spInit C_InvalidNumber "given") :=
  init_okG PySem.F.store_IndexError T.o_InvalidNumber T.n_InvalidNumber T.f_InvalidNumber sci_InvalidNumber rfl rfl (Or.inl rfl) (Or.inl rfl)
theorem init_TooMany (T : Txt K mg C_InvalidPoly C_InvalidOperation C_InvalidNumber C_TooMany C_Refused I_InvalidNumber I_TooMany I_Refused D_InvalidNumber D_TooMany D_Refused) : FnOk P w K mg base CX0 1 I_TooMany D_TooMany ["self", "limit"] (spInit C_TooMany "limit") :=
  init_okG PySem.F.store_OverflowError T.o_TooMany T.n_TooMany T.f_TooMany sci_TooMany rfl rfl (Or.inl rfl) (Or.inl rfl)
theorem init_Refused (T : Txt K mg C_InvalidPoly C_InvalidOperation C_InvalidNumber C_TooMany C_Refused I_InvalidNumber I_TooMany I_Refused D_InvalidNumber D_TooMany D_Refused) : FnOk P w K mg base CX0 1 I_Refused D_Refused ["self", "reason"] (spInit C_Refused "reason") :=
  init_okG PySem.F.store_ArithmeticError T.o_Refused T.n_Refused T.f_Refused sci_Refused rfl rfl (Or.inl rfl) (Or.inl rfl)
theorem x__law_met_InvalidPoly (T : Txt K mg C_InvalidPoly C_InvalidOperation C_InvalidNumber C_TooMany C_Refused I_InvalidNumber I_TooMany I_Refused D_InvalidNumber D_TooMany D_Refused) : ∀ e ∈ errs__law_met, ∀ Ce, mg e = some (.ref Ce) → PySem.W.exmOne K (.ref Ce) (.ref C_InvalidPoly) = some (decide (e = ("InvalidPoly" : Str))) := by
  intro e he Ce hm
  simp only [errs__law_met, List.mem_cons, List.not_mem_nil, or_false] at he
  rcases he with rfl | rfl | rfl | rfl | rfl
  · have z := T.g_InvalidPoly.symm.trans hm
    cases z
    exact T.m_InvalidPoly_InvalidPoly
  · have z := T.g_InvalidOperation.symm.trans hm
    cases z
    exact T.m_InvalidOperation_InvalidPoly
  · have z := T.g_InvalidNumber.symm.trans hm
    cases z
    exact T.m_InvalidNumber_InvalidPoly
  · have z := T.g_TooMany.symm.trans hm
    cases z
    exact T.m_TooMany_InvalidPoly
  · have z := T.g_Refused.symm.trans hm
    cases z
    exact T.m_Refused_InvalidPoly
theorem x__law_met_InvalidOperation (T : Txt K mg C_InvalidPoly C_InvalidOperation C_InvalidNumber C_TooMany C_Refused I_InvalidNumber I_TooMany I_Refused D_InvalidNumber D_TooMany D_Refused) : ∀ e ∈ errs__law_met, ∀ Ce, mg e = some (.ref Ce) → PySem.W.exmOne K (.ref Ce) (.ref C_InvalidOperation) = some (decide (e = ("InvalidOperation" : Str))) := by
  intro e he Ce hm
  simp only [errs__law_met, List.mem_cons, List.not_mem_nil, or_false] at he
  rcases he with rfl | rfl | rfl | rfl | rfl
  · have z := T.g_InvalidPoly.symm.trans hm
    cases z
    exact T.m_InvalidPoly_InvalidOperation
  · have z := T.g_InvalidOperation.symm.trans hm
    cases z
    exact T.m_InvalidOperation_InvalidOperation
  · have z := T.g_InvalidNumber.symm.trans hm
    cases z
    exact T.m_InvalidNumber_InvalidOperation
  · have z := T.g_TooMany.symm.trans hm
    cases z
    exact T.m_TooMany_InvalidOperation
  · have z := T.g_Refused.symm.trans hm
    cases z
    exact T.m_Refused_InvalidOperation
theorem x__law_met_InvalidNumber (T : Txt K mg C_InvalidPoly C_InvalidOperation C_InvalidNumber C_TooMany C_Refused I_InvalidNumber I_TooMany I_Refused D_InvalidNumber D_TooMany D_Refused) : ∀ e ∈ errs__law_met, ∀ Ce, mg e = some (.ref Ce) → PySem.W.exmOne K (.ref Ce) (.ref C_InvalidNumber) = some (decide (e = ("InvalidNumber" : Str))) := by
  intro e he Ce hm
  simp only [errs__law_met, List.mem_cons, List.not_mem_nil, or_false] at he
  rcases he with rfl | rfl | rfl | rfl | rfl
  · have z := T.g_InvalidPoly.symm.trans hm
    cases z
    exact T.m_InvalidPoly_InvalidNumber
  · have z := T.g_InvalidOperation.symm.trans hm
    cases z
    exact T.m_InvalidOperation_InvalidNumber
  · have z := T.g_InvalidNumber.symm.trans hm
    cases z
    exact T.m_InvalidNumber_InvalidNumber
  · have z := T.g_TooMany.symm.trans hm
    cases z
    exact T.m_TooMany_InvalidNumber
  · have z := T.g_Refused.symm.trans hm
    cases z
    exact T.m_Refused_InvalidNumber
theorem x__law_met_Refused (T : Txt K mg C_InvalidPoly C_InvalidOperation C_InvalidNumber C_TooMany C_Refused I_InvalidNumber I_TooMany I_Refused D_InvalidNumber D_TooMany D_Refused) : ∀ e ∈ errs__law_met, ∀ Ce, mg e = some (.ref Ce) → PySem.W.exmOne K (.ref Ce) (.ref C_Refused) = some (decide (e = ("Refused" : Str))) := by
  intro e he Ce hm
  simp only [errs__law_met, List.mem_cons, List.not_mem_nil, or_false] at he
  rcases he with rfl | rfl | rfl | rfl | rfl
  · have z := T.g_InvalidPoly.symm.trans hm
    cases z
    exact T.m_InvalidPoly_Refused
  · have z := T.g_InvalidOperation.symm.trans hm
    cases z
    exact T.m_InvalidOperation_Refused
  · have z := T.g_InvalidNumber.symm.trans hm
    cases z
    exact T.m_InvalidNumber_Refused
  · have z := T.g_TooMany.symm.trans hm
    cases z
    exact T.m_TooMany_Refused
  · have z := T.g_Refused.symm.trans hm
    cases z
    exact T.m_Refused_Refused
theorem x__law_met_TooMany (T : Txt K mg C_InvalidPoly C_InvalidOperation C_InvalidNumber C_TooMany C_Refused I_InvalidNumber I_TooMany I_Refused D_InvalidNumber D_TooMany D_Refused) : ∀ e ∈ errs__law_met, ∀ Ce, mg e = some (.ref Ce) → PySem.W.exmOne K (.ref Ce) (.ref C_TooMany) = some (decide (e = ("TooMany" : Str))) := by
  intro e he Ce hm
  simp only [errs__law_met, List.mem_cons, List.not_mem_nil, or_false] at he
  rcases he with rfl | rfl | rfl | rfl | rfl
  · have z := T.g_InvalidPoly.symm.trans hm
    cases z
    exact T.m_InvalidPoly_TooMany
  · have z := T.g_InvalidOperation.symm.trans hm
    cases z
    exact T.m_InvalidOperation_TooMany
  · have z := T.g_InvalidNumber.symm.trans hm
    cases z
    exact T.m_InvalidNumber_TooMany
  · have z := T.g_TooMany.symm.trans hm
    cases z
    exact T.m_TooMany_TooMany
  · have z := T.g_Refused.symm.trans hm
    cases z
    exact T.m_Refused_TooMany
theorem gives__law_met {Pr : Program} {w : World} {base : Heap} {N : List Str} {qual : Str} {st : Stmt} {f : Addr} {cdv : Value} {A : Around} {outer : List PySem.Env} {s : Shared} {H : Hp} {E : XK} {k : Nat} {g : Addr} (T : Txt K mg C_InvalidPoly C_InvalidOperation C_InvalidNumber C_TooMany C_Refused I_InvalidNumber I_TooMany I_Refused D_InvalidNumber D_TooMany D_Refused) (gd : A.guards = some []) (hr : Room (k + 2) (A.deeper (envOfC qual (defScope st) s.heap.objs.size f cdv))) (cdg : Value) (q : Str) :
    GivesTo (cxOf CX0 Pr w K mg base N qual (defScope st) f cdv A outer s H E).nox N__law_met "_law_met" (defScope s__law_met) g cdg (defBody s__law_met) "call" q (TTm mg K errs__law_met res__law_met fine__law_met) :=
  met_gives (mr := sRet [] (mTup (mCons (mC (.str "fine")) mNil))) (by decide) (by decide) (fun s H => ⟨_, (.plain (ms := sRet [] (mTup (mCons (mC (.str "refused")) (mCons (mC (.str "poly")) mNil)))) rfl T.g_InvalidPoly (fun e he Ce hm => x__law_met_InvalidPoly T e he Ce hm) (fun _ _ _ => ss_one (s_ret (ev_tup (ea_cons ev_str (ea_cons ev_str ea_nil))))) rfl
    (.plain (ms := sRet [] (mTup (mCons (mC (.str "refused")) (mCons (mC (.str "operation")) mNil)))) rfl T.g_InvalidOperation (fun e he Ce hm => x__law_met_InvalidOperation T e he Ce hm) (fun _ _ _ => ss_one (s_ret (ev_tup (ea_cons ev_str (ea_cons ev_str ea_nil))))) rfl
    (.named (i := 1) (ms := fun a d => sRet [] (mTup (mCons (mC (.str "refused")) (mCons (mBin dAdd (mC (.str "number ")) (mCall dReprN (mCons (mXf a d 1 "given") mNil))) mNil)))) (sres := sresOf fun da => (mTup (mCons (mC (.str "refused")) (mCons (mBin dAdd (mC (.str "number ")) (mCall dReprN (mCons (mC da) mNil))) mNil)))) rfl T.g_InvalidNumber (fun e he Ce hm => x__law_met_InvalidNumber T e he Ce hm) rfl (by decide) rfl (fun _ _ => ss_one (s_ret (ev_tup (ea_cons ev_str (ea_cons (ev_bin od_add ev_str (ev_callB (cd_reprN (fun _ => gd) (fun _ => un67 hr)) (fun _ => T.n_repr) (ea_cons (ev_xf 1 T.x_InvalidNumber T.n_InvalidNumber) ea_nil))) ea_nil))))) (fun a dd da r h => fol_ret (h := fun da => (mTup (mCons (mC (.str "refused")) (mCons (mBin dAdd (mC (.str "number ")) (mCall dReprN (mCons (mC da) mNil))) mNil)))) (fol_tup (fol_cons fol_c (fol_cons (fol_bin fol_c (fol_call (fol_cons (fol_xf (by decide)) fol_nil))) fol_nil))) h)
    (.named (i := 1) (ms := fun a d => sRet [] (mTup (mCons (mC (.str "refused")) (mCons (mCall dReprN (mCons (mXf a d 1 "reason") mNil)) mNil)))) (sres := sresOf fun da => (mTup (mCons (mC (.str "refused")) (mCons (mCall dReprN (mCons (mC da) mNil)) mNil)))) rfl T.g_Refused (fun e he Ce hm => x__law_met_Refused T e he Ce hm) rfl (by decide) rfl (fun _ _ => ss_one (s_ret (ev_tup (ea_cons ev_str (ea_cons (ev_callB (cd_reprN (fun _ => gd) (fun _ => un67 hr)) (fun _ => T.n_repr) (ea_cons (ev_xf 1 T.x_Refused T.n_Refused) ea_nil)) ea_nil))))) (fun a dd da r h => fol_ret (h := fun da => (mTup (mCons (mC (.str "refused")) (mCons (mCall dReprN (mCons (mC da) mNil)) mNil)))) (fol_tup (fol_cons fol_c (fol_cons (fol_call (fol_cons (fol_xf (by decide)) fol_nil)) fol_nil))) h)
    (.named (i := 1) (ms := fun a d => sRet [] (mTup (mCons (mC (.str "refused")) (mCons (mBin dAdd (mC (.str "many ")) (mCall dReprN (mCons (mXf a d 1 "limit") mNil))) mNil)))) (sres := sresOf fun da => (mTup (mCons (mC (.str "refused")) (mCons (mBin dAdd (mC (.str "many ")) (mCall dReprN (mCons (mC da) mNil))) mNil)))) rfl T.g_TooMany (fun e he Ce hm => x__law_met_TooMany T e he Ce hm) rfl (by decide) rfl (fun _ _ => ss_one (s_ret (ev_tup (ea_cons ev_str (ea_cons (ev_bin od_add ev_str (ev_callB (cd_reprN (fun _ => gd) (fun _ => un67 hr)) (fun _ => T.n_repr) (ea_cons (ev_xf 1 T.x_TooMany T.n_TooMany) ea_nil))) ea_nil))))) (fun a dd da r h => fol_ret (h := fun da => (mTup (mCons (mC (.str "refused")) (mCons (mBin dAdd (mC (.str "many ")) (mCall dReprN (mCons (mC da) mNil))) mNil)))) (fol_tup (fol_cons fol_c (fol_cons (fol_bin fol_c (fol_call (fol_cons (fol_xf (by decide)) fol_nil))) fol_nil))) h)
    .nil (by decide)) (by decide)) (by decide)) (by decide)) (by decide))⟩)
    (fun _ _ => ss_one (s_ret (ev_tup (ea_cons ev_str ea_nil)))) rfl
theorem ok_is_integer (T : Txt K mg C_InvalidPoly C_InvalidOperation C_InvalidNumber C_TooMany C_Refused I_InvalidNumber I_TooMany I_Refused D_InvalidNumber D_TooMany D_Refused) {f_is_integer : Addr} {d_is_integer : FuncData} (A_is_integer : DefAt K mg "is_integer" s_is_integer ["value", "least", "most"] f_is_integer d_is_integer) : FnOk P w K mg base CX0 1 f_is_integer d_is_integer ["value", "least", "most"] (spM K 3 [] Lib.F_is_integer) :=
  def_ok A_is_integer.fn sc_is_integer rfl fun cdv A outer s H E hr =>
    (ss_one (s_ret (ev_and (ev_isi (T := "int") (ev_name 0) (fun _ => T.n_isinstance) (fun _ => T.n_int)) (ev_and (ev_cmp od_isnot (ev_name 0) ev_bl) (ev_and (ev_cmp od_isnot (ev_name 0) ev_bl) (ev_one (ev_chain od_le od_le d1_le (ev_name 1) (ev_name 0) (ev_name 2))))))))
theorem ok_is_field (T : Txt K mg C_InvalidPoly C_InvalidOperation C_InvalidNumber C_TooMany C_Refused I_InvalidNumber I_TooMany I_Refused D_InvalidNumber D_TooMany D_Refused) {f_is_field : Addr} {d_is_field : FuncData} (A_is_field : DefAt K mg "is_field" s_is_field ["value"] f_is_field d_is_field) {f_is_integer : Addr} {d_is_integer : FuncData} (A_is_integer : DefAt K mg "is_integer" s_is_integer ["value", "least", "most"] f_is_integer d_is_integer) (G_is_integer : FnOk P w K mg base CX0 1 f_is_integer d_is_integer ["value", "least", "most"] (spM K 3 [] Lib.F_is_integer)) : FnOk P w K mg base CX0 2 f_is_field d_is_field ["value"] (spM K 1 [] Lib.F_is_field) :=
  def_ok A_is_field.fn sc_is_field rfl fun cdv A outer s H E hr =>
    (ss_cons (s_if (et_not (et_tru (ev_fn (fun _ => G_is_integer) (fun _ => hr.mono (by decide)) (fun _ => A_is_integer.g) (fun _ => A_is_integer.fn.kp) (fun _ => A_is_integer.b) (ea_cons (ev_name 0) (ea_cons (ev_glob (fun _ => rfl) (fun _ => T.c_LEAST_FIELD.choose_spec.1) T.c_LEAST_FIELD.choose_spec.2.1 T.c_LEAST_FIELD.choose_spec.2.2) (ea_cons (ev_glob (fun _ => rfl) (fun _ => T.c_MAX_FIELD.choose_spec.1) T.c_MAX_FIELD.choose_spec.2.1 T.c_MAX_FIELD.choose_spec.2.2) ea_nil))) (na_cons (na_cons (na_cons na_nil)))))) (ss_one (s_ret ev_bl)) ss_nil)
    (ss_cons (s_for (fun _ => PassesOwn.never) (fun _ => rfl) (ei_val (ev_glob (fun _ => rfl) (fun _ => T.c_SMALL_PRIMES.choose_spec.1) T.c_SMALL_PRIMES.choose_spec.2.1 T.c_SMALL_PRIMES.choose_spec.2.2)) (eg_name 1 (fun _ => sc_is_field.nd)) (ss_one (s_if (et_cmp (od_eq (fun _ => hr.units)) (ev_bin od_mod (ev_name 0) (ev_name 1)) ev_int) (ss_one (s_ret (ev_cmp (od_eq (fun _ => hr.units)) (ev_name 0) (ev_name 1)))) ss_nil)))
    (ss_one (s_ret ev_bl))))
theorem ok_are_numbers (T : Txt K mg C_InvalidPoly C_InvalidOperation C_InvalidNumber C_TooMany C_Refused I_InvalidNumber I_TooMany I_Refused D_InvalidNumber D_TooMany D_Refused) {f_are_numbers : Addr} {d_are_numbers : FuncData} (A_are_numbers : DefAt K mg "are_numbers" s_are_numbers ["field", "value"] f_are_numbers d_are_numbers) : FnOk P w K mg base CX0 1 f_are_numbers d_are_numbers ["field", "value"] (spM K 2 [] Lib.F_are_numbers) :=
  def_ok A_are_numbers.fn sc_are_numbers rfl fun cdv A outer s H E hr =>
    (ss_cons (s_if (et_not (et_tru (ev_isi (T := "tuple") (ev_name 1) (fun _ => T.n_isinstance) (fun _ => T.n_tuple)))) (ss_one (s_ret ev_bl)) ss_nil)
    (ss_cons (s_for (fun _ => PassesOwn.never) (fun _ => rfl) (ei_val (ev_name 1)) (eg_name 2 (fun _ => sc_are_numbers.nd)) (ss_one (s_if (et_w (ew_or (et_not (et_tru (ev_isi (T := "int") (ev_name 2) (fun _ => T.n_isinstance) (fun _ => T.n_int)))) (ew_or (et_cmp od_is (ev_name 2) ev_bl) (ew_or (et_cmp od_is (ev_name 2) ev_bl) (ew_or1 (et_not (et_chain od_le od_lt d1_lt ev_int (ev_name 2) (ev_name 0)))))))) (ss_one (s_ret ev_bl)) ss_nil)))
    (ss_one (s_ret ev_bl))))
theorem ok_check_integer (T : Txt K mg C_InvalidPoly C_InvalidOperation C_InvalidNumber C_TooMany C_Refused I_InvalidNumber I_TooMany I_Refused D_InvalidNumber D_TooMany D_Refused) {f_check_integer : Addr} {d_check_integer : FuncData} (A_check_integer : DefAt K mg "check_integer" s_check_integer ["value", "least", "most"] f_check_integer d_check_integer) {f_is_integer : Addr} {d_is_integer : FuncData} (A_is_integer : DefAt K mg "is_integer" s_is_integer ["value", "least", "most"] f_is_integer d_is_integer) (G_is_integer : FnOk P w K mg base CX0 1 f_is_integer d_is_integer ["value", "least", "most"] (spM K 3 [] Lib.F_is_integer)) : FnOk P w K mg base CX0 3 f_check_integer d_check_integer ["value", "least", "most"] (spM K 3 [] Lib.F_check_integer) :=
  def_ok A_check_integer.fn sc_check_integer rfl fun cdv A outer s H E hr =>
    (ss_one (s_if (et_not (et_tru (ev_fn (fun _ => G_is_integer) (fun _ => hr.mono (by decide)) (fun _ => A_is_integer.g) (fun _ => A_is_integer.fn.kp) (fun _ => A_is_integer.b) (ea_cons (ev_name 0) (ea_cons (ev_name 1) (ea_cons (ev_name 2) ea_nil))) (na_cons (na_cons (na_cons na_nil)))))) (ss_one s_never) ss_nil))
theorem okX_check_integer (T : Txt K mg C_InvalidPoly C_InvalidOperation C_InvalidNumber C_TooMany C_Refused I_InvalidNumber I_TooMany I_Refused D_InvalidNumber D_TooMany D_Refused) {f_check_integer : Addr} {d_check_integer : FuncData} (A_check_integer : DefAt K mg "check_integer" s_check_integer ["value", "least", "most"] f_check_integer d_check_integer) {f_is_integer : Addr} {d_is_integer : FuncData} (A_is_integer : DefAt K mg "is_integer" s_is_integer ["value", "least", "most"] f_is_integer d_is_integer) (G_is_integer : FnOk P w K mg base CX0 1 f_is_integer d_is_integer ["value", "least", "most"] (spM K 3 [] Lib.F_is_integer)) : FnOk P w K mg base (L2.CX P w) 3 f_check_integer d_check_integer ["value", "least", "most"] (spX K mg 3 X_check_integer) :=
  def_okX A_check_integer.fn sc_check_integer rfl fun cdv A outer s H E hr =>
    (xs_one (x_if (et_not (et_tru (ev_fn (fun _ => G_is_integer) (fun _ => hr.mono (by decide)) (fun _ => A_is_integer.g) (fun _ => A_is_integer.fn.kp) (fun _ => A_is_integer.b) (ea_cons (ev_name 0) (ea_cons (ev_name 1) (ea_cons (ev_name 2) ea_nil))) (na_cons (na_cons (na_cons na_nil)))))) (xs_one (x_raiseF (fun _ => rfl) (fun _ => takes_of rfl rfl rfl rfl) (fun _ => rfl) T.g_InvalidNumber PySem.F.excBase_IndexError T.o_InvalidNumber T.i_InvalidNumber T.t_InvalidNumber (fun _ => init_InvalidNumber T) (fun _ => hr.mono (by decide)) T.b_InvalidNumber (ev_name 0))) xs_nil))
theorem ok_check_field (T : Txt K mg C_InvalidPoly C_InvalidOperation C_InvalidNumber C_TooMany C_Refused I_InvalidNumber I_TooMany I_Refused D_InvalidNumber D_TooMany D_Refused) {f_check_field : Addr} {d_check_field : FuncData} (A_check_field : DefAt K mg "check_field" s_check_field ["field"] f_check_field d_check_field) {f_is_field : Addr} {d_is_field : FuncData} (A_is_field : DefAt K mg "is_field" s_is_field ["value"] f_is_field d_is_field) (G_is_field : FnOk P w K mg base CX0 2 f_is_field d_is_field ["value"] (spM K 1 [] Lib.F_is_field)) : FnOk P w K mg base CX0 3 f_check_field d_check_field ["field"] (spM K 1 [] Lib.F_check_field) :=
  def_ok A_check_field.fn sc_check_field rfl fun cdv A outer s H E hr =>
    (ss_one (s_if (et_not (et_tru (ev_fn (fun _ => G_is_field) (fun _ => hr.mono (by decide)) (fun _ => A_is_field.g) (fun _ => A_is_field.fn.kp) (fun _ => A_is_field.b) (ea_cons (ev_name 0) ea_nil) (na_cons na_nil)))) (ss_one s_never) ss_nil))
theorem okX_check_field (T : Txt K mg C_InvalidPoly C_InvalidOperation C_InvalidNumber C_TooMany C_Refused I_InvalidNumber I_TooMany I_Refused D_InvalidNumber D_TooMany D_Refused) {f_check_field : Addr} {d_check_field : FuncData} (A_check_field : DefAt K mg "check_field" s_check_field ["field"] f_check_field d_check_field) {f_is_field : Addr} {d_is_field : FuncData} (A_is_field : DefAt K mg "is_field" s_is_field ["value"] f_is_field d_is_field) (G_is_field : FnOk P w K mg base CX0 2 f_is_field d_is_field ["value"] (spM K 1 [] Lib.F_is_field)) : FnOk P w K mg base (L2.CX P w) 3 f_check_field d_check_field ["field"] (spX K mg 1 X_check_field) :=
  def_okX A_check_field.fn sc_check_field rfl fun cdv A outer s H E hr =>
    (xs_one (x_if (et_not (et_tru (ev_fn (fun _ => G_is_field) (fun _ => hr.mono (by decide)) (fun _ => A_is_field.g) (fun _ => A_is_field.fn.kp) (fun _ => A_is_field.b) (ea_cons (ev_name 0) ea_nil) (na_cons na_nil)))) (xs_one (x_raiseF (fun _ => rfl) (fun _ => takes_of rfl rfl rfl rfl) (fun _ => rfl) T.g_InvalidNumber PySem.F.excBase_IndexError T.o_InvalidNumber T.i_InvalidNumber T.t_InvalidNumber (fun _ => init_InvalidNumber T) (fun _ => hr.mono (by decide)) T.b_InvalidNumber (ev_name 0))) xs_nil))
theorem ok_check_number (T : Txt K mg C_InvalidPoly C_InvalidOperation C_InvalidNumber C_TooMany C_Refused I_InvalidNumber I_TooMany I_Refused D_InvalidNumber D_TooMany D_Refused) {f_check_number : Addr} {d_check_number : FuncData} (A_check_number : DefAt K mg "check_number" s_check_number ["field", "number"] f_check_number d_check_number) {f_check_integer : Addr} {d_check_integer : FuncData} (A_check_integer : DefAt K mg "check_integer" s_check_integer ["value", "least", "most"] f_check_integer d_check_integer) (G_check_integer : FnOk P w K mg base CX0 3 f_check_integer d_check_integer ["value", "least", "most"] (spM K 3 [] Lib.F_check_integer)) : FnOk P w K mg base CX0 4 f_check_number d_check_number ["field", "number"] (spM K 2 [] Lib.F_check_number) :=
  def_ok A_check_number.fn sc_check_number rfl fun cdv A outer s H E hr =>
    (ss_one (s_expr (ev_fn (fun _ => G_check_integer) (fun _ => hr.mono (by decide)) (fun _ => A_check_integer.g) (fun _ => A_check_integer.fn.kp) (fun _ => A_check_integer.b) (ea_cons (ev_name 1) (ea_cons ev_int (ea_cons (ev_bin od_sub (ev_name 0) ev_int) ea_nil))) (na_cons (na_cons (na_cons na_nil))))))
theorem okX_check_number (T : Txt K mg C_InvalidPoly C_InvalidOperation C_InvalidNumber C_TooMany C_Refused I_InvalidNumber I_TooMany I_Refused D_InvalidNumber D_TooMany D_Refused) {f_check_number : Addr} {d_check_number : FuncData} (A_check_number : DefAt K mg "check_number" s_check_number ["field", "number"] f_check_number d_check_number) {f_check_integer : Addr} {d_check_integer : FuncData} (A_check_integer : DefAt K mg "check_integer" s_check_integer ["value", "least", "most"] f_check_integer d_check_integer) (G_check_integer : FnOk P w K mg base CX0 3 f_check_integer d_check_integer ["value", "least", "most"] (spM K 3 [] Lib.F_check_integer)) (GX_check_integer : FnOk P w K mg base (L2.CX P w) 3 f_check_integer d_check_integer ["value", "least", "most"] (spX K mg 3 X_check_integer)) : FnOk P w K mg base (L2.CX P w) 4 f_check_number d_check_number ["field", "number"] (spX K mg 2 X_check_number) :=
  def_okX A_check_number.fn sc_check_number rfl fun cdv A outer s H E hr =>
    (xs_one (x_drop (x_fn (fun _ => takes_of rfl rfl rfl rfl) (fun _ => GX_check_integer) (fun _ => hr.mono (by decide)) (fun _ => A_check_integer.g) (fun _ => A_check_integer.fn.kp) (fun _ => A_check_integer.b) (ea_cons (ev_name 1) (ea_cons ev_int (ea_cons (ev_bin od_sub (ev_name 0) ev_int) ea_nil))) (na_cons (na_cons (na_cons na_nil))))))
theorem ok_raised (T : Txt K mg C_InvalidPoly C_InvalidOperation C_InvalidNumber C_TooMany C_Refused I_InvalidNumber I_TooMany I_Refused D_InvalidNumber D_TooMany D_Refused) {f_raised : Addr} {d_raised : FuncData} (A_raised : DefAt K mg "raised" s_raised ["field", "number", "many"] f_raised d_raised) : FnOk P w K mg base CX0 1 f_raised d_raised ["field", "number", "many"] (spM K 3 [] Lib.F_raised) :=
  def_ok A_raised.fn sc_raised rfl fun cdv A outer s H E hr =>
    (ss_cons (s_set 3 ev_int (fun _ => sc_raised.nd))
    (ss_cons (s_set 4 (ev_bin od_mod (ev_name 1) (ev_name 0)) (fun _ => sc_raised.nd))
    (ss_cons (s_set 5 (ev_name 2) (fun _ => sc_raised.nd))
    (ss_cons (s_while EV.fuel (fun _ => PassesOwn.never) (et_cmp od_gt (ev_name 5) ev_int) (ss_cons (s_if (et_cmp (od_eq (fun _ => hr.units)) (ev_bin od_mod (ev_name 5) ev_int) ev_int) (ss_one (s_set 3 (ev_bin od_mod (ev_bin od_mul (ev_name 3) (ev_name 4)) (ev_name 0)) (fun _ => sc_raised.nd))) ss_nil)
    (ss_cons (s_set 4 (ev_bin od_mod (ev_bin od_mul (ev_name 4) (ev_name 4)) (ev_name 0)) (fun _ => sc_raised.nd))
    (ss_one (s_set 5 (ev_bin od_fdiv (ev_name 5) ev_int) (fun _ => sc_raised.nd))))))
    (ss_one (s_ret (ev_name 3)))))))
theorem ok_inverse (T : Txt K mg C_InvalidPoly C_InvalidOperation C_InvalidNumber C_TooMany C_Refused I_InvalidNumber I_TooMany I_Refused D_InvalidNumber D_TooMany D_Refused) {f_inverse : Addr} {d_inverse : FuncData} (A_inverse : DefAt K mg "inverse" s_inverse ["field", "number"] f_inverse d_inverse) {f_raised : Addr} {d_raised : FuncData} (A_raised : DefAt K mg "raised" s_raised ["field", "number", "many"] f_raised d_raised) (G_raised : FnOk P w K mg base CX0 1 f_raised d_raised ["field", "number", "many"] (spM K 3 [] Lib.F_raised)) : FnOk P w K mg base CX0 2 f_inverse d_inverse ["field", "number"] (spM K 2 [] Lib.F_inverse) :=
  def_ok A_inverse.fn sc_inverse rfl fun cdv A outer s H E hr =>
    (ss_one (s_ret (ev_fn (fun _ => G_raised) (fun _ => hr.mono (by decide)) (fun _ => A_raised.g) (fun _ => A_raised.fn.kp) (fun _ => A_raised.b) (ea_cons (ev_name 0) (ea_cons (ev_name 1) (ea_cons (ev_bin od_sub (ev_name 0) ev_int) ea_nil))) (na_cons (na_cons (na_cons na_nil))))))
theorem ok_is_poly (T : Txt K mg C_InvalidPoly C_InvalidOperation C_InvalidNumber C_TooMany C_Refused I_InvalidNumber I_TooMany I_Refused D_InvalidNumber D_TooMany D_Refused) {f_is_poly : Addr} {d_is_poly : FuncData} (A_is_poly : DefAt K mg "is_poly" s_is_poly ["field", "value"] f_is_poly d_is_poly) {f_check_field : Addr} {d_check_field : FuncData} (A_check_field : DefAt K mg "check_field" s_check_field ["field"] f_check_field d_check_field) (G_check_field : FnOk P w K mg base CX0 3 f_check_field d_check_field ["field"] (spM K 1 [] Lib.F_check_field)) {f_are_numbers : Addr} {d_are_numbers : FuncData} (A_are_numbers : DefAt K mg "are_numbers" s_are_numbers ["field", "value"] f_are_numbers d_are_numbers) (G_are_numbers : FnOk P w K mg base CX0 1 f_are_numbers d_are_numbers ["field", "value"] (spM K 2 [] Lib.F_are_numbers)) : FnOk P w K mg base CX0 4 f_is_poly d_is_poly ["field", "value"] (spM K 2 [] Lib.F_is_poly) :=
  def_ok A_is_poly.fn sc_is_poly rfl fun cdv A outer s H E hr =>
    (ss_cons (s_expr (ev_fn (fun _ => G_check_field) (fun _ => hr.mono (by decide)) (fun _ => A_check_field.g) (fun _ => A_check_field.fn.kp) (fun _ => A_check_field.b) (ea_cons (ev_name 0) ea_nil) (na_cons na_nil)))
    (ss_cons (s_if (et_w (ew_or (et_not (et_tru (ev_fn (fun _ => G_are_numbers) (fun _ => hr.mono (by decide)) (fun _ => A_are_numbers.g) (fun _ => A_are_numbers.fn.kp) (fun _ => A_are_numbers.b) (ea_cons (ev_name 0) (ea_cons (ev_name 1) ea_nil)) (na_cons (na_cons na_nil))))) (ew_or1 (et_cmp od_gt (ev_callB cd_len (fun _ => T.n_len) (ea_cons (ev_name 1) ea_nil)) (ev_bin od_add (ev_glob (fun _ => rfl) (fun _ => T.c_MAX_DEGREE.choose_spec.1) T.c_MAX_DEGREE.choose_spec.2.1 T.c_MAX_DEGREE.choose_spec.2.2) ev_int))))) (ss_one (s_ret ev_bl)) ss_nil)
    (ss_one (s_ret (ev_or (ev_cmp (od_eq (fun _ => hr.units)) (ev_name 1) (ev_tup ea_nil)) (ev_one (ev_cmp (od_ne (fun _ => hr.units)) (ev_ix (ev_name 1) (ev_neg ev_int)) ev_int)))))))
theorem okX_is_poly (T : Txt K mg C_InvalidPoly C_InvalidOperation C_InvalidNumber C_TooMany C_Refused I_InvalidNumber I_TooMany I_Refused D_InvalidNumber D_TooMany D_Refused) {f_is_poly : Addr} {d_is_poly : FuncData} (A_is_poly : DefAt K mg "is_poly" s_is_poly ["field", "value"] f_is_poly d_is_poly) {f_check_field : Addr} {d_check_field : FuncData} (A_check_field : DefAt K mg "check_field" s_check_field ["field"] f_check_field d_check_field) (G_check_field : FnOk P w K mg base CX0 3 f_check_field d_check_field ["field"] (spM K 1 [] Lib.F_check_field)) (GX_check_field : FnOk P w K mg base (L2.CX P w) 3 f_check_field d_check_field ["field"] (spX K mg 1 X_check_field)) : FnOk P w K mg base (L2.CX P w) 4 f_is_poly d_is_poly ["field", "value"] (spX K mg 2 X_is_poly) :=
  def_okX A_is_poly.fn sc_is_poly rfl fun cdv A outer s H E hr =>
    (xs_cons (s_expr (ev_fn (fun _ => G_check_field) (fun _ => hr.mono (by decide)) (fun _ => A_check_field.g) (fun _ => A_check_field.fn.kp) (fun _ => A_check_field.b) (ea_cons (ev_name 0) ea_nil) (na_cons na_nil)))
    (x_drop (x_fn (fun _ => takes_of rfl rfl rfl rfl) (fun _ => GX_check_field) (fun _ => hr.mono (by decide)) (fun _ => A_check_field.g) (fun _ => A_check_field.fn.kp) (fun _ => A_check_field.b) (ea_cons (ev_name 0) ea_nil) (na_cons na_nil)))
    xs_nil)
theorem ok_are_unlike (T : Txt K mg C_InvalidPoly C_InvalidOperation C_InvalidNumber C_TooMany C_Refused I_InvalidNumber I_TooMany I_Refused D_InvalidNumber D_TooMany D_Refused) {f_are_unlike : Addr} {d_are_unlike : FuncData} (A_are_unlike : DefAt K mg "are_unlike" s_are_unlike ["field", "value"] f_are_unlike d_are_unlike) {f_are_numbers : Addr} {d_are_numbers : FuncData} (A_are_numbers : DefAt K mg "are_numbers" s_are_numbers ["field", "value"] f_are_numbers d_are_numbers) (G_are_numbers : FnOk P w K mg base CX0 1 f_are_numbers d_are_numbers ["field", "value"] (spM K 2 [] Lib.F_are_numbers)) : FnOk P w K mg base CX0 2 f_are_unlike d_are_unlike ["field", "value"] (spM K 2 [] Lib.F_are_unlike) :=
  def_ok A_are_unlike.fn sc_are_unlike rfl fun cdv A outer s H E hr =>
    (ss_one (s_ret (ev_and (ev_fn (fun _ => G_are_numbers) (fun _ => hr.mono (by decide)) (fun _ => A_are_numbers.g) (fun _ => A_are_numbers.fn.kp) (fun _ => A_are_numbers.b) (ea_cons (ev_name 0) (ea_cons (ev_name 1) ea_nil)) (na_cons (na_cons na_nil))) (ev_and (ev_cmp od_le (ev_callB cd_len (fun _ => T.n_len) (ea_cons (ev_name 1) ea_nil)) (ev_glob (fun _ => rfl) (fun _ => T.c_MAX_SIDE.choose_spec.1) T.c_MAX_SIDE.choose_spec.2.1 T.c_MAX_SIDE.choose_spec.2.2)) (ev_one (ev_cmp (od_eq (fun _ => hr.units)) (ev_lenSet (fun _ => rfl) (fun _ => T.n_len) (fun _ => T.n_set) (ev_name 1)) (ev_callB cd_len (fun _ => T.n_len) (ea_cons (ev_name 1) ea_nil))))))))
theorem ok_check_poly (T : Txt K mg C_InvalidPoly C_InvalidOperation C_InvalidNumber C_TooMany C_Refused I_InvalidNumber I_TooMany I_Refused D_InvalidNumber D_TooMany D_Refused) {f_check_poly : Addr} {d_check_poly : FuncData} (A_check_poly : DefAt K mg "check_poly" s_check_poly ["field", "poly"] f_check_poly d_check_poly) {f_is_poly : Addr} {d_is_poly : FuncData} (A_is_poly : DefAt K mg "is_poly" s_is_poly ["field", "value"] f_is_poly d_is_poly) (G_is_poly : FnOk P w K mg base CX0 4 f_is_poly d_is_poly ["field", "value"] (spM K 2 [] Lib.F_is_poly)) : FnOk P w K mg base CX0 5 f_check_poly d_check_poly ["field", "poly"] (spM K 2 [] Lib.F_check_poly) :=
  def_ok A_check_poly.fn sc_check_poly rfl fun cdv A outer s H E hr =>
    (ss_one (s_if (et_not (et_tru (ev_fn (fun _ => G_is_poly) (fun _ => hr.mono (by decide)) (fun _ => A_is_poly.g) (fun _ => A_is_poly.fn.kp) (fun _ => A_is_poly.b) (ea_cons (ev_name 0) (ea_cons (ev_name 1) ea_nil)) (na_cons (na_cons na_nil))))) (ss_one s_never) ss_nil))
theorem okX_check_poly (T : Txt K mg C_InvalidPoly C_InvalidOperation C_InvalidNumber C_TooMany C_Refused I_InvalidNumber I_TooMany I_Refused D_InvalidNumber D_TooMany D_Refused) {f_check_poly : Addr} {d_check_poly : FuncData} (A_check_poly : DefAt K mg "check_poly" s_check_poly ["field", "poly"] f_check_poly d_check_poly) {f_is_poly : Addr} {d_is_poly : FuncData} (A_is_poly : DefAt K mg "is_poly" s_is_poly ["field", "value"] f_is_poly d_is_poly) (G_is_poly : FnOk P w K mg base CX0 4 f_is_poly d_is_poly ["field", "value"] (spM K 2 [] Lib.F_is_poly)) : FnOk P w K mg base (L2.CX P w) 5 f_check_poly d_check_poly ["field", "poly"] (spX K mg 2 X_check_poly) :=
  def_okX A_check_poly.fn sc_check_poly rfl fun cdv A outer s H E hr =>
    (xs_one (x_if (et_not (et_tru (ev_fn (fun _ => G_is_poly) (fun _ => hr.mono (by decide)) (fun _ => A_is_poly.g) (fun _ => A_is_poly.fn.kp) (fun _ => A_is_poly.b) (ea_cons (ev_name 0) (ea_cons (ev_name 1) ea_nil)) (na_cons (na_cons na_nil))))) (xs_one (x_raise (fun _ => rfl) (fun _ => takes_of rfl rfl rfl rfl) (fun _ => rfl) T.e_InvalidPoly)) xs_nil))
theorem ok_check_places (T : Txt K mg C_InvalidPoly C_InvalidOperation C_InvalidNumber C_TooMany C_Refused I_InvalidNumber I_TooMany I_Refused D_InvalidNumber D_TooMany D_Refused) {f_check_places : Addr} {d_check_places : FuncData} (A_check_places : DefAt K mg "check_places" s_check_places ["field", "places"] f_check_places d_check_places) {f_are_unlike : Addr} {d_are_unlike : FuncData} (A_are_unlike : DefAt K mg "are_unlike" s_are_unlike ["field", "value"] f_are_unlike d_are_unlike) (G_are_unlike : FnOk P w K mg base CX0 2 f_are_unlike d_are_unlike ["field", "value"] (spM K 2 [] Lib.F_are_unlike)) : FnOk P w K mg base CX0 3 f_check_places d_check_places ["field", "places"] (spM K 2 [] Lib.F_check_places) :=
  def_ok A_check_places.fn sc_check_places rfl fun cdv A outer s H E hr =>
    (ss_one (s_if (et_w (ew_or (et_not (et_tru (ev_fn (fun _ => G_are_unlike) (fun _ => hr.mono (by decide)) (fun _ => A_are_unlike.g) (fun _ => A_are_unlike.fn.kp) (fun _ => A_are_unlike.b) (ea_cons (ev_name 0) (ea_cons (ev_name 1) ea_nil)) (na_cons (na_cons na_nil))))) (ew_or1 (et_not (et_tru (ev_name 1)))))) (ss_one s_never) ss_nil))
theorem okX_check_places (T : Txt K mg C_InvalidPoly C_InvalidOperation C_InvalidNumber C_TooMany C_Refused I_InvalidNumber I_TooMany I_Refused D_InvalidNumber D_TooMany D_Refused) {f_check_places : Addr} {d_check_places : FuncData} (A_check_places : DefAt K mg "check_places" s_check_places ["field", "places"] f_check_places d_check_places) {f_are_unlike : Addr} {d_are_unlike : FuncData} (A_are_unlike : DefAt K mg "are_unlike" s_are_unlike ["field", "value"] f_are_unlike d_are_unlike) (G_are_unlike : FnOk P w K mg base CX0 2 f_are_unlike d_are_unlike ["field", "value"] (spM K 2 [] Lib.F_are_unlike)) : FnOk P w K mg base (L2.CX P w) 3 f_check_places d_check_places ["field", "places"] (spX K mg 2 X_check_places) :=
  def_okX A_check_places.fn sc_check_places rfl fun cdv A outer s H E hr =>
    (xs_one (x_if (et_w (ew_or (et_not (et_tru (ev_fn (fun _ => G_are_unlike) (fun _ => hr.mono (by decide)) (fun _ => A_are_unlike.g) (fun _ => A_are_unlike.fn.kp) (fun _ => A_are_unlike.b) (ea_cons (ev_name 0) (ea_cons (ev_name 1) ea_nil)) (na_cons (na_cons na_nil))))) (ew_or1 (et_not (et_tru (ev_name 1)))))) (xs_one (x_raise (fun _ => rfl) (fun _ => takes_of rfl rfl rfl rfl) (fun _ => rfl) T.e_InvalidOperation)) xs_nil))
theorem ok_check_hidden_places (T : Txt K mg C_InvalidPoly C_InvalidOperation C_InvalidNumber C_TooMany C_Refused I_InvalidNumber I_TooMany I_Refused D_InvalidNumber D_TooMany D_Refused) {f_check_hidden_places : Addr} {d_check_hidden_places : FuncData} (A_check_hidden_places : DefAt K mg "check_hidden_places" s_check_hidden_places ["field", "places"] f_check_hidden_places d_check_hidden_places) {f_are_unlike : Addr} {d_are_unlike : FuncData} (A_are_unlike : DefAt K mg "are_unlike" s_are_unlike ["field", "value"] f_are_unlike d_are_unlike) (G_are_unlike : FnOk P w K mg base CX0 2 f_are_unlike d_are_unlike ["field", "value"] (spM K 2 [] Lib.F_are_unlike)) : FnOk P w K mg base CX0 3 f_check_hidden_places d_check_hidden_places ["field", "places"] (spM K 2 [] Lib.F_check_hidden_places) :=
  def_ok A_check_hidden_places.fn sc_check_hidden_places rfl fun cdv A outer s H E hr =>
    (ss_one (s_if (et_w (ew_or (et_not (et_tru (ev_fn (fun _ => G_are_unlike) (fun _ => hr.mono (by decide)) (fun _ => A_are_unlike.g) (fun _ => A_are_unlike.fn.kp) (fun _ => A_are_unlike.b) (ea_cons (ev_name 0) (ea_cons (ev_name 1) ea_nil)) (na_cons (na_cons na_nil))))) (ew_or1 (et_cmp od_in ev_int (ev_name 1))))) (ss_one s_never) ss_nil))
theorem okX_check_hidden_places (T : Txt K mg C_InvalidPoly C_InvalidOperation C_InvalidNumber C_TooMany C_Refused I_InvalidNumber I_TooMany I_Refused D_InvalidNumber D_TooMany D_Refused) {f_check_hidden_places : Addr} {d_check_hidden_places : FuncData} (A_check_hidden_places : DefAt K mg "check_hidden_places" s_check_hidden_places ["field", "places"] f_check_hidden_places d_check_hidden_places) {f_are_unlike : Addr} {d_are_unlike : FuncData} (A_are_unlike : DefAt K mg "are_unlike" s_are_unlike ["field", "value"] f_are_unlike d_are_unlike) (G_are_unlike : FnOk P w K mg base CX0 2 f_are_unlike d_are_unlike ["field", "value"] (spM K 2 [] Lib.F_are_unlike)) : FnOk P w K mg base (L2.CX P w) 3 f_check_hidden_places d_check_hidden_places ["field", "places"] (spX K mg 2 X_check_hidden_places) :=
  def_okX A_check_hidden_places.fn sc_check_hidden_places rfl fun cdv A outer s H E hr =>
    (xs_one (x_if (et_w (ew_or (et_not (et_tru (ev_fn (fun _ => G_are_unlike) (fun _ => hr.mono (by decide)) (fun _ => A_are_unlike.g) (fun _ => A_are_unlike.fn.kp) (fun _ => A_are_unlike.b) (ea_cons (ev_name 0) (ea_cons (ev_name 1) ea_nil)) (na_cons (na_cons na_nil))))) (ew_or1 (et_cmp od_in ev_int (ev_name 1))))) (xs_one (x_raise (fun _ => rfl) (fun _ => takes_of rfl rfl rfl rfl) (fun _ => rfl) T.e_InvalidOperation)) xs_nil))
theorem ok_check_points (T : Txt K mg C_InvalidPoly C_InvalidOperation C_InvalidNumber C_TooMany C_Refused I_InvalidNumber I_TooMany I_Refused D_InvalidNumber D_TooMany D_Refused) {f_check_points : Addr} {d_check_points : FuncData} (A_check_points : DefAt K mg "check_points" s_check_points ["field", "points"] f_check_points d_check_points) {f_are_numbers : Addr} {d_are_numbers : FuncData} (A_are_numbers : DefAt K mg "are_numbers" s_are_numbers ["field", "value"] f_are_numbers d_are_numbers) (G_are_numbers : FnOk P w K mg base CX0 1 f_are_numbers d_are_numbers ["field", "value"] (spM K 2 [] Lib.F_are_numbers)) {f_check_places : Addr} {d_check_places : FuncData} (A_check_places : DefAt K mg "check_places" s_check_places ["field", "places"] f_check_places d_check_places) (G_check_places : FnOk P w K mg base CX0 3 f_check_places d_check_places ["field", "places"] (spM K 2 [] Lib.F_check_places)) : FnOk P w K mg base CX0 4 f_check_points d_check_points ["field", "points"] (spM K 2 [] Lib.F_check_points) :=
  def_ok A_check_points.fn sc_check_points rfl fun cdv A outer s H E hr =>
    (ss_cons (s_if (et_w (ew_or (et_not (et_tru (ev_isi (T := "tuple") (ev_name 1) (fun _ => T.n_isinstance) (fun _ => T.n_tuple)))) (ew_or1 (et_not (et_tru (ev_callB (cd_all (fun _ => rfl)) (fun _ => T.n_all) (ea_cons (ev_comp (own := [("pair", 2)]) (fun _ => rfl) (fun _ => sc_check_points.nd) (fun _ => by show BlkOk N_check_points (defScope s_check_points) _ _; exact blkOk_by (by decide +kernel)) (ei_val (ev_name 1)) (eg_name 2 (fun _ => sc_check_points.nd)) ets_nil (ev_and (ev_fn (fun _ => G_are_numbers) (fun _ => hr.mono (by decide)) (fun _ => A_are_numbers.g) (fun _ => A_are_numbers.fn.kp) (fun _ => A_are_numbers.b) (ea_cons (ev_name 0) (ea_cons (ev_name 2) ea_nil)) (na_cons (na_cons na_nil))) (ev_one (ev_cmp (od_eq (fun _ => hr.units)) (ev_callB cd_len (fun _ => T.n_len) (ea_cons (ev_name 2) ea_nil)) ev_int)))) ea_nil))))))) (ss_one s_never) ss_nil)
    (ss_one (s_expr (ev_fn (fun _ => G_check_places) (fun _ => hr.mono (by decide)) (fun _ => A_check_places.g) (fun _ => A_check_places.fn.kp) (fun _ => A_check_places.b) (ea_cons (ev_name 0) (ea_cons (ev_callTy cd_tuple (fun _ => T.n_tuple) (ea_cons (ev_comp (own := [("place", 3), ("value", 4)]) (fun _ => rfl) (fun _ => sc_check_points.nd) (fun _ => by show BlkOk N_check_points (defScope s_check_points) _ _; exact blkOk_by (by decide +kernel)) (ei_val (ev_name 1)) (eg_tup [3, 4] (fun _ => rfl) (fun _ => (pgs_cons (pg_name (i := 3) sc_check_points.nd rfl (by first | exact Or.inl rfl | exact Or.inr rfl)) (pgs_cons (pg_name (i := 4) sc_check_points.nd rfl (by first | exact Or.inl rfl | exact Or.inr rfl)) pgs_nil)))) ets_nil (ev_name 3)) ea_nil)) ea_nil)) (na_cons (na_cons na_nil))))))
theorem okX_check_points (T : Txt K mg C_InvalidPoly C_InvalidOperation C_InvalidNumber C_TooMany C_Refused I_InvalidNumber I_TooMany I_Refused D_InvalidNumber D_TooMany D_Refused) {f_check_points : Addr} {d_check_points : FuncData} (A_check_points : DefAt K mg "check_points" s_check_points ["field", "points"] f_check_points d_check_points) {f_are_numbers : Addr} {d_are_numbers : FuncData} (A_are_numbers : DefAt K mg "are_numbers" s_are_numbers ["field", "value"] f_are_numbers d_are_numbers) (G_are_numbers : FnOk P w K mg base CX0 1 f_are_numbers d_are_numbers ["field", "value"] (spM K 2 [] Lib.F_are_numbers)) {f_check_places : Addr} {d_check_places : FuncData} (A_check_places : DefAt K mg "check_places" s_check_places ["field", "places"] f_check_places d_check_places) (G_check_places : FnOk P w K mg base CX0 3 f_check_places d_check_places ["field", "places"] (spM K 2 [] Lib.F_check_places)) (GX_check_places : FnOk P w K mg base (L2.CX P w) 3 f_check_places d_check_places ["field", "places"] (spX K mg 2 X_check_places)) : FnOk P w K mg base (L2.CX P w) 4 f_check_points d_check_points ["field", "points"] (spX K mg 2 X_check_points) :=
  def_okX A_check_points.fn sc_check_points rfl fun cdv A outer s H E hr =>
    (xs_cons (s_if (et_w (ew_or (et_not (et_tru (ev_isi (T := "tuple") (ev_name 1) (fun _ => T.n_isinstance) (fun _ => T.n_tuple)))) (ew_or1 (et_not (et_tru (ev_callB (cd_all (fun _ => rfl)) (fun _ => T.n_all) (ea_cons (ev_comp (own := [("pair", 2)]) (fun _ => rfl) (fun _ => sc_check_points.nd) (fun _ => by show BlkOk N_check_points (defScope s_check_points) _ _; exact blkOk_by (by decide +kernel)) (ei_val (ev_name 1)) (eg_name 2 (fun _ => sc_check_points.nd)) ets_nil (ev_and (ev_fn (fun _ => G_are_numbers) (fun _ => hr.mono (by decide)) (fun _ => A_are_numbers.g) (fun _ => A_are_numbers.fn.kp) (fun _ => A_are_numbers.b) (ea_cons (ev_name 0) (ea_cons (ev_name 2) ea_nil)) (na_cons (na_cons na_nil))) (ev_one (ev_cmp (od_eq (fun _ => hr.units)) (ev_callB cd_len (fun _ => T.n_len) (ea_cons (ev_name 2) ea_nil)) ev_int)))) ea_nil))))))) (ss_one s_never) ss_nil)
    (x_if (et_w (ew_or (et_not (et_tru (ev_isi (T := "tuple") (ev_name 1) (fun _ => T.n_isinstance) (fun _ => T.n_tuple)))) (ew_or1 (et_not (et_tru (ev_callB (cd_all (fun _ => rfl)) (fun _ => T.n_all) (ea_cons (ev_comp (own := [("pair", 2)]) (fun _ => rfl) (fun _ => sc_check_points.nd) (fun _ => by show BlkOk N_check_points (defScope s_check_points) _ _; exact blkOk_by (by decide +kernel)) (ei_val (ev_name 1)) (eg_name 2 (fun _ => sc_check_points.nd)) ets_nil (ev_and (ev_fn (fun _ => G_are_numbers) (fun _ => hr.mono (by decide)) (fun _ => A_are_numbers.g) (fun _ => A_are_numbers.fn.kp) (fun _ => A_are_numbers.b) (ea_cons (ev_name 0) (ea_cons (ev_name 2) ea_nil)) (na_cons (na_cons na_nil))) (ev_one (ev_cmp (od_eq (fun _ => hr.units)) (ev_callB cd_len (fun _ => T.n_len) (ea_cons (ev_name 2) ea_nil)) ev_int)))) ea_nil))))))) (xs_one (x_raise (fun _ => rfl) (fun _ => takes_of rfl rfl rfl rfl) (fun _ => rfl) T.e_InvalidOperation)) xs_nil)
    (xs_cons (s_expr (ev_fn (fun _ => G_check_places) (fun _ => hr.mono (by decide)) (fun _ => A_check_places.g) (fun _ => A_check_places.fn.kp) (fun _ => A_check_places.b) (ea_cons (ev_name 0) (ea_cons (ev_callTy cd_tuple (fun _ => T.n_tuple) (ea_cons (ev_comp (own := [("place", 3), ("value", 4)]) (fun _ => rfl) (fun _ => sc_check_points.nd) (fun _ => by show BlkOk N_check_points (defScope s_check_points) _ _; exact blkOk_by (by decide +kernel)) (ei_val (ev_name 1)) (eg_tup [3, 4] (fun _ => rfl) (fun _ => (pgs_cons (pg_name (i := 3) sc_check_points.nd rfl (by first | exact Or.inl rfl | exact Or.inr rfl)) (pgs_cons (pg_name (i := 4) sc_check_points.nd rfl (by first | exact Or.inl rfl | exact Or.inr rfl)) pgs_nil)))) ets_nil (ev_name 3)) ea_nil)) ea_nil)) (na_cons (na_cons na_nil))))
    (x_drop (x_fn (fun _ => takes_of rfl rfl rfl rfl) (fun _ => GX_check_places) (fun _ => hr.mono (by decide)) (fun _ => A_check_places.g) (fun _ => A_check_places.fn.kp) (fun _ => A_check_places.b) (ea_cons (ev_name 0) (ea_cons (ev_callTy cd_tuple (fun _ => T.n_tuple) (ea_cons (ev_comp (own := [("place", 3), ("value", 4)]) (fun _ => rfl) (fun _ => sc_check_points.nd) (fun _ => by show BlkOk N_check_points (defScope s_check_points) _ _; exact blkOk_by (by decide +kernel)) (ei_val (ev_name 1)) (eg_tup [3, 4] (fun _ => rfl) (fun _ => (pgs_cons (pg_name (i := 3) sc_check_points.nd rfl (by first | exact Or.inl rfl | exact Or.inr rfl)) (pgs_cons (pg_name (i := 4) sc_check_points.nd rfl (by first | exact Or.inl rfl | exact Or.inr rfl)) pgs_nil)))) ets_nil (ev_name 3)) ea_nil)) ea_nil)) (na_cons (na_cons na_nil))))
    xs_nil))
theorem ok_trimmed (T : Txt K mg C_InvalidPoly C_InvalidOperation C_InvalidNumber C_TooMany C_Refused I_InvalidNumber I_TooMany I_Refused D_InvalidNumber D_TooMany D_Refused) {f_trimmed : Addr} {d_trimmed : FuncData} (A_trimmed : DefAt K mg "trimmed" s_trimmed ["numbers"] f_trimmed d_trimmed) : FnOk P w K mg base CX0 1 f_trimmed d_trimmed ["numbers"] (spM K 1 [] Lib.F_trimmed) :=
  def_ok A_trimmed.fn sc_trimmed rfl fun cdv A outer s H E hr =>
    (ss_cons (s_set 1 (ev_callB cd_len (fun _ => T.n_len) (ea_cons (ev_name 0) ea_nil)) (fun _ => sc_trimmed.nd))
    (ss_cons (s_while EV.fuel (fun _ => PassesOwn.never) (et_w (ew_and (et_cmp od_gt (ev_name 1) ev_int) (ew_and1 (et_cmp (od_eq (fun _ => hr.units)) (ev_ix (ev_name 0) (ev_bin od_sub (ev_name 1) ev_int)) ev_int)))) (ss_one (s_aug 1 ev_int (fun _ => ip_sub) (fun _ => sc_trimmed.nd))))
    (ss_one (s_ret (ev_callTy cd_tuple (fun _ => T.n_tuple) (ea_cons (ev_sl (ev_name 0) eo_none (eo_some (ev_name 1))) ea_nil))))))
theorem ok_padded (T : Txt K mg C_InvalidPoly C_InvalidOperation C_InvalidNumber C_TooMany C_Refused I_InvalidNumber I_TooMany I_Refused D_InvalidNumber D_TooMany D_Refused) {f_padded : Addr} {d_padded : FuncData} (A_padded : DefAt K mg "padded" s_padded ["poly", "many"] f_padded d_padded) : FnOk P w K mg base CX0 1 f_padded d_padded ["poly", "many"] (spM K 2 [] Lib.F_padded) :=
  def_ok A_padded.fn sc_padded rfl fun cdv A outer s H E hr =>
    (ss_one (s_ret (ev_bin od_add (ev_callTy cd_tuple (fun _ => T.n_tuple) (ea_cons (ev_name 0) ea_nil)) (ev_bin od_mulT (ev_tup (ea_cons ev_int ea_nil)) (ev_bin od_sub (ev_name 1) (ev_callB cd_len (fun _ => T.n_len) (ea_cons (ev_name 0) ea_nil)))))))
theorem ok_scaled (T : Txt K mg C_InvalidPoly C_InvalidOperation C_InvalidNumber C_TooMany C_Refused I_InvalidNumber I_TooMany I_Refused D_InvalidNumber D_TooMany D_Refused) {f_scaled : Addr} {d_scaled : FuncData} (A_scaled : DefAt K mg "scaled" s_scaled ["field", "poly", "number"] f_scaled d_scaled) : FnOk P w K mg base CX0 1 f_scaled d_scaled ["field", "poly", "number"] (spM K 3 [] Lib.F_scaled) :=
  def_ok A_scaled.fn sc_scaled rfl fun cdv A outer s H E hr =>
    (ss_one (s_ret (ev_comp (own := [("x", 3)]) (fun _ => rfl) (fun _ => sc_scaled.nd) (fun _ => by show BlkOk N_scaled (defScope s_scaled) _ _; exact blkOk_by (by decide +kernel)) (ei_val (ev_name 1)) (eg_name 3 (fun _ => sc_scaled.nd)) ets_nil (ev_bin od_mod (ev_bin od_mul (ev_name 2) (ev_name 3)) (ev_name 0)))))
theorem ok_added (T : Txt K mg C_InvalidPoly C_InvalidOperation C_InvalidNumber C_TooMany C_Refused I_InvalidNumber I_TooMany I_Refused D_InvalidNumber D_TooMany D_Refused) {f_added : Addr} {d_added : FuncData} (A_added : DefAt K mg "added" s_added ["field", "one", "other"] f_added d_added) {f_trimmed : Addr} {d_trimmed : FuncData} (A_trimmed : DefAt K mg "trimmed" s_trimmed ["numbers"] f_trimmed d_trimmed) (G_trimmed : FnOk P w K mg base CX0 1 f_trimmed d_trimmed ["numbers"] (spM K 1 [] Lib.F_trimmed)) {f_padded : Addr} {d_padded : FuncData} (A_padded : DefAt K mg "padded" s_padded ["poly", "many"] f_padded d_padded) (G_padded : FnOk P w K mg base CX0 1 f_padded d_padded ["poly", "many"] (spM K 2 [] Lib.F_padded)) : FnOk P w K mg base CX0 2 f_added d_added ["field", "one", "other"] (spM K 3 [] Lib.F_added) :=
  def_ok A_added.fn sc_added rfl fun cdv A outer s H E hr =>
    (ss_cons (s_set 3 (ev_callB (cd_max (fun _ => rfl)) (fun _ => T.n_max) (ea_cons (ev_callB cd_len (fun _ => T.n_len) (ea_cons (ev_name 1) ea_nil)) (ea_cons (ev_callB cd_len (fun _ => T.n_len) (ea_cons (ev_name 2) ea_nil)) ea_nil))) (fun _ => sc_added.nd))
    (ss_one (s_ret (ev_fn (fun _ => G_trimmed) (fun _ => hr.mono (by decide)) (fun _ => A_trimmed.g) (fun _ => A_trimmed.fn.kp) (fun _ => A_trimmed.b) (ea_cons (ev_comp (own := [("x", 4), ("y", 5)]) (fun _ => rfl) (fun _ => sc_added.nd) (fun _ => by show BlkOk N_added (defScope s_added) _ _; exact blkOk_by (by decide +kernel)) (ei_zipA (fun _ => T.n_zip) (ea_cons (ev_fn (fun _ => G_padded) (fun _ => hr.mono (by decide)) (fun _ => A_padded.g) (fun _ => A_padded.fn.kp) (fun _ => A_padded.b) (ea_cons (ev_name 1) (ea_cons (ev_name 3) ea_nil)) (na_cons (na_cons na_nil))) (ea_cons (ev_fn (fun _ => G_padded) (fun _ => hr.mono (by decide)) (fun _ => A_padded.g) (fun _ => A_padded.fn.kp) (fun _ => A_padded.b) (ea_cons (ev_name 2) (ea_cons (ev_name 3) ea_nil)) (na_cons (na_cons na_nil))) ea_nil))) (eg_tup [4, 5] (fun _ => rfl) (fun _ => (pgs_cons (pg_name (i := 4) sc_added.nd rfl (by first | exact Or.inl rfl | exact Or.inr rfl)) (pgs_cons (pg_name (i := 5) sc_added.nd rfl (by first | exact Or.inl rfl | exact Or.inr rfl)) pgs_nil)))) ets_nil (ev_bin od_mod (ev_bin od_add (ev_name 4) (ev_name 5)) (ev_name 0))) ea_nil) (na_cons na_nil)))))
theorem ok_multiplied (T : Txt K mg C_InvalidPoly C_InvalidOperation C_InvalidNumber C_TooMany C_Refused I_InvalidNumber I_TooMany I_Refused D_InvalidNumber D_TooMany D_Refused) {f_multiplied : Addr} {d_multiplied : FuncData} (A_multiplied : DefAt K mg "multiplied" s_multiplied ["field", "one", "other"] f_multiplied d_multiplied) : FnOk P w K mg base CX0 1 f_multiplied d_multiplied ["field", "one", "other"] (spM K 3 [] Lib.F_multiplied) :=
  def_ok A_multiplied.fn sc_multiplied rfl fun cdv A outer s H E hr =>
    (ss_cons (s_if (et_w (ew_or (et_not (et_tru (ev_name 1))) (ew_or1 (et_not (et_tru (ev_name 2)))))) (ss_one (s_ret (ev_tup ea_nil))) ss_nil)
    (ss_cons (s_set 3 (ev_repL (ev_lst (ea_cons ev_int ea_nil)) (ev_bin od_sub (ev_bin od_add (ev_callB cd_len (fun _ => T.n_len) (ea_cons (ev_name 1) ea_nil)) (ev_callB cd_len (fun _ => T.n_len) (ea_cons (ev_name 2) ea_nil))) ev_int)) (fun _ => sc_multiplied.nd))
    (ss_cons (s_for (fun _ => PassesOwn.never) (fun _ => rfl) (ei_range1 (fun _ => T.n_range) (ea_cons (ev_callB cd_len (fun _ => T.n_len) (ea_cons (ev_name 1) ea_nil)) ea_nil)) (eg_name 4 (fun _ => sc_multiplied.nd)) (ss_one (s_for (fun _ => PassesOwn.never) (fun _ => rfl) (ei_range1 (fun _ => T.n_range) (ea_cons (ev_callB cd_len (fun _ => T.n_len) (ea_cons (ev_name 2) ea_nil)) ea_nil)) (eg_name 5 (fun _ => sc_multiplied.nd)) (ss_one (s_setix 3 (ev_bin od_mod (ev_bin od_add (ev_ix (ev_name 3) (ev_bin od_add (ev_name 4) (ev_name 5))) (ev_bin od_mul (ev_ix (ev_name 1) (ev_name 4)) (ev_ix (ev_name 2) (ev_name 5)))) (ev_name 0)) (ev_bin od_add (ev_name 4) (ev_name 5)))))))
    (ss_one (s_ret (ev_callTy cd_tuple (fun _ => T.n_tuple) (ea_cons (ev_name 3) ea_nil)))))))
theorem ok_evaluated (T : Txt K mg C_InvalidPoly C_InvalidOperation C_InvalidNumber C_TooMany C_Refused I_InvalidNumber I_TooMany I_Refused D_InvalidNumber D_TooMany D_Refused) {f_evaluated : Addr} {d_evaluated : FuncData} (A_evaluated : DefAt K mg "evaluated" s_evaluated ["field", "poly", "place"] f_evaluated d_evaluated) : FnOk P w K mg base CX0 1 f_evaluated d_evaluated ["field", "poly", "place"] (spM K 3 [] Lib.F_evaluated) :=
  def_ok A_evaluated.fn sc_evaluated rfl fun cdv A outer s H E hr =>
    (ss_cons (s_set 3 ev_int (fun _ => sc_evaluated.nd))
    (ss_cons (s_for (fun _ => PassesOwn.never) (fun _ => rfl) (ei_rev (fun _ => T.n_reversed) (ev_name 1)) (eg_name 4 (fun _ => sc_evaluated.nd)) (ss_one (s_set 3 (ev_bin od_mod (ev_bin od_add (ev_bin od_mul (ev_name 3) (ev_name 2)) (ev_name 4)) (ev_name 0)) (fun _ => sc_evaluated.nd))))
    (ss_one (s_ret (ev_name 3)))))
theorem ok_poly_sum (T : Txt K mg C_InvalidPoly C_InvalidOperation C_InvalidNumber C_TooMany C_Refused I_InvalidNumber I_TooMany I_Refused D_InvalidNumber D_TooMany D_Refused) {f_poly_sum : Addr} {d_poly_sum : FuncData} (A_poly_sum : DefAt K mg "poly_sum" s_poly_sum ["field", "one", "other"] f_poly_sum d_poly_sum) {f_check_field : Addr} {d_check_field : FuncData} (A_check_field : DefAt K mg "check_field" s_check_field ["field"] f_check_field d_check_field) (G_check_field : FnOk P w K mg base CX0 3 f_check_field d_check_field ["field"] (spM K 1 [] Lib.F_check_field)) {f_check_poly : Addr} {d_check_poly : FuncData} (A_check_poly : DefAt K mg "check_poly" s_check_poly ["field", "poly"] f_check_poly d_check_poly) (G_check_poly : FnOk P w K mg base CX0 5 f_check_poly d_check_poly ["field", "poly"] (spM K 2 [] Lib.F_check_poly)) {f_added : Addr} {d_added : FuncData} (A_added : DefAt K mg "added" s_added ["field", "one", "other"] f_added d_added) (G_added : FnOk P w K mg base CX0 2 f_added d_added ["field", "one", "other"] (spM K 3 [] Lib.F_added)) : FnOk P w K mg base CX0 6 f_poly_sum d_poly_sum ["field", "one", "other"] (spM K 3 [] Lib.F_poly_sum) :=
  def_ok A_poly_sum.fn sc_poly_sum rfl fun cdv A outer s H E hr =>
    (ss_cons (s_expr (ev_fn (fun _ => G_check_field) (fun _ => hr.mono (by decide)) (fun _ => A_check_field.g) (fun _ => A_check_field.fn.kp) (fun _ => A_check_field.b) (ea_cons (ev_name 0) ea_nil) (na_cons na_nil)))
    (ss_cons (s_expr (ev_fn (fun _ => G_check_poly) (fun _ => hr.mono (by decide)) (fun _ => A_check_poly.g) (fun _ => A_check_poly.fn.kp) (fun _ => A_check_poly.b) (ea_cons (ev_name 0) (ea_cons (ev_name 1) ea_nil)) (na_cons (na_cons na_nil))))
    (ss_cons (s_expr (ev_fn (fun _ => G_check_poly) (fun _ => hr.mono (by decide)) (fun _ => A_check_poly.g) (fun _ => A_check_poly.fn.kp) (fun _ => A_check_poly.b) (ea_cons (ev_name 0) (ea_cons (ev_name 2) ea_nil)) (na_cons (na_cons na_nil))))
    (ss_one (s_ret (ev_fn (fun _ => G_added) (fun _ => hr.mono (by decide)) (fun _ => A_added.g) (fun _ => A_added.fn.kp) (fun _ => A_added.b) (ea_cons (ev_name 0) (ea_cons (ev_name 1) (ea_cons (ev_name 2) ea_nil))) (na_cons (na_cons (na_cons na_nil)))))))))
theorem okX_poly_sum (T : Txt K mg C_InvalidPoly C_InvalidOperation C_InvalidNumber C_TooMany C_Refused I_InvalidNumber I_TooMany I_Refused D_InvalidNumber D_TooMany D_Refused) {f_poly_sum : Addr} {d_poly_sum : FuncData} (A_poly_sum : DefAt K mg "poly_sum" s_poly_sum ["field", "one", "other"] f_poly_sum d_poly_sum) {f_check_field : Addr} {d_check_field : FuncData} (A_check_field : DefAt K mg "check_field" s_check_field ["field"] f_check_field d_check_field) (G_check_field : FnOk P w K mg base CX0 3 f_check_field d_check_field ["field"] (spM K 1 [] Lib.F_check_field)) {f_check_poly : Addr} {d_check_poly : FuncData} (A_check_poly : DefAt K mg "check_poly" s_check_poly ["field", "poly"] f_check_poly d_check_poly) (G_check_poly : FnOk P w K mg base CX0 5 f_check_poly d_check_poly ["field", "poly"] (spM K 2 [] Lib.F_check_poly)) (GX_check_field : FnOk P w K mg base (L2.CX P w) 3 f_check_field d_check_field ["field"] (spX K mg 1 X_check_field)) (GX_check_poly : FnOk P w K mg base (L2.CX P w) 5 f_check_poly d_check_poly ["field", "poly"] (spX K mg 2 X_check_poly)) : FnOk P w K mg base (L2.CX P w) 6 f_poly_sum d_poly_sum ["field", "one", "other"] (spX K mg 3 X_poly_sum) :=
  def_okX A_poly_sum.fn sc_poly_sum rfl fun cdv A outer s H E hr =>
    (xs_cons (s_expr (ev_fn (fun _ => G_check_field) (fun _ => hr.mono (by decide)) (fun _ => A_check_field.g) (fun _ => A_check_field.fn.kp) (fun _ => A_check_field.b) (ea_cons (ev_name 0) ea_nil) (na_cons na_nil)))
    (x_drop (x_fn (fun _ => takes_of rfl rfl rfl rfl) (fun _ => GX_check_field) (fun _ => hr.mono (by decide)) (fun _ => A_check_field.g) (fun _ => A_check_field.fn.kp) (fun _ => A_check_field.b) (ea_cons (ev_name 0) ea_nil) (na_cons na_nil)))
    (xs_cons (s_expr (ev_fn (fun _ => G_check_poly) (fun _ => hr.mono (by decide)) (fun _ => A_check_poly.g) (fun _ => A_check_poly.fn.kp) (fun _ => A_check_poly.b) (ea_cons (ev_name 0) (ea_cons (ev_name 1) ea_nil)) (na_cons (na_cons na_nil))))
    (x_drop (x_fn (fun _ => takes_of rfl rfl rfl rfl) (fun _ => GX_check_poly) (fun _ => hr.mono (by decide)) (fun _ => A_check_poly.g) (fun _ => A_check_poly.fn.kp) (fun _ => A_check_poly.b) (ea_cons (ev_name 0) (ea_cons (ev_name 1) ea_nil)) (na_cons (na_cons na_nil))))
    (xs_cons (s_expr (ev_fn (fun _ => G_check_poly) (fun _ => hr.mono (by decide)) (fun _ => A_check_poly.g) (fun _ => A_check_poly.fn.kp) (fun _ => A_check_poly.b) (ea_cons (ev_name 0) (ea_cons (ev_name 2) ea_nil)) (na_cons (na_cons na_nil))))
    (x_drop (x_fn (fun _ => takes_of rfl rfl rfl rfl) (fun _ => GX_check_poly) (fun _ => hr.mono (by decide)) (fun _ => A_check_poly.g) (fun _ => A_check_poly.fn.kp) (fun _ => A_check_poly.b) (ea_cons (ev_name 0) (ea_cons (ev_name 2) ea_nil)) (na_cons (na_cons na_nil))))
    xs_nil)))
theorem ok_poly_scaled (T : Txt K mg C_InvalidPoly C_InvalidOperation C_InvalidNumber C_TooMany C_Refused I_InvalidNumber I_TooMany I_Refused D_InvalidNumber D_TooMany D_Refused) {f_poly_scaled : Addr} {d_poly_scaled : FuncData} (A_poly_scaled : DefAt K mg "poly_scaled" s_poly_scaled ["field", "poly", "number"] f_poly_scaled d_poly_scaled) {f_check_field : Addr} {d_check_field : FuncData} (A_check_field : DefAt K mg "check_field" s_check_field ["field"] f_check_field d_check_field) (G_check_field : FnOk P w K mg base CX0 3 f_check_field d_check_field ["field"] (spM K 1 [] Lib.F_check_field)) {f_check_poly : Addr} {d_check_poly : FuncData} (A_check_poly : DefAt K mg "check_poly" s_check_poly ["field", "poly"] f_check_poly d_check_poly) (G_check_poly : FnOk P w K mg base CX0 5 f_check_poly d_check_poly ["field", "poly"] (spM K 2 [] Lib.F_check_poly)) {f_check_number : Addr} {d_check_number : FuncData} (A_check_number : DefAt K mg "check_number" s_check_number ["field", "number"] f_check_number d_check_number) (G_check_number : FnOk P w K mg base CX0 4 f_check_number d_check_number ["field", "number"] (spM K 2 [] Lib.F_check_number)) {f_trimmed : Addr} {d_trimmed : FuncData} (A_trimmed : DefAt K mg "trimmed" s_trimmed ["numbers"] f_trimmed d_trimmed) (G_trimmed : FnOk P w K mg base CX0 1 f_trimmed d_trimmed ["numbers"] (spM K 1 [] Lib.F_trimmed)) {f_scaled : Addr} {d_scaled : FuncData} (A_scaled : DefAt K mg "scaled" s_scaled ["field", "poly", "number"] f_scaled d_scaled) (G_scaled : FnOk P w K mg base CX0 1 f_scaled d_scaled ["field", "poly", "number"] (spM K 3 [] Lib.F_scaled)) : FnOk P w K mg base CX0 6 f_poly_scaled d_poly_scaled ["field", "poly", "number"] (spM K 3 [] Lib.F_poly_scaled) :=
  def_ok A_poly_scaled.fn sc_poly_scaled rfl fun cdv A outer s H E hr =>
    (ss_cons (s_expr (ev_fn (fun _ => G_check_field) (fun _ => hr.mono (by decide)) (fun _ => A_check_field.g) (fun _ => A_check_field.fn.kp) (fun _ => A_check_field.b) (ea_cons (ev_name 0) ea_nil) (na_cons na_nil)))
    (ss_cons (s_expr (ev_fn (fun _ => G_check_poly) (fun _ => hr.mono (by decide)) (fun _ => A_check_poly.g) (fun _ => A_check_poly.fn.kp) (fun _ => A_check_poly.b) (ea_cons (ev_name 0) (ea_cons (ev_name 1) ea_nil)) (na_cons (na_cons na_nil))))
    (ss_cons (s_expr (ev_fn (fun _ => G_check_number) (fun _ => hr.mono (by decide)) (fun _ => A_check_number.g) (fun _ => A_check_number.fn.kp) (fun _ => A_check_number.b) (ea_cons (ev_name 0) (ea_cons (ev_name 2) ea_nil)) (na_cons (na_cons na_nil))))
    (ss_one (s_ret (ev_fn (fun _ => G_trimmed) (fun _ => hr.mono (by decide)) (fun _ => A_trimmed.g) (fun _ => A_trimmed.fn.kp) (fun _ => A_trimmed.b) (ea_cons (ev_fn (fun _ => G_scaled) (fun _ => hr.mono (by decide)) (fun _ => A_scaled.g) (fun _ => A_scaled.fn.kp) (fun _ => A_scaled.b) (ea_cons (ev_name 0) (ea_cons (ev_name 1) (ea_cons (ev_name 2) ea_nil))) (na_cons (na_cons (na_cons na_nil)))) ea_nil) (na_cons na_nil)))))))
theorem okX_poly_scaled (T : Txt K mg C_InvalidPoly C_InvalidOperation C_InvalidNumber C_TooMany C_Refused I_InvalidNumber I_TooMany I_Refused D_InvalidNumber D_TooMany D_Refused) {f_poly_scaled : Addr} {d_poly_scaled : FuncData} (A_poly_scaled : DefAt K mg "poly_scaled" s_poly_scaled ["field", "poly", "number"] f_poly_scaled d_poly_scaled) {f_check_field : Addr} {d_check_field : FuncData} (A_check_field : DefAt K mg "check_field" s_check_field ["field"] f_check_field d_check_field) (G_check_field : FnOk P w K mg base CX0 3 f_check_field d_check_field ["field"] (spM K 1 [] Lib.F_check_field)) {f_check_poly : Addr} {d_check_poly : FuncData} (A_check_poly : DefAt K mg "check_poly" s_check_poly ["field", "poly"] f_check_poly d_check_poly) (G_check_poly : FnOk P w K mg base CX0 5 f_check_poly d_check_poly ["field", "poly"] (spM K 2 [] Lib.F_check_poly)) {f_check_number : Addr} {d_check_number : FuncData} (A_check_number : DefAt K mg "check_number" s_check_number ["field", "number"] f_check_number d_check_number) (G_check_number : FnOk P w K mg base CX0 4 f_check_number d_check_number ["field", "number"] (spM K 2 [] Lib.F_check_number)) (GX_check_field : FnOk P w K mg base (L2.CX P w) 3 f_check_field d_check_field ["field"] (spX K mg 1 X_check_field)) (GX_check_poly : FnOk P w K mg base (L2.CX P w) 5 f_check_poly d_check_poly ["field", "poly"] (spX K mg 2 X_check_poly)) (GX_check_number : FnOk P w K mg base (L2.CX P w) 4 f_check_number d_check_number ["field", "number"] (spX K mg 2 X_check_number)) : FnOk P w K mg base (L2.CX P w) 6 f_poly_scaled d_poly_scaled ["field", "poly", "number"] (spX K mg 3 X_poly_scaled) :=
  def_okX A_poly_scaled.fn sc_poly_scaled rfl fun cdv A outer s H E hr =>
    (xs_cons (s_expr (ev_fn (fun _ => G_check_field) (fun _ => hr.mono (by decide)) (fun _ => A_check_field.g) (fun _ => A_check_field.fn.kp) (fun _ => A_check_field.b) (ea_cons (ev_name 0) ea_nil) (na_cons na_nil)))
    (x_drop (x_fn (fun _ => takes_of rfl rfl rfl rfl) (fun _ => GX_check_field) (fun _ => hr.mono (by decide)) (fun _ => A_check_field.g) (fun _ => A_check_field.fn.kp) (fun _ => A_check_field.b) (ea_cons (ev_name 0) ea_nil) (na_cons na_nil)))
    (xs_cons (s_expr (ev_fn (fun _ => G_check_poly) (fun _ => hr.mono (by decide)) (fun _ => A_check_poly.g) (fun _ => A_check_poly.fn.kp) (fun _ => A_check_poly.b) (ea_cons (ev_name 0) (ea_cons (ev_name 1) ea_nil)) (na_cons (na_cons na_nil))))
    (x_drop (x_fn (fun _ => takes_of rfl rfl rfl rfl) (fun _ => GX_check_poly) (fun _ => hr.mono (by decide)) (fun _ => A_check_poly.g) (fun _ => A_check_poly.fn.kp) (fun _ => A_check_poly.b) (ea_cons (ev_name 0) (ea_cons (ev_name 1) ea_nil)) (na_cons (na_cons na_nil))))
    (xs_cons (s_expr (ev_fn (fun _ => G_check_number) (fun _ => hr.mono (by decide)) (fun _ => A_check_number.g) (fun _ => A_check_number.fn.kp) (fun _ => A_check_number.b) (ea_cons (ev_name 0) (ea_cons (ev_name 2) ea_nil)) (na_cons (na_cons na_nil))))
    (x_drop (x_fn (fun _ => takes_of rfl rfl rfl rfl) (fun _ => GX_check_number) (fun _ => hr.mono (by decide)) (fun _ => A_check_number.g) (fun _ => A_check_number.fn.kp) (fun _ => A_check_number.b) (ea_cons (ev_name 0) (ea_cons (ev_name 2) ea_nil)) (na_cons (na_cons na_nil))))
    xs_nil)))
theorem ok_poly_product (T : Txt K mg C_InvalidPoly C_InvalidOperation C_InvalidNumber C_TooMany C_Refused I_InvalidNumber I_TooMany I_Refused D_InvalidNumber D_TooMany D_Refused) {f_poly_product : Addr} {d_poly_product : FuncData} (A_poly_product : DefAt K mg "poly_product" s_poly_product ["field", "one", "other"] f_poly_product d_poly_product) {f_check_field : Addr} {d_check_field : FuncData} (A_check_field : DefAt K mg "check_field" s_check_field ["field"] f_check_field d_check_field) (G_check_field : FnOk P w K mg base CX0 3 f_check_field d_check_field ["field"] (spM K 1 [] Lib.F_check_field)) {f_check_poly : Addr} {d_check_poly : FuncData} (A_check_poly : DefAt K mg "check_poly" s_check_poly ["field", "poly"] f_check_poly d_check_poly) (G_check_poly : FnOk P w K mg base CX0 5 f_check_poly d_check_poly ["field", "poly"] (spM K 2 [] Lib.F_check_poly)) {f_multiplied : Addr} {d_multiplied : FuncData} (A_multiplied : DefAt K mg "multiplied" s_multiplied ["field", "one", "other"] f_multiplied d_multiplied) (G_multiplied : FnOk P w K mg base CX0 1 f_multiplied d_multiplied ["field", "one", "other"] (spM K 3 [] Lib.F_multiplied)) : FnOk P w K mg base CX0 6 f_poly_product d_poly_product ["field", "one", "other"] (spM K 3 [] Lib.F_poly_product) :=
  def_ok A_poly_product.fn sc_poly_product rfl fun cdv A outer s H E hr =>
    (ss_cons (s_expr (ev_fn (fun _ => G_check_field) (fun _ => hr.mono (by decide)) (fun _ => A_check_field.g) (fun _ => A_check_field.fn.kp) (fun _ => A_check_field.b) (ea_cons (ev_name 0) ea_nil) (na_cons na_nil)))
    (ss_cons (s_expr (ev_fn (fun _ => G_check_poly) (fun _ => hr.mono (by decide)) (fun _ => A_check_poly.g) (fun _ => A_check_poly.fn.kp) (fun _ => A_check_poly.b) (ea_cons (ev_name 0) (ea_cons (ev_name 1) ea_nil)) (na_cons (na_cons na_nil))))
    (ss_cons (s_expr (ev_fn (fun _ => G_check_poly) (fun _ => hr.mono (by decide)) (fun _ => A_check_poly.g) (fun _ => A_check_poly.fn.kp) (fun _ => A_check_poly.b) (ea_cons (ev_name 0) (ea_cons (ev_name 2) ea_nil)) (na_cons (na_cons na_nil))))
    (ss_cons (s_if (et_cmp od_gt (ev_bin od_sub (ev_bin od_add (ev_callB cd_len (fun _ => T.n_len) (ea_cons (ev_name 1) ea_nil)) (ev_callB cd_len (fun _ => T.n_len) (ea_cons (ev_name 2) ea_nil))) ev_int) (ev_glob (fun _ => rfl) (fun _ => T.c_MAX_DEGREE.choose_spec.1) T.c_MAX_DEGREE.choose_spec.2.1 T.c_MAX_DEGREE.choose_spec.2.2)) (ss_one s_never) ss_nil)
    (ss_one (s_ret (ev_fn (fun _ => G_multiplied) (fun _ => hr.mono (by decide)) (fun _ => A_multiplied.g) (fun _ => A_multiplied.fn.kp) (fun _ => A_multiplied.b) (ea_cons (ev_name 0) (ea_cons (ev_name 1) (ea_cons (ev_name 2) ea_nil))) (na_cons (na_cons (na_cons na_nil))))))))))
theorem okX_poly_product (T : Txt K mg C_InvalidPoly C_InvalidOperation C_InvalidNumber C_TooMany C_Refused I_InvalidNumber I_TooMany I_Refused D_InvalidNumber D_TooMany D_Refused) {f_poly_product : Addr} {d_poly_product : FuncData} (A_poly_product : DefAt K mg "poly_product" s_poly_product ["field", "one", "other"] f_poly_product d_poly_product) {f_check_field : Addr} {d_check_field : FuncData} (A_check_field : DefAt K mg "check_field" s_check_field ["field"] f_check_field d_check_field) (G_check_field : FnOk P w K mg base CX0 3 f_check_field d_check_field ["field"] (spM K 1 [] Lib.F_check_field)) {f_check_poly : Addr} {d_check_poly : FuncData} (A_check_poly : DefAt K mg "check_poly" s_check_poly ["field", "poly"] f_check_poly d_check_poly) (G_check_poly : FnOk P w K mg base CX0 5 f_check_poly d_check_poly ["field", "poly"] (spM K 2 [] Lib.F_check_poly)) (GX_check_field : FnOk P w K mg base (L2.CX P w) 3 f_check_field d_check_field ["field"] (spX K mg 1 X_check_field)) (GX_check_poly : FnOk P w K mg base (L2.CX P w) 5 f_check_poly d_check_poly ["field", "poly"] (spX K mg 2 X_check_poly)) : FnOk P w K mg base (L2.CX P w) 6 f_poly_product d_poly_product ["field", "one", "other"] (spX K mg 3 X_poly_product) :=
  def_okX A_poly_product.fn sc_poly_product rfl fun cdv A outer s H E hr =>
    (xs_cons (s_expr (ev_fn (fun _ => G_check_field) (fun _ => hr.mono (by decide)) (fun _ => A_check_field.g) (fun _ => A_check_field.fn.kp) (fun _ => A_check_field.b) (ea_cons (ev_name 0) ea_nil) (na_cons na_nil)))
    (x_drop (x_fn (fun _ => takes_of rfl rfl rfl rfl) (fun _ => GX_check_field) (fun _ => hr.mono (by decide)) (fun _ => A_check_field.g) (fun _ => A_check_field.fn.kp) (fun _ => A_check_field.b) (ea_cons (ev_name 0) ea_nil) (na_cons na_nil)))
    (xs_cons (s_expr (ev_fn (fun _ => G_check_poly) (fun _ => hr.mono (by decide)) (fun _ => A_check_poly.g) (fun _ => A_check_poly.fn.kp) (fun _ => A_check_poly.b) (ea_cons (ev_name 0) (ea_cons (ev_name 1) ea_nil)) (na_cons (na_cons na_nil))))
    (x_drop (x_fn (fun _ => takes_of rfl rfl rfl rfl) (fun _ => GX_check_poly) (fun _ => hr.mono (by decide)) (fun _ => A_check_poly.g) (fun _ => A_check_poly.fn.kp) (fun _ => A_check_poly.b) (ea_cons (ev_name 0) (ea_cons (ev_name 1) ea_nil)) (na_cons (na_cons na_nil))))
    (xs_cons (s_expr (ev_fn (fun _ => G_check_poly) (fun _ => hr.mono (by decide)) (fun _ => A_check_poly.g) (fun _ => A_check_poly.fn.kp) (fun _ => A_check_poly.b) (ea_cons (ev_name 0) (ea_cons (ev_name 2) ea_nil)) (na_cons (na_cons na_nil))))
    (x_drop (x_fn (fun _ => takes_of rfl rfl rfl rfl) (fun _ => GX_check_poly) (fun _ => hr.mono (by decide)) (fun _ => A_check_poly.g) (fun _ => A_check_poly.fn.kp) (fun _ => A_check_poly.b) (ea_cons (ev_name 0) (ea_cons (ev_name 2) ea_nil)) (na_cons (na_cons na_nil))))
    (xs_cons (s_if (et_cmp od_gt (ev_bin od_sub (ev_bin od_add (ev_callB cd_len (fun _ => T.n_len) (ea_cons (ev_name 1) ea_nil)) (ev_callB cd_len (fun _ => T.n_len) (ea_cons (ev_name 2) ea_nil))) ev_int) (ev_glob (fun _ => rfl) (fun _ => T.c_MAX_DEGREE.choose_spec.1) T.c_MAX_DEGREE.choose_spec.2.1 T.c_MAX_DEGREE.choose_spec.2.2)) (ss_one s_never) ss_nil)
    (x_if (et_cmp od_gt (ev_bin od_sub (ev_bin od_add (ev_callB cd_len (fun _ => T.n_len) (ea_cons (ev_name 1) ea_nil)) (ev_callB cd_len (fun _ => T.n_len) (ea_cons (ev_name 2) ea_nil))) ev_int) (ev_glob (fun _ => rfl) (fun _ => T.c_MAX_DEGREE.choose_spec.1) T.c_MAX_DEGREE.choose_spec.2.1 T.c_MAX_DEGREE.choose_spec.2.2)) (xs_one (x_raiseF (fun _ => rfl) (fun _ => takes_of rfl rfl rfl rfl) (fun _ => rfl) T.g_TooMany PySem.F.excBase_OverflowError T.o_TooMany T.i_TooMany T.t_TooMany (fun _ => init_TooMany T) (fun _ => hr.mono (by decide)) T.b_TooMany (ev_glob (fun _ => rfl) (fun _ => T.c_MAX_DEGREE.choose_spec.1) T.c_MAX_DEGREE.choose_spec.2.1 T.c_MAX_DEGREE.choose_spec.2.2))) xs_nil)
    xs_nil))))
theorem ok_poly_divided (T : Txt K mg C_InvalidPoly C_InvalidOperation C_InvalidNumber C_TooMany C_Refused I_InvalidNumber I_TooMany I_Refused D_InvalidNumber D_TooMany D_Refused) {f_poly_divided : Addr} {d_poly_divided : FuncData} (A_poly_divided : DefAt K mg "poly_divided" s_poly_divided ["field", "one", "other"] f_poly_divided d_poly_divided) {f_check_field : Addr} {d_check_field : FuncData} (A_check_field : DefAt K mg "check_field" s_check_field ["field"] f_check_field d_check_field) (G_check_field : FnOk P w K mg base CX0 3 f_check_field d_check_field ["field"] (spM K 1 [] Lib.F_check_field)) {f_check_poly : Addr} {d_check_poly : FuncData} (A_check_poly : DefAt K mg "check_poly" s_check_poly ["field", "poly"] f_check_poly d_check_poly) (G_check_poly : FnOk P w K mg base CX0 5 f_check_poly d_check_poly ["field", "poly"] (spM K 2 [] Lib.F_check_poly)) {f_inverse : Addr} {d_inverse : FuncData} (A_inverse : DefAt K mg "inverse" s_inverse ["field", "number"] f_inverse d_inverse) (G_inverse : FnOk P w K mg base CX0 2 f_inverse d_inverse ["field", "number"] (spM K 2 [] Lib.F_inverse)) {f_trimmed : Addr} {d_trimmed : FuncData} (A_trimmed : DefAt K mg "trimmed" s_trimmed ["numbers"] f_trimmed d_trimmed) (G_trimmed : FnOk P w K mg base CX0 1 f_trimmed d_trimmed ["numbers"] (spM K 1 [] Lib.F_trimmed)) : FnOk P w K mg base CX0 6 f_poly_divided d_poly_divided ["field", "one", "other"] (spM K 3 [] Lib.F_poly_divided) :=
  def_ok A_poly_divided.fn sc_poly_divided rfl fun cdv A outer s H E hr =>
    (ss_cons (s_expr (ev_fn (fun _ => G_check_field) (fun _ => hr.mono (by decide)) (fun _ => A_check_field.g) (fun _ => A_check_field.fn.kp) (fun _ => A_check_field.b) (ea_cons (ev_name 0) ea_nil) (na_cons na_nil)))
    (ss_cons (s_expr (ev_fn (fun _ => G_check_poly) (fun _ => hr.mono (by decide)) (fun _ => A_check_poly.g) (fun _ => A_check_poly.fn.kp) (fun _ => A_check_poly.b) (ea_cons (ev_name 0) (ea_cons (ev_name 1) ea_nil)) (na_cons (na_cons na_nil))))
    (ss_cons (s_expr (ev_fn (fun _ => G_check_poly) (fun _ => hr.mono (by decide)) (fun _ => A_check_poly.g) (fun _ => A_check_poly.fn.kp) (fun _ => A_check_poly.b) (ea_cons (ev_name 0) (ea_cons (ev_name 2) ea_nil)) (na_cons (na_cons na_nil))))
    (ss_cons (s_if (et_cmp (od_eq (fun _ => hr.units)) (ev_name 2) (ev_tup ea_nil)) (ss_one s_never) ss_nil)
    (ss_cons (s_set 3 (ev_callTy cd_list (fun _ => T.n_list) (ea_cons (ev_name 1) ea_nil)) (fun _ => sc_poly_divided.nd))
    (ss_cons (s_set 4 (ev_repL (ev_lst (ea_cons ev_int ea_nil)) (ev_callB (cd_max (fun _ => rfl)) (fun _ => T.n_max) (ea_cons (ev_bin od_add (ev_bin od_sub (ev_callB cd_len (fun _ => T.n_len) (ea_cons (ev_name 1) ea_nil)) (ev_callB cd_len (fun _ => T.n_len) (ea_cons (ev_name 2) ea_nil))) ev_int) (ea_cons ev_int ea_nil)))) (fun _ => sc_poly_divided.nd))
    (ss_cons (s_set 5 (ev_fn (fun _ => G_inverse) (fun _ => hr.mono (by decide)) (fun _ => A_inverse.g) (fun _ => A_inverse.fn.kp) (fun _ => A_inverse.b) (ea_cons (ev_name 0) (ea_cons (ev_ix (ev_name 2) (ev_neg ev_int)) ea_nil)) (na_cons (na_cons na_nil))) (fun _ => sc_poly_divided.nd))
    (ss_cons (s_for (fun _ => PassesOwn.never) (fun _ => rfl) (ei_revR (fun _ => T.n_reversed) (er_1 (fun _ => T.n_range) (ev_callB cd_len (fun _ => T.n_len) (ea_cons (ev_name 4) ea_nil)))) (eg_name 6 (fun _ => sc_poly_divided.nd)) (ss_cons (s_set 7 (ev_bin od_mod (ev_bin od_mul (ev_ix (ev_name 3) (ev_bin od_sub (ev_bin od_add (ev_name 6) (ev_callB cd_len (fun _ => T.n_len) (ea_cons (ev_name 2) ea_nil))) ev_int)) (ev_name 5)) (ev_name 0)) (fun _ => sc_poly_divided.nd))
    (ss_cons (s_setix 4 (ev_name 7) (ev_name 6))
    (ss_one (s_for (fun _ => PassesOwn.never) (fun _ => rfl) (ei_range1 (fun _ => T.n_range) (ea_cons (ev_callB cd_len (fun _ => T.n_len) (ea_cons (ev_name 2) ea_nil)) ea_nil)) (eg_name 8 (fun _ => sc_poly_divided.nd)) (ss_one (s_setix 3 (ev_bin od_mod (ev_bin od_sub (ev_ix (ev_name 3) (ev_bin od_add (ev_name 6) (ev_name 8))) (ev_bin od_mul (ev_name 7) (ev_ix (ev_name 2) (ev_name 8)))) (ev_name 0)) (ev_bin od_add (ev_name 6) (ev_name 8)))))))))
    (ss_one (s_ret (ev_tup (ea_cons (ev_fn (fun _ => G_trimmed) (fun _ => hr.mono (by decide)) (fun _ => A_trimmed.g) (fun _ => A_trimmed.fn.kp) (fun _ => A_trimmed.b) (ea_cons (ev_name 4) ea_nil) (na_cons na_nil)) (ea_cons (ev_fn (fun _ => G_trimmed) (fun _ => hr.mono (by decide)) (fun _ => A_trimmed.g) (fun _ => A_trimmed.fn.kp) (fun _ => A_trimmed.b) (ea_cons (ev_name 3) ea_nil) (na_cons na_nil)) ea_nil)))))))))))))
theorem okX_poly_divided (T : Txt K mg C_InvalidPoly C_InvalidOperation C_InvalidNumber C_TooMany C_Refused I_InvalidNumber I_TooMany I_Refused D_InvalidNumber D_TooMany D_Refused) {f_poly_divided : Addr} {d_poly_divided : FuncData} (A_poly_divided : DefAt K mg "poly_divided" s_poly_divided ["field", "one", "other"] f_poly_divided d_poly_divided) {f_check_field : Addr} {d_check_field : FuncData} (A_check_field : DefAt K mg "check_field" s_check_field ["field"] f_check_field d_check_field) (G_check_field : FnOk P w K mg base CX0 3 f_check_field d_check_field ["field"] (spM K 1 [] Lib.F_check_field)) {f_check_poly : Addr} {d_check_poly : FuncData} (A_check_poly : DefAt K mg "check_poly" s_check_poly ["field", "poly"] f_check_poly d_check_poly) (G_check_poly : FnOk P w K mg base CX0 5 f_check_poly d_check_poly ["field", "poly"] (spM K 2 [] Lib.F_check_poly)) (GX_check_field : FnOk P w K mg base (L2.CX P w) 3 f_check_field d_check_field ["field"] (spX K mg 1 X_check_field)) (GX_check_poly : FnOk P w K mg base (L2.CX P w) 5 f_check_poly d_check_poly ["field", "poly"] (spX K mg 2 X_check_poly)) : FnOk P w K mg base (L2.CX P w) 6 f_poly_divided d_poly_divided ["field", "one", "other"] (spX K mg 3 X_poly_divided) :=
  def_okX A_poly_divided.fn sc_poly_divided rfl fun cdv A outer s H E hr =>
    (xs_cons (s_expr (ev_fn (fun _ => G_check_field) (fun _ => hr.mono (by decide)) (fun _ => A_check_field.g) (fun _ => A_check_field.fn.kp) (fun _ => A_check_field.b) (ea_cons (ev_name 0) ea_nil) (na_cons na_nil)))
    (x_drop (x_fn (fun _ => takes_of rfl rfl rfl rfl) (fun _ => GX_check_field) (fun _ => hr.mono (by decide)) (fun _ => A_check_field.g) (fun _ => A_check_field.fn.kp) (fun _ => A_check_field.b) (ea_cons (ev_name 0) ea_nil) (na_cons na_nil)))
    (xs_cons (s_expr (ev_fn (fun _ => G_check_poly) (fun _ => hr.mono (by decide)) (fun _ => A_check_poly.g) (fun _ => A_check_poly.fn.kp) (fun _ => A_check_poly.b) (ea_cons (ev_name 0) (ea_cons (ev_name 1) ea_nil)) (na_cons (na_cons na_nil))))
    (x_drop (x_fn (fun _ => takes_of rfl rfl rfl rfl) (fun _ => GX_check_poly) (fun _ => hr.mono (by decide)) (fun _ => A_check_poly.g) (fun _ => A_check_poly.fn.kp) (fun _ => A_check_poly.b) (ea_cons (ev_name 0) (ea_cons (ev_name 1) ea_nil)) (na_cons (na_cons na_nil))))
    (xs_cons (s_expr (ev_fn (fun _ => G_check_poly) (fun _ => hr.mono (by decide)) (fun _ => A_check_poly.g) (fun _ => A_check_poly.fn.kp) (fun _ => A_check_poly.b) (ea_cons (ev_name 0) (ea_cons (ev_name 2) ea_nil)) (na_cons (na_cons na_nil))))
    (x_drop (x_fn (fun _ => takes_of rfl rfl rfl rfl) (fun _ => GX_check_poly) (fun _ => hr.mono (by decide)) (fun _ => A_check_poly.g) (fun _ => A_check_poly.fn.kp) (fun _ => A_check_poly.b) (ea_cons (ev_name 0) (ea_cons (ev_name 2) ea_nil)) (na_cons (na_cons na_nil))))
    (xs_cons (s_if (et_cmp (od_eq (fun _ => hr.units)) (ev_name 2) (ev_tup ea_nil)) (ss_one s_never) ss_nil)
    (x_if (et_cmp (od_eq (fun _ => hr.units)) (ev_name 2) (ev_tup ea_nil)) (xs_one (x_raiseF (fun _ => rfl) (fun _ => takes_of rfl rfl rfl rfl) (fun _ => rfl) T.g_Refused PySem.F.excBase_ArithmeticError T.o_Refused T.i_Refused T.t_Refused (fun _ => init_Refused T) (fun _ => hr.mono (by decide)) T.b_Refused (ev_tup (ea_cons ev_str ea_nil)))) xs_nil)
    xs_nil))))
theorem ok_value_at (T : Txt K mg C_InvalidPoly C_InvalidOperation C_InvalidNumber C_TooMany C_Refused I_InvalidNumber I_TooMany I_Refused D_InvalidNumber D_TooMany D_Refused) {f_value_at : Addr} {d_value_at : FuncData} (A_value_at : DefAt K mg "value_at" s_value_at ["field", "poly", "place"] f_value_at d_value_at) {f_check_field : Addr} {d_check_field : FuncData} (A_check_field : DefAt K mg "check_field" s_check_field ["field"] f_check_field d_check_field) (G_check_field : FnOk P w K mg base CX0 3 f_check_field d_check_field ["field"] (spM K 1 [] Lib.F_check_field)) {f_check_poly : Addr} {d_check_poly : FuncData} (A_check_poly : DefAt K mg "check_poly" s_check_poly ["field", "poly"] f_check_poly d_check_poly) (G_check_poly : FnOk P w K mg base CX0 5 f_check_poly d_check_poly ["field", "poly"] (spM K 2 [] Lib.F_check_poly)) {f_check_number : Addr} {d_check_number : FuncData} (A_check_number : DefAt K mg "check_number" s_check_number ["field", "number"] f_check_number d_check_number) (G_check_number : FnOk P w K mg base CX0 4 f_check_number d_check_number ["field", "number"] (spM K 2 [] Lib.F_check_number)) {f_evaluated : Addr} {d_evaluated : FuncData} (A_evaluated : DefAt K mg "evaluated" s_evaluated ["field", "poly", "place"] f_evaluated d_evaluated) (G_evaluated : FnOk P w K mg base CX0 1 f_evaluated d_evaluated ["field", "poly", "place"] (spM K 3 [] Lib.F_evaluated)) : FnOk P w K mg base CX0 6 f_value_at d_value_at ["field", "poly", "place"] (spM K 3 [] Lib.F_value_at) :=
  def_ok A_value_at.fn sc_value_at rfl fun cdv A outer s H E hr =>
    (ss_cons (s_expr (ev_fn (fun _ => G_check_field) (fun _ => hr.mono (by decide)) (fun _ => A_check_field.g) (fun _ => A_check_field.fn.kp) (fun _ => A_check_field.b) (ea_cons (ev_name 0) ea_nil) (na_cons na_nil)))
    (ss_cons (s_expr (ev_fn (fun _ => G_check_poly) (fun _ => hr.mono (by decide)) (fun _ => A_check_poly.g) (fun _ => A_check_poly.fn.kp) (fun _ => A_check_poly.b) (ea_cons (ev_name 0) (ea_cons (ev_name 1) ea_nil)) (na_cons (na_cons na_nil))))
    (ss_cons (s_expr (ev_fn (fun _ => G_check_number) (fun _ => hr.mono (by decide)) (fun _ => A_check_number.g) (fun _ => A_check_number.fn.kp) (fun _ => A_check_number.b) (ea_cons (ev_name 0) (ea_cons (ev_name 2) ea_nil)) (na_cons (na_cons na_nil))))
    (ss_one (s_ret (ev_fn (fun _ => G_evaluated) (fun _ => hr.mono (by decide)) (fun _ => A_evaluated.g) (fun _ => A_evaluated.fn.kp) (fun _ => A_evaluated.b) (ea_cons (ev_name 0) (ea_cons (ev_name 1) (ea_cons (ev_name 2) ea_nil))) (na_cons (na_cons (na_cons na_nil)))))))))
theorem okX_value_at (T : Txt K mg C_InvalidPoly C_InvalidOperation C_InvalidNumber C_TooMany C_Refused I_InvalidNumber I_TooMany I_Refused D_InvalidNumber D_TooMany D_Refused) {f_value_at : Addr} {d_value_at : FuncData} (A_value_at : DefAt K mg "value_at" s_value_at ["field", "poly", "place"] f_value_at d_value_at) {f_check_field : Addr} {d_check_field : FuncData} (A_check_field : DefAt K mg "check_field" s_check_field ["field"] f_check_field d_check_field) (G_check_field : FnOk P w K mg base CX0 3 f_check_field d_check_field ["field"] (spM K 1 [] Lib.F_check_field)) {f_check_poly : Addr} {d_check_poly : FuncData} (A_check_poly : DefAt K mg "check_poly" s_check_poly ["field", "poly"] f_check_poly d_check_poly) (G_check_poly : FnOk P w K mg base CX0 5 f_check_poly d_check_poly ["field", "poly"] (spM K 2 [] Lib.F_check_poly)) {f_check_number : Addr} {d_check_number : FuncData} (A_check_number : DefAt K mg "check_number" s_check_number ["field", "number"] f_check_number d_check_number) (G_check_number : FnOk P w K mg base CX0 4 f_check_number d_check_number ["field", "number"] (spM K 2 [] Lib.F_check_number)) (GX_check_field : FnOk P w K mg base (L2.CX P w) 3 f_check_field d_check_field ["field"] (spX K mg 1 X_check_field)) (GX_check_poly : FnOk P w K mg base (L2.CX P w) 5 f_check_poly d_check_poly ["field", "poly"] (spX K mg 2 X_check_poly)) (GX_check_number : FnOk P w K mg base (L2.CX P w) 4 f_check_number d_check_number ["field", "number"] (spX K mg 2 X_check_number)) : FnOk P w K mg base (L2.CX P w) 6 f_value_at d_value_at ["field", "poly", "place"] (spX K mg 3 X_value_at) :=
  def_okX A_value_at.fn sc_value_at rfl fun cdv A outer s H E hr =>
    (xs_cons (s_expr (ev_fn (fun _ => G_check_field) (fun _ => hr.mono (by decide)) (fun _ => A_check_field.g) (fun _ => A_check_field.fn.kp) (fun _ => A_check_field.b) (ea_cons (ev_name 0) ea_nil) (na_cons na_nil)))
    (x_drop (x_fn (fun _ => takes_of rfl rfl rfl rfl) (fun _ => GX_check_field) (fun _ => hr.mono (by decide)) (fun _ => A_check_field.g) (fun _ => A_check_field.fn.kp) (fun _ => A_check_field.b) (ea_cons (ev_name 0) ea_nil) (na_cons na_nil)))
    (xs_cons (s_expr (ev_fn (fun _ => G_check_poly) (fun _ => hr.mono (by decide)) (fun _ => A_check_poly.g) (fun _ => A_check_poly.fn.kp) (fun _ => A_check_poly.b) (ea_cons (ev_name 0) (ea_cons (ev_name 1) ea_nil)) (na_cons (na_cons na_nil))))
    (x_drop (x_fn (fun _ => takes_of rfl rfl rfl rfl) (fun _ => GX_check_poly) (fun _ => hr.mono (by decide)) (fun _ => A_check_poly.g) (fun _ => A_check_poly.fn.kp) (fun _ => A_check_poly.b) (ea_cons (ev_name 0) (ea_cons (ev_name 1) ea_nil)) (na_cons (na_cons na_nil))))
    (xs_cons (s_expr (ev_fn (fun _ => G_check_number) (fun _ => hr.mono (by decide)) (fun _ => A_check_number.g) (fun _ => A_check_number.fn.kp) (fun _ => A_check_number.b) (ea_cons (ev_name 0) (ea_cons (ev_name 2) ea_nil)) (na_cons (na_cons na_nil))))
    (x_drop (x_fn (fun _ => takes_of rfl rfl rfl rfl) (fun _ => GX_check_number) (fun _ => hr.mono (by decide)) (fun _ => A_check_number.g) (fun _ => A_check_number.fn.kp) (fun _ => A_check_number.b) (ea_cons (ev_name 0) (ea_cons (ev_name 2) ea_nil)) (na_cons (na_cons na_nil))))
    xs_nil)))
theorem ok_values_at (T : Txt K mg C_InvalidPoly C_InvalidOperation C_InvalidNumber C_TooMany C_Refused I_InvalidNumber I_TooMany I_Refused D_InvalidNumber D_TooMany D_Refused) {f_values_at : Addr} {d_values_at : FuncData} (A_values_at : DefAt K mg "values_at" s_values_at ["field", "poly", "places"] f_values_at d_values_at) {f_check_field : Addr} {d_check_field : FuncData} (A_check_field : DefAt K mg "check_field" s_check_field ["field"] f_check_field d_check_field) (G_check_field : FnOk P w K mg base CX0 3 f_check_field d_check_field ["field"] (spM K 1 [] Lib.F_check_field)) {f_check_poly : Addr} {d_check_poly : FuncData} (A_check_poly : DefAt K mg "check_poly" s_check_poly ["field", "poly"] f_check_poly d_check_poly) (G_check_poly : FnOk P w K mg base CX0 5 f_check_poly d_check_poly ["field", "poly"] (spM K 2 [] Lib.F_check_poly)) {f_check_places : Addr} {d_check_places : FuncData} (A_check_places : DefAt K mg "check_places" s_check_places ["field", "places"] f_check_places d_check_places) (G_check_places : FnOk P w K mg base CX0 3 f_check_places d_check_places ["field", "places"] (spM K 2 [] Lib.F_check_places)) {f_evaluated : Addr} {d_evaluated : FuncData} (A_evaluated : DefAt K mg "evaluated" s_evaluated ["field", "poly", "place"] f_evaluated d_evaluated) (G_evaluated : FnOk P w K mg base CX0 1 f_evaluated d_evaluated ["field", "poly", "place"] (spM K 3 [] Lib.F_evaluated)) : FnOk P w K mg base CX0 6 f_values_at d_values_at ["field", "poly", "places"] (spM K 3 [] Lib.F_values_at) :=
  def_ok A_values_at.fn sc_values_at rfl fun cdv A outer s H E hr =>
    (ss_cons (s_expr (ev_fn (fun _ => G_check_field) (fun _ => hr.mono (by decide)) (fun _ => A_check_field.g) (fun _ => A_check_field.fn.kp) (fun _ => A_check_field.b) (ea_cons (ev_name 0) ea_nil) (na_cons na_nil)))
    (ss_cons (s_expr (ev_fn (fun _ => G_check_poly) (fun _ => hr.mono (by decide)) (fun _ => A_check_poly.g) (fun _ => A_check_poly.fn.kp) (fun _ => A_check_poly.b) (ea_cons (ev_name 0) (ea_cons (ev_name 1) ea_nil)) (na_cons (na_cons na_nil))))
    (ss_cons (s_expr (ev_fn (fun _ => G_check_places) (fun _ => hr.mono (by decide)) (fun _ => A_check_places.g) (fun _ => A_check_places.fn.kp) (fun _ => A_check_places.b) (ea_cons (ev_name 0) (ea_cons (ev_name 2) ea_nil)) (na_cons (na_cons na_nil))))
    (ss_one (s_ret (ev_callTy cd_tuple (fun _ => T.n_tuple) (ea_cons (ev_comp (own := [("place", 3)]) (fun _ => rfl) (fun _ => sc_values_at.nd) (fun _ => by show BlkOk N_values_at (defScope s_values_at) _ _; exact blkOk_by (by decide +kernel)) (ei_val (ev_name 2)) (eg_name 3 (fun _ => sc_values_at.nd)) ets_nil (ev_fn (fun _ => G_evaluated) (fun _ => hr.mono (by decide)) (fun _ => A_evaluated.g) (fun _ => A_evaluated.fn.kp) (fun _ => A_evaluated.b) (ea_cons (ev_name 0) (ea_cons (ev_name 1) (ea_cons (ev_name 3) ea_nil))) (na_cons (na_cons (na_cons na_nil))))) ea_nil)))))))
theorem okX_values_at (T : Txt K mg C_InvalidPoly C_InvalidOperation C_InvalidNumber C_TooMany C_Refused I_InvalidNumber I_TooMany I_Refused D_InvalidNumber D_TooMany D_Refused) {f_values_at : Addr} {d_values_at : FuncData} (A_values_at : DefAt K mg "values_at" s_values_at ["field", "poly", "places"] f_values_at d_values_at) {f_check_field : Addr} {d_check_field : FuncData} (A_check_field : DefAt K mg "check_field" s_check_field ["field"] f_check_field d_check_field) (G_check_field : FnOk P w K mg base CX0 3 f_check_field d_check_field ["field"] (spM K 1 [] Lib.F_check_field)) {f_check_poly : Addr} {d_check_poly : FuncData} (A_check_poly : DefAt K mg "check_poly" s_check_poly ["field", "poly"] f_check_poly d_check_poly) (G_check_poly : FnOk P w K mg base CX0 5 f_check_poly d_check_poly ["field", "poly"] (spM K 2 [] Lib.F_check_poly)) {f_check_places : Addr} {d_check_places : FuncData} (A_check_places : DefAt K mg "check_places" s_check_places ["field", "places"] f_check_places d_check_places) (G_check_places : FnOk P w K mg base CX0 3 f_check_places d_check_places ["field", "places"] (spM K 2 [] Lib.F_check_places)) (GX_check_field : FnOk P w K mg base (L2.CX P w) 3 f_check_field d_check_field ["field"] (spX K mg 1 X_check_field)) (GX_check_poly : FnOk P w K mg base (L2.CX P w) 5 f_check_poly d_check_poly ["field", "poly"] (spX K mg 2 X_check_poly)) (GX_check_places : FnOk P w K mg base (L2.CX P w) 3 f_check_places d_check_places ["field", "places"] (spX K mg 2 X_check_places)) : FnOk P w K mg base (L2.CX P w) 6 f_values_at d_values_at ["field", "poly", "places"] (spX K mg 3 X_values_at) :=
  def_okX A_values_at.fn sc_values_at rfl fun cdv A outer s H E hr =>
    (xs_cons (s_expr (ev_fn (fun _ => G_check_field) (fun _ => hr.mono (by decide)) (fun _ => A_check_field.g) (fun _ => A_check_field.fn.kp) (fun _ => A_check_field.b) (ea_cons (ev_name 0) ea_nil) (na_cons na_nil)))
    (x_drop (x_fn (fun _ => takes_of rfl rfl rfl rfl) (fun _ => GX_check_field) (fun _ => hr.mono (by decide)) (fun _ => A_check_field.g) (fun _ => A_check_field.fn.kp) (fun _ => A_check_field.b) (ea_cons (ev_name 0) ea_nil) (na_cons na_nil)))
    (xs_cons (s_expr (ev_fn (fun _ => G_check_poly) (fun _ => hr.mono (by decide)) (fun _ => A_check_poly.g) (fun _ => A_check_poly.fn.kp) (fun _ => A_check_poly.b) (ea_cons (ev_name 0) (ea_cons (ev_name 1) ea_nil)) (na_cons (na_cons na_nil))))
    (x_drop (x_fn (fun _ => takes_of rfl rfl rfl rfl) (fun _ => GX_check_poly) (fun _ => hr.mono (by decide)) (fun _ => A_check_poly.g) (fun _ => A_check_poly.fn.kp) (fun _ => A_check_poly.b) (ea_cons (ev_name 0) (ea_cons (ev_name 1) ea_nil)) (na_cons (na_cons na_nil))))
    (xs_cons (s_expr (ev_fn (fun _ => G_check_places) (fun _ => hr.mono (by decide)) (fun _ => A_check_places.g) (fun _ => A_check_places.fn.kp) (fun _ => A_check_places.b) (ea_cons (ev_name 0) (ea_cons (ev_name 2) ea_nil)) (na_cons (na_cons na_nil))))
    (x_drop (x_fn (fun _ => takes_of rfl rfl rfl rfl) (fun _ => GX_check_places) (fun _ => hr.mono (by decide)) (fun _ => A_check_places.g) (fun _ => A_check_places.fn.kp) (fun _ => A_check_places.b) (ea_cons (ev_name 0) (ea_cons (ev_name 2) ea_nil)) (na_cons (na_cons na_nil))))
    xs_nil)))
theorem ok_vanishing (T : Txt K mg C_InvalidPoly C_InvalidOperation C_InvalidNumber C_TooMany C_Refused I_InvalidNumber I_TooMany I_Refused D_InvalidNumber D_TooMany D_Refused) {f_vanishing : Addr} {d_vanishing : FuncData} (A_vanishing : DefAt K mg "vanishing" s_vanishing ["field", "places"] f_vanishing d_vanishing) {f_multiplied : Addr} {d_multiplied : FuncData} (A_multiplied : DefAt K mg "multiplied" s_multiplied ["field", "one", "other"] f_multiplied d_multiplied) (G_multiplied : FnOk P w K mg base CX0 1 f_multiplied d_multiplied ["field", "one", "other"] (spM K 3 [] Lib.F_multiplied)) : FnOk P w K mg base CX0 2 f_vanishing d_vanishing ["field", "places"] (spM K 2 [] Lib.F_vanishing) :=
  def_ok A_vanishing.fn sc_vanishing rfl fun cdv A outer s H E hr =>
    (ss_cons (s_set 2 (ev_tup (ea_cons ev_int ea_nil)) (fun _ => sc_vanishing.nd))
    (ss_cons (s_for (fun _ => PassesOwn.never) (fun _ => rfl) (ei_val (ev_name 1)) (eg_name 3 (fun _ => sc_vanishing.nd)) (ss_one (s_set 2 (ev_fn (fun _ => G_multiplied) (fun _ => hr.mono (by decide)) (fun _ => A_multiplied.g) (fun _ => A_multiplied.fn.kp) (fun _ => A_multiplied.b) (ea_cons (ev_name 0) (ea_cons (ev_name 2) (ea_cons (ev_tup (ea_cons (ev_bin od_mod (ev_neg (ev_name 3)) (ev_name 0)) (ea_cons ev_int ea_nil))) ea_nil))) (na_cons (na_cons (na_cons na_nil)))) (fun _ => sc_vanishing.nd))))
    (ss_one (s_ret (ev_name 2)))))
theorem ok_without_root (T : Txt K mg C_InvalidPoly C_InvalidOperation C_InvalidNumber C_TooMany C_Refused I_InvalidNumber I_TooMany I_Refused D_InvalidNumber D_TooMany D_Refused) {f_without_root : Addr} {d_without_root : FuncData} (A_without_root : DefAt K mg "without_root" s_without_root ["field", "whole", "place"] f_without_root d_without_root) : FnOk P w K mg base CX0 1 f_without_root d_without_root ["field", "whole", "place"] (spM K 3 [] Lib.F_without_root) :=
  def_ok A_without_root.fn sc_without_root rfl fun cdv A outer s H E hr =>
    (ss_cons (s_set 3 (ev_lst ea_nil) (fun _ => sc_without_root.nd))
    (ss_cons (s_set 4 ev_int (fun _ => sc_without_root.nd))
    (ss_cons (s_for (fun _ => PassesOwn.never) (fun _ => rfl) (ei_rev (fun _ => T.n_reversed) (ev_name 1)) (eg_name 5 (fun _ => sc_without_root.nd)) (ss_cons (s_set 4 (ev_bin od_mod (ev_bin od_add (ev_bin od_mul (ev_name 4) (ev_name 2)) (ev_name 5)) (ev_name 0)) (fun _ => sc_without_root.nd))
    (ss_one (s_app 3 (ev_name 4)))))
    (ss_one (s_ret (ev_tupRev (fun _ => rfl) (fun _ => T.n_tuple) (fun _ => T.n_reversed) (ev_sl (ev_name 3) eo_none (eo_some (ev_neg ev_int)))))))))
theorem ok_parts_of (T : Txt K mg C_InvalidPoly C_InvalidOperation C_InvalidNumber C_TooMany C_Refused I_InvalidNumber I_TooMany I_Refused D_InvalidNumber D_TooMany D_Refused) {f_parts_of : Addr} {d_parts_of : FuncData} (A_parts_of : DefAt K mg "parts_of" s_parts_of ["field", "places"] f_parts_of d_parts_of) {f_vanishing : Addr} {d_vanishing : FuncData} (A_vanishing : DefAt K mg "vanishing" s_vanishing ["field", "places"] f_vanishing d_vanishing) (G_vanishing : FnOk P w K mg base CX0 2 f_vanishing d_vanishing ["field", "places"] (spM K 2 [] Lib.F_vanishing)) {f_without_root : Addr} {d_without_root : FuncData} (A_without_root : DefAt K mg "without_root" s_without_root ["field", "whole", "place"] f_without_root d_without_root) (G_without_root : FnOk P w K mg base CX0 1 f_without_root d_without_root ["field", "whole", "place"] (spM K 3 [] Lib.F_without_root)) : FnOk P w K mg base CX0 3 f_parts_of d_parts_of ["field", "places"] (spM K 2 [] Lib.F_parts_of) :=
  def_ok A_parts_of.fn sc_parts_of rfl fun cdv A outer s H E hr =>
    (ss_cons (s_set 2 (ev_fn (fun _ => G_vanishing) (fun _ => hr.mono (by decide)) (fun _ => A_vanishing.g) (fun _ => A_vanishing.fn.kp) (fun _ => A_vanishing.b) (ea_cons (ev_name 0) (ea_cons (ev_name 1) ea_nil)) (na_cons (na_cons na_nil))) (fun _ => sc_parts_of.nd))
    (ss_one (s_ret (ev_comp (own := [("place", 3)]) (fun _ => rfl) (fun _ => sc_parts_of.nd) (fun _ => by show BlkOk N_parts_of (defScope s_parts_of) _ _; exact blkOk_by (by decide +kernel)) (ei_val (ev_name 1)) (eg_name 3 (fun _ => sc_parts_of.nd)) ets_nil (ev_fn (fun _ => G_without_root) (fun _ => hr.mono (by decide)) (fun _ => A_without_root.g) (fun _ => A_without_root.fn.kp) (fun _ => A_without_root.b) (ea_cons (ev_name 0) (ea_cons (ev_name 2) (ea_cons (ev_name 3) ea_nil))) (na_cons (na_cons (na_cons na_nil))))))))
theorem ok_units_of (T : Txt K mg C_InvalidPoly C_InvalidOperation C_InvalidNumber C_TooMany C_Refused I_InvalidNumber I_TooMany I_Refused D_InvalidNumber D_TooMany D_Refused) {f_units_of : Addr} {d_units_of : FuncData} (A_units_of : DefAt K mg "units_of" s_units_of ["field", "places", "parts"] f_units_of d_units_of) {f_inverse : Addr} {d_inverse : FuncData} (A_inverse : DefAt K mg "inverse" s_inverse ["field", "number"] f_inverse d_inverse) (G_inverse : FnOk P w K mg base CX0 2 f_inverse d_inverse ["field", "number"] (spM K 2 [] Lib.F_inverse)) {f_evaluated : Addr} {d_evaluated : FuncData} (A_evaluated : DefAt K mg "evaluated" s_evaluated ["field", "poly", "place"] f_evaluated d_evaluated) (G_evaluated : FnOk P w K mg base CX0 1 f_evaluated d_evaluated ["field", "poly", "place"] (spM K 3 [] Lib.F_evaluated)) : FnOk P w K mg base CX0 3 f_units_of d_units_of ["field", "places", "parts"] (spM K 3 [] Lib.F_units_of) :=
  def_ok A_units_of.fn sc_units_of rfl fun cdv A outer s H E hr =>
    (ss_one (s_ret (ev_comp (own := [("place", 3), ("part", 4)]) (fun _ => rfl) (fun _ => sc_units_of.nd) (fun _ => by show BlkOk N_units_of (defScope s_units_of) _ _; exact blkOk_by (by decide +kernel)) (ei_zipA (fun _ => T.n_zip) (ea_cons (ev_name 1) (ea_cons (ev_name 2) ea_nil))) (eg_tup [3, 4] (fun _ => rfl) (fun _ => (pgs_cons (pg_name (i := 3) sc_units_of.nd rfl (by first | exact Or.inl rfl | exact Or.inr rfl)) (pgs_cons (pg_name (i := 4) sc_units_of.nd rfl (by first | exact Or.inl rfl | exact Or.inr rfl)) pgs_nil)))) ets_nil (ev_fn (fun _ => G_inverse) (fun _ => hr.mono (by decide)) (fun _ => A_inverse.g) (fun _ => A_inverse.fn.kp) (fun _ => A_inverse.b) (ea_cons (ev_name 0) (ea_cons (ev_fn (fun _ => G_evaluated) (fun _ => hr.mono (by decide)) (fun _ => A_evaluated.g) (fun _ => A_evaluated.fn.kp) (fun _ => A_evaluated.b) (ea_cons (ev_name 0) (ea_cons (ev_name 4) (ea_cons (ev_name 3) ea_nil))) (na_cons (na_cons (na_cons na_nil)))) ea_nil)) (na_cons (na_cons na_nil))))))
theorem ok_interpolated (T : Txt K mg C_InvalidPoly C_InvalidOperation C_InvalidNumber C_TooMany C_Refused I_InvalidNumber I_TooMany I_Refused D_InvalidNumber D_TooMany D_Refused) {f_interpolated : Addr} {d_interpolated : FuncData} (A_interpolated : DefAt K mg "interpolated" s_interpolated ["field", "places", "values"] f_interpolated d_interpolated) {f_parts_of : Addr} {d_parts_of : FuncData} (A_parts_of : DefAt K mg "parts_of" s_parts_of ["field", "places"] f_parts_of d_parts_of) (G_parts_of : FnOk P w K mg base CX0 3 f_parts_of d_parts_of ["field", "places"] (spM K 2 [] Lib.F_parts_of)) {f_units_of : Addr} {d_units_of : FuncData} (A_units_of : DefAt K mg "units_of" s_units_of ["field", "places", "parts"] f_units_of d_units_of) (G_units_of : FnOk P w K mg base CX0 3 f_units_of d_units_of ["field", "places", "parts"] (spM K 3 [] Lib.F_units_of)) {f_added : Addr} {d_added : FuncData} (A_added : DefAt K mg "added" s_added ["field", "one", "other"] f_added d_added) (G_added : FnOk P w K mg base CX0 2 f_added d_added ["field", "one", "other"] (spM K 3 [] Lib.F_added)) {f_scaled : Addr} {d_scaled : FuncData} (A_scaled : DefAt K mg "scaled" s_scaled ["field", "poly", "number"] f_scaled d_scaled) (G_scaled : FnOk P w K mg base CX0 1 f_scaled d_scaled ["field", "poly", "number"] (spM K 3 [] Lib.F_scaled)) : FnOk P w K mg base CX0 4 f_interpolated d_interpolated ["field", "places", "values"] (spM K 3 [] Lib.F_interpolated) :=
  def_ok A_interpolated.fn sc_interpolated rfl fun cdv A outer s H E hr =>
    (ss_cons (s_set 3 (ev_fn (fun _ => G_parts_of) (fun _ => hr.mono (by decide)) (fun _ => A_parts_of.g) (fun _ => A_parts_of.fn.kp) (fun _ => A_parts_of.b) (ea_cons (ev_name 0) (ea_cons (ev_name 1) ea_nil)) (na_cons (na_cons na_nil))) (fun _ => sc_interpolated.nd))
    (ss_cons (s_set 4 (ev_tup ea_nil) (fun _ => sc_interpolated.nd))
    (ss_cons (s_for (fun _ => PassesOwn.never) (fun _ => rfl) (ei_zip3 (fun _ => T.n_zip) (ea_cons (ev_name 3) (ea_cons (ev_fn (fun _ => G_units_of) (fun _ => hr.mono (by decide)) (fun _ => A_units_of.g) (fun _ => A_units_of.fn.kp) (fun _ => A_units_of.b) (ea_cons (ev_name 0) (ea_cons (ev_name 1) (ea_cons (ev_name 3) ea_nil))) (na_cons (na_cons (na_cons na_nil)))) (ea_cons (ev_name 2) ea_nil)))) (eg_tup [5, 6, 7] (fun _ => rfl) (fun _ => (pgs_cons (pg_name (i := 5) sc_interpolated.nd rfl (by first | exact Or.inl rfl | exact Or.inr rfl)) (pgs_cons (pg_name (i := 6) sc_interpolated.nd rfl (by first | exact Or.inl rfl | exact Or.inr rfl)) (pgs_cons (pg_name (i := 7) sc_interpolated.nd rfl (by first | exact Or.inl rfl | exact Or.inr rfl)) pgs_nil))))) (ss_one (s_set 4 (ev_fn (fun _ => G_added) (fun _ => hr.mono (by decide)) (fun _ => A_added.g) (fun _ => A_added.fn.kp) (fun _ => A_added.b) (ea_cons (ev_name 0) (ea_cons (ev_name 4) (ea_cons (ev_fn (fun _ => G_scaled) (fun _ => hr.mono (by decide)) (fun _ => A_scaled.g) (fun _ => A_scaled.fn.kp) (fun _ => A_scaled.b) (ea_cons (ev_name 0) (ea_cons (ev_name 5) (ea_cons (ev_bin od_mod (ev_bin od_mul (ev_name 6) (ev_name 7)) (ev_name 0)) ea_nil))) (na_cons (na_cons (na_cons na_nil)))) ea_nil))) (na_cons (na_cons (na_cons na_nil)))) (fun _ => sc_interpolated.nd))))
    (ss_one (s_ret (ev_name 4))))))
theorem ok_through (T : Txt K mg C_InvalidPoly C_InvalidOperation C_InvalidNumber C_TooMany C_Refused I_InvalidNumber I_TooMany I_Refused D_InvalidNumber D_TooMany D_Refused) {f_through : Addr} {d_through : FuncData} (A_through : DefAt K mg "through" s_through ["field", "points"] f_through d_through) {f_check_field : Addr} {d_check_field : FuncData} (A_check_field : DefAt K mg "check_field" s_check_field ["field"] f_check_field d_check_field) (G_check_field : FnOk P w K mg base CX0 3 f_check_field d_check_field ["field"] (spM K 1 [] Lib.F_check_field)) {f_check_points : Addr} {d_check_points : FuncData} (A_check_points : DefAt K mg "check_points" s_check_points ["field", "points"] f_check_points d_check_points) (G_check_points : FnOk P w K mg base CX0 4 f_check_points d_check_points ["field", "points"] (spM K 2 [] Lib.F_check_points)) {f_interpolated : Addr} {d_interpolated : FuncData} (A_interpolated : DefAt K mg "interpolated" s_interpolated ["field", "places", "values"] f_interpolated d_interpolated) (G_interpolated : FnOk P w K mg base CX0 4 f_interpolated d_interpolated ["field", "places", "values"] (spM K 3 [] Lib.F_interpolated)) : FnOk P w K mg base CX0 5 f_through d_through ["field", "points"] (spM K 2 [] Lib.F_through) :=
  def_ok A_through.fn sc_through rfl fun cdv A outer s H E hr =>
    (ss_cons (s_expr (ev_fn (fun _ => G_check_field) (fun _ => hr.mono (by decide)) (fun _ => A_check_field.g) (fun _ => A_check_field.fn.kp) (fun _ => A_check_field.b) (ea_cons (ev_name 0) ea_nil) (na_cons na_nil)))
    (ss_cons (s_expr (ev_fn (fun _ => G_check_points) (fun _ => hr.mono (by decide)) (fun _ => A_check_points.g) (fun _ => A_check_points.fn.kp) (fun _ => A_check_points.b) (ea_cons (ev_name 0) (ea_cons (ev_name 1) ea_nil)) (na_cons (na_cons na_nil))))
    (ss_one (s_ret (ev_fn (fun _ => G_interpolated) (fun _ => hr.mono (by decide)) (fun _ => A_interpolated.g) (fun _ => A_interpolated.fn.kp) (fun _ => A_interpolated.b) (ea_cons (ev_name 0) (ea_cons (ev_comp (own := [("place", 2), ("value", 3)]) (fun _ => rfl) (fun _ => sc_through.nd) (fun _ => by show BlkOk N_through (defScope s_through) _ _; exact blkOk_by (by decide +kernel)) (ei_val (ev_name 1)) (eg_tup [2, 3] (fun _ => rfl) (fun _ => (pgs_cons (pg_name (i := 2) sc_through.nd rfl (by first | exact Or.inl rfl | exact Or.inr rfl)) (pgs_cons (pg_name (i := 3) sc_through.nd rfl (by first | exact Or.inl rfl | exact Or.inr rfl)) pgs_nil)))) ets_nil (ev_name 2)) (ea_cons (ev_comp (own := [("place", 2), ("value", 3)]) (fun _ => rfl) (fun _ => sc_through.nd) (fun _ => by show BlkOk N_through (defScope s_through) _ _; exact blkOk_by (by decide +kernel)) (ei_val (ev_name 1)) (eg_tup [2, 3] (fun _ => rfl) (fun _ => (pgs_cons (pg_name (i := 2) sc_through.nd rfl (by first | exact Or.inl rfl | exact Or.inr rfl)) (pgs_cons (pg_name (i := 3) sc_through.nd rfl (by first | exact Or.inl rfl | exact Or.inr rfl)) pgs_nil)))) ets_nil (ev_name 3)) ea_nil))) (na_cons (na_cons (na_cons na_nil))))))))
theorem okX_through (T : Txt K mg C_InvalidPoly C_InvalidOperation C_InvalidNumber C_TooMany C_Refused I_InvalidNumber I_TooMany I_Refused D_InvalidNumber D_TooMany D_Refused) {f_through : Addr} {d_through : FuncData} (A_through : DefAt K mg "through" s_through ["field", "points"] f_through d_through) {f_check_field : Addr} {d_check_field : FuncData} (A_check_field : DefAt K mg "check_field" s_check_field ["field"] f_check_field d_check_field) (G_check_field : FnOk P w K mg base CX0 3 f_check_field d_check_field ["field"] (spM K 1 [] Lib.F_check_field)) {f_check_points : Addr} {d_check_points : FuncData} (A_check_points : DefAt K mg "check_points" s_check_points ["field", "points"] f_check_points d_check_points) (G_check_points : FnOk P w K mg base CX0 4 f_check_points d_check_points ["field", "points"] (spM K 2 [] Lib.F_check_points)) (GX_check_field : FnOk P w K mg base (L2.CX P w) 3 f_check_field d_check_field ["field"] (spX K mg 1 X_check_field)) (GX_check_points : FnOk P w K mg base (L2.CX P w) 4 f_check_points d_check_points ["field", "points"] (spX K mg 2 X_check_points)) : FnOk P w K mg base (L2.CX P w) 5 f_through d_through ["field", "points"] (spX K mg 2 X_through) :=
  def_okX A_through.fn sc_through rfl fun cdv A outer s H E hr =>
    (xs_cons (s_expr (ev_fn (fun _ => G_check_field) (fun _ => hr.mono (by decide)) (fun _ => A_check_field.g) (fun _ => A_check_field.fn.kp) (fun _ => A_check_field.b) (ea_cons (ev_name 0) ea_nil) (na_cons na_nil)))
    (x_drop (x_fn (fun _ => takes_of rfl rfl rfl rfl) (fun _ => GX_check_field) (fun _ => hr.mono (by decide)) (fun _ => A_check_field.g) (fun _ => A_check_field.fn.kp) (fun _ => A_check_field.b) (ea_cons (ev_name 0) ea_nil) (na_cons na_nil)))
    (xs_cons (s_expr (ev_fn (fun _ => G_check_points) (fun _ => hr.mono (by decide)) (fun _ => A_check_points.g) (fun _ => A_check_points.fn.kp) (fun _ => A_check_points.b) (ea_cons (ev_name 0) (ea_cons (ev_name 1) ea_nil)) (na_cons (na_cons na_nil))))
    (x_drop (x_fn (fun _ => takes_of rfl rfl rfl rfl) (fun _ => GX_check_points) (fun _ => hr.mono (by decide)) (fun _ => A_check_points.g) (fun _ => A_check_points.fn.kp) (fun _ => A_check_points.b) (ea_cons (ev_name 0) (ea_cons (ev_name 1) ea_nil)) (na_cons (na_cons na_nil))))
    xs_nil))
theorem ok_weights (T : Txt K mg C_InvalidPoly C_InvalidOperation C_InvalidNumber C_TooMany C_Refused I_InvalidNumber I_TooMany I_Refused D_InvalidNumber D_TooMany D_Refused) {f_weights : Addr} {d_weights : FuncData} (A_weights : DefAt K mg "weights" s_weights ["field", "places", "goal"] f_weights d_weights) {f_check_field : Addr} {d_check_field : FuncData} (A_check_field : DefAt K mg "check_field" s_check_field ["field"] f_check_field d_check_field) (G_check_field : FnOk P w K mg base CX0 3 f_check_field d_check_field ["field"] (spM K 1 [] Lib.F_check_field)) {f_check_places : Addr} {d_check_places : FuncData} (A_check_places : DefAt K mg "check_places" s_check_places ["field", "places"] f_check_places d_check_places) (G_check_places : FnOk P w K mg base CX0 3 f_check_places d_check_places ["field", "places"] (spM K 2 [] Lib.F_check_places)) {f_check_number : Addr} {d_check_number : FuncData} (A_check_number : DefAt K mg "check_number" s_check_number ["field", "number"] f_check_number d_check_number) (G_check_number : FnOk P w K mg base CX0 4 f_check_number d_check_number ["field", "number"] (spM K 2 [] Lib.F_check_number)) {f_parts_of : Addr} {d_parts_of : FuncData} (A_parts_of : DefAt K mg "parts_of" s_parts_of ["field", "places"] f_parts_of d_parts_of) (G_parts_of : FnOk P w K mg base CX0 3 f_parts_of d_parts_of ["field", "places"] (spM K 2 [] Lib.F_parts_of)) {f_units_of : Addr} {d_units_of : FuncData} (A_units_of : DefAt K mg "units_of" s_units_of ["field", "places", "parts"] f_units_of d_units_of) (G_units_of : FnOk P w K mg base CX0 3 f_units_of d_units_of ["field", "places", "parts"] (spM K 3 [] Lib.F_units_of)) {f_evaluated : Addr} {d_evaluated : FuncData} (A_evaluated : DefAt K mg "evaluated" s_evaluated ["field", "poly", "place"] f_evaluated d_evaluated) (G_evaluated : FnOk P w K mg base CX0 1 f_evaluated d_evaluated ["field", "poly", "place"] (spM K 3 [] Lib.F_evaluated)) : FnOk P w K mg base CX0 5 f_weights d_weights ["field", "places", "goal"] (spM K 3 [] Lib.F_weights) :=
  def_ok A_weights.fn sc_weights rfl fun cdv A outer s H E hr =>
    (ss_cons (s_expr (ev_fn (fun _ => G_check_field) (fun _ => hr.mono (by decide)) (fun _ => A_check_field.g) (fun _ => A_check_field.fn.kp) (fun _ => A_check_field.b) (ea_cons (ev_name 0) ea_nil) (na_cons na_nil)))
    (ss_cons (s_expr (ev_fn (fun _ => G_check_places) (fun _ => hr.mono (by decide)) (fun _ => A_check_places.g) (fun _ => A_check_places.fn.kp) (fun _ => A_check_places.b) (ea_cons (ev_name 0) (ea_cons (ev_name 1) ea_nil)) (na_cons (na_cons na_nil))))
    (ss_cons (s_expr (ev_fn (fun _ => G_check_number) (fun _ => hr.mono (by decide)) (fun _ => A_check_number.g) (fun _ => A_check_number.fn.kp) (fun _ => A_check_number.b) (ea_cons (ev_name 0) (ea_cons (ev_name 2) ea_nil)) (na_cons (na_cons na_nil))))
    (ss_cons (s_set 3 (ev_fn (fun _ => G_parts_of) (fun _ => hr.mono (by decide)) (fun _ => A_parts_of.g) (fun _ => A_parts_of.fn.kp) (fun _ => A_parts_of.b) (ea_cons (ev_name 0) (ea_cons (ev_name 1) ea_nil)) (na_cons (na_cons na_nil))) (fun _ => sc_weights.nd))
    (ss_cons (s_set 4 (ev_fn (fun _ => G_units_of) (fun _ => hr.mono (by decide)) (fun _ => A_units_of.g) (fun _ => A_units_of.fn.kp) (fun _ => A_units_of.b) (ea_cons (ev_name 0) (ea_cons (ev_name 1) (ea_cons (ev_name 3) ea_nil))) (na_cons (na_cons (na_cons na_nil)))) (fun _ => sc_weights.nd))
    (ss_one (s_ret (ev_callTy cd_tuple (fun _ => T.n_tuple) (ea_cons (ev_comp (own := [("part", 5), ("unit", 6)]) (fun _ => rfl) (fun _ => sc_weights.nd) (fun _ => by show BlkOk N_weights (defScope s_weights) _ _; exact blkOk_by (by decide +kernel)) (ei_zipA (fun _ => T.n_zip) (ea_cons (ev_name 3) (ea_cons (ev_name 4) ea_nil))) (eg_tup [5, 6] (fun _ => rfl) (fun _ => (pgs_cons (pg_name (i := 5) sc_weights.nd rfl (by first | exact Or.inl rfl | exact Or.inr rfl)) (pgs_cons (pg_name (i := 6) sc_weights.nd rfl (by first | exact Or.inl rfl | exact Or.inr rfl)) pgs_nil)))) ets_nil (ev_bin od_mod (ev_bin od_mul (ev_fn (fun _ => G_evaluated) (fun _ => hr.mono (by decide)) (fun _ => A_evaluated.g) (fun _ => A_evaluated.fn.kp) (fun _ => A_evaluated.b) (ea_cons (ev_name 0) (ea_cons (ev_name 5) (ea_cons (ev_name 2) ea_nil))) (na_cons (na_cons (na_cons na_nil)))) (ev_name 6)) (ev_name 0))) ea_nil)))))))))
theorem okX_weights (T : Txt K mg C_InvalidPoly C_InvalidOperation C_InvalidNumber C_TooMany C_Refused I_InvalidNumber I_TooMany I_Refused D_InvalidNumber D_TooMany D_Refused) {f_weights : Addr} {d_weights : FuncData} (A_weights : DefAt K mg "weights" s_weights ["field", "places", "goal"] f_weights d_weights) {f_check_field : Addr} {d_check_field : FuncData} (A_check_field : DefAt K mg "check_field" s_check_field ["field"] f_check_field d_check_field) (G_check_field : FnOk P w K mg base CX0 3 f_check_field d_check_field ["field"] (spM K 1 [] Lib.F_check_field)) {f_check_places : Addr} {d_check_places : FuncData} (A_check_places : DefAt K mg "check_places" s_check_places ["field", "places"] f_check_places d_check_places) (G_check_places : FnOk P w K mg base CX0 3 f_check_places d_check_places ["field", "places"] (spM K 2 [] Lib.F_check_places)) {f_check_number : Addr} {d_check_number : FuncData} (A_check_number : DefAt K mg "check_number" s_check_number ["field", "number"] f_check_number d_check_number) (G_check_number : FnOk P w K mg base CX0 4 f_check_number d_check_number ["field", "number"] (spM K 2 [] Lib.F_check_number)) (GX_check_field : FnOk P w K mg base (L2.CX P w) 3 f_check_field d_check_field ["field"] (spX K mg 1 X_check_field)) (GX_check_places : FnOk P w K mg base (L2.CX P w) 3 f_check_places d_check_places ["field", "places"] (spX K mg 2 X_check_places)) (GX_check_number : FnOk P w K mg base (L2.CX P w) 4 f_check_number d_check_number ["field", "number"] (spX K mg 2 X_check_number)) : FnOk P w K mg base (L2.CX P w) 5 f_weights d_weights ["field", "places", "goal"] (spX K mg 3 X_weights) :=
  def_okX A_weights.fn sc_weights rfl fun cdv A outer s H E hr =>
    (xs_cons (s_expr (ev_fn (fun _ => G_check_field) (fun _ => hr.mono (by decide)) (fun _ => A_check_field.g) (fun _ => A_check_field.fn.kp) (fun _ => A_check_field.b) (ea_cons (ev_name 0) ea_nil) (na_cons na_nil)))
    (x_drop (x_fn (fun _ => takes_of rfl rfl rfl rfl) (fun _ => GX_check_field) (fun _ => hr.mono (by decide)) (fun _ => A_check_field.g) (fun _ => A_check_field.fn.kp) (fun _ => A_check_field.b) (ea_cons (ev_name 0) ea_nil) (na_cons na_nil)))
    (xs_cons (s_expr (ev_fn (fun _ => G_check_places) (fun _ => hr.mono (by decide)) (fun _ => A_check_places.g) (fun _ => A_check_places.fn.kp) (fun _ => A_check_places.b) (ea_cons (ev_name 0) (ea_cons (ev_name 1) ea_nil)) (na_cons (na_cons na_nil))))
    (x_drop (x_fn (fun _ => takes_of rfl rfl rfl rfl) (fun _ => GX_check_places) (fun _ => hr.mono (by decide)) (fun _ => A_check_places.g) (fun _ => A_check_places.fn.kp) (fun _ => A_check_places.b) (ea_cons (ev_name 0) (ea_cons (ev_name 1) ea_nil)) (na_cons (na_cons na_nil))))
    (xs_cons (s_expr (ev_fn (fun _ => G_check_number) (fun _ => hr.mono (by decide)) (fun _ => A_check_number.g) (fun _ => A_check_number.fn.kp) (fun _ => A_check_number.b) (ea_cons (ev_name 0) (ea_cons (ev_name 2) ea_nil)) (na_cons (na_cons na_nil))))
    (x_drop (x_fn (fun _ => takes_of rfl rfl rfl rfl) (fun _ => GX_check_number) (fun _ => hr.mono (by decide)) (fun _ => A_check_number.g) (fun _ => A_check_number.fn.kp) (fun _ => A_check_number.b) (ea_cons (ev_name 0) (ea_cons (ev_name 2) ea_nil)) (na_cons (na_cons na_nil))))
    xs_nil)))
theorem ok_check_rows (T : Txt K mg C_InvalidPoly C_InvalidOperation C_InvalidNumber C_TooMany C_Refused I_InvalidNumber I_TooMany I_Refused D_InvalidNumber D_TooMany D_Refused) {f_check_rows : Addr} {d_check_rows : FuncData} (A_check_rows : DefAt K mg "check_rows" s_check_rows ["field", "places", "degree"] f_check_rows d_check_rows) {f_units_of : Addr} {d_units_of : FuncData} (A_units_of : DefAt K mg "units_of" s_units_of ["field", "places", "parts"] f_units_of d_units_of) (G_units_of : FnOk P w K mg base CX0 3 f_units_of d_units_of ["field", "places", "parts"] (spM K 3 [] Lib.F_units_of)) {f_parts_of : Addr} {d_parts_of : FuncData} (A_parts_of : DefAt K mg "parts_of" s_parts_of ["field", "places"] f_parts_of d_parts_of) (G_parts_of : FnOk P w K mg base CX0 3 f_parts_of d_parts_of ["field", "places"] (spM K 2 [] Lib.F_parts_of)) : FnOk P w K mg base CX0 4 f_check_rows d_check_rows ["field", "places", "degree"] (spM K 3 [] Lib.F_check_rows) :=
  def_ok A_check_rows.fn sc_check_rows rfl fun cdv A outer s H E hr =>
    (ss_cons (s_set 3 (ev_lst ea_nil) (fun _ => sc_check_rows.nd))
    (ss_cons (s_set 4 (ev_fn (fun _ => G_units_of) (fun _ => hr.mono (by decide)) (fun _ => A_units_of.g) (fun _ => A_units_of.fn.kp) (fun _ => A_units_of.b) (ea_cons (ev_name 0) (ea_cons (ev_name 1) (ea_cons (ev_fn (fun _ => G_parts_of) (fun _ => hr.mono (by decide)) (fun _ => A_parts_of.g) (fun _ => A_parts_of.fn.kp) (fun _ => A_parts_of.b) (ea_cons (ev_name 0) (ea_cons (ev_name 1) ea_nil)) (na_cons (na_cons na_nil))) ea_nil))) (na_cons (na_cons (na_cons na_nil)))) (fun _ => sc_check_rows.nd))
    (ss_cons (s_for (fun _ => PassesOwn.never) (fun _ => rfl) (ei_range1 (fun _ => T.n_range) (ea_cons (ev_bin od_sub (ev_bin od_sub (ev_callB cd_len (fun _ => T.n_len) (ea_cons (ev_name 1) ea_nil)) (ev_name 2)) ev_int) ea_nil)) (eg_name 5 (fun _ => sc_check_rows.nd)) (ss_cons (s_app 3 (ev_callTy cd_tuple (fun _ => T.n_tuple) (ea_cons (ev_name 4) ea_nil)))
    (ss_one (s_setLc 4 (own := [("x", 6), ("place", 7)]) (fun _ => rfl) (fun _ => sc_check_rows.nd) (fun _ => by show BlkOk N_check_rows (defScope s_check_rows) _ _; exact blkOk_by (by decide +kernel)) (ei_zipA (fun _ => T.n_zip) (ea_cons (ev_name 4) (ea_cons (ev_name 1) ea_nil))) (eg_tup [6, 7] (fun _ => rfl) (fun _ => (pgs_cons (pg_name (i := 6) sc_check_rows.nd rfl (by first | exact Or.inl rfl | exact Or.inr rfl)) (pgs_cons (pg_name (i := 7) sc_check_rows.nd rfl (by first | exact Or.inl rfl | exact Or.inr rfl)) pgs_nil)))) ets_nil (ev_bin od_mod (ev_bin od_mul (ev_name 6) (ev_name 7)) (ev_name 0))))))
    (ss_one (s_ret (ev_callTy cd_tuple (fun _ => T.n_tuple) (ea_cons (ev_name 3) ea_nil)))))))
theorem ok_checks (T : Txt K mg C_InvalidPoly C_InvalidOperation C_InvalidNumber C_TooMany C_Refused I_InvalidNumber I_TooMany I_Refused D_InvalidNumber D_TooMany D_Refused) {f_checks : Addr} {d_checks : FuncData} (A_checks : DefAt K mg "checks" s_checks ["field", "places", "degree"] f_checks d_checks) {f_check_field : Addr} {d_check_field : FuncData} (A_check_field : DefAt K mg "check_field" s_check_field ["field"] f_check_field d_check_field) (G_check_field : FnOk P w K mg base CX0 3 f_check_field d_check_field ["field"] (spM K 1 [] Lib.F_check_field)) {f_check_places : Addr} {d_check_places : FuncData} (A_check_places : DefAt K mg "check_places" s_check_places ["field", "places"] f_check_places d_check_places) (G_check_places : FnOk P w K mg base CX0 3 f_check_places d_check_places ["field", "places"] (spM K 2 [] Lib.F_check_places)) {f_check_integer : Addr} {d_check_integer : FuncData} (A_check_integer : DefAt K mg "check_integer" s_check_integer ["value", "least", "most"] f_check_integer d_check_integer) (G_check_integer : FnOk P w K mg base CX0 3 f_check_integer d_check_integer ["value", "least", "most"] (spM K 3 [] Lib.F_check_integer)) {f_check_rows : Addr} {d_check_rows : FuncData} (A_check_rows : DefAt K mg "check_rows" s_check_rows ["field", "places", "degree"] f_check_rows d_check_rows) (G_check_rows : FnOk P w K mg base CX0 4 f_check_rows d_check_rows ["field", "places", "degree"] (spM K 3 [] Lib.F_check_rows)) : FnOk P w K mg base CX0 5 f_checks d_checks ["field", "places", "degree"] (spM K 3 [] Lib.F_checks) :=
  def_ok A_checks.fn sc_checks rfl fun cdv A outer s H E hr =>
    (ss_cons (s_expr (ev_fn (fun _ => G_check_field) (fun _ => hr.mono (by decide)) (fun _ => A_check_field.g) (fun _ => A_check_field.fn.kp) (fun _ => A_check_field.b) (ea_cons (ev_name 0) ea_nil) (na_cons na_nil)))
    (ss_cons (s_expr (ev_fn (fun _ => G_check_places) (fun _ => hr.mono (by decide)) (fun _ => A_check_places.g) (fun _ => A_check_places.fn.kp) (fun _ => A_check_places.b) (ea_cons (ev_name 0) (ea_cons (ev_name 1) ea_nil)) (na_cons (na_cons na_nil))))
    (ss_cons (s_expr (ev_fn (fun _ => G_check_integer) (fun _ => hr.mono (by decide)) (fun _ => A_check_integer.g) (fun _ => A_check_integer.fn.kp) (fun _ => A_check_integer.b) (ea_cons (ev_name 2) (ea_cons (ev_neg ev_int) (ea_cons (ev_glob (fun _ => rfl) (fun _ => T.c_MAX_DEGREE.choose_spec.1) T.c_MAX_DEGREE.choose_spec.2.1 T.c_MAX_DEGREE.choose_spec.2.2) ea_nil))) (na_cons (na_cons (na_cons na_nil)))))
    (ss_one (s_ret (ev_fn (fun _ => G_check_rows) (fun _ => hr.mono (by decide)) (fun _ => A_check_rows.g) (fun _ => A_check_rows.fn.kp) (fun _ => A_check_rows.b) (ea_cons (ev_name 0) (ea_cons (ev_name 1) (ea_cons (ev_name 2) ea_nil))) (na_cons (na_cons (na_cons na_nil)))))))))
theorem okX_checks (T : Txt K mg C_InvalidPoly C_InvalidOperation C_InvalidNumber C_TooMany C_Refused I_InvalidNumber I_TooMany I_Refused D_InvalidNumber D_TooMany D_Refused) {f_checks : Addr} {d_checks : FuncData} (A_checks : DefAt K mg "checks" s_checks ["field", "places", "degree"] f_checks d_checks) {f_check_field : Addr} {d_check_field : FuncData} (A_check_field : DefAt K mg "check_field" s_check_field ["field"] f_check_field d_check_field) (G_check_field : FnOk P w K mg base CX0 3 f_check_field d_check_field ["field"] (spM K 1 [] Lib.F_check_field)) {f_check_places : Addr} {d_check_places : FuncData} (A_check_places : DefAt K mg "check_places" s_check_places ["field", "places"] f_check_places d_check_places) (G_check_places : FnOk P w K mg base CX0 3 f_check_places d_check_places ["field", "places"] (spM K 2 [] Lib.F_check_places)) {f_check_integer : Addr} {d_check_integer : FuncData} (A_check_integer : DefAt K mg "check_integer" s_check_integer ["value", "least", "most"] f_check_integer d_check_integer) (G_check_integer : FnOk P w K mg base CX0 3 f_check_integer d_check_integer ["value", "least", "most"] (spM K 3 [] Lib.F_check_integer)) (GX_check_field : FnOk P w K mg base (L2.CX P w) 3 f_check_field d_check_field ["field"] (spX K mg 1 X_check_field)) (GX_check_places : FnOk P w K mg base (L2.CX P w) 3 f_check_places d_check_places ["field", "places"] (spX K mg 2 X_check_places)) (GX_check_integer : FnOk P w K mg base (L2.CX P w) 3 f_check_integer d_check_integer ["value", "least", "most"] (spX K mg 3 X_check_integer)) : FnOk P w K mg base (L2.CX P w) 5 f_checks d_checks ["field", "places", "degree"] (spX K mg 3 X_checks) :=
  def_okX A_checks.fn sc_checks rfl fun cdv A outer s H E hr =>
    (xs_cons (s_expr (ev_fn (fun _ => G_check_field) (fun _ => hr.mono (by decide)) (fun _ => A_check_field.g) (fun _ => A_check_field.fn.kp) (fun _ => A_check_field.b) (ea_cons (ev_name 0) ea_nil) (na_cons na_nil)))
    (x_drop (x_fn (fun _ => takes_of rfl rfl rfl rfl) (fun _ => GX_check_field) (fun _ => hr.mono (by decide)) (fun _ => A_check_field.g) (fun _ => A_check_field.fn.kp) (fun _ => A_check_field.b) (ea_cons (ev_name 0) ea_nil) (na_cons na_nil)))
    (xs_cons (s_expr (ev_fn (fun _ => G_check_places) (fun _ => hr.mono (by decide)) (fun _ => A_check_places.g) (fun _ => A_check_places.fn.kp) (fun _ => A_check_places.b) (ea_cons (ev_name 0) (ea_cons (ev_name 1) ea_nil)) (na_cons (na_cons na_nil))))
    (x_drop (x_fn (fun _ => takes_of rfl rfl rfl rfl) (fun _ => GX_check_places) (fun _ => hr.mono (by decide)) (fun _ => A_check_places.g) (fun _ => A_check_places.fn.kp) (fun _ => A_check_places.b) (ea_cons (ev_name 0) (ea_cons (ev_name 1) ea_nil)) (na_cons (na_cons na_nil))))
    (xs_cons (s_expr (ev_fn (fun _ => G_check_integer) (fun _ => hr.mono (by decide)) (fun _ => A_check_integer.g) (fun _ => A_check_integer.fn.kp) (fun _ => A_check_integer.b) (ea_cons (ev_name 2) (ea_cons (ev_neg ev_int) (ea_cons (ev_glob (fun _ => rfl) (fun _ => T.c_MAX_DEGREE.choose_spec.1) T.c_MAX_DEGREE.choose_spec.2.1 T.c_MAX_DEGREE.choose_spec.2.2) ea_nil))) (na_cons (na_cons (na_cons na_nil)))))
    (x_drop (x_fn (fun _ => takes_of rfl rfl rfl rfl) (fun _ => GX_check_integer) (fun _ => hr.mono (by decide)) (fun _ => A_check_integer.g) (fun _ => A_check_integer.fn.kp) (fun _ => A_check_integer.b) (ea_cons (ev_name 2) (ea_cons (ev_neg ev_int) (ea_cons (ev_glob (fun _ => rfl) (fun _ => T.c_MAX_DEGREE.choose_spec.1) T.c_MAX_DEGREE.choose_spec.2.1 T.c_MAX_DEGREE.choose_spec.2.2) ea_nil))) (na_cons (na_cons (na_cons na_nil)))))
    xs_nil)))
theorem ok_hiding_poly (T : Txt K mg C_InvalidPoly C_InvalidOperation C_InvalidNumber C_TooMany C_Refused I_InvalidNumber I_TooMany I_Refused D_InvalidNumber D_TooMany D_Refused) {f_hiding_poly : Addr} {d_hiding_poly : FuncData} (A_hiding_poly : DefAt K mg "hiding_poly" s_hiding_poly ["field", "places"] f_hiding_poly d_hiding_poly) {f_vanishing : Addr} {d_vanishing : FuncData} (A_vanishing : DefAt K mg "vanishing" s_vanishing ["field", "places"] f_vanishing d_vanishing) (G_vanishing : FnOk P w K mg base CX0 2 f_vanishing d_vanishing ["field", "places"] (spM K 2 [] Lib.F_vanishing)) {f_scaled : Addr} {d_scaled : FuncData} (A_scaled : DefAt K mg "scaled" s_scaled ["field", "poly", "number"] f_scaled d_scaled) (G_scaled : FnOk P w K mg base CX0 1 f_scaled d_scaled ["field", "poly", "number"] (spM K 3 [] Lib.F_scaled)) {f_inverse : Addr} {d_inverse : FuncData} (A_inverse : DefAt K mg "inverse" s_inverse ["field", "number"] f_inverse d_inverse) (G_inverse : FnOk P w K mg base CX0 2 f_inverse d_inverse ["field", "number"] (spM K 2 [] Lib.F_inverse)) : FnOk P w K mg base CX0 3 f_hiding_poly d_hiding_poly ["field", "places"] (spM K 2 [] Lib.F_hiding_poly) :=
  def_ok A_hiding_poly.fn sc_hiding_poly rfl fun cdv A outer s H E hr =>
    (ss_cons (s_set 2 (ev_fn (fun _ => G_vanishing) (fun _ => hr.mono (by decide)) (fun _ => A_vanishing.g) (fun _ => A_vanishing.fn.kp) (fun _ => A_vanishing.b) (ea_cons (ev_name 0) (ea_cons (ev_name 1) ea_nil)) (na_cons (na_cons na_nil))) (fun _ => sc_hiding_poly.nd))
    (ss_one (s_ret (ev_callTy cd_tuple (fun _ => T.n_tuple) (ea_cons (ev_fn (fun _ => G_scaled) (fun _ => hr.mono (by decide)) (fun _ => A_scaled.g) (fun _ => A_scaled.fn.kp) (fun _ => A_scaled.b) (ea_cons (ev_name 0) (ea_cons (ev_name 2) (ea_cons (ev_fn (fun _ => G_inverse) (fun _ => hr.mono (by decide)) (fun _ => A_inverse.g) (fun _ => A_inverse.fn.kp) (fun _ => A_inverse.b) (ea_cons (ev_name 0) (ea_cons (ev_ix (ev_name 2) ev_int) ea_nil)) (na_cons (na_cons na_nil))) ea_nil))) (na_cons (na_cons (na_cons na_nil)))) ea_nil)))))
theorem ok_hiding (T : Txt K mg C_InvalidPoly C_InvalidOperation C_InvalidNumber C_TooMany C_Refused I_InvalidNumber I_TooMany I_Refused D_InvalidNumber D_TooMany D_Refused) {f_hiding : Addr} {d_hiding : FuncData} (A_hiding : DefAt K mg "hiding" s_hiding ["field", "places"] f_hiding d_hiding) {f_check_field : Addr} {d_check_field : FuncData} (A_check_field : DefAt K mg "check_field" s_check_field ["field"] f_check_field d_check_field) (G_check_field : FnOk P w K mg base CX0 3 f_check_field d_check_field ["field"] (spM K 1 [] Lib.F_check_field)) {f_check_hidden_places : Addr} {d_check_hidden_places : FuncData} (A_check_hidden_places : DefAt K mg "check_hidden_places" s_check_hidden_places ["field", "places"] f_check_hidden_places d_check_hidden_places) (G_check_hidden_places : FnOk P w K mg base CX0 3 f_check_hidden_places d_check_hidden_places ["field", "places"] (spM K 2 [] Lib.F_check_hidden_places)) {f_hiding_poly : Addr} {d_hiding_poly : FuncData} (A_hiding_poly : DefAt K mg "hiding_poly" s_hiding_poly ["field", "places"] f_hiding_poly d_hiding_poly) (G_hiding_poly : FnOk P w K mg base CX0 3 f_hiding_poly d_hiding_poly ["field", "places"] (spM K 2 [] Lib.F_hiding_poly)) : FnOk P w K mg base CX0 4 f_hiding d_hiding ["field", "places"] (spM K 2 [] Lib.F_hiding) :=
  def_ok A_hiding.fn sc_hiding rfl fun cdv A outer s H E hr =>
    (ss_cons (s_expr (ev_fn (fun _ => G_check_field) (fun _ => hr.mono (by decide)) (fun _ => A_check_field.g) (fun _ => A_check_field.fn.kp) (fun _ => A_check_field.b) (ea_cons (ev_name 0) ea_nil) (na_cons na_nil)))
    (ss_cons (s_expr (ev_fn (fun _ => G_check_hidden_places) (fun _ => hr.mono (by decide)) (fun _ => A_check_hidden_places.g) (fun _ => A_check_hidden_places.fn.kp) (fun _ => A_check_hidden_places.b) (ea_cons (ev_name 0) (ea_cons (ev_name 1) ea_nil)) (na_cons (na_cons na_nil))))
    (ss_one (s_ret (ev_fn (fun _ => G_hiding_poly) (fun _ => hr.mono (by decide)) (fun _ => A_hiding_poly.g) (fun _ => A_hiding_poly.fn.kp) (fun _ => A_hiding_poly.b) (ea_cons (ev_name 0) (ea_cons (ev_name 1) ea_nil)) (na_cons (na_cons na_nil)))))))
theorem okX_hiding (T : Txt K mg C_InvalidPoly C_InvalidOperation C_InvalidNumber C_TooMany C_Refused I_InvalidNumber I_TooMany I_Refused D_InvalidNumber D_TooMany D_Refused) {f_hiding : Addr} {d_hiding : FuncData} (A_hiding : DefAt K mg "hiding" s_hiding ["field", "places"] f_hiding d_hiding) {f_check_field : Addr} {d_check_field : FuncData} (A_check_field : DefAt K mg "check_field" s_check_field ["field"] f_check_field d_check_field) (G_check_field : FnOk P w K mg base CX0 3 f_check_field d_check_field ["field"] (spM K 1 [] Lib.F_check_field)) {f_check_hidden_places : Addr} {d_check_hidden_places : FuncData} (A_check_hidden_places : DefAt K mg "check_hidden_places" s_check_hidden_places ["field", "places"] f_check_hidden_places d_check_hidden_places) (G_check_hidden_places : FnOk P w K mg base CX0 3 f_check_hidden_places d_check_hidden_places ["field", "places"] (spM K 2 [] Lib.F_check_hidden_places)) (GX_check_field : FnOk P w K mg base (L2.CX P w) 3 f_check_field d_check_field ["field"] (spX K mg 1 X_check_field)) (GX_check_hidden_places : FnOk P w K mg base (L2.CX P w) 3 f_check_hidden_places d_check_hidden_places ["field", "places"] (spX K mg 2 X_check_hidden_places)) : FnOk P w K mg base (L2.CX P w) 4 f_hiding d_hiding ["field", "places"] (spX K mg 2 X_hiding) :=
  def_okX A_hiding.fn sc_hiding rfl fun cdv A outer s H E hr =>
    (xs_cons (s_expr (ev_fn (fun _ => G_check_field) (fun _ => hr.mono (by decide)) (fun _ => A_check_field.g) (fun _ => A_check_field.fn.kp) (fun _ => A_check_field.b) (ea_cons (ev_name 0) ea_nil) (na_cons na_nil)))
    (x_drop (x_fn (fun _ => takes_of rfl rfl rfl rfl) (fun _ => GX_check_field) (fun _ => hr.mono (by decide)) (fun _ => A_check_field.g) (fun _ => A_check_field.fn.kp) (fun _ => A_check_field.b) (ea_cons (ev_name 0) ea_nil) (na_cons na_nil)))
    (xs_cons (s_expr (ev_fn (fun _ => G_check_hidden_places) (fun _ => hr.mono (by decide)) (fun _ => A_check_hidden_places.g) (fun _ => A_check_hidden_places.fn.kp) (fun _ => A_check_hidden_places.b) (ea_cons (ev_name 0) (ea_cons (ev_name 1) ea_nil)) (na_cons (na_cons na_nil))))
    (x_drop (x_fn (fun _ => takes_of rfl rfl rfl rfl) (fun _ => GX_check_hidden_places) (fun _ => hr.mono (by decide)) (fun _ => A_check_hidden_places.g) (fun _ => A_check_hidden_places.fn.kp) (fun _ => A_check_hidden_places.b) (ea_cons (ev_name 0) (ea_cons (ev_name 1) ea_nil)) (na_cons (na_cons na_nil))))
    xs_nil))
theorem ok_hidden (T : Txt K mg C_InvalidPoly C_InvalidOperation C_InvalidNumber C_TooMany C_Refused I_InvalidNumber I_TooMany I_Refused D_InvalidNumber D_TooMany D_Refused) {f_hidden : Addr} {d_hidden : FuncData} (A_hidden : DefAt K mg "hidden" s_hidden ["field", "poly", "places", "goal"] f_hidden d_hidden) {f_check_field : Addr} {d_check_field : FuncData} (A_check_field : DefAt K mg "check_field" s_check_field ["field"] f_check_field d_check_field) (G_check_field : FnOk P w K mg base CX0 3 f_check_field d_check_field ["field"] (spM K 1 [] Lib.F_check_field)) {f_check_poly : Addr} {d_check_poly : FuncData} (A_check_poly : DefAt K mg "check_poly" s_check_poly ["field", "poly"] f_check_poly d_check_poly) (G_check_poly : FnOk P w K mg base CX0 5 f_check_poly d_check_poly ["field", "poly"] (spM K 2 [] Lib.F_check_poly)) {f_check_hidden_places : Addr} {d_check_hidden_places : FuncData} (A_check_hidden_places : DefAt K mg "check_hidden_places" s_check_hidden_places ["field", "places"] f_check_hidden_places d_check_hidden_places) (G_check_hidden_places : FnOk P w K mg base CX0 3 f_check_hidden_places d_check_hidden_places ["field", "places"] (spM K 2 [] Lib.F_check_hidden_places)) {f_check_number : Addr} {d_check_number : FuncData} (A_check_number : DefAt K mg "check_number" s_check_number ["field", "number"] f_check_number d_check_number) (G_check_number : FnOk P w K mg base CX0 4 f_check_number d_check_number ["field", "number"] (spM K 2 [] Lib.F_check_number)) {f_evaluated : Addr} {d_evaluated : FuncData} (A_evaluated : DefAt K mg "evaluated" s_evaluated ["field", "poly", "place"] f_evaluated d_evaluated) (G_evaluated : FnOk P w K mg base CX0 1 f_evaluated d_evaluated ["field", "poly", "place"] (spM K 3 [] Lib.F_evaluated)) {f_added : Addr} {d_added : FuncData} (A_added : DefAt K mg "added" s_added ["field", "one", "other"] f_added d_added) (G_added : FnOk P w K mg base CX0 2 f_added d_added ["field", "one", "other"] (spM K 3 [] Lib.F_added)) {f_scaled : Addr} {d_scaled : FuncData} (A_scaled : DefAt K mg "scaled" s_scaled ["field", "poly", "number"] f_scaled d_scaled) (G_scaled : FnOk P w K mg base CX0 1 f_scaled d_scaled ["field", "poly", "number"] (spM K 3 [] Lib.F_scaled)) {f_hiding_poly : Addr} {d_hiding_poly : FuncData} (A_hiding_poly : DefAt K mg "hiding_poly" s_hiding_poly ["field", "places"] f_hiding_poly d_hiding_poly) (G_hiding_poly : FnOk P w K mg base CX0 3 f_hiding_poly d_hiding_poly ["field", "places"] (spM K 2 [] Lib.F_hiding_poly)) : FnOk P w K mg base CX0 6 f_hidden d_hidden ["field", "poly", "places", "goal"] (spM K 4 [] Lib.F_hidden) :=
  def_ok A_hidden.fn sc_hidden rfl fun cdv A outer s H E hr =>
    (ss_cons (s_expr (ev_fn (fun _ => G_check_field) (fun _ => hr.mono (by decide)) (fun _ => A_check_field.g) (fun _ => A_check_field.fn.kp) (fun _ => A_check_field.b) (ea_cons (ev_name 0) ea_nil) (na_cons na_nil)))
    (ss_cons (s_expr (ev_fn (fun _ => G_check_poly) (fun _ => hr.mono (by decide)) (fun _ => A_check_poly.g) (fun _ => A_check_poly.fn.kp) (fun _ => A_check_poly.b) (ea_cons (ev_name 0) (ea_cons (ev_name 1) ea_nil)) (na_cons (na_cons na_nil))))
    (ss_cons (s_expr (ev_fn (fun _ => G_check_hidden_places) (fun _ => hr.mono (by decide)) (fun _ => A_check_hidden_places.g) (fun _ => A_check_hidden_places.fn.kp) (fun _ => A_check_hidden_places.b) (ea_cons (ev_name 0) (ea_cons (ev_name 2) ea_nil)) (na_cons (na_cons na_nil))))
    (ss_cons (s_expr (ev_fn (fun _ => G_check_number) (fun _ => hr.mono (by decide)) (fun _ => A_check_number.g) (fun _ => A_check_number.fn.kp) (fun _ => A_check_number.b) (ea_cons (ev_name 0) (ea_cons (ev_name 3) ea_nil)) (na_cons (na_cons na_nil))))
    (ss_cons (s_set 4 (ev_bin od_mod (ev_bin od_sub (ev_name 3) (ev_fn (fun _ => G_evaluated) (fun _ => hr.mono (by decide)) (fun _ => A_evaluated.g) (fun _ => A_evaluated.fn.kp) (fun _ => A_evaluated.b) (ea_cons (ev_name 0) (ea_cons (ev_name 1) (ea_cons ev_int ea_nil))) (na_cons (na_cons (na_cons na_nil))))) (ev_name 0)) (fun _ => sc_hidden.nd))
    (ss_one (s_ret (ev_fn (fun _ => G_added) (fun _ => hr.mono (by decide)) (fun _ => A_added.g) (fun _ => A_added.fn.kp) (fun _ => A_added.b) (ea_cons (ev_name 0) (ea_cons (ev_name 1) (ea_cons (ev_fn (fun _ => G_scaled) (fun _ => hr.mono (by decide)) (fun _ => A_scaled.g) (fun _ => A_scaled.fn.kp) (fun _ => A_scaled.b) (ea_cons (ev_name 0) (ea_cons (ev_fn (fun _ => G_hiding_poly) (fun _ => hr.mono (by decide)) (fun _ => A_hiding_poly.g) (fun _ => A_hiding_poly.fn.kp) (fun _ => A_hiding_poly.b) (ea_cons (ev_name 0) (ea_cons (ev_name 2) ea_nil)) (na_cons (na_cons na_nil))) (ea_cons (ev_name 4) ea_nil))) (na_cons (na_cons (na_cons na_nil)))) ea_nil))) (na_cons (na_cons (na_cons na_nil)))))))))))
theorem okX_hidden (T : Txt K mg C_InvalidPoly C_InvalidOperation C_InvalidNumber C_TooMany C_Refused I_InvalidNumber I_TooMany I_Refused D_InvalidNumber D_TooMany D_Refused) {f_hidden : Addr} {d_hidden : FuncData} (A_hidden : DefAt K mg "hidden" s_hidden ["field", "poly", "places", "goal"] f_hidden d_hidden) {f_check_field : Addr} {d_check_field : FuncData} (A_check_field : DefAt K mg "check_field" s_check_field ["field"] f_check_field d_check_field) (G_check_field : FnOk P w K mg base CX0 3 f_check_field d_check_field ["field"] (spM K 1 [] Lib.F_check_field)) {f_check_poly : Addr} {d_check_poly : FuncData} (A_check_poly : DefAt K mg "check_poly" s_check_poly ["field", "poly"] f_check_poly d_check_poly) (G_check_poly : FnOk P w K mg base CX0 5 f_check_poly d_check_poly ["field", "poly"] (spM K 2 [] Lib.F_check_poly)) {f_check_hidden_places : Addr} {d_check_hidden_places : FuncData} (A_check_hidden_places : DefAt K mg "check_hidden_places" s_check_hidden_places ["field", "places"] f_check_hidden_places d_check_hidden_places) (G_check_hidden_places : FnOk P w K mg base CX0 3 f_check_hidden_places d_check_hidden_places ["field", "places"] (spM K 2 [] Lib.F_check_hidden_places)) {f_check_number : Addr} {d_check_number : FuncData} (A_check_number : DefAt K mg "check_number" s_check_number ["field", "number"] f_check_number d_check_number) (G_check_number : FnOk P w K mg base CX0 4 f_check_number d_check_number ["field", "number"] (spM K 2 [] Lib.F_check_number)) (GX_check_field : FnOk P w K mg base (L2.CX P w) 3 f_check_field d_check_field ["field"] (spX K mg 1 X_check_field)) (GX_check_poly : FnOk P w K mg base (L2.CX P w) 5 f_check_poly d_check_poly ["field", "poly"] (spX K mg 2 X_check_poly)) (GX_check_hidden_places : FnOk P w K mg base (L2.CX P w) 3 f_check_hidden_places d_check_hidden_places ["field", "places"] (spX K mg 2 X_check_hidden_places)) (GX_check_number : FnOk P w K mg base (L2.CX P w) 4 f_check_number d_check_number ["field", "number"] (spX K mg 2 X_check_number)) : FnOk P w K mg base (L2.CX P w) 6 f_hidden d_hidden ["field", "poly", "places", "goal"] (spX K mg 4 X_hidden) :=
  def_okX A_hidden.fn sc_hidden rfl fun cdv A outer s H E hr =>
    (xs_cons (s_expr (ev_fn (fun _ => G_check_field) (fun _ => hr.mono (by decide)) (fun _ => A_check_field.g) (fun _ => A_check_field.fn.kp) (fun _ => A_check_field.b) (ea_cons (ev_name 0) ea_nil) (na_cons na_nil)))
    (x_drop (x_fn (fun _ => takes_of rfl rfl rfl rfl) (fun _ => GX_check_field) (fun _ => hr.mono (by decide)) (fun _ => A_check_field.g) (fun _ => A_check_field.fn.kp) (fun _ => A_check_field.b) (ea_cons (ev_name 0) ea_nil) (na_cons na_nil)))
    (xs_cons (s_expr (ev_fn (fun _ => G_check_poly) (fun _ => hr.mono (by decide)) (fun _ => A_check_poly.g) (fun _ => A_check_poly.fn.kp) (fun _ => A_check_poly.b) (ea_cons (ev_name 0) (ea_cons (ev_name 1) ea_nil)) (na_cons (na_cons na_nil))))
    (x_drop (x_fn (fun _ => takes_of rfl rfl rfl rfl) (fun _ => GX_check_poly) (fun _ => hr.mono (by decide)) (fun _ => A_check_poly.g) (fun _ => A_check_poly.fn.kp) (fun _ => A_check_poly.b) (ea_cons (ev_name 0) (ea_cons (ev_name 1) ea_nil)) (na_cons (na_cons na_nil))))
    (xs_cons (s_expr (ev_fn (fun _ => G_check_hidden_places) (fun _ => hr.mono (by decide)) (fun _ => A_check_hidden_places.g) (fun _ => A_check_hidden_places.fn.kp) (fun _ => A_check_hidden_places.b) (ea_cons (ev_name 0) (ea_cons (ev_name 2) ea_nil)) (na_cons (na_cons na_nil))))
    (x_drop (x_fn (fun _ => takes_of rfl rfl rfl rfl) (fun _ => GX_check_hidden_places) (fun _ => hr.mono (by decide)) (fun _ => A_check_hidden_places.g) (fun _ => A_check_hidden_places.fn.kp) (fun _ => A_check_hidden_places.b) (ea_cons (ev_name 0) (ea_cons (ev_name 2) ea_nil)) (na_cons (na_cons na_nil))))
    (xs_cons (s_expr (ev_fn (fun _ => G_check_number) (fun _ => hr.mono (by decide)) (fun _ => A_check_number.g) (fun _ => A_check_number.fn.kp) (fun _ => A_check_number.b) (ea_cons (ev_name 0) (ea_cons (ev_name 3) ea_nil)) (na_cons (na_cons na_nil))))
    (x_drop (x_fn (fun _ => takes_of rfl rfl rfl rfl) (fun _ => GX_check_number) (fun _ => hr.mono (by decide)) (fun _ => A_check_number.g) (fun _ => A_check_number.fn.kp) (fun _ => A_check_number.b) (ea_cons (ev_name 0) (ea_cons (ev_name 3) ea_nil)) (na_cons (na_cons na_nil))))
    xs_nil))))
theorem ok__law_dice (T : Txt K mg C_InvalidPoly C_InvalidOperation C_InvalidNumber C_TooMany C_Refused I_InvalidNumber I_TooMany I_Refused D_InvalidNumber D_TooMany D_Refused) {f__law_dice : Addr} {d__law_dice : FuncData} (A__law_dice : DefAt K mg "_law_dice" s__law_dice ["script", "spot"] f__law_dice d__law_dice) : FnOk P w K mg base CX0 1 f__law_dice d__law_dice ["script", "spot"] (spM K 2 [] Lib.F__law_dice) :=
  def_ok A__law_dice.fn sc__law_dice rfl fun cdv A outer s H E hr =>
    (ss_cons (s_set 2 (ev_if (et_cmp od_lt (ev_name 1) (ev_callB cd_len (fun _ => T.n_len) (ea_cons (ev_name 0) ea_nil))) (ev_callTy cd_int (fun _ => T.n_int) (ea_cons (ev_ix (ev_name 0) (ev_name 1)) ea_nil)) (ev_bin od_add (ev_bin od_mul ev_int (ev_name 1)) ev_int)) (fun _ => sc__law_dice.nd))
    (ss_cons (s_set 3 (ev_bin od_mod (ev_callB (cd_max (fun _ => rfl)) (fun _ => T.n_max) (ea_cons ev_int (ea_cons (ev_bin od_sub (ev_callB cd_abs (fun _ => T.n_abs) (ea_cons (ev_name 2) ea_nil)) (ev_bin od_pow ev_int ev_int)) ea_nil))) (ev_bin od_mul (ev_bin od_pow ev_int ev_int) (ev_bin od_pow ev_int ev_int))) (fun _ => sc__law_dice.nd))
    (ss_one (s_ret (ev_lst (ea_cons (ev_name 3) (ea_cons (ev_bin od_add (ev_bin od_add (ev_bin od_add (ev_bin od_mul (ev_bin od_mod (ev_callB cd_abs (fun _ => T.n_abs) (ea_cons (ev_name 2) ea_nil)) ev_int) ev_int) (ev_bin od_mul ev_int (ev_name 1))) (ev_bin od_mul ev_int (ev_callTy cd_int (fun _ => T.n_int) (ea_cons (ev_cmp od_lt (ev_name 2) ev_int) ea_nil)))) ev_int) (ea_cons ev_int ea_nil))))))))
theorem ok__law_roll (T : Txt K mg C_InvalidPoly C_InvalidOperation C_InvalidNumber C_TooMany C_Refused I_InvalidNumber I_TooMany I_Refused D_InvalidNumber D_TooMany D_Refused) {f__law_roll : Addr} {d__law_roll : FuncData} (A__law_roll : DefAt K mg "_law_roll" s__law_roll ["dice", "most"] f__law_roll d__law_roll) : FnOk P w K mg base CX0 1 f__law_roll d__law_roll ["dice", "most"] (spM K 2 [0] Lib.F__law_roll) :=
  def_ok A__law_roll.fn sc__law_roll rfl fun cdv A outer s H E hr =>
    (ss_cons (s_if (et_cmp od_gt (ev_ix (ev_name 0) ev_int) ev_int) (ss_cons (s_set 2 (ev_bin od_mod (ev_callTy cd_int (fun _ => T.n_int) (ea_cons (ev_ix (ev_name 0) ev_int) ea_nil)) (ev_name 1)) (fun _ => sc__law_roll.nd))
    (ss_cons (s_setix 0 (ev_bin od_fdiv (ev_ix (ev_name 0) ev_int) (ev_name 1)) ev_int)
    (ss_one (s_ret (ev_name 2))))) ss_nil)
    (ss_cons (s_setix 0 (ev_bin od_add (ev_ix (ev_name 0) ev_int) ev_int) ev_int)
    (ss_cons (s_set 3 (ev_bin od_mod (ev_callTy cd_int (fun _ => T.n_int) (ea_cons (ev_bin od_add (ev_ix (ev_name 0) ev_int) (ev_bin od_mul ev_int (ev_ix (ev_name 0) ev_int))) ea_nil)) ev_int) (fun _ => sc__law_roll.nd))
    (ss_cons (s_set 4 (ev_bin od_add (ev_bin od_mul (ev_bin od_mod (ev_callTy cd_int (fun _ => T.n_int) (ea_cons (ev_bin od_add (ev_bin od_mul (ev_name 3) (ev_name 3)) (ev_bin od_mul ev_int (ev_ix (ev_name 0) ev_int))) ea_nil)) ev_int) ev_int) (ev_name 3)) (fun _ => sc__law_roll.nd))
    (ss_one (s_ret (ev_bin od_mod (ev_callTy cd_int (fun _ => T.n_int) (ea_cons (ev_bin od_fdiv (ev_name 4) ev_int) ea_nil)) (ev_name 1))))))))
theorem ok__law_pick (T : Txt K mg C_InvalidPoly C_InvalidOperation C_InvalidNumber C_TooMany C_Refused I_InvalidNumber I_TooMany I_Refused D_InvalidNumber D_TooMany D_Refused) {f__law_pick : Addr} {d__law_pick : FuncData} (A__law_pick : DefAt K mg "_law_pick" s__law_pick ["dice", "items"] f__law_pick d__law_pick) {f__law_roll : Addr} {d__law_roll : FuncData} (A__law_roll : DefAt K mg "_law_roll" s__law_roll ["dice", "most"] f__law_roll d__law_roll) (G__law_roll : FnOk P w K mg base CX0 1 f__law_roll d__law_roll ["dice", "most"] (spM K 2 [0] Lib.F__law_roll)) : FnOk P w K mg base CX0 2 f__law_pick d__law_pick ["dice", "items"] (spM K 2 [0] Lib.F__law_pick) :=
  def_ok A__law_pick.fn sc__law_pick rfl fun cdv A outer s H E hr =>
    (ss_one (s_ret (ev_ix (ev_name 1) (ev_fnD (fun _ => G__law_roll) (fun _ => hr.mono (by decide)) (fun _ => A__law_roll.g) (fun _ => A__law_roll.fn.kp) (fun _ => A__law_roll.b) (ea_cons (ev_name 0) (ea_cons (ev_callB cd_len (fun _ => T.n_len) (ea_cons (ev_name 1) ea_nil)) ea_nil)) (na_cons (na_cons na_nil))))))
theorem ok__law_polys_right (T : Txt K mg C_InvalidPoly C_InvalidOperation C_InvalidNumber C_TooMany C_Refused I_InvalidNumber I_TooMany I_Refused D_InvalidNumber D_TooMany D_Refused) {f__law_polys_right : Addr} {d__law_polys_right : FuncData} (A__law_polys_right : DefAt K mg "_law_polys_right" s__law_polys_right ["dice", "none", "bad", "number"] f__law_polys_right d__law_polys_right) {f_poly_sum : Addr} {d_poly_sum : FuncData} (A_poly_sum : DefAt K mg "poly_sum" s_poly_sum ["field", "one", "other"] f_poly_sum d_poly_sum) (G_poly_sum : FnOk P w K mg base CX0 6 f_poly_sum d_poly_sum ["field", "one", "other"] (spM K 3 [] Lib.F_poly_sum)) {f_poly_scaled : Addr} {d_poly_scaled : FuncData} (A_poly_scaled : DefAt K mg "poly_scaled" s_poly_scaled ["field", "poly", "number"] f_poly_scaled d_poly_scaled) (G_poly_scaled : FnOk P w K mg base CX0 6 f_poly_scaled d_poly_scaled ["field", "poly", "number"] (spM K 3 [] Lib.F_poly_scaled)) {f_poly_product : Addr} {d_poly_product : FuncData} (A_poly_product : DefAt K mg "poly_product" s_poly_product ["field", "one", "other"] f_poly_product d_poly_product) (G_poly_product : FnOk P w K mg base CX0 6 f_poly_product d_poly_product ["field", "one", "other"] (spM K 3 [] Lib.F_poly_product)) {f_poly_divided : Addr} {d_poly_divided : FuncData} (A_poly_divided : DefAt K mg "poly_divided" s_poly_divided ["field", "one", "other"] f_poly_divided d_poly_divided) (G_poly_divided : FnOk P w K mg base CX0 6 f_poly_divided d_poly_divided ["field", "one", "other"] (spM K 3 [] Lib.F_poly_divided)) {f_value_at : Addr} {d_value_at : FuncData} (A_value_at : DefAt K mg "value_at" s_value_at ["field", "poly", "place"] f_value_at d_value_at) (G_value_at : FnOk P w K mg base CX0 6 f_value_at d_value_at ["field", "poly", "place"] (spM K 3 [] Lib.F_value_at)) {f_is_poly : Addr} {d_is_poly : FuncData} (A_is_poly : DefAt K mg "is_poly" s_is_poly ["field", "value"] f_is_poly d_is_poly) (G_is_poly : FnOk P w K mg base CX0 4 f_is_poly d_is_poly ["field", "value"] (spM K 2 [] Lib.F_is_poly)) (GX_poly_sum : FnOk P w K mg base (L2.CX P w) 6 f_poly_sum d_poly_sum ["field", "one", "other"] (spX K mg 3 X_poly_sum)) (GX_poly_scaled : FnOk P w K mg base (L2.CX P w) 6 f_poly_scaled d_poly_scaled ["field", "poly", "number"] (spX K mg 3 X_poly_scaled)) (GX_poly_product : FnOk P w K mg base (L2.CX P w) 6 f_poly_product d_poly_product ["field", "one", "other"] (spX K mg 3 X_poly_product)) (GX_poly_divided : FnOk P w K mg base (L2.CX P w) 6 f_poly_divided d_poly_divided ["field", "one", "other"] (spX K mg 3 X_poly_divided)) (GX_value_at : FnOk P w K mg base (L2.CX P w) 6 f_value_at d_value_at ["field", "poly", "place"] (spX K mg 3 X_value_at)) (GX_is_poly : FnOk P w K mg base (L2.CX P w) 4 f_is_poly d_is_poly ["field", "value"] (spX K mg 2 X_is_poly)) {f__law_met : Addr} {d__law_met : FuncData} (A__law_met : DefAt K mg "_law_met" s__law_met ["call"] f__law_met d__law_met) {P__law_polys_right : Addr} (M__law_polys_right : MakerAt TL base mg d__law_polys_right ("_law_polys_right" ++ ".<locals>." ++ "<lambda>") P__law_polys_right) : FnG P w K mg base 9 f__law_polys_right d__law_polys_right ["dice", "none", "bad", "number"] (spL TL K 4 [0] F__law_polys_right) :=
  def_okLG A__law_polys_right.fn sc__law_polys_right rfl fun cdv hc A outer s H E hr gd =>
    (ls_cons (l_lift (s_parT [4, 5] (ea_cons (ev_tup (ea_cons ev_int (ea_cons ev_int ea_nil))) (ea_cons (ev_bin od_add ev_str (ev_callB (cd_reprN (fun _ => gd) (fun _ => hr.units)) (fun _ => T.n_repr) (ea_cons (ev_name 3) ea_nil))) ea_nil)) (fun _ => rfl) (fun _ => (pgs_cons (pg_name (i := 4) sc__law_polys_right.nd rfl (by first | exact Or.inl rfl | exact Or.inr rfl)) (pgs_cons (pg_name (i := 5) sc__law_polys_right.nd rfl (by first | exact Or.inl rfl | exact Or.inr rfl)) pgs_nil)))))
    (ls_cons (l_set 6 (le_lst1 (le_lam (lam_at M__law_polys_right hc A__law_met.fn A__law_met.g A__law_met.b sc__law_met rfl (Or.inl rfl) (fun cdg => gives__law_met T gd hr cdg _) hr (by decide +kernel) rfl ⟨rfl, rfl⟩ (fun _ _ _ _ _ => rfl))
      (fun _ => (ev_fn (fun _ => G_poly_sum) (fun z => (flam_room z).mono (by decide)) (fun _ => A_poly_sum.g) (fun _ => A_poly_sum.fn.kp) (fun _ => A_poly_sum.b) (ea_cons (ev_name 1) (ea_cons (ev_name 2) (ea_cons (ev_name 2) ea_nil))) (na_cons (na_cons (na_cons na_nil)))))
      (fun _ => (x_fn (fun z => takes_lam z) (fun _ => GX_poly_sum) (fun z => (flam_room z).mono (by decide)) (fun _ => A_poly_sum.g) (fun _ => A_poly_sum.fn.kp) (fun _ => A_poly_sum.b) (ea_cons (ev_name 1) (ea_cons (ev_name 2) (ea_cons (ev_name 2) ea_nil))) (na_cons (na_cons (na_cons na_nil)))))) mLam_nf) (fun _ => sc__law_polys_right.nd))
    (ls_cons (l_app 6 (le_lam (lam_at M__law_polys_right hc A__law_met.fn A__law_met.g A__law_met.b sc__law_met rfl (Or.inl rfl) (fun cdg => gives__law_met T gd hr cdg _) hr (by decide +kernel) rfl ⟨rfl, rfl⟩ (fun _ _ _ _ _ => rfl))
      (fun _ => (ev_fn (fun _ => G_poly_sum) (fun z => (flam_room z).mono (by decide)) (fun _ => A_poly_sum.g) (fun _ => A_poly_sum.fn.kp) (fun _ => A_poly_sum.b) (ea_cons ev_int (ea_cons (ev_name 2) (ea_cons (ev_name 4) ea_nil))) (na_cons (na_cons (na_cons na_nil)))))
      (fun _ => (x_fn (fun z => takes_lam z) (fun _ => GX_poly_sum) (fun z => (flam_room z).mono (by decide)) (fun _ => A_poly_sum.g) (fun _ => A_poly_sum.fn.kp) (fun _ => A_poly_sum.b) (ea_cons ev_int (ea_cons (ev_name 2) (ea_cons (ev_name 4) ea_nil))) (na_cons (na_cons (na_cons na_nil)))))) mLam_nf)
    (ls_cons (l_app 6 (le_lam (lam_at M__law_polys_right hc A__law_met.fn A__law_met.g A__law_met.b sc__law_met rfl (Or.inl rfl) (fun cdg => gives__law_met T gd hr cdg _) hr (by decide +kernel) rfl ⟨rfl, rfl⟩ (fun _ _ _ _ _ => rfl))
      (fun _ => (ev_fn (fun _ => G_poly_sum) (fun z => (flam_room z).mono (by decide)) (fun _ => A_poly_sum.g) (fun _ => A_poly_sum.fn.kp) (fun _ => A_poly_sum.b) (ea_cons ev_int (ea_cons (ev_name 4) (ea_cons (ev_name 2) ea_nil))) (na_cons (na_cons (na_cons na_nil)))))
      (fun _ => (x_fn (fun z => takes_lam z) (fun _ => GX_poly_sum) (fun z => (flam_room z).mono (by decide)) (fun _ => A_poly_sum.g) (fun _ => A_poly_sum.fn.kp) (fun _ => A_poly_sum.b) (ea_cons ev_int (ea_cons (ev_name 4) (ea_cons (ev_name 2) ea_nil))) (na_cons (na_cons (na_cons na_nil)))))) mLam_nf)
    (ls_cons (l_app 6 (le_lam (lam_at M__law_polys_right hc A__law_met.fn A__law_met.g A__law_met.b sc__law_met rfl (Or.inl rfl) (fun cdg => gives__law_met T gd hr cdg _) hr (by decide +kernel) rfl ⟨rfl, rfl⟩ (fun _ _ _ _ _ => rfl))
      (fun _ => (ev_fn (fun _ => G_poly_scaled) (fun z => (flam_room z).mono (by decide)) (fun _ => A_poly_scaled.g) (fun _ => A_poly_scaled.fn.kp) (fun _ => A_poly_scaled.b) (ea_cons ev_int (ea_cons (ev_name 2) (ea_cons (ev_name 3) ea_nil))) (na_cons (na_cons (na_cons na_nil)))))
      (fun _ => (x_fn (fun z => takes_lam z) (fun _ => GX_poly_scaled) (fun z => (flam_room z).mono (by decide)) (fun _ => A_poly_scaled.g) (fun _ => A_poly_scaled.fn.kp) (fun _ => A_poly_scaled.b) (ea_cons ev_int (ea_cons (ev_name 2) (ea_cons (ev_name 3) ea_nil))) (na_cons (na_cons (na_cons na_nil)))))) mLam_nf)
    (ls_cons (l_app 6 (le_lam (lam_at M__law_polys_right hc A__law_met.fn A__law_met.g A__law_met.b sc__law_met rfl (Or.inl rfl) (fun cdg => gives__law_met T gd hr cdg _) hr (by decide +kernel) rfl ⟨rfl, rfl⟩ (fun _ _ _ _ _ => rfl))
      (fun _ => (ev_fn (fun _ => G_poly_scaled) (fun z => (flam_room z).mono (by decide)) (fun _ => A_poly_scaled.g) (fun _ => A_poly_scaled.fn.kp) (fun _ => A_poly_scaled.b) (ea_cons ev_int (ea_cons (ev_name 4) (ea_cons (ev_name 3) ea_nil))) (na_cons (na_cons (na_cons na_nil)))))
      (fun _ => (x_fn (fun z => takes_lam z) (fun _ => GX_poly_scaled) (fun z => (flam_room z).mono (by decide)) (fun _ => A_poly_scaled.g) (fun _ => A_poly_scaled.fn.kp) (fun _ => A_poly_scaled.b) (ea_cons ev_int (ea_cons (ev_name 4) (ea_cons (ev_name 3) ea_nil))) (na_cons (na_cons (na_cons na_nil)))))) mLam_nf)
    (ls_cons (l_app 6 (le_lam (lam_at M__law_polys_right hc A__law_met.fn A__law_met.g A__law_met.b sc__law_met rfl (Or.inl rfl) (fun cdg => gives__law_met T gd hr cdg _) hr (by decide +kernel) rfl ⟨rfl, rfl⟩ (fun _ _ _ _ _ => rfl))
      (fun _ => (ev_fn (fun _ => G_poly_product) (fun z => (flam_room z).mono (by decide)) (fun _ => A_poly_product.g) (fun _ => A_poly_product.fn.kp) (fun _ => A_poly_product.b) (ea_cons ev_int (ea_cons (ev_name 4) (ea_cons (ev_name 2) ea_nil))) (na_cons (na_cons (na_cons na_nil)))))
      (fun _ => (x_fn (fun z => takes_lam z) (fun _ => GX_poly_product) (fun z => (flam_room z).mono (by decide)) (fun _ => A_poly_product.g) (fun _ => A_poly_product.fn.kp) (fun _ => A_poly_product.b) (ea_cons ev_int (ea_cons (ev_name 4) (ea_cons (ev_name 2) ea_nil))) (na_cons (na_cons (na_cons na_nil)))))) mLam_nf)
    (ls_cons (l_app 6 (le_lam (lam_at M__law_polys_right hc A__law_met.fn A__law_met.g A__law_met.b sc__law_met rfl (Or.inl rfl) (fun cdg => gives__law_met T gd hr cdg _) hr (by decide +kernel) rfl ⟨rfl, rfl⟩ (fun _ _ _ _ _ => rfl))
      (fun _ => (ev_fn (fun _ => G_poly_divided) (fun z => (flam_room z).mono (by decide)) (fun _ => A_poly_divided.g) (fun _ => A_poly_divided.fn.kp) (fun _ => A_poly_divided.b) (ea_cons ev_int (ea_cons (ev_name 2) (ea_cons (ev_tup ea_nil) ea_nil))) (na_cons (na_cons (na_cons na_nil)))))
      (fun _ => (x_fn (fun z => takes_lam z) (fun _ => GX_poly_divided) (fun z => (flam_room z).mono (by decide)) (fun _ => A_poly_divided.g) (fun _ => A_poly_divided.fn.kp) (fun _ => A_poly_divided.b) (ea_cons ev_int (ea_cons (ev_name 2) (ea_cons (ev_tup ea_nil) ea_nil))) (na_cons (na_cons (na_cons na_nil)))))) mLam_nf)
    (ls_cons (l_app 6 (le_lam (lam_at M__law_polys_right hc A__law_met.fn A__law_met.g A__law_met.b sc__law_met rfl (Or.inl rfl) (fun cdg => gives__law_met T gd hr cdg _) hr (by decide +kernel) rfl ⟨rfl, rfl⟩ (fun _ _ _ _ _ => rfl))
      (fun _ => (ev_fn (fun _ => G_poly_divided) (fun z => (flam_room z).mono (by decide)) (fun _ => A_poly_divided.g) (fun _ => A_poly_divided.fn.kp) (fun _ => A_poly_divided.b) (ea_cons ev_int (ea_cons (ev_name 4) (ea_cons (ev_tup ea_nil) ea_nil))) (na_cons (na_cons (na_cons na_nil)))))
      (fun _ => (x_fn (fun z => takes_lam z) (fun _ => GX_poly_divided) (fun z => (flam_room z).mono (by decide)) (fun _ => A_poly_divided.g) (fun _ => A_poly_divided.fn.kp) (fun _ => A_poly_divided.b) (ea_cons ev_int (ea_cons (ev_name 4) (ea_cons (ev_tup ea_nil) ea_nil))) (na_cons (na_cons (na_cons na_nil)))))) mLam_nf)
    (ls_cons (l_app 6 (le_lam (lam_at M__law_polys_right hc A__law_met.fn A__law_met.g A__law_met.b sc__law_met rfl (Or.inl rfl) (fun cdg => gives__law_met T gd hr cdg _) hr (by decide +kernel) rfl ⟨rfl, rfl⟩ (fun _ _ _ _ _ => rfl))
      (fun _ => (ev_fn (fun _ => G_value_at) (fun z => (flam_room z).mono (by decide)) (fun _ => A_value_at.g) (fun _ => A_value_at.fn.kp) (fun _ => A_value_at.b) (ea_cons ev_int (ea_cons (ev_name 2) (ea_cons (ev_name 3) ea_nil))) (na_cons (na_cons (na_cons na_nil)))))
      (fun _ => (x_fn (fun z => takes_lam z) (fun _ => GX_value_at) (fun z => (flam_room z).mono (by decide)) (fun _ => A_value_at.g) (fun _ => A_value_at.fn.kp) (fun _ => A_value_at.b) (ea_cons ev_int (ea_cons (ev_name 2) (ea_cons (ev_name 3) ea_nil))) (na_cons (na_cons (na_cons na_nil)))))) mLam_nf)
    (ls_cons (l_app 6 (le_lam (lam_at M__law_polys_right hc A__law_met.fn A__law_met.g A__law_met.b sc__law_met rfl (Or.inl rfl) (fun cdg => gives__law_met T gd hr cdg _) hr (by decide +kernel) rfl ⟨rfl, rfl⟩ (fun _ _ _ _ _ => rfl))
      (fun _ => (ev_fn (fun _ => G_value_at) (fun z => (flam_room z).mono (by decide)) (fun _ => A_value_at.g) (fun _ => A_value_at.fn.kp) (fun _ => A_value_at.b) (ea_cons ev_int (ea_cons (ev_name 4) (ea_cons (ev_name 3) ea_nil))) (na_cons (na_cons (na_cons na_nil)))))
      (fun _ => (x_fn (fun z => takes_lam z) (fun _ => GX_value_at) (fun z => (flam_room z).mono (by decide)) (fun _ => A_value_at.g) (fun _ => A_value_at.fn.kp) (fun _ => A_value_at.b) (ea_cons ev_int (ea_cons (ev_name 4) (ea_cons (ev_name 3) ea_nil))) (na_cons (na_cons (na_cons na_nil)))))) mLam_nf)
    (ls_cons (l_app 6 (le_lam (lam_at M__law_polys_right hc A__law_met.fn A__law_met.g A__law_met.b sc__law_met rfl (Or.inl rfl) (fun cdg => gives__law_met T gd hr cdg _) hr (by decide +kernel) rfl ⟨rfl, rfl⟩ (fun _ _ _ _ _ => rfl))
      (fun _ => (ev_fn (fun _ => G_is_poly) (fun z => (flam_room z).mono (by decide)) (fun _ => A_is_poly.g) (fun _ => A_is_poly.fn.kp) (fun _ => A_is_poly.b) (ea_cons (ev_name 1) (ea_cons (ev_name 2) ea_nil)) (na_cons (na_cons na_nil))))
      (fun _ => (x_fn (fun z => takes_lam z) (fun _ => GX_is_poly) (fun z => (flam_room z).mono (by decide)) (fun _ => A_is_poly.g) (fun _ => A_is_poly.fn.kp) (fun _ => A_is_poly.b) (ea_cons (ev_name 1) (ea_cons (ev_name 2) ea_nil)) (na_cons (na_cons na_nil))))) mLam_nf)
    (ls_cons (l_lift (s_set 7 (ev_lst (ea_cons (ev_bin od_add ev_str (ev_callB (cd_reprN (fun _ => gd) (fun _ => hr.units)) (fun _ => T.n_repr) (ea_cons (ev_name 1) ea_nil))) (ea_cons ev_str (ea_cons ev_str (ea_cons ev_str (ea_cons (ev_name 5) (ea_cons ev_str (ea_cons ev_str (ea_cons ev_str (ea_cons ev_str (ea_cons (ev_name 5) (ea_cons (ev_bin od_add ev_str (ev_callB (cd_reprN (fun _ => gd) (fun _ => hr.units)) (fun _ => T.n_repr) (ea_cons (ev_name 1) ea_nil))) ea_nil)))))))))))) (fun _ => sc__law_polys_right.nd)))
    (ls_one (l_lift (s_ret (ev_and (ev_cmp (od_eq (fun _ => hr.units)) (ev_name 6) (ev_comp (own := [("word", 8)]) (fun _ => rfl) (fun _ => sc__law_polys_right.nd) (fun _ => by show BlkOk N__law_polys_right (defScope s__law_polys_right) _ _; exact blkOk_by (by decide +kernel)) (ei_val (ev_name 7)) (eg_name 8 (fun _ => sc__law_polys_right.nd)) ets_nil (ev_tup (ea_cons ev_str (ea_cons (ev_name 8) ea_nil))))) (ev_one (ev_cmp od_is (ev_fn (fun _ => G_is_poly) (fun _ => hr.mono (by decide)) (fun _ => A_is_poly.g) (fun _ => A_is_poly.fn.kp) (fun _ => A_is_poly.b) (ea_cons ev_int (ea_cons (ev_name 2) ea_nil)) (na_cons (na_cons na_nil))) ev_bl)))))))))))))))))))
theorem ok__law_places_right (T : Txt K mg C_InvalidPoly C_InvalidOperation C_InvalidNumber C_TooMany C_Refused I_InvalidNumber I_TooMany I_Refused D_InvalidNumber D_TooMany D_Refused) {f__law_places_right : Addr} {d__law_places_right : FuncData} (A__law_places_right : DefAt K mg "_law_places_right" s__law_places_right ["dice", "none", "bad", "number"] f__law_places_right d__law_places_right) {f__law_pick : Addr} {d__law_pick : FuncData} (A__law_pick : DefAt K mg "_law_pick" s__law_pick ["dice", "items"] f__law_pick d__law_pick) (G__law_pick : FnOk P w K mg base CX0 2 f__law_pick d__law_pick ["dice", "items"] (spM K 2 [0] Lib.F__law_pick)) {f_values_at : Addr} {d_values_at : FuncData} (A_values_at : DefAt K mg "values_at" s_values_at ["field", "poly", "places"] f_values_at d_values_at) (G_values_at : FnOk P w K mg base CX0 6 f_values_at d_values_at ["field", "poly", "places"] (spM K 3 [] Lib.F_values_at)) {f_through : Addr} {d_through : FuncData} (A_through : DefAt K mg "through" s_through ["field", "points"] f_through d_through) (G_through : FnOk P w K mg base CX0 5 f_through d_through ["field", "points"] (spM K 2 [] Lib.F_through)) {f_weights : Addr} {d_weights : FuncData} (A_weights : DefAt K mg "weights" s_weights ["field", "places", "goal"] f_weights d_weights) (G_weights : FnOk P w K mg base CX0 5 f_weights d_weights ["field", "places", "goal"] (spM K 3 [] Lib.F_weights)) {f_checks : Addr} {d_checks : FuncData} (A_checks : DefAt K mg "checks" s_checks ["field", "places", "degree"] f_checks d_checks) (G_checks : FnOk P w K mg base CX0 5 f_checks d_checks ["field", "places", "degree"] (spM K 3 [] Lib.F_checks)) {f_hiding : Addr} {d_hiding : FuncData} (A_hiding : DefAt K mg "hiding" s_hiding ["field", "places"] f_hiding d_hiding) (G_hiding : FnOk P w K mg base CX0 4 f_hiding d_hiding ["field", "places"] (spM K 2 [] Lib.F_hiding)) {f_hidden : Addr} {d_hidden : FuncData} (A_hidden : DefAt K mg "hidden" s_hidden ["field", "poly", "places", "goal"] f_hidden d_hidden) (G_hidden : FnOk P w K mg base CX0 6 f_hidden d_hidden ["field", "poly", "places", "goal"] (spM K 4 [] Lib.F_hidden)) (GX_values_at : FnOk P w K mg base (L2.CX P w) 6 f_values_at d_values_at ["field", "poly", "places"] (spX K mg 3 X_values_at)) (GX_through : FnOk P w K mg base (L2.CX P w) 5 f_through d_through ["field", "points"] (spX K mg 2 X_through)) (GX_weights : FnOk P w K mg base (L2.CX P w) 5 f_weights d_weights ["field", "places", "goal"] (spX K mg 3 X_weights)) (GX_checks : FnOk P w K mg base (L2.CX P w) 5 f_checks d_checks ["field", "places", "degree"] (spX K mg 3 X_checks)) (GX_hiding : FnOk P w K mg base (L2.CX P w) 4 f_hiding d_hiding ["field", "places"] (spX K mg 2 X_hiding)) (GX_hidden : FnOk P w K mg base (L2.CX P w) 6 f_hidden d_hidden ["field", "poly", "places", "goal"] (spX K mg 4 X_hidden)) {f__law_met : Addr} {d__law_met : FuncData} (A__law_met : DefAt K mg "_law_met" s__law_met ["call"] f__law_met d__law_met) {P__law_places_right : Addr} (M__law_places_right : MakerAt TL base mg d__law_places_right ("_law_places_right" ++ ".<locals>." ++ "<lambda>") P__law_places_right) : FnG P w K mg base 9 f__law_places_right d__law_places_right ["dice", "none", "bad", "number"] (spL TL K 4 [0] F__law_places_right) :=
  def_okLG A__law_places_right.fn sc__law_places_right rfl fun cdv hc A outer s H E hr gd =>
    (ls_cons (l_lift (s_set 4 (ev_fnD (fun _ => G__law_pick) (fun _ => hr.mono (by decide)) (fun _ => A__law_pick.g) (fun _ => A__law_pick.fn.kp) (fun _ => A__law_pick.b) (ea_cons (ev_name 0) (ea_cons (ev_lst (ea_cons ev_non (ea_cons (ev_tup ea_nil) (ea_cons (ev_tup (ea_cons ev_int (ea_cons ev_int ea_nil))) (ea_cons (ev_tup (ea_cons ev_int ea_nil)) (ea_cons (ev_tup (ea_cons (ev_neg ev_int) ea_nil)) (ea_cons (ev_tup (ea_cons ev_bl ea_nil)) (ea_cons (ev_lst (ea_cons ev_int (ea_cons ev_int ea_nil))) (ea_cons ev_int (ea_cons ev_str (ea_cons (ev_tup (ea_cons ev_int (ea_cons ev_int (ea_cons ev_int ea_nil)))) (ea_cons (ev_tup (ea_cons (ev_tup (ea_cons ev_int ea_nil)) ea_nil)) (ea_cons (ev_tup (ea_cons ev_int (ea_cons ev_int (ea_cons ev_int (ea_cons ev_int (ea_cons ev_int (ea_cons ev_int (ea_cons ev_int (ea_cons ev_int ea_nil))))))))) ea_nil))))))))))))) ea_nil)) (na_cons (na_cons na_nil))) (fun _ => sc__law_places_right.nd)))
    (ls_cons (l_lift (s_set 5 (ev_fnD (fun _ => G__law_pick) (fun _ => hr.mono (by decide)) (fun _ => A__law_pick.g) (fun _ => A__law_pick.fn.kp) (fun _ => A__law_pick.b) (ea_cons (ev_name 0) (ea_cons (ev_lst (ea_cons ev_non (ea_cons (ev_tup (ea_cons ev_int ea_nil)) (ea_cons (ev_tup (ea_cons ev_int (ea_cons ev_int ea_nil))) (ea_cons (ev_tup (ea_cons ev_int (ea_cons ev_int ea_nil))) (ea_cons (ev_tup (ea_cons ev_int ea_nil)) (ea_cons (ev_tup (ea_cons ev_bl ea_nil)) (ea_cons (ev_lst (ea_cons ev_int ea_nil)) (ea_cons ev_int (ea_cons ev_str (ea_cons (ev_tup (ea_cons ev_int (ea_cons ev_non ea_nil))) ea_nil))))))))))) ea_nil)) (na_cons (na_cons na_nil))) (fun _ => sc__law_places_right.nd)))
    (ls_cons (l_lift (s_set 6 (ev_fnD (fun _ => G__law_pick) (fun _ => hr.mono (by decide)) (fun _ => A__law_pick.g) (fun _ => A__law_pick.fn.kp) (fun _ => A__law_pick.b) (ea_cons (ev_name 0) (ea_cons (ev_lst (ea_cons ev_non (ea_cons (ev_tup ea_nil) (ea_cons (ev_tup (ea_cons (ev_tup (ea_cons ev_int (ea_cons ev_int ea_nil))) (ea_cons (ev_tup (ea_cons ev_int (ea_cons ev_int ea_nil))) ea_nil))) (ea_cons (ev_tup (ea_cons (ev_tup (ea_cons ev_int ea_nil)) ea_nil)) (ea_cons (ev_tup (ea_cons (ev_tup (ea_cons ev_int (ea_cons ev_int (ea_cons ev_int ea_nil)))) ea_nil)) (ea_cons (ev_tup (ea_cons (ev_tup (ea_cons ev_int (ea_cons ev_int ea_nil))) ea_nil)) (ea_cons (ev_tup (ea_cons (ev_tup (ea_cons ev_int (ea_cons ev_int ea_nil))) ea_nil)) (ea_cons (ev_lst (ea_cons (ev_tup (ea_cons ev_int (ea_cons ev_int ea_nil))) ea_nil)) (ea_cons (ev_tup (ea_cons (ev_lst (ea_cons ev_int (ea_cons ev_int ea_nil))) ea_nil)) (ea_cons (ev_tup (ea_cons (ev_tup (ea_cons ev_int (ea_cons ev_bl ea_nil))) ea_nil)) (ea_cons ev_int (ea_cons (ev_tup (ea_cons ev_int (ea_cons ev_int ea_nil))) ea_nil))))))))))))) ea_nil)) (na_cons (na_cons na_nil))) (fun _ => sc__law_places_right.nd)))
    (ls_cons (l_lift (s_set 7 (ev_fnD (fun _ => G__law_pick) (fun _ => hr.mono (by decide)) (fun _ => A__law_pick.g) (fun _ => A__law_pick.fn.kp) (fun _ => A__law_pick.b) (ea_cons (ev_name 0) (ea_cons (ev_lst (ea_cons ev_non (ea_cons (ev_neg ev_int) (ea_cons ev_int (ea_cons ev_bl (ea_cons ev_str (ea_cons (ev_bin od_pow ev_int ev_int) (ea_cons (ev_tup (ea_cons ev_int ea_nil)) ea_nil)))))))) ea_nil)) (na_cons (na_cons na_nil))) (fun _ => sc__law_places_right.nd)))
    (ls_cons (l_lift (s_par2 8 9 (ea_cons (ev_bin od_add ev_str (ev_callB (cd_reprN (fun _ => gd) (fun _ => hr.units)) (fun _ => T.n_repr) (ea_cons (ev_name 3) ea_nil))) (ea_cons (ev_bin od_add ev_str (ev_callB (cd_reprN (fun _ => gd) (fun _ => hr.units)) (fun _ => T.n_repr) (ea_cons (ev_name 7) ea_nil))) ea_nil)) (fun _ => rfl) (fun _ => sc__law_places_right.nd)))
    (ls_cons (l_set 10 (le_lst1 (le_lam (lam_at M__law_places_right hc A__law_met.fn A__law_met.g A__law_met.b sc__law_met rfl (Or.inl rfl) (fun cdg => gives__law_met T gd hr cdg _) hr (by decide +kernel) rfl ⟨rfl, rfl⟩ (fun _ _ _ _ _ => rfl))
      (fun _ => (ev_fn (fun _ => G_values_at) (fun z => (flam_room z).mono (by decide)) (fun _ => A_values_at.g) (fun _ => A_values_at.fn.kp) (fun _ => A_values_at.b) (ea_cons ev_int (ea_cons (ev_name 2) (ea_cons (ev_name 4) ea_nil))) (na_cons (na_cons (na_cons na_nil)))))
      (fun _ => (x_fn (fun z => takes_lam z) (fun _ => GX_values_at) (fun z => (flam_room z).mono (by decide)) (fun _ => A_values_at.g) (fun _ => A_values_at.fn.kp) (fun _ => A_values_at.b) (ea_cons ev_int (ea_cons (ev_name 2) (ea_cons (ev_name 4) ea_nil))) (na_cons (na_cons (na_cons na_nil)))))) mLam_nf) (fun _ => sc__law_places_right.nd))
    (ls_cons (l_app 10 (le_lam (lam_at M__law_places_right hc A__law_met.fn A__law_met.g A__law_met.b sc__law_met rfl (Or.inl rfl) (fun cdg => gives__law_met T gd hr cdg _) hr (by decide +kernel) rfl ⟨rfl, rfl⟩ (fun _ _ _ _ _ => rfl))
      (fun _ => (ev_fn (fun _ => G_values_at) (fun z => (flam_room z).mono (by decide)) (fun _ => A_values_at.g) (fun _ => A_values_at.fn.kp) (fun _ => A_values_at.b) (ea_cons ev_int (ea_cons (ev_tup (ea_cons ev_int ea_nil)) (ea_cons (ev_name 4) ea_nil))) (na_cons (na_cons (na_cons na_nil)))))
      (fun _ => (x_fn (fun z => takes_lam z) (fun _ => GX_values_at) (fun z => (flam_room z).mono (by decide)) (fun _ => A_values_at.g) (fun _ => A_values_at.fn.kp) (fun _ => A_values_at.b) (ea_cons ev_int (ea_cons (ev_tup (ea_cons ev_int ea_nil)) (ea_cons (ev_name 4) ea_nil))) (na_cons (na_cons (na_cons na_nil)))))) mLam_nf)
    (ls_cons (l_app 10 (le_lam (lam_at M__law_places_right hc A__law_met.fn A__law_met.g A__law_met.b sc__law_met rfl (Or.inl rfl) (fun cdg => gives__law_met T gd hr cdg _) hr (by decide +kernel) rfl ⟨rfl, rfl⟩ (fun _ _ _ _ _ => rfl))
      (fun _ => (ev_fn (fun _ => G_through) (fun z => (flam_room z).mono (by decide)) (fun _ => A_through.g) (fun _ => A_through.fn.kp) (fun _ => A_through.b) (ea_cons (ev_name 1) (ea_cons (ev_name 6) ea_nil)) (na_cons (na_cons na_nil))))
      (fun _ => (x_fn (fun z => takes_lam z) (fun _ => GX_through) (fun z => (flam_room z).mono (by decide)) (fun _ => A_through.g) (fun _ => A_through.fn.kp) (fun _ => A_through.b) (ea_cons (ev_name 1) (ea_cons (ev_name 6) ea_nil)) (na_cons (na_cons na_nil))))) mLam_nf)
    (ls_cons (l_app 10 (le_lam (lam_at M__law_places_right hc A__law_met.fn A__law_met.g A__law_met.b sc__law_met rfl (Or.inl rfl) (fun cdg => gives__law_met T gd hr cdg _) hr (by decide +kernel) rfl ⟨rfl, rfl⟩ (fun _ _ _ _ _ => rfl))
      (fun _ => (ev_fn (fun _ => G_through) (fun z => (flam_room z).mono (by decide)) (fun _ => A_through.g) (fun _ => A_through.fn.kp) (fun _ => A_through.b) (ea_cons ev_int (ea_cons (ev_name 6) ea_nil)) (na_cons (na_cons na_nil))))
      (fun _ => (x_fn (fun z => takes_lam z) (fun _ => GX_through) (fun z => (flam_room z).mono (by decide)) (fun _ => A_through.g) (fun _ => A_through.fn.kp) (fun _ => A_through.b) (ea_cons ev_int (ea_cons (ev_name 6) ea_nil)) (na_cons (na_cons na_nil))))) mLam_nf)
    (ls_cons (l_app 10 (le_lam (lam_at M__law_places_right hc A__law_met.fn A__law_met.g A__law_met.b sc__law_met rfl (Or.inl rfl) (fun cdg => gives__law_met T gd hr cdg _) hr (by decide +kernel) rfl ⟨rfl, rfl⟩ (fun _ _ _ _ _ => rfl))
      (fun _ => (ev_fn (fun _ => G_weights) (fun z => (flam_room z).mono (by decide)) (fun _ => A_weights.g) (fun _ => A_weights.fn.kp) (fun _ => A_weights.b) (ea_cons ev_int (ea_cons (ev_name 4) (ea_cons (ev_name 3) ea_nil))) (na_cons (na_cons (na_cons na_nil)))))
      (fun _ => (x_fn (fun z => takes_lam z) (fun _ => GX_weights) (fun z => (flam_room z).mono (by decide)) (fun _ => A_weights.g) (fun _ => A_weights.fn.kp) (fun _ => A_weights.b) (ea_cons ev_int (ea_cons (ev_name 4) (ea_cons (ev_name 3) ea_nil))) (na_cons (na_cons (na_cons na_nil)))))) mLam_nf)
    (ls_cons (l_app 10 (le_lam (lam_at M__law_places_right hc A__law_met.fn A__law_met.g A__law_met.b sc__law_met rfl (Or.inl rfl) (fun cdg => gives__law_met T gd hr cdg _) hr (by decide +kernel) rfl ⟨rfl, rfl⟩ (fun _ _ _ _ _ => rfl))
      (fun _ => (ev_fn (fun _ => G_weights) (fun z => (flam_room z).mono (by decide)) (fun _ => A_weights.g) (fun _ => A_weights.fn.kp) (fun _ => A_weights.b) (ea_cons ev_int (ea_cons (ev_tup (ea_cons ev_int (ea_cons ev_int ea_nil))) (ea_cons (ev_name 3) ea_nil))) (na_cons (na_cons (na_cons na_nil)))))
      (fun _ => (x_fn (fun z => takes_lam z) (fun _ => GX_weights) (fun z => (flam_room z).mono (by decide)) (fun _ => A_weights.g) (fun _ => A_weights.fn.kp) (fun _ => A_weights.b) (ea_cons ev_int (ea_cons (ev_tup (ea_cons ev_int (ea_cons ev_int ea_nil))) (ea_cons (ev_name 3) ea_nil))) (na_cons (na_cons (na_cons na_nil)))))) mLam_nf)
    (ls_cons (l_app 10 (le_lam (lam_at M__law_places_right hc A__law_met.fn A__law_met.g A__law_met.b sc__law_met rfl (Or.inl rfl) (fun cdg => gives__law_met T gd hr cdg _) hr (by decide +kernel) rfl ⟨rfl, rfl⟩ (fun _ _ _ _ _ => rfl))
      (fun _ => (ev_fn (fun _ => G_checks) (fun z => (flam_room z).mono (by decide)) (fun _ => A_checks.g) (fun _ => A_checks.fn.kp) (fun _ => A_checks.b) (ea_cons ev_int (ea_cons (ev_name 4) (ea_cons (ev_name 7) ea_nil))) (na_cons (na_cons (na_cons na_nil)))))
      (fun _ => (x_fn (fun z => takes_lam z) (fun _ => GX_checks) (fun z => (flam_room z).mono (by decide)) (fun _ => A_checks.g) (fun _ => A_checks.fn.kp) (fun _ => A_checks.b) (ea_cons ev_int (ea_cons (ev_name 4) (ea_cons (ev_name 7) ea_nil))) (na_cons (na_cons (na_cons na_nil)))))) mLam_nf)
    (ls_cons (l_app 10 (le_lam (lam_at M__law_places_right hc A__law_met.fn A__law_met.g A__law_met.b sc__law_met rfl (Or.inl rfl) (fun cdg => gives__law_met T gd hr cdg _) hr (by decide +kernel) rfl ⟨rfl, rfl⟩ (fun _ _ _ _ _ => rfl))
      (fun _ => (ev_fn (fun _ => G_checks) (fun z => (flam_room z).mono (by decide)) (fun _ => A_checks.g) (fun _ => A_checks.fn.kp) (fun _ => A_checks.b) (ea_cons ev_int (ea_cons (ev_tup (ea_cons ev_int (ea_cons ev_int ea_nil))) (ea_cons (ev_name 7) ea_nil))) (na_cons (na_cons (na_cons na_nil)))))
      (fun _ => (x_fn (fun z => takes_lam z) (fun _ => GX_checks) (fun z => (flam_room z).mono (by decide)) (fun _ => A_checks.g) (fun _ => A_checks.fn.kp) (fun _ => A_checks.b) (ea_cons ev_int (ea_cons (ev_tup (ea_cons ev_int (ea_cons ev_int ea_nil))) (ea_cons (ev_name 7) ea_nil))) (na_cons (na_cons (na_cons na_nil)))))) mLam_nf)
    (ls_cons (l_app 10 (le_lam (lam_at M__law_places_right hc A__law_met.fn A__law_met.g A__law_met.b sc__law_met rfl (Or.inl rfl) (fun cdg => gives__law_met T gd hr cdg _) hr (by decide +kernel) rfl ⟨rfl, rfl⟩ (fun _ _ _ _ _ => rfl))
      (fun _ => (ev_fn (fun _ => G_hiding) (fun z => (flam_room z).mono (by decide)) (fun _ => A_hiding.g) (fun _ => A_hiding.fn.kp) (fun _ => A_hiding.b) (ea_cons (ev_name 1) (ea_cons (ev_name 5) ea_nil)) (na_cons (na_cons na_nil))))
      (fun _ => (x_fn (fun z => takes_lam z) (fun _ => GX_hiding) (fun z => (flam_room z).mono (by decide)) (fun _ => A_hiding.g) (fun _ => A_hiding.fn.kp) (fun _ => A_hiding.b) (ea_cons (ev_name 1) (ea_cons (ev_name 5) ea_nil)) (na_cons (na_cons na_nil))))) mLam_nf)
    (ls_cons (l_app 10 (le_lam (lam_at M__law_places_right hc A__law_met.fn A__law_met.g A__law_met.b sc__law_met rfl (Or.inl rfl) (fun cdg => gives__law_met T gd hr cdg _) hr (by decide +kernel) rfl ⟨rfl, rfl⟩ (fun _ _ _ _ _ => rfl))
      (fun _ => (ev_fn (fun _ => G_hiding) (fun z => (flam_room z).mono (by decide)) (fun _ => A_hiding.g) (fun _ => A_hiding.fn.kp) (fun _ => A_hiding.b) (ea_cons ev_int (ea_cons (ev_name 5) ea_nil)) (na_cons (na_cons na_nil))))
      (fun _ => (x_fn (fun z => takes_lam z) (fun _ => GX_hiding) (fun z => (flam_room z).mono (by decide)) (fun _ => A_hiding.g) (fun _ => A_hiding.fn.kp) (fun _ => A_hiding.b) (ea_cons ev_int (ea_cons (ev_name 5) ea_nil)) (na_cons (na_cons na_nil))))) mLam_nf)
    (ls_cons (l_app 10 (le_lam (lam_at M__law_places_right hc A__law_met.fn A__law_met.g A__law_met.b sc__law_met rfl (Or.inl rfl) (fun cdg => gives__law_met T gd hr cdg _) hr (by decide +kernel) rfl ⟨rfl, rfl⟩ (fun _ _ _ _ _ => rfl))
      (fun _ => (ev_fn (fun _ => G_hidden) (fun z => (flam_room z).mono (by decide)) (fun _ => A_hidden.g) (fun _ => A_hidden.fn.kp) (fun _ => A_hidden.b) (ea_cons ev_int (ea_cons (ev_name 2) (ea_cons (ev_name 5) (ea_cons (ev_name 3) ea_nil)))) (na_cons (na_cons (na_cons (na_cons na_nil))))))
      (fun _ => (x_fn (fun z => takes_lam z) (fun _ => GX_hidden) (fun z => (flam_room z).mono (by decide)) (fun _ => A_hidden.g) (fun _ => A_hidden.fn.kp) (fun _ => A_hidden.b) (ea_cons ev_int (ea_cons (ev_name 2) (ea_cons (ev_name 5) (ea_cons (ev_name 3) ea_nil)))) (na_cons (na_cons (na_cons (na_cons na_nil))))))) mLam_nf)
    (ls_cons (l_app 10 (le_lam (lam_at M__law_places_right hc A__law_met.fn A__law_met.g A__law_met.b sc__law_met rfl (Or.inl rfl) (fun cdg => gives__law_met T gd hr cdg _) hr (by decide +kernel) rfl ⟨rfl, rfl⟩ (fun _ _ _ _ _ => rfl))
      (fun _ => (ev_fn (fun _ => G_hidden) (fun z => (flam_room z).mono (by decide)) (fun _ => A_hidden.g) (fun _ => A_hidden.fn.kp) (fun _ => A_hidden.b) (ea_cons ev_int (ea_cons (ev_tup (ea_cons ev_int ea_nil)) (ea_cons (ev_name 5) (ea_cons (ev_name 3) ea_nil)))) (na_cons (na_cons (na_cons (na_cons na_nil))))))
      (fun _ => (x_fn (fun z => takes_lam z) (fun _ => GX_hidden) (fun z => (flam_room z).mono (by decide)) (fun _ => A_hidden.g) (fun _ => A_hidden.fn.kp) (fun _ => A_hidden.b) (ea_cons ev_int (ea_cons (ev_tup (ea_cons ev_int ea_nil)) (ea_cons (ev_name 5) (ea_cons (ev_name 3) ea_nil)))) (na_cons (na_cons (na_cons (na_cons na_nil))))))) mLam_nf)
    (ls_cons (l_app 10 (le_lam (lam_at M__law_places_right hc A__law_met.fn A__law_met.g A__law_met.b sc__law_met rfl (Or.inl rfl) (fun cdg => gives__law_met T gd hr cdg _) hr (by decide +kernel) rfl ⟨rfl, rfl⟩ (fun _ _ _ _ _ => rfl))
      (fun _ => (ev_fn (fun _ => G_hidden) (fun z => (flam_room z).mono (by decide)) (fun _ => A_hidden.g) (fun _ => A_hidden.fn.kp) (fun _ => A_hidden.b) (ea_cons ev_int (ea_cons (ev_tup (ea_cons ev_int ea_nil)) (ea_cons (ev_tup (ea_cons ev_int (ea_cons ev_int ea_nil))) (ea_cons (ev_name 3) ea_nil)))) (na_cons (na_cons (na_cons (na_cons na_nil))))))
      (fun _ => (x_fn (fun z => takes_lam z) (fun _ => GX_hidden) (fun z => (flam_room z).mono (by decide)) (fun _ => A_hidden.g) (fun _ => A_hidden.fn.kp) (fun _ => A_hidden.b) (ea_cons ev_int (ea_cons (ev_tup (ea_cons ev_int ea_nil)) (ea_cons (ev_tup (ea_cons ev_int (ea_cons ev_int ea_nil))) (ea_cons (ev_name 3) ea_nil)))) (na_cons (na_cons (na_cons (na_cons na_nil))))))) mLam_nf)
    (ls_cons (l_lift (s_set 11 (ev_lst (ea_cons ev_str (ea_cons ev_str (ea_cons (ev_bin od_add ev_str (ev_callB (cd_reprN (fun _ => gd) (fun _ => hr.units)) (fun _ => T.n_repr) (ea_cons (ev_name 1) ea_nil))) (ea_cons ev_str (ea_cons ev_str (ea_cons (ev_name 8) (ea_cons ev_str (ea_cons (ev_name 9) (ea_cons (ev_bin od_add ev_str (ev_callB (cd_reprN (fun _ => gd) (fun _ => hr.units)) (fun _ => T.n_repr) (ea_cons (ev_name 1) ea_nil))) ea_nil)))))))))) (fun _ => sc__law_places_right.nd)))
    (ls_one (l_lift (s_ret (ev_cmp (od_eq (fun _ => hr.units)) (ev_name 10) (ev_comp (own := [("word", 12)]) (fun _ => rfl) (fun _ => sc__law_places_right.nd) (fun _ => by show BlkOk N__law_places_right (defScope s__law_places_right) _ _; exact blkOk_by (by decide +kernel)) (ei_val (ev_bin od_addM (ev_name 11) (ev_lst (ea_cons ev_str (ea_cons ev_str (ea_cons ev_str (ea_cons (ev_name 8) ea_nil))))))) (eg_name 12 (fun _ => sc__law_places_right.nd)) ets_nil (ev_tup (ea_cons ev_str (ea_cons (ev_name 12) ea_nil)))))))))))))))))))))))))))
theorem ok__law_right (T : Txt K mg C_InvalidPoly C_InvalidOperation C_InvalidNumber C_TooMany C_Refused I_InvalidNumber I_TooMany I_Refused D_InvalidNumber D_TooMany D_Refused) {f__law_right : Addr} {d__law_right : FuncData} (A__law_right : DefAt K mg "_law_right" s__law_right ["dice"] f__law_right d__law_right) {f__law_pick : Addr} {d__law_pick : FuncData} (A__law_pick : DefAt K mg "_law_pick" s__law_pick ["dice", "items"] f__law_pick d__law_pick) (G__law_pick : FnOk P w K mg base CX0 2 f__law_pick d__law_pick ["dice", "items"] (spM K 2 [0] Lib.F__law_pick)) {f__law_polys_right : Addr} {d__law_polys_right : FuncData} (A__law_polys_right : DefAt K mg "_law_polys_right" s__law_polys_right ["dice", "none", "bad", "number"] f__law_polys_right d__law_polys_right) (G__law_polys_right : FnG P w K mg base 9 f__law_polys_right d__law_polys_right ["dice", "none", "bad", "number"] (spL TL K 4 [0] F__law_polys_right)) {f__law_places_right : Addr} {d__law_places_right : FuncData} (A__law_places_right : DefAt K mg "_law_places_right" s__law_places_right ["dice", "none", "bad", "number"] f__law_places_right d__law_places_right) (G__law_places_right : FnG P w K mg base 9 f__law_places_right d__law_places_right ["dice", "none", "bad", "number"] (spL TL K 4 [0] F__law_places_right)) : FnG P w K mg base 10 f__law_right d__law_right ["dice"] (spL TL K 1 [0] F__law_right) :=
  def_okLG A__law_right.fn sc__law_right rfl fun cdv hc A outer s H E hr gd =>
    (ls_cons (l_lift (s_set 1 (ev_fnD (fun _ => G__law_pick) (fun _ => hr.mono (by decide)) (fun _ => A__law_pick.g) (fun _ => A__law_pick.fn.kp) (fun _ => A__law_pick.b) (ea_cons (ev_name 0) (ea_cons (ev_lst (ea_cons ev_non (ea_cons ev_int (ea_cons ev_int (ea_cons ev_int (ea_cons ev_int (ea_cons (ev_neg ev_int) (ea_cons ev_bl (ea_cons ev_str (ea_cons (ev_tup (ea_cons ev_int ea_nil)) (ea_cons ev_int (ea_cons (ev_bin od_add (ev_bin od_pow ev_int ev_int) ev_int) (ea_cons ev_int (ea_cons ev_int ea_nil)))))))))))))) ea_nil)) (na_cons (na_cons na_nil))) (fun _ => sc__law_right.nd)))
    (ls_cons (l_lift (s_set 2 (ev_fnD (fun _ => G__law_pick) (fun _ => hr.mono (by decide)) (fun _ => A__law_pick.g) (fun _ => A__law_pick.fn.kp) (fun _ => A__law_pick.b) (ea_cons (ev_name 0) (ea_cons (ev_lst (ea_cons ev_non (ea_cons ev_int (ea_cons (ev_tup (ea_cons ev_int ea_nil)) (ea_cons (ev_tup (ea_cons ev_int (ea_cons ev_int ea_nil))) (ea_cons (ev_tup (ea_cons ev_int ea_nil)) (ea_cons (ev_tup (ea_cons (ev_neg ev_int) (ea_cons ev_int ea_nil))) (ea_cons (ev_tup (ea_cons ev_bl ea_nil)) (ea_cons (ev_lst (ea_cons ev_int ea_nil)) (ea_cons ev_str (ea_cons (ev_tup (ea_cons ev_int (ea_cons ev_non ea_nil))) (ea_cons (ev_bin od_mulT (ev_tup (ea_cons ev_int ea_nil)) ev_int) (ea_cons (ev_tup (ea_cons (ev_tup (ea_cons ev_int ea_nil)) ea_nil)) (ea_cons ev_dict0 ea_nil)))))))))))))) ea_nil)) (na_cons (na_cons na_nil))) (fun _ => sc__law_right.nd)))
    (ls_cons (l_lift (s_set 3 (ev_fnD (fun _ => G__law_pick) (fun _ => hr.mono (by decide)) (fun _ => A__law_pick.g) (fun _ => A__law_pick.fn.kp) (fun _ => A__law_pick.b) (ea_cons (ev_name 0) (ea_cons (ev_lst (ea_cons ev_non (ea_cons ev_int (ea_cons (ev_neg ev_int) (ea_cons ev_bl (ea_cons ev_str (ea_cons (ev_bin od_pow ev_int ev_int) (ea_cons (ev_tup (ea_cons ev_int ea_nil)) (ea_cons ev_int ea_nil))))))))) ea_nil)) (na_cons (na_cons na_nil))) (fun _ => sc__law_right.nd)))
    (ls_one (l_ret (le_and (le_fnDG (fun _ => G__law_polys_right) (fun _ => gd) (fun _ => hr.mono (by decide)) (fun _ => A__law_polys_right.g) (fun _ => A__law_polys_right.fn.kp) (fun _ => A__law_polys_right.b) (ea_cons (ev_name 0) (ea_cons (ev_name 1) (ea_cons (ev_name 2) (ea_cons (ev_name 3) ea_nil)))) (na_cons (na_cons (na_cons (na_cons na_nil))))) (le_one (le_fnDG (fun _ => G__law_places_right) (fun _ => gd) (fun _ => hr.mono (by decide)) (fun _ => A__law_places_right.g) (fun _ => A__law_places_right.fn.kp) (fun _ => A__law_places_right.b) (ea_cons (ev_name 0) (ea_cons (ev_name 1) (ea_cons (ev_name 2) (ea_cons (ev_name 3) ea_nil)))) (na_cons (na_cons (na_cons (na_cons na_nil))))))))))))
theorem ok_law (T : Txt K mg C_InvalidPoly C_InvalidOperation C_InvalidNumber C_TooMany C_Refused I_InvalidNumber I_TooMany I_Refused D_InvalidNumber D_TooMany D_Refused) {f_law : Addr} {d_law : FuncData} (A_law : DefAt K mg "law" s_law ["script"] f_law d_law) {f__law_dice : Addr} {d__law_dice : FuncData} (A__law_dice : DefAt K mg "_law_dice" s__law_dice ["script", "spot"] f__law_dice d__law_dice) (G__law_dice : FnOk P w K mg base CX0 1 f__law_dice d__law_dice ["script", "spot"] (spM K 2 [] Lib.F__law_dice)) {f__law_right : Addr} {d__law_right : FuncData} (A__law_right : DefAt K mg "_law_right" s__law_right ["dice"] f__law_right d__law_right) (G__law_right : FnG P w K mg base 10 f__law_right d__law_right ["dice"] (spL TL K 1 [0] F__law_right)) {f_poly_product : Addr} {d_poly_product : FuncData} (A_poly_product : DefAt K mg "poly_product" s_poly_product ["field", "one", "other"] f_poly_product d_poly_product) (G_poly_product : FnOk P w K mg base CX0 6 f_poly_product d_poly_product ["field", "one", "other"] (spM K 3 [] Lib.F_poly_product)) {f_hiding : Addr} {d_hiding : FuncData} (A_hiding : DefAt K mg "hiding" s_hiding ["field", "places"] f_hiding d_hiding) (G_hiding : FnOk P w K mg base CX0 4 f_hiding d_hiding ["field", "places"] (spM K 2 [] Lib.F_hiding)) {f_checks : Addr} {d_checks : FuncData} (A_checks : DefAt K mg "checks" s_checks ["field", "places", "degree"] f_checks d_checks) (G_checks : FnOk P w K mg base CX0 5 f_checks d_checks ["field", "places", "degree"] (spM K 3 [] Lib.F_checks)) {f_weights : Addr} {d_weights : FuncData} (A_weights : DefAt K mg "weights" s_weights ["field", "places", "goal"] f_weights d_weights) (G_weights : FnOk P w K mg base CX0 5 f_weights d_weights ["field", "places", "goal"] (spM K 3 [] Lib.F_weights)) (GX_poly_product : FnOk P w K mg base (L2.CX P w) 6 f_poly_product d_poly_product ["field", "one", "other"] (spX K mg 3 X_poly_product)) (GX_hiding : FnOk P w K mg base (L2.CX P w) 4 f_hiding d_hiding ["field", "places"] (spX K mg 2 X_hiding)) (GX_checks : FnOk P w K mg base (L2.CX P w) 5 f_checks d_checks ["field", "places", "degree"] (spX K mg 3 X_checks)) (GX_weights : FnOk P w K mg base (L2.CX P w) 5 f_weights d_weights ["field", "places", "goal"] (spX K mg 3 X_weights)) {f__law_met : Addr} {d__law_met : FuncData} (A__law_met : DefAt K mg "_law_met" s__law_met ["call"] f__law_met d__law_met) {P_law : Addr} (M_law : MakerAt TL base mg d_law ("law" ++ ".<locals>." ++ "<lambda>") P_law) : FnG P w K mg base 13 f_law d_law ["script"] (spL TL K 1 [] F_law) :=
  def_okLG A_law.fn sc_law rfl fun cdv hc A outer s H E hr gd =>
    (ls_cons (l_for (fun _ => PassesOwn.never) (fun _ => rfl) (ei_range1 (fun _ => T.n_range) (ea_cons (ev_callB (cd_max (fun _ => rfl)) (fun _ => T.n_max) (ea_cons ev_int (ea_cons (ev_callB (cd_min (fun _ => rfl)) (fun _ => T.n_min) (ea_cons ev_int (ea_cons (ev_callB cd_len (fun _ => T.n_len) (ea_cons (ev_name 0) ea_nil)) ea_nil))) ea_nil))) ea_nil)) (eg_name 1 (fun _ => sc_law.nd)) (ls_cons (l_lift (s_set 2 (ev_fn (fun _ => G__law_dice) (fun _ => hr.mono (by decide)) (fun _ => A__law_dice.g) (fun _ => A__law_dice.fn.kp) (fun _ => A__law_dice.b) (ea_cons (ev_name 0) (ea_cons (ev_name 1) ea_nil)) (na_cons (na_cons na_nil))) (fun _ => sc_law.nd)))
    (ls_one (l_if (lt_w (lw_or (lt_not (lt_tru (le_fnDG (fun _ => G__law_right) (fun _ => gd) (fun _ => hr.mono (by decide)) (fun _ => A__law_right.g) (fun _ => A__law_right.fn.kp) (fun _ => A__law_right.b) (ea_cons (ev_name 2) ea_nil) (na_cons na_nil)))) (lw_or1 (lt_not (lt_tru (le_fnDG (fun _ => G__law_right) (fun _ => gd) (fun _ => hr.mono (by decide)) (fun _ => A__law_right.g) (fun _ => A__law_right.fn.kp) (fun _ => A__law_right.b) (ea_cons (ev_name 2) ea_nil) (na_cons na_nil))))))) (ls_one (l_lift (s_ret ev_bl))) (ls_lift ss_nil)))))
    (ls_cons (l_lift (s_parT [3, 4] (ea_cons (ev_bin od_mulT (ev_tup (ea_cons ev_int ea_nil)) ev_int) (ea_cons (ev_callTy cd_tuple (fun _ => T.n_tuple) (ea_cons (ev_comp (own := [("at", 7)]) (fun _ => rfl) (fun _ => sc_law.nd) (fun _ => by show BlkOk N_law (defScope s_law) _ _; exact blkOk_by (by decide +kernel)) (ei_range1 (fun _ => T.n_range) (ea_cons ev_int ea_nil)) (eg_name 7 (fun _ => sc_law.nd)) ets_nil (ev_bin od_add (ev_name 7) ev_int)) ea_nil)) ea_nil)) (fun _ => rfl) (fun _ => (pgs_cons (pg_name (i := 3) sc_law.nd rfl (by first | exact Or.inl rfl | exact Or.inr rfl)) (pgs_cons (pg_name (i := 4) sc_law.nd rfl (by first | exact Or.inl rfl | exact Or.inr rfl)) pgs_nil)))))
    (ls_cons (l_set 5 (le_lst1 (le_lam (lam_at M_law hc A__law_met.fn A__law_met.g A__law_met.b sc__law_met rfl (Or.inl rfl) (fun cdg => gives__law_met T gd hr cdg _) hr (by decide +kernel) rfl ⟨rfl, rfl⟩ (fun _ _ _ _ _ => rfl))
      (fun _ => (ev_fn (fun _ => G_poly_product) (fun z => (flam_room z).mono (by decide)) (fun _ => A_poly_product.g) (fun _ => A_poly_product.fn.kp) (fun _ => A_poly_product.b) (ea_cons ev_int (ea_cons (ev_name 3) (ea_cons (ev_tup (ea_cons ev_int (ea_cons ev_int ea_nil))) ea_nil))) (na_cons (na_cons (na_cons na_nil)))))
      (fun _ => (x_fn (fun z => takes_lam z) (fun _ => GX_poly_product) (fun z => (flam_room z).mono (by decide)) (fun _ => A_poly_product.g) (fun _ => A_poly_product.fn.kp) (fun _ => A_poly_product.b) (ea_cons ev_int (ea_cons (ev_name 3) (ea_cons (ev_tup (ea_cons ev_int (ea_cons ev_int ea_nil))) ea_nil))) (na_cons (na_cons (na_cons na_nil)))))) mLam_nf) (fun _ => sc_law.nd))
    (ls_cons (l_app 5 (le_lam (lam_at M_law hc A__law_met.fn A__law_met.g A__law_met.b sc__law_met rfl (Or.inl rfl) (fun cdg => gives__law_met T gd hr cdg _) hr (by decide +kernel) rfl ⟨rfl, rfl⟩ (fun _ _ _ _ _ => rfl))
      (fun _ => (ev_fn (fun _ => G_poly_product) (fun z => (flam_room z).mono (by decide)) (fun _ => A_poly_product.g) (fun _ => A_poly_product.fn.kp) (fun _ => A_poly_product.b) (ea_cons ev_int (ea_cons (ev_name 3) (ea_cons (ev_tup (ea_cons ev_int ea_nil)) ea_nil))) (na_cons (na_cons (na_cons na_nil)))))
      (fun _ => (x_fn (fun z => takes_lam z) (fun _ => GX_poly_product) (fun z => (flam_room z).mono (by decide)) (fun _ => A_poly_product.g) (fun _ => A_poly_product.fn.kp) (fun _ => A_poly_product.b) (ea_cons ev_int (ea_cons (ev_name 3) (ea_cons (ev_tup (ea_cons ev_int ea_nil)) ea_nil))) (na_cons (na_cons (na_cons na_nil)))))) mLam_nf)
    (ls_cons (l_app 5 (le_lam (lam_at M_law hc A__law_met.fn A__law_met.g A__law_met.b sc__law_met rfl (Or.inl rfl) (fun cdg => gives__law_met T gd hr cdg _) hr (by decide +kernel) rfl ⟨rfl, rfl⟩ (fun _ _ _ _ _ => rfl))
      (fun _ => (ev_fn (fun _ => G_poly_product) (fun z => (flam_room z).mono (by decide)) (fun _ => A_poly_product.g) (fun _ => A_poly_product.fn.kp) (fun _ => A_poly_product.b) (ea_cons ev_int (ea_cons (ev_name 3) (ea_cons (ev_tup ea_nil) ea_nil))) (na_cons (na_cons (na_cons na_nil)))))
      (fun _ => (x_fn (fun z => takes_lam z) (fun _ => GX_poly_product) (fun z => (flam_room z).mono (by decide)) (fun _ => A_poly_product.g) (fun _ => A_poly_product.fn.kp) (fun _ => A_poly_product.b) (ea_cons ev_int (ea_cons (ev_name 3) (ea_cons (ev_tup ea_nil) ea_nil))) (na_cons (na_cons (na_cons na_nil)))))) mLam_nf)
    (ls_cons (l_app 5 (le_lam (lam_at M_law hc A__law_met.fn A__law_met.g A__law_met.b sc__law_met rfl (Or.inl rfl) (fun cdg => gives__law_met T gd hr cdg _) hr (by decide +kernel) rfl ⟨rfl, rfl⟩ (fun _ _ _ _ _ => rfl))
      (fun _ => (ev_fn (fun _ => G_hiding) (fun z => (flam_room z).mono (by decide)) (fun _ => A_hiding.g) (fun _ => A_hiding.fn.kp) (fun _ => A_hiding.b) (ea_cons ev_int (ea_cons (ev_name 4) ea_nil)) (na_cons (na_cons na_nil))))
      (fun _ => (x_fn (fun z => takes_lam z) (fun _ => GX_hiding) (fun z => (flam_room z).mono (by decide)) (fun _ => A_hiding.g) (fun _ => A_hiding.fn.kp) (fun _ => A_hiding.b) (ea_cons ev_int (ea_cons (ev_name 4) ea_nil)) (na_cons (na_cons na_nil))))) mLam_nf)
    (ls_cons (l_app 5 (le_lam (lam_at M_law hc A__law_met.fn A__law_met.g A__law_met.b sc__law_met rfl (Or.inl rfl) (fun cdg => gives__law_met T gd hr cdg _) hr (by decide +kernel) rfl ⟨rfl, rfl⟩ (fun _ _ _ _ _ => rfl))
      (fun _ => (ev_fn (fun _ => G_hiding) (fun z => (flam_room z).mono (by decide)) (fun _ => A_hiding.g) (fun _ => A_hiding.fn.kp) (fun _ => A_hiding.b) (ea_cons ev_int (ea_cons (ev_bin od_add (ev_name 4) (ev_tup (ea_cons ev_int ea_nil))) ea_nil)) (na_cons (na_cons na_nil))))
      (fun _ => (x_fn (fun z => takes_lam z) (fun _ => GX_hiding) (fun z => (flam_room z).mono (by decide)) (fun _ => A_hiding.g) (fun _ => A_hiding.fn.kp) (fun _ => A_hiding.b) (ea_cons ev_int (ea_cons (ev_bin od_add (ev_name 4) (ev_tup (ea_cons ev_int ea_nil))) ea_nil)) (na_cons (na_cons na_nil))))) mLam_nf)
    (ls_cons (l_app 5 (le_lam (lam_at M_law hc A__law_met.fn A__law_met.g A__law_met.b sc__law_met rfl (Or.inl rfl) (fun cdg => gives__law_met T gd hr cdg _) hr (by decide +kernel) rfl ⟨rfl, rfl⟩ (fun _ _ _ _ _ => rfl))
      (fun _ => (ev_fn (fun _ => G_checks) (fun z => (flam_room z).mono (by decide)) (fun _ => A_checks.g) (fun _ => A_checks.fn.kp) (fun _ => A_checks.b) (ea_cons ev_int (ea_cons (ev_name 4) (ea_cons ev_int ea_nil))) (na_cons (na_cons (na_cons na_nil)))))
      (fun _ => (x_fn (fun z => takes_lam z) (fun _ => GX_checks) (fun z => (flam_room z).mono (by decide)) (fun _ => A_checks.g) (fun _ => A_checks.fn.kp) (fun _ => A_checks.b) (ea_cons ev_int (ea_cons (ev_name 4) (ea_cons ev_int ea_nil))) (na_cons (na_cons (na_cons na_nil)))))) mLam_nf)
    (ls_cons (l_app 5 (le_lam (lam_at M_law hc A__law_met.fn A__law_met.g A__law_met.b sc__law_met rfl (Or.inl rfl) (fun cdg => gives__law_met T gd hr cdg _) hr (by decide +kernel) rfl ⟨rfl, rfl⟩ (fun _ _ _ _ _ => rfl))
      (fun _ => (ev_fn (fun _ => G_weights) (fun z => (flam_room z).mono (by decide)) (fun _ => A_weights.g) (fun _ => A_weights.fn.kp) (fun _ => A_weights.b) (ea_cons ev_int (ea_cons (ev_bin od_add (ev_tup (ea_cons ev_int ea_nil)) (ev_name 4)) (ea_cons ev_int ea_nil))) (na_cons (na_cons (na_cons na_nil)))))
      (fun _ => (x_fn (fun z => takes_lam z) (fun _ => GX_weights) (fun z => (flam_room z).mono (by decide)) (fun _ => A_weights.g) (fun _ => A_weights.fn.kp) (fun _ => A_weights.b) (ea_cons ev_int (ea_cons (ev_bin od_add (ev_tup (ea_cons ev_int ea_nil)) (ev_name 4)) (ea_cons ev_int ea_nil))) (na_cons (na_cons (na_cons na_nil)))))) mLam_nf)
    (ls_cons (l_lift (s_set 6 (ev_lst (ea_cons (ev_tup (ea_cons ev_str (ea_cons ev_str ea_nil))) (ea_cons (ev_tup (ea_cons ev_str ea_nil)) (ea_cons (ev_tup (ea_cons ev_str ea_nil)) (ea_cons (ev_tup (ea_cons ev_str ea_nil)) (ea_cons (ev_tup (ea_cons ev_str (ea_cons ev_str ea_nil))) (ea_cons (ev_tup (ea_cons ev_str ea_nil)) (ea_cons (ev_tup (ea_cons ev_str (ea_cons ev_str ea_nil))) ea_nil)))))))) (fun _ => sc_law.nd)))
    (ls_one (l_lift (s_ret (ev_cmp (od_eq (fun _ => hr.units)) (ev_name 5) (ev_name 6)))))))))))))))
end
end K06
end
section
set_option autoImplicit false
/-! EyK: how the mirrors of errors are evaluated. -/
namespace EV
open PySem PySem.Spec PyProof.Rows L2 LamX
def er0 (x : Str) : Er := (x, none)
def er1 (x f : Str) (d : Da) : Er := (x, some (f, d))
def is0 (x : Str) (o : Option Er) : Bool := match o with | some (y, none) => decide (y = x) | _ => false
theorem is0_eq {x : Str} {o : Option Er} (h : is0 x o = true) : o = some (er0 x) := by
  unfold is0 at h
  split at h
  · rename_i y
    rw [of_decide_eq_true h]; rfl
  · cases h
/-- the arguments of a call, as slots of the callee -/
def argsOf (fa : MA) (g : Gh) : Option (Gh × Gh) := (fa g).bind fun a => toSls a.1 a.2
section
variable {ms : MS} {xs xr x y : MX} {g g1 g2 : Gh} {ss : List Sl} {e : Er} {fa : MA} {F : MF} {nf : ME} {errs : List Str} {res : Er → Option Da} {fine r d : Da} {n : Nat} {t : MT} {w : Wv} {o : Option Er}
theorem xs_hit (h : xs g = some e) : xSeq ms xs xr g = some e := by
  unfold xSeq
  rw [h]
theorem xs_go (h : xs g = none) (h2 : ms g = some (.nx, g1)) : xSeq ms xs xr g = xr g1 := by
  unfold xSeq
  rw [h, h2]
  rfl
theorem xof (h : argsOf fa g = some (ss, g1)) : xOf (xFn x fa) g = x ss := by
  unfold xOf xFn
  obtain ⟨a, h1, h2⟩ := Option.bind_eq_some_iff.mp h
  rw [h1, Option.bind_some, h2, Option.bind_some]
  cases q : x ss with
  | none => rfl
  | some e => rfl
theorem mFn_eq (h : argsOf fa g = some (ss, g1)) (hf : F ss = some (w, g2)) : mFn F fa g = some (w, g1) := by
  unfold mFn
  obtain ⟨a, h1, h2⟩ := Option.bind_eq_some_iff.mp h
  rw [h1, Option.bind_some, h2, Option.bind_some]
  dsimp only
  rw [hf]
  rfl
theorem drop_eq (h : argsOf fa g = some (ss, g1)) (hf : F ss = some (w, g2)) : sDrop (mFn F fa) g = some (.nx, g1) := by
  unfold sDrop
  rw [mFn_eq h hf]
  rfl
/-- a check that passes, told by both mirrors -/
structure Fine (x : MX) (F : MF) (ss : List Sl) : Prop where
  x : x ss = none
  f : ∃ w g2, F ss = some (w, g2)
theorem chk_go (h : argsOf fa g = some (ss, g1)) (k : Fine x F ss) : xSeq (sDrop (mFn F fa)) (xOf (xFn x fa)) xr g = xr g1 := by
  obtain ⟨w, g2, hf⟩ := k.f
  exact xs_go ((xof h).trans k.x) (drop_eq h hf)
theorem chk_hit (h : argsOf fa g = some (ss, g1)) (k : x ss = some e) : xSeq ms (xOf (xFn x fa)) xr g = some e := xs_hit ((xof h).trans k)
theorem chk_last (h : argsOf fa g = some (ss, g1)) (k : x ss = o) : xOf (xFn x fa) g = o := (xof h).trans k
theorem xif_eq {b : Bool} (h : t g = some (b, g1)) : xIf t x y g = if b = true then x g1 else y g1 := by
  unfold xIf
  rw [h]
  rfl
theorem body_x (k : x (g ++ List.replicate n .un) = o) : bodyX n x g = o := k
theorem lam_hit (h : argsOf fa g = some (ss, g1)) (hx : x ss = some e) (hm : e.1 ∈ errs) (hr : res e = some r) : mLam errs res fine (xFn x fa) nf g = some (.dat r, g1) := by
  unfold mLam xFn
  obtain ⟨a, h1, h2⟩ := Option.bind_eq_some_iff.mp h
  rw [h1, Option.bind_some, h2, Option.bind_some, hx]
  dsimp only [Option.map_some]
  rw [if_pos hm, hr]
  rfl
theorem lam_fine (h : argsOf fa g = some (ss, g1)) (k : Fine x F ss) : mLam errs res fine (xFn x fa) (mFn F fa) g = some (.dat fine, g1) := by
  unfold mLam
  obtain ⟨w, g2, hf⟩ := k.f
  have e1 : xFn x fa g = none := by
    unfold xFn
    obtain ⟨a, h1, h2⟩ := Option.bind_eq_some_iff.mp h
    rw [h1, Option.bind_some, h2, Option.bind_some, k.x]
    rfl
  rw [e1, mFn_eq h hf]
  rfl
theorem lst1_eq {f : ME} (h : f g = some (.dat r, g1)) : mLst1 f g = some (.fresh [r], g1) := by
  unfold mLst1
  rw [h]
  rfl
theorem set_lst1 {f : ME} {i : Nat} (h : f g = some (.dat r, g)) (hi : i < g.length) : sSet i (mLst1 f) g = some (.nx, g.set i (.own [r])) := by
  unfold sSet
  rw [lst1_eq h, Option.bind_some]
  unfold setN
  rw [if_pos hi]
  rfl
theorem app_eq {f : ME} {i : Nat} {ds : List Da} (h : f g = some (.dat r, g)) (hi : g[i]? = some (.own ds)) (hl : ds.length < sizeLine) : sApp i f g = some (.nx, g.set i (.own (ds ++ [r]))) := by
  unfold sApp
  rw [hi]
  dsimp only
  rw [h, Option.bind_some]
  dsimp only [toD]
  rw [Option.bind_some]
  dsimp only
  rw [hi]
  dsimp only
  rw [if_pos hl]
end
end EV
end
section
set_option exponentiation.threshold 3000
namespace Lib
open PySem PySem.Spec PyProof.Rows L2 EV
local macro_rules | `(tactic| walk_at "ev") => `(tactic| simp only [e_bodyM, e_seq, e_nil, e_if, e_set, e_ret, e_drop, e_par, e_asg, e_for, e_app, e_setix, e_aug, e_name, e_c, e_anil, e_acons, e_bin, e_cmp, e_brk, e_cnt, e_retn, e_ix, e_call, e_fn, e_fn0, e_fnD, e_ifx, e_oft, e_tru, e_not, e_and, e_or, e_andv, e_orv, e_notv, e_neg, e_isi, e_chain, e_lst, e_tup, e_it, e_rg1, e_rg2, e_zip, e_enum, e_revi, e_rev, e_o0, e_o1, e_sl, e_dict0, e_yes, e_comp, e_pop, e_asB, e_toDd, e_toDf, e_toDs, e_lkd, e_lkf, e_lks, e_lan, e_lac, e_tdn, e_tdc, e_tsn, e_tsd, e_tsf, e_tss, e_snd, e_snf, e_snn, e_snc, e_sod, e_sof, e_st, e_fln, e_keep, e_itl, e_itt,
  d_add, d_sub, d_lt, d_le, d_gt, d_ge, d_eq, d_ne, d_ixl, d_ixt, d_lenl, d_lent, d_inti, d_intb, d_abs, d_max2, d_min2, d_tupl, d_tupt, d_lsl, d_lst, d_rb, t_b, t_i, t_l, t_t, is_nb, is_bb, k_ii, k_ib, k_bi, k_bb, k_ni, k_si, k_ti, k_li, k_di, k_tt, isNone, isBl,
  Option.bind_some, Option.bind_none, Option.map_some, Option.map_none, List.append_nil, List.cons_append, List.nil_append, List.replicate, List.getElem?_cons_zero, List.getElem?_cons_succ, List.getElem?_nil, List.set_cons_zero, List.set_cons_succ, List.length_cons, List.length_nil, List.mapIdx_cons, List.mapIdx_nil, List.contains_nil, List.contains_cons, Bool.false_eq_true, if_true, if_false, reduceIte, Bool.not_true, Bool.not_false, Option.getD_some, Function.comp, List.map_cons, List.map_nil,
  Nat.reduceLT, Nat.reduceAdd, Nat.reduceBEq, Nat.reduceEqDiff, Nat.reduceLeDiff, Int.reduceLT, Int.reduceLE, decide_true, decide_false, beq_self_eq_true, Bool.or_false, Bool.or_true, Bool.true_or, Bool.false_or, Bool.and_true, Bool.true_and, Bool.and_false, Bool.false_and, and_self, Nat.zero_add])
theorem t_is_integer (v lo hi : Int) : F_is_integer [.val (.int v), .val (.int lo), .val (.int hi)] = some (.dat (.bool (decide (lo ≤ v) && decide (v ≤ hi))), [.val (.int v), .val (.int lo), .val (.int hi)]) := by
  unfold F_is_integer m_is_integer
  by_cases h : lo ≤ v
  · walk_at "ev"
    simp [h]
  · walk_at "ev"
    simp [h]
/-- is_field of ints -/
def fldGo (v : Int) : List Int → Bool
  | [] => true
  | q :: r => if v % q = 0 then v == q else fldGo v r
def isFld (v : Int) : Bool := decide (5 ≤ v) && decide (v ≤ 997) && fldGo v [2, 3, 5, 7, 11, 13, 17, 19, 23, 29, 31]
theorem fld_loop (v : Int) : ∀ (qs : List Int) (s : Sl), (∀ q ∈ qs, 0 < q) → ∃ s', forL (setN 1) (sIf (mCmp dEq (mBin dMod (mName 0) (mName 1)) (mC (.int 0))) (sRet [] (mBin dEq (mName 0) (mName 1))) sNil) (qs.map PyData.int) [.val (.int v), s] = some (.nx, [.val (.int v), s']) ∧ fldGo v qs = true
    ∨ forL (setN 1) (sIf (mCmp dEq (mBin dMod (mName 0) (mName 1)) (mC (.int 0))) (sRet [] (mBin dEq (mName 0) (mName 1))) sNil) (qs.map PyData.int) [.val (.int v), s] = some (.rt (.dat (.bool (fldGo v qs))), [.val (.int v), s']) := by
  intro qs
  induction qs with
  | nil => intro s _; exact ⟨s, .inl ⟨rfl, rfl⟩⟩
  | cons q qs ih =>
    intro s hq
    have h0 : 0 < q := hq q List.mem_cons_self
    rw [List.map_cons]
    unfold forL
    by_cases h : v % q = 0
    · refine ⟨.val (.int q), .inr ?_⟩
      walk_at "ev"
      simp only [d_mod v q h0, h, Option.bind_some, e_lkd, d_eq, beq_self_eq_true, e_asB, if_true, fldGo]
      walk_at "ev"
    · have hb : (v % q == 0) = false := by simpa using h
      obtain ⟨s', hs⟩ := ih (.val (.int q)) fun q h => hq q (List.mem_cons_of_mem _ h)
      refine ⟨s', ?_⟩
      walk_at "ev"
      simp only [d_mod v q h0, hb, Option.bind_some, e_lkd, d_eq, e_asB, Bool.false_eq_true, if_false, fldGo, if_neg h]
      exact hs
theorem t_is_field (v : Int) : F_is_field [.val (.int v)] = some (.dat (.bool (isFld v)), [.val (.int v)]) := by
  unfold F_is_field m_is_field isFld
  by_cases h1 : (decide (5 ≤ v) && decide (v ≤ 997)) = true
  · obtain ⟨s', h | h⟩ := fld_loop v [2, 3, 5, 7, 11, 13, 17, 19, 23, 29, 31] .un (by decide)
    · walk_at "ev"
      rw [t_is_integer]
      simp only [h1]
      walk_at "ev"
      rw [List.map_cons] at h
      simp only [List.map_cons, List.map_nil] at h
      rw [h.1]
      walk_at "ev"
      rw [h.2]
    · walk_at "ev"
      rw [t_is_integer]
      simp only [h1]
      walk_at "ev"
      simp only [List.map_cons, List.map_nil] at h
      rw [h]
      walk_at "ev"
  · have h1 : (decide (5 ≤ v) && decide (v ≤ 997)) = false := by simpa using h1
    walk_at "ev"
    rw [t_is_integer]
    simp only [h1]
    walk_at "ev"
end Lib
end
section
set_option autoImplicit false
/-! the later mirrors' equations, for simp -/
namespace EV
open PySem PySem.Spec PyProof.Rows L2
section
variable (g : Gh) (f h : ME) (i : Nat) (m : MR) (a b : Int) (k : Bool) (xs ys : List Da) (ns : List Int)
theorem e_rr1 : mRr1 f g = (f g).bind fun a => (look a.1 a.2).bind fun x => match x with
  | .int j => if okRg j = true then some (((0 : Int), j), a.2) else none
  | _ => none := rfl
theorem e_rr2 : mRr2 f h g = (f g).bind fun a => (h a.2).bind fun b => (look a.1 b.2).bind fun x => (look b.1 b.2).bind fun y => match x, y with
  | .int i, .int j => if okRg i = true ∧ okRg j = true then some ((i, j), b.2) else none
  | _, _ => none := rfl
theorem e_tupRg : mTupRg m g = (m g).bind fun a => if (a.1.2 - a.1.1).toNat ≤ sizeLine then some (.dat (.tuple (rgD a.1.1 a.1.2)), a.2) else none := rfl
theorem e_lstRg : mLstRg m g = (m g).bind fun a => if (a.1.2 - a.1.1).toNat ≤ sizeLine then some (.fresh (rgD a.1.1 a.1.2), a.2) else none := rfl
theorem e_revR : mRevR m g = (m g).bind fun a => some ((rgD a.1.1 a.1.2).reverse, a.2) := rfl
theorem e_popAt : mPopAt i f g = match g[i]? with
  | some (.own _) => (f g).bind fun b => (look b.1 b.2).bind fun y => match y, b.2[i]? with
    | .int k, some (.own ds) => if okRg k = true then (ixN ds.length k).bind fun j => (ds[j]?).bind fun d => some (.dat d, b.2.set i (.own (ds.eraseIdx j))) else none
    | _, _ => none
  | _ => none := rfl
theorem e_ext : sExt i f g = match g[i]? with
  | some (.own _) => (f g).bind fun a => match a.1, a.2[i]? with
    | .fresh es, some (.own ds) => if ds.length + es.length ≤ sizeLine then some (.nx, a.2.set i (.own (ds ++ es))) else none
    | _, _ => none
  | _ => none := rfl
theorem e_tupRev : mTupRev f g = (f g).bind fun a => (look a.1 a.2).bind fun x => match x with | .list xs => some (.dat (.tuple xs.reverse), a.2) | _ => none := rfl
theorem e_repL : mRepL f h g = (f g).bind fun a => (h a.2).bind fun b => (look b.1 b.2).bind fun y => match a.1, y with
  | .fresh xs, .int k => if okRg k = true ∧ xs.length * k.toNat ≤ sizeLine then some (.fresh (List.replicate k.toNat xs).flatten, b.2) else none
  | _, _ => none := rfl
theorem e_lenSet : mLenSet f g = (f g).bind fun a => (look a.1 a.2).bind fun x => match x with | .tuple xs => (intsOf xs).bind fun ns => if ns.length ≤ 1000 then some (.dat (.int (uniq ns).length), a.2) else none | _ => none := rfl
theorem e_zipA (fa : MA) : mZipA fa g = (fa g).bind fun a => (toDs a.1 a.2).bind fun r => match r.1 with | [x, y] => (itemsD x).bind fun ds => (itemsD y).bind fun es => some (zipD ds es, r.2) | _ => none := rfl
theorem e_zip3 (fa : MA) : mZip3 fa g = (fa g).bind fun a => (toDs a.1 a.2).bind fun r => match r.1 with | [x, y, z] => (itemsD x).bind fun ds => (itemsD y).bind fun es => (itemsD z).bind fun fs => some (zipD3 ds es fs, r.2) | _ => none := rfl
theorem e_enumA (fa : MA) : mEnumA fa g = (fa g).bind fun a => (toDs a.1 a.2).bind fun r => match r.1 with | [.list ds] => some (enumD 0 ds, r.2) | [.tuple ds] => some (enumD 0 ds, r.2) | _ => none := rfl
theorem flat1 {α : Type} (x : α) : ∀ n : Nat, (List.replicate n [x]).flatten = List.replicate n x
  | 0 => rfl
  | n + 1 => by rw [List.replicate_succ, List.flatten_cons, flat1 x n]; rfl
end
end EV
end
local macro_rules | `(tactic| walk_at "ev") => `(tactic| try simp only [EV.e_bodyM, EV.e_seq, EV.e_nil, EV.e_if, EV.e_set, EV.e_ret, EV.e_drop, EV.e_par, EV.e_asg, EV.e_for, EV.e_app, EV.e_setix, EV.e_aug, EV.e_name, EV.e_c, EV.e_anil, EV.e_acons, EV.e_bin, EV.e_cmp, EV.e_brk, EV.e_cnt, EV.e_retn, EV.e_ix, EV.e_call, EV.e_fn, EV.e_fn0, EV.e_fnD, EV.e_ifx, EV.e_oft, EV.e_tru, EV.e_not, EV.e_and, EV.e_or, EV.e_andv, EV.e_orv, EV.e_notv, EV.e_neg, EV.e_isi, EV.e_chain, EV.e_lst, EV.e_tup, EV.e_it, EV.e_rg1, EV.e_rg2, EV.e_zip, EV.e_enum, EV.e_revi, EV.e_rev, EV.e_o0, EV.e_o1, EV.e_sl, EV.e_dict0, EV.e_yes, EV.e_comp, EV.e_pop, EV.e_asB, EV.e_toDd, EV.e_toDf, EV.e_toDs, EV.e_lkd, EV.e_lkf, EV.e_lks, EV.e_lan, EV.e_lac, EV.e_tdn, EV.e_tdc, EV.e_tsn, EV.e_tsd, EV.e_tsf, EV.e_tss, EV.e_snd, EV.e_snf, EV.e_snn, EV.e_snc, EV.e_sod, EV.e_sof, EV.e_st, EV.e_fln, EV.e_keep, EV.e_itl, EV.e_itt, EV.e_rr1, EV.e_rr2, EV.e_tupRg, EV.e_lstRg, EV.e_revR, EV.e_popAt, EV.e_ext, EV.e_tupRev, EV.e_repL, EV.e_lenSet, EV.e_enumA, EV.e_zipA, EV.e_zip3, EV.d_addT, EV.flat1,
  EV.d_add, EV.d_sub, EV.d_lt, EV.d_le, EV.d_gt, EV.d_ge, EV.d_eq, EV.d_ne, EV.d_ixl, EV.d_ixt, EV.d_lenl, EV.d_lent, EV.d_inti, EV.d_intb, EV.d_abs, EV.d_max2, EV.d_min2, EV.d_tupl, EV.d_tupt, EV.d_lsl, EV.d_lst, EV.d_rb, EV.t_b, EV.t_i, EV.t_l, EV.t_t, EV.is_nb, EV.is_bb, EV.k_ii, EV.k_ib, EV.k_bi, EV.k_bb, EV.k_ni, EV.k_si, EV.k_ti, EV.k_li, EV.k_di, EV.k_tt, EV.isNone, EV.isBl,
  Option.bind_some, Option.bind_none, Option.map_some, Option.map_none, List.append_nil, List.cons_append, List.nil_append, List.replicate, List.getElem?_cons_zero, List.getElem?_cons_succ, List.getElem?_nil, List.set_cons_zero, List.set_cons_succ, List.length_cons, List.length_nil, List.mapIdx_cons, List.mapIdx_nil, List.contains_nil, List.contains_cons, Bool.false_eq_true, if_true, if_false, reduceIte, Bool.not_true, Bool.not_false, Option.getD_some, Function.comp, List.map_cons, List.map_nil,
  Nat.reduceLT, Nat.reduceAdd, Nat.reduceBEq, Nat.reduceEqDiff, Nat.reduceLeDiff, Int.reduceLT, Int.reduceLE, decide_true, decide_false, beq_self_eq_true, Bool.or_false, Bool.or_true, Bool.true_or, Bool.false_or, Bool.and_true, Bool.true_and, Bool.and_false, Bool.false_and, and_self, Nat.zero_add])
section
set_option exponentiation.threshold 3000
namespace Lib
open PySem PySem.Spec PyProof.Rows L2 EV
theorem t_check_field {v : Int} (h : isFld v = true) : F_check_field [.val (.int v)] = some (.dat .none, [.val (.int v)]) := by
  unfold F_check_field m_check_field
  walk_at "ev"
  rw [t_is_field, h]
  walk_at "ev"
theorem t_check_integer {v lo hi : Int} (h1 : lo ≤ v) (h2 : v ≤ hi) : F_check_integer [.val (.int v), .val (.int lo), .val (.int hi)] = some (.dat .none, [.val (.int v), .val (.int lo), .val (.int hi)]) := by
  unfold F_check_integer m_check_integer
  walk_at "ev"
  rw [t_is_integer, decide_eq_true h1, decide_eq_true h2]
  walk_at "ev"
theorem fld_pos {p : Int} (h : isFld p = true) : 5 ≤ p ∧ p ≤ 997 := by
  unfold isFld at h
  simp only [Bool.and_eq_true, decide_eq_true_eq] at h
  exact h.1
theorem big {x : Int} (h1 : 0 ≤ x) (h2 : x < 100000000000000000000000000000) : x.natAbs < 2 ^ 400 := Nat.lt_of_lt_of_le (show x.natAbs < 2 ^ 100 by omega) (Nat.pow_le_pow_right (by decide) (by decide))
/-! ### powers modulo -/
theorem mm (a b p : Int) : (a % p * (b % p)) % p = (a * b) % p := (Int.mul_emod a b p).symm
theorem mml (a b p : Int) : (a % p * b) % p = (a * b) % p := by rw [Int.mul_emod, Int.emod_emod_of_dvd a (Int.dvd_refl p), ← Int.mul_emod]
theorem mmr (a b p : Int) : (a * (b % p)) % p = (a * b) % p := by rw [Int.mul_emod, Int.emod_emod_of_dvd b (Int.dvd_refl p), ← Int.mul_emod]
theorem emod_pow' (a p : Int) : ∀ k : Nat, ((a % p) ^ k) % p = (a ^ k) % p
  | 0 => by rw [Int.pow_zero, Int.pow_zero]
  | k + 1 => by
    rw [Int.pow_succ, Int.pow_succ, mmr, ← mml, emod_pow' a p k, mml]
theorem pw_step (p r s : Int) (l : Nat) : (r * s ^ l) % p = ((if l % 2 = 1 then r * s % p else r) * (s * s % p) ^ (l / 2)) % p := by
  have e : s ^ l = s ^ (l % 2) * (s * s) ^ (l / 2) := by
    have h : s * s = s ^ 2 := by rw [Int.pow_succ, Int.pow_succ, Int.pow_zero, Int.one_mul]
    rw [h, ← Int.pow_mul, ← Int.pow_add, Nat.mod_add_div]
  by_cases h : l % 2 = 1
  · rw [if_pos h, mml (r * s), ← mmr (r * s), emod_pow', mmr, e, h, Int.pow_succ, Int.pow_zero, Int.one_mul, Int.mul_assoc]
  · have h0 : l % 2 = 0 := by omega
    rw [if_neg h, ← mmr r ((s * s % p) ^ (l / 2)), emod_pow', mmr, e, h0, Int.pow_zero, Int.one_mul]
/-- what the loop of raised gives -/
def pwGo (p : Int) (r s : Int) : Nat → Nat → Int
  | 0, _ => r
  | _ + 1, 0 => r
  | n + 1, l + 1 => pwGo p (if (l + 1) % 2 = 1 then r * s % p else r) (s * s % p) n ((l + 1) / 2)
theorem pwGo_mod {p : Int} : ∀ (n l : Nat) (r s : Int), l ≤ n → pwGo p r s n l % p = (r * s ^ l) % p
  | 0, 0, r, s, _ => by simp [pwGo]
  | 0, l + 1, r, s, h => by omega
  | n + 1, 0, r, s, _ => by simp [pwGo]
  | n + 1, l + 1, r, s, h => by
    unfold pwGo
    rw [pwGo_mod n ((l + 1) / 2) _ _ (by omega), pw_step p r s (l + 1)]
theorem pwGo_range {p : Int} (hp : 0 < p) : ∀ (n l : Nat) (r s : Int), 0 ≤ r → r < p → 0 ≤ pwGo p r s n l ∧ pwGo p r s n l < p
  | 0, l, r, s, h1, h2 => by unfold pwGo; exact ⟨h1, h2⟩
  | n + 1, 0, r, s, h1, h2 => by unfold pwGo; exact ⟨h1, h2⟩
  | n + 1, l + 1, r, s, h1, h2 => by
    unfold pwGo
    split
    · exact pwGo_range hp n _ _ _ (Int.emod_nonneg _ (by omega)) (Int.emod_lt_of_pos _ hp)
    · exact pwGo_range hp n _ _ _ h1 h2
theorem raised_loop {p a k : Int} (hp : 5 ≤ p) (hp2 : p ≤ 997) : ∀ (n l : Nat) (r s : Int), l ≤ n → 0 ≤ r → r < p → 0 ≤ s → s < p → ∀ m, n < m → ∃ s', whileL (mCmp dGt (mName 5) (mC (.int 0))) (sSeq (sIf (mCmp dEq (mBin dMod (mName 5) (mC (.int 2))) (mC (.int 1))) (sSet 3 (mBin dMod (mBin dMul (mName 3) (mName 4)) (mName 0))) sNil)
    (sSeq (sSet 4 (mBin dMod (mBin dMul (mName 4) (mName 4)) (mName 0))) (sSet 5 (mBin dFdiv (mName 5) (mC (.int 2)))))) m [.val (.int p), .val (.int a), .val (.int k), .val (.int r), .val (.int s), .val (.int l)] = some (.nx, [.val (.int p), .val (.int a), .val (.int k), .val (.int (pwGo p r s n l)), .val (.int s'), .val (.int 0)]) := by
  intro n
  induction n with
  | zero =>
    intro l r s hl _ _ _ _ m hm
    obtain ⟨m, rfl⟩ : ∃ k, m = k + 1 := ⟨m - 1, by omega⟩
    have : l = 0 := by omega
    subst this
    refine ⟨s, ?_⟩
    unfold whileL
    walk_at "ev"
    simp [pwGo]
  | succ n ih =>
    intro l r s hl h1 h2 h3 h4 m hm
    obtain ⟨m, rfl⟩ : ∃ k, m = k + 1 := ⟨m - 1, by omega⟩
    cases l with
    | zero =>
      refine ⟨s, ?_⟩
      unfold whileL
      walk_at "ev"
      simp [pwGo]
    | succ l =>
      have hp0 : 0 < p := by omega
      have k1 := Int.emod_nonneg (s * s) (show p ≠ 0 by omega)
      have k2 := Int.emod_lt_of_pos (s * s) hp0
      have k3 := Int.emod_nonneg (r * s) (show p ≠ 0 by omega)
      have k4 := Int.emod_lt_of_pos (r * s) hp0
      have c1 : decide ((0 : Int) < ((l + 1 : Nat) : Int)) = true := decide_eq_true (by omega)
      have c2 : (((l + 1 : Nat) : Int) % 2 == 1) = decide ((l + 1) % 2 = 1) := by
        rw [Bool.eq_iff_iff, beq_iff_eq, decide_eq_true_eq]; omega
      have c3 : ((l + 1 : Nat) : Int) / 2 = (((l + 1) / 2 : Nat) : Int) := by omega
      have fin : ∀ r', 0 ≤ r' → r' < p → pwGo p r s (n + 1) (l + 1) = pwGo p r' (s * s % p) n ((l + 1) / 2) → ∃ s', whileL (mCmp dGt (mName 5) (mC (.int 0))) (sSeq (sIf (mCmp dEq (mBin dMod (mName 5) (mC (.int 2))) (mC (.int 1))) (sSet 3 (mBin dMod (mBin dMul (mName 3) (mName 4)) (mName 0))) sNil)
          (sSeq (sSet 4 (mBin dMod (mBin dMul (mName 4) (mName 4)) (mName 0))) (sSet 5 (mBin dFdiv (mName 5) (mC (.int 2)))))) m [.val (.int p), .val (.int a), .val (.int k), .val (.int r'), .val (.int (s * s % p)), .val (.int (((l + 1) / 2 : Nat) : Int))] = some (.nx, [.val (.int p), .val (.int a), .val (.int k), .val (.int (pwGo p r s (n + 1) (l + 1))), .val (.int s'), .val (.int 0)]) := fun r' j1 j2 e => by
        rw [e]
        exact ih ((l + 1) / 2) r' (s * s % p) (by omega) j1 j2 k1 k2 m (by omega)
      unfold whileL
      walk_at "ev"
      simp only [c1, if_true]
      walk_at "ev"
      rw [d_mod _ 2 (by decide)]
      walk_at "ev"
      simp only [c2]
      by_cases h : (l + 1) % 2 = 1
      · simp only [h, decide_true, if_true]
        walk_at "ev"
        rw [d_mul _ _ (big h1 (by omega)) (big h3 (by omega))]
        walk_at "ev"
        rw [d_mod _ _ hp0]
        walk_at "ev"
        rw [d_mul _ _ (big h3 (by omega)) (big h3 (by omega))]
        walk_at "ev"
        rw [d_mod _ _ hp0]
        walk_at "ev"
        rw [d_fdiv _ _ (by decide) (by decide)]
        walk_at "ev"
        rw [c3]
        exact fin _ k3 k4 (by rw [pwGo, if_pos h])
      · simp only [h, decide_false, if_false, Bool.false_eq_true]
        walk_at "ev"
        rw [d_mul _ _ (big h3 (by omega)) (big h3 (by omega))]
        walk_at "ev"
        rw [d_mod _ _ hp0]
        walk_at "ev"
        rw [d_fdiv _ _ (by decide) (by decide)]
        walk_at "ev"
        rw [c3]
        exact fin _ h1 h2 (by rw [pwGo, if_neg h])
theorem t_raised {p a k : Int} (hp : 5 ≤ p) (hp2 : p ≤ 997) (ha : 0 ≤ a) (ha2 : a < p) (hk : 0 ≤ k) (hk2 : k < 1000000000) : F_raised [.val (.int p), .val (.int a), .val (.int k)] = some (.dat (.int (a ^ k.toNat % p)), [.val (.int p), .val (.int a), .val (.int k)]) := by
  obtain ⟨n, rfl⟩ : ∃ n : Nat, k = n := ⟨k.toNat, by omega⟩
  have hp0 : 0 < p := by omega
  have e : a % p = a := Int.emod_eq_of_lt ha ha2
  obtain ⟨s', h⟩ := raised_loop (a := a) (k := n) hp hp2 n n 1 a (Nat.le_refl _) (by decide) (by omega) ha ha2 EV.fuel (by unfold EV.fuel; omega)
  have m := pwGo_mod (p := p) n n 1 a (Nat.le_refl _)
  obtain ⟨r1, r2⟩ := pwGo_range hp0 n n 1 a (by decide) (by omega)
  rw [Int.emod_eq_of_lt r1 r2, Int.one_mul] at m
  unfold F_raised m_raised
  walk_at "ev"
  rw [d_mod _ _ hp0, e]
  walk_at "ev"
  rw [e_while, h]
  walk_at "ev"
  rw [m, Int.toNat_natCast]
end Lib
end
section
set_option exponentiation.threshold 3000
namespace Lib
open PySem PySem.Spec PyProof.Rows L2 EV
theorem t_inverse {p a : Int} (hp : 5 ≤ p) (hp2 : p ≤ 997) (ha : 0 ≤ a) (ha2 : a < p) : F_inverse [.val (.int p), .val (.int a)] = some (.dat (.int (a ^ (p - 2).toNat % p)), [.val (.int p), .val (.int a)]) := by
  unfold F_inverse m_inverse
  walk_at "ev"
  rw [t_raised hp hp2 ha ha2 (by omega) (by omega)]
  walk_at "ev"
/-! ### dice -/
/-- the dice: what is left of a great cell, a number mixed, how many were mixed -/
def DiceOk (k : Nat) (ds : List Da) : Prop := ∃ a b c : Int, ds = [.int a, .int b, .int c] ∧ 0 ≤ a ∧ a < 10 ^ 117 ∧ 0 ≤ b ∧ b < 10 ^ 23 ∧ 0 ≤ c ∧ c ≤ k
theorem at0 {α : Type} {x y z : α} : atI [x, y, z] (0 : Int) = some x := rfl
theorem at1 {α : Type} {x y z : α} : atI [x, y, z] (1 : Int) = some y := rfl
theorem at2 {α : Type} {x y z : α} : atI [x, y, z] (2 : Int) = some z := rfl
theorem ix30 : ixN 3 0 = some 0 := rfl
theorem ix32 : ixN 3 2 = some 2 := rfl
theorem t_roll {k : Nat} {ds : List Da} {m : Int} (h : DiceOk k ds) (hk : k ≤ 1000000) (hm : 0 < m) (hm2 : m ≤ 1000000000) : ∃ r ds', 0 ≤ r ∧ r < m ∧ DiceOk (k + 1) ds' ∧ F__law_roll [.own ds, .val (.int m)] = some (.dat (.int r), [.own ds', .val (.int m)]) := by
  obtain ⟨a, b, c, rfl, a0, a1, b0, b1, c0, c1⟩ := h
  by_cases ha : 0 < a
  · refine ⟨a % m, [.int (a / m), .int b, .int c], Int.emod_nonneg _ (by omega), Int.emod_lt_of_pos _ hm, ⟨a / m, b, c, rfl, Int.ediv_nonneg a0 (by omega), ?_, b0, b1, c0, by omega⟩, ?_⟩
    · exact Int.lt_of_le_of_lt (Int.ediv_le_self _ a0) a1
    · unfold F__law_roll m__law_roll
      walk_at "ev"
      rw [at0]
      walk_at "ev"
      simp only [ha, decide_true, if_true]
      walk_at "ev"
      rw [at0]
      walk_at "ev"
      rw [d_mod _ _ hm]
      walk_at "ev"
      rw [at0]
      walk_at "ev"
      rw [d_fdiv _ _ hm (by omega)]
      walk_at "ev"
      rw [ix30]
      walk_at "ev"
  · have ha : a = 0 := by omega
    subst ha
    have e1 := Int.emod_nonneg (b + 86028157 * (c + 1)) (show (2305843009213693487 : Int) ≠ 0 by decide)
    have e2 := Int.emod_lt_of_pos (b + 86028157 * (c + 1)) (show (0 : Int) < 2305843009213693487 by decide)
    generalize hone : (b + 86028157 * (c + 1)) % 2305843009213693487 = one at e1 e2
    have e3 := Int.emod_nonneg (one * one + 101 * (c + 1)) (show (2305843009213693669 : Int) ≠ 0 by decide)
    have e4 := Int.emod_lt_of_pos (one * one + 101 * (c + 1)) (show (0 : Int) < 2305843009213693669 by decide)
    generalize htwo : (one * one + 101 * (c + 1)) % 2305843009213693669 = two at e3 e4
    refine ⟨(two * 6700417 + one) / 65537 % m, [.int 0, .int b, .int (c + 1)], Int.emod_nonneg _ (by omega), Int.emod_lt_of_pos _ hm, ⟨0, b, c + 1, rfl, a0, a1, b0, b1, by omega, by omega⟩, ?_⟩
    unfold F__law_roll m__law_roll
    walk_at "ev"
    rw [at0]
    walk_at "ev"
    rw [at2]
    walk_at "ev"
    rw [ix32]
    walk_at "ev"
    rw [at1]
    walk_at "ev"
    rw [at2]
    walk_at "ev"
    rw [d_mul _ _ (big (by decide) (by decide)) (big (by omega) (by omega))]
    walk_at "ev"
    rw [d_mod _ _ (by decide), hone]
    walk_at "ev"
    rw [d_mul _ _ (big e1 (by omega)) (big e1 (by omega))]
    walk_at "ev"
    rw [at2]
    walk_at "ev"
    rw [d_mul _ _ (big (by decide) (by decide)) (big (by omega) (by omega))]
    walk_at "ev"
    rw [d_mod _ _ (by decide), htwo]
    walk_at "ev"
    rw [d_mul _ _ (big e3 (by omega)) (big (by decide) (by decide))]
    walk_at "ev"
    rw [d_fdiv _ _ (by decide) (by decide)]
    walk_at "ev"
    rw [d_mod _ _ hm]
    walk_at "ev"
theorem t_pick {k : Nat} {ds xs : List Da} (h : DiceOk k ds) (hk : k ≤ 1000000) (hx : 0 < xs.length) (hx2 : xs.length ≤ 1000000) : ∃ x ds', x ∈ xs ∧ DiceOk (k + 1) ds' ∧ F__law_pick [.own ds, .val (.list xs)] = some (.dat x, [.own ds', .val (.list xs)]) := by
  obtain ⟨r, ds', r0, r1, hd, e⟩ := t_roll (m := xs.length) h hk (by omega) (by omega)
  obtain ⟨n, rfl⟩ : ∃ n : Nat, r = n := ⟨r.toNat, by omega⟩
  have hn : n < xs.length := by omega
  refine ⟨xs[n], ds', List.getElem_mem hn, hd, ?_⟩
  unfold F__law_pick m__law_pick
  walk_at "ev"
  rw [e]
  walk_at "ev"
  rw [atI_nat (v := xs[n]) (by simp [hn])]
  walk_at "ev"
end Lib
end
section
set_option exponentiation.threshold 3000
namespace Lib
open PySem PySem.Spec PyProof.Rows L2 EV
/-! ### loops and comprehensions, in general -/
theorem forL_inv {tg : Wv → Gh → Option Gh} {body : MS} (P : Nat → Gh → Prop) : ∀ (ds : List Da) (i : Nat) (g : Gh), P i g → (∀ j g d, P j g → d ∈ ds → j < i + ds.length → ∃ g1 g2, tg (.dat d) g = some g1 ∧ body g1 = some (.nx, g2) ∧ P (j + 1) g2) → ∃ g', forL tg body ds g = some (.nx, g') ∧ P (i + ds.length) g'
  | [], i, g, h, _ => ⟨g, rfl, h⟩
  | d :: ds, i, g, h, st => by
    obtain ⟨g1, g2, h1, h2, h3⟩ := st i g d h List.mem_cons_self (by rw [List.length_cons]; omega)
    obtain ⟨g', h4, h5⟩ := forL_inv P ds (i + 1) g2 h3 fun j g d p hd hj => st j g d p (List.mem_cons_of_mem _ hd) (by rw [List.length_cons]; omega)
    refine ⟨g', ?_, by rw [List.length_cons]; rw [show i + (ds.length + 1) = i + 1 + ds.length by omega]; exact h5⟩
    unfold forL
    rw [h1, Option.bind_some, h2, Option.bind_some]
    exact h4
theorem mem_rgD {a b : Int} {d : Da} : d ∈ rgD a b ↔ ∃ i, d = .int i ∧ a ≤ i ∧ i < b := by
  unfold rgD
  rw [List.mem_map]
  constructor
  · rintro ⟨k, hk, rfl⟩
    rw [List.mem_range] at hk
    exact ⟨_, rfl, by omega, by omega⟩
  · rintro ⟨i, rfl, h1, h2⟩
    exact ⟨(i - a).toNat, by rw [List.mem_range]; omega, by congr 1; omega⟩
theorem rgD_len {a b : Int} : (rgD a b).length = (b - a).toNat := by unfold rgD; rw [List.length_map, List.length_range]
theorem okRg' {i : Int} (h : -1000000 ≤ i) (h2 : i ≤ 1000000) : okRg i = true := by
  unfold okRg
  rw [decide_eq_true (by omega), decide_eq_true (by omega)]; rfl
/-! ### dice of a script -/
def diceR : MS := (sSeq (sSet 3 (mBin dMod (mCall dMax (mCons (mC (.int 0)) (mCons (mBin dSub (mCall dAbs (mCons (mName 2) mNil)) (mBin dPow (mC (.int 10)) (mC (.int 16)))) mNil))) (mBin dMul (mBin dPow (mC (.int 10)) (mC (.int 57))) (mBin dPow (mC (.int 10)) (mC (.int 60))))))
    (sRet [] (mLst (mCons (mName 3) (mCons (mBin dAdd (mBin dAdd (mBin dAdd (mBin dMul (mBin dMod (mCall dAbs (mCons (mName 2) mNil)) (mC (.int 1152921504606846733))) (mC (.int 97))) (mBin dMul (mC (.int 1013)) (mName 1))) (mBin dMul (mC (.int 53)) (mCall dInt (mCons (mBin dLt (mName 2) (mC (.int 0))) mNil)))) (mC (.int 41))) (mCons (mC (.int 0)) mNil))))))
theorem dice_cut : m__law_dice = sSeq (sSet 2 (mIf (mCmp dLt (mName 1) (mCall dLen (mCons (mName 0) mNil))) (mCall dInt (mCons (mIx (mName 0) (mName 1)) mNil)) (mBin dAdd (mBin dMul (mC (.int 103)) (mName 1)) (mC (.int 67))))) diceR := rfl
theorem t_diceR {ns : List Da} {s : Nat} (hs : s < 1000) (cell : Int) : ∃ ds, DiceOk 0 ds ∧ ∃ g', diceR [.val (.list ns), .val (.int s), .val (.int cell), .un] = some (.rt (.fresh ds), g') := by
  generalize hA : (if cell < 0 then -cell else cell) = A
  have hA0 : 0 ≤ A := by rw [← hA]; split <;> omega
  have m1 := Int.emod_nonneg A (show (1152921504606846733 : Int) ≠ 0 by decide)
  have m2 := Int.emod_lt_of_pos A (show (0 : Int) < 1152921504606846733 by decide)
  generalize hB : (if A - 10 ^ 16 > 0 then A - 10 ^ 16 else 0) = B
  have hB0 : 0 ≤ B := by rw [← hB]; split <;> omega
  have pos : (0 : Int) < 10 ^ 57 * 10 ^ 60 := by decide
  refine ⟨[.int (B % (10 ^ 57 * 10 ^ 60)), .int (A % 1152921504606846733 * 97 + 1013 * s + 53 * (if decide (cell < 0) = true then 1 else 0) + 41), .int 0], ⟨_, _, _, rfl, Int.emod_nonneg _ (by decide), ?_, ?_, ?_, Int.le_refl _, Int.le_refl _⟩, [.val (.list ns), .val (.int s), .val (.int cell), .val (.int (B % (10 ^ 57 * 10 ^ 60)))], ?_⟩
  · exact Int.lt_of_lt_of_le (Int.emod_lt_of_pos _ pos) (by decide)
  · split <;> omega
  · split <;> omega
  · unfold diceR
    walk_at "ev"
    rw [hA]
    rw [d_pow 10 16 (by decide) (by decide) (by decide), d_pow 10 57 (by decide) (by decide) (by decide), d_pow 10 60 (by decide) (by decide) (by decide)]
    walk_at "ev"
    rw [d_mul _ _ (by decide) (by decide)]
    walk_at "ev"
    rw [show (Int.toNat 16) = 16 from rfl, show (Int.toNat 57) = 57 from rfl, show (Int.toNat 60) = 60 from rfl, hB, d_mod _ _ pos]
    walk_at "ev"
    rw [hA, d_mod _ _ (by decide)]
    walk_at "ev"
    rw [d_mul _ _ (big m1 (by omega)) (by decide)]
    walk_at "ev"
    rw [d_mul _ _ (by decide) (big (by omega) (by omega))]
    walk_at "ev"
    rw [d_mul _ _ (by decide) (by split <;> decide)]
    walk_at "ev"
    rfl
theorem t_dice {ns : List Int} {s : Nat} (hs : s < 1000) : ∃ ds, DiceOk 0 ds ∧ F__law_dice [.val (.list (ns.map PyData.int)), .val (.int s)] = some (.fresh ds, [.val (.list (ns.map PyData.int)), .val (.int s)]) := by
  unfold F__law_dice
  rw [dice_cut]
  by_cases h : s < ns.length
  · obtain ⟨ds, hd, g', e⟩ := t_diceR (ns := ns.map PyData.int) hs ns[s]
    refine ⟨ds, hd, ?_⟩
    walk_at "ev"
    rw [List.length_map, decide_eq_true (show (s : Int) < (ns.length : Int) by omega)]
    walk_at "ev"
    rw [atI_nat (v := .int ns[s]) (by simp [h])]
    walk_at "ev"
    rw [e]
    walk_at "ev"
  · obtain ⟨ds, hd, g', e⟩ := t_diceR (ns := ns.map PyData.int) hs (103 * s + 67)
    refine ⟨ds, hd, ?_⟩
    walk_at "ev"
    rw [List.length_map, decide_eq_false (show ¬ (s : Int) < (ns.length : Int) by omega)]
    walk_at "ev"
    rw [d_mul _ _ (by decide) (big (by omega) (by omega))]
    walk_at "ev"
    rw [e]
    walk_at "ev"
end Lib
end
section
set_option exponentiation.threshold 3000
namespace Lib
open PySem PySem.Spec PyProof.Rows L2 EV
/-! ### what undoes a number, by trying -/
/-! ### powers, by the law's own steps -/
/-! ### great powers -/
end Lib
end
section
set_option exponentiation.threshold 3000
namespace Lib
open PySem PySem.Spec PyProof.Rows L2 EV
/-! ### primes by trying all divisors -/
end Lib
end
section
set_option exponentiation.threshold 3000
namespace Lib
open PySem PySem.Spec PyProof.Rows L2 EV
/-! ### Fermat, for all fields -/
theorem fermat_table : ((List.range 998).all fun v => !isFld (v : Int) || (List.range v).all fun a => Nat.ble a 0 || a ^ (v - 1) % v == 1) = true := by decide +kernel
theorem fermat {p a : Int} (h : isFld p = true) (ha : 0 < a) (ha2 : a < p) : a ^ (p - 1).toNat % p = 1 := by
  have hp := fld_pos h
  obtain ⟨n, rfl⟩ : ∃ n : Nat, p = n := ⟨p.toNat, by omega⟩
  obtain ⟨b, rfl⟩ : ∃ b : Nat, a = b := ⟨a.toNat, by omega⟩
  have t := List.all_eq_true.mp fermat_table n (by rw [List.mem_range]; omega)
  rw [h] at t
  simp only [Bool.not_true, Bool.false_or] at t
  have t2 := List.all_eq_true.mp t b (by rw [List.mem_range]; omega)
  have e : Nat.ble b 0 = false := by
    rw [Bool.eq_false_iff]
    intro hc
    have := Nat.le_of_ble_eq_true hc
    omega
  rw [e, Bool.false_or, beq_iff_eq] at t2
  rw [show ((n : Int) - 1).toNat = n - 1 by omega, ← Int.natCast_pow, ← Int.natCast_emod, t2]
  rfl
theorem inv_mul {p a : Int} (h : isFld p = true) (ha : 0 < a) (ha2 : a < p) : a ^ (p - 2).toNat % p * a % p = 1 := by
  have hp := fld_pos h
  rw [mml, ← Int.pow_succ, show (p - 2).toNat.succ = (p - 1).toNat by omega, fermat h ha ha2]
theorem inv_range {p a : Int} (h : isFld p = true) (ha : 0 < a) (ha2 : a < p) : 0 < a ^ (p - 2).toNat % p ∧ a ^ (p - 2).toNat % p < p := by
  have hp := fld_pos h
  have k1 := Int.emod_nonneg (a ^ (p - 2).toNat) (show p ≠ 0 by omega)
  have k2 := Int.emod_lt_of_pos (a ^ (p - 2).toNat) (show 0 < p by omega)
  refine ⟨?_, k2⟩
  have := inv_mul h ha ha2
  have hne : a ^ (p - 2).toNat % p ≠ 0 := by
    intro hc
    rw [hc, Int.zero_mul, Int.zero_emod] at this
    cases this
  omega
end Lib
end
section
set_option exponentiation.threshold 3000
namespace Lib
open PySem PySem.Spec PyProof.Rows L2 EV
end Lib
end
section
set_option exponentiation.threshold 3000
namespace Lib
open PySem PySem.Spec PyProof.Rows L2 EV
/-! ### any values -/
def inRg (lo hi : Int) (d : Da) : Bool := match d with | .int v => decide (lo ≤ v) && decide (v ≤ hi) | _ => false
def fldA (d : Da) : Bool := match d with | .int v => isFld v | _ => false
theorem t_is_integerA (d : Da) (lo hi : Int) : F_is_integer [.val d, .val (.int lo), .val (.int hi)] = some (.dat (.bool (inRg lo hi d)), [.val d, .val (.int lo), .val (.int hi)]) := by
  cases d with
  | int v => exact t_is_integer v lo hi
  | bool b =>
    unfold F_is_integer m_is_integer inRg
    cases b <;> walk_at "ev"
  | _ =>
    unfold F_is_integer m_is_integer inRg
    walk_at "ev"
theorem t_is_fieldA (d : Da) : F_is_field [.val d] = some (.dat (.bool (fldA d)), [.val d]) := by
  cases d with
  | int v => exact t_is_field v
  | _ =>
    unfold F_is_field m_is_field fldA
    walk_at "ev"
    rw [t_is_integerA]
    simp only [inRg]
    walk_at "ev"
theorem compL_of {α : Type} {vs : List Nat} {tg : Wv → Gh → Option Gh} {el : ME} {e F : α → Da} {g : Gh} : ∀ {xs : List α}, (∀ x ∈ xs, ∃ g1 w g2 g3, tg (.dat (e x)) g = some g1 ∧ el g1 = some (w, g2) ∧ toD w g2 = some (F x, g3) ∧ wipeG g3 vs = g) → compL vs tg mYes el (xs.map e) g = some (xs.map F, g)
  | [], _ => rfl
  | x :: xs, h => by
    obtain ⟨g1, w, g2, g3, h1, h2, h3, h4⟩ := h x List.mem_cons_self
    rw [List.map_cons]
    unfold compL
    rw [h1, Option.bind_some]
    show (el g1).bind _ = _
    rw [h2, Option.bind_some, h3, Option.bind_some, h4, compL_of fun d hd => h d (List.mem_cons_of_mem _ hd)]
    rfl
end Lib
end
section
set_option exponentiation.threshold 3000
namespace Lib
open PySem PySem.Spec PyProof.Rows L2 EV
/-! ### lists without zeros at their end -/
def trimL (xs : List Int) : List Int := (xs.reverse.dropWhile (fun x => x == 0)).reverse
end Lib
end
section
set_option exponentiation.threshold 3000
namespace Lib
open PySem PySem.Spec PyProof.Rows L2 EV
/-! ### multiples of polys; which tuples are polys -/
def InF (p : Int) (xs : List Int) : Prop := ∀ x ∈ xs, 0 ≤ x ∧ x < p
theorem sl_lt {n : Nat} (h : n ≤ 1000000) : n < sizeLine := by unfold sizeLine; omega
theorem t_scaled {p c : Int} {xs : List Int} (hp : 5 ≤ p) (hp2 : p ≤ 997) (hc : 0 ≤ c) (hc2 : c < p) (hx : InF p xs) (hl : xs.length ≤ 1000000) : F_scaled [.val (.int p), .val (.tuple (xs.map PyData.int)), .val (.int c)] = some (.fresh ((xs.map fun x => c * x % p).map PyData.int), [.val (.int p), .val (.tuple (xs.map PyData.int)), .val (.int c)]) := by
  have q := compL_of (vs := [3]) (tg := setN 3) (el := mBin dMod (mBin dMul (mName 2) (mName 3)) (mName 0)) (e := PyData.int) (F := fun x => .int (c * x % p)) (g := [.val (.int p), .val (.tuple (xs.map PyData.int)), .val (.int c), .un]) (xs := xs) (by
    intro x h
    obtain ⟨h1, h2⟩ := hx x h
    refine ⟨[.val (.int p), .val (.tuple (xs.map PyData.int)), .val (.int c), .val (.int x)], .dat (.int (c * x % p)), [.val (.int p), .val (.tuple (xs.map PyData.int)), .val (.int c), .val (.int x)], [.val (.int p), .val (.tuple (xs.map PyData.int)), .val (.int c), .val (.int x)], rfl, ?_, rfl, rfl⟩
    walk_at "ev"
    rw [d_mul _ _ (big hc (by omega)) (big h1 (by omega))]
    walk_at "ev"
    rw [d_mod _ _ (by omega)]
    walk_at "ev")
  unfold F_scaled m_scaled
  walk_at "ev"
  rw [if_pos (by rw [List.length_map]; exact sl_lt hl)]
  simp only [wipeG, List.set_cons_zero, List.set_cons_succ]
  rw [q]
  simp only [Option.bind_some, restore, List.getElem?_cons_zero, List.getElem?_cons_succ, List.set_cons_zero, List.set_cons_succ]
  walk_at "ev"
  rw [List.map_map]
  rfl
/-- the loop of `are_numbers`: true of all, or it ends at the first that is none -/
theorem nums_go {p : Int} {D : Da} : ∀ (ds : List Da) (s : Sl), ∃ s', forL (setN 2) (sIf (mOr (mNot (mTru (mIsi "int" (mName 2)))) (mOr (mCmp (dIs false) (mName 2) (mC (.bool true))) (mOr (mCmp (dIs false) (mName 2) (mC (.bool false))) (mNot (mChain dLe dLt (mC (.int 0)) (mName 2) (mName 0)))))) (sRet [] (mC (.bool false))) sNil) ds [.val (.int p), .val D, s] = some (if ds.all (inRg 0 (p - 1)) then .nx else .rt (.dat (.bool false)), [.val (.int p), .val D, s'])
  | [], s => ⟨s, rfl⟩
  | d :: ds, s => by
    obtain ⟨s', ih⟩ := nums_go (p := p) (D := D) ds (.val d)
    by_cases h : inRg 0 (p - 1) d = true
    · refine ⟨s', ?_⟩
      rw [List.all_cons, h, Bool.true_and, ← ih]
      conv => lhs; unfold forL
      show (setN 2 (.dat d) _).bind _ = _
      cases d with
      | int v =>
        unfold inRg at h
        rw [Bool.and_eq_true, decide_eq_true_eq, decide_eq_true_eq] at h
        have h1 : (0 : Int) ≤ v := h.1
        have h2 : v < p := by omega
        walk_at "ev"
        rw [decide_eq_true h1]
        walk_at "ev"
        rw [decide_eq_true h2]
        walk_at "ev"
      | _ => simp [inRg] at h
    · refine ⟨.val d, ?_⟩
      have h' : inRg 0 (p - 1) d = false := by simpa using h
      rw [List.all_cons, h', Bool.false_and]
      conv => lhs; unfold forL
      cases d with
      | int v =>
        unfold inRg at h'
        rw [Bool.and_eq_false_iff, decide_eq_false_iff_not, decide_eq_false_iff_not] at h'
        walk_at "ev"
        by_cases h1 : (0 : Int) ≤ v
        · have h2 : ¬ v < p := by omega
          rw [decide_eq_true h1]
          walk_at "ev"
          rw [decide_eq_false h2]
          walk_at "ev"
        · rw [decide_eq_false h1]
          walk_at "ev"
      | bool b => cases b <;> walk_at "ev"
      | _ => walk_at "ev"
theorem t_are_numbersA {p : Int} {xs : List Da} (hl : xs.length ≤ 1000000) : F_are_numbers [.val (.int p), .val (.tuple xs)] = some (.dat (.bool (xs.all (inRg 0 (p - 1)))), [.val (.int p), .val (.tuple xs)]) := by
  obtain ⟨s', e⟩ := nums_go (p := p) (D := .tuple xs) xs .un
  unfold F_are_numbers m_are_numbers
  walk_at "ev"
  rw [e]
  cases xs.all (inRg 0 (p - 1)) <;> walk_at "ev"
theorem t_are_numbers {p : Int} {xs : List Int} (hp : 5 ≤ p) (hx : InF p xs) (hl : xs.length ≤ 1000000) : F_are_numbers [.val (.int p), .val (.tuple (xs.map PyData.int))] = some (.dat (.bool true), [.val (.int p), .val (.tuple (xs.map PyData.int))]) := by
  rw [t_are_numbersA (by rw [List.length_map]; exact hl)]
  rw [show (xs.map PyData.int).all (inRg 0 (p - 1)) = true by
    rw [List.all_eq_true]
    intro d hd
    obtain ⟨x, hx', rfl⟩ := List.mem_map.mp hd
    have := hx x hx'
    show (decide (0 ≤ x) && decide (x ≤ p - 1)) = true
    rw [decide_eq_true this.1, decide_eq_true (show x ≤ p - 1 by omega)]
    rfl]
end Lib
end
section
set_option exponentiation.threshold 3000
namespace Lib
open PySem PySem.Spec PyProof.Rows L2 EV
/-! ### polys -/
/-! ### sums of polys -/
end Lib
end
section
set_option exponentiation.threshold 3000
namespace Lib
open PySem PySem.Spec PyProof.Rows L2 EV
/-! ### the law's own sum -/
theorem ix_nat {n i : Nat} (h : i < n) : ixN n (i : Int) = some i := by
  unfold ixN
  rw [if_pos (by omega), if_pos (by omega), Int.toNat_natCast]
end Lib
end
section
set_option exponentiation.threshold 3000
namespace Lib
open PySem PySem.Spec PyProof.Rows L2 EV
end Lib
end
section
set_option exponentiation.threshold 3000
namespace Lib
open PySem PySem.Spec PyProof.Rows L2 EV
/-! ### products -/
theorem rgD_cons {a b : Int} (h : a < b) : rgD a b = .int a :: rgD (a + 1) b := by
  unfold rgD
  rw [show (b - a).toNat = (b - (a + 1)).toNat + 1 by omega, List.range_succ_eq_map, List.map_cons, List.map_map]
  congr 1
  · show PyData.int (a + ((0 : Nat) : Int)) = .int a
    congr 1
    omega
  · apply List.map_congr_left
    intro k _
    show PyData.int (a + ((k + 1 : Nat) : Int)) = .int (a + 1 + (k : Int))
    congr 1
    omega
theorem rgD_nil {a b : Int} (h : b ≤ a) : rgD a b = [] := by
  unfold rgD
  rw [show (b - a).toNat = 0 by omega]
  rfl
/-- a row times a number, put to a list from a place on -/
def putTo (p c : Int) (ys zs : List Int) : List Int := List.zipWith (fun z y => (z + c * y) % p) (zs.take ys.length) ys ++ zs.drop ys.length
theorem putTo_nil (p c : Int) (zs : List Int) : putTo p c [] zs = zs := by unfold putTo; simp
theorem putTo_cons (p c y z : Int) (ys zs : List Int) : putTo p c (y :: ys) (z :: zs) = (z + c * y) % p :: putTo p c ys zs := by unfold putTo; simp
theorem putTo_len {p c : Int} {ys zs : List Int} (h : ys.length ≤ zs.length) : (putTo p c ys zs).length = zs.length := by unfold putTo; simp; omega
theorem in_prog {p c k : Int} (hp : 5 ≤ p) (hp2 : p ≤ 997) (hc : 0 ≤ c ∧ c < p) {X Y : List Da} (hX : atI X k = some (.int c)) : ∀ (ys pre suf : List Int) (j : Nat) (s5 : Sl), InF p ys → (∀ i, i < ys.length → Y[j + i]? = (ys.map PyData.int)[i]?) → Y.length = j + ys.length → (pre.length : Int) = k + j → ys.length ≤ suf.length → ∃ s5', forL (setN 5) (sSetIx 3 (mBin dMod (mBin dAdd (mIx (mName 3) (mBin dAdd (mName 4) (mName 5))) (mBin dMul (mIx (mName 1) (mName 4)) (mIx (mName 2) (mName 5)))) (mName 0)) (mBin dAdd (mName 4) (mName 5))) (rgD ((j : Nat) : Int) ((Y.length : Nat) : Int)) [.val (.int p), .val (.tuple X), .val (.tuple Y), .own ((pre ++ suf).map PyData.int), .val (.int k), s5] = some (.nx, [.val (.int p), .val (.tuple X), .val (.tuple Y), .own ((pre ++ putTo p c ys suf).map PyData.int), .val (.int k), s5'])
  | [], pre, suf, j, s5, _, _, hl, _, _ => ⟨s5, by rw [rgD_nil (by rw [hl]; simp), putTo_nil]; rfl⟩
  | y :: ys, pre, [], j, s5, _, _, _, _, h => by simp at h
  | y :: ys, pre, z :: suf, j, s5, hy, hY, hl, hk, h => by
    obtain ⟨s5', e⟩ := in_prog (k := k) hp hp2 hc hX ys (pre ++ [(z + c * y) % p]) suf (j + 1) (.val (.int (j : Nat))) (fun v hv => hy v (List.mem_cons_of_mem _ hv)) (fun i hi => by
      have := hY (i + 1) (by rw [List.length_cons]; omega)
      rw [show j + (i + 1) = j + 1 + i by omega] at this
      rw [this]
      rfl) (by rw [hl, List.length_cons]; omega) (by rw [List.length_append, List.length_singleton]; omega) (by simpa using h)
    refine ⟨s5', ?_⟩
    have hy0 := hy y List.mem_cons_self
    have lY : atI Y ((j : Nat) : Int) = some (.int y) := atI_nat (by
      have := hY 0 (by simp)
      rw [Nat.add_zero] at this
      rw [this]
      rfl)
    have la : atI ((pre ++ z :: suf).map PyData.int) (k + ((j : Nat) : Int)) = some (.int z) := by rw [← hk]; exact atI_nat (by simp)
    have li : ixN ((pre ++ z :: suf).map PyData.int).length (k + ((j : Nat) : Int)) = some pre.length := by rw [← hk]; exact ix_nat (by simp)
    have q : ((pre ++ z :: suf).map PyData.int).set pre.length (.int ((z + c * y) % p)) = (pre ++ [(z + c * y) % p] ++ suf).map PyData.int := by
      rw [← List.map_set]
      simp
    rw [rgD_cons (by rw [hl, List.length_cons]; omega)]
    unfold forL
    walk_at "ev"
    rw [la]
    walk_at "ev"
    rw [hX]
    walk_at "ev"
    rw [lY]
    walk_at "ev"
    rw [d_mul _ _ (big hc.1 (by omega)) (big hy0.1 (by omega))]
    walk_at "ev"
    rw [d_mod _ _ (by omega)]
    walk_at "ev"
    rw [li]
    walk_at "ev"
    rw [q, show ((j : Nat) : Int) + 1 = ((j + 1 : Nat) : Int) by omega, e, putTo_cons]
    simp
/-- the product's numbers: each number of the one poly times the other poly, put to it from its place on -/
def mulGo (p : Int) (ys : List Int) : List Int → List Int → List Int
  | [], zs => zs
  | x :: xs, zs => match putTo p x ys zs with
    | [] => []
    | z :: r => z :: mulGo p ys xs r
end Lib
end
section
set_option exponentiation.threshold 3000
namespace Lib
open PySem PySem.Spec PyProof.Rows L2 EV
/-! ### numbers modulo p, and products of rows of numbers -/
def Cg (p a b : Int) : Prop := ∃ k, a = b + p * k
theorem cg_refl (p a : Int) : Cg p a a := ⟨0, by grind⟩
theorem cg_sym {p a b : Int} (h : Cg p a b) : Cg p b a := by
  obtain ⟨k, h⟩ := h
  exact ⟨-k, by grind⟩
theorem cg_tr {p a b c : Int} (h : Cg p a b) (h2 : Cg p b c) : Cg p a c := by
  obtain ⟨k, h⟩ := h
  obtain ⟨l, h2⟩ := h2
  exact ⟨k + l, by grind⟩
theorem cg_add {p a b c d : Int} (h : Cg p a b) (h2 : Cg p c d) : Cg p (a + c) (b + d) := by
  obtain ⟨k, h⟩ := h
  obtain ⟨l, h2⟩ := h2
  exact ⟨k + l, by grind⟩
theorem cg_mod (p a : Int) : Cg p (a % p) a := ⟨-(a / p), by have := Int.emod_add_mul_ediv a p; grind⟩
theorem cg_eq {p a b : Int} (h : Cg p a b) (a0 : 0 ≤ a) (a1 : a < p) (b0 : 0 ≤ b) (b1 : b < p) : a = b := by
  obtain ⟨k, h⟩ := h
  have e : a % p = b % p := by rw [h, Int.add_mul_emod_self_left]
  rwa [Int.emod_eq_of_lt a0 a1, Int.emod_eq_of_lt b0 b1] at e
theorem cg_emod {p a b : Int} (h : Cg p a b) : a % p = b % p := by
  obtain ⟨k, h⟩ := h
  rw [h, Int.add_mul_emod_self_left]
theorem cg_of_emod {p a b : Int} (h : a % p = b % p) : Cg p a b := cg_tr (cg_sym (cg_mod p a)) (by rw [h]; exact cg_mod p b)
def cvN (g : Nat → Int) : Nat → (Nat → Int) → Int
  | 0, f => f 0 * g 0
  | i + 1, f => f 0 * g (i + 1) + cvN g i (fun k => f (k + 1))
theorem cv_zero (g : Nat → Int) : ∀ (i : Nat) (f : Nat → Int), (∀ k, f k = 0) → cvN g i f = 0
  | 0, f, h => by simp only [cvN]; rw [h 0, Int.zero_mul]
  | i + 1, f, h => by simp only [cvN]; rw [h 0, Int.zero_mul, cv_zero g i _ fun k => h (k + 1)]; rfl
/-- numbers behind both ends are 0; that at the end is the product of both last ones -/
theorem cv_top (g : Nat → Int) {b : Nat} (hg : ∀ k, b < k → g k = 0) : ∀ (a i : Nat) (f : Nat → Int), (∀ k, a < k → f k = 0) → a + b ≤ i → cvN g i f = if i = a + b then f a * g b else 0
  | 0, 0, f, hf, h => by
    have : b = 0 := by omega
    subst this
    rw [if_pos rfl]
    rfl
  | 0, i + 1, f, hf, h => by
    simp only [cvN]
    rw [cv_zero g i _ fun k => hf (k + 1) (by omega), Int.add_zero]
    by_cases e : i + 1 = 0 + b
    · rw [if_pos e, show b = i + 1 by omega]
    · rw [if_neg e, hg (i + 1) (by omega), Int.mul_zero]
  | a + 1, 0, f, hf, h => by omega
  | a + 1, i + 1, f, hf, h => by
    simp only [cvN]
    rw [hg (i + 1) (by omega), Int.mul_zero, Int.zero_add, cv_top g hg a i _ (fun k hk => hf (k + 1) (by omega)) (by omega)]
    by_cases e : i = a + b
    · rw [if_pos e, if_pos (by omega)]
    · rw [if_neg e, if_neg (by omega)]
/-- no numbers other than 0 make 0 -/
def NoZ (p : Int) : Prop := ∀ a b, Cg p (a * b) 0 → Cg p a 0 ∨ Cg p b 0
/-! ### rows of numbers as lists -/
def cf (xs : List Int) (i : Nat) : Int := xs.getD i 0
theorem cf_nil (i : Nat) : cf [] i = 0 := rfl
theorem cf_zero (x : Int) (xs : List Int) : cf (x :: xs) 0 = x := rfl
theorem cf_succ (x : Int) (xs : List Int) (i : Nat) : cf (x :: xs) (i + 1) = cf xs i := by unfold cf; simp
theorem cf_out {xs : List Int} {i : Nat} (h : xs.length ≤ i) : cf xs i = 0 := by
  unfold cf
  rw [List.getD_eq_getElem?_getD, List.getElem?_eq_none h]
  rfl
theorem cf_at {xs : List Int} {i : Nat} (h : i < xs.length) : cf xs i = xs[i] := by
  unfold cf
  rw [List.getD_eq_getElem?_getD, List.getElem?_eq_getElem h]
  rfl
theorem cf_repl (m i : Nat) : cf (List.replicate m 0) i = 0 := by
  unfold cf
  rw [List.getD_eq_getElem?_getD, List.getElem?_replicate]
  split <;> rfl
theorem cf_in {p : Int} {xs : List Int} (hp : 0 < p) (h : InF p xs) (i : Nat) : 0 ≤ cf xs i ∧ cf xs i < p := by
  by_cases hi : i < xs.length
  · rw [cf_at hi]
    exact h _ (List.getElem_mem hi)
  · rw [cf_out (by omega)]
    exact ⟨Int.le_refl 0, hp⟩
theorem cf_putTo (p c : Int) : ∀ (ys zs : List Int) (i : Nat), ys.length ≤ zs.length → Cg p (cf (putTo p c ys zs) i) (cf zs i + c * cf ys i)
  | [], zs, i, _ => by
    rw [putTo_nil, cf_nil, Int.mul_zero, Int.add_zero]
    exact cg_refl p _
  | y :: ys, [], i, h => by simp at h
  | y :: ys, z :: zs, 0, h => by
    rw [putTo_cons, cf_zero, cf_zero, cf_zero]
    exact cg_mod p _
  | y :: ys, z :: zs, i + 1, h => by
    rw [putTo_cons, cf_succ, cf_succ, cf_succ]
    exact cf_putTo p c ys zs i (by simpa using h)
theorem putTo_in {p c : Int} (hp : 0 < p) : ∀ (ys zs : List Int), ys.length ≤ zs.length → InF p zs → InF p (putTo p c ys zs)
  | [], zs, _, h => by rw [putTo_nil]; exact h
  | y :: ys, [], h, _ => by simp at h
  | y :: ys, z :: zs, h, hz => by
    rw [putTo_cons]
    intro v hv
    rcases List.mem_cons.mp hv with rfl | hv
    · exact ⟨Int.emod_nonneg _ (by omega), Int.emod_lt_of_pos _ hp⟩
    · exact putTo_in hp ys zs (by simpa using h) (fun u hu => hz u (List.mem_cons_of_mem _ hu)) v hv
theorem cf_mulGo {p : Int} (ys : List Int) : ∀ (xs zs : List Int) (i : Nat), xs.length + ys.length ≤ zs.length + 1 → 0 < ys.length → Cg p (cf (mulGo p ys xs zs) i) (cf zs i + cvN (cf ys) i (cf xs))
  | [], zs, i, h, hy => by
    rw [mulGo, cv_zero _ _ _ cf_nil, Int.add_zero]
    exact cg_refl p _
  | x :: xs, zs, i, h, hy => by
    rw [List.length_cons] at h
    have hl : (putTo p x ys zs).length = zs.length := putTo_len (by omega)
    have h0 := cf_putTo p x ys zs
    cases hz : putTo p x ys zs with
    | nil => rw [hz] at hl; simp at hl; omega
    | cons z r =>
      rw [hz] at hl h0
      rw [List.length_cons] at hl
      rw [mulGo, hz]
      cases i with
      | zero =>
        have := h0 0 (by omega)
        rw [cf_zero] at this
        rw [cf_zero]
        exact this
      | succ i =>
        have h1 := h0 (i + 1) (by omega)
        rw [cf_succ] at h1
        rw [cf_succ]
        have h2 := cf_mulGo (p := p) ys xs r i (by omega) hy
        refine cg_tr h2 (cg_tr (cg_add h1 (cg_refl p _)) ?_)
        rw [cvN, cf_zero, show (fun k => cf (x :: xs) (k + 1)) = cf xs from funext fun k => cf_succ x xs k, Int.add_assoc]
        exact cg_refl p _
theorem mulGo_len {p : Int} (ys : List Int) : ∀ (xs zs : List Int), xs.length + ys.length ≤ zs.length + 1 → 0 < ys.length → (mulGo p ys xs zs).length = zs.length
  | [], zs, h, hy => rfl
  | x :: xs, zs, h, hy => by
    rw [List.length_cons] at h
    have hl : (putTo p x ys zs).length = zs.length := putTo_len (by omega)
    cases hz : putTo p x ys zs with
    | nil => rw [hz] at hl; simp at hl; omega
    | cons z r =>
      rw [hz, List.length_cons] at hl
      rw [mulGo, hz]
      show (mulGo p ys xs r).length + 1 = _
      rw [mulGo_len ys xs r (by omega) hy, hl]
theorem mulGo_in {p : Int} (hp : 0 < p) (ys : List Int) : ∀ (xs zs : List Int), xs.length + ys.length ≤ zs.length + 1 → 0 < ys.length → InF p zs → InF p (mulGo p ys xs zs)
  | [], zs, h, hy, hz => hz
  | x :: xs, zs, h, hy, hz => by
    rw [List.length_cons] at h
    have hl : (putTo p x ys zs).length = zs.length := putTo_len (by omega)
    have hi := putTo_in (c := x) hp ys zs (by omega) hz
    cases hz : putTo p x ys zs with
    | nil => rw [hz] at hl; simp at hl; omega
    | cons z r =>
      rw [hz] at hi
      rw [hz, List.length_cons] at hl
      rw [mulGo, hz]
      intro v hv
      rcases List.mem_cons.mp hv with rfl | hv
      · exact hi _ List.mem_cons_self
      · exact mulGo_in hp ys xs r (by omega) hy (fun u hu => hi u (List.mem_cons_of_mem _ hu)) v hv
theorem in_repl {p : Int} (hp : 0 < p) (m : Nat) : InF p (List.replicate m 0) := fun x hx => by
  rw [(List.mem_replicate.mp hx).2]
  exact ⟨Int.le_refl 0, hp⟩
/-- the product of two rows of numbers -/
def mulL (p : Int) (xs ys : List Int) : List Int := if xs = [] ∨ ys = [] then [] else mulGo p ys xs (List.replicate (xs.length + ys.length - 1) 0)
theorem cf_mulL {p : Int} (xs ys : List Int) (i : Nat) : Cg p (cf (mulL p xs ys) i) (cvN (cf ys) i (cf xs)) := by
  unfold mulL
  split
  · rename_i h
    rw [cf_nil]
    rcases h with rfl | rfl
    · rw [cv_zero _ _ _ cf_nil]
      exact cg_refl p _
    · rw [show cvN (cf []) i (cf xs) = 0 by
        generalize cf xs = f
        revert f
        induction i with
        | zero => intro f; simp only [cvN, cf_nil, Int.mul_zero]
        | succ i ih => intro f; simp only [cvN, cf_nil, Int.mul_zero, ih, Int.add_zero]]
      exact cg_refl p _
  · rename_i h
    have hx : xs.length ≠ 0 := fun e => h (.inl (List.length_eq_zero_iff.mp e))
    have hy : ys.length ≠ 0 := fun e => h (.inr (List.length_eq_zero_iff.mp e))
    have := cf_mulGo (p := p) ys xs (List.replicate (xs.length + ys.length - 1) 0) i (by rw [List.length_replicate]; omega) (by omega)
    rwa [cf_repl, Int.zero_add] at this
theorem mulL_in {p : Int} (hp : 0 < p) (xs ys : List Int) : InF p (mulL p xs ys) := by
  unfold mulL
  split
  · intro x hx; cases hx
  · rename_i h
    have hx : xs.length ≠ 0 := fun e => h (.inl (List.length_eq_zero_iff.mp e))
    have hy : ys.length ≠ 0 := fun e => h (.inr (List.length_eq_zero_iff.mp e))
    exact mulGo_in hp ys xs _ (by rw [List.length_replicate]; omega) (by omega) (in_repl hp _)
theorem mulL_len {p : Int} {xs ys : List Int} (hx : xs ≠ []) (hy : ys ≠ []) : (mulL p xs ys).length = xs.length + ys.length - 1 := by
  have hx' : xs.length ≠ 0 := fun e => hx (List.length_eq_zero_iff.mp e)
  have hy' : ys.length ≠ 0 := fun e => hy (List.length_eq_zero_iff.mp e)
  unfold mulL
  rw [if_neg (by simp [hx, hy]), mulGo_len ys xs _ (by rw [List.length_replicate]; omega) (by omega), List.length_replicate]
end Lib
end
section
set_option exponentiation.threshold 3000
namespace Lib
open PySem PySem.Spec PyProof.Rows L2 EV
/-! ### division of rows of numbers -/
/-! ### values of rows of numbers -/
def evZ (a : Int) : List Int → Int
  | [] => 0
  | x :: xs => evZ a xs * a + x
theorem ev_putTo (p c a : Int) : ∀ (ys zs : List Int), ys.length ≤ zs.length → Cg p (evZ a (putTo p c ys zs)) (evZ a zs + c * evZ a ys)
  | [], zs, _ => by rw [putTo_nil]; exact ⟨0, by simp only [evZ]; grind⟩
  | y :: ys, [], h => by simp at h
  | y :: ys, z :: zs, h => by
    rw [putTo_cons]
    simp only [evZ]
    obtain ⟨k, e⟩ := ev_putTo p c a ys zs (by simpa using h)
    obtain ⟨l, e2⟩ := cg_mod p (z + c * y)
    exact ⟨k * a + l, by grind⟩
theorem ev_mulGo (p a : Int) (ys : List Int) : ∀ (xs zs : List Int), xs.length + ys.length ≤ zs.length + 1 → 0 < ys.length → Cg p (evZ a (mulGo p ys xs zs)) (evZ a zs + evZ a xs * evZ a ys)
  | [], zs, _, _ => by rw [mulGo]; exact ⟨0, by simp only [evZ]; grind⟩
  | x :: xs, zs, h, hy => by
    rw [List.length_cons] at h
    have hl : (putTo p x ys zs).length = zs.length := putTo_len (by omega)
    have h0 := ev_putTo p x a ys zs (by omega)
    cases hz : putTo p x ys zs with
    | nil => rw [hz] at hl; simp at hl; omega
    | cons z r =>
      rw [hz] at hl h0
      rw [List.length_cons] at hl
      rw [mulGo, hz]
      obtain ⟨k, e⟩ := ev_mulGo p a ys xs r (by omega) hy
      simp only [evZ] at h0 ⊢
      obtain ⟨l, e2⟩ := h0
      exact ⟨k * a + l, by grind⟩
theorem ev_repl (a : Int) : ∀ m, evZ a (List.replicate m 0) = 0
  | 0 => rfl
  | m + 1 => by
    rw [List.replicate_succ]
    simp only [evZ]
    rw [ev_repl a m]
    omega
theorem ev_mulL (p a : Int) (xs ys : List Int) : Cg p (evZ a (mulL p xs ys)) (evZ a xs * evZ a ys) := by
  unfold mulL
  split
  · rename_i h
    rcases h with rfl | rfl
    · exact ⟨0, by simp only [evZ]; grind⟩
    · exact ⟨0, by simp only [evZ]; grind⟩
  · rename_i h
    have hx : xs.length ≠ 0 := fun e => h (.inl (List.length_eq_zero_iff.mp e))
    have hy : ys.length ≠ 0 := fun e => h (.inr (List.length_eq_zero_iff.mp e))
    have := ev_mulGo p a ys xs (List.replicate (xs.length + ys.length - 1) 0) (by rw [List.length_replicate]; omega) (by omega)
    rwa [ev_repl, Int.zero_add] at this
end Lib
end
section
set_option exponentiation.threshold 3000
namespace Lib
open PySem PySem.Spec PyProof.Rows L2 EV
/-! ### the program's product -/
theorem rg1_of {fa : MA} {g g' : Gh} {n : Int} {ws : List Wv} (h : fa g = some (ws, g')) (h2 : lookAll ws g' = some [.int n]) (ok : okRg n = true) : mRg1 fa g = some (rgD 0 n, g') := by
  rw [e_rg1, h, Option.bind_some, h2, Option.bind_some]
  exact if_pos ok
theorem out_gen {p : Int} {B : MS} {S0 S1 S2 : Sl} {ys : List Int} (hB : ∀ (x : Int) (k : Nat) (pre suf : List Int) (s5 : Sl), 0 ≤ x ∧ x < p → pre.length = k → ys.length ≤ suf.length → (∃ i : Nat, i = k) → S1 = S1 → atI (match S1 with | .val (.tuple X) => X | _ => []) ((k : Nat) : Int) = some (.int x) → ∃ s5', B [S0, S1, S2, .own ((pre ++ suf).map PyData.int), .val (.int ((k : Nat) : Int)), s5] = some (.nx, [S0, S1, S2, .own ((pre ++ putTo p x ys suf).map PyData.int), .val (.int ((k : Nat) : Int)), s5'])) (hyl : 0 < ys.length) {X : List Da} (hS : S1 = .val (.tuple X)) : ∀ (xs pre suf : List Int) (s4 s5 : Sl), InF p xs → (∀ i, i < xs.length → X[pre.length + i]? = (xs.map PyData.int)[i]?) → X.length = pre.length + xs.length → xs.length + ys.length ≤ suf.length + 1 → ∃ s4' s5', forL (setN 4) B (rgD ((pre.length : Nat) : Int) ((X.length : Nat) : Int)) [S0, S1, S2, .own ((pre ++ suf).map PyData.int), s4, s5] = some (.nx, [S0, S1, S2, .own ((pre ++ mulGo p ys xs suf).map PyData.int), s4', s5'])
  | [], pre, suf, s4, s5, _, _, hl, _ => ⟨s4, s5, by rw [rgD_nil (by rw [hl]; simp), mulGo]; rfl⟩
  | x :: xs, pre, suf, s4, s5, hx, hX, hl, h => by
    rw [List.length_cons] at h hl
    have hp : (putTo p x ys suf).length = suf.length := putTo_len (by omega)
    have la : atI X ((pre.length : Nat) : Int) = some (.int x) := atI_nat (by
      have := hX 0 (by simp)
      rw [Nat.add_zero] at this
      rw [this]
      rfl)
    obtain ⟨a5, e1⟩ := hB x pre.length pre suf s5 (hx x List.mem_cons_self) rfl (by omega) ⟨_, rfl⟩ rfl (by rw [hS]; exact la)
    cases hz : putTo p x ys suf with
    | nil => rw [hz] at hp; simp at hp; omega
    | cons z r =>
      rw [hz] at hp e1
      obtain ⟨b4, b5, e2⟩ := out_gen hB hyl hS xs (pre ++ [z]) r (.val (.int ((pre.length : Nat) : Int))) a5 (fun v hv => hx v (List.mem_cons_of_mem _ hv)) (fun i hi => by
        have := hX (i + 1) (by rw [List.length_cons]; omega)
        rw [List.length_append, List.length_singleton, show pre.length + 1 + i = pre.length + (i + 1) by omega, this]
        rfl) (by rw [List.length_append, List.length_singleton]; omega) (by simp at hp; omega)
      refine ⟨b4, b5, ?_⟩
      rw [rgD_cons (by rw [hl]; omega)]
      unfold forL
      show (B [S0, S1, S2, .own ((pre ++ suf).map PyData.int), .val (.int ((pre.length : Nat) : Int)), s5]).bind _ = _
      rw [e1, Option.bind_some]
      rw [List.length_append, List.length_singleton, List.append_assoc] at e2
      rw [mulGo, hz]
      show forL (setN 4) B (rgD ((pre.length : Int) + 1) X.length) _ = _
      rw [show ((pre.length : Nat) : Int) + 1 = ((pre.length + 1 : Nat) : Int) by omega, show pre ++ z :: r = pre ++ ([z] ++ r) from rfl, e2]
      simp
def mulIn : MS := (sFor (mRg1 (mCons (mCall dLen (mCons (mName 2) mNil)) mNil)) (setN 5) (sSetIx 3 (mBin dMod (mBin dAdd (mIx (mName 3) (mBin dAdd (mName 4) (mName 5))) (mBin dMul (mIx (mName 1) (mName 4)) (mIx (mName 2) (mName 5)))) (mName 0)) (mBin dAdd (mName 4) (mName 5))))
def mulLoop : MS := (sFor (mRg1 (mCons (mCall dLen (mCons (mName 1) mNil)) mNil)) (setN 4) mulIn)
def mulInit : ME := (mRepL (mLst (mCons (mC (.int 0)) mNil)) (mBin dSub (mBin dAdd (mCall dLen (mCons (mName 1) mNil)) (mCall dLen (mCons (mName 2) mNil))) (mC (.int 1))))
theorem mul_cut : m_multiplied = (sSeq (sIf (mOr (mNot (mTru (mName 1))) (mNot (mTru (mName 2)))) (sRet [] (mTup mNil)) sNil)
    (sSeq (sSet 3 mulInit)
    (sSeq mulLoop
    (sRet [] (mCall dTuple (mCons (mName 3) mNil)))))) := rfl
theorem repL0 {h : ME} {g : Gh} {n : Int} (h1 : h g = some (.dat (.int n), g)) (ok : okRg n = true) (hl : n.toNat ≤ 1000000) : mRepL (mLst (mCons (mC (.int 0)) mNil)) h g = some (.fresh ((List.replicate n.toNat (0 : Int)).map PyData.int), g) := by
  rw [e_repL]
  walk_at "ev"
  rw [if_pos (show 1 ≤ sizeLine by decide)]
  walk_at "ev"
  rw [h1]
  walk_at "ev"
  rw [if_pos ⟨ok, by rw [Nat.one_mul]; unfold sizeLine; omega⟩]
  rw [List.map_replicate]
theorem mulInit_is {s0 s3 s4 s5 : Sl} {xs ys : List Int} (l1 : xs.length ≤ 400) (l2 : ys.length ≤ 400) : mulInit [s0, .val (.tuple (xs.map PyData.int)), .val (.tuple (ys.map PyData.int)), s3, s4, s5] = some (.fresh ((List.replicate (xs.length + ys.length - 1) (0 : Int)).map PyData.int), [s0, .val (.tuple (xs.map PyData.int)), .val (.tuple (ys.map PyData.int)), s3, s4, s5]) := by
  unfold mulInit
  rw [repL0 (n := ((xs.length : Nat) : Int) + ((ys.length : Nat) : Int) - 1) (by walk_at "ev"; rw [List.length_map, List.length_map]) (okRg' (by omega) (by omega)) (by omega)]
  rw [show (((xs.length : Nat) : Int) + ((ys.length : Nat) : Int) - 1).toNat = xs.length + ys.length - 1 by omega]
theorem mulIn_is {p : Int} (hp : 5 ≤ p) (hp2 : p ≤ 997) {X : List Da} {ys : List Int} (hy : InF p ys) (ly : ys.length ≤ 1000000) {x : Int} {k : Nat} {pre suf : List Int} {s5 : Sl} (hx : 0 ≤ x ∧ x < p) (hk : pre.length = k) (hl : ys.length ≤ suf.length) (hX : atI X ((k : Nat) : Int) = some (.int x)) : ∃ s5', mulIn [.val (.int p), .val (.tuple X), .val (.tuple (ys.map PyData.int)), .own ((pre ++ suf).map PyData.int), .val (.int ((k : Nat) : Int)), s5] = some (.nx, [.val (.int p), .val (.tuple X), .val (.tuple (ys.map PyData.int)), .own ((pre ++ putTo p x ys suf).map PyData.int), .val (.int ((k : Nat) : Int)), s5']) := by
  obtain ⟨s5', e⟩ := in_prog (k := ((k : Nat) : Int)) hp hp2 hx hX (Y := ys.map PyData.int) ys pre suf 0 s5 hy (fun i _ => by rw [Nat.zero_add]) (by simp) (by omega) hl
  refine ⟨s5', ?_⟩
  unfold mulIn
  rw [e_for, rg1_of (n := (((ys.map PyData.int).length : Nat) : Int)) (ws := [.dat (.int (((ys.map PyData.int).length : Nat) : Int))]) (g' := [.val (.int p), .val (.tuple X), .val (.tuple (ys.map PyData.int)), .own ((pre ++ suf).map PyData.int), .val (.int ((k : Nat) : Int)), s5]) rfl rfl (okRg' (by omega) (by rw [List.length_map]; omega)), Option.bind_some]
  exact e
theorem mulLoop_is {p : Int} (hp : 5 ≤ p) (hp2 : p ≤ 997) {xs ys suf : List Int} (hx : InF p xs) (hy : InF p ys) (lx : xs.length ≤ 1000000) (ly : ys.length ≤ 1000000) (hyl : 0 < ys.length) (hl : xs.length + ys.length ≤ suf.length + 1) {s4 s5 : Sl} : ∃ s4' s5', mulLoop [.val (.int p), .val (.tuple (xs.map PyData.int)), .val (.tuple (ys.map PyData.int)), .own (suf.map PyData.int), s4, s5] = some (.nx, [.val (.int p), .val (.tuple (xs.map PyData.int)), .val (.tuple (ys.map PyData.int)), .own ((mulGo p ys xs suf).map PyData.int), s4', s5']) := by
  obtain ⟨a4, a5, e⟩ := out_gen (p := p) (B := mulIn) (S0 := .val (.int p)) (S1 := .val (.tuple (xs.map PyData.int))) (S2 := .val (.tuple (ys.map PyData.int))) (ys := ys) (fun x k pre suf s5 h1 h2 h3 _ _ h4 => mulIn_is hp hp2 hy ly h1 h2 h3 h4) hyl rfl xs [] suf s4 s5 hx (fun i _ => by rw [List.length_nil, Nat.zero_add]) (by simp) hl
  refine ⟨a4, a5, ?_⟩
  unfold mulLoop
  rw [e_for, rg1_of (n := (((xs.map PyData.int).length : Nat) : Int)) (ws := [.dat (.int (((xs.map PyData.int).length : Nat) : Int))]) (g' := [.val (.int p), .val (.tuple (xs.map PyData.int)), .val (.tuple (ys.map PyData.int)), .own (suf.map PyData.int), s4, s5]) rfl rfl (okRg' (by omega) (by rw [List.length_map]; omega)), Option.bind_some]
  exact e
theorem mul_gen {I : ME} {L : MS} {p : Int} {X Y Z W : List Da} {a4 a5 : Sl} (tx : X.isEmpty = false) (ty : Y.isEmpty = false)
  (e0 : I [.val (.int p), .val (.tuple X), .val (.tuple Y), .un, .un, .un] = some (.fresh Z, [.val (.int p), .val (.tuple X), .val (.tuple Y), .un, .un, .un]))
  (e : L [.val (.int p), .val (.tuple X), .val (.tuple Y), .own Z, .un, .un] = some (.nx, [.val (.int p), .val (.tuple X), .val (.tuple Y), .own W, a4, a5])) :
  bodyM [] 3 (sSeq (sIf (mOr (mNot (mTru (mName 1))) (mNot (mTru (mName 2)))) (sRet [] (mTup mNil)) sNil)
    (sSeq (sSet 3 I)
    (sSeq L
    (sRet [] (mCall dTuple (mCons (mName 3) mNil)))))) [.val (.int p), .val (.tuple X), .val (.tuple Y)] = some (.dat (.tuple W), [.val (.int p), .val (.tuple X), .val (.tuple Y)]) := by
  walk_at "ev"
  rw [tx, ty]
  walk_at "ev"
  rw [e0]
  walk_at "ev"
  rw [e]
  walk_at "ev"
theorem t_multiplied {p : Int} (hp : 5 ≤ p) (hp2 : p ≤ 997) {xs ys : List Int} (hx : InF p xs) (hy : InF p ys) (lx : xs.length ≤ 400) (ly : ys.length ≤ 400) : F_multiplied [.val (.int p), .val (.tuple (xs.map PyData.int)), .val (.tuple (ys.map PyData.int))] = some (.dat (.tuple ((mulL p xs ys).map PyData.int)), [.val (.int p), .val (.tuple (xs.map PyData.int)), .val (.tuple (ys.map PyData.int))]) := by
  unfold F_multiplied
  rw [mul_cut]
  by_cases ex : xs = []
  · subst ex
    have e : mulL p [] ys = [] := by unfold mulL; rw [if_pos (.inl rfl)]
    rw [e]
    walk_at "ev"
    simp only [List.isEmpty_nil]
    walk_at "ev"
    rw [if_pos (show 0 ≤ sizeLine by decide)]
    walk_at "ev"
  by_cases ey : ys = []
  · subst ey
    have e : mulL p xs [] = [] := by unfold mulL; rw [if_pos (.inr rfl)]
    rw [e]
    have tx : (xs.map PyData.int).isEmpty = false := by cases xs with | nil => exact absurd rfl ex | cons x r => rfl
    walk_at "ev"
    rw [tx]
    simp only [List.isEmpty_nil]
    walk_at "ev"
    rw [if_pos (show 0 ≤ sizeLine by decide)]
    walk_at "ev"
  have hyl : 0 < ys.length := List.length_pos_iff.mpr ey
  have hxl : 0 < xs.length := List.length_pos_iff.mpr ex
  have tx : (xs.map PyData.int).isEmpty = false := by cases xs with | nil => exact absurd rfl ex | cons x r => rfl
  have ty : (ys.map PyData.int).isEmpty = false := by cases ys with | nil => exact absurd rfl ey | cons x r => rfl
  obtain ⟨a4, a5, e⟩ := mulLoop_is (suf := List.replicate (xs.length + ys.length - 1) 0) hp hp2 hx hy (by omega) (by omega) hyl (by rw [List.length_replicate]; omega) (s4 := .un) (s5 := .un)
  have e0 := mulInit_is (s0 := .val (.int p)) (s3 := .un) (s4 := .un) (s5 := .un) lx ly
  have e9 : mulL p xs ys = mulGo p ys xs (List.replicate (xs.length + ys.length - 1) 0) := by unfold mulL; rw [if_neg (by simp [ex, ey])]
  rw [e9]
  exact mul_gen tx ty e0 e
end Lib
end
section
set_option exponentiation.threshold 3000
namespace Lib
open PySem PySem.Spec PyProof.Rows L2 EV
/-! ### calls of products and values -/
/-! values -/
theorem horner {p a : Int} (hp : 5 ≤ p) (hp2 : p ≤ 997) (ha : 0 ≤ a) (ha2 : a < p) {S1 : Sl} : ∀ (rs : List Int) (v : Int) (s : Sl), InF p rs → 0 ≤ v → v < p → ∃ s' w, 0 ≤ w ∧ w < p ∧ Cg p w (v * a ^ rs.length + evZ a rs.reverse) ∧ forL (setN 4) (sSet 3 (mBin dMod (mBin dAdd (mBin dMul (mName 3) (mName 2)) (mName 4)) (mName 0))) (rs.map PyData.int) [.val (.int p), S1, .val (.int a), .val (.int v), s] = some (.nx, [.val (.int p), S1, .val (.int a), .val (.int w), s'])
  | [], v, s, _, h0, h1 => ⟨s, v, h0, h1, ⟨0, by simp [evZ]⟩, rfl⟩
  | r :: rs, v, s, hr, h0, h1 => by
    have hr0 := hr r List.mem_cons_self
    have k0 := Int.emod_nonneg (v * a + r) (show p ≠ 0 by omega)
    have k1 := Int.emod_lt_of_pos (v * a + r) (show 0 < p by omega)
    obtain ⟨s', w, w0, w1, w2, e⟩ := horner hp hp2 ha ha2 (S1 := S1) rs ((v * a + r) % p) (.val (.int r)) (fun x hx => hr x (List.mem_cons_of_mem _ hx)) k0 k1
    have ap : ∀ (ls : List Int) (x : Int), evZ a (ls ++ [x]) = evZ a ls + x * a ^ ls.length := by
      intro ls x
      induction ls with
      | nil => simp [evZ]
      | cons l ls ih =>
        show evZ a (ls ++ [x]) * a + l = (evZ a ls * a + l) + x * a ^ (ls.length + 1)
        rw [ih, Int.pow_succ]
        grind
    refine ⟨s', w, w0, w1, ?_, ?_⟩
    · rw [List.reverse_cons, ap, List.length_cons, List.length_reverse]
      refine cg_tr w2 ?_
      obtain ⟨k, hk⟩ := cg_mod p (v * a + r)
      rw [hk, Int.pow_succ]
      exact ⟨k * a ^ rs.length, by grind⟩
    · rw [List.map_cons]
      unfold forL
      walk_at "ev"
      rw [d_mul _ _ (big h0 (by omega)) (big ha (by omega))]
      walk_at "ev"
      rw [d_mod _ _ (by omega)]
      walk_at "ev"
      rw [e]
theorem evZ_mod {p a w : Int} {xs : List Int} (h : Cg p w (0 * a ^ xs.reverse.length + evZ a xs.reverse.reverse)) (w0 : 0 ≤ w) (w1 : w < p) : w = evZ a xs % p := by
  rw [Int.zero_mul, Int.zero_add, List.reverse_reverse] at h
  have := cg_emod h
  rwa [Int.emod_eq_of_lt w0 w1] at this
theorem t_evaluated {p a : Int} (hp : 5 ≤ p) (hp2 : p ≤ 997) (ha : 0 ≤ a) (ha2 : a < p) {xs : List Int} (hx : InF p xs) : F_evaluated [.val (.int p), .val (.tuple (xs.map PyData.int)), .val (.int a)] = some (.dat (.int (evZ a xs % p)), [.val (.int p), .val (.tuple (xs.map PyData.int)), .val (.int a)]) := by
  obtain ⟨s', w, w0, w1, w2, e⟩ := horner hp hp2 ha ha2 (S1 := .val (.tuple (xs.map PyData.int))) xs.reverse 0 .un (fun x hx' => hx x (List.mem_reverse.mp hx')) (Int.le_refl 0) (by omega)
  have hw := evZ_mod w2 w0 w1
  subst hw
  rw [List.map_reverse] at e
  unfold F_evaluated m_evaluated
  walk_at "ev"
  rw [e]
  walk_at "ev"
end Lib
end
section
set_option exponentiation.threshold 3000
namespace Lib
open PySem PySem.Spec PyProof.Rows L2 EV
/-! ### the program's division -/
end Lib
end
section
set_option exponentiation.threshold 3000
namespace Lib
open PySem PySem.Spec PyProof.Rows L2 EV
theorem no_zero {p : Int} (hf : isFld p = true) : NoZ p := by
  intro a b h
  have hp := fld_pos hf
  have b0 := Int.emod_nonneg b (show p ≠ 0 by omega)
  have b1 := Int.emod_lt_of_pos b (show 0 < p by omega)
  by_cases e : b % p = 0
  · right
    have := cg_sym (cg_mod p b)
    rw [e] at this
    exact this
  · left
    have i := inv_mul hf (show 0 < b % p by omega) b1
    generalize (b % p) ^ (p - 2).toNat % p = u at i
    have i2 : Cg p (u * (b % p)) 1 := cg_of_emod (by rw [i, Int.emod_eq_of_lt (by omega) (by omega)])
    obtain ⟨k, h⟩ := h
    obtain ⟨l, i2⟩ := i2
    obtain ⟨m, hm⟩ := cg_mod p b
    exact ⟨u * k + a * u * m - a * l, by grind⟩
end Lib
end
section
set_option exponentiation.threshold 3000
namespace Lib
open PySem PySem.Spec PyProof.Rows L2 EV
/-! ### places, drawn polys -/
theorem inD_int (a : Int) : ∀ xs : List Int, inD (.int a) (xs.map PyData.int) = decide (a ∈ xs)
  | [] => by simp [inD]
  | x :: xs => by
    have ih := inD_int a xs
    unfold inD at ih ⊢
    simp only [List.map_cons, List.any_cons, ih, List.mem_cons]
    by_cases h : a = x
    · subst h
      simp [PyData.eqv]
    · by_cases h2 : a ∈ xs <;> simp [PyData.eqv, h, h2, Ne.symm h]
theorem d_inT (neg : Bool) (a : Int) (xs : List Int) : dIn neg (.int a) (.tuple (xs.map PyData.int)) = some (.dat (.bool (if neg then !decide (a ∈ xs) else decide (a ∈ xs)))) := by
  unfold dIn
  rw [show itemsD (.tuple (xs.map PyData.int)) = some (xs.map PyData.int) from rfl, Option.bind_some, inD_int, if_pos]
  rw [show flatD (.int a) = true from rfl, Bool.true_and, List.all_eq_true]
  intro x hx
  obtain ⟨i, _, rfl⟩ := List.mem_map.mp hx
  rfl
theorem t_are_unlike {p : Int} {xs : List Int} (hp : 5 ≤ p) (hx : InF p xs) (hl : xs.length ≤ 60) (nd : xs.Nodup) : F_are_unlike [.val (.int p), .val (.tuple (xs.map PyData.int))] = some (.dat (.bool true), [.val (.int p), .val (.tuple (xs.map PyData.int))]) := by
  unfold F_are_unlike m_are_unlike
  walk_at "ev"
  rw [t_are_numbers hp hx (by omega)]
  walk_at "ev"
  rw [decide_eq_true (by rw [List.length_map]; omega)]
  walk_at "ev"
  rw [intsOf_map]
  walk_at "ev"
  rw [if_pos (by omega), uniq_len nd]
  walk_at "ev"
  rw [List.length_map]
  walk_at "ev"
theorem t_check_places {p : Int} {xs : List Int} (hp : 5 ≤ p) (hx : InF p xs) (hl : xs.length ≤ 60) (nd : xs.Nodup) (ne : xs ≠ []) : F_check_places [.val (.int p), .val (.tuple (xs.map PyData.int))] = some (.dat .none, [.val (.int p), .val (.tuple (xs.map PyData.int))]) := by
  unfold F_check_places m_check_places
  walk_at "ev"
  rw [t_are_unlike hp hx hl nd]
  walk_at "ev"
  rw [show (xs.map PyData.int).isEmpty = false by cases xs with | nil => exact absurd rfl ne | cons x r => rfl]
  walk_at "ev"
end Lib
end
section
set_option exponentiation.threshold 3000
namespace Lib
open PySem PySem.Spec PyProof.Rows L2 EV
/-! ### sums, multiples and values, in general -/
end Lib
end
section
set_option exponentiation.threshold 3000
namespace Lib
open PySem PySem.Spec PyProof.Rows L2 EV
/-! ### division by x - r, and polys with as many roots as numbers -/
def syn (r : Int) : List Int → List Int
  | [] => []
  | x :: xs => match xs with
    | [] => []
    | _ :: _ => evZ r xs :: syn r xs
theorem syn_len (r : Int) : ∀ xs : List Int, (syn r xs).length = xs.length - 1
  | [] => rfl
  | [x] => rfl
  | x :: y :: ys => by
    rw [syn]
    show (syn r (y :: ys)).length + 1 = _
    rw [syn_len r (y :: ys)]
    simp
theorem syn_ev (r a : Int) : ∀ xs : List Int, evZ a xs = (a - r) * evZ a (syn r xs) + evZ r xs
  | [] => by simp [evZ, syn]
  | [x] => by simp [evZ, syn]
  | x :: y :: ys => by
    rw [syn]
    have ih := syn_ev r a (y :: ys)
    show evZ a (y :: ys) * a + x = (a - r) * (evZ a (syn r (y :: ys)) * a + evZ r (y :: ys)) + (evZ r (y :: ys) * r + x)
    generalize evZ a (y :: ys) = A at ih ⊢
    generalize evZ r (y :: ys) = R at ih ⊢
    generalize evZ a (syn r (y :: ys)) = S at ih ⊢
    rw [ih]
    grind
theorem syn_cf (r : Int) : ∀ (xs : List Int) (i : Nat), cf xs (i + 1) = cf (syn r xs) i - r * cf (syn r xs) (i + 1)
  | [], i => by simp [syn, cf]
  | [x], i => by simp [syn, cf]
  | x :: y :: ys, 0 => by
    rw [syn, cf_succ, cf_zero, cf_zero, cf_succ]
    cases ys with
    | nil => simp [syn, evZ, cf]
    | cons z zs =>
      rw [syn, cf_zero]
      show y = (evZ r (z :: zs) * r + y) - r * evZ r (z :: zs)
      grind
  | x :: y :: ys, i + 1 => by
    rw [syn, cf_succ, cf_succ, cf_succ]
    exact syn_cf r (y :: ys) i
/-- unlike modulo p -/
def Apart (p : Int) : List Int → Prop
  | [] => True
  | r :: rs => (∀ b ∈ rs, ¬ Cg p (b - r) 0) ∧ Apart p rs
theorem ev_zero {p : Int} (a : Int) : ∀ xs : List Int, (∀ i, Cg p (cf xs i) 0) → Cg p (evZ a xs) 0
  | [], _ => cg_refl p 0
  | x :: xs, h => by
    have h0 := h 0
    rw [cf_zero] at h0
    obtain ⟨k, h0⟩ := h0
    obtain ⟨l, h1⟩ := ev_zero a xs fun i => by
      have := h (i + 1)
      rwa [cf_succ] at this
    show Cg p (evZ a xs * a + x) 0
    exact ⟨l * a + k, by grind⟩
theorem ev_cg {p : Int} (a : Int) : ∀ (xs ys : List Int), (∀ i, Cg p (cf xs i) (cf ys i)) → Cg p (evZ a xs) (evZ a ys)
  | [], ys, h => cg_sym (ev_zero a ys fun i => cg_sym (h i))
  | x :: xs, [], h => ev_zero a (x :: xs) h
  | x :: xs, y :: ys, h => by
    have h0 := h 0
    rw [cf_zero, cf_zero] at h0
    obtain ⟨k, h0⟩ := h0
    obtain ⟨l, h1⟩ := ev_cg a xs ys fun i => by
      have := h (i + 1)
      rwa [cf_succ, cf_succ] at this
    show Cg p (evZ a xs * a + x) (evZ a ys * a + y)
    exact ⟨l * a + k, by grind⟩
/-! ### rows of numbers added and multiplied, without a modulus -/
/-! ### polys through points: places bs with parts and units -/
end Lib
end
section
set_option exponentiation.threshold 3000
namespace Lib
open PySem PySem.Spec PyProof.Rows L2 EV
/-! ### the product of x - b over some places b, and its parts -/
def prd (a : Int) : List Int → Int
  | [] => 1
  | r :: rs => (a - r) * prd a rs
theorem prd_zero {p a : Int} (np : NoZ p) (hp : 1 < p) (ha : 0 ≤ a ∧ a < p) : ∀ rs : List Int, InF p rs → Cg p (prd a rs) 0 → a ∈ rs
  | [], _, h => by
    have : (1 : Int) = 0 := cg_eq h (by decide) hp (Int.le_refl 0) (by omega)
    omega
  | r :: rs, hr, h => by
    rcases np _ _ h with h1 | h1
    · have hr0 := hr r List.mem_cons_self
      obtain ⟨k, h1⟩ := h1
      have : a = r := cg_eq ⟨k, by omega⟩ ha.1 ha.2 hr0.1 hr0.2
      exact this ▸ List.mem_cons_self
    · exact List.mem_cons_of_mem _ (prd_zero np hp ha rs (fun x hx => hr x (List.mem_cons_of_mem _ hx)) h1)
theorem prd_mem {a : Int} : ∀ rs : List Int, a ∈ rs → prd a rs = 0
  | r :: rs, h => by
    rcases List.mem_cons.mp h with rfl | h
    · show (a - a) * prd a rs = 0
      rw [Int.sub_self, Int.zero_mul]
    · show (a - r) * prd a rs = 0
      rw [prd_mem rs h, Int.mul_zero]
def vlGo (p : Int) : List Int → List Int → List Int
  | W, [] => W
  | W, b :: bs => vlGo p (mulL p W [-b % p, 1]) bs
theorem vl_all {p : Int} (hp : 1 < p) : ∀ (bs W : List Int), InF p W → 0 < W.length → Cg p (cf W (W.length - 1)) 1 → InF p (vlGo p W bs) ∧ (vlGo p W bs).length = W.length + bs.length ∧ Cg p (cf (vlGo p W bs) (W.length + bs.length - 1)) 1 ∧ ∀ a, Cg p (evZ a (vlGo p W bs)) (evZ a W * prd a bs)
  | [], W, hW, h0, h1 => ⟨hW, rfl, h1, fun a => ⟨0, by simp [vlGo, prd]⟩⟩
  | b :: bs, W, hW, h0, h1 => by
    have ne : W ≠ [] := List.length_pos_iff.mp h0
    have l : (mulL p W [-b % p, 1]).length = W.length + 1 := by
      rw [mulL_len ne (by simp)]
      simp
    have t : Cg p (cf (mulL p W [-b % p, 1]) (W.length + 1 - 1)) 1 := by
      refine cg_tr (cf_mulL _ _ _) ?_
      rw [cv_top (cf [-b % p, 1]) (b := 1) (fun k hk => cf_out (by simp; omega)) (W.length - 1) _ _ (fun k hk => cf_out (by omega)) (by omega), if_pos (by omega)]
      show Cg p (cf W (W.length - 1) * 1) 1
      rw [Int.mul_one]
      exact h1
    obtain ⟨i1, i2, i3, i4⟩ := vl_all hp bs (mulL p W [-b % p, 1]) (mulL_in (by omega) _ _) (by omega) (by rw [l]; exact t)
    rw [l] at i2 i3
    refine ⟨i1, by rw [vlGo, i2, List.length_cons]; omega, by rw [vlGo, List.length_cons, show W.length + (bs.length + 1) - 1 = W.length + 1 + bs.length - 1 by omega]; exact i3, fun a => ?_⟩
    rw [vlGo]
    refine cg_tr (i4 a) ?_
    obtain ⟨k, h2⟩ := ev_mulL p a W [-b % p, 1]
    obtain ⟨m, h3⟩ := cg_mod p (-b)
    rw [h2]
    simp only [evZ, prd]
    rw [h3]
    exact ⟨(evZ a W * m + k) * prd a bs, by grind⟩
/-- the whole product -/
def vl (p : Int) (bs : List Int) : List Int := vlGo p [1] bs
theorem vl_is {p : Int} (hp : 1 < p) (bs : List Int) : InF p (vl p bs) ∧ (vl p bs).length = bs.length + 1 ∧ Cg p (cf (vl p bs) bs.length) 1 ∧ ∀ a, Cg p (evZ a (vl p bs)) (prd a bs) := by
  obtain ⟨i1, i2, i3, i4⟩ := vl_all hp bs [1] (fun x hx => by rw [List.mem_singleton] at hx; omega) (by simp) (by exact cg_refl p 1)
  refine ⟨i1, by unfold vl; rw [i2]; simp; omega, by have := i3; simp at this; exact this, fun a => ?_⟩
  have := i4 a
  simp only [evZ, Int.zero_mul, Int.zero_add, Int.one_mul] at this
  exact this
def rv (p r : Int) : List Int → List Int
  | [] => []
  | x :: xs => evZ r (x :: xs) % p :: rv p r xs
theorem rv_len (p r : Int) : ∀ xs : List Int, (rv p r xs).length = xs.length
  | [] => rfl
  | x :: xs => by rw [rv, List.length_cons, rv_len p r xs, List.length_cons]
theorem rv_in {p r : Int} (hp : 0 < p) : ∀ xs : List Int, InF p (rv p r xs)
  | [], x, hx => by cases hx
  | x :: xs, y, hy => by
    rw [rv] at hy
    rcases List.mem_cons.mp hy with rfl | hy
    · exact ⟨Int.emod_nonneg _ (by omega), Int.emod_lt_of_pos _ hp⟩
    · exact rv_in hp xs y hy
theorem rv_syn {p r : Int} : ∀ (x : Int) (xs : List Int) (i : Nat), Cg p (cf (rv p r xs) i) (cf (syn r (x :: xs)) i)
  | x, [], i => by simp [rv, syn]; exact cg_refl p _
  | x, y :: ys, 0 => by
    rw [rv, syn, cf_zero, cf_zero]
    exact cg_mod p _
  | x, y :: ys, i + 1 => by
    rw [rv, syn, cf_succ, cf_succ]
    exact rv_syn y ys i
/-- the part of a place -/
def part (p : Int) (bs : List Int) (r : Int) : List Int := rv p r (vl p bs).tail
theorem part_is {p : Int} (hp : 1 < p) {bs : List Int} {r : Int} (hr : r ∈ bs) : InF p (part p bs r) ∧ (part p bs r).length = bs.length ∧ Cg p (cf (part p bs r) (bs.length - 1)) 1 ∧ ∀ a, Cg p ((a - r) * evZ a (part p bs r)) (prd a bs) := by
  obtain ⟨i1, i2, i3, i4⟩ := vl_is hp bs
  unfold part
  generalize vl p bs = W at i1 i2 i3 i4
  cases W with
  | nil => simp at i2
  | cons x xs =>
    have l : xs.length = bs.length := by simpa using i2
    have b0 : 0 < bs.length := List.length_pos_of_mem hr
    have cs : ∀ i, Cg p (cf (rv p r xs) i) (cf (syn r (x :: xs)) i) := rv_syn x xs
    refine ⟨rv_in (by omega) xs, by rw [List.tail_cons, rv_len, l], ?_, fun a => ?_⟩
    · rw [List.tail_cons]
      refine cg_tr (cs _) ?_
      have h := syn_cf r (x :: xs) (bs.length - 1)
      rw [show bs.length - 1 + 1 = bs.length by omega, cf_out (xs := syn r (x :: xs)) (i := bs.length) (by rw [syn_len]; simp; omega), Int.mul_zero, Int.sub_zero] at h
      rw [← h]
      exact i3
    · rw [List.tail_cons]
      have h1 := ev_cg (p := p) a _ _ cs
      have h2 := syn_ev r a (x :: xs)
      have h3 := i4 r
      rw [prd_mem bs hr] at h3
      have h4 := i4 a
      obtain ⟨k1, h1⟩ := h1
      obtain ⟨k3, h3⟩ := h3
      obtain ⟨k4, h4⟩ := h4
      exact ⟨(a - r) * k1 + k4 - k3, by grind⟩
/-- the unit of a place -/
def unitOf (p : Int) (bs : List Int) (r : Int) : Int := (evZ r (part p bs r) % p) ^ (p - 2).toNat % p
end Lib
end
section
set_option exponentiation.threshold 3000
namespace Lib
open PySem PySem.Spec PyProof.Rows L2 EV
/-! ### the product of x - b, and its parts -/
/-- a list or a tuple -/
def sqD (b : Bool) (xs : List Da) : Da := cond b (.tuple xs) (.list xs)
theorem it_sq (b : Bool) (xs : List Da) : itemsD (sqD b xs) = some xs := by cases b <;> rfl
theorem van_step {A : MF} {p b v : Int} {S1 : Sl} {W N : List Da} {h : Gh} (hp : 0 < p) (hv : v = -b % p) (e : A [.val (.int p), .val (.tuple W), .val (.tuple [.int v, .int 1])] = some (.dat (.tuple N), h)) :
  (sSet 2 (mFn A (mCons (mName 0) (mCons (mName 2) (mCons (mTup (mCons (mBin dMod (mNeg (mName 3)) (mName 0)) (mCons (mC (.int 1)) mNil))) mNil))))) [.val (.int p), S1, .val (.tuple W), .val (.int b)] = some (.nx, [.val (.int p), S1, .val (.tuple N), .val (.int b)]) := by
  subst hv
  walk_at "ev"
  rw [d_mod _ _ hp]
  walk_at "ev"
  rw [if_pos (show 2 ≤ sizeLine by decide)]
  walk_at "ev"
  rw [e]
  walk_at "ev"
theorem lin_in {p b : Int} (hp : 5 ≤ p) : InF p [-b % p, 1] := fun x hx => by
  rcases List.mem_cons.mp hx with rfl | hx
  · exact ⟨Int.emod_nonneg _ (by omega), Int.emod_lt_of_pos _ (by omega)⟩
  · rw [List.mem_singleton] at hx
    omega
theorem van_loop {p : Int} (hp : 5 ≤ p) (hp2 : p ≤ 997) {S1 : Sl} : ∀ (bs W : List Int) (s3 : Sl), InF p W → 0 < W.length → W.length + bs.length ≤ 400 → ∃ s3', forL (setN 3) (sSet 2 (mFn Lib.F_multiplied (mCons (mName 0) (mCons (mName 2) (mCons (mTup (mCons (mBin dMod (mNeg (mName 3)) (mName 0)) (mCons (mC (.int 1)) mNil))) mNil))))) (bs.map PyData.int) [.val (.int p), S1, .val (.tuple (W.map PyData.int)), s3] = some (.nx, [.val (.int p), S1, .val (.tuple ((vlGo p W bs).map PyData.int)), s3'])
  | [], W, s3, _, _, _ => ⟨s3, rfl⟩
  | b :: bs, W, s3, hW, h0, hl => by
    rw [List.length_cons] at hl
    have l : (mulL p W [-b % p, 1]).length = W.length + 1 := by
      rw [mulL_len (List.length_pos_iff.mp h0) (by simp)]
      simp
    have e := van_step (b := b) (S1 := S1) (show 0 < p by omega) rfl (t_multiplied hp hp2 hW (lin_in (b := b) hp) (by omega) (by simp))
    obtain ⟨s3', e2⟩ := van_loop hp hp2 (S1 := S1) bs (mulL p W [-b % p, 1]) (.val (.int b)) (mulL_in (by omega) _ _) (by omega) (by omega)
    refine ⟨s3', ?_⟩
    rw [List.map_cons]
    unfold forL
    show (sSet 2 (mFn Lib.F_multiplied (mCons (mName 0) (mCons (mName 2) (mCons (mTup (mCons (mBin dMod (mNeg (mName 3)) (mName 0)) (mCons (mC (.int 1)) mNil))) mNil)))) [.val (.int p), S1, .val (.tuple (W.map PyData.int)), .val (.int b)]).bind _ = _
    rw [e, Option.bind_some]
    exact e2
theorem van_gen {L : MS} {p : Int} {D : Da} {s3 : Sl} {N : List Da} (e : L [.val (.int p), .val D, .val (.tuple [.int 1]), .un] = some (.nx, [.val (.int p), .val D, .val (.tuple N), s3])) :
  bodyM [] 2 (sSeq (sSet 2 (mTup (mCons (mC (.int 1)) mNil))) (sSeq L (sRet [] (mName 2)))) [.val (.int p), .val D] = some (.dat (.tuple N), [.val (.int p), .val D]) := by
  walk_at "ev"
  rw [if_pos (show 1 ≤ sizeLine by decide)]
  walk_at "ev"
  rw [e]
  walk_at "ev"
theorem it_of {g : Gh} {i : Nat} {d : Da} {xs : List Da} (h : g[i]? = some (.val d)) (hd : itemsD d = some xs) : mIt (mName i) g = some (xs, g) := by
  unfold mIt mName
  simp only [h, Option.bind_some]
  show (itemsD d).bind _ = _
  rw [hd]
  rfl
theorem t_vanishing {p : Int} (hp : 5 ≤ p) (hp2 : p ≤ 997) (b : Bool) {bs : List Int} (hl : bs.length ≤ 300) : F_vanishing [.val (.int p), .val (sqD b (bs.map PyData.int))] = some (.dat (.tuple ((vl p bs).map PyData.int)), [.val (.int p), .val (sqD b (bs.map PyData.int))]) := by
  obtain ⟨s3, e⟩ := van_loop hp hp2 (S1 := .val (sqD b (bs.map PyData.int))) bs [1] .un (fun x hx => by rw [List.mem_singleton] at hx; omega) (by simp) (by simp; omega)
  unfold F_vanishing m_vanishing
  refine van_gen (s3 := s3) ?_
  rw [e_for, it_of (xs := bs.map PyData.int) rfl (it_sq b _), Option.bind_some]
  exact e
/-! division by x - r -/
def rvGo (p r : Int) : Int → List Int → List Int
  | _, [] => []
  | v, x :: xs => (v * r + x) % p :: rvGo p r ((v * r + x) % p) xs
theorem rvGo_app (p r : Int) : ∀ (xs : List Int) (v x : Int), rvGo p r v (xs ++ [x]) = rvGo p r v xs ++ [((rvGo p r v xs).getLast?.getD v * r + x) % p]
  | [], v, x => by simp [rvGo]
  | y :: ys, v, x => by
    rw [List.cons_append, rvGo, rvGo, rvGo_app p r ys, List.cons_append]
    congr 2
    cases ys with
    | nil => simp [rvGo]
    | cons z zs => simp [rvGo, List.getLast?_cons]
theorem rvGo_rev (p r : Int) : ∀ W : List Int, (rvGo p r 0 W.reverse).reverse = rv p r W ∧ (rvGo p r 0 W.reverse).getLast?.getD 0 = (if W = [] then 0 else evZ r W % p)
  | [] => ⟨rfl, rfl⟩
  | x :: xs => by
    obtain ⟨h1, h2⟩ := rvGo_rev p r xs
    have e : ((rvGo p r 0 xs.reverse).getLast?.getD 0 * r + x) % p = evZ r (x :: xs) % p := by
      rw [h2]
      cases xs with
      | nil => simp [evZ]
      | cons y ys =>
        rw [if_neg (by simp)]
        show _ = (evZ r (y :: ys) * r + x) % p
        have := cg_mod p (evZ r (y :: ys))
        obtain ⟨k, hk⟩ := this
        exact cg_emod ⟨k * r, by rw [hk]; grind⟩
    constructor
    · rw [List.reverse_cons, rvGo_app, List.reverse_append, List.reverse_singleton, List.singleton_append, h1, e, rv]
    · rw [List.reverse_cons, rvGo_app, e, if_neg (by simp)]
      simp
theorem root_loop {p r : Int} (hp : 5 ≤ p) (hp2 : p ≤ 997) (hr : 0 ≤ r ∧ r < p) {S1 : Sl} : ∀ (xs : List Int) (ds : List Da) (v : Int) (s5 : Sl), InF p xs → 0 ≤ v ∧ v < p → ds.length + xs.length ≤ 1000 → ∃ v' s5', forL (setN 5) (sSeq (sSet 4 (mBin dMod (mBin dAdd (mBin dMul (mName 4) (mName 2)) (mName 5)) (mName 0))) (sApp 3 (mName 4))) (xs.map PyData.int) [.val (.int p), S1, .val (.int r), .own ds, .val (.int v), s5] = some (.nx, [.val (.int p), S1, .val (.int r), .own (ds ++ (rvGo p r v xs).map PyData.int), .val (.int v'), s5'])
  | [], ds, v, s5, _, _, _ => ⟨v, s5, by simp [rvGo, forL]⟩
  | x :: xs, ds, v, s5, hx, hv, hl => by
    rw [List.length_cons] at hl
    have k0 := Int.emod_nonneg (v * r + x) (show p ≠ 0 by omega)
    have k1 := Int.emod_lt_of_pos (v * r + x) (show 0 < p by omega)
    obtain ⟨v', s5', e⟩ := root_loop hp hp2 hr (S1 := S1) xs (ds ++ [.int ((v * r + x) % p)]) ((v * r + x) % p) (.val (.int x)) (fun y hy => hx y (List.mem_cons_of_mem _ hy)) ⟨k0, k1⟩ (by rw [List.length_append, List.length_singleton]; omega)
    refine ⟨v', s5', ?_⟩
    have hs : ds.length < sizeLine := sl_lt (by omega)
    rw [List.map_cons]
    unfold forL
    walk_at "ev"
    rw [d_mul _ _ (big hv.1 (by omega)) (big hr.1 (by omega))]
    walk_at "ev"
    rw [d_mod _ _ (by omega)]
    walk_at "ev"
    rw [if_pos hs]
    walk_at "ev"
    rw [e, rvGo]
    simp
theorem cut_last (xs : List Da) : EV.cutD xs none (some (-1)) = xs.dropLast := by
  unfold EV.cutD
  rw [show HT.sIx xs.length 0 none = 0 from rfl, show HT.sIx xs.length xs.length (some (-1 : Int)) = xs.length - 1 by
    show (if (-1 : Int) < 0 then ((-1 : Int) + (xs.length : Int)).toNat else min (-1 : Int).toNat xs.length) = _
    rw [if_pos (by decide)]
    omega]
  rw [List.dropLast_eq_take]
  rfl
theorem rev_of {g : Gh} {i : Nat} {d : Da} {xs : List Da} (h : g[i]? = some (.val d)) (hd : itemsD d = some xs) : mRevI (mName i) g = some (xs.reverse, g) := by
  unfold mRevI mName
  simp only [h, Option.bind_some]
  show (itemsD d).bind _ = _
  rw [hd]
  rfl
theorem root_gen {L : MS} {p r v : Int} {D : Da} {s5 : Sl} {N : List Da} (e : L [.val (.int p), .val D, .val (.int r), .own [], .val (.int 0), .un] = some (.nx, [.val (.int p), .val D, .val (.int r), .own N, .val (.int v), s5])) (hN : N.length ≤ 1000) :
  bodyM [] 3 (sSeq (sSet 3 (mLst mNil)) (sSeq (sSet 4 (mC (.int 0))) (sSeq L (sRet [] (mTupRev (mSl (mName 3) mO0 (mO1 (mNeg (mC (.int 1)))))))))) [.val (.int p), .val D, .val (.int r)] = some (.dat (.tuple N.dropLast.reverse), [.val (.int p), .val D, .val (.int r)]) := by
  have c := cut_last N
  walk_at "ev"
  rw [if_pos (show 0 ≤ sizeLine by decide)]
  walk_at "ev"
  rw [e]
  walk_at "ev"
  rw [c]
  walk_at "ev"
theorem t_without_root {p r : Int} (hp : 5 ≤ p) (hp2 : p ≤ 997) (hr : 0 ≤ r ∧ r < p) {W : List Int} (hW : InF p W) (hl : W.length ≤ 900) : F_without_root [.val (.int p), .val (.tuple (W.map PyData.int)), .val (.int r)] = some (.dat (.tuple ((rv p r W.tail).map PyData.int)), [.val (.int p), .val (.tuple (W.map PyData.int)), .val (.int r)]) := by
  obtain ⟨v, s5, e⟩ := root_loop hp hp2 hr (S1 := .val (.tuple (W.map PyData.int))) W.reverse [] 0 .un (fun x hx => hW x (List.mem_reverse.mp hx)) ⟨Int.le_refl 0, by omega⟩ (by simp; omega)
  have hN : ((rvGo p r 0 W.reverse).map PyData.int).dropLast.reverse = (rv p r W.tail).map PyData.int := by
    rw [← List.map_dropLast, ← List.map_reverse]
    congr 1
    cases W with
    | nil => rfl
    | cons x xs =>
      rw [List.reverse_cons, rvGo_app, List.dropLast_concat, (rvGo_rev p r xs).1, List.tail_cons]
  have hlen : ((rvGo p r 0 W.reverse).map PyData.int).length ≤ 1000 := by
    have : ∀ (xs : List Int) (v : Int), (rvGo p r v xs).length = xs.length := by
      intro xs
      induction xs with
      | nil => intro v; rfl
      | cons x xs ih => intro v; rw [rvGo, List.length_cons, ih, List.length_cons]
    rw [List.length_map, this, List.length_reverse]
    omega
  rw [← hN]
  unfold F_without_root m_without_root
  refine root_gen (v := v) (s5 := s5) ?_ hlen
  rw [e_for, rev_of (xs := W.map PyData.int) rfl rfl, Option.bind_some, ← List.map_reverse]
  rw [List.nil_append] at e
  exact e
end Lib
end
section
set_option exponentiation.threshold 3000
namespace Lib
open PySem PySem.Spec PyProof.Rows L2 EV
/-! ### sums with a list -/
/-! ### parts, units, polys through points -/
theorem comp_of {α : Type} {vs : List Nat} {tg : Wv → Gh → Option Gh} {el : ME} {it : MI} {e F : α → Da} {g : Gh} {xs : List α} (hi : it g = some (xs.map e, g)) (hl : xs.length ≤ 1000000) (hw : wipeG g vs = g) (hr : restore vs g g = g) (h : ∀ x ∈ xs, ∃ g1 w g2 g3, tg (.dat (e x)) g = some g1 ∧ el g1 = some (w, g2) ∧ toD w g2 = some (F x, g3) ∧ wipeG g3 vs = g) : mComp vs it tg mYes el g = some (.fresh (xs.map F), g) := by
  rw [e_comp, hi, Option.bind_some, if_pos (by rw [List.length_map]; exact sl_lt hl), hw, compL_of h, Option.bind_some, hr]
def tupI (xs : List Int) : Da := .tuple (xs.map PyData.int)
theorem parts_gen {A : MF} {C : ME} {p : Int} {D : Da} {W : List Da} {h : Gh} {R : List Da} (e : A [.val (.int p), .val D] = some (.dat (.tuple W), h)) (eC : C [.val (.int p), .val D, .val (.tuple W), .un] = some (.fresh R, [.val (.int p), .val D, .val (.tuple W), .un])) :
  bodyM [] 2 (sSeq (sSet 2 (mFn A (mCons (mName 0) (mCons (mName 1) mNil)))) (sRet [] C)) [.val (.int p), .val D] = some (.fresh R, [.val (.int p), .val D]) := by
  walk_at "ev"
  rw [e]
  walk_at "ev"
  rw [eC]
  walk_at "ev"
theorem wr_el {A : MF} {p r : Int} {D : Da} {W R : List Da} {h : Gh} (e : A [.val (.int p), .val (.tuple W), .val (.int r)] = some (.dat (.tuple R), h)) : (mFn A (mCons (mName 0) (mCons (mName 2) (mCons (mName 3) mNil)))) [.val (.int p), .val D, .val (.tuple W), .val (.int r)] = some (.dat (.tuple R), [.val (.int p), .val D, .val (.tuple W), .val (.int r)]) := by
  walk_at "ev"
  rw [e]
  walk_at "ev"
theorem t_parts_of {p : Int} (hp : 5 ≤ p) (hp2 : p ≤ 997) (b : Bool) {bs : List Int} (hb : InF p bs) (hl : bs.length ≤ 300) : F_parts_of [.val (.int p), .val (sqD b (bs.map PyData.int))] = some (.fresh (bs.map fun r => tupI (part p bs r)), [.val (.int p), .val (sqD b (bs.map PyData.int))]) := by
  obtain ⟨i1, i2, i3, i4⟩ := vl_is (show 1 < p by omega) bs
  unfold F_parts_of m_parts_of
  refine parts_gen (t_vanishing hp hp2 b hl) ?_
  refine comp_of (e := PyData.int) (F := fun r => tupI (part p bs r)) (it_of rfl (it_sq b _)) (by omega) rfl rfl fun r hr => ?_
  refine ⟨[.val (.int p), .val (sqD b (bs.map PyData.int)), .val (.tuple ((vl p bs).map PyData.int)), .val (.int r)], .dat (tupI (part p bs r)), [.val (.int p), .val (sqD b (bs.map PyData.int)), .val (.tuple ((vl p bs).map PyData.int)), .val (.int r)], [.val (.int p), .val (sqD b (bs.map PyData.int)), .val (.tuple ((vl p bs).map PyData.int)), .val (.int r)], rfl, ?_, rfl, rfl⟩
  exact wr_el (t_without_root hp hp2 (hb r hr) i1 (by omega))
theorem zip_maps {α : Type} (f g : α → Da) : ∀ xs : List α, zipD (xs.map f) (xs.map g) = xs.map fun x => .tuple [f x, g x]
  | [] => rfl
  | x :: xs => by
    have := zip_maps f g xs
    unfold zipD at this ⊢
    rw [List.map_cons, List.map_cons, List.zipWith_cons_cons, this, List.map_cons]
theorem zipA_of {g : Gh} {i j : Nat} {d e : Da} {xs ys : List Da} (h1 : g[i]? = some (.val d)) (h2 : g[j]? = some (.val e)) (i1 : itemsD d = some xs) (i2 : itemsD e = some ys) : mZipA (mCons (mName i) (mCons (mName j) mNil)) g = some (zipD xs ys, g) := by
  unfold mZipA
  have : mCons (mName i) (mCons (mName j) mNil) g = some ([.dat d, .dat e], g) := by
    rw [e_acons, e_name, h1]
    show (mCons (mName j) mNil g).bind _ = _
    rw [e_acons, e_name, h2]
    rfl
  rw [this, Option.bind_some]
  show ((itemsD d).bind fun ds => (itemsD e).bind fun es => some (zipD ds es, g)) = _
  rw [i1, i2]
  rfl
theorem un_el {A B : MF} {p r v u : Int} {D1 D2 : Da} {Q : List Da} {h h' : Gh} (e : A [.val (.int p), .val (.tuple Q), .val (.int r)] = some (.dat (.int v), h)) (e2 : B [.val (.int p), .val (.int v)] = some (.dat (.int u), h')) : (mFn B (mCons (mName 0) (mCons (mFn A (mCons (mName 0) (mCons (mName 4) (mCons (mName 3) mNil)))) mNil))) [.val (.int p), .val D1, .val D2, .val (.int r), .val (.tuple Q)] = some (.dat (.int u), [.val (.int p), .val D1, .val D2, .val (.int r), .val (.tuple Q)]) := by
  walk_at "ev"
  rw [e]
  walk_at "ev"
  rw [e2]
  walk_at "ev"
theorem ret_gen {C : ME} {p : Int} {D1 D2 : Da} {R : List Da} (eC : C [.val (.int p), .val D1, .val D2, .un, .un] = some (.fresh R, [.val (.int p), .val D1, .val D2, .un, .un])) : bodyM [] 2 (sRet [] C) [.val (.int p), .val D1, .val D2] = some (.fresh R, [.val (.int p), .val D1, .val D2]) := by
  walk_at "ev"
  rw [eC]
  walk_at "ev"
theorem t_units_of {p : Int} (hp : 5 ≤ p) (hp2 : p ≤ 997) (b : Bool) {bs : List Int} (hb : InF p bs) (hl : bs.length ≤ 300) : F_units_of [.val (.int p), .val (sqD b (bs.map PyData.int)), .val (.list (bs.map fun r => tupI (part p bs r)))] = some (.fresh ((bs.map (unitOf p bs)).map PyData.int), [.val (.int p), .val (sqD b (bs.map PyData.int)), .val (.list (bs.map fun r => tupI (part p bs r)))]) := by
  unfold F_units_of m_units_of
  refine ret_gen ?_
  rw [show (bs.map (unitOf p bs)).map PyData.int = bs.map fun r => .int (unitOf p bs r) by rw [List.map_map]; rfl]
  refine comp_of (e := fun r => .tuple [.int r, tupI (part p bs r)]) (F := fun r => .int (unitOf p bs r)) (by rw [zipA_of rfl rfl (it_sq b _) rfl, zip_maps]) (by omega) rfl rfl fun r hr => ?_
  obtain ⟨i1, i2, i3, i4⟩ := part_is (show 1 < p by omega) hr
  refine ⟨[.val (.int p), .val (sqD b (bs.map PyData.int)), .val (.list (bs.map fun r => tupI (part p bs r))), .val (.int r), .val (tupI (part p bs r))], .dat (.int (unitOf p bs r)), [.val (.int p), .val (sqD b (bs.map PyData.int)), .val (.list (bs.map fun r => tupI (part p bs r))), .val (.int r), .val (tupI (part p bs r))], [.val (.int p), .val (sqD b (bs.map PyData.int)), .val (.list (bs.map fun r => tupI (part p bs r))), .val (.int r), .val (tupI (part p bs r))], rfl, ?_, rfl, rfl⟩
  exact un_el (t_evaluated hp hp2 (hb r hr).1 (hb r hr).2 i1) (t_inverse hp hp2 (Int.emod_nonneg _ (by omega)) (Int.emod_lt_of_pos _ (by omega)))
end Lib
end
section
set_option exponentiation.threshold 3000
namespace Lib
open PySem PySem.Spec PyProof.Rows L2 EV
/-! ### the poly through points -/
theorem mem_zw {α β γ : Type} {f : α → β → γ} : ∀ {xs : List α} {ys : List β} {z : γ}, z ∈ List.zipWith f xs ys → ∃ x ∈ xs, ∃ y ∈ ys, z = f x y
  | [], ys, z, h => by simp at h
  | x :: xs, [], z, h => by simp at h
  | x :: xs, y :: ys, z, h => by
    rw [List.zipWith_cons_cons] at h
    rcases List.mem_cons.mp h with rfl | h
    · exact ⟨x, List.mem_cons_self, y, List.mem_cons_self, rfl⟩
    · obtain ⟨a, ha, b, hb, e⟩ := mem_zw h
      exact ⟨a, List.mem_cons_of_mem _ ha, b, List.mem_cons_of_mem _ hb, e⟩
end Lib
end
section
set_option exponentiation.threshold 3000
namespace Lib
open PySem PySem.Spec PyProof.Rows L2 EV
/-! ### weights and checks -/
theorem comp_of2 {α : Type} {vs : List Nat} {tg : Wv → Gh → Option Gh} {el : ME} {it : MI} {e F : α → Da} {g g' : Gh} {xs : List α} (hi : it g = some (xs.map e, g')) (hl : xs.length ≤ 1000000) (hw : wipeG g' vs = g') (hr : restore vs g' g' = g') (h : ∀ x ∈ xs, ∃ g1 w g2 g3, tg (.dat (e x)) g' = some g1 ∧ el g1 = some (w, g2) ∧ toD w g2 = some (F x, g3) ∧ wipeG g3 vs = g') : mComp vs it tg mYes el g = some (.fresh (xs.map F), g') := by
  rw [e_comp, hi, Option.bind_some, if_pos (by rw [List.length_map]; exact sl_lt hl), hw, compL_of h, Option.bind_some, hr]
/-! checks -/
def nextRow (p : Int) (row bs : List Int) : List Int := List.zipWith (fun x b => x * b % p) row bs
def ckGo (p : Int) (bs : List Int) : Nat → List Int → List (List Int)
  | 0, _ => []
  | n + 1, row => row :: ckGo p bs n (nextRow p row bs)
theorem next_in {p : Int} (hp : 0 < p) (row bs : List Int) : InF p (nextRow p row bs) := fun x hx => by
  obtain ⟨a, _, b, _, rfl⟩ := mem_zw hx
  exact ⟨Int.emod_nonneg _ (by omega), Int.emod_lt_of_pos _ hp⟩
theorem zip_4o {a b c d e f : Sl} {D : Da} {X Y : List Da} (hD : itemsD D = some Y) : mZipA (mCons (mName 4) (mCons (mName 1) mNil)) [a, .val D, b, c, .own X, d, e, f] = some (zipD X Y, [a, .val D, b, c, .val (.list X), d, e, f]) := by
  walk_at "ev"
  rw [hD]
  walk_at "ev"
theorem zip_ints {p : Int} : ∀ row bs : List Int, zipD (row.map PyData.int) (bs.map PyData.int) = (List.zipWith (fun x b => (x, b)) row bs).map fun t => .tuple [.int t.1, .int t.2]
  | [], bs => by simp [zipD]
  | x :: row, [] => by simp [zipD]
  | x :: row, b :: bs => by
    have := zip_ints (p := p) row bs
    unfold zipD at this ⊢
    simp only [List.map_cons, List.zipWith_cons_cons, this]
theorem nr_el {p x b : Int} {a1 a2 a3 a4 a5 : Sl} (hp : 0 < p) (hx : x.natAbs < 2 ^ 400) (hb : b.natAbs < 2 ^ 400) : (mBin dMod (mBin dMul (mName 6) (mName 7)) (mName 0)) [.val (.int p), a1, a2, a3, a4, a5, .val (.int x), .val (.int b)] = some (.dat (.int (x * b % p)), [.val (.int p), a1, a2, a3, a4, a5, .val (.int x), .val (.int b)]) := by
  walk_at "ev"
  rw [d_mul _ _ hx hb]
  walk_at "ev"
  rw [d_mod _ _ hp]
  walk_at "ev"
theorem next_comp {p : Int} (hp : 5 ≤ p) (hp2 : p ≤ 997) (b : Bool) {row bs : List Int} (hr : InF p row) (hb : InF p bs) (hl : bs.length ≤ 300) {S2 S3 S5 : Sl} : mComp [6, 7] (mZipA (mCons (mName 4) (mCons (mName 1) mNil))) (setT [6, 7]) mYes (mBin dMod (mBin dMul (mName 6) (mName 7)) (mName 0)) [.val (.int p), .val (sqD b (bs.map PyData.int)), S2, S3, .own (row.map PyData.int), S5, .un, .un] = some (.fresh ((nextRow p row bs).map PyData.int), [.val (.int p), .val (sqD b (bs.map PyData.int)), S2, S3, .val (.list (row.map PyData.int)), S5, .un, .un]) := by
  rw [show (nextRow p row bs).map PyData.int = (List.zipWith (fun x b => (x, b)) row bs).map fun t : Int × Int => .int (t.1 * t.2 % p) by
    unfold nextRow
    rw [List.map_zipWith, List.map_zipWith]]
  refine comp_of2 (e := fun t : Int × Int => .tuple [.int t.1, .int t.2]) (F := fun t : Int × Int => .int (t.1 * t.2 % p)) (by rw [zip_4o (it_sq b _), zip_ints (p := p)]) (by rw [List.length_zipWith]; omega) rfl rfl fun t ht => ?_
  obtain ⟨x, hx, c, hc, rfl⟩ := mem_zw ht
  have x1 := hr x hx
  have c1 := hb c hc
  exact ⟨[.val (.int p), .val (sqD b (bs.map PyData.int)), S2, S3, .val (.list (row.map PyData.int)), S5, .val (.int x), .val (.int c)], _, [.val (.int p), .val (sqD b (bs.map PyData.int)), S2, S3, .val (.list (row.map PyData.int)), S5, .val (.int x), .val (.int c)], [.val (.int p), .val (sqD b (bs.map PyData.int)), S2, S3, .val (.list (row.map PyData.int)), S5, .val (.int x), .val (.int c)], rfl, nr_el (by omega) (big x1.1 (by omega)) (big c1.1 (by omega)), rfl, rfl⟩
theorem ck_step {C : ME} {a b c s5 s5' : Sl} {X Y R : List Da} {d : Da} (hl : R.length < sizeLine) (e : C [a, b, c, .own (R ++ [.tuple X]), .own X, .val d, .un, .un] = some (.fresh Y, [a, b, c, .own (R ++ [.tuple X]), .val (.list X), .val d, .un, .un])) : (sSeq (sApp 3 (mCall dTuple (mCons (mName 4) mNil))) (sSet 4 C)) [a, b, c, .own R, .own X, .val d, .un, .un] = some (.nx, [a, b, c, .own (R ++ [.tuple X]), .own Y, .val d, .un, .un]) := by
  walk_at "ev"
  rw [if_pos hl]
  walk_at "ev"
  rw [e]
  walk_at "ev"
theorem ck_loop {p : Int} (hp : 5 ≤ p) (hp2 : p ≤ 997) (b : Bool) {bs : List Int} (hb : InF p bs) (hl : bs.length ≤ 300) {S2 : Sl} : ∀ (ds : List Da) (row : List Int) (R : List Da) (s5 : Sl), InF p row → R.length + ds.length ≤ 1000 → ∃ row' s5', forL (setN 5) (sSeq (sApp 3 (mCall dTuple (mCons (mName 4) mNil))) (sSet 4 (mComp [6, 7] (mZipA (mCons (mName 4) (mCons (mName 1) mNil))) (setT [6, 7]) mYes (mBin dMod (mBin dMul (mName 6) (mName 7)) (mName 0))))) ds [.val (.int p), .val (sqD b (bs.map PyData.int)), S2, .own R, .own (row.map PyData.int), s5, .un, .un] = some (.nx, [.val (.int p), .val (sqD b (bs.map PyData.int)), S2, .own (R ++ (ckGo p bs ds.length row).map tupI), .own row', s5', .un, .un])
  | [], row, R, s5, _, _ => ⟨row.map PyData.int, s5, by simp [ckGo, forL]⟩
  | d :: ds, row, R, s5, hr, h => by
    rw [List.length_cons] at h
    obtain ⟨row', s5', e⟩ := ck_loop hp hp2 b hb hl (S2 := S2) ds (nextRow p row bs) (R ++ [.tuple (row.map PyData.int)]) (.val d) (next_in (by omega) row bs) (by rw [List.length_append, List.length_singleton]; omega)
    refine ⟨row', s5', ?_⟩
    have st := ck_step (s5 := s5) (s5' := s5) (d := d) (R := R) (sl_lt (by omega)) (next_comp hp hp2 b hr hb hl (S2 := S2) (S3 := .own (R ++ [.tuple (row.map PyData.int)])) (S5 := .val d))
    unfold forL
    show ((sSeq (sApp 3 (mCall dTuple (mCons (mName 4) mNil))) (sSet 4 (mComp [6, 7] (mZipA (mCons (mName 4) (mCons (mName 1) mNil))) (setT [6, 7]) mYes (mBin dMod (mBin dMul (mName 6) (mName 7)) (mName 0))))) [.val (.int p), .val (sqD b (bs.map PyData.int)), S2, .own R, .own (row.map PyData.int), .val d, .un, .un]).bind _ = _
    rw [st, Option.bind_some]
    show forL _ _ ds _ = _
    rw [e, List.length_cons, ckGo, List.map_cons, List.append_assoc]
    rfl
theorem ckr_gen {P U : MF} {L : MS} {p : Int} {D G : Da} {PS US R X : List Da} {h h' : Gh} {s5 : Sl} (eP : P [.val (.int p), .val D] = some (.fresh PS, h)) (eU : U [.val (.int p), .val D, .val (.list PS)] = some (.fresh US, h'))
  (eL : L [.val (.int p), .val D, .val G, .own [], .own US, .un, .un, .un] = some (.nx, [.val (.int p), .val D, .val G, .own R, .own X, s5, .un, .un])) :
  bodyM [] 5 (sSeq (sSet 3 (mLst mNil))
    (sSeq (sSet 4 (mFn U (mCons (mName 0) (mCons (mName 1) (mCons (mFn P (mCons (mName 0) (mCons (mName 1) mNil))) mNil)))))
    (sSeq L (sRet [] (mCall dTuple (mCons (mName 3) mNil)))))) [.val (.int p), .val D, .val G] = some (.dat (.tuple R), [.val (.int p), .val D, .val G]) := by
  walk_at "ev"
  rw [if_pos (show 0 ≤ sizeLine by decide)]
  walk_at "ev"
  rw [eP]
  walk_at "ev"
  rw [eU]
  walk_at "ev"
  rw [eL]
  walk_at "ev"
/-- the checks of the program -/
def ckRows (p : Int) (bs : List Int) (n : Nat) : List (List Int) := ckGo p bs n (bs.map (unitOf p bs))
theorem len_of {b : Bool} {X : List Da} {a c s3 s4 s5 s6 s7 : Sl} : mCall dLen (mCons (mName 1) mNil) [a, .val (sqD b X), c, s3, s4, s5, s6, s7] = some (.dat (.int ((X.length : Nat) : Int)), [a, .val (sqD b X), c, s3, s4, s5, s6, s7]) := by
  cases b <;> rfl
theorem cnt_of {f : ME} {n d : Int} {a D s3 s4 s5 s6 s7 : Sl} (h : f [a, D, .val (.int d), s3, s4, s5, s6, s7] = some (.dat (.int n), [a, D, .val (.int d), s3, s4, s5, s6, s7])) : mCons (mBin dSub (mBin dSub f (mName 2)) (mC (.int 1))) mNil [a, D, .val (.int d), s3, s4, s5, s6, s7] = some ([.dat (.int (n - d - 1))], [a, D, .val (.int d), s3, s4, s5, s6, s7]) := by
  walk_at "ev"
  rw [h]
  walk_at "ev"
theorem t_check_rows {p d : Int} (hp : 5 ≤ p) (hp2 : p ≤ 997) (b : Bool) {bs : List Int} (hb : InF p bs) (hl : bs.length ≤ 300) (d0 : -100 ≤ d) (d1 : d ≤ 1000) : F_check_rows [.val (.int p), .val (sqD b (bs.map PyData.int)), .val (.int d)] = some (.dat (.tuple ((ckRows p bs ((bs.length : Int) - d - 1).toNat).map tupI)), [.val (.int p), .val (sqD b (bs.map PyData.int)), .val (.int d)]) := by
  have hu : InF p (bs.map (unitOf p bs)) := fun x hx => by
    obtain ⟨r, _, rfl⟩ := List.mem_map.mp hx
    exact ⟨Int.emod_nonneg _ (by omega), Int.emod_lt_of_pos _ (by omega)⟩
  obtain ⟨row', s5', e⟩ := ck_loop hp hp2 b hb hl (S2 := .val (.int d)) (rgD 0 ((bs.length : Int) - d - 1)) (bs.map (unitOf p bs)) [] .un hu (by rw [rgD_len, List.length_nil]; omega)
  rw [List.nil_append, rgD_len, show ((bs.length : Int) - d - 1 - 0).toNat = ((bs.length : Int) - d - 1).toNat by rw [Int.sub_zero]] at e
  unfold F_check_rows m_check_rows
  refine ckr_gen (s5 := s5') (X := row') (t_parts_of hp hp2 b hb hl) (t_units_of hp hp2 b hb hl) ?_
  have c := cnt_of (d := d) (len_of (b := b) (X := bs.map PyData.int) (a := .val (.int p)) (c := .val (.int d)) (s3 := .own []) (s4 := .own ((bs.map (unitOf p bs)).map PyData.int)) (s5 := .un) (s6 := .un) (s7 := .un))
  rw [List.length_map] at c
  rw [e_for, rg1_of c rfl (okRg' (by omega) (by omega)), Option.bind_some]
  exact e
end Lib
end
section
set_option exponentiation.threshold 3000
namespace Lib
open PySem PySem.Spec PyProof.Rows L2 EV
/-! ### the law's own steps for checks -/
/-! sums of products -/
/-! the products of differences -/
end Lib
end
section
set_option exponentiation.threshold 3000
namespace Lib
open PySem PySem.Spec PyProof.Rows L2 EV
/-! ### the law's checks -/
theorem comp_of3 {α : Type} {vs : List Nat} {tg : Wv → Gh → Option Gh} {el : ME} {it : MI} {e F : α → Da} {g g' gw : Gh} {xs : List α} (hi : it g = some (xs.map e, g')) (hl : xs.length ≤ 1000000) (hw : wipeG g' vs = gw) (hr : restore vs g' gw = g') (h : ∀ x ∈ xs, ∃ g1 w g2 g3, tg (.dat (e x)) gw = some g1 ∧ el g1 = some (w, g2) ∧ toD w g2 = some (F x, g3) ∧ wipeG g3 vs = gw) : mComp vs it tg mYes el g = some (.fresh (xs.map F), g') := by
  rw [e_comp, hi, Option.bind_some, if_pos (by rw [List.length_map]; exact sl_lt hl), hw, compL_of h, Option.bind_some, hr]
end Lib
end
section
set_option exponentiation.threshold 3000
namespace Lib
open PySem PySem.Spec PyProof.Rows L2 EV
/-! ### checks, points -/
theorem t_checks {p d : Int} (hf : isFld p = true) {bs : List Int} (hb : InF p bs) (nd : bs.Nodup) (ne : bs ≠ []) (hl : bs.length ≤ 60) (d0 : -1 ≤ d) (d1 : d ≤ 60) : F_checks [.val (.int p), .val (.tuple (bs.map PyData.int)), .val (.int d)] = some (.dat (.tuple ((ckRows p bs ((bs.length : Int) - d - 1).toNat).map tupI)), [.val (.int p), .val (.tuple (bs.map PyData.int)), .val (.int d)]) := by
  have hp := fld_pos hf
  have e := t_check_rows hp.1 hp.2 true hb (show bs.length ≤ 300 by omega) (show -100 ≤ d by omega) (show d ≤ 1000 by omega)
  have ec := t_check_places hp.1 hb hl nd ne
  generalize ckRows p bs ((bs.length : Int) - d - 1).toNat = R at e ⊢
  generalize hD : bs.map PyData.int = D at e ec ⊢
  have e' : F_check_rows [.val (.int p), .val (.tuple D), .val (.int d)] = some (.dat (.tuple (R.map tupI)), [.val (.int p), .val (.tuple D), .val (.int d)]) := e
  unfold F_checks m_checks
  walk_at "ev"
  rw [t_check_field hf]
  walk_at "ev"
  rw [ec]
  walk_at "ev"
  rw [t_check_integer d0 d1]
  walk_at "ev"
  rw [e']
  walk_at "ev"
/-! ### powers -/
end Lib
end
section
set_option exponentiation.threshold 3000
namespace Lib
open PySem PySem.Spec PyProof.Rows L2 EV
/-! ### what the law of polys through points asks -/
end Lib
end
section
set_option exponentiation.threshold 3000
namespace Lib
open PySem PySem.Spec PyProof.Rows L2 EV
end Lib
end
section
set_option exponentiation.threshold 3000
namespace Lib
open PySem PySem.Spec PyProof.Rows L2 EV
/-! ### hiding polys -/
theorem ev_at0 : ∀ xs : List Int, evZ 0 xs = cf xs 0
  | [] => rfl
  | x :: xs => by rw [cf_zero]; show evZ 0 xs * 0 + x = x; omega
def hun (p : Int) (bs : List Int) : Int := cf (vl p bs) 0 ^ (p - 2).toNat % p
def hid (p : Int) (bs : List Int) : List Int := (vl p bs).map fun x => hun p bs * x % p
section
variable {p : Int} {bs : List Int}
theorem vl0_rng (hf : isFld p = true) (hb : InF p bs) (h0 : (0 : Int) ∉ bs) : 0 < cf (vl p bs) 0 ∧ cf (vl p bs) 0 < p := by
  have hp := fld_pos hf
  have v := vl_is (p := p) (by omega) bs
  have r := cf_in (by omega) v.1 0
  refine ⟨?_, r.2⟩
  rcases Int.lt_or_eq_of_le r.1 with h | h
  · exact h
  · refine absurd ?_ h0
    refine prd_zero (no_zero hf) (by omega) ⟨Int.le_refl 0, by omega⟩ bs hb ?_
    have e := v.2.2.2 0
    rw [ev_at0, ← h] at e
    exact cg_sym e
theorem hun_one (hf : isFld p = true) (hb : InF p bs) (h0 : (0 : Int) ∉ bs) : hun p bs * cf (vl p bs) 0 % p = 1 ∧ 0 < hun p bs ∧ hun p bs < p := by
  have r := vl0_rng hf hb h0
  have q := inv_range hf r.1 r.2
  exact ⟨inv_mul hf r.1 r.2, q.1, q.2⟩
/-! ### hidden polys -/
end
/-! ### the program's -/
theorem t_check_hidden {p : Int} {bs : List Int} (hp : 5 ≤ p) (hb : InF p bs) (hl : bs.length ≤ 60) (nd : bs.Nodup) (h0 : (0 : Int) ∉ bs) : F_check_hidden_places [.val (.int p), .val (.tuple (bs.map PyData.int))] = some (.dat .none, [.val (.int p), .val (.tuple (bs.map PyData.int))]) := by
  unfold F_check_hidden_places m_check_hidden_places
  walk_at "ev"
  rw [t_are_unlike hp hb hl nd]
  walk_at "ev"
  rw [d_inT]
  walk_at "ev"
  rw [decide_eq_false h0]
  walk_at "ev"
theorem hp_gen {A B C : MF} {p c u : Int} {D V R : List Da} {h1 h2 h3 : Gh} (eA : A [.val (.int p), .val (.tuple D)] = some (.dat (.tuple V), h1)) (hc : atI V 0 = some (.int c)) (eB : B [.val (.int p), .val (.int c)] = some (.dat (.int u), h2)) (eC : C [.val (.int p), .val (.tuple V), .val (.int u)] = some (.fresh R, h3)) :
  bodyM [] 1 (sSeq (sSet 2 (mFn A (mCons (mName 0) (mCons (mName 1) mNil))))
    (sRet [] (mCall dTuple (mCons (mFn C (mCons (mName 0) (mCons (mName 2) (mCons (mFn B (mCons (mName 0) (mCons (mIx (mName 2) (mC (.int 0))) mNil))) mNil)))) mNil)))) [.val (.int p), .val (.tuple D)] = some (.dat (.tuple R), [.val (.int p), .val (.tuple D)]) := by
  simp only [e_bodyM, e_seq, e_nil, e_if, e_set, e_ret, e_drop, e_par, e_asg, e_for, e_app, e_setix, e_aug, e_name, e_c, e_anil, e_acons, e_bin, e_cmp, e_brk, e_cnt, e_retn, e_ix, e_call, e_fn, e_fn0, e_fnD, e_ifx, e_oft, e_tru, e_not, e_and, e_or, e_andv, e_orv, e_notv, e_neg, e_isi, e_chain, e_lst, e_tup, e_it, e_rg1, e_rg2, e_zip, e_enum, e_revi, e_rev, e_o0, e_o1, e_sl, e_dict0, e_yes, e_comp, e_pop, e_asB, e_toDd, e_toDf, e_toDs, e_lkd, e_lkf, e_lks, e_lan, e_lac, e_tdn, e_tdc, e_tsn, e_tsd, e_tsf, e_tss, e_snd, e_snf, e_snn, e_snc, e_sod, e_sof, e_st, e_fln, e_keep, e_itl, e_itt, e_rr1, e_rr2, e_tupRg, e_lstRg, e_revR, e_popAt, e_ext, e_tupRev, e_repL, e_lenSet, e_enumA, e_zipA, e_zip3, d_addT, flat1,
  d_add, d_sub, d_lt, d_le, d_gt, d_ge, d_eq, d_ne, d_ixl, d_ixt, d_lenl, d_lent, d_inti, d_intb, d_abs, d_max2, d_min2, d_tupl, d_tupt, d_lsl, d_lst, d_rb, t_b, t_i, t_l, t_t, is_nb, is_bb, k_ii, k_ib, k_bi, k_bb, k_ni, k_si, k_ti, k_li, k_di, k_tt, isNone, isBl,
  Option.bind_some, Option.bind_none, Option.map_some, Option.map_none, List.append_nil, List.cons_append, List.nil_append, List.replicate, List.getElem?_cons_zero, List.getElem?_cons_succ, List.getElem?_nil, List.set_cons_zero, List.set_cons_succ, List.length_cons, List.length_nil, List.mapIdx_cons, List.mapIdx_nil, List.contains_nil, List.contains_cons, Bool.false_eq_true, if_true, if_false, reduceIte, Bool.not_true, Bool.not_false, Option.getD_some, Function.comp, List.map_cons, List.map_nil,
  Nat.reduceLT, Nat.reduceAdd, Nat.reduceBEq, Nat.reduceEqDiff, Nat.reduceLeDiff, Int.reduceLT, Int.reduceLE, decide_true, decide_false, beq_self_eq_true, Bool.or_false, Bool.or_true, Bool.true_or, Bool.false_or, Bool.and_true, Bool.true_and, Bool.and_false, Bool.false_and, and_self, Nat.zero_add, eA, hc, eB, eC]
theorem t_hiding_poly {p : Int} {bs : List Int} (hf : isFld p = true) (hb : InF p bs) (h0 : (0 : Int) ∉ bs) (hl : bs.length ≤ 300) : F_hiding_poly [.val (.int p), .val (.tuple (bs.map PyData.int))] = some (.dat (.tuple ((hid p bs).map PyData.int)), [.val (.int p), .val (.tuple (bs.map PyData.int))]) := by
  have hp := fld_pos hf
  have r := vl0_rng hf hb h0
  have v := vl_is (p := p) (by omega) bs
  have u := (hun_one hf hb h0).2
  refine hp_gen (c := cf (vl p bs) 0) (t_vanishing hp.1 hp.2 true hl) ?_ (t_inverse hp.1 hp.2 (by omega) r.2) (t_scaled hp.1 hp.2 (by have := u.1; unfold hun at this; omega) (by have := u.2; unfold hun at this; omega) v.1 (by rw [v.2.1]; omega))
  have h : vl p bs ≠ [] := fun e => by have := v.2.1; rw [e] at this; simp at this
  cases hv : vl p bs with
  | nil => exact absurd hv h
  | cons x xs =>
    show (ixN ((x :: xs).map PyData.int).length 0).bind _ = _
    have := ix_nat (n := ((x :: xs).map PyData.int).length) (i := 0) (by simp)
    rw [show (0 : Int) = ((0 : Nat) : Int) from rfl, this]; rfl
theorem t_hiding {p : Int} {bs : List Int} (hf : isFld p = true) (hb : InF p bs) (h0 : (0 : Int) ∉ bs) (nd : bs.Nodup) (hl : bs.length ≤ 60) : F_hiding [.val (.int p), .val (.tuple (bs.map PyData.int))] = some (.dat (.tuple ((hid p bs).map PyData.int)), [.val (.int p), .val (.tuple (bs.map PyData.int))]) := by
  have hp := fld_pos hf
  unfold F_hiding m_hiding
  simp only [e_bodyM, e_seq, e_nil, e_if, e_set, e_ret, e_drop, e_par, e_asg, e_for, e_app, e_setix, e_aug, e_name, e_c, e_anil, e_acons, e_bin, e_cmp, e_brk, e_cnt, e_retn, e_ix, e_call, e_fn, e_fn0, e_fnD, e_ifx, e_oft, e_tru, e_not, e_and, e_or, e_andv, e_orv, e_notv, e_neg, e_isi, e_chain, e_lst, e_tup, e_it, e_rg1, e_rg2, e_zip, e_enum, e_revi, e_rev, e_o0, e_o1, e_sl, e_dict0, e_yes, e_comp, e_pop, e_asB, e_toDd, e_toDf, e_toDs, e_lkd, e_lkf, e_lks, e_lan, e_lac, e_tdn, e_tdc, e_tsn, e_tsd, e_tsf, e_tss, e_snd, e_snf, e_snn, e_snc, e_sod, e_sof, e_st, e_fln, e_keep, e_itl, e_itt, e_rr1, e_rr2, e_tupRg, e_lstRg, e_revR, e_popAt, e_ext, e_tupRev, e_repL, e_lenSet, e_enumA, e_zipA, e_zip3, d_addT, flat1,
  d_add, d_sub, d_lt, d_le, d_gt, d_ge, d_eq, d_ne, d_ixl, d_ixt, d_lenl, d_lent, d_inti, d_intb, d_abs, d_max2, d_min2, d_tupl, d_tupt, d_lsl, d_lst, d_rb, t_b, t_i, t_l, t_t, is_nb, is_bb, k_ii, k_ib, k_bi, k_bb, k_ni, k_si, k_ti, k_li, k_di, k_tt, isNone, isBl,
  Option.bind_some, Option.bind_none, Option.map_some, Option.map_none, List.append_nil, List.cons_append, List.nil_append, List.replicate, List.getElem?_cons_zero, List.getElem?_cons_succ, List.getElem?_nil, List.set_cons_zero, List.set_cons_succ, List.length_cons, List.length_nil, List.mapIdx_cons, List.mapIdx_nil, List.contains_nil, List.contains_cons, Bool.false_eq_true, if_true, if_false, reduceIte, Bool.not_true, Bool.not_false, Option.getD_some, Function.comp, List.map_cons, List.map_nil,
  Nat.reduceLT, Nat.reduceAdd, Nat.reduceBEq, Nat.reduceEqDiff, Nat.reduceLeDiff, Int.reduceLT, Int.reduceLE, decide_true, decide_false, beq_self_eq_true, Bool.or_false, Bool.or_true, Bool.true_or, Bool.false_or, Bool.and_true, Bool.true_and, Bool.and_false, Bool.false_and, and_self, Nat.zero_add, t_check_field hf, t_check_hidden hp.1 hb hl nd h0, t_hiding_poly hf hb h0 (show bs.length ≤ 300 by omega)]
end Lib
end
section
set_option exponentiation.threshold 3000
namespace Lib
open PySem PySem.Spec PyProof.Rows L2 EV
/-! ### all polys to a degree, counted -/
def nI (p : Int) : List Int := (List.range p.toNat).map fun k : Nat => (k : Int)
def vecs (p : Int) : Nat → List (List Int)
  | 0 => [[]]
  | n + 1 => (vecs p n).flatMap fun row => (nI p).map fun k => row ++ [k]
def ap (p : Int) (n : Nat) : List (List Int) := (vecs p n).map trimL
end Lib
end
section
set_option autoImplicit false
namespace Lib
open PySem PySem.Spec PyProof.Rows L2 EV
end Lib
end
section
set_option exponentiation.threshold 3000
namespace Lib
open PySem PySem.Spec PyProof.Rows L2 EV
theorem seq_nx {s r : MS} {g g1 : Gh} (h : s g = some (.nx, g1)) : sSeq s r g = r g1 := by rw [e_seq, h]; rfl
theorem z0 : (0 ≤ sizeLine) = True := eq_true (by decide)
theorem z1 : (1 ≤ sizeLine) = True := eq_true (by decide)
theorem z2 : (2 ≤ sizeLine) = True := eq_true (by decide)
theorem z3 : (3 ≤ sizeLine) = True := eq_true (by decide)
/-! ### a number, multiplied by itself -/
/-! ### zeros at the end -/
/-! ### the value of a poly -/
/-! ### multiples -/
end Lib
end
section
set_option exponentiation.threshold 3000
namespace Lib
open PySem PySem.Spec PyProof.Rows L2 EV
/-! ### sums -/
/-! ### products -/
end Lib
end
section
set_option exponentiation.threshold 3000
namespace Lib
open PySem PySem.Spec PyProof.Rows L2 EV
/-! ### one poly for its values -/
/-! ### the poly that is 1 at one place and 0 at the others -/
end Lib
end
section
set_option exponentiation.threshold 3000
namespace Lib
open PySem PySem.Spec PyProof.Rows L2 EV
/-! ### through points -/
end Lib
end
section
set_option exponentiation.threshold 3000
namespace Lib
open PySem PySem.Spec PyProof.Rows L2 EV
/-! ### all rows of coins -/
/-! ### what a lot is told -/
/-! ### how many, by the law -/
end Lib
end
section
set_option exponentiation.threshold 3000
namespace Lib
open PySem PySem.Spec PyProof.Rows L2 EV
/-! ### points out of two rows -/
end Lib
end
section
set_option exponentiation.threshold 3000
namespace Lib
open PySem PySem.Spec PyProof.Rows L2 EV
/-! ### a drawn sequence -/
/-! ### drawn numbers -/
end Lib
end
section
set_option exponentiation.threshold 3000
namespace Lib
open PySem PySem.Spec PyProof.Rows L2 EV
/-! ### lots -/
/-- a lot, and its rows -/
def Lot (p : Int) (bs : List Int) : Prop := (∀ x ∈ bs, 1 ≤ x ∧ x < p) ∧ bs.Pairwise (· < ·) ∧ bs.length ≤ 9
theorem Lot.nd {p : Int} {bs : List Int} (h : Lot p bs) : bs.Nodup := h.2.1.imp fun {a b} h e => by omega
end Lib
end
section
set_option exponentiation.threshold 3000
namespace Lib
open PySem PySem.Spec PyProof.Rows L2 EV
/-! ### dealt -/
/-! ### how many rows of coins -/
/-! ### coins behind -/
end Lib
end
section
set_option exponentiation.threshold 3000
namespace Lib
open PySem PySem.Spec PyProof.Rows L2 EV
/-! ### coins behind: what they are -/
/-! ### rows of coins, counted -/
/-! ### rows in their sequence -/
end Lib
end
section
set_option exponentiation.threshold 3000
namespace Lib
open PySem PySem.Spec PyProof.Rows L2 EV
/-! ### sums over the first numbers -/
/-! ### rows that make 0 -/
end Lib
end
section
set_option exponentiation.threshold 3000
namespace Lib
open PySem PySem.Spec PyProof.Rows L2 EV
/-! ### the program's steps -/
/-! ### what a step keeps -/
end Lib
end
section
set_option exponentiation.threshold 3000
namespace Lib
open PySem PySem.Spec PyProof.Rows L2 EV
end Lib
end
section
set_option exponentiation.threshold 3000
namespace Lib
open PySem PySem.Spec PyProof.Rows L2 EV
end Lib
end
section
set_option exponentiation.threshold 3000
namespace Lib
open PySem PySem.Spec PyProof.Rows L2 EV
end Lib
end
section
set_option autoImplicit false
namespace Lib
open PySem PySem.Spec PyProof.Rows L2 EV
end Lib
end
section
set_option exponentiation.threshold 3000
namespace Lib
open PySem PySem.Spec PyProof.Rows L2 EV
def rowL (r : List Int) : Da := .list (r.map PyData.int)
/-! ### a column, cleared: the steps -/
end Lib
end
section
set_option exponentiation.threshold 3000
namespace Lib
open PySem PySem.Spec PyProof.Rows L2 EV
theorem map_set {rows : List (List Int)} {j : Nat} {r : List Int} : (rows.map rowL).set j (rowL r) = (rows.set j r).map rowL := by
  rw [List.map_set]
end Lib
end
section
set_option exponentiation.threshold 3000
namespace Lib
open PySem PySem.Spec PyProof.Rows L2 EV
/-! ### rows, reduced: the program's loop -/
end Lib
end
section
set_option exponentiation.threshold 3000
namespace Lib
open PySem PySem.Spec PyProof.Rows L2 EV
/-! ### sums of products -/
/-! ### rows and a vector -/
/-! ### columns -/
end Lib
end
section
set_option exponentiation.threshold 3000
namespace Lib
open PySem PySem.Spec PyProof.Rows L2 EV
end Lib
end
section
set_option exponentiation.threshold 3000
namespace Lib
open PySem PySem.Spec PyProof.Rows L2 EV
end Lib
end
section
set_option exponentiation.threshold 3000
namespace Lib
open PySem PySem.Spec PyProof.Rows L2 EV
/-! ### numbers put at places -/
end Lib
end
section
set_option exponentiation.threshold 3000
namespace Lib
open PySem PySem.Spec PyProof.Rows L2 EV
end Lib
end
section
set_option exponentiation.threshold 3000
namespace Lib
open PySem PySem.Spec PyProof.Rows L2 EV
end Lib
end
section
set_option exponentiation.threshold 3000
namespace Lib
open PySem PySem.Spec PyProof.Rows L2 EV
end Lib
end
section
set_option exponentiation.threshold 3000
namespace Lib
open PySem PySem.Spec PyProof.Rows L2 EV
/-! ### a drawn sequence of any data -/
/-! ### drawn columns of heads -/
end Lib
end
section
set_option exponentiation.threshold 3000
namespace Lib
open PySem PySem.Spec PyProof.Rows L2 EV
end Lib
end
section
set_option exponentiation.threshold 3000
namespace Lib
open PySem PySem.Spec PyProof.Rows L2 EV
end Lib
end
section
set_option exponentiation.threshold 3000
namespace Lib
open PySem PySem.Spec PyProof.Rows L2 EV
/-! ### unit rows and more -/
end Lib
end
section
set_option exponentiation.threshold 3000
namespace Lib
open PySem PySem.Spec PyProof.Rows L2 EV
end Lib
end
section
set_option exponentiation.threshold 3000
namespace Lib
open PySem PySem.Spec PyProof.Rows L2 EV
end Lib
end
section
set_option exponentiation.threshold 3000
namespace Lib
open PySem PySem.Spec PyProof.Rows L2 EV
end Lib
end
section
set_option exponentiation.threshold 3000
namespace Lib
open PySem PySem.Spec PyProof.Rows L2 EV
end Lib
end
section
set_option exponentiation.threshold 3000
namespace Lib
open PySem PySem.Spec PyProof.Rows L2 EV
end Lib
end
section
set_option exponentiation.threshold 3000
namespace Lib
open PySem PySem.Spec PyProof.Rows L2 EV
end Lib
end
section
set_option exponentiation.threshold 3000
namespace Lib
open PySem PySem.Spec PyProof.Rows L2 EV
/-! ### other rows with the same kernel -/
end Lib
end
section
set_option exponentiation.threshold 3000
namespace Lib
open PySem PySem.Spec PyProof.Rows L2 EV
/-! ### ranks -/
end Lib
end
section
set_option exponentiation.threshold 3000
namespace Lib
open PySem PySem.Spec PyProof.Rows L2 EV
/-! ### the frame of a law: its spots, and its turns -/
theorem law_frame {N : Da} {L : List Da} (hN : N = .list L) (hl : L.length ≤ 100) {C : Int} (hC : 1 ≤ C) (hC2 : C ≤ 100) {B : MS} {k : Nat} (hB : ∀ (n : Nat) (tl : Gh), n < 100 → tl.length = k → ∃ (s1 : Sl) (tl' : Gh), tl'.length = k ∧ B (.val N :: .val (.int (n : Nat)) :: tl) = some (.nx, .val N :: s1 :: tl')) (s1 : Sl) (tl : Gh) (ht : tl.length = k) :
  ∃ (s1' : Sl) (tl' : Gh), tl'.length = k ∧ (sFor (mRg1 (mCons (mCall dMax (mCons (mC (.int 1)) (mCons (mCall dMin (mCons (mC (.int C)) (mCons (mCall dLen (mCons (mName 0) mNil)) mNil))) mNil))) mNil)) (setN 1) B) (.val N :: s1 :: tl) = some (.nx, .val N :: s1' :: tl') := by
  subst hN
  obtain ⟨M, hM⟩ : ∃ M, M = (if (if (L.length : Int) < C then (L.length : Int) else C) > 1 then (if (L.length : Int) < C then (L.length : Int) else C) else 1) := ⟨_, rfl⟩
  have m0 : 1 ≤ M ∧ M ≤ 100 := by
    rw [hM]
    split <;> split <;> omega
  have it : mRg1 (mCons (mCall dMax (mCons (mC (.int 1)) (mCons (mCall dMin (mCons (mC (.int C)) (mCons (mCall dLen (mCons (mName 0) mNil)) mNil))) mNil))) mNil) (.val (.list L) :: s1 :: tl) = some (rgD 0 M, .val (.list L) :: s1 :: tl) := by
    refine rg1_of (n := M) (ws := [.dat (.int M)]) ?_ rfl (okRg' (by omega) (by omega))
    rw [hM]
    simp only [e_bodyM, e_seq, e_nil, e_if, e_set, e_ret, e_drop, e_par, e_asg, e_for, e_app, e_setix, e_aug, e_name, e_c, e_anil, e_acons, e_bin, e_cmp, e_brk, e_cnt, e_retn, e_ix, e_call, e_fn, e_fn0, e_fnD, e_ifx, e_oft, e_tru, e_not, e_and, e_or, e_andv, e_orv, e_notv, e_neg, e_isi, e_chain, e_lst, e_tup, e_it, e_rg1, e_rg2, e_zip, e_enum, e_revi, e_rev, e_o0, e_o1, e_sl, e_dict0, e_yes, e_comp, e_pop, e_asB, e_toDd, e_toDf, e_toDs, e_lkd, e_lkf, e_lks, e_lan, e_lac, e_tdn, e_tdc, e_tsn, e_tsd, e_tsf, e_tss, e_snd, e_snf, e_snn, e_snc, e_sod, e_sof, e_st, e_fln, e_keep, e_itl, e_itt, e_rr1, e_rr2, e_tupRg, e_lstRg, e_revR, e_popAt, e_ext, e_tupRev, e_repL, e_lenSet, e_enumA, e_zipA, e_zip3, d_addT, flat1,
  d_add, d_sub, d_lt, d_le, d_gt, d_ge, d_eq, d_ne, d_ixl, d_ixt, d_lenl, d_lent, d_inti, d_intb, d_abs, d_max2, d_min2, d_tupl, d_tupt, d_lsl, d_lst, d_rb, t_b, t_i, t_l, t_t, is_nb, is_bb, k_ii, k_ib, k_bi, k_bb, k_ni, k_si, k_ti, k_li, k_di, k_tt, isNone, isBl,
  Option.bind_some, Option.bind_none, Option.map_some, Option.map_none, List.append_nil, List.cons_append, List.nil_append, List.replicate, List.getElem?_cons_zero, List.getElem?_cons_succ, List.getElem?_nil, List.set_cons_zero, List.set_cons_succ, List.length_cons, List.length_nil, List.mapIdx_cons, List.mapIdx_nil, List.contains_nil, List.contains_cons, Bool.false_eq_true, if_true, if_false, reduceIte, Bool.not_true, Bool.not_false, Option.getD_some, Function.comp, List.map_cons, List.map_nil,
  Nat.reduceLT, Nat.reduceAdd, Nat.reduceBEq, Nat.reduceEqDiff, Nat.reduceLeDiff, Int.reduceLT, Int.reduceLE, decide_true, decide_false, beq_self_eq_true, Bool.or_false, Bool.or_true, Bool.true_or, Bool.false_or, Bool.and_true, Bool.true_and, Bool.and_false, Bool.false_and, and_self, Nat.zero_add, ]
  obtain ⟨g', e, s2, tl2, rfl, h2⟩ := forL_inv (tg := setN 1) (body := B) (fun j g => ∃ (s1 : Sl) (tl : Gh), g = .val (.list L) :: s1 :: tl ∧ tl.length = k) (rgD 0 M) 0 (.val (.list L) :: s1 :: tl) ⟨s1, tl, rfl, ht⟩ (by
    rintro j g d ⟨s1, tl, rfl, ht⟩ hd hj
    obtain ⟨i, rfl, i0, i1⟩ := mem_rgD.mp hd
    obtain ⟨n, rfl⟩ : ∃ n : Nat, i = n := ⟨i.toNat, by omega⟩
    obtain ⟨s2, tl2, h2, e2⟩ := hB n tl (by omega) ht
    exact ⟨.val (.list L) :: .val (.int (n : Nat)) :: tl, _, rfl, e2, s2, tl2, rfl, h2⟩)
  exact ⟨s2, tl2, h2, by rw [e_for, it, Option.bind_some]; exact e⟩
end Lib
end
section
set_option autoImplicit false
namespace Lib
open PySem PySem.Spec PyProof.Rows L2 EV
end Lib
end
section
set_option exponentiation.threshold 3000
namespace Lib
open PySem PySem.Spec PyProof.Rows L2 EV
/-! ### rows with their origin: solved or barred -/
end Lib
end
section
set_option exponentiation.threshold 3000
namespace Lib
open PySem PySem.Spec PyProof.Rows L2 EV
/-! ### solution_or_bar -/
/-! ### the whole of it -/
end Lib
end
section
set_option exponentiation.threshold 3000
namespace Lib
open PySem PySem.Spec PyProof.Rows L2 EV
/-! ### papers, for any value -/
theorem flat_str {n : Nat} {w : Str} (h : (PyData.str w).canLay0 = true) : Flat n (.str w) := ⟨rfl, h, by simp only [PyData.depth]; omega⟩
end Lib
end
section
set_option exponentiation.threshold 3000
namespace K06
open PySem PySem.Spec PyProof.Rows L2 EV
open Lib
/-! ### checks, of any value -/
theorem inum (d : Da) (lo hi : Int) : X_check_integer [.val d, .val (.int lo), .val (.int hi)] = if inRg lo hi d = true then none else some (er1 "InvalidNumber" "given" d) := by
  have e : (mNot (mTru (mFn Lib.F_is_integer (mCons (mName 0) (mCons (mName 1) (mCons (mName 2) mNil)))))) [.val d, .val (.int lo), .val (.int hi)] = some (!inRg lo hi d, [.val d, .val (.int lo), .val (.int hi)]) := by
    simp only [e_bodyM, e_seq, e_nil, e_if, e_set, e_ret, e_drop, e_par, e_asg, e_for, e_app, e_setix, e_aug, e_name, e_c, e_anil, e_acons, e_bin, e_cmp, e_brk, e_cnt, e_retn, e_ix, e_call, e_fn, e_fn0, e_fnD, e_ifx, e_oft, e_tru, e_not, e_and, e_or, e_andv, e_orv, e_notv, e_neg, e_isi, e_chain, e_lst, e_tup, e_it, e_rg1, e_rg2, e_zip, e_enum, e_revi, e_rev, e_o0, e_o1, e_sl, e_dict0, e_yes, e_comp, e_pop, e_asB, e_toDd, e_toDf, e_toDs, e_lkd, e_lkf, e_lks, e_lan, e_lac, e_tdn, e_tdc, e_tsn, e_tsd, e_tsf, e_tss, e_snd, e_snf, e_snn, e_snc, e_sod, e_sof, e_st, e_fln, e_keep, e_itl, e_itt, e_rr1, e_rr2, e_tupRg, e_lstRg, e_revR, e_popAt, e_ext, e_tupRev, e_repL, e_lenSet, e_enumA, e_zipA, e_zip3, d_addT, flat1,
  d_add, d_sub, d_lt, d_le, d_gt, d_ge, d_eq, d_ne, d_ixl, d_ixt, d_lenl, d_lent, d_inti, d_intb, d_abs, d_max2, d_min2, d_tupl, d_tupt, d_lsl, d_lst, d_rb, t_b, t_i, t_l, t_t, is_nb, is_bb, k_ii, k_ib, k_bi, k_bb, k_ni, k_si, k_ti, k_li, k_di, k_tt, isNone, isBl,
  Option.bind_some, Option.bind_none, Option.map_some, Option.map_none, List.append_nil, List.cons_append, List.nil_append, List.replicate, List.getElem?_cons_zero, List.getElem?_cons_succ, List.getElem?_nil, List.set_cons_zero, List.set_cons_succ, List.length_cons, List.length_nil, List.mapIdx_cons, List.mapIdx_nil, List.contains_nil, List.contains_cons, Bool.false_eq_true, if_true, if_false, reduceIte, Bool.not_true, Bool.not_false, Option.getD_some, Function.comp, List.map_cons, List.map_nil,
  Nat.reduceLT, Nat.reduceAdd, Nat.reduceBEq, Nat.reduceEqDiff, Nat.reduceLeDiff, Int.reduceLT, Int.reduceLE, decide_true, decide_false, beq_self_eq_true, Bool.or_false, Bool.or_true, Bool.true_or, Bool.false_or, Bool.and_true, Bool.true_and, Bool.and_false, Bool.false_and, and_self, Nat.zero_add, t_is_integerA]
  refine body_x (g := [.val d, .val (.int lo), .val (.int hi)]) ((xif_eq e).trans ?_)
  cases inRg lo hi d <;> rfl
theorem ifld (d : Da) : X_check_field [.val d] = if fldA d = true then none else some (er1 "InvalidNumber" "given" d) := by
  have e : (mNot (mTru (mFn Lib.F_is_field (mCons (mName 0) mNil)))) [.val d] = some (!fldA d, [.val d]) := by
    simp only [e_bodyM, e_seq, e_nil, e_if, e_set, e_ret, e_drop, e_par, e_asg, e_for, e_app, e_setix, e_aug, e_name, e_c, e_anil, e_acons, e_bin, e_cmp, e_brk, e_cnt, e_retn, e_ix, e_call, e_fn, e_fn0, e_fnD, e_ifx, e_oft, e_tru, e_not, e_and, e_or, e_andv, e_orv, e_notv, e_neg, e_isi, e_chain, e_lst, e_tup, e_it, e_rg1, e_rg2, e_zip, e_enum, e_revi, e_rev, e_o0, e_o1, e_sl, e_dict0, e_yes, e_comp, e_pop, e_asB, e_toDd, e_toDf, e_toDs, e_lkd, e_lkf, e_lks, e_lan, e_lac, e_tdn, e_tdc, e_tsn, e_tsd, e_tsf, e_tss, e_snd, e_snf, e_snn, e_snc, e_sod, e_sof, e_st, e_fln, e_keep, e_itl, e_itt, e_rr1, e_rr2, e_tupRg, e_lstRg, e_revR, e_popAt, e_ext, e_tupRev, e_repL, e_lenSet, e_enumA, e_zipA, e_zip3, d_addT, flat1,
  d_add, d_sub, d_lt, d_le, d_gt, d_ge, d_eq, d_ne, d_ixl, d_ixt, d_lenl, d_lent, d_inti, d_intb, d_abs, d_max2, d_min2, d_tupl, d_tupt, d_lsl, d_lst, d_rb, t_b, t_i, t_l, t_t, is_nb, is_bb, k_ii, k_ib, k_bi, k_bb, k_ni, k_si, k_ti, k_li, k_di, k_tt, isNone, isBl,
  Option.bind_some, Option.bind_none, Option.map_some, Option.map_none, List.append_nil, List.cons_append, List.nil_append, List.replicate, List.getElem?_cons_zero, List.getElem?_cons_succ, List.getElem?_nil, List.set_cons_zero, List.set_cons_succ, List.length_cons, List.length_nil, List.mapIdx_cons, List.mapIdx_nil, List.contains_nil, List.contains_cons, Bool.false_eq_true, if_true, if_false, reduceIte, Bool.not_true, Bool.not_false, Option.getD_some, Function.comp, List.map_cons, List.map_nil,
  Nat.reduceLT, Nat.reduceAdd, Nat.reduceBEq, Nat.reduceEqDiff, Nat.reduceLeDiff, Int.reduceLT, Int.reduceLE, decide_true, decide_false, beq_self_eq_true, Bool.or_false, Bool.or_true, Bool.true_or, Bool.false_or, Bool.and_true, Bool.true_and, Bool.and_false, Bool.false_and, and_self, Nat.zero_add, t_is_fieldA]
  refine body_x (g := [.val d]) ((xif_eq e).trans ?_)
  cases fldA d <;> rfl
theorem inb (d : Da) : X_check_number [.val (.int 7), .val d] = if inRg 0 6 d = true then none else some (er1 "InvalidNumber" "given" d) := by
  refine body_x (g := [.val (.int 7), .val d]) (chk_last (ss := [.val d, .val (.int 0), .val (.int 6)]) (g1 := [.val (.int 7), .val d]) ?_ (inum d 0 6))
  rfl
theorem fld_go {p : Int} (h : isFld p = true) : Fine X_check_field Lib.F_check_field [.val (.int p)] := ⟨by
  rw [ifld]
  exact if_pos h, _, _, t_check_field h⟩
theorem fld_no {d : Da} (h : fldA d = false) : X_check_field [.val d] = some (er1 "InvalidNumber" "given" d) := by
  rw [ifld, h]; rfl
theorem num_no {d : Da} (h : inRg 0 6 d = false) : X_check_number [.val (.int 7), .val d] = some (er1 "InvalidNumber" "given" d) := by
  rw [inb, h]; rfl
end K06
end
section
set_option exponentiation.threshold 3000
namespace K06
open PySem PySem.Spec PyProof.Rows L2 EV
open Lib
/-! ### menus -/
def nones : List Da := [.none, .int 3, .int 4, .int 9, .int 1009, .int (-7), .bool true, .str "7", .tuple [.int 7], .int 0, .int (10 ^ 60 + 7), .int 1, .int 2]
def bads : List Da := [.none, .int 3, .tuple [.int 0], .tuple [.int 1, .int 0], .tuple [.int 7], .tuple [.int (-1), .int 1], .tuple [.bool true], .list [.int 1], .str "1", .tuple [.int 1, .none], .tuple (List.replicate 62 (.int 1)), .tuple [.tuple [.int 1]], .dict []]
def numbs : List Da := [.none, .int 7, .int (-1), .bool true, .str "0", .int (10 ^ 60), .tuple [.int 1], .int 997]
def degs : List Da := [.none, .int (-2), .int 61, .bool true, .str "1", .int (10 ^ 60), .tuple [.int 1]]
def places_ : List Da := [.none, .tuple [], .tuple [.int 1, .int 1], .tuple [.int 7], .tuple [.int (-1)], .tuple [.bool true], .list [.int 1, .int 2], .int 3, .str "12", .tuple [.int 1, .int 2, .int 1], .tuple [.tuple [.int 1]], .tuple [.int 0, .int 1, .int 2, .int 3, .int 4, .int 5, .int 6, .int 0]]
def hides_ : List Da := [.none, .tuple [.int 0], .tuple [.int 1, .int 0], .tuple [.int 2, .int 2], .tuple [.int 7], .tuple [.bool true], .list [.int 1], .int 1, .str "1", .tuple [.int 1, .none]]
def points_ : List Da := [.none, .tuple [], .tuple [.tuple [.int 1, .int 2], .tuple [.int 1, .int 3]], .tuple [.tuple [.int 1]], .tuple [.tuple [.int 1, .int 2, .int 3]], .tuple [.tuple [.int 1, .int 7]], .tuple [.tuple [.int 7, .int 1]], .list [.tuple [.int 1, .int 2]], .tuple [.list [.int 1, .int 2]], .tuple [.tuple [.int 1, .bool true]], .int 5, .tuple [.int 1, .int 2]]
/-- what is shown of a value, and stands in a text -/
def okS (d : Da) : Bool := (noDict d && d.showable && decide (d.shown.length ≤ 1000) && decide (d.depth ≤ 40)) && (PyData.str (("number " : Str) ++ d.shown)).canLay0
theorem ok_repr {d : Da} (h : okS d = true) : dReprN [d] = some (.dat (.str d.shown)) := by
  unfold okS at h
  simp only [Bool.and_eq_true, decide_eq_true_eq] at h
  obtain ⟨⟨⟨⟨h1, h2⟩, h3⟩, h4⟩, h5⟩ := h
  unfold dReprN
  exact if_pos (by simp only [h1, h2, h4, decide_true, Bool.and_true, Bool.true_and]; exact decide_eq_true (Nat.le_trans h3 (by decide)))
def numS (d : Da) : Str := ("number " : Str) ++ d.shown
theorem ok_add {d : Da} (h : okS d = true) : dAdd (.str "number ") (.str d.shown) = some (.dat (.str (numS d))) := by
  unfold okS at h
  simp only [Bool.and_eq_true, decide_eq_true_eq] at h
  have h3 := h.1.1.2
  unfold dAdd
  exact if_pos (by
    have e : ("number " : Str).length = 7 := by decide
    rw [e]
    have z : (1007 : Nat) ≤ sizeLine := by decide
    omega)
theorem ok_flat {n : Nat} {d : Da} (h : okS d = true) : Flat n (.str (numS d)) := by
  unfold okS at h
  simp only [Bool.and_eq_true, decide_eq_true_eq] at h
  exact flat_str h.2
theorem nones_fld : ∀ d ∈ nones, fldA d = false := by
  intro d h
  have e : nones.all (fun d => !fldA d) = true := by decide +kernel
  simpa using List.all_eq_true.mp e d h
theorem nones_ok : ∀ d ∈ nones, okS d = true := List.all_eq_true.mp (by decide +kernel)
theorem numbs_ok : ∀ d ∈ numbs, okS d = true := List.all_eq_true.mp (by decide +kernel)
theorem degs_ok : ∀ d ∈ degs, okS d = true := List.all_eq_true.mp (by decide +kernel)
theorem numbs_no : ∀ d ∈ numbs, inRg 0 6 d = false := by
  intro d h
  have e : numbs.all (fun d => !inRg 0 6 d) = true := by decide +kernel
  simpa using List.all_eq_true.mp e d h
theorem degs_no : ∀ d ∈ degs, inRg (-1) 60 d = false := by
  intro d h
  have e : degs.all (fun d => !inRg (-1) 60 d) = true := by decide +kernel
  simpa using List.all_eq_true.mp e d h
theorem bad_poly {d : Da} (h : d ∈ bads) : X_check_poly [.val (.int 7), .val d] = some (er0 "InvalidPoly") := is0_eq (List.all_eq_true.mp (show bads.all (fun d => is0 "InvalidPoly" (X_check_poly [.val (.int 7), .val d])) = true by decide +kernel) d h)
theorem bad_places {d : Da} (h : d ∈ places_) : X_check_places [.val (.int 7), .val d] = some (er0 "InvalidOperation") := is0_eq (List.all_eq_true.mp (show places_.all (fun d => is0 "InvalidOperation" (X_check_places [.val (.int 7), .val d])) = true by decide +kernel) d h)
theorem bad_hides {d : Da} (h : d ∈ hides_) : X_check_hidden_places [.val (.int 7), .val d] = some (er0 "InvalidOperation") := is0_eq (List.all_eq_true.mp (show hides_.all (fun d => is0 "InvalidOperation" (X_check_hidden_places [.val (.int 7), .val d])) = true by decide +kernel) d h)
theorem bad_points {d : Da} (h : d ∈ points_) : X_check_points [.val (.int 7), .val d] = some (er0 "InvalidOperation") := is0_eq (List.all_eq_true.mp (show points_.all (fun d => is0 "InvalidOperation" (X_check_points [.val (.int 7), .val d])) = true by decide +kernel) d h)
/-! ### the word for an error -/
def RF (s : Str) : Da := .tuple [.str "refused", .str s]
theorem r_poly : res__law_met (er0 "InvalidPoly") = some (RF "poly") := by
  unfold res__law_met er0
  exact if_pos rfl
theorem r_op : res__law_met (er0 "InvalidOperation") = some (RF "operation") := by
  unfold res__law_met er0
  exact (if_neg (by decide)).trans (if_pos rfl)
theorem r_num {d : Da} (h : okS d = true) : res__law_met (er1 "InvalidNumber" "given" d) = some (RF (numS d)) := by
  unfold res__law_met er1
  refine (if_neg (show ¬ (("InvalidNumber" : Str) = ("InvalidPoly" : Str)) by decide)).trans ((if_neg (show ¬ (("InvalidNumber" : Str) = ("InvalidOperation" : Str)) by decide)).trans ((if_pos rfl).trans ?_))
  dsimp only
  rw [if_pos rfl]
  unfold sresOf
  have e1 := ok_repr h
  have e2 := ok_add h
  simp only [e_bodyM, e_seq, e_nil, e_if, e_set, e_ret, e_drop, e_par, e_asg, e_for, e_app, e_setix, e_aug, e_name, e_c, e_anil, e_acons, e_bin, e_cmp, e_brk, e_cnt, e_retn, e_ix, e_call, e_fn, e_fn0, e_fnD, e_ifx, e_oft, e_tru, e_not, e_and, e_or, e_andv, e_orv, e_notv, e_neg, e_isi, e_chain, e_lst, e_tup, e_it, e_rg1, e_rg2, e_zip, e_enum, e_revi, e_rev, e_o0, e_o1, e_sl, e_dict0, e_yes, e_comp, e_pop, e_asB, e_toDd, e_toDf, e_toDs, e_lkd, e_lkf, e_lks, e_lan, e_lac, e_tdn, e_tdc, e_tsn, e_tsd, e_tsf, e_tss, e_snd, e_snf, e_snn, e_snc, e_sod, e_sof, e_st, e_fln, e_keep, e_itl, e_itt, e_rr1, e_rr2, e_tupRg, e_lstRg, e_revR, e_popAt, e_ext, e_tupRev, e_repL, e_lenSet, e_enumA, e_zipA, e_zip3, d_addT, flat1,
  d_add, d_sub, d_lt, d_le, d_gt, d_ge, d_eq, d_ne, d_ixl, d_ixt, d_lenl, d_lent, d_inti, d_intb, d_abs, d_max2, d_min2, d_tupl, d_tupt, d_lsl, d_lst, d_rb, t_b, t_i, t_l, t_t, is_nb, is_bb, k_ii, k_ib, k_bi, k_bb, k_ni, k_si, k_ti, k_li, k_di, k_tt, isNone, isBl,
  Option.bind_some, Option.bind_none, Option.map_some, Option.map_none, List.append_nil, List.cons_append, List.nil_append, List.replicate, List.getElem?_cons_zero, List.getElem?_cons_succ, List.getElem?_nil, List.set_cons_zero, List.set_cons_succ, List.length_cons, List.length_nil, List.mapIdx_cons, List.mapIdx_nil, List.contains_nil, List.contains_cons, Bool.false_eq_true, if_true, if_false, reduceIte, Bool.not_true, Bool.not_false, Option.getD_some, Function.comp, List.map_cons, List.map_nil,
  Nat.reduceLT, Nat.reduceAdd, Nat.reduceBEq, Nat.reduceEqDiff, Nat.reduceLeDiff, Int.reduceLT, Int.reduceLE, decide_true, decide_false, beq_self_eq_true, Bool.or_false, Bool.or_true, Bool.true_or, Bool.false_or, Bool.and_true, Bool.true_and, Bool.and_false, Bool.false_and, and_self, Nat.zero_add, e1, e2]
  rfl
theorem m_poly : (er0 "InvalidPoly").1 ∈ errs__law_met := by unfold errs__law_met er0; simp
theorem m_op : (er0 "InvalidOperation").1 ∈ errs__law_met := by unfold errs__law_met er0; simp
theorem m_num {d : Da} : (er1 "InvalidNumber" "given" d).1 ∈ errs__law_met := by unfold errs__law_met er1; simp
end K06
end
section
set_option exponentiation.threshold 3000
namespace K06
open PySem PySem.Spec PyProof.Rows L2 EV
open Lib
theorem fine_by {x : MX} {F : MF} {ss : List Sl} (h1 : (x ss).isNone = true) (h2 : (F ss).isSome = true) : Fine x F ss := ⟨Option.isNone_iff_eq_none.mp h1, by
  obtain ⟨a, e⟩ := Option.isSome_iff_exists.mp h2
  exact ⟨a.1, a.2, e⟩⟩
def is1i (x f : Str) (n : Int) (o : Option Er) : Bool := match o with | some (y, some (g, .int m)) => decide (y = x) && (decide (g = f) && decide (m = n)) | _ => false
theorem is1i_eq {x f : Str} {n : Int} {o : Option Er} (h : is1i x f n o = true) : o = some (er1 x f (.int n)) := by
  unfold is1i at h
  split at h
  · simp only [Bool.and_eq_true, decide_eq_true_eq] at h
    obtain ⟨rfl, rfl, rfl⟩ := h
    rfl
  · cases h
theorem f7 : isFld 7 = true := by decide +kernel
abbrev g12 : Da := .tuple [.int 1, .int 2]
abbrev g1_ : Da := .tuple [.int 1]
abbrev IN (d : Da) : Option Er := some (er1 "InvalidNumber" "given" d)
abbrev IP : Option Er := some (er0 "InvalidPoly")
abbrev IO_ : Option Er := some (er0 "InvalidOperation")
theorem go7 : Fine X_check_field Lib.F_check_field [.val (.int 7)] := fld_go f7
theorem go12 : Fine X_check_poly Lib.F_check_poly [.val (.int 7), .val g12] := fine_by (by decide +kernel) (by decide +kernel)
theorem go1 : Fine X_check_poly Lib.F_check_poly [.val (.int 7), .val g1_] := fine_by (by decide +kernel) (by decide +kernel)
theorem go0 : Fine X_check_poly Lib.F_check_poly [.val (.int 7), .val (.tuple [])] := fine_by (by decide +kernel) (by decide +kernel)
theorem gp12 : Fine X_check_places Lib.F_check_places [.val (.int 7), .val g12] := fine_by (by decide +kernel) (by decide +kernel)
theorem gh23 : Fine X_check_hidden_places Lib.F_check_hidden_places [.val (.int 7), .val (.tuple [.int 2, .int 3])] := fine_by (by decide +kernel) (by decide +kernel)
theorem deg_no {d : Da} (h : inRg (-1) 60 d = false) : X_check_integer [.val d, .val (.int (-1)), .val (.int 60)] = IN d := by
  rw [inum, h]; rfl
section
variable {n b a c : Da}
theorem q1 (h : fldA n = false) : X_poly_sum [.val n, .val a, .val c] = IN n := body_x (g := [.val n, .val a, .val c]) (chk_hit rfl (fld_no h))
theorem q2 (h : b ∈ bads) : X_poly_sum [.val (.int 7), .val b, .val a] = IP := body_x (g := [.val (.int 7), .val b, .val a]) ((chk_go rfl go7).trans (chk_hit rfl (bad_poly h)))
theorem q3 (h : b ∈ bads) : X_poly_sum [.val (.int 7), .val g12, .val b] = IP := body_x (g := [.val (.int 7), .val g12, .val b]) ((chk_go rfl go7).trans ((chk_go rfl go12).trans (chk_hit rfl (bad_poly h))))
theorem q4 (h : b ∈ bads) : X_poly_scaled [.val (.int 7), .val b, .val a] = IP := body_x (g := [.val (.int 7), .val b, .val a]) ((chk_go rfl go7).trans (chk_hit rfl (bad_poly h)))
theorem q5 (h : inRg 0 6 n = false) : X_poly_scaled [.val (.int 7), .val g12, .val n] = IN n := body_x (g := [.val (.int 7), .val g12, .val n]) ((chk_go rfl go7).trans ((chk_go rfl go12).trans (chk_hit rfl (num_no h))))
theorem q6 (h : b ∈ bads) : X_poly_product [.val (.int 7), .val g12, .val b] = IP := body_x (g := [.val (.int 7), .val g12, .val b]) ((chk_go rfl go7).trans ((chk_go rfl go12).trans (chk_hit rfl (bad_poly h))))
theorem q7 (h : b ∈ bads) : X_poly_divided [.val (.int 7), .val b, .val a] = IP := body_x (g := [.val (.int 7), .val b, .val a]) ((chk_go rfl go7).trans (chk_hit rfl (bad_poly h)))
theorem q8 : X_poly_divided [.val (.int 7), .val g12, .val (.tuple [])] = some (er1 "Refused" "reason" (.tuple [.str "zero"])) := body_x (g := [.val (.int 7), .val g12, .val (.tuple [])]) ((chk_go rfl go7).trans ((chk_go rfl go12).trans ((chk_go rfl go0).trans (xs_hit rfl))))
theorem q9 (h : b ∈ bads) : X_value_at [.val (.int 7), .val b, .val a] = IP := body_x (g := [.val (.int 7), .val b, .val a]) ((chk_go rfl go7).trans (chk_hit rfl (bad_poly h)))
theorem q10 (h : inRg 0 6 n = false) : X_value_at [.val (.int 7), .val g12, .val n] = IN n := body_x (g := [.val (.int 7), .val g12, .val n]) ((chk_go rfl go7).trans ((chk_go rfl go12).trans (chk_hit rfl (num_no h))))
theorem q11 (h : fldA n = false) : X_is_poly [.val n, .val a] = IN n := body_x (g := [.val n, .val a]) (chk_hit rfl (fld_no h))
theorem w1 (h : b ∈ bads) : X_values_at [.val (.int 7), .val b, .val a] = IP := body_x (g := [.val (.int 7), .val b, .val a]) ((chk_go rfl go7).trans (chk_hit rfl (bad_poly h)))
theorem w2 (h : a ∈ places_) : X_values_at [.val (.int 7), .val g1_, .val a] = IO_ := body_x (g := [.val (.int 7), .val g1_, .val a]) ((chk_go rfl go7).trans ((chk_go rfl go1).trans (chk_hit rfl (bad_places h))))
theorem w3 (h : fldA n = false) : X_through [.val n, .val a] = IN n := body_x (g := [.val n, .val a]) (chk_hit rfl (fld_no h))
theorem w4 (h : a ∈ points_) : X_through [.val (.int 7), .val a] = IO_ := body_x (g := [.val (.int 7), .val a]) ((chk_go rfl go7).trans (chk_hit rfl (bad_points h)))
theorem w5 (h : a ∈ places_) : X_weights [.val (.int 7), .val a, .val n] = IO_ := body_x (g := [.val (.int 7), .val a, .val n]) ((chk_go rfl go7).trans (chk_hit rfl (bad_places h)))
theorem w6 (h : inRg 0 6 n = false) : X_weights [.val (.int 7), .val g12, .val n] = IN n := body_x (g := [.val (.int 7), .val g12, .val n]) ((chk_go rfl go7).trans ((chk_go rfl gp12).trans (chk_hit rfl (num_no h))))
theorem w7 (h : a ∈ places_) : X_checks [.val (.int 7), .val a, .val n] = IO_ := body_x (g := [.val (.int 7), .val a, .val n]) ((chk_go rfl go7).trans (chk_hit rfl (bad_places h)))
theorem w8 (h : inRg (-1) 60 n = false) : X_checks [.val (.int 7), .val g12, .val n] = IN n := body_x (g := [.val (.int 7), .val g12, .val n]) ((chk_go rfl go7).trans ((chk_go rfl gp12).trans (chk_hit rfl (deg_no h))))
theorem w9 (h : fldA n = false) : X_hiding [.val n, .val a] = IN n := body_x (g := [.val n, .val a]) (chk_hit rfl (fld_no h))
theorem w10 (h : a ∈ hides_) : X_hiding [.val (.int 7), .val a] = IO_ := body_x (g := [.val (.int 7), .val a]) ((chk_go rfl go7).trans (chk_hit rfl (bad_hides h)))
theorem w11 (h : b ∈ bads) : X_hidden [.val (.int 7), .val b, .val a, .val n] = IP := body_x (g := [.val (.int 7), .val b, .val a, .val n]) ((chk_go rfl go7).trans (chk_hit rfl (bad_poly h)))
theorem w12 (h : a ∈ hides_) : X_hidden [.val (.int 7), .val g1_, .val a, .val n] = IO_ := body_x (g := [.val (.int 7), .val g1_, .val a, .val n]) ((chk_go rfl go7).trans ((chk_go rfl go1).trans (chk_hit rfl (bad_hides h))))
theorem w13 (h : inRg 0 6 n = false) : X_hidden [.val (.int 7), .val g1_, .val (.tuple [.int 2, .int 3]), .val n] = IN n := body_x (g := [.val (.int 7), .val g1_, .val (.tuple [.int 2, .int 3]), .val n]) ((chk_go rfl go7).trans ((chk_go rfl go1).trans ((chk_go rfl gh23).trans (chk_hit rfl (num_no h)))))
end
/-! ### the word for the rarer errors -/
theorem m_ref {d : Da} : (er1 "Refused" "reason" d).1 ∈ errs__law_met := by unfold errs__law_met er1; simp
theorem m_many {d : Da} : (er1 "TooMany" "limit" d).1 ∈ errs__law_met := by unfold errs__law_met er1; simp
theorem r_zero : res__law_met (er1 "Refused" "reason" (.tuple [.str "zero"])) = some (RF "('zero',)") := by
  unfold res__law_met er1
  refine (if_neg (show ¬ (("Refused" : Str) = ("InvalidPoly" : Str)) by decide)).trans ((if_neg (show ¬ (("Refused" : Str) = ("InvalidOperation" : Str)) by decide)).trans ((if_neg (show ¬ (("Refused" : Str) = ("InvalidNumber" : Str)) by decide)).trans ((if_pos rfl).trans ?_)))
  dsimp only
  rw [if_pos rfl]
  unfold sresOf
  have e1 := ok_repr (d := .tuple [.str "zero"]) (by decide +kernel)
  have e2 : (PyData.tuple [.str "zero"]).shown = ("('zero',)" : Str) := by decide +kernel
  rw [e2] at e1
  simp only [e_bodyM, e_seq, e_nil, e_if, e_set, e_ret, e_drop, e_par, e_asg, e_for, e_app, e_setix, e_aug, e_name, e_c, e_anil, e_acons, e_bin, e_cmp, e_brk, e_cnt, e_retn, e_ix, e_call, e_fn, e_fn0, e_fnD, e_ifx, e_oft, e_tru, e_not, e_and, e_or, e_andv, e_orv, e_notv, e_neg, e_isi, e_chain, e_lst, e_tup, e_it, e_rg1, e_rg2, e_zip, e_enum, e_revi, e_rev, e_o0, e_o1, e_sl, e_dict0, e_yes, e_comp, e_pop, e_asB, e_toDd, e_toDf, e_toDs, e_lkd, e_lkf, e_lks, e_lan, e_lac, e_tdn, e_tdc, e_tsn, e_tsd, e_tsf, e_tss, e_snd, e_snf, e_snn, e_snc, e_sod, e_sof, e_st, e_fln, e_keep, e_itl, e_itt, e_rr1, e_rr2, e_tupRg, e_lstRg, e_revR, e_popAt, e_ext, e_tupRev, e_repL, e_lenSet, e_enumA, e_zipA, e_zip3, d_addT, flat1,
  d_add, d_sub, d_lt, d_le, d_gt, d_ge, d_eq, d_ne, d_ixl, d_ixt, d_lenl, d_lent, d_inti, d_intb, d_abs, d_max2, d_min2, d_tupl, d_tupt, d_lsl, d_lst, d_rb, t_b, t_i, t_l, t_t, is_nb, is_bb, k_ii, k_ib, k_bi, k_bb, k_ni, k_si, k_ti, k_li, k_di, k_tt, isNone, isBl,
  Option.bind_some, Option.bind_none, Option.map_some, Option.map_none, List.append_nil, List.cons_append, List.nil_append, List.replicate, List.getElem?_cons_zero, List.getElem?_cons_succ, List.getElem?_nil, List.set_cons_zero, List.set_cons_succ, List.length_cons, List.length_nil, List.mapIdx_cons, List.mapIdx_nil, List.contains_nil, List.contains_cons, Bool.false_eq_true, if_true, if_false, reduceIte, Bool.not_true, Bool.not_false, Option.getD_some, Function.comp, List.map_cons, List.map_nil,
  Nat.reduceLT, Nat.reduceAdd, Nat.reduceBEq, Nat.reduceEqDiff, Nat.reduceLeDiff, Int.reduceLT, Int.reduceLE, decide_true, decide_false, beq_self_eq_true, Bool.or_false, Bool.or_true, Bool.true_or, Bool.false_or, Bool.and_true, Bool.true_and, Bool.and_false, Bool.false_and, and_self, Nat.zero_add, e1]
  rfl
theorem r_many : res__law_met (er1 "TooMany" "limit" (.int 60)) = some (RF "many 60") := by
  unfold res__law_met er1
  refine (if_neg (show ¬ (("TooMany" : Str) = ("InvalidPoly" : Str)) by decide)).trans ((if_neg (show ¬ (("TooMany" : Str) = ("InvalidOperation" : Str)) by decide)).trans ((if_neg (show ¬ (("TooMany" : Str) = ("InvalidNumber" : Str)) by decide)).trans ((if_neg (show ¬ (("TooMany" : Str) = ("Refused" : Str)) by decide)).trans ((if_pos rfl).trans ?_))))
  dsimp only
  rw [if_pos rfl]
  unfold sresOf
  have e1 := ok_repr (d := .int 60) (by decide +kernel)
  have e2 : dAdd (.str "many ") (.str (PyData.int 60).shown) = some (.dat (.str "many 60")) := by
    have e3 : (PyData.int 60).shown = ("60" : Str) := by decide +kernel
    rw [e3]
    unfold dAdd
    refine (if_pos (by decide)).trans ?_
    exact congrArg (fun z => some (Wv.dat (.str z))) (by decide)
  simp only [e_bodyM, e_seq, e_nil, e_if, e_set, e_ret, e_drop, e_par, e_asg, e_for, e_app, e_setix, e_aug, e_name, e_c, e_anil, e_acons, e_bin, e_cmp, e_brk, e_cnt, e_retn, e_ix, e_call, e_fn, e_fn0, e_fnD, e_ifx, e_oft, e_tru, e_not, e_and, e_or, e_andv, e_orv, e_notv, e_neg, e_isi, e_chain, e_lst, e_tup, e_it, e_rg1, e_rg2, e_zip, e_enum, e_revi, e_rev, e_o0, e_o1, e_sl, e_dict0, e_yes, e_comp, e_pop, e_asB, e_toDd, e_toDf, e_toDs, e_lkd, e_lkf, e_lks, e_lan, e_lac, e_tdn, e_tdc, e_tsn, e_tsd, e_tsf, e_tss, e_snd, e_snf, e_snn, e_snc, e_sod, e_sof, e_st, e_fln, e_keep, e_itl, e_itt, e_rr1, e_rr2, e_tupRg, e_lstRg, e_revR, e_popAt, e_ext, e_tupRev, e_repL, e_lenSet, e_enumA, e_zipA, e_zip3, d_addT, flat1,
  d_add, d_sub, d_lt, d_le, d_gt, d_ge, d_eq, d_ne, d_ixl, d_ixt, d_lenl, d_lent, d_inti, d_intb, d_abs, d_max2, d_min2, d_tupl, d_tupt, d_lsl, d_lst, d_rb, t_b, t_i, t_l, t_t, is_nb, is_bb, k_ii, k_ib, k_bi, k_bb, k_ni, k_si, k_ti, k_li, k_di, k_tt, isNone, isBl,
  Option.bind_some, Option.bind_none, Option.map_some, Option.map_none, List.append_nil, List.cons_append, List.nil_append, List.replicate, List.getElem?_cons_zero, List.getElem?_cons_succ, List.getElem?_nil, List.set_cons_zero, List.set_cons_succ, List.length_cons, List.length_nil, List.mapIdx_cons, List.mapIdx_nil, List.contains_nil, List.contains_cons, Bool.false_eq_true, if_true, if_false, reduceIte, Bool.not_true, Bool.not_false, Option.getD_some, Function.comp, List.map_cons, List.map_nil,
  Nat.reduceLT, Nat.reduceAdd, Nat.reduceBEq, Nat.reduceEqDiff, Nat.reduceLeDiff, Int.reduceLT, Int.reduceLE, decide_true, decide_false, beq_self_eq_true, Bool.or_false, Bool.or_true, Bool.true_or, Bool.false_or, Bool.and_true, Bool.true_and, Bool.and_false, Bool.false_and, and_self, Nat.zero_add, e1, e2]
  rfl
end K06
end
section
set_option exponentiation.threshold 3000
namespace K06
open PySem PySem.Spec PyProof.Rows L2 EV
open Lib
def isFa (o : Option (Wv × Gh)) : Bool := match o with | some (.dat (.bool false), _) => true | _ => false
theorem isFa_eq {o : Option (Wv × Gh)} (h : isFa o = true) : ∃ g, o = some (.dat (.bool false), g) := by
  unfold isFa at h
  split at h
  · exact ⟨_, rfl⟩
  · cases h
theorem bad_no {d : Da} (h : d ∈ bads) : ∃ g, Lib.F_is_poly [.val (.int 7), .val d] = some (.dat (.bool false), g) := isFa_eq (List.all_eq_true.mp (show bads.all (fun d => isFa (Lib.F_is_poly [.val (.int 7), .val d])) = true by decide +kernel) d h)
theorem rf_flat {s : Str} (h : (PyData.str s).canLay0 = true) : Flat 1 (RF s) := flat_tuple (n := 0) (by
  intro x hx
  simp only [List.mem_cons, List.not_mem_nil, or_false] at hx
  rcases hx with rfl | rfl
  · exact flat_str (by decide +kernel)
  · exact flat_str h)
theorem rf_num {d : Da} (h : okS d = true) : Flat 1 (RF (numS d)) := rf_flat (ok_flat (n := 0) h).2.1
theorem rf_poly : Flat 1 (RF "poly") := rf_flat (by decide +kernel)
theorem rf_op : Flat 1 (RF "operation") := rf_flat (by decide +kernel)
theorem rf_zero : Flat 1 (RF "('zero',)") := rf_flat (by decide +kernel)
theorem cons_flat {n : Nat} {x : Da} {xs : List Da} (h : Flat n x) (k : ∀ y ∈ xs, Flat n y) : ∀ y ∈ x :: xs, Flat n y := fun y hy => by
  rcases List.mem_cons.mp hy with rfl | hy
  · exact h
  · exact k y hy
theorem nil_flat {n : Nat} : ∀ y ∈ ([] : List Da), Flat n y := fun y hy => absurd hy (by simp)
theorem ret_all {f : ME} {g g1 : Gh} {d : Da} (h : f g = some (.dat d, g1)) {pr : List Nat} : sRet pr f g = some (.rt (.dat d), g1) := by
  unfold sRet
  rw [h]
  rfl
theorem bin_eq {Fn : Da → Da → Option Wv} {a b : ME} {g g1 g2 : Gh} {wa wb w : Wv} {x y : Da} (h1 : a g = some (wa, g1)) (h2 : b g1 = some (wb, g2)) (l1 : look wa g2 = some x) (l2 : look wb g2 = some y) (h : Fn x y = some w) : mBin Fn a b g = some (w, g2) := by
  unfold mBin
  rw [h1, Option.bind_some]
  dsimp only
  rw [h2, Option.bind_some]
  dsimp only
  rw [l1, Option.bind_some, l2, Option.bind_some, h, Option.bind_some]
theorem andv_eq {a b : ME} {g g1 : Gh} (h1 : a g = some (.dat (.bool true), g1)) : mAndV a b g = b g1 := by
  unfold mAndV
  rw [h1]
  rfl
theorem num_add {m : Da} (h : okS m = true) {i : Nat} {g : Gh} (hi : mName i g = some (.dat m, g)) : mBin dAdd (mC (.str "number ")) (mCall dReprN (mCons (mName i) mNil)) g = some (.dat (.str (numS m)), g) := by
  refine bin_eq (wa := .dat (.str "number ")) (wb := .dat (.str m.shown)) rfl ?_ rfl rfl (ok_add h)
  unfold mCall mCons mNil
  rw [hi]
  dsimp only [Option.bind_some, lookAll, look]
  rw [ok_repr h]
  rfl
theorem acons {f : ME} {fs : MA} {g : Gh} {w : Wv} {ws : List Wv} (h1 : f g = some (w, g)) (h2 : fs g = some (ws, g)) : mCons f fs g = some (w :: ws, g) := by
  unfold mCons
  rw [h1, Option.bind_some]
  dsimp only
  rw [h2, Option.bind_some]
theorem lst_eq {fa : MA} {g : Gh} {ws : List Wv} {ds : List Da} (h1 : fa g = some (ws, g)) (h2 : toDs ws g = some (ds, g)) (hl : ds.length ≤ sizeLine) : mLst fa g = some (.fresh ds, g) := by
  unfold mLst
  rw [h1, Option.bind_some, h2, Option.bind_some]
  exact if_pos hl
theorem set_eq {f : ME} {i : Nat} {g g1 g2 : Gh} {w : Wv} (h : f g = some (w, g1)) (k : setN i w g1 = some g2) : sSet i f g = some (.nx, g2) := by
  unfold sSet
  rw [h, Option.bind_some, k, Option.bind_some]
theorem par_eq {fa : MA} {is : List Nat} {g g1 g2 : Gh} {ws : List Wv} (h : fa g = some (ws, g1)) (k : setNs is ws g1 = some g2) : sPar is fa g = some (.nx, g2) := by
  unfold sPar
  rw [h, Option.bind_some, k, Option.bind_some]
theorem t_polys {ds : List Da} {n b m : Da} (hn : n ∈ nones) (hb : b ∈ bads) (hm : m ∈ numbs) : F__law_polys_right [.own ds, .val n, .val b, .val m] = some (.dat (.bool true), [.own ds, .val n, .val b, .val m]) := by
  have on := nones_ok n hn
  have om := numbs_ok m hm
  have fn := nones_fld n hn
  have fm := numbs_no m hm
  obtain ⟨gz, hz⟩ := bad_no hb
  have key : m__law_polys_right [.own ds, .val n, .val b, .val m, .un, .un, .un, .un, .un] = some (.rt (.dat (.bool true)), [.own ds, .val n, .val b, .val m, .val g12, .val (.str (numS m)), .own [RF (numS n), RF "poly", RF "poly", RF "poly", RF (numS m), RF "poly", RF "poly", RF "('zero',)", RF "poly", RF (numS m), RF (numS n)], .val (.list [.str (numS n), .str "poly", .str "poly", .str "poly", .str (numS m), .str "poly", .str "poly", .str "('zero',)", .str "poly", .str (numS m), .str (numS n)]), .un]) := by
    unfold m__law_polys_right
    refine (seq_nx (g1 := [.own ds, .val n, .val b, .val m, .val g12, .val (.str (numS m)), .un, .un, .un]) (par_eq (acons (w := .dat g12) rfl (acons (num_add om rfl) rfl)) rfl)).trans ?_
    refine (seq_nx (g1 := [.own ds, .val n, .val b, .val m, .val g12, .val (.str (numS m)), .own [RF (numS n)], .un, .un]) (set_lst1 (lam_hit rfl (q1 fn) m_num (r_num on)) (by show 6 < 9; decide))).trans ?_
    refine (seq_nx (g1 := [.own ds, .val n, .val b, .val m, .val g12, .val (.str (numS m)), .own [RF (numS n), RF "poly"], .un, .un]) (app_eq (ds := [RF (numS n)]) (lam_hit rfl (q2 hb) m_poly r_poly) rfl (by show 1 < sizeLine; decide))).trans ?_
    refine (seq_nx (g1 := [.own ds, .val n, .val b, .val m, .val g12, .val (.str (numS m)), .own [RF (numS n), RF "poly", RF "poly"], .un, .un]) (app_eq (ds := [RF (numS n), RF "poly"]) (lam_hit rfl (q3 hb) m_poly r_poly) rfl (by show 2 < sizeLine; decide))).trans ?_
    refine (seq_nx (g1 := [.own ds, .val n, .val b, .val m, .val g12, .val (.str (numS m)), .own [RF (numS n), RF "poly", RF "poly", RF "poly"], .un, .un]) (app_eq (ds := [RF (numS n), RF "poly", RF "poly"]) (lam_hit rfl (q4 hb) m_poly r_poly) rfl (by show 3 < sizeLine; decide))).trans ?_
    refine (seq_nx (g1 := [.own ds, .val n, .val b, .val m, .val g12, .val (.str (numS m)), .own [RF (numS n), RF "poly", RF "poly", RF "poly", RF (numS m)], .un, .un]) (app_eq (ds := [RF (numS n), RF "poly", RF "poly", RF "poly"]) (lam_hit rfl (q5 fm) m_num (r_num om)) rfl (by show 4 < sizeLine; decide))).trans ?_
    refine (seq_nx (g1 := [.own ds, .val n, .val b, .val m, .val g12, .val (.str (numS m)), .own [RF (numS n), RF "poly", RF "poly", RF "poly", RF (numS m), RF "poly"], .un, .un]) (app_eq (ds := [RF (numS n), RF "poly", RF "poly", RF "poly", RF (numS m)]) (lam_hit rfl (q6 hb) m_poly r_poly) rfl (by show 5 < sizeLine; decide))).trans ?_
    refine (seq_nx (g1 := [.own ds, .val n, .val b, .val m, .val g12, .val (.str (numS m)), .own [RF (numS n), RF "poly", RF "poly", RF "poly", RF (numS m), RF "poly", RF "poly"], .un, .un]) (app_eq (ds := [RF (numS n), RF "poly", RF "poly", RF "poly", RF (numS m), RF "poly"]) (lam_hit rfl (q7 hb) m_poly r_poly) rfl (by show 6 < sizeLine; decide))).trans ?_
    refine (seq_nx (g1 := [.own ds, .val n, .val b, .val m, .val g12, .val (.str (numS m)), .own [RF (numS n), RF "poly", RF "poly", RF "poly", RF (numS m), RF "poly", RF "poly", RF "('zero',)"], .un, .un]) (app_eq (ds := [RF (numS n), RF "poly", RF "poly", RF "poly", RF (numS m), RF "poly", RF "poly"]) (lam_hit rfl q8 m_ref r_zero) rfl (by show 7 < sizeLine; decide))).trans ?_
    refine (seq_nx (g1 := [.own ds, .val n, .val b, .val m, .val g12, .val (.str (numS m)), .own [RF (numS n), RF "poly", RF "poly", RF "poly", RF (numS m), RF "poly", RF "poly", RF "('zero',)", RF "poly"], .un, .un]) (app_eq (ds := [RF (numS n), RF "poly", RF "poly", RF "poly", RF (numS m), RF "poly", RF "poly", RF "('zero',)"]) (lam_hit rfl (q9 hb) m_poly r_poly) rfl (by show 8 < sizeLine; decide))).trans ?_
    refine (seq_nx (g1 := [.own ds, .val n, .val b, .val m, .val g12, .val (.str (numS m)), .own [RF (numS n), RF "poly", RF "poly", RF "poly", RF (numS m), RF "poly", RF "poly", RF "('zero',)", RF "poly", RF (numS m)], .un, .un]) (app_eq (ds := [RF (numS n), RF "poly", RF "poly", RF "poly", RF (numS m), RF "poly", RF "poly", RF "('zero',)", RF "poly"]) (lam_hit rfl (q10 fm) m_num (r_num om)) rfl (by show 9 < sizeLine; decide))).trans ?_
    refine (seq_nx (g1 := [.own ds, .val n, .val b, .val m, .val g12, .val (.str (numS m)), .own [RF (numS n), RF "poly", RF "poly", RF "poly", RF (numS m), RF "poly", RF "poly", RF "('zero',)", RF "poly", RF (numS m), RF (numS n)], .un, .un]) (app_eq (ds := [RF (numS n), RF "poly", RF "poly", RF "poly", RF (numS m), RF "poly", RF "poly", RF "('zero',)", RF "poly", RF (numS m)]) (lam_hit rfl (q11 fn) m_num (r_num on)) rfl (by show 10 < sizeLine; decide))).trans ?_
    refine (seq_nx (g1 := [.own ds, .val n, .val b, .val m, .val g12, .val (.str (numS m)), .own [RF (numS n), RF "poly", RF "poly", RF "poly", RF (numS m), RF "poly", RF "poly", RF "('zero',)", RF "poly", RF (numS m), RF (numS n)], .own [.str (numS n), .str "poly", .str "poly", .str "poly", .str (numS m), .str "poly", .str "poly", .str "('zero',)", .str "poly", .str (numS m), .str (numS n)], .un]) (set_eq (lst_eq (ds := [.str (numS n), .str "poly", .str "poly", .str "poly", .str (numS m), .str "poly", .str "poly", .str "('zero',)", .str "poly", .str (numS m), .str (numS n)]) (acons (num_add on rfl) (acons rfl (acons rfl (acons rfl (acons rfl (acons rfl (acons rfl (acons rfl (acons rfl (acons rfl (acons (num_add on rfl) rfl))))))))))) rfl (by show 11 ≤ sizeLine; decide)) rfl)).trans ?_
    have c1 : (mComp [8] (mIt (mName 7)) (setN 8) mYes (mTup (mCons (mC (.str "refused")) (mCons (mName 8) mNil)))) [.own ds, .val n, .val b, .val m, .val g12, .val (.str (numS m)), .own [RF (numS n), RF "poly", RF "poly", RF "poly", RF (numS m), RF "poly", RF "poly", RF "('zero',)", RF "poly", RF (numS m), RF (numS n)], .own [.str (numS n), .str "poly", .str "poly", .str "poly", .str (numS m), .str "poly", .str "poly", .str "('zero',)", .str "poly", .str (numS m), .str (numS n)], .un] = some (.fresh [RF (numS n), RF "poly", RF "poly", RF "poly", RF (numS m), RF "poly", RF "poly", RF "('zero',)", RF "poly", RF (numS m), RF (numS n)], [.own ds, .val n, .val b, .val m, .val g12, .val (.str (numS m)), .own [RF (numS n), RF "poly", RF "poly", RF "poly", RF (numS m), RF "poly", RF "poly", RF "('zero',)", RF "poly", RF (numS m), RF (numS n)], .val (.list [.str (numS n), .str "poly", .str "poly", .str "poly", .str (numS m), .str "poly", .str "poly", .str "('zero',)", .str "poly", .str (numS m), .str (numS n)]), .un]) := comp_of3 (e := PyData.str) (F := RF) (xs := [(numS n), "poly", "poly", "poly", (numS m), "poly", "poly", "('zero',)", "poly", (numS m), (numS n)]) (gw := [.own ds, .val n, .val b, .val m, .val g12, .val (.str (numS m)), .own [RF (numS n), RF "poly", RF "poly", RF "poly", RF (numS m), RF "poly", RF "poly", RF "('zero',)", RF "poly", RF (numS m), RF (numS n)], .val (.list [.str (numS n), .str "poly", .str "poly", .str "poly", .str (numS m), .str "poly", .str "poly", .str "('zero',)", .str "poly", .str (numS m), .str (numS n)]), .un]) rfl (by show 11 ≤ 1000000; decide) rfl rfl (fun x _ => ⟨_, _, _, _, rfl, rfl, rfl, rfl⟩)
    refine ret_all ((andv_eq (bin_eq (wa := .slot 6) (x := .list [RF (numS n), RF "poly", RF "poly", RF "poly", RF (numS m), RF "poly", RF "poly", RF "('zero',)", RF "poly", RF (numS m), RF (numS n)]) (y := .list [RF (numS n), RF "poly", RF "poly", RF "poly", RF (numS m), RF "poly", RF "poly", RF "('zero',)", RF "poly", RF (numS m), RF (numS n)]) (w := .dat (.bool true)) rfl c1 rfl rfl (d_eqS (flat_list (cons_flat (rf_num on) (cons_flat rf_poly (cons_flat rf_poly (cons_flat rf_poly (cons_flat (rf_num om) (cons_flat rf_poly (cons_flat rf_poly (cons_flat rf_zero (cons_flat rf_poly (cons_flat (rf_num om) (cons_flat (rf_num on) nil_flat))))))))))))))).trans (bin_eq (mFn_eq rfl hz) rfl rfl rfl rfl))
  show (m__law_polys_right [.own ds, .val n, .val b, .val m, .un, .un, .un, .un, .un]).bind _ = _
  rw [key]
  rfl
end K06
end
section
set_option exponentiation.threshold 3000
namespace K06
open PySem PySem.Spec PyProof.Rows L2 EV
open Lib
theorem fnD_eq {m : MF} {fa : MA} {g : Gh} {i : Nat} {ws : List Wv} {ss : List Sl} {ds : List Da} {w : Wv} {s : Sl} {rest : Gh} (h : fa g = some (.slot i :: ws, g)) (h2 : toSls ws g = some (ss, g)) (h3 : g[i]? = some (.own ds)) (hf : m (.own ds :: ss) = some (w, s :: rest)) : mFnD m fa g = some (w, g.set i s) := by
  unfold mFnD
  rw [h, Option.bind_some]
  dsimp only
  rw [h2, Option.bind_some]
  dsimp only
  rw [h3]
  dsimp only
  rw [hf]
  rfl
theorem t_places {k : Nat} {ds : List Da} (hk : DiceOk k ds) (hk2 : k ≤ 1000) {n b m : Da} (hn : n ∈ nones) (hb : b ∈ bads) (hm : m ∈ numbs) : ∃ d4, DiceOk (k + 4) d4 ∧ F__law_places_right [.own ds, .val n, .val b, .val m] = some (.dat (.bool true), [.own d4, .val n, .val b, .val m]) := by
  have on := nones_ok n hn
  have om := numbs_ok m hm
  have fn := nones_fld n hn
  have fm := numbs_no m hm
  obtain ⟨p, d1, hp, k1, e1⟩ := t_pick (xs := places_) hk (by omega) (by decide) (by decide)
  obtain ⟨h, d2, hh, k2, e2⟩ := t_pick (xs := hides_) k1 (by omega) (by decide) (by decide)
  obtain ⟨q, d3, hq, k3, e3⟩ := t_pick (xs := points_) k2 (by omega) (by decide) (by decide)
  obtain ⟨d, d4, hd, k4, e4⟩ := t_pick (xs := degs) k3 (by omega) (by decide) (by decide)
  have od := degs_ok d hd
  have fd := degs_no d hd
  refine ⟨d4, k4, ?_⟩
  have key : m__law_places_right [.own ds, .val n, .val b, .val m, .un, .un, .un, .un, .un, .un, .un, .un, .un] = some (.rt (.dat (.bool true)), [.own d4, .val n, .val b, .val m, .val p, .val h, .val q, .val d, .val (.str (numS m)), .val (.str (numS d)), .own [RF "poly", RF "operation", RF (numS n), RF "operation", RF "operation", RF (numS m), RF "operation", RF (numS d), RF (numS n), RF "operation", RF "poly", RF "operation", RF (numS m)], .own [.str "poly", .str "operation", .str (numS n), .str "operation", .str "operation", .str (numS m), .str "operation", .str (numS d), .str (numS n)], .un]) := by
    unfold m__law_places_right
    refine (seq_nx (g1 := [.own d1, .val n, .val b, .val m, .val p, .un, .un, .un, .un, .un, .un, .un, .un]) (set_eq (fnD_eq (ws := [.fresh places_]) (acons rfl (acons (lst_eq (ds := places_) rfl rfl (by show places_.length ≤ sizeLine; decide)) rfl)) rfl rfl e1) rfl)).trans ?_
    refine (seq_nx (g1 := [.own d2, .val n, .val b, .val m, .val p, .val h, .un, .un, .un, .un, .un, .un, .un]) (set_eq (fnD_eq (ws := [.fresh hides_]) (acons rfl (acons (lst_eq (ds := hides_) rfl rfl (by show hides_.length ≤ sizeLine; decide)) rfl)) rfl rfl e2) rfl)).trans ?_
    refine (seq_nx (g1 := [.own d3, .val n, .val b, .val m, .val p, .val h, .val q, .un, .un, .un, .un, .un, .un]) (set_eq (fnD_eq (ws := [.fresh points_]) (acons rfl (acons (lst_eq (ds := points_) rfl rfl (by show points_.length ≤ sizeLine; decide)) rfl)) rfl rfl e3) rfl)).trans ?_
    refine (seq_nx (g1 := [.own d4, .val n, .val b, .val m, .val p, .val h, .val q, .val d, .un, .un, .un, .un, .un]) (set_eq (fnD_eq (ws := [.fresh degs]) (acons rfl (acons (lst_eq (ds := degs) rfl rfl (by show degs.length ≤ sizeLine; decide)) rfl)) rfl rfl e4) rfl)).trans ?_
    refine (seq_nx (g1 := [.own d4, .val n, .val b, .val m, .val p, .val h, .val q, .val d, .val (.str (numS m)), .val (.str (numS d)), .un, .un, .un]) (par_eq (acons (num_add om rfl) (acons (num_add od rfl) rfl)) rfl)).trans ?_
    refine (seq_nx (g1 := [.own d4, .val n, .val b, .val m, .val p, .val h, .val q, .val d, .val (.str (numS m)), .val (.str (numS d)), .own [RF "poly"], .un, .un]) (set_lst1 (lam_hit rfl (w1 hb) m_poly r_poly) (by show 10 < 13; decide))).trans ?_
    refine (seq_nx (g1 := [.own d4, .val n, .val b, .val m, .val p, .val h, .val q, .val d, .val (.str (numS m)), .val (.str (numS d)), .own [RF "poly", RF "operation"], .un, .un]) (app_eq (ds := [RF "poly"]) (lam_hit rfl (w2 hp) m_op r_op) rfl (by show 1 < sizeLine; decide))).trans ?_
    refine (seq_nx (g1 := [.own d4, .val n, .val b, .val m, .val p, .val h, .val q, .val d, .val (.str (numS m)), .val (.str (numS d)), .own [RF "poly", RF "operation", RF (numS n)], .un, .un]) (app_eq (ds := [RF "poly", RF "operation"]) (lam_hit rfl (w3 fn) m_num (r_num on)) rfl (by show 2 < sizeLine; decide))).trans ?_
    refine (seq_nx (g1 := [.own d4, .val n, .val b, .val m, .val p, .val h, .val q, .val d, .val (.str (numS m)), .val (.str (numS d)), .own [RF "poly", RF "operation", RF (numS n), RF "operation"], .un, .un]) (app_eq (ds := [RF "poly", RF "operation", RF (numS n)]) (lam_hit rfl (w4 hq) m_op r_op) rfl (by show 3 < sizeLine; decide))).trans ?_
    refine (seq_nx (g1 := [.own d4, .val n, .val b, .val m, .val p, .val h, .val q, .val d, .val (.str (numS m)), .val (.str (numS d)), .own [RF "poly", RF "operation", RF (numS n), RF "operation", RF "operation"], .un, .un]) (app_eq (ds := [RF "poly", RF "operation", RF (numS n), RF "operation"]) (lam_hit rfl (w5 hp) m_op r_op) rfl (by show 4 < sizeLine; decide))).trans ?_
    refine (seq_nx (g1 := [.own d4, .val n, .val b, .val m, .val p, .val h, .val q, .val d, .val (.str (numS m)), .val (.str (numS d)), .own [RF "poly", RF "operation", RF (numS n), RF "operation", RF "operation", RF (numS m)], .un, .un]) (app_eq (ds := [RF "poly", RF "operation", RF (numS n), RF "operation", RF "operation"]) (lam_hit rfl (w6 fm) m_num (r_num om)) rfl (by show 5 < sizeLine; decide))).trans ?_
    refine (seq_nx (g1 := [.own d4, .val n, .val b, .val m, .val p, .val h, .val q, .val d, .val (.str (numS m)), .val (.str (numS d)), .own [RF "poly", RF "operation", RF (numS n), RF "operation", RF "operation", RF (numS m), RF "operation"], .un, .un]) (app_eq (ds := [RF "poly", RF "operation", RF (numS n), RF "operation", RF "operation", RF (numS m)]) (lam_hit rfl (w7 hp) m_op r_op) rfl (by show 6 < sizeLine; decide))).trans ?_
    refine (seq_nx (g1 := [.own d4, .val n, .val b, .val m, .val p, .val h, .val q, .val d, .val (.str (numS m)), .val (.str (numS d)), .own [RF "poly", RF "operation", RF (numS n), RF "operation", RF "operation", RF (numS m), RF "operation", RF (numS d)], .un, .un]) (app_eq (ds := [RF "poly", RF "operation", RF (numS n), RF "operation", RF "operation", RF (numS m), RF "operation"]) (lam_hit rfl (w8 fd) m_num (r_num od)) rfl (by show 7 < sizeLine; decide))).trans ?_
    refine (seq_nx (g1 := [.own d4, .val n, .val b, .val m, .val p, .val h, .val q, .val d, .val (.str (numS m)), .val (.str (numS d)), .own [RF "poly", RF "operation", RF (numS n), RF "operation", RF "operation", RF (numS m), RF "operation", RF (numS d), RF (numS n)], .un, .un]) (app_eq (ds := [RF "poly", RF "operation", RF (numS n), RF "operation", RF "operation", RF (numS m), RF "operation", RF (numS d)]) (lam_hit rfl (w9 fn) m_num (r_num on)) rfl (by show 8 < sizeLine; decide))).trans ?_
    refine (seq_nx (g1 := [.own d4, .val n, .val b, .val m, .val p, .val h, .val q, .val d, .val (.str (numS m)), .val (.str (numS d)), .own [RF "poly", RF "operation", RF (numS n), RF "operation", RF "operation", RF (numS m), RF "operation", RF (numS d), RF (numS n), RF "operation"], .un, .un]) (app_eq (ds := [RF "poly", RF "operation", RF (numS n), RF "operation", RF "operation", RF (numS m), RF "operation", RF (numS d), RF (numS n)]) (lam_hit rfl (w10 hh) m_op r_op) rfl (by show 9 < sizeLine; decide))).trans ?_
    refine (seq_nx (g1 := [.own d4, .val n, .val b, .val m, .val p, .val h, .val q, .val d, .val (.str (numS m)), .val (.str (numS d)), .own [RF "poly", RF "operation", RF (numS n), RF "operation", RF "operation", RF (numS m), RF "operation", RF (numS d), RF (numS n), RF "operation", RF "poly"], .un, .un]) (app_eq (ds := [RF "poly", RF "operation", RF (numS n), RF "operation", RF "operation", RF (numS m), RF "operation", RF (numS d), RF (numS n), RF "operation"]) (lam_hit rfl (w11 hb) m_poly r_poly) rfl (by show 10 < sizeLine; decide))).trans ?_
    refine (seq_nx (g1 := [.own d4, .val n, .val b, .val m, .val p, .val h, .val q, .val d, .val (.str (numS m)), .val (.str (numS d)), .own [RF "poly", RF "operation", RF (numS n), RF "operation", RF "operation", RF (numS m), RF "operation", RF (numS d), RF (numS n), RF "operation", RF "poly", RF "operation"], .un, .un]) (app_eq (ds := [RF "poly", RF "operation", RF (numS n), RF "operation", RF "operation", RF (numS m), RF "operation", RF (numS d), RF (numS n), RF "operation", RF "poly"]) (lam_hit rfl (w12 hh) m_op r_op) rfl (by show 11 < sizeLine; decide))).trans ?_
    refine (seq_nx (g1 := [.own d4, .val n, .val b, .val m, .val p, .val h, .val q, .val d, .val (.str (numS m)), .val (.str (numS d)), .own [RF "poly", RF "operation", RF (numS n), RF "operation", RF "operation", RF (numS m), RF "operation", RF (numS d), RF (numS n), RF "operation", RF "poly", RF "operation", RF (numS m)], .un, .un]) (app_eq (ds := [RF "poly", RF "operation", RF (numS n), RF "operation", RF "operation", RF (numS m), RF "operation", RF (numS d), RF (numS n), RF "operation", RF "poly", RF "operation"]) (lam_hit rfl (w13 fm) m_num (r_num om)) rfl (by show 12 < sizeLine; decide))).trans ?_
    refine (seq_nx (g1 := [.own d4, .val n, .val b, .val m, .val p, .val h, .val q, .val d, .val (.str (numS m)), .val (.str (numS d)), .own [RF "poly", RF "operation", RF (numS n), RF "operation", RF "operation", RF (numS m), RF "operation", RF (numS d), RF (numS n), RF "operation", RF "poly", RF "operation", RF (numS m)], .own [.str "poly", .str "operation", .str (numS n), .str "operation", .str "operation", .str (numS m), .str "operation", .str (numS d), .str (numS n)], .un]) (set_eq (lst_eq (ds := [.str "poly", .str "operation", .str (numS n), .str "operation", .str "operation", .str (numS m), .str "operation", .str (numS d), .str (numS n)]) (acons rfl (acons rfl (acons (num_add on rfl) (acons rfl (acons rfl (acons rfl (acons rfl (acons rfl (acons (num_add on rfl) rfl))))))))) rfl (by show 9 ≤ sizeLine; decide)) rfl)).trans ?_
    have c1 : (mComp [12] (mIt (mBin dAddM (mName 11) (mLst (mCons (mC (.str "operation")) (mCons (mC (.str "poly")) (mCons (mC (.str "operation")) (mCons (mName 8) mNil))))))) (setN 12) mYes (mTup (mCons (mC (.str "refused")) (mCons (mName 12) mNil)))) [.own d4, .val n, .val b, .val m, .val p, .val h, .val q, .val d, .val (.str (numS m)), .val (.str (numS d)), .own [RF "poly", RF "operation", RF (numS n), RF "operation", RF "operation", RF (numS m), RF "operation", RF (numS d), RF (numS n), RF "operation", RF "poly", RF "operation", RF (numS m)], .own [.str "poly", .str "operation", .str (numS n), .str "operation", .str "operation", .str (numS m), .str "operation", .str (numS d), .str (numS n)], .un] = some (.fresh [RF "poly", RF "operation", RF (numS n), RF "operation", RF "operation", RF (numS m), RF "operation", RF (numS d), RF (numS n), RF "operation", RF "poly", RF "operation", RF (numS m)], [.own d4, .val n, .val b, .val m, .val p, .val h, .val q, .val d, .val (.str (numS m)), .val (.str (numS d)), .own [RF "poly", RF "operation", RF (numS n), RF "operation", RF "operation", RF (numS m), RF "operation", RF (numS d), RF (numS n), RF "operation", RF "poly", RF "operation", RF (numS m)], .own [.str "poly", .str "operation", .str (numS n), .str "operation", .str "operation", .str (numS m), .str "operation", .str (numS d), .str (numS n)], .un]) := comp_of3 (e := PyData.str) (F := RF) (xs := ["poly", "operation", (numS n), "operation", "operation", (numS m), "operation", (numS d), (numS n), "operation", "poly", "operation", (numS m)]) (gw := [.own d4, .val n, .val b, .val m, .val p, .val h, .val q, .val d, .val (.str (numS m)), .val (.str (numS d)), .own [RF "poly", RF "operation", RF (numS n), RF "operation", RF "operation", RF (numS m), RF "operation", RF (numS d), RF (numS n), RF "operation", RF "poly", RF "operation", RF (numS m)], .own [.str "poly", .str "operation", .str (numS n), .str "operation", .str "operation", .str (numS m), .str "operation", .str (numS d), .str (numS n)], .un]) rfl (by show 13 ≤ 1000000; decide) rfl rfl (fun x _ => ⟨_, _, _, _, rfl, rfl, rfl, rfl⟩)
    exact ret_all (bin_eq (wa := .slot 10) (x := .list [RF "poly", RF "operation", RF (numS n), RF "operation", RF "operation", RF (numS m), RF "operation", RF (numS d), RF (numS n), RF "operation", RF "poly", RF "operation", RF (numS m)]) (y := .list [RF "poly", RF "operation", RF (numS n), RF "operation", RF "operation", RF (numS m), RF "operation", RF (numS d), RF (numS n), RF "operation", RF "poly", RF "operation", RF (numS m)]) (w := .dat (.bool true)) rfl c1 rfl rfl (d_eqS (flat_list (cons_flat rf_poly (cons_flat rf_op (cons_flat (rf_num on) (cons_flat rf_op (cons_flat rf_op (cons_flat (rf_num om) (cons_flat rf_op (cons_flat (rf_num od) (cons_flat (rf_num on) (cons_flat rf_op (cons_flat rf_poly (cons_flat rf_op (cons_flat (rf_num om) nil_flat))))))))))))))))
  show (m__law_places_right [.own ds, .val n, .val b, .val m, .un, .un, .un, .un, .un, .un, .un, .un, .un]).bind _ = _
  rw [key]
  rfl
end K06
end
section
set_option exponentiation.threshold 3000
namespace K06
open PySem PySem.Spec PyProof.Rows L2 EV
open Lib
theorem retL_eq {f : ME} {g g1 : Gh} {d : Da} (h : f g = some (.dat d, g1)) : sRetL f g = some (.rt (.dat d), g1) := by
  unfold sRetL
  rw [h]
  rfl
theorem t_right {k : Nat} {ds : List Da} (hk : DiceOk k ds) (hk2 : k ≤ 900) : ∃ d4, DiceOk (k + 7) d4 ∧ F__law_right [.own ds] = some (.dat (.bool true), [.own d4]) := by
  obtain ⟨n, d1, hn, k1, e1⟩ := t_pick (xs := nones) hk (by omega) (by decide) (by decide)
  obtain ⟨b, d2, hb, k2, e2⟩ := t_pick (xs := bads) k1 (by omega) (by decide) (by decide)
  obtain ⟨m, d3, hm, k3, e3⟩ := t_pick (xs := numbs) k2 (by omega) (by decide) (by decide)
  have e4 := t_polys (ds := d3) hn hb hm
  obtain ⟨d4, k4, e5⟩ := t_places k3 (by omega) hn hb hm
  refine ⟨d4, k4, ?_⟩
  have key : m__law_right [.own ds, .un, .un, .un] = some (.rt (.dat (.bool true)), [.own d4, .val n, .val b, .val m]) := by
    unfold m__law_right
    refine (seq_nx (g1 := [.own d1, .val n, .un, .un]) (set_eq (fnD_eq (ws := [.fresh nones]) (acons rfl (acons (lst_eq (ds := nones) rfl rfl (by show nones.length ≤ sizeLine; decide)) rfl)) rfl rfl e1) rfl)).trans ?_
    refine (seq_nx (g1 := [.own d2, .val n, .val b, .un]) (set_eq (fnD_eq (ws := [.fresh bads]) (acons rfl (acons (lst_eq (ds := bads) rfl rfl (by show bads.length ≤ sizeLine; decide)) rfl)) rfl rfl e2) rfl)).trans ?_
    refine (seq_nx (g1 := [.own d3, .val n, .val b, .val m]) (set_eq (fnD_eq (ws := [.fresh numbs]) (acons rfl (acons (lst_eq (ds := numbs) rfl rfl (by show numbs.length ≤ sizeLine; decide)) rfl)) rfl rfl e3) rfl)).trans ?_
    exact retL_eq ((andv_eq (g1 := [.own d3, .val n, .val b, .val m]) (fnD_eq (i := 0) (g := [.own d3, .val n, .val b, .val m]) (ws := [.dat n, .dat b, .dat m]) (acons rfl (acons rfl (acons rfl (acons rfl rfl)))) rfl rfl e4)).trans (fnD_eq (i := 0) (g := [.own d3, .val n, .val b, .val m]) (ws := [.dat n, .dat b, .dat m]) (acons rfl (acons rfl (acons rfl (acons rfl rfl)))) rfl rfl e5))
  show (m__law_right [.own ds, .un, .un, .un]).bind _ = _
  rw [key]
  rfl
noncomputable def spotB : MS := (sSeq (sSet 2 (mFn Lib.F__law_dice (mCons (mName 0) (mCons (mName 1) mNil))))
    (sIf (mOr (mNot (mTru (mFnD F__law_right (mCons (mName 2) mNil)))) (mNot (mTru (mFnD F__law_right (mCons (mName 2) mNil))))) (sRet [] (mC (.bool false))) sNil))
theorem spot_gen {A R : MF} {N n : Da} {d1 d2 d3 : List Da} {s2 s3 s4 s5 s6 s7 : Sl} {h : Gh} (e0 : A [.val N, .val n] = some (.fresh d1, h)) (e1 : R [.own d1] = some (.dat (.bool true), [.own d2])) (e2 : R [.own d2] = some (.dat (.bool true), [.own d3])) :
  (sSeq (sSet 2 (mFn A (mCons (mName 0) (mCons (mName 1) mNil))))
    (sIf (mOr (mNot (mTru (mFnD R (mCons (mName 2) mNil)))) (mNot (mTru (mFnD R (mCons (mName 2) mNil))))) (sRet [] (mC (.bool false))) sNil)) [.val N, .val n, s2, s3, s4, s5, s6, s7] = some (.nx, [.val N, .val n, .own d3, s3, s4, s5, s6, s7]) := by
  simp only [e_bodyM, e_seq, e_nil, e_if, e_set, e_ret, e_drop, e_par, e_asg, e_for, e_app, e_setix, e_aug, e_name, e_c, e_anil, e_acons, e_bin, e_cmp, e_brk, e_cnt, e_retn, e_ix, e_call, e_fn, e_fn0, e_fnD, e_ifx, e_oft, e_tru, e_not, e_and, e_or, e_andv, e_orv, e_notv, e_neg, e_isi, e_chain, e_lst, e_tup, e_it, e_rg1, e_rg2, e_zip, e_enum, e_revi, e_rev, e_o0, e_o1, e_sl, e_dict0, e_yes, e_comp, e_pop, e_asB, e_toDd, e_toDf, e_toDs, e_lkd, e_lkf, e_lks, e_lan, e_lac, e_tdn, e_tdc, e_tsn, e_tsd, e_tsf, e_tss, e_snd, e_snf, e_snn, e_snc, e_sod, e_sof, e_st, e_fln, e_keep, e_itl, e_itt, e_rr1, e_rr2, e_tupRg, e_lstRg, e_revR, e_popAt, e_ext, e_tupRev, e_repL, e_lenSet, e_enumA, e_zipA, e_zip3, d_addT, flat1,
  d_add, d_sub, d_lt, d_le, d_gt, d_ge, d_eq, d_ne, d_ixl, d_ixt, d_lenl, d_lent, d_inti, d_intb, d_abs, d_max2, d_min2, d_tupl, d_tupt, d_lsl, d_lst, d_rb, t_b, t_i, t_l, t_t, is_nb, is_bb, k_ii, k_ib, k_bi, k_bb, k_ni, k_si, k_ti, k_li, k_di, k_tt, isNone, isBl,
  Option.bind_some, Option.bind_none, Option.map_some, Option.map_none, List.append_nil, List.cons_append, List.nil_append, List.replicate, List.getElem?_cons_zero, List.getElem?_cons_succ, List.getElem?_nil, List.set_cons_zero, List.set_cons_succ, List.length_cons, List.length_nil, List.mapIdx_cons, List.mapIdx_nil, List.contains_nil, List.contains_cons, Bool.false_eq_true, if_true, if_false, reduceIte, Bool.not_true, Bool.not_false, Option.getD_some, Function.comp, List.map_cons, List.map_nil,
  Nat.reduceLT, Nat.reduceAdd, Nat.reduceBEq, Nat.reduceEqDiff, Nat.reduceLeDiff, Int.reduceLT, Int.reduceLE, decide_true, decide_false, beq_self_eq_true, Bool.or_false, Bool.or_true, Bool.true_or, Bool.false_or, Bool.and_true, Bool.true_and, Bool.and_false, Bool.false_and, and_self, Nat.zero_add, e0, e1, e2]
theorem spot_ok {ns : List Int} (n : Nat) (tl : Gh) (hn : n < 100) (ht : tl.length = 6) : ∃ (s1 : Sl) (tl' : Gh), tl'.length = 6 ∧ spotB (.val (.list (ns.map PyData.int)) :: .val (.int (n : Nat)) :: tl) = some (.nx, .val (.list (ns.map PyData.int)) :: s1 :: tl') := by
  obtain ⟨s2, s3, s4, s5, s6, s7, rfl⟩ : ∃ a b c d e f, tl = [a, b, c, d, e, f] := match tl, ht with | [a, b, c, d, e, f], _ => ⟨a, b, c, d, e, f, rfl⟩
  obtain ⟨d1, h1, e0⟩ := t_dice (ns := ns) (s := n) (by omega)
  obtain ⟨d2, h2, e1⟩ := t_right h1 (by omega)
  obtain ⟨d3, h3, e2⟩ := t_right h2 (by omega)
  exact ⟨_, _, rfl, spot_gen e0 e1 e2⟩
/-! ### the fixed part -/
def wideI : List Int := (List.range 60).map fun k : Nat => (0 + (k : Int) + 1 : Int)
theorem inWide : InF 61 wideI := by
  show ∀ x ∈ wideI, 0 ≤ x ∧ x < 61
  decide +kernel
abbrev longD : Da := .tuple (List.replicate 61 (.int 1))
abbrev wideD : Da := .tuple (wideI.map PyData.int)
theorem f61 : isFld 61 = true := by decide +kernel
theorem x1 : X_poly_product [.val (.int 5), .val longD, .val (.tuple [.int 0, .int 1])] = some (er1 "TooMany" "limit" (.int 60)) := is1i_eq (by decide +kernel)
theorem x2 : Fine X_poly_product Lib.F_poly_product [.val (.int 5), .val longD, .val (.tuple [.int 2])] := fine_by (by decide +kernel) (by decide +kernel)
theorem x3 : Fine X_poly_product Lib.F_poly_product [.val (.int 5), .val longD, .val (.tuple [])] := fine_by (by decide +kernel) (by decide +kernel)
theorem x4 : Fine X_hiding Lib.F_hiding [.val (.int 61), .val wideD] := ⟨Option.isNone_iff_eq_none.mp (by decide +kernel), _, _, t_hiding f61 inWide (by decide +kernel) (by decide +kernel) (by decide +kernel)⟩
theorem x5 : X_hiding [.val (.int 67), .val (.tuple (wideI.map PyData.int ++ [.int 61]))] = some (er0 "InvalidOperation") := is0_eq (by decide +kernel)
theorem x6 : Fine X_checks Lib.F_checks [.val (.int 61), .val wideD, .val (.int 60)] := ⟨Option.isNone_iff_eq_none.mp (by decide +kernel), _, _, t_checks f61 inWide (by decide +kernel) (by decide +kernel) (by decide +kernel) (by decide) (by decide)⟩
theorem x7 : X_weights [.val (.int 67), .val (.tuple ([.int 0] ++ wideI.map PyData.int)), .val (.int 0)] = some (er0 "InvalidOperation") := is0_eq (by decide +kernel)
theorem rf_many : Flat 1 (RF "many 60") := rf_flat (by decide +kernel)
theorem rf_fine : Flat 1 fine__law_met := flat_tuple (n := 0) (cons_flat (flat_str (by decide +kernel)) nil_flat)
theorem fix {N : Da} {a1 a2 a3 a4 a5 a6 a7 : Sl} {R : MS} (hR : R = (sRet [] (mBin dEq (mName 5) (mName 6)))) :
  (sSeq (sPar [3, 4] (mCons (mBin dMulT (mTup (mCons (mC (.int 1)) mNil)) (mC (.int 61))) (mCons (mCall dTuple (mCons (mComp [7] (mRg1 (mCons (mC (.int 60)) mNil)) (setN 7) mYes (mBin dAdd (mName 7) (mC (.int 1)))) mNil)) mNil)))
    (sSeq (sSet 5 (mLst1 (mLam errs__law_met res__law_met fine__law_met (xFn X_poly_product (mCons (mC (.int 5)) (mCons (mName 3) (mCons (mTup (mCons (mC (.int 0)) (mCons (mC (.int 1)) mNil))) mNil)))) (mFn Lib.F_poly_product (mCons (mC (.int 5)) (mCons (mName 3) (mCons (mTup (mCons (mC (.int 0)) (mCons (mC (.int 1)) mNil))) mNil)))))))
    (sSeq (sApp 5 (mLam errs__law_met res__law_met fine__law_met (xFn X_poly_product (mCons (mC (.int 5)) (mCons (mName 3) (mCons (mTup (mCons (mC (.int 2)) mNil)) mNil)))) (mFn Lib.F_poly_product (mCons (mC (.int 5)) (mCons (mName 3) (mCons (mTup (mCons (mC (.int 2)) mNil)) mNil))))))
    (sSeq (sApp 5 (mLam errs__law_met res__law_met fine__law_met (xFn X_poly_product (mCons (mC (.int 5)) (mCons (mName 3) (mCons (mTup mNil) mNil)))) (mFn Lib.F_poly_product (mCons (mC (.int 5)) (mCons (mName 3) (mCons (mTup mNil) mNil))))))
    (sSeq (sApp 5 (mLam errs__law_met res__law_met fine__law_met (xFn X_hiding (mCons (mC (.int 61)) (mCons (mName 4) mNil))) (mFn Lib.F_hiding (mCons (mC (.int 61)) (mCons (mName 4) mNil)))))
    (sSeq (sApp 5 (mLam errs__law_met res__law_met fine__law_met (xFn X_hiding (mCons (mC (.int 67)) (mCons (mBin dAdd (mName 4) (mTup (mCons (mC (.int 61)) mNil))) mNil))) (mFn Lib.F_hiding (mCons (mC (.int 67)) (mCons (mBin dAdd (mName 4) (mTup (mCons (mC (.int 61)) mNil))) mNil)))))
    (sSeq (sApp 5 (mLam errs__law_met res__law_met fine__law_met (xFn X_checks (mCons (mC (.int 61)) (mCons (mName 4) (mCons (mC (.int 60)) mNil)))) (mFn Lib.F_checks (mCons (mC (.int 61)) (mCons (mName 4) (mCons (mC (.int 60)) mNil))))))
    (sSeq (sApp 5 (mLam errs__law_met res__law_met fine__law_met (xFn X_weights (mCons (mC (.int 67)) (mCons (mBin dAdd (mTup (mCons (mC (.int 0)) mNil)) (mName 4)) (mCons (mC (.int 0)) mNil)))) (mFn Lib.F_weights (mCons (mC (.int 67)) (mCons (mBin dAdd (mTup (mCons (mC (.int 0)) mNil)) (mName 4)) (mCons (mC (.int 0)) mNil))))))
    (sSeq (sSet 6 (mLst (mCons (mTup (mCons (mC (.str "refused")) (mCons (mC (.str "many 60")) mNil))) (mCons (mTup (mCons (mC (.str "fine")) mNil)) (mCons (mTup (mCons (mC (.str "fine")) mNil)) (mCons (mTup (mCons (mC (.str "fine")) mNil)) (mCons (mTup (mCons (mC (.str "refused")) (mCons (mC (.str "operation")) mNil))) (mCons (mTup (mCons (mC (.str "fine")) mNil)) (mCons (mTup (mCons (mC (.str "refused")) (mCons (mC (.str "operation")) mNil))) mNil)))))))))
    R))))))))) [.val N, a1, a2, a3, a4, a5, a6, a7] = some (.rt (.dat (.bool true)), [.val N, a1, a2, .val longD, .val wideD, .own [RF "many 60", fine__law_met, fine__law_met, fine__law_met, RF "operation", fine__law_met, RF "operation"], .own [RF "many 60", .tuple [.str "fine"], .tuple [.str "fine"], .tuple [.str "fine"], RF "operation", .tuple [.str "fine"], RF "operation"], a7]) := by
  subst hR
  have cw : (mComp [7] (mRg1 (mCons (mC (.int 60)) mNil)) (setN 7) mYes (mBin dAdd (mName 7) (mC (.int 1)))) [.val N, a1, a2, a3, a4, a5, a6, a7] = some (.fresh (wideI.map PyData.int), [.val N, a1, a2, a3, a4, a5, a6, a7]) := by
    have z := comp_of3 (vs := [7]) (it := mRg1 (mCons (mC (.int 60)) mNil)) (tg := setN 7) (el := mBin dAdd (mName 7) (mC (.int 1))) (e := fun k : Nat => .int (0 + (k : Int))) (F := fun k : Nat => .int (0 + (k : Int) + 1)) (g := [.val N, a1, a2, a3, a4, a5, a6, a7]) (g' := [.val N, a1, a2, a3, a4, a5, a6, a7]) (xs := List.range 60) (gw := [.val N, a1, a2, a3, a4, a5, a6, .un]) (rg1_of (n := 60) (ws := [.dat (.int 60)]) rfl rfl (by decide)) (by simp) rfl rfl (fun k _ => ⟨_, _, _, _, rfl, rfl, rfl, rfl⟩)
    rw [z]
    have e : (List.range 60).map (fun k : Nat => PyData.int (0 + (k : Int) + 1)) = wideI.map PyData.int := by
      unfold wideI
      rw [List.map_map]
      rfl
    rw [e]
  have ct : (mCall dTuple (mCons (mComp [7] (mRg1 (mCons (mC (.int 60)) mNil)) (setN 7) mYes (mBin dAdd (mName 7) (mC (.int 1)))) mNil)) [.val N, a1, a2, a3, a4, a5, a6, a7] = some (.dat wideD, [.val N, a1, a2, a3, a4, a5, a6, a7]) := by
    unfold mCall
    rw [acons cw rfl]
    rfl
  refine (seq_nx (g1 := [.val N, a1, a2, .val longD, .val wideD, a5, a6, a7]) (par_eq (acons (w := .dat longD) rfl (acons ct rfl)) rfl)).trans ?_
  refine (seq_nx (g1 := [.val N, a1, a2, .val longD, .val wideD, .own [RF "many 60"], a6, a7]) (set_lst1 (lam_hit rfl x1 m_many r_many) (by show 5 < 8; decide))).trans ?_
  refine (seq_nx (g1 := [.val N, a1, a2, .val longD, .val wideD, .own [RF "many 60", fine__law_met], a6, a7]) (app_eq (ds := [RF "many 60"]) (lam_fine rfl x2) rfl (by show 1 < sizeLine; decide))).trans ?_
  refine (seq_nx (g1 := [.val N, a1, a2, .val longD, .val wideD, .own [RF "many 60", fine__law_met, fine__law_met], a6, a7]) (app_eq (ds := [RF "many 60", fine__law_met]) (lam_fine rfl x3) rfl (by show 2 < sizeLine; decide))).trans ?_
  refine (seq_nx (g1 := [.val N, a1, a2, .val longD, .val wideD, .own [RF "many 60", fine__law_met, fine__law_met, fine__law_met], a6, a7]) (app_eq (ds := [RF "many 60", fine__law_met, fine__law_met]) (lam_fine rfl x4) rfl (by show 3 < sizeLine; decide))).trans ?_
  refine (seq_nx (g1 := [.val N, a1, a2, .val longD, .val wideD, .own [RF "many 60", fine__law_met, fine__law_met, fine__law_met, RF "operation"], a6, a7]) (app_eq (ds := [RF "many 60", fine__law_met, fine__law_met, fine__law_met]) (lam_hit rfl x5 m_op r_op) rfl (by show 4 < sizeLine; decide))).trans ?_
  refine (seq_nx (g1 := [.val N, a1, a2, .val longD, .val wideD, .own [RF "many 60", fine__law_met, fine__law_met, fine__law_met, RF "operation", fine__law_met], a6, a7]) (app_eq (ds := [RF "many 60", fine__law_met, fine__law_met, fine__law_met, RF "operation"]) (lam_fine rfl x6) rfl (by show 5 < sizeLine; decide))).trans ?_
  refine (seq_nx (g1 := [.val N, a1, a2, .val longD, .val wideD, .own [RF "many 60", fine__law_met, fine__law_met, fine__law_met, RF "operation", fine__law_met, RF "operation"], a6, a7]) (app_eq (ds := [RF "many 60", fine__law_met, fine__law_met, fine__law_met, RF "operation", fine__law_met]) (lam_hit rfl x7 m_op r_op) rfl (by show 6 < sizeLine; decide))).trans ?_
  refine (seq_nx (g1 := [.val N, a1, a2, .val longD, .val wideD, .own [RF "many 60", fine__law_met, fine__law_met, fine__law_met, RF "operation", fine__law_met, RF "operation"], .own [RF "many 60", .tuple [.str "fine"], .tuple [.str "fine"], .tuple [.str "fine"], RF "operation", .tuple [.str "fine"], RF "operation"], a7]) (set_eq (lst_eq (ds := [RF "many 60", .tuple [.str "fine"], .tuple [.str "fine"], .tuple [.str "fine"], RF "operation", .tuple [.str "fine"], RF "operation"]) rfl rfl (by show 7 ≤ sizeLine; decide)) rfl)).trans ?_
  exact ret_all (bin_eq (wa := .slot 5) (wb := .slot 6) (x := .list [RF "many 60", fine__law_met, fine__law_met, fine__law_met, RF "operation", fine__law_met, RF "operation"]) (y := .list [RF "many 60", .tuple [.str "fine"], .tuple [.str "fine"], .tuple [.str "fine"], RF "operation", .tuple [.str "fine"], RF "operation"]) (w := .dat (.bool true)) rfl rfl rfl rfl (d_eqS (flat_list (cons_flat rf_many (cons_flat rf_fine (cons_flat rf_fine (cons_flat rf_fine (cons_flat rf_op (cons_flat rf_fine (cons_flat rf_op nil_flat))))))))))
theorem law_end {M : MS} {N : Da} {w : Wv} {g : Gh} (h : M [.val N, .un, .un, .un, .un, .un, .un, .un] = some (.rt w, g)) : ∃ g', bodyM [] 7 M [.val N] = some (w, g') := ⟨_, by
  show (M [.val N, .un, .un, .un, .un, .un, .un, .un]).bind _ = _
  rw [h]
  rfl⟩
theorem law_true (ns : List Int) (hl : ns.length ≤ 63) (hb : ∀ z ∈ ns, PySem.Builtin.Int.intBits z ≤ 1048576) : ∃ g', F_law [.val (.list (ns.map PyData.int))] = some (.dat (.bool true), g') := by
  obtain ⟨s1, tl, ht, eL⟩ := law_frame (N := .list (ns.map PyData.int)) rfl (by rw [List.length_map]; omega) (C := 4) (by decide) (by decide) (B := spotB) (k := 6) (fun n tl h1 h2 => spot_ok n tl h1 h2) .un [.un, .un, .un, .un, .un, .un] rfl
  obtain ⟨s2, s3, s4, s5, s6, s7, rfl⟩ : ∃ a b c d e f, tl = [a, b, c, d, e, f] := match tl, ht with | [a, b, c, d, e, f], _ => ⟨a, b, c, d, e, f, rfl⟩
  have key := (seq_nx eL).trans (fix (N := .list (ns.map PyData.int)) (a1 := s1) (a2 := s2) (a3 := s3) (a4 := s4) (a5 := s5) (a6 := s6) (a7 := s7) rfl)
  unfold F_law m_law
  exact law_end key
end K06
end
section
set_option autoImplicit false
namespace K06
open PySem PySem.Spec PyProof.Rows L2 LamX EV
theorem all_mk {l : PySem.W.OpenLaw} {w : World} {K : Frag} {h : Heap} {mg : Str → Option Value} {fa : Addr} {q : Program} (X : K.In h) (G : h.Ns mainGlobals mg) (hfa : mg "law" = some (.ref fa)) (TA : TabsAll q mg h)
    (LT : ∀ ns : List Int, ns.length ≤ 63 → (∀ z ∈ ns, Builtin.Int.intBits z ≤ 1048576) → ∃ g', F_law [.val (.list (ns.map PyData.int))] = some (.dat (.bool true), g'))
    {f_is_integer : Addr} {od_is_integer an_is_integer : Option Addr} {sl_is_integer : Array (Option Value)} {oc_is_integer kV_is_integer dc_is_integer pm_is_integer cd_is_integer ct_is_integer : Value}
    (a_is_integer : PySem.W.nsIn K mainGlobals "is_integer" = some (some (.ref f_is_integer))) (l_is_integer : K.lookup f_is_integer = some ⟨oc_is_integer, od_is_integer, .func (PySem.W.fnOf "is_integer" "is_integer" (defArgs s_is_integer) (defBody s_is_integer) (defScope s_is_integer) .none kV_is_integer dc_is_integer pm_is_integer an_is_integer cd_is_integer ct_is_integer), sl_is_integer⟩) (c_is_integer : PySem.W.codeIn K cd_is_integer "is_integer" = true) (k_is_integer : PySem.W.keepIn K (.ref f_is_integer) = true)
    {f_is_field : Addr} {od_is_field an_is_field : Option Addr} {sl_is_field : Array (Option Value)} {oc_is_field kV_is_field dc_is_field pm_is_field cd_is_field ct_is_field : Value}
    (a_is_field : PySem.W.nsIn K mainGlobals "is_field" = some (some (.ref f_is_field))) (l_is_field : K.lookup f_is_field = some ⟨oc_is_field, od_is_field, .func (PySem.W.fnOf "is_field" "is_field" (defArgs s_is_field) (defBody s_is_field) (defScope s_is_field) .none kV_is_field dc_is_field pm_is_field an_is_field cd_is_field ct_is_field), sl_is_field⟩) (c_is_field : PySem.W.codeIn K cd_is_field "is_field" = true) (k_is_field : PySem.W.keepIn K (.ref f_is_field) = true)
    {f_are_numbers : Addr} {od_are_numbers an_are_numbers : Option Addr} {sl_are_numbers : Array (Option Value)} {oc_are_numbers kV_are_numbers dc_are_numbers pm_are_numbers cd_are_numbers ct_are_numbers : Value}
    (a_are_numbers : PySem.W.nsIn K mainGlobals "are_numbers" = some (some (.ref f_are_numbers))) (l_are_numbers : K.lookup f_are_numbers = some ⟨oc_are_numbers, od_are_numbers, .func (PySem.W.fnOf "are_numbers" "are_numbers" (defArgs s_are_numbers) (defBody s_are_numbers) (defScope s_are_numbers) .none kV_are_numbers dc_are_numbers pm_are_numbers an_are_numbers cd_are_numbers ct_are_numbers), sl_are_numbers⟩) (c_are_numbers : PySem.W.codeIn K cd_are_numbers "are_numbers" = true) (k_are_numbers : PySem.W.keepIn K (.ref f_are_numbers) = true)
    {f_check_integer : Addr} {od_check_integer an_check_integer : Option Addr} {sl_check_integer : Array (Option Value)} {oc_check_integer kV_check_integer dc_check_integer pm_check_integer cd_check_integer ct_check_integer : Value}
    (a_check_integer : PySem.W.nsIn K mainGlobals "check_integer" = some (some (.ref f_check_integer))) (l_check_integer : K.lookup f_check_integer = some ⟨oc_check_integer, od_check_integer, .func (PySem.W.fnOf "check_integer" "check_integer" (defArgs s_check_integer) (defBody s_check_integer) (defScope s_check_integer) .none kV_check_integer dc_check_integer pm_check_integer an_check_integer cd_check_integer ct_check_integer), sl_check_integer⟩) (c_check_integer : PySem.W.codeIn K cd_check_integer "check_integer" = true) (k_check_integer : PySem.W.keepIn K (.ref f_check_integer) = true)
    {f_check_field : Addr} {od_check_field an_check_field : Option Addr} {sl_check_field : Array (Option Value)} {oc_check_field kV_check_field dc_check_field pm_check_field cd_check_field ct_check_field : Value}
    (a_check_field : PySem.W.nsIn K mainGlobals "check_field" = some (some (.ref f_check_field))) (l_check_field : K.lookup f_check_field = some ⟨oc_check_field, od_check_field, .func (PySem.W.fnOf "check_field" "check_field" (defArgs s_check_field) (defBody s_check_field) (defScope s_check_field) .none kV_check_field dc_check_field pm_check_field an_check_field cd_check_field ct_check_field), sl_check_field⟩) (c_check_field : PySem.W.codeIn K cd_check_field "check_field" = true) (k_check_field : PySem.W.keepIn K (.ref f_check_field) = true)
    {f_check_number : Addr} {od_check_number an_check_number : Option Addr} {sl_check_number : Array (Option Value)} {oc_check_number kV_check_number dc_check_number pm_check_number cd_check_number ct_check_number : Value}
    (a_check_number : PySem.W.nsIn K mainGlobals "check_number" = some (some (.ref f_check_number))) (l_check_number : K.lookup f_check_number = some ⟨oc_check_number, od_check_number, .func (PySem.W.fnOf "check_number" "check_number" (defArgs s_check_number) (defBody s_check_number) (defScope s_check_number) .none kV_check_number dc_check_number pm_check_number an_check_number cd_check_number ct_check_number), sl_check_number⟩) (c_check_number : PySem.W.codeIn K cd_check_number "check_number" = true) (k_check_number : PySem.W.keepIn K (.ref f_check_number) = true)
    {f_raised : Addr} {od_raised an_raised : Option Addr} {sl_raised : Array (Option Value)} {oc_raised kV_raised dc_raised pm_raised cd_raised ct_raised : Value}
    (a_raised : PySem.W.nsIn K mainGlobals "raised" = some (some (.ref f_raised))) (l_raised : K.lookup f_raised = some ⟨oc_raised, od_raised, .func (PySem.W.fnOf "raised" "raised" (defArgs s_raised) (defBody s_raised) (defScope s_raised) .none kV_raised dc_raised pm_raised an_raised cd_raised ct_raised), sl_raised⟩) (c_raised : PySem.W.codeIn K cd_raised "raised" = true) (k_raised : PySem.W.keepIn K (.ref f_raised) = true)
    {f_inverse : Addr} {od_inverse an_inverse : Option Addr} {sl_inverse : Array (Option Value)} {oc_inverse kV_inverse dc_inverse pm_inverse cd_inverse ct_inverse : Value}
    (a_inverse : PySem.W.nsIn K mainGlobals "inverse" = some (some (.ref f_inverse))) (l_inverse : K.lookup f_inverse = some ⟨oc_inverse, od_inverse, .func (PySem.W.fnOf "inverse" "inverse" (defArgs s_inverse) (defBody s_inverse) (defScope s_inverse) .none kV_inverse dc_inverse pm_inverse an_inverse cd_inverse ct_inverse), sl_inverse⟩) (c_inverse : PySem.W.codeIn K cd_inverse "inverse" = true) (k_inverse : PySem.W.keepIn K (.ref f_inverse) = true)
    {f_is_poly : Addr} {od_is_poly an_is_poly : Option Addr} {sl_is_poly : Array (Option Value)} {oc_is_poly kV_is_poly dc_is_poly pm_is_poly cd_is_poly ct_is_poly : Value}
    (a_is_poly : PySem.W.nsIn K mainGlobals "is_poly" = some (some (.ref f_is_poly))) (l_is_poly : K.lookup f_is_poly = some ⟨oc_is_poly, od_is_poly, .func (PySem.W.fnOf "is_poly" "is_poly" (defArgs s_is_poly) (defBody s_is_poly) (defScope s_is_poly) .none kV_is_poly dc_is_poly pm_is_poly an_is_poly cd_is_poly ct_is_poly), sl_is_poly⟩) (c_is_poly : PySem.W.codeIn K cd_is_poly "is_poly" = true) (k_is_poly : PySem.W.keepIn K (.ref f_is_poly) = true)
    {f_are_unlike : Addr} {od_are_unlike an_are_unlike : Option Addr} {sl_are_unlike : Array (Option Value)} {oc_are_unlike kV_are_unlike dc_are_unlike pm_are_unlike cd_are_unlike ct_are_unlike : Value}
    (a_are_unlike : PySem.W.nsIn K mainGlobals "are_unlike" = some (some (.ref f_are_unlike))) (l_are_unlike : K.lookup f_are_unlike = some ⟨oc_are_unlike, od_are_unlike, .func (PySem.W.fnOf "are_unlike" "are_unlike" (defArgs s_are_unlike) (defBody s_are_unlike) (defScope s_are_unlike) .none kV_are_unlike dc_are_unlike pm_are_unlike an_are_unlike cd_are_unlike ct_are_unlike), sl_are_unlike⟩) (c_are_unlike : PySem.W.codeIn K cd_are_unlike "are_unlike" = true) (k_are_unlike : PySem.W.keepIn K (.ref f_are_unlike) = true)
    {f_check_poly : Addr} {od_check_poly an_check_poly : Option Addr} {sl_check_poly : Array (Option Value)} {oc_check_poly kV_check_poly dc_check_poly pm_check_poly cd_check_poly ct_check_poly : Value}
    (a_check_poly : PySem.W.nsIn K mainGlobals "check_poly" = some (some (.ref f_check_poly))) (l_check_poly : K.lookup f_check_poly = some ⟨oc_check_poly, od_check_poly, .func (PySem.W.fnOf "check_poly" "check_poly" (defArgs s_check_poly) (defBody s_check_poly) (defScope s_check_poly) .none kV_check_poly dc_check_poly pm_check_poly an_check_poly cd_check_poly ct_check_poly), sl_check_poly⟩) (c_check_poly : PySem.W.codeIn K cd_check_poly "check_poly" = true) (k_check_poly : PySem.W.keepIn K (.ref f_check_poly) = true)
    {f_check_places : Addr} {od_check_places an_check_places : Option Addr} {sl_check_places : Array (Option Value)} {oc_check_places kV_check_places dc_check_places pm_check_places cd_check_places ct_check_places : Value}
    (a_check_places : PySem.W.nsIn K mainGlobals "check_places" = some (some (.ref f_check_places))) (l_check_places : K.lookup f_check_places = some ⟨oc_check_places, od_check_places, .func (PySem.W.fnOf "check_places" "check_places" (defArgs s_check_places) (defBody s_check_places) (defScope s_check_places) .none kV_check_places dc_check_places pm_check_places an_check_places cd_check_places ct_check_places), sl_check_places⟩) (c_check_places : PySem.W.codeIn K cd_check_places "check_places" = true) (k_check_places : PySem.W.keepIn K (.ref f_check_places) = true)
    {f_check_hidden_places : Addr} {od_check_hidden_places an_check_hidden_places : Option Addr} {sl_check_hidden_places : Array (Option Value)} {oc_check_hidden_places kV_check_hidden_places dc_check_hidden_places pm_check_hidden_places cd_check_hidden_places ct_check_hidden_places : Value}
    (a_check_hidden_places : PySem.W.nsIn K mainGlobals "check_hidden_places" = some (some (.ref f_check_hidden_places))) (l_check_hidden_places : K.lookup f_check_hidden_places = some ⟨oc_check_hidden_places, od_check_hidden_places, .func (PySem.W.fnOf "check_hidden_places" "check_hidden_places" (defArgs s_check_hidden_places) (defBody s_check_hidden_places) (defScope s_check_hidden_places) .none kV_check_hidden_places dc_check_hidden_places pm_check_hidden_places an_check_hidden_places cd_check_hidden_places ct_check_hidden_places), sl_check_hidden_places⟩) (c_check_hidden_places : PySem.W.codeIn K cd_check_hidden_places "check_hidden_places" = true) (k_check_hidden_places : PySem.W.keepIn K (.ref f_check_hidden_places) = true)
    {f_check_points : Addr} {od_check_points an_check_points : Option Addr} {sl_check_points : Array (Option Value)} {oc_check_points kV_check_points dc_check_points pm_check_points cd_check_points ct_check_points : Value}
    (a_check_points : PySem.W.nsIn K mainGlobals "check_points" = some (some (.ref f_check_points))) (l_check_points : K.lookup f_check_points = some ⟨oc_check_points, od_check_points, .func (PySem.W.fnOf "check_points" "check_points" (defArgs s_check_points) (defBody s_check_points) (defScope s_check_points) .none kV_check_points dc_check_points pm_check_points an_check_points cd_check_points ct_check_points), sl_check_points⟩) (c_check_points : PySem.W.codeIn K cd_check_points "check_points" = true) (k_check_points : PySem.W.keepIn K (.ref f_check_points) = true)
    {f_trimmed : Addr} {od_trimmed an_trimmed : Option Addr} {sl_trimmed : Array (Option Value)} {oc_trimmed kV_trimmed dc_trimmed pm_trimmed cd_trimmed ct_trimmed : Value}
    (a_trimmed : PySem.W.nsIn K mainGlobals "trimmed" = some (some (.ref f_trimmed))) (l_trimmed : K.lookup f_trimmed = some ⟨oc_trimmed, od_trimmed, .func (PySem.W.fnOf "trimmed" "trimmed" (defArgs s_trimmed) (defBody s_trimmed) (defScope s_trimmed) .none kV_trimmed dc_trimmed pm_trimmed an_trimmed cd_trimmed ct_trimmed), sl_trimmed⟩) (c_trimmed : PySem.W.codeIn K cd_trimmed "trimmed" = true) (k_trimmed : PySem.W.keepIn K (.ref f_trimmed) = true)
    {f_padded : Addr} {od_padded an_padded : Option Addr} {sl_padded : Array (Option Value)} {oc_padded kV_padded dc_padded pm_padded cd_padded ct_padded : Value}
    (a_padded : PySem.W.nsIn K mainGlobals "padded" = some (some (.ref f_padded))) (l_padded : K.lookup f_padded = some ⟨oc_padded, od_padded, .func (PySem.W.fnOf "padded" "padded" (defArgs s_padded) (defBody s_padded) (defScope s_padded) .none kV_padded dc_padded pm_padded an_padded cd_padded ct_padded), sl_padded⟩) (c_padded : PySem.W.codeIn K cd_padded "padded" = true) (k_padded : PySem.W.keepIn K (.ref f_padded) = true)
    {f_scaled : Addr} {od_scaled an_scaled : Option Addr} {sl_scaled : Array (Option Value)} {oc_scaled kV_scaled dc_scaled pm_scaled cd_scaled ct_scaled : Value}
    (a_scaled : PySem.W.nsIn K mainGlobals "scaled" = some (some (.ref f_scaled))) (l_scaled : K.lookup f_scaled = some ⟨oc_scaled, od_scaled, .func (PySem.W.fnOf "scaled" "scaled" (defArgs s_scaled) (defBody s_scaled) (defScope s_scaled) .none kV_scaled dc_scaled pm_scaled an_scaled cd_scaled ct_scaled), sl_scaled⟩) (c_scaled : PySem.W.codeIn K cd_scaled "scaled" = true) (k_scaled : PySem.W.keepIn K (.ref f_scaled) = true)
    {f_added : Addr} {od_added an_added : Option Addr} {sl_added : Array (Option Value)} {oc_added kV_added dc_added pm_added cd_added ct_added : Value}
    (a_added : PySem.W.nsIn K mainGlobals "added" = some (some (.ref f_added))) (l_added : K.lookup f_added = some ⟨oc_added, od_added, .func (PySem.W.fnOf "added" "added" (defArgs s_added) (defBody s_added) (defScope s_added) .none kV_added dc_added pm_added an_added cd_added ct_added), sl_added⟩) (c_added : PySem.W.codeIn K cd_added "added" = true) (k_added : PySem.W.keepIn K (.ref f_added) = true)
    {f_multiplied : Addr} {od_multiplied an_multiplied : Option Addr} {sl_multiplied : Array (Option Value)} {oc_multiplied kV_multiplied dc_multiplied pm_multiplied cd_multiplied ct_multiplied : Value}
    (a_multiplied : PySem.W.nsIn K mainGlobals "multiplied" = some (some (.ref f_multiplied))) (l_multiplied : K.lookup f_multiplied = some ⟨oc_multiplied, od_multiplied, .func (PySem.W.fnOf "multiplied" "multiplied" (defArgs s_multiplied) (defBody s_multiplied) (defScope s_multiplied) .none kV_multiplied dc_multiplied pm_multiplied an_multiplied cd_multiplied ct_multiplied), sl_multiplied⟩) (c_multiplied : PySem.W.codeIn K cd_multiplied "multiplied" = true) (k_multiplied : PySem.W.keepIn K (.ref f_multiplied) = true)
    {f_evaluated : Addr} {od_evaluated an_evaluated : Option Addr} {sl_evaluated : Array (Option Value)} {oc_evaluated kV_evaluated dc_evaluated pm_evaluated cd_evaluated ct_evaluated : Value}
    (a_evaluated : PySem.W.nsIn K mainGlobals "evaluated" = some (some (.ref f_evaluated))) (l_evaluated : K.lookup f_evaluated = some ⟨oc_evaluated, od_evaluated, .func (PySem.W.fnOf "evaluated" "evaluated" (defArgs s_evaluated) (defBody s_evaluated) (defScope s_evaluated) .none kV_evaluated dc_evaluated pm_evaluated an_evaluated cd_evaluated ct_evaluated), sl_evaluated⟩) (c_evaluated : PySem.W.codeIn K cd_evaluated "evaluated" = true) (k_evaluated : PySem.W.keepIn K (.ref f_evaluated) = true)
    {f_poly_sum : Addr} {od_poly_sum an_poly_sum : Option Addr} {sl_poly_sum : Array (Option Value)} {oc_poly_sum kV_poly_sum dc_poly_sum pm_poly_sum cd_poly_sum ct_poly_sum : Value}
    (a_poly_sum : PySem.W.nsIn K mainGlobals "poly_sum" = some (some (.ref f_poly_sum))) (l_poly_sum : K.lookup f_poly_sum = some ⟨oc_poly_sum, od_poly_sum, .func (PySem.W.fnOf "poly_sum" "poly_sum" (defArgs s_poly_sum) (defBody s_poly_sum) (defScope s_poly_sum) .none kV_poly_sum dc_poly_sum pm_poly_sum an_poly_sum cd_poly_sum ct_poly_sum), sl_poly_sum⟩) (c_poly_sum : PySem.W.codeIn K cd_poly_sum "poly_sum" = true) (k_poly_sum : PySem.W.keepIn K (.ref f_poly_sum) = true)
    {f_poly_scaled : Addr} {od_poly_scaled an_poly_scaled : Option Addr} {sl_poly_scaled : Array (Option Value)} {oc_poly_scaled kV_poly_scaled dc_poly_scaled pm_poly_scaled cd_poly_scaled ct_poly_scaled : Value}
    (a_poly_scaled : PySem.W.nsIn K mainGlobals "poly_scaled" = some (some (.ref f_poly_scaled))) (l_poly_scaled : K.lookup f_poly_scaled = some ⟨oc_poly_scaled, od_poly_scaled, .func (PySem.W.fnOf "poly_scaled" "poly_scaled" (defArgs s_poly_scaled) (defBody s_poly_scaled) (defScope s_poly_scaled) .none kV_poly_scaled dc_poly_scaled pm_poly_scaled an_poly_scaled cd_poly_scaled ct_poly_scaled), sl_poly_scaled⟩) (c_poly_scaled : PySem.W.codeIn K cd_poly_scaled "poly_scaled" = true) (k_poly_scaled : PySem.W.keepIn K (.ref f_poly_scaled) = true)
    {f_poly_product : Addr} {od_poly_product an_poly_product : Option Addr} {sl_poly_product : Array (Option Value)} {oc_poly_product kV_poly_product dc_poly_product pm_poly_product cd_poly_product ct_poly_product : Value}
    (a_poly_product : PySem.W.nsIn K mainGlobals "poly_product" = some (some (.ref f_poly_product))) (l_poly_product : K.lookup f_poly_product = some ⟨oc_poly_product, od_poly_product, .func (PySem.W.fnOf "poly_product" "poly_product" (defArgs s_poly_product) (defBody s_poly_product) (defScope s_poly_product) .none kV_poly_product dc_poly_product pm_poly_product an_poly_product cd_poly_product ct_poly_product), sl_poly_product⟩) (c_poly_product : PySem.W.codeIn K cd_poly_product "poly_product" = true) (k_poly_product : PySem.W.keepIn K (.ref f_poly_product) = true)
    {f_poly_divided : Addr} {od_poly_divided an_poly_divided : Option Addr} {sl_poly_divided : Array (Option Value)} {oc_poly_divided kV_poly_divided dc_poly_divided pm_poly_divided cd_poly_divided ct_poly_divided : Value}
    (a_poly_divided : PySem.W.nsIn K mainGlobals "poly_divided" = some (some (.ref f_poly_divided))) (l_poly_divided : K.lookup f_poly_divided = some ⟨oc_poly_divided, od_poly_divided, .func (PySem.W.fnOf "poly_divided" "poly_divided" (defArgs s_poly_divided) (defBody s_poly_divided) (defScope s_poly_divided) .none kV_poly_divided dc_poly_divided pm_poly_divided an_poly_divided cd_poly_divided ct_poly_divided), sl_poly_divided⟩) (c_poly_divided : PySem.W.codeIn K cd_poly_divided "poly_divided" = true) (k_poly_divided : PySem.W.keepIn K (.ref f_poly_divided) = true)
    {f_value_at : Addr} {od_value_at an_value_at : Option Addr} {sl_value_at : Array (Option Value)} {oc_value_at kV_value_at dc_value_at pm_value_at cd_value_at ct_value_at : Value}
    (a_value_at : PySem.W.nsIn K mainGlobals "value_at" = some (some (.ref f_value_at))) (l_value_at : K.lookup f_value_at = some ⟨oc_value_at, od_value_at, .func (PySem.W.fnOf "value_at" "value_at" (defArgs s_value_at) (defBody s_value_at) (defScope s_value_at) .none kV_value_at dc_value_at pm_value_at an_value_at cd_value_at ct_value_at), sl_value_at⟩) (c_value_at : PySem.W.codeIn K cd_value_at "value_at" = true) (k_value_at : PySem.W.keepIn K (.ref f_value_at) = true)
    {f_values_at : Addr} {od_values_at an_values_at : Option Addr} {sl_values_at : Array (Option Value)} {oc_values_at kV_values_at dc_values_at pm_values_at cd_values_at ct_values_at : Value}
    (a_values_at : PySem.W.nsIn K mainGlobals "values_at" = some (some (.ref f_values_at))) (l_values_at : K.lookup f_values_at = some ⟨oc_values_at, od_values_at, .func (PySem.W.fnOf "values_at" "values_at" (defArgs s_values_at) (defBody s_values_at) (defScope s_values_at) .none kV_values_at dc_values_at pm_values_at an_values_at cd_values_at ct_values_at), sl_values_at⟩) (c_values_at : PySem.W.codeIn K cd_values_at "values_at" = true) (k_values_at : PySem.W.keepIn K (.ref f_values_at) = true)
    {f_vanishing : Addr} {od_vanishing an_vanishing : Option Addr} {sl_vanishing : Array (Option Value)} {oc_vanishing kV_vanishing dc_vanishing pm_vanishing cd_vanishing ct_vanishing : Value}
    (a_vanishing : PySem.W.nsIn K mainGlobals "vanishing" = some (some (.ref f_vanishing))) (l_vanishing : K.lookup f_vanishing = some ⟨oc_vanishing, od_vanishing, .func (PySem.W.fnOf "vanishing" "vanishing" (defArgs s_vanishing) (defBody s_vanishing) (defScope s_vanishing) .none kV_vanishing dc_vanishing pm_vanishing an_vanishing cd_vanishing ct_vanishing), sl_vanishing⟩) (c_vanishing : PySem.W.codeIn K cd_vanishing "vanishing" = true) (k_vanishing : PySem.W.keepIn K (.ref f_vanishing) = true)
    {f_without_root : Addr} {od_without_root an_without_root : Option Addr} {sl_without_root : Array (Option Value)} {oc_without_root kV_without_root dc_without_root pm_without_root cd_without_root ct_without_root : Value}
    (a_without_root : PySem.W.nsIn K mainGlobals "without_root" = some (some (.ref f_without_root))) (l_without_root : K.lookup f_without_root = some ⟨oc_without_root, od_without_root, .func (PySem.W.fnOf "without_root" "without_root" (defArgs s_without_root) (defBody s_without_root) (defScope s_without_root) .none kV_without_root dc_without_root pm_without_root an_without_root cd_without_root ct_without_root), sl_without_root⟩) (c_without_root : PySem.W.codeIn K cd_without_root "without_root" = true) (k_without_root : PySem.W.keepIn K (.ref f_without_root) = true)
    {f_parts_of : Addr} {od_parts_of an_parts_of : Option Addr} {sl_parts_of : Array (Option Value)} {oc_parts_of kV_parts_of dc_parts_of pm_parts_of cd_parts_of ct_parts_of : Value}
    (a_parts_of : PySem.W.nsIn K mainGlobals "parts_of" = some (some (.ref f_parts_of))) (l_parts_of : K.lookup f_parts_of = some ⟨oc_parts_of, od_parts_of, .func (PySem.W.fnOf "parts_of" "parts_of" (defArgs s_parts_of) (defBody s_parts_of) (defScope s_parts_of) .none kV_parts_of dc_parts_of pm_parts_of an_parts_of cd_parts_of ct_parts_of), sl_parts_of⟩) (c_parts_of : PySem.W.codeIn K cd_parts_of "parts_of" = true) (k_parts_of : PySem.W.keepIn K (.ref f_parts_of) = true)
    {f_units_of : Addr} {od_units_of an_units_of : Option Addr} {sl_units_of : Array (Option Value)} {oc_units_of kV_units_of dc_units_of pm_units_of cd_units_of ct_units_of : Value}
    (a_units_of : PySem.W.nsIn K mainGlobals "units_of" = some (some (.ref f_units_of))) (l_units_of : K.lookup f_units_of = some ⟨oc_units_of, od_units_of, .func (PySem.W.fnOf "units_of" "units_of" (defArgs s_units_of) (defBody s_units_of) (defScope s_units_of) .none kV_units_of dc_units_of pm_units_of an_units_of cd_units_of ct_units_of), sl_units_of⟩) (c_units_of : PySem.W.codeIn K cd_units_of "units_of" = true) (k_units_of : PySem.W.keepIn K (.ref f_units_of) = true)
    {f_interpolated : Addr} {od_interpolated an_interpolated : Option Addr} {sl_interpolated : Array (Option Value)} {oc_interpolated kV_interpolated dc_interpolated pm_interpolated cd_interpolated ct_interpolated : Value}
    (a_interpolated : PySem.W.nsIn K mainGlobals "interpolated" = some (some (.ref f_interpolated))) (l_interpolated : K.lookup f_interpolated = some ⟨oc_interpolated, od_interpolated, .func (PySem.W.fnOf "interpolated" "interpolated" (defArgs s_interpolated) (defBody s_interpolated) (defScope s_interpolated) .none kV_interpolated dc_interpolated pm_interpolated an_interpolated cd_interpolated ct_interpolated), sl_interpolated⟩) (c_interpolated : PySem.W.codeIn K cd_interpolated "interpolated" = true) (k_interpolated : PySem.W.keepIn K (.ref f_interpolated) = true)
    {f_through : Addr} {od_through an_through : Option Addr} {sl_through : Array (Option Value)} {oc_through kV_through dc_through pm_through cd_through ct_through : Value}
    (a_through : PySem.W.nsIn K mainGlobals "through" = some (some (.ref f_through))) (l_through : K.lookup f_through = some ⟨oc_through, od_through, .func (PySem.W.fnOf "through" "through" (defArgs s_through) (defBody s_through) (defScope s_through) .none kV_through dc_through pm_through an_through cd_through ct_through), sl_through⟩) (c_through : PySem.W.codeIn K cd_through "through" = true) (k_through : PySem.W.keepIn K (.ref f_through) = true)
    {f_weights : Addr} {od_weights an_weights : Option Addr} {sl_weights : Array (Option Value)} {oc_weights kV_weights dc_weights pm_weights cd_weights ct_weights : Value}
    (a_weights : PySem.W.nsIn K mainGlobals "weights" = some (some (.ref f_weights))) (l_weights : K.lookup f_weights = some ⟨oc_weights, od_weights, .func (PySem.W.fnOf "weights" "weights" (defArgs s_weights) (defBody s_weights) (defScope s_weights) .none kV_weights dc_weights pm_weights an_weights cd_weights ct_weights), sl_weights⟩) (c_weights : PySem.W.codeIn K cd_weights "weights" = true) (k_weights : PySem.W.keepIn K (.ref f_weights) = true)
    {f_check_rows : Addr} {od_check_rows an_check_rows : Option Addr} {sl_check_rows : Array (Option Value)} {oc_check_rows kV_check_rows dc_check_rows pm_check_rows cd_check_rows ct_check_rows : Value}
    (a_check_rows : PySem.W.nsIn K mainGlobals "check_rows" = some (some (.ref f_check_rows))) (l_check_rows : K.lookup f_check_rows = some ⟨oc_check_rows, od_check_rows, .func (PySem.W.fnOf "check_rows" "check_rows" (defArgs s_check_rows) (defBody s_check_rows) (defScope s_check_rows) .none kV_check_rows dc_check_rows pm_check_rows an_check_rows cd_check_rows ct_check_rows), sl_check_rows⟩) (c_check_rows : PySem.W.codeIn K cd_check_rows "check_rows" = true) (k_check_rows : PySem.W.keepIn K (.ref f_check_rows) = true)
    {f_checks : Addr} {od_checks an_checks : Option Addr} {sl_checks : Array (Option Value)} {oc_checks kV_checks dc_checks pm_checks cd_checks ct_checks : Value}
    (a_checks : PySem.W.nsIn K mainGlobals "checks" = some (some (.ref f_checks))) (l_checks : K.lookup f_checks = some ⟨oc_checks, od_checks, .func (PySem.W.fnOf "checks" "checks" (defArgs s_checks) (defBody s_checks) (defScope s_checks) .none kV_checks dc_checks pm_checks an_checks cd_checks ct_checks), sl_checks⟩) (c_checks : PySem.W.codeIn K cd_checks "checks" = true) (k_checks : PySem.W.keepIn K (.ref f_checks) = true)
    {f_hiding_poly : Addr} {od_hiding_poly an_hiding_poly : Option Addr} {sl_hiding_poly : Array (Option Value)} {oc_hiding_poly kV_hiding_poly dc_hiding_poly pm_hiding_poly cd_hiding_poly ct_hiding_poly : Value}
    (a_hiding_poly : PySem.W.nsIn K mainGlobals "hiding_poly" = some (some (.ref f_hiding_poly))) (l_hiding_poly : K.lookup f_hiding_poly = some ⟨oc_hiding_poly, od_hiding_poly, .func (PySem.W.fnOf "hiding_poly" "hiding_poly" (defArgs s_hiding_poly) (defBody s_hiding_poly) (defScope s_hiding_poly) .none kV_hiding_poly dc_hiding_poly pm_hiding_poly an_hiding_poly cd_hiding_poly ct_hiding_poly), sl_hiding_poly⟩) (c_hiding_poly : PySem.W.codeIn K cd_hiding_poly "hiding_poly" = true) (k_hiding_poly : PySem.W.keepIn K (.ref f_hiding_poly) = true)
    {f_hiding : Addr} {od_hiding an_hiding : Option Addr} {sl_hiding : Array (Option Value)} {oc_hiding kV_hiding dc_hiding pm_hiding cd_hiding ct_hiding : Value}
    (a_hiding : PySem.W.nsIn K mainGlobals "hiding" = some (some (.ref f_hiding))) (l_hiding : K.lookup f_hiding = some ⟨oc_hiding, od_hiding, .func (PySem.W.fnOf "hiding" "hiding" (defArgs s_hiding) (defBody s_hiding) (defScope s_hiding) .none kV_hiding dc_hiding pm_hiding an_hiding cd_hiding ct_hiding), sl_hiding⟩) (c_hiding : PySem.W.codeIn K cd_hiding "hiding" = true) (k_hiding : PySem.W.keepIn K (.ref f_hiding) = true)
    {f_hidden : Addr} {od_hidden an_hidden : Option Addr} {sl_hidden : Array (Option Value)} {oc_hidden kV_hidden dc_hidden pm_hidden cd_hidden ct_hidden : Value}
    (a_hidden : PySem.W.nsIn K mainGlobals "hidden" = some (some (.ref f_hidden))) (l_hidden : K.lookup f_hidden = some ⟨oc_hidden, od_hidden, .func (PySem.W.fnOf "hidden" "hidden" (defArgs s_hidden) (defBody s_hidden) (defScope s_hidden) .none kV_hidden dc_hidden pm_hidden an_hidden cd_hidden ct_hidden), sl_hidden⟩) (c_hidden : PySem.W.codeIn K cd_hidden "hidden" = true) (k_hidden : PySem.W.keepIn K (.ref f_hidden) = true)
    {f__law_dice : Addr} {od__law_dice an__law_dice : Option Addr} {sl__law_dice : Array (Option Value)} {oc__law_dice kV__law_dice dc__law_dice pm__law_dice cd__law_dice ct__law_dice : Value}
    (a__law_dice : PySem.W.nsIn K mainGlobals "_law_dice" = some (some (.ref f__law_dice))) (l__law_dice : K.lookup f__law_dice = some ⟨oc__law_dice, od__law_dice, .func (PySem.W.fnOf "_law_dice" "_law_dice" (defArgs s__law_dice) (defBody s__law_dice) (defScope s__law_dice) .none kV__law_dice dc__law_dice pm__law_dice an__law_dice cd__law_dice ct__law_dice), sl__law_dice⟩) (c__law_dice : PySem.W.codeIn K cd__law_dice "_law_dice" = true) (k__law_dice : PySem.W.keepIn K (.ref f__law_dice) = true)
    {f__law_roll : Addr} {od__law_roll an__law_roll : Option Addr} {sl__law_roll : Array (Option Value)} {oc__law_roll kV__law_roll dc__law_roll pm__law_roll cd__law_roll ct__law_roll : Value}
    (a__law_roll : PySem.W.nsIn K mainGlobals "_law_roll" = some (some (.ref f__law_roll))) (l__law_roll : K.lookup f__law_roll = some ⟨oc__law_roll, od__law_roll, .func (PySem.W.fnOf "_law_roll" "_law_roll" (defArgs s__law_roll) (defBody s__law_roll) (defScope s__law_roll) .none kV__law_roll dc__law_roll pm__law_roll an__law_roll cd__law_roll ct__law_roll), sl__law_roll⟩) (c__law_roll : PySem.W.codeIn K cd__law_roll "_law_roll" = true) (k__law_roll : PySem.W.keepIn K (.ref f__law_roll) = true)
    {f__law_pick : Addr} {od__law_pick an__law_pick : Option Addr} {sl__law_pick : Array (Option Value)} {oc__law_pick kV__law_pick dc__law_pick pm__law_pick cd__law_pick ct__law_pick : Value}
    (a__law_pick : PySem.W.nsIn K mainGlobals "_law_pick" = some (some (.ref f__law_pick))) (l__law_pick : K.lookup f__law_pick = some ⟨oc__law_pick, od__law_pick, .func (PySem.W.fnOf "_law_pick" "_law_pick" (defArgs s__law_pick) (defBody s__law_pick) (defScope s__law_pick) .none kV__law_pick dc__law_pick pm__law_pick an__law_pick cd__law_pick ct__law_pick), sl__law_pick⟩) (c__law_pick : PySem.W.codeIn K cd__law_pick "_law_pick" = true) (k__law_pick : PySem.W.keepIn K (.ref f__law_pick) = true)
    {f__law_met : Addr} {od__law_met an__law_met : Option Addr} {sl__law_met : Array (Option Value)} {oc__law_met kV__law_met dc__law_met pm__law_met cd__law_met ct__law_met : Value}
    (a__law_met : PySem.W.nsIn K mainGlobals "_law_met" = some (some (.ref f__law_met))) (l__law_met : K.lookup f__law_met = some ⟨oc__law_met, od__law_met, .func (PySem.W.fnOf "_law_met" "_law_met" (defArgs s__law_met) (defBody s__law_met) (defScope s__law_met) .none kV__law_met dc__law_met pm__law_met an__law_met cd__law_met ct__law_met), sl__law_met⟩) (c__law_met : PySem.W.codeIn K cd__law_met "_law_met" = true) (k__law_met : PySem.W.keepIn K (.ref f__law_met) = true)
    {f__law_polys_right : Addr} {od__law_polys_right an__law_polys_right : Option Addr} {sl__law_polys_right : Array (Option Value)} {oc__law_polys_right kV__law_polys_right dc__law_polys_right pm__law_polys_right cd__law_polys_right ct__law_polys_right : Value}
    (a__law_polys_right : PySem.W.nsIn K mainGlobals "_law_polys_right" = some (some (.ref f__law_polys_right))) (l__law_polys_right : K.lookup f__law_polys_right = some ⟨oc__law_polys_right, od__law_polys_right, .func (PySem.W.fnOf "_law_polys_right" "_law_polys_right" (defArgs s__law_polys_right) (defBody s__law_polys_right) (defScope s__law_polys_right) .none kV__law_polys_right dc__law_polys_right pm__law_polys_right an__law_polys_right cd__law_polys_right ct__law_polys_right), sl__law_polys_right⟩) (c__law_polys_right : PySem.W.codeIn K cd__law_polys_right "_law_polys_right" = true) (k__law_polys_right : PySem.W.keepIn K (.ref f__law_polys_right) = true)
    {f__law_places_right : Addr} {od__law_places_right an__law_places_right : Option Addr} {sl__law_places_right : Array (Option Value)} {oc__law_places_right kV__law_places_right dc__law_places_right pm__law_places_right cd__law_places_right ct__law_places_right : Value}
    (a__law_places_right : PySem.W.nsIn K mainGlobals "_law_places_right" = some (some (.ref f__law_places_right))) (l__law_places_right : K.lookup f__law_places_right = some ⟨oc__law_places_right, od__law_places_right, .func (PySem.W.fnOf "_law_places_right" "_law_places_right" (defArgs s__law_places_right) (defBody s__law_places_right) (defScope s__law_places_right) .none kV__law_places_right dc__law_places_right pm__law_places_right an__law_places_right cd__law_places_right ct__law_places_right), sl__law_places_right⟩) (c__law_places_right : PySem.W.codeIn K cd__law_places_right "_law_places_right" = true) (k__law_places_right : PySem.W.keepIn K (.ref f__law_places_right) = true)
    {f__law_right : Addr} {od__law_right an__law_right : Option Addr} {sl__law_right : Array (Option Value)} {oc__law_right kV__law_right dc__law_right pm__law_right cd__law_right ct__law_right : Value}
    (a__law_right : PySem.W.nsIn K mainGlobals "_law_right" = some (some (.ref f__law_right))) (l__law_right : K.lookup f__law_right = some ⟨oc__law_right, od__law_right, .func (PySem.W.fnOf "_law_right" "_law_right" (defArgs s__law_right) (defBody s__law_right) (defScope s__law_right) .none kV__law_right dc__law_right pm__law_right an__law_right cd__law_right ct__law_right), sl__law_right⟩) (c__law_right : PySem.W.codeIn K cd__law_right "_law_right" = true) (k__law_right : PySem.W.keepIn K (.ref f__law_right) = true)
    {f_law : Addr} {od_law an_law : Option Addr} {sl_law : Array (Option Value)} {oc_law kV_law dc_law pm_law cd_law ct_law : Value}
    (a_law : PySem.W.nsIn K mainGlobals "law" = some (some (.ref f_law))) (l_law : K.lookup f_law = some ⟨oc_law, od_law, .func (PySem.W.fnOf "law" "law" (defArgs s_law) (defBody s_law) (defScope s_law) .none kV_law dc_law pm_law an_law cd_law ct_law), sl_law⟩) (c_law : PySem.W.codeIn K cd_law "law" = true) (k_law : PySem.W.keepIn K (.ref f_law) = true)
    (z_abs : PySem.W.nsIn K mainGlobals "abs" = some none)
    (z_all : PySem.W.nsIn K mainGlobals "all" = some none)
    (z_int : PySem.W.nsIn K mainGlobals "int" = some none)
    (z_isinstance : PySem.W.nsIn K mainGlobals "isinstance" = some none)
    (z_len : PySem.W.nsIn K mainGlobals "len" = some none)
    (z_list : PySem.W.nsIn K mainGlobals "list" = some none)
    (z_max : PySem.W.nsIn K mainGlobals "max" = some none)
    (z_min : PySem.W.nsIn K mainGlobals "min" = some none)
    (z_range : PySem.W.nsIn K mainGlobals "range" = some none)
    (z_repr : PySem.W.nsIn K mainGlobals "repr" = some none)
    (z_reversed : PySem.W.nsIn K mainGlobals "reversed" = some none)
    (z_set : PySem.W.nsIn K mainGlobals "set" = some none)
    (z_tuple : PySem.W.nsIn K mainGlobals "tuple" = some none)
    (z_zip : PySem.W.nsIn K mainGlobals "zip" = some none)
    {tk_LEAST_FIELD : Tok} (q_LEAST_FIELD : PySem.W.nsIn K mainGlobals "LEAST_FIELD" = some (some (.int 5 tk_LEAST_FIELD)))
    {tk_MAX_DEGREE : Tok} (q_MAX_DEGREE : PySem.W.nsIn K mainGlobals "MAX_DEGREE" = some (some (.int 60 tk_MAX_DEGREE)))
    {tk_MAX_FIELD : Tok} (q_MAX_FIELD : PySem.W.nsIn K mainGlobals "MAX_FIELD" = some (some (.int 997 tk_MAX_FIELD)))
    {tk_MAX_SIDE : Tok} (q_MAX_SIDE : PySem.W.nsIn K mainGlobals "MAX_SIDE" = some (some (.int 60 tk_MAX_SIDE)))
    {qa_SMALL_PRIMES : Addr} {qd_SMALL_PRIMES : Option Addr} {qn_SMALL_PRIMES : Nat} {qs_SMALL_PRIMES : Array (Option Value)} {t0_SMALL_PRIMES t1_SMALL_PRIMES t2_SMALL_PRIMES t3_SMALL_PRIMES t4_SMALL_PRIMES t5_SMALL_PRIMES t6_SMALL_PRIMES t7_SMALL_PRIMES t8_SMALL_PRIMES t9_SMALL_PRIMES t10_SMALL_PRIMES : Tok} (q_SMALL_PRIMES : PySem.W.nsIn K mainGlobals "SMALL_PRIMES" = some (some (.ref qa_SMALL_PRIMES)))
    (r_SMALL_PRIMES : K.lookup qa_SMALL_PRIMES = some ⟨.type "tuple", qd_SMALL_PRIMES, .seq #[.int 2 t0_SMALL_PRIMES, .int 3 t1_SMALL_PRIMES, .int 5 t2_SMALL_PRIMES, .int 7 t3_SMALL_PRIMES, .int 11 t4_SMALL_PRIMES, .int 13 t5_SMALL_PRIMES, .int 17 t6_SMALL_PRIMES, .int 19 t7_SMALL_PRIMES, .int 23 t8_SMALL_PRIMES, .int 29 t9_SMALL_PRIMES, .int 31 t10_SMALL_PRIMES] qn_SMALL_PRIMES, qs_SMALL_PRIMES⟩)
    {C_InvalidPoly : Addr} (g_InvalidPoly : PySem.W.nsIn K mainGlobals "InvalidPoly" = some (some (.ref C_InvalidPoly))) (kc_InvalidPoly : PySem.W.keepIn K (.ref C_InvalidPoly) = true) (sb_InvalidPoly : PySem.W.subIn K (.ref C_InvalidPoly) (.type "BaseException") = some true) (ty_InvalidPoly : PySem.W.typeIn K (.ref C_InvalidPoly) = some (.type "type"))
    (ex_InvalidPoly : PySem.W.excIn K C_InvalidPoly [.type "ValueError", .type "Exception", .type "BaseException", .type "object"] "ValueError.__new__" = true)
    {C_InvalidOperation : Addr} (g_InvalidOperation : PySem.W.nsIn K mainGlobals "InvalidOperation" = some (some (.ref C_InvalidOperation))) (kc_InvalidOperation : PySem.W.keepIn K (.ref C_InvalidOperation) = true) (sb_InvalidOperation : PySem.W.subIn K (.ref C_InvalidOperation) (.type "BaseException") = some true) (ty_InvalidOperation : PySem.W.typeIn K (.ref C_InvalidOperation) = some (.type "type"))
    (ex_InvalidOperation : PySem.W.excIn K C_InvalidOperation [.type "ValueError", .type "Exception", .type "BaseException", .type "object"] "ValueError.__new__" = true)
    {C_InvalidNumber : Addr} (g_InvalidNumber : PySem.W.nsIn K mainGlobals "InvalidNumber" = some (some (.ref C_InvalidNumber))) (kc_InvalidNumber : PySem.W.keepIn K (.ref C_InvalidNumber) = true) (sb_InvalidNumber : PySem.W.subIn K (.ref C_InvalidNumber) (.type "BaseException") = some true) (ty_InvalidNumber : PySem.W.typeIn K (.ref C_InvalidNumber) = some (.type "type"))
    (ii_InvalidNumber : PySem.W.excInitIn K C_InvalidNumber [.type "IndexError", .type "LookupError", .type "Exception", .type "BaseException", .type "object"] "IndexError.__new__" = true) (hd_InvalidNumber : PySem.W.hasDictIn K C_InvalidNumber = true) (sa_InvalidNumber : PySem.W.findIn K (.ref C_InvalidNumber) "__setattr__" = some (some (.builtin "object.__setattr__")))
    {I_InvalidNumber : Addr} (i_InvalidNumber : PySem.W.findIn K (.ref C_InvalidNumber) "__init__" = some (some (.ref I_InvalidNumber))) (ti_InvalidNumber : PySem.W.typeIn K (.ref I_InvalidNumber) = some (.type "function")) (nf_InvalidNumber : PySem.W.findIn K (.ref C_InvalidNumber) "given" = some none)
    {odi_InvalidNumber ani_InvalidNumber : Option Addr} {sli_InvalidNumber : Array (Option Value)} {oci_InvalidNumber kVi_InvalidNumber dci_InvalidNumber pmi_InvalidNumber cdi_InvalidNumber cti_InvalidNumber : Value}
    (li_InvalidNumber : K.lookup I_InvalidNumber = some ⟨oci_InvalidNumber, odi_InvalidNumber, .func (PySem.W.fnOf "__init__" "InvalidNumber.__init__" (defArgs si_InvalidNumber) (defBody si_InvalidNumber) (defScope si_InvalidNumber) .none kVi_InvalidNumber dci_InvalidNumber pmi_InvalidNumber ani_InvalidNumber cdi_InvalidNumber cti_InvalidNumber), sli_InvalidNumber⟩) (ci_InvalidNumber : PySem.W.codeIn K cdi_InvalidNumber "InvalidNumber.__init__" = true) (ki_InvalidNumber : PySem.W.keepIn K (.ref I_InvalidNumber) = true)
    (xa_InvalidNumber : PySem.W.findIn K (.ref C_InvalidNumber) "__getattribute__" = some (some (.builtin "BaseException.__getattribute__"))) (xg_InvalidNumber : PySem.W.findIn K (.ref C_InvalidNumber) "__getattr__" = some none) (xh_InvalidNumber : PySem.W.hasDictIn K C_InvalidNumber = true)
    {C_TooMany : Addr} (g_TooMany : PySem.W.nsIn K mainGlobals "TooMany" = some (some (.ref C_TooMany))) (kc_TooMany : PySem.W.keepIn K (.ref C_TooMany) = true) (sb_TooMany : PySem.W.subIn K (.ref C_TooMany) (.type "BaseException") = some true) (ty_TooMany : PySem.W.typeIn K (.ref C_TooMany) = some (.type "type"))
    (ii_TooMany : PySem.W.excInitIn K C_TooMany [.type "OverflowError", .type "ArithmeticError", .type "Exception", .type "BaseException", .type "object"] "OverflowError.__new__" = true) (hd_TooMany : PySem.W.hasDictIn K C_TooMany = true) (sa_TooMany : PySem.W.findIn K (.ref C_TooMany) "__setattr__" = some (some (.builtin "object.__setattr__")))
    {I_TooMany : Addr} (i_TooMany : PySem.W.findIn K (.ref C_TooMany) "__init__" = some (some (.ref I_TooMany))) (ti_TooMany : PySem.W.typeIn K (.ref I_TooMany) = some (.type "function")) (nf_TooMany : PySem.W.findIn K (.ref C_TooMany) "limit" = some none)
    {odi_TooMany ani_TooMany : Option Addr} {sli_TooMany : Array (Option Value)} {oci_TooMany kVi_TooMany dci_TooMany pmi_TooMany cdi_TooMany cti_TooMany : Value}
    (li_TooMany : K.lookup I_TooMany = some ⟨oci_TooMany, odi_TooMany, .func (PySem.W.fnOf "__init__" "TooMany.__init__" (defArgs si_TooMany) (defBody si_TooMany) (defScope si_TooMany) .none kVi_TooMany dci_TooMany pmi_TooMany ani_TooMany cdi_TooMany cti_TooMany), sli_TooMany⟩) (ci_TooMany : PySem.W.codeIn K cdi_TooMany "TooMany.__init__" = true) (ki_TooMany : PySem.W.keepIn K (.ref I_TooMany) = true)
    (xa_TooMany : PySem.W.findIn K (.ref C_TooMany) "__getattribute__" = some (some (.builtin "BaseException.__getattribute__"))) (xg_TooMany : PySem.W.findIn K (.ref C_TooMany) "__getattr__" = some none) (xh_TooMany : PySem.W.hasDictIn K C_TooMany = true)
    {C_Refused : Addr} (g_Refused : PySem.W.nsIn K mainGlobals "Refused" = some (some (.ref C_Refused))) (kc_Refused : PySem.W.keepIn K (.ref C_Refused) = true) (sb_Refused : PySem.W.subIn K (.ref C_Refused) (.type "BaseException") = some true) (ty_Refused : PySem.W.typeIn K (.ref C_Refused) = some (.type "type"))
    (ii_Refused : PySem.W.excInitIn K C_Refused [.type "ArithmeticError", .type "Exception", .type "BaseException", .type "object"] "ArithmeticError.__new__" = true) (hd_Refused : PySem.W.hasDictIn K C_Refused = true) (sa_Refused : PySem.W.findIn K (.ref C_Refused) "__setattr__" = some (some (.builtin "object.__setattr__")))
    {I_Refused : Addr} (i_Refused : PySem.W.findIn K (.ref C_Refused) "__init__" = some (some (.ref I_Refused))) (ti_Refused : PySem.W.typeIn K (.ref I_Refused) = some (.type "function")) (nf_Refused : PySem.W.findIn K (.ref C_Refused) "reason" = some none)
    {odi_Refused ani_Refused : Option Addr} {sli_Refused : Array (Option Value)} {oci_Refused kVi_Refused dci_Refused pmi_Refused cdi_Refused cti_Refused : Value}
    (li_Refused : K.lookup I_Refused = some ⟨oci_Refused, odi_Refused, .func (PySem.W.fnOf "__init__" "Refused.__init__" (defArgs si_Refused) (defBody si_Refused) (defScope si_Refused) .none kVi_Refused dci_Refused pmi_Refused ani_Refused cdi_Refused cti_Refused), sli_Refused⟩) (ci_Refused : PySem.W.codeIn K cdi_Refused "Refused.__init__" = true) (ki_Refused : PySem.W.keepIn K (.ref I_Refused) = true)
    (xa_Refused : PySem.W.findIn K (.ref C_Refused) "__getattribute__" = some (some (.builtin "BaseException.__getattribute__"))) (xg_Refused : PySem.W.findIn K (.ref C_Refused) "__getattr__" = some none) (xh_Refused : PySem.W.hasDictIn K C_Refused = true)
    (m_InvalidPoly_InvalidPoly : PySem.W.exmOne K (.ref C_InvalidPoly) (.ref C_InvalidPoly) = some true)
    (m_InvalidPoly_InvalidOperation : PySem.W.exmOne K (.ref C_InvalidPoly) (.ref C_InvalidOperation) = some false)
    (m_InvalidPoly_InvalidNumber : PySem.W.exmOne K (.ref C_InvalidPoly) (.ref C_InvalidNumber) = some false)
    (m_InvalidPoly_Refused : PySem.W.exmOne K (.ref C_InvalidPoly) (.ref C_Refused) = some false)
    (m_InvalidPoly_TooMany : PySem.W.exmOne K (.ref C_InvalidPoly) (.ref C_TooMany) = some false)
    (m_InvalidOperation_InvalidPoly : PySem.W.exmOne K (.ref C_InvalidOperation) (.ref C_InvalidPoly) = some false)
    (m_InvalidOperation_InvalidOperation : PySem.W.exmOne K (.ref C_InvalidOperation) (.ref C_InvalidOperation) = some true)
    (m_InvalidOperation_InvalidNumber : PySem.W.exmOne K (.ref C_InvalidOperation) (.ref C_InvalidNumber) = some false)
    (m_InvalidOperation_Refused : PySem.W.exmOne K (.ref C_InvalidOperation) (.ref C_Refused) = some false)
    (m_InvalidOperation_TooMany : PySem.W.exmOne K (.ref C_InvalidOperation) (.ref C_TooMany) = some false)
    (m_InvalidNumber_InvalidPoly : PySem.W.exmOne K (.ref C_InvalidNumber) (.ref C_InvalidPoly) = some false)
    (m_InvalidNumber_InvalidOperation : PySem.W.exmOne K (.ref C_InvalidNumber) (.ref C_InvalidOperation) = some false)
    (m_InvalidNumber_InvalidNumber : PySem.W.exmOne K (.ref C_InvalidNumber) (.ref C_InvalidNumber) = some true)
    (m_InvalidNumber_Refused : PySem.W.exmOne K (.ref C_InvalidNumber) (.ref C_Refused) = some false)
    (m_InvalidNumber_TooMany : PySem.W.exmOne K (.ref C_InvalidNumber) (.ref C_TooMany) = some false)
    (m_TooMany_InvalidPoly : PySem.W.exmOne K (.ref C_TooMany) (.ref C_InvalidPoly) = some false)
    (m_TooMany_InvalidOperation : PySem.W.exmOne K (.ref C_TooMany) (.ref C_InvalidOperation) = some false)
    (m_TooMany_InvalidNumber : PySem.W.exmOne K (.ref C_TooMany) (.ref C_InvalidNumber) = some false)
    (m_TooMany_Refused : PySem.W.exmOne K (.ref C_TooMany) (.ref C_Refused) = some false)
    (m_TooMany_TooMany : PySem.W.exmOne K (.ref C_TooMany) (.ref C_TooMany) = some true)
    (m_Refused_InvalidPoly : PySem.W.exmOne K (.ref C_Refused) (.ref C_InvalidPoly) = some false)
    (m_Refused_InvalidOperation : PySem.W.exmOne K (.ref C_Refused) (.ref C_InvalidOperation) = some false)
    (m_Refused_InvalidNumber : PySem.W.exmOne K (.ref C_Refused) (.ref C_InvalidNumber) = some false)
    (m_Refused_Refused : PySem.W.exmOne K (.ref C_Refused) (.ref C_Refused) = some true)
    (m_Refused_TooMany : PySem.W.exmOne K (.ref C_Refused) (.ref C_TooMany) = some false)
    {cA__law_polys_right P__law_polys_right : Addr} {ce__law_polys_right : Value} {cz__law_polys_right : Option Addr} {vs__law_polys_right : Array Value} {cs__law_polys_right : Array (Option Value)} (cc__law_polys_right : cd__law_polys_right = .ref cA__law_polys_right) (lc__law_polys_right : K.lookup cA__law_polys_right = some ⟨ce__law_polys_right, cz__law_polys_right, .fields vs__law_polys_right, cs__law_polys_right⟩) (v__law_polys_right : vs__law_polys_right[11]? = some (.ref P__law_polys_right)) (np__law_polys_right : K.lookup P__law_polys_right = none) (rc__law_polys_right : ((recsOf q).any fun e => e.name == "_law_polys_right") = true)
    {cA__law_places_right P__law_places_right : Addr} {ce__law_places_right : Value} {cz__law_places_right : Option Addr} {vs__law_places_right : Array Value} {cs__law_places_right : Array (Option Value)} (cc__law_places_right : cd__law_places_right = .ref cA__law_places_right) (lc__law_places_right : K.lookup cA__law_places_right = some ⟨ce__law_places_right, cz__law_places_right, .fields vs__law_places_right, cs__law_places_right⟩) (v__law_places_right : vs__law_places_right[11]? = some (.ref P__law_places_right)) (np__law_places_right : K.lookup P__law_places_right = none) (rc__law_places_right : ((recsOf q).any fun e => e.name == "_law_places_right") = true)
    {cA_law P_law : Addr} {ce_law : Value} {cz_law : Option Addr} {vs_law : Array Value} {cs_law : Array (Option Value)} (cc_law : cd_law = .ref cA_law) (lc_law : K.lookup cA_law = some ⟨ce_law, cz_law, .fields vs_law, cs_law⟩) (v_law : vs_law[11]? = some (.ref P_law)) (np_law : K.lookup P_law = none) (rc_law : ((recsOf q).any fun e => e.name == "law") = true)
    (ne__law_places_right__law_polys_right : P__law_places_right ≠ P__law_polys_right)
    (ne_law__law_polys_right : P_law ≠ P__law_polys_right)
    (ne_law__law_places_right : P_law ≠ P__law_places_right)
    : LawG l w K 13 63 "script" mg fa h := by
  have e := hfa.symm.trans (PySem.W.mg_of X G a_law)
  cases e
  have U_is_integer := fun_mk (st := s_is_integer) l_is_integer c_is_integer k_is_integer
  have A_is_integer : DefAt K mg "is_integer" s_is_integer ["value", "least", "most"] _ _ := ⟨U_is_integer, PySem.W.mg_of X G a_is_integer, U_is_integer.binds (ps := ["value", "least", "most"]) fun _ _ _ _ _ _ us hl => match us, hl with | [_, _, _], _ => rfl⟩
  have U_is_field := fun_mk (st := s_is_field) l_is_field c_is_field k_is_field
  have A_is_field : DefAt K mg "is_field" s_is_field ["value"] _ _ := ⟨U_is_field, PySem.W.mg_of X G a_is_field, U_is_field.binds (ps := ["value"]) fun _ _ _ _ _ _ us hl => match us, hl with | [_], _ => rfl⟩
  have U_are_numbers := fun_mk (st := s_are_numbers) l_are_numbers c_are_numbers k_are_numbers
  have A_are_numbers : DefAt K mg "are_numbers" s_are_numbers ["field", "value"] _ _ := ⟨U_are_numbers, PySem.W.mg_of X G a_are_numbers, U_are_numbers.binds (ps := ["field", "value"]) fun _ _ _ _ _ _ us hl => match us, hl with | [_, _], _ => rfl⟩
  have U_check_integer := fun_mk (st := s_check_integer) l_check_integer c_check_integer k_check_integer
  have A_check_integer : DefAt K mg "check_integer" s_check_integer ["value", "least", "most"] _ _ := ⟨U_check_integer, PySem.W.mg_of X G a_check_integer, U_check_integer.binds (ps := ["value", "least", "most"]) fun _ _ _ _ _ _ us hl => match us, hl with | [_, _, _], _ => rfl⟩
  have U_check_field := fun_mk (st := s_check_field) l_check_field c_check_field k_check_field
  have A_check_field : DefAt K mg "check_field" s_check_field ["field"] _ _ := ⟨U_check_field, PySem.W.mg_of X G a_check_field, U_check_field.binds (ps := ["field"]) fun _ _ _ _ _ _ us hl => match us, hl with | [_], _ => rfl⟩
  have U_check_number := fun_mk (st := s_check_number) l_check_number c_check_number k_check_number
  have A_check_number : DefAt K mg "check_number" s_check_number ["field", "number"] _ _ := ⟨U_check_number, PySem.W.mg_of X G a_check_number, U_check_number.binds (ps := ["field", "number"]) fun _ _ _ _ _ _ us hl => match us, hl with | [_, _], _ => rfl⟩
  have U_raised := fun_mk (st := s_raised) l_raised c_raised k_raised
  have A_raised : DefAt K mg "raised" s_raised ["field", "number", "many"] _ _ := ⟨U_raised, PySem.W.mg_of X G a_raised, U_raised.binds (ps := ["field", "number", "many"]) fun _ _ _ _ _ _ us hl => match us, hl with | [_, _, _], _ => rfl⟩
  have U_inverse := fun_mk (st := s_inverse) l_inverse c_inverse k_inverse
  have A_inverse : DefAt K mg "inverse" s_inverse ["field", "number"] _ _ := ⟨U_inverse, PySem.W.mg_of X G a_inverse, U_inverse.binds (ps := ["field", "number"]) fun _ _ _ _ _ _ us hl => match us, hl with | [_, _], _ => rfl⟩
  have U_is_poly := fun_mk (st := s_is_poly) l_is_poly c_is_poly k_is_poly
  have A_is_poly : DefAt K mg "is_poly" s_is_poly ["field", "value"] _ _ := ⟨U_is_poly, PySem.W.mg_of X G a_is_poly, U_is_poly.binds (ps := ["field", "value"]) fun _ _ _ _ _ _ us hl => match us, hl with | [_, _], _ => rfl⟩
  have U_are_unlike := fun_mk (st := s_are_unlike) l_are_unlike c_are_unlike k_are_unlike
  have A_are_unlike : DefAt K mg "are_unlike" s_are_unlike ["field", "value"] _ _ := ⟨U_are_unlike, PySem.W.mg_of X G a_are_unlike, U_are_unlike.binds (ps := ["field", "value"]) fun _ _ _ _ _ _ us hl => match us, hl with | [_, _], _ => rfl⟩
  have U_check_poly := fun_mk (st := s_check_poly) l_check_poly c_check_poly k_check_poly
  have A_check_poly : DefAt K mg "check_poly" s_check_poly ["field", "poly"] _ _ := ⟨U_check_poly, PySem.W.mg_of X G a_check_poly, U_check_poly.binds (ps := ["field", "poly"]) fun _ _ _ _ _ _ us hl => match us, hl with | [_, _], _ => rfl⟩
  have U_check_places := fun_mk (st := s_check_places) l_check_places c_check_places k_check_places
  have A_check_places : DefAt K mg "check_places" s_check_places ["field", "places"] _ _ := ⟨U_check_places, PySem.W.mg_of X G a_check_places, U_check_places.binds (ps := ["field", "places"]) fun _ _ _ _ _ _ us hl => match us, hl with | [_, _], _ => rfl⟩
  have U_check_hidden_places := fun_mk (st := s_check_hidden_places) l_check_hidden_places c_check_hidden_places k_check_hidden_places
  have A_check_hidden_places : DefAt K mg "check_hidden_places" s_check_hidden_places ["field", "places"] _ _ := ⟨U_check_hidden_places, PySem.W.mg_of X G a_check_hidden_places, U_check_hidden_places.binds (ps := ["field", "places"]) fun _ _ _ _ _ _ us hl => match us, hl with | [_, _], _ => rfl⟩
  have U_check_points := fun_mk (st := s_check_points) l_check_points c_check_points k_check_points
  have A_check_points : DefAt K mg "check_points" s_check_points ["field", "points"] _ _ := ⟨U_check_points, PySem.W.mg_of X G a_check_points, U_check_points.binds (ps := ["field", "points"]) fun _ _ _ _ _ _ us hl => match us, hl with | [_, _], _ => rfl⟩
  have U_trimmed := fun_mk (st := s_trimmed) l_trimmed c_trimmed k_trimmed
  have A_trimmed : DefAt K mg "trimmed" s_trimmed ["numbers"] _ _ := ⟨U_trimmed, PySem.W.mg_of X G a_trimmed, U_trimmed.binds (ps := ["numbers"]) fun _ _ _ _ _ _ us hl => match us, hl with | [_], _ => rfl⟩
  have U_padded := fun_mk (st := s_padded) l_padded c_padded k_padded
  have A_padded : DefAt K mg "padded" s_padded ["poly", "many"] _ _ := ⟨U_padded, PySem.W.mg_of X G a_padded, U_padded.binds (ps := ["poly", "many"]) fun _ _ _ _ _ _ us hl => match us, hl with | [_, _], _ => rfl⟩
  have U_scaled := fun_mk (st := s_scaled) l_scaled c_scaled k_scaled
  have A_scaled : DefAt K mg "scaled" s_scaled ["field", "poly", "number"] _ _ := ⟨U_scaled, PySem.W.mg_of X G a_scaled, U_scaled.binds (ps := ["field", "poly", "number"]) fun _ _ _ _ _ _ us hl => match us, hl with | [_, _, _], _ => rfl⟩
  have U_added := fun_mk (st := s_added) l_added c_added k_added
  have A_added : DefAt K mg "added" s_added ["field", "one", "other"] _ _ := ⟨U_added, PySem.W.mg_of X G a_added, U_added.binds (ps := ["field", "one", "other"]) fun _ _ _ _ _ _ us hl => match us, hl with | [_, _, _], _ => rfl⟩
  have U_multiplied := fun_mk (st := s_multiplied) l_multiplied c_multiplied k_multiplied
  have A_multiplied : DefAt K mg "multiplied" s_multiplied ["field", "one", "other"] _ _ := ⟨U_multiplied, PySem.W.mg_of X G a_multiplied, U_multiplied.binds (ps := ["field", "one", "other"]) fun _ _ _ _ _ _ us hl => match us, hl with | [_, _, _], _ => rfl⟩
  have U_evaluated := fun_mk (st := s_evaluated) l_evaluated c_evaluated k_evaluated
  have A_evaluated : DefAt K mg "evaluated" s_evaluated ["field", "poly", "place"] _ _ := ⟨U_evaluated, PySem.W.mg_of X G a_evaluated, U_evaluated.binds (ps := ["field", "poly", "place"]) fun _ _ _ _ _ _ us hl => match us, hl with | [_, _, _], _ => rfl⟩
  have U_poly_sum := fun_mk (st := s_poly_sum) l_poly_sum c_poly_sum k_poly_sum
  have A_poly_sum : DefAt K mg "poly_sum" s_poly_sum ["field", "one", "other"] _ _ := ⟨U_poly_sum, PySem.W.mg_of X G a_poly_sum, U_poly_sum.binds (ps := ["field", "one", "other"]) fun _ _ _ _ _ _ us hl => match us, hl with | [_, _, _], _ => rfl⟩
  have U_poly_scaled := fun_mk (st := s_poly_scaled) l_poly_scaled c_poly_scaled k_poly_scaled
  have A_poly_scaled : DefAt K mg "poly_scaled" s_poly_scaled ["field", "poly", "number"] _ _ := ⟨U_poly_scaled, PySem.W.mg_of X G a_poly_scaled, U_poly_scaled.binds (ps := ["field", "poly", "number"]) fun _ _ _ _ _ _ us hl => match us, hl with | [_, _, _], _ => rfl⟩
  have U_poly_product := fun_mk (st := s_poly_product) l_poly_product c_poly_product k_poly_product
  have A_poly_product : DefAt K mg "poly_product" s_poly_product ["field", "one", "other"] _ _ := ⟨U_poly_product, PySem.W.mg_of X G a_poly_product, U_poly_product.binds (ps := ["field", "one", "other"]) fun _ _ _ _ _ _ us hl => match us, hl with | [_, _, _], _ => rfl⟩
  have U_poly_divided := fun_mk (st := s_poly_divided) l_poly_divided c_poly_divided k_poly_divided
  have A_poly_divided : DefAt K mg "poly_divided" s_poly_divided ["field", "one", "other"] _ _ := ⟨U_poly_divided, PySem.W.mg_of X G a_poly_divided, U_poly_divided.binds (ps := ["field", "one", "other"]) fun _ _ _ _ _ _ us hl => match us, hl with | [_, _, _], _ => rfl⟩
  have U_value_at := fun_mk (st := s_value_at) l_value_at c_value_at k_value_at
  have A_value_at : DefAt K mg "value_at" s_value_at ["field", "poly", "place"] _ _ := ⟨U_value_at, PySem.W.mg_of X G a_value_at, U_value_at.binds (ps := ["field", "poly", "place"]) fun _ _ _ _ _ _ us hl => match us, hl with | [_, _, _], _ => rfl⟩
  have U_values_at := fun_mk (st := s_values_at) l_values_at c_values_at k_values_at
  have A_values_at : DefAt K mg "values_at" s_values_at ["field", "poly", "places"] _ _ := ⟨U_values_at, PySem.W.mg_of X G a_values_at, U_values_at.binds (ps := ["field", "poly", "places"]) fun _ _ _ _ _ _ us hl => match us, hl with | [_, _, _], _ => rfl⟩
  have U_vanishing := fun_mk (st := s_vanishing) l_vanishing c_vanishing k_vanishing
  have A_vanishing : DefAt K mg "vanishing" s_vanishing ["field", "places"] _ _ := ⟨U_vanishing, PySem.W.mg_of X G a_vanishing, U_vanishing.binds (ps := ["field", "places"]) fun _ _ _ _ _ _ us hl => match us, hl with | [_, _], _ => rfl⟩
  have U_without_root := fun_mk (st := s_without_root) l_without_root c_without_root k_without_root
  have A_without_root : DefAt K mg "without_root" s_without_root ["field", "whole", "place"] _ _ := ⟨U_without_root, PySem.W.mg_of X G a_without_root, U_without_root.binds (ps := ["field", "whole", "place"]) fun _ _ _ _ _ _ us hl => match us, hl with | [_, _, _], _ => rfl⟩
  have U_parts_of := fun_mk (st := s_parts_of) l_parts_of c_parts_of k_parts_of
  have A_parts_of : DefAt K mg "parts_of" s_parts_of ["field", "places"] _ _ := ⟨U_parts_of, PySem.W.mg_of X G a_parts_of, U_parts_of.binds (ps := ["field", "places"]) fun _ _ _ _ _ _ us hl => match us, hl with | [_, _], _ => rfl⟩
  have U_units_of := fun_mk (st := s_units_of) l_units_of c_units_of k_units_of
  have A_units_of : DefAt K mg "units_of" s_units_of ["field", "places", "parts"] _ _ := ⟨U_units_of, PySem.W.mg_of X G a_units_of, U_units_of.binds (ps := ["field", "places", "parts"]) fun _ _ _ _ _ _ us hl => match us, hl with | [_, _, _], _ => rfl⟩
  have U_interpolated := fun_mk (st := s_interpolated) l_interpolated c_interpolated k_interpolated
  have A_interpolated : DefAt K mg "interpolated" s_interpolated ["field", "places", "values"] _ _ := ⟨U_interpolated, PySem.W.mg_of X G a_interpolated, U_interpolated.binds (ps := ["field", "places", "values"]) fun _ _ _ _ _ _ us hl => match us, hl with | [_, _, _], _ => rfl⟩
  have U_through := fun_mk (st := s_through) l_through c_through k_through
  have A_through : DefAt K mg "through" s_through ["field", "points"] _ _ := ⟨U_through, PySem.W.mg_of X G a_through, U_through.binds (ps := ["field", "points"]) fun _ _ _ _ _ _ us hl => match us, hl with | [_, _], _ => rfl⟩
  have U_weights := fun_mk (st := s_weights) l_weights c_weights k_weights
  have A_weights : DefAt K mg "weights" s_weights ["field", "places", "goal"] _ _ := ⟨U_weights, PySem.W.mg_of X G a_weights, U_weights.binds (ps := ["field", "places", "goal"]) fun _ _ _ _ _ _ us hl => match us, hl with | [_, _, _], _ => rfl⟩
  have U_check_rows := fun_mk (st := s_check_rows) l_check_rows c_check_rows k_check_rows
  have A_check_rows : DefAt K mg "check_rows" s_check_rows ["field", "places", "degree"] _ _ := ⟨U_check_rows, PySem.W.mg_of X G a_check_rows, U_check_rows.binds (ps := ["field", "places", "degree"]) fun _ _ _ _ _ _ us hl => match us, hl with | [_, _, _], _ => rfl⟩
  have U_checks := fun_mk (st := s_checks) l_checks c_checks k_checks
  have A_checks : DefAt K mg "checks" s_checks ["field", "places", "degree"] _ _ := ⟨U_checks, PySem.W.mg_of X G a_checks, U_checks.binds (ps := ["field", "places", "degree"]) fun _ _ _ _ _ _ us hl => match us, hl with | [_, _, _], _ => rfl⟩
  have U_hiding_poly := fun_mk (st := s_hiding_poly) l_hiding_poly c_hiding_poly k_hiding_poly
  have A_hiding_poly : DefAt K mg "hiding_poly" s_hiding_poly ["field", "places"] _ _ := ⟨U_hiding_poly, PySem.W.mg_of X G a_hiding_poly, U_hiding_poly.binds (ps := ["field", "places"]) fun _ _ _ _ _ _ us hl => match us, hl with | [_, _], _ => rfl⟩
  have U_hiding := fun_mk (st := s_hiding) l_hiding c_hiding k_hiding
  have A_hiding : DefAt K mg "hiding" s_hiding ["field", "places"] _ _ := ⟨U_hiding, PySem.W.mg_of X G a_hiding, U_hiding.binds (ps := ["field", "places"]) fun _ _ _ _ _ _ us hl => match us, hl with | [_, _], _ => rfl⟩
  have U_hidden := fun_mk (st := s_hidden) l_hidden c_hidden k_hidden
  have A_hidden : DefAt K mg "hidden" s_hidden ["field", "poly", "places", "goal"] _ _ := ⟨U_hidden, PySem.W.mg_of X G a_hidden, U_hidden.binds (ps := ["field", "poly", "places", "goal"]) fun _ _ _ _ _ _ us hl => match us, hl with | [_, _, _, _], _ => rfl⟩
  have U__law_dice := fun_mk (st := s__law_dice) l__law_dice c__law_dice k__law_dice
  have A__law_dice : DefAt K mg "_law_dice" s__law_dice ["script", "spot"] _ _ := ⟨U__law_dice, PySem.W.mg_of X G a__law_dice, U__law_dice.binds (ps := ["script", "spot"]) fun _ _ _ _ _ _ us hl => match us, hl with | [_, _], _ => rfl⟩
  have U__law_roll := fun_mk (st := s__law_roll) l__law_roll c__law_roll k__law_roll
  have A__law_roll : DefAt K mg "_law_roll" s__law_roll ["dice", "most"] _ _ := ⟨U__law_roll, PySem.W.mg_of X G a__law_roll, U__law_roll.binds (ps := ["dice", "most"]) fun _ _ _ _ _ _ us hl => match us, hl with | [_, _], _ => rfl⟩
  have U__law_pick := fun_mk (st := s__law_pick) l__law_pick c__law_pick k__law_pick
  have A__law_pick : DefAt K mg "_law_pick" s__law_pick ["dice", "items"] _ _ := ⟨U__law_pick, PySem.W.mg_of X G a__law_pick, U__law_pick.binds (ps := ["dice", "items"]) fun _ _ _ _ _ _ us hl => match us, hl with | [_, _], _ => rfl⟩
  have U__law_met := fun_mk (st := s__law_met) l__law_met c__law_met k__law_met
  have A__law_met : DefAt K mg "_law_met" s__law_met ["call"] _ _ := ⟨U__law_met, PySem.W.mg_of X G a__law_met, U__law_met.binds (ps := ["call"]) fun _ _ _ _ _ _ us hl => match us, hl with | [_], _ => rfl⟩
  have U__law_polys_right := fun_mk (st := s__law_polys_right) l__law_polys_right c__law_polys_right k__law_polys_right
  have A__law_polys_right : DefAt K mg "_law_polys_right" s__law_polys_right ["dice", "none", "bad", "number"] _ _ := ⟨U__law_polys_right, PySem.W.mg_of X G a__law_polys_right, U__law_polys_right.binds (ps := ["dice", "none", "bad", "number"]) fun _ _ _ _ _ _ us hl => match us, hl with | [_, _, _, _], _ => rfl⟩
  have U__law_places_right := fun_mk (st := s__law_places_right) l__law_places_right c__law_places_right k__law_places_right
  have A__law_places_right : DefAt K mg "_law_places_right" s__law_places_right ["dice", "none", "bad", "number"] _ _ := ⟨U__law_places_right, PySem.W.mg_of X G a__law_places_right, U__law_places_right.binds (ps := ["dice", "none", "bad", "number"]) fun _ _ _ _ _ _ us hl => match us, hl with | [_, _, _, _], _ => rfl⟩
  have U__law_right := fun_mk (st := s__law_right) l__law_right c__law_right k__law_right
  have A__law_right : DefAt K mg "_law_right" s__law_right ["dice"] _ _ := ⟨U__law_right, PySem.W.mg_of X G a__law_right, U__law_right.binds (ps := ["dice"]) fun _ _ _ _ _ _ us hl => match us, hl with | [_], _ => rfl⟩
  have U_law := fun_mk (st := s_law) l_law c_law k_law
  have A_law : DefAt K mg "law" s_law ["script"] _ _ := ⟨U_law, PySem.W.mg_of X G a_law, U_law.binds (ps := ["script"]) fun _ _ _ _ _ _ us hl => match us, hl with | [_], _ => rfl⟩
  have T : Txt K mg C_InvalidPoly C_InvalidOperation C_InvalidNumber C_TooMany C_Refused I_InvalidNumber I_TooMany I_Refused _ _ _ := {
    n_abs := PySem.W.mg_none_of X G z_abs,
    n_all := PySem.W.mg_none_of X G z_all,
    n_int := PySem.W.mg_none_of X G z_int,
    n_isinstance := PySem.W.mg_none_of X G z_isinstance,
    n_len := PySem.W.mg_none_of X G z_len,
    n_list := PySem.W.mg_none_of X G z_list,
    n_max := PySem.W.mg_none_of X G z_max,
    n_min := PySem.W.mg_none_of X G z_min,
    n_range := PySem.W.mg_none_of X G z_range,
    n_repr := PySem.W.mg_none_of X G z_repr,
    n_reversed := PySem.W.mg_none_of X G z_reversed,
    n_set := PySem.W.mg_none_of X G z_set,
    n_tuple := PySem.W.mg_none_of X G z_tuple,
    n_zip := PySem.W.mg_none_of X G z_zip,
    c_LEAST_FIELD := ⟨(.int 5 tk_LEAST_FIELD, .int 5), PySem.W.mg_of X G q_LEAST_FIELD, ⟨_, rfl⟩, fun Hf => .int _⟩,
    c_MAX_DEGREE := ⟨(.int 60 tk_MAX_DEGREE, .int 60), PySem.W.mg_of X G q_MAX_DEGREE, ⟨_, rfl⟩, fun Hf => .int _⟩,
    c_MAX_FIELD := ⟨(.int 997 tk_MAX_FIELD, .int 997), PySem.W.mg_of X G q_MAX_FIELD, ⟨_, rfl⟩, fun Hf => .int _⟩,
    c_MAX_SIDE := ⟨(.int 60 tk_MAX_SIDE, .int 60), PySem.W.mg_of X G q_MAX_SIDE, ⟨_, rfl⟩, fun Hf => .int _⟩,
    c_SMALL_PRIMES := ⟨(.ref qa_SMALL_PRIMES, .ref qa_SMALL_PRIMES), PySem.W.mg_of X G q_SMALL_PRIMES, rfl, fun Hf => rep_tupK [2, 3, 5, 7, 11, 13, 17, 19, 23, 29, 31] [t0_SMALL_PRIMES, t1_SMALL_PRIMES, t2_SMALL_PRIMES, t3_SMALL_PRIMES, t4_SMALL_PRIMES, t5_SMALL_PRIMES, t6_SMALL_PRIMES, t7_SMALL_PRIMES, t8_SMALL_PRIMES, t9_SMALL_PRIMES, t10_SMALL_PRIMES] r_SMALL_PRIMES rfl rfl (by decide) Hf⟩,
    g_InvalidPoly := PySem.W.mg_of X G g_InvalidPoly,
    e_InvalidPoly := ⟨PySem.W.mg_of X G g_InvalidPoly, ex_InvalidPoly, kc_InvalidPoly, sb_InvalidPoly, ty_InvalidPoly⟩,
    g_InvalidOperation := PySem.W.mg_of X G g_InvalidOperation,
    e_InvalidOperation := ⟨PySem.W.mg_of X G g_InvalidOperation, ex_InvalidOperation, kc_InvalidOperation, sb_InvalidOperation, ty_InvalidOperation⟩,
    g_InvalidNumber := PySem.W.mg_of X G g_InvalidNumber,
    o_InvalidNumber := ⟨ii_InvalidNumber, hd_InvalidNumber, sa_InvalidNumber, sb_InvalidNumber, ty_InvalidNumber, kc_InvalidNumber⟩,
    i_InvalidNumber := i_InvalidNumber,
    t_InvalidNumber := ti_InvalidNumber,
    n_InvalidNumber := nf_InvalidNumber,
    f_InvalidNumber := fun_mk (st := si_InvalidNumber) li_InvalidNumber ci_InvalidNumber ki_InvalidNumber,
    b_InvalidNumber := ((fun_mk (st := si_InvalidNumber) li_InvalidNumber ci_InvalidNumber ki_InvalidNumber).binds (ps := ["self", "given"]) (fun _ _ _ _ _ _ us hl => match us, hl with | [_, _], _ => rfl)),
    x_InvalidNumber := ⟨xa_InvalidNumber, xg_InvalidNumber, sb_InvalidNumber, xh_InvalidNumber⟩,
    g_TooMany := PySem.W.mg_of X G g_TooMany,
    o_TooMany := ⟨ii_TooMany, hd_TooMany, sa_TooMany, sb_TooMany, ty_TooMany, kc_TooMany⟩,
    i_TooMany := i_TooMany,
    t_TooMany := ti_TooMany,
    n_TooMany := nf_TooMany,
    f_TooMany := fun_mk (st := si_TooMany) li_TooMany ci_TooMany ki_TooMany,
    b_TooMany := ((fun_mk (st := si_TooMany) li_TooMany ci_TooMany ki_TooMany).binds (ps := ["self", "limit"]) (fun _ _ _ _ _ _ us hl => match us, hl with | [_, _], _ => rfl)),
    x_TooMany := ⟨xa_TooMany, xg_TooMany, sb_TooMany, xh_TooMany⟩,
    g_Refused := PySem.W.mg_of X G g_Refused,
    o_Refused := ⟨ii_Refused, hd_Refused, sa_Refused, sb_Refused, ty_Refused, kc_Refused⟩,
    i_Refused := i_Refused,
    t_Refused := ti_Refused,
    n_Refused := nf_Refused,
    f_Refused := fun_mk (st := si_Refused) li_Refused ci_Refused ki_Refused,
    b_Refused := ((fun_mk (st := si_Refused) li_Refused ci_Refused ki_Refused).binds (ps := ["self", "reason"]) (fun _ _ _ _ _ _ us hl => match us, hl with | [_, _], _ => rfl)),
    x_Refused := ⟨xa_Refused, xg_Refused, sb_Refused, xh_Refused⟩,
    m_InvalidPoly_InvalidPoly := m_InvalidPoly_InvalidPoly,
    m_InvalidPoly_InvalidOperation := m_InvalidPoly_InvalidOperation,
    m_InvalidPoly_InvalidNumber := m_InvalidPoly_InvalidNumber,
    m_InvalidPoly_Refused := m_InvalidPoly_Refused,
    m_InvalidPoly_TooMany := m_InvalidPoly_TooMany,
    m_InvalidOperation_InvalidPoly := m_InvalidOperation_InvalidPoly,
    m_InvalidOperation_InvalidOperation := m_InvalidOperation_InvalidOperation,
    m_InvalidOperation_InvalidNumber := m_InvalidOperation_InvalidNumber,
    m_InvalidOperation_Refused := m_InvalidOperation_Refused,
    m_InvalidOperation_TooMany := m_InvalidOperation_TooMany,
    m_InvalidNumber_InvalidPoly := m_InvalidNumber_InvalidPoly,
    m_InvalidNumber_InvalidOperation := m_InvalidNumber_InvalidOperation,
    m_InvalidNumber_InvalidNumber := m_InvalidNumber_InvalidNumber,
    m_InvalidNumber_Refused := m_InvalidNumber_Refused,
    m_InvalidNumber_TooMany := m_InvalidNumber_TooMany,
    m_TooMany_InvalidPoly := m_TooMany_InvalidPoly,
    m_TooMany_InvalidOperation := m_TooMany_InvalidOperation,
    m_TooMany_InvalidNumber := m_TooMany_InvalidNumber,
    m_TooMany_Refused := m_TooMany_Refused,
    m_TooMany_TooMany := m_TooMany_TooMany,
    m_Refused_InvalidPoly := m_Refused_InvalidPoly,
    m_Refused_InvalidOperation := m_Refused_InvalidOperation,
    m_Refused_InvalidNumber := m_Refused_InvalidNumber,
    m_Refused_Refused := m_Refused_Refused,
    m_Refused_TooMany := m_Refused_TooMany }
  subst cc__law_polys_right
  obtain ⟨t1__law_polys_right, t2__law_polys_right⟩ := TA.own X rc__law_polys_right (PySem.W.mg_of X G a__law_polys_right) l__law_polys_right rfl lc__law_polys_right v__law_polys_right
  subst cc__law_places_right
  obtain ⟨t1__law_places_right, t2__law_places_right⟩ := TA.own X rc__law_places_right (PySem.W.mg_of X G a__law_places_right) l__law_places_right rfl lc__law_places_right v__law_places_right
  subst cc_law
  obtain ⟨t1_law, t2_law⟩ := TA.own X rc_law (PySem.W.mg_of X G a_law) l_law rfl lc_law v_law
  refine ⟨PySem.W.fnOf "law" "law" (defArgs s_law) (defBody s_law) (defScope s_law) .none kV_law dc_law pm_law an_law (.ref cA_law) ct_law, [(cA__law_polys_right, P__law_polys_right), (cA__law_places_right, P__law_places_right), (cA_law, P_law)], spL [(P__law_polys_right, ("_law_polys_right" ++ ".<locals>." ++ "<lambda>" : Str)), (P__law_places_right, ("_law_places_right" ++ ".<locals>." ++ "<lambda>" : Str)), (P_law, ("law" ++ ".<locals>." ++ "<lambda>" : Str))] K 1 [] F_law,
    by
      intro p hp; simp only [List.mem_cons, List.not_mem_nil, or_false] at hp; rcases hp with rfl | rfl | rfl
      · exact t1__law_polys_right
      · exact t1__law_places_right
      · exact t1_law,
    by
      intro p hp; simp only [List.mem_cons, List.not_mem_nil, or_false] at hp; rcases hp with rfl | rfl | rfl
      · exact np__law_polys_right
      · exact np__law_places_right
      · exact np_law,
    by
      intro p hp; simp only [List.mem_cons, List.not_mem_nil, or_false] at hp; rcases hp with rfl | rfl | rfl
      · exact t2__law_polys_right
      · exact t2__law_places_right
      · exact t2_law, fun s v => .of_eq rfl, fun H a ns hl hb hH hS => law_spL hS (fun p hp => ?_) (LT ns hl hb), fun base _ _ hB => ?_⟩
  · simp only [List.mem_cons, List.not_mem_nil, or_false] at hp; rcases hp with rfl | rfl | rfl
    · exact hH (cA__law_polys_right, P__law_polys_right) (by simp)
    · exact hH (cA__law_places_right, P__law_places_right) (by simp)
    · exact hH (cA_law, P_law) (by simp)
  have M__law_polys_right : MakerAt [(P__law_polys_right, ("_law_polys_right" ++ ".<locals>." ++ "<lambda>" : Str)), (P__law_places_right, ("_law_places_right" ++ ".<locals>." ++ "<lambda>" : Str)), (P_law, ("law" ++ ".<locals>." ++ "<lambda>" : Str))] base mg (PySem.W.fnOf "_law_polys_right" "_law_polys_right" (defArgs s__law_polys_right) (defBody s__law_polys_right) (defScope s__law_polys_right) .none kV__law_polys_right dc__law_polys_right pm__law_polys_right an__law_polys_right (.ref cA__law_polys_right) ct__law_polys_right) ("_law_polys_right" ++ ".<locals>." ++ "<lambda>") P__law_polys_right := ⟨⟨cA__law_polys_right, rfl, hB (cA__law_polys_right, P__law_polys_right) (by simp)⟩, by simp, by
        intro p hp e; simp only [List.mem_cons, List.not_mem_nil, or_false] at hp; rcases hp with rfl | rfl | rfl
        · rfl
        · exact absurd e (ne__law_places_right__law_polys_right)
        · exact absurd e (ne_law__law_polys_right)⟩
  have M__law_places_right : MakerAt [(P__law_polys_right, ("_law_polys_right" ++ ".<locals>." ++ "<lambda>" : Str)), (P__law_places_right, ("_law_places_right" ++ ".<locals>." ++ "<lambda>" : Str)), (P_law, ("law" ++ ".<locals>." ++ "<lambda>" : Str))] base mg (PySem.W.fnOf "_law_places_right" "_law_places_right" (defArgs s__law_places_right) (defBody s__law_places_right) (defScope s__law_places_right) .none kV__law_places_right dc__law_places_right pm__law_places_right an__law_places_right (.ref cA__law_places_right) ct__law_places_right) ("_law_places_right" ++ ".<locals>." ++ "<lambda>") P__law_places_right := ⟨⟨cA__law_places_right, rfl, hB (cA__law_places_right, P__law_places_right) (by simp)⟩, by simp, by
        intro p hp e; simp only [List.mem_cons, List.not_mem_nil, or_false] at hp; rcases hp with rfl | rfl | rfl
        · exact absurd e (Ne.symm ne__law_places_right__law_polys_right)
        · rfl
        · exact absurd e (ne_law__law_places_right)⟩
  have M_law : MakerAt [(P__law_polys_right, ("_law_polys_right" ++ ".<locals>." ++ "<lambda>" : Str)), (P__law_places_right, ("_law_places_right" ++ ".<locals>." ++ "<lambda>" : Str)), (P_law, ("law" ++ ".<locals>." ++ "<lambda>" : Str))] base mg (PySem.W.fnOf "law" "law" (defArgs s_law) (defBody s_law) (defScope s_law) .none kV_law dc_law pm_law an_law (.ref cA_law) ct_law) ("law" ++ ".<locals>." ++ "<lambda>") P_law := ⟨⟨cA_law, rfl, hB (cA_law, P_law) (by simp)⟩, by simp, by
        intro p hp e; simp only [List.mem_cons, List.not_mem_nil, or_false] at hp; rcases hp with rfl | rfl | rfl
        · exact absurd e (Ne.symm ne_law__law_polys_right)
        · exact absurd e (Ne.symm ne_law__law_places_right)
        · rfl⟩
  have G_is_integer := ok_is_integer (P := l.prog) (w := w) (base := base) T A_is_integer 
  have G_is_field := ok_is_field (P := l.prog) (w := w) (base := base) T A_is_field A_is_integer G_is_integer
  have G_are_numbers := ok_are_numbers (P := l.prog) (w := w) (base := base) T A_are_numbers 
  have G_check_integer := ok_check_integer (P := l.prog) (w := w) (base := base) T A_check_integer A_is_integer G_is_integer
  have GX_check_integer := okX_check_integer (P := l.prog) (w := w) (base := base) T A_check_integer A_is_integer G_is_integer
  have G_check_field := ok_check_field (P := l.prog) (w := w) (base := base) T A_check_field A_is_field G_is_field
  have GX_check_field := okX_check_field (P := l.prog) (w := w) (base := base) T A_check_field A_is_field G_is_field
  have G_check_number := ok_check_number (P := l.prog) (w := w) (base := base) T A_check_number A_check_integer G_check_integer
  have GX_check_number := okX_check_number (P := l.prog) (w := w) (base := base) T A_check_number A_check_integer G_check_integer GX_check_integer
  have G_raised := ok_raised (P := l.prog) (w := w) (base := base) T A_raised 
  have G_inverse := ok_inverse (P := l.prog) (w := w) (base := base) T A_inverse A_raised G_raised
  have G_is_poly := ok_is_poly (P := l.prog) (w := w) (base := base) T A_is_poly A_check_field G_check_field A_are_numbers G_are_numbers
  have GX_is_poly := okX_is_poly (P := l.prog) (w := w) (base := base) T A_is_poly A_check_field G_check_field GX_check_field
  have G_are_unlike := ok_are_unlike (P := l.prog) (w := w) (base := base) T A_are_unlike A_are_numbers G_are_numbers
  have G_check_poly := ok_check_poly (P := l.prog) (w := w) (base := base) T A_check_poly A_is_poly G_is_poly
  have GX_check_poly := okX_check_poly (P := l.prog) (w := w) (base := base) T A_check_poly A_is_poly G_is_poly
  have G_check_places := ok_check_places (P := l.prog) (w := w) (base := base) T A_check_places A_are_unlike G_are_unlike
  have GX_check_places := okX_check_places (P := l.prog) (w := w) (base := base) T A_check_places A_are_unlike G_are_unlike
  have G_check_hidden_places := ok_check_hidden_places (P := l.prog) (w := w) (base := base) T A_check_hidden_places A_are_unlike G_are_unlike
  have GX_check_hidden_places := okX_check_hidden_places (P := l.prog) (w := w) (base := base) T A_check_hidden_places A_are_unlike G_are_unlike
  have G_check_points := ok_check_points (P := l.prog) (w := w) (base := base) T A_check_points A_are_numbers G_are_numbers A_check_places G_check_places
  have GX_check_points := okX_check_points (P := l.prog) (w := w) (base := base) T A_check_points A_are_numbers G_are_numbers A_check_places G_check_places GX_check_places
  have G_trimmed := ok_trimmed (P := l.prog) (w := w) (base := base) T A_trimmed 
  have G_padded := ok_padded (P := l.prog) (w := w) (base := base) T A_padded 
  have G_scaled := ok_scaled (P := l.prog) (w := w) (base := base) T A_scaled 
  have G_added := ok_added (P := l.prog) (w := w) (base := base) T A_added A_trimmed G_trimmed A_padded G_padded
  have G_multiplied := ok_multiplied (P := l.prog) (w := w) (base := base) T A_multiplied 
  have G_evaluated := ok_evaluated (P := l.prog) (w := w) (base := base) T A_evaluated 
  have G_poly_sum := ok_poly_sum (P := l.prog) (w := w) (base := base) T A_poly_sum A_check_field G_check_field A_check_poly G_check_poly A_added G_added
  have GX_poly_sum := okX_poly_sum (P := l.prog) (w := w) (base := base) T A_poly_sum A_check_field G_check_field A_check_poly G_check_poly GX_check_field GX_check_poly
  have G_poly_scaled := ok_poly_scaled (P := l.prog) (w := w) (base := base) T A_poly_scaled A_check_field G_check_field A_check_poly G_check_poly A_check_number G_check_number A_trimmed G_trimmed A_scaled G_scaled
  have GX_poly_scaled := okX_poly_scaled (P := l.prog) (w := w) (base := base) T A_poly_scaled A_check_field G_check_field A_check_poly G_check_poly A_check_number G_check_number GX_check_field GX_check_poly GX_check_number
  have G_poly_product := ok_poly_product (P := l.prog) (w := w) (base := base) T A_poly_product A_check_field G_check_field A_check_poly G_check_poly A_multiplied G_multiplied
  have GX_poly_product := okX_poly_product (P := l.prog) (w := w) (base := base) T A_poly_product A_check_field G_check_field A_check_poly G_check_poly GX_check_field GX_check_poly
  have G_poly_divided := ok_poly_divided (P := l.prog) (w := w) (base := base) T A_poly_divided A_check_field G_check_field A_check_poly G_check_poly A_inverse G_inverse A_trimmed G_trimmed
  have GX_poly_divided := okX_poly_divided (P := l.prog) (w := w) (base := base) T A_poly_divided A_check_field G_check_field A_check_poly G_check_poly GX_check_field GX_check_poly
  have G_value_at := ok_value_at (P := l.prog) (w := w) (base := base) T A_value_at A_check_field G_check_field A_check_poly G_check_poly A_check_number G_check_number A_evaluated G_evaluated
  have GX_value_at := okX_value_at (P := l.prog) (w := w) (base := base) T A_value_at A_check_field G_check_field A_check_poly G_check_poly A_check_number G_check_number GX_check_field GX_check_poly GX_check_number
  have G_values_at := ok_values_at (P := l.prog) (w := w) (base := base) T A_values_at A_check_field G_check_field A_check_poly G_check_poly A_check_places G_check_places A_evaluated G_evaluated
  have GX_values_at := okX_values_at (P := l.prog) (w := w) (base := base) T A_values_at A_check_field G_check_field A_check_poly G_check_poly A_check_places G_check_places GX_check_field GX_check_poly GX_check_places
  have G_vanishing := ok_vanishing (P := l.prog) (w := w) (base := base) T A_vanishing A_multiplied G_multiplied
  have G_without_root := ok_without_root (P := l.prog) (w := w) (base := base) T A_without_root 
  have G_parts_of := ok_parts_of (P := l.prog) (w := w) (base := base) T A_parts_of A_vanishing G_vanishing A_without_root G_without_root
  have G_units_of := ok_units_of (P := l.prog) (w := w) (base := base) T A_units_of A_inverse G_inverse A_evaluated G_evaluated
  have G_interpolated := ok_interpolated (P := l.prog) (w := w) (base := base) T A_interpolated A_parts_of G_parts_of A_units_of G_units_of A_added G_added A_scaled G_scaled
  have G_through := ok_through (P := l.prog) (w := w) (base := base) T A_through A_check_field G_check_field A_check_points G_check_points A_interpolated G_interpolated
  have GX_through := okX_through (P := l.prog) (w := w) (base := base) T A_through A_check_field G_check_field A_check_points G_check_points GX_check_field GX_check_points
  have G_weights := ok_weights (P := l.prog) (w := w) (base := base) T A_weights A_check_field G_check_field A_check_places G_check_places A_check_number G_check_number A_parts_of G_parts_of A_units_of G_units_of A_evaluated G_evaluated
  have GX_weights := okX_weights (P := l.prog) (w := w) (base := base) T A_weights A_check_field G_check_field A_check_places G_check_places A_check_number G_check_number GX_check_field GX_check_places GX_check_number
  have G_check_rows := ok_check_rows (P := l.prog) (w := w) (base := base) T A_check_rows A_units_of G_units_of A_parts_of G_parts_of
  have G_checks := ok_checks (P := l.prog) (w := w) (base := base) T A_checks A_check_field G_check_field A_check_places G_check_places A_check_integer G_check_integer A_check_rows G_check_rows
  have GX_checks := okX_checks (P := l.prog) (w := w) (base := base) T A_checks A_check_field G_check_field A_check_places G_check_places A_check_integer G_check_integer GX_check_field GX_check_places GX_check_integer
  have G_hiding_poly := ok_hiding_poly (P := l.prog) (w := w) (base := base) T A_hiding_poly A_vanishing G_vanishing A_scaled G_scaled A_inverse G_inverse
  have G_hiding := ok_hiding (P := l.prog) (w := w) (base := base) T A_hiding A_check_field G_check_field A_check_hidden_places G_check_hidden_places A_hiding_poly G_hiding_poly
  have GX_hiding := okX_hiding (P := l.prog) (w := w) (base := base) T A_hiding A_check_field G_check_field A_check_hidden_places G_check_hidden_places GX_check_field GX_check_hidden_places
  have G_hidden := ok_hidden (P := l.prog) (w := w) (base := base) T A_hidden A_check_field G_check_field A_check_poly G_check_poly A_check_hidden_places G_check_hidden_places A_check_number G_check_number A_evaluated G_evaluated A_added G_added A_scaled G_scaled A_hiding_poly G_hiding_poly
  have GX_hidden := okX_hidden (P := l.prog) (w := w) (base := base) T A_hidden A_check_field G_check_field A_check_poly G_check_poly A_check_hidden_places G_check_hidden_places A_check_number G_check_number GX_check_field GX_check_poly GX_check_hidden_places GX_check_number
  have G__law_dice := ok__law_dice (P := l.prog) (w := w) (base := base) T A__law_dice 
  have G__law_roll := ok__law_roll (P := l.prog) (w := w) (base := base) T A__law_roll 
  have G__law_pick := ok__law_pick (P := l.prog) (w := w) (base := base) T A__law_pick A__law_roll G__law_roll
  have G__law_polys_right := ok__law_polys_right (P := l.prog) (w := w) (base := base) T A__law_polys_right A_poly_sum G_poly_sum A_poly_scaled G_poly_scaled A_poly_product G_poly_product A_poly_divided G_poly_divided A_value_at G_value_at A_is_poly G_is_poly GX_poly_sum GX_poly_scaled GX_poly_product GX_poly_divided GX_value_at GX_is_poly A__law_met M__law_polys_right
  have G__law_places_right := ok__law_places_right (P := l.prog) (w := w) (base := base) T A__law_places_right A__law_pick G__law_pick A_values_at G_values_at A_through G_through A_weights G_weights A_checks G_checks A_hiding G_hiding A_hidden G_hidden GX_values_at GX_through GX_weights GX_checks GX_hiding GX_hidden A__law_met M__law_places_right
  have G__law_right := ok__law_right (P := l.prog) (w := w) (base := base) T A__law_right A__law_pick G__law_pick A__law_polys_right G__law_polys_right A__law_places_right G__law_places_right
  have G_law := ok_law (P := l.prog) (w := w) (base := base) T A_law A__law_dice G__law_dice A__law_right G__law_right A_poly_product G_poly_product A_hiding G_hiding A_checks G_checks A_weights G_weights GX_poly_product GX_hiding GX_checks GX_weights A__law_met M_law
  exact G_law
end K06
end
open PySem PySem.W PyProof.Rows
set_option maxHeartbeats 0 in
theorem PySem.Challenge.cw_evencoins_k06_errors_of_polys_holds : PySem.Challenge.rw_evencoins_k06_errors_of_polys.Holds := by
  w_on; o_law; k_head; (case hw => w_witness2)
  k_fill
  refine EV.walk_ofTGr (l := PySem.Challenge.rw_evencoins_k06_errors_of_polys) (n := 63) (k := 13) (x := "script") rfl (by decide) rfl ⟨rfl, by decide, by decide⟩ (fun w h Y => PySem.W.km_in_of Y) ?F
  case F =>
    intro w mg fa h Y KX G hmg TA
    refine' K06.all_mk KX G hmg TA (fun ns hl hb => K06.law_true ns hl hb) ?a_is_integer ?l_is_integer ?c_is_integer ?k_is_integer ?a_is_field ?l_is_field ?c_is_field ?k_is_field ?a_are_numbers ?l_are_numbers ?c_are_numbers ?k_are_numbers ?a_check_integer ?l_check_integer ?c_check_integer ?k_check_integer ?a_check_field ?l_check_field ?c_check_field ?k_check_field ?a_check_number ?l_check_number ?c_check_number ?k_check_number ?a_raised ?l_raised ?c_raised ?k_raised ?a_inverse ?l_inverse ?c_inverse ?k_inverse ?a_is_poly ?l_is_poly ?c_is_poly ?k_is_poly ?a_are_unlike ?l_are_unlike ?c_are_unlike ?k_are_unlike ?a_check_poly ?l_check_poly ?c_check_poly ?k_check_poly ?a_check_places ?l_check_places ?c_check_places ?k_check_places ?a_check_hidden_places ?l_check_hidden_places ?c_check_hidden_places ?k_check_hidden_places ?a_check_points ?l_check_points ?c_check_points ?k_check_points ?a_trimmed ?l_trimmed ?c_trimmed ?k_trimmed ?a_padded ?l_padded ?c_padded ?k_padded ?a_scaled ?l_scaled ?c_scaled ?k_scaled ?a_added ?l_added ?c_added ?k_added ?a_multiplied ?l_multiplied ?c_multiplied ?k_multiplied ?a_evaluated ?l_evaluated ?c_evaluated ?k_evaluated ?a_poly_sum ?l_poly_sum ?c_poly_sum ?k_poly_sum ?a_poly_scaled ?l_poly_scaled ?c_poly_scaled ?k_poly_scaled ?a_poly_product ?l_poly_product ?c_poly_product ?k_poly_product ?a_poly_divided ?l_poly_divided ?c_poly_divided ?k_poly_divided ?a_value_at ?l_value_at ?c_value_at ?k_value_at ?a_values_at ?l_values_at ?c_values_at ?k_values_at ?a_vanishing ?l_vanishing ?c_vanishing ?k_vanishing ?a_without_root ?l_without_root ?c_without_root ?k_without_root ?a_parts_of ?l_parts_of ?c_parts_of ?k_parts_of ?a_units_of ?l_units_of ?c_units_of ?k_units_of ?a_interpolated ?l_interpolated ?c_interpolated ?k_interpolated ?a_through ?l_through ?c_through ?k_through ?a_weights ?l_weights ?c_weights ?k_weights ?a_check_rows ?l_check_rows ?c_check_rows ?k_check_rows ?a_checks ?l_checks ?c_checks ?k_checks ?a_hiding_poly ?l_hiding_poly ?c_hiding_poly ?k_hiding_poly ?a_hiding ?l_hiding ?c_hiding ?k_hiding ?a_hidden ?l_hidden ?c_hidden ?k_hidden ?a__law_dice ?l__law_dice ?c__law_dice ?k__law_dice ?a__law_roll ?l__law_roll ?c__law_roll ?k__law_roll ?a__law_pick ?l__law_pick ?c__law_pick ?k__law_pick ?a__law_met ?l__law_met ?c__law_met ?k__law_met ?a__law_polys_right ?l__law_polys_right ?c__law_polys_right ?k__law_polys_right ?a__law_places_right ?l__law_places_right ?c__law_places_right ?k__law_places_right ?a__law_right ?l__law_right ?c__law_right ?k__law_right ?a_law ?l_law ?c_law ?k_law ?z_abs ?z_all ?z_int ?z_isinstance ?z_len ?z_list ?z_max ?z_min ?z_range ?z_repr ?z_reversed ?z_set ?z_tuple ?z_zip ?q_LEAST_FIELD ?q_MAX_DEGREE ?q_MAX_FIELD ?q_MAX_SIDE ?q_SMALL_PRIMES ?r_SMALL_PRIMES ?g_InvalidPoly ?kc_InvalidPoly ?sb_InvalidPoly ?ty_InvalidPoly ?ex_InvalidPoly ?g_InvalidOperation ?kc_InvalidOperation ?sb_InvalidOperation ?ty_InvalidOperation ?ex_InvalidOperation ?g_InvalidNumber ?kc_InvalidNumber ?sb_InvalidNumber ?ty_InvalidNumber ?ii_InvalidNumber ?hd_InvalidNumber ?sa_InvalidNumber ?i_InvalidNumber ?ti_InvalidNumber ?nf_InvalidNumber ?li_InvalidNumber ?ci_InvalidNumber ?ki_InvalidNumber ?xa_InvalidNumber ?xg_InvalidNumber ?xh_InvalidNumber ?g_TooMany ?kc_TooMany ?sb_TooMany ?ty_TooMany ?ii_TooMany ?hd_TooMany ?sa_TooMany ?i_TooMany ?ti_TooMany ?nf_TooMany ?li_TooMany ?ci_TooMany ?ki_TooMany ?xa_TooMany ?xg_TooMany ?xh_TooMany ?g_Refused ?kc_Refused ?sb_Refused ?ty_Refused ?ii_Refused ?hd_Refused ?sa_Refused ?i_Refused ?ti_Refused ?nf_Refused ?li_Refused ?ci_Refused ?ki_Refused ?xa_Refused ?xg_Refused ?xh_Refused ?m_InvalidPoly_InvalidPoly ?m_InvalidPoly_InvalidOperation ?m_InvalidPoly_InvalidNumber ?m_InvalidPoly_Refused ?m_InvalidPoly_TooMany ?m_InvalidOperation_InvalidPoly ?m_InvalidOperation_InvalidOperation ?m_InvalidOperation_InvalidNumber ?m_InvalidOperation_Refused ?m_InvalidOperation_TooMany ?m_InvalidNumber_InvalidPoly ?m_InvalidNumber_InvalidOperation ?m_InvalidNumber_InvalidNumber ?m_InvalidNumber_Refused ?m_InvalidNumber_TooMany ?m_TooMany_InvalidPoly ?m_TooMany_InvalidOperation ?m_TooMany_InvalidNumber ?m_TooMany_Refused ?m_TooMany_TooMany ?m_Refused_InvalidPoly ?m_Refused_InvalidOperation ?m_Refused_InvalidNumber ?m_Refused_Refused ?m_Refused_TooMany ?cc__law_polys_right ?lc__law_polys_right ?v__law_polys_right ?np__law_polys_right ?rc__law_polys_right ?cc__law_places_right ?lc__law_places_right ?v__law_places_right ?np__law_places_right ?rc__law_places_right ?cc_law ?lc_law ?v_law ?np_law ?rc_law ?ne__law_places_right__law_polys_right ?ne_law__law_polys_right ?ne_law__law_places_right
    (case a_is_integer => k_is)
    (case l_is_integer => k_is)
    (case c_is_integer => k_is)
    (case k_is_integer => k_is)
    (case a_is_field => k_is)
    (case l_is_field => k_is)
    (case c_is_field => k_is)
    (case k_is_field => k_is)
    (case a_are_numbers => k_is)
    (case l_are_numbers => k_is)
    (case c_are_numbers => k_is)
    (case k_are_numbers => k_is)
    (case a_check_integer => k_is)
    (case l_check_integer => k_is)
    (case c_check_integer => k_is)
    (case k_check_integer => k_is)
    (case a_check_field => k_is)
    (case l_check_field => k_is)
    (case c_check_field => k_is)
    (case k_check_field => k_is)
    (case a_check_number => k_is)
    (case l_check_number => k_is)
    (case c_check_number => k_is)
    (case k_check_number => k_is)
    (case a_raised => k_is)
    (case l_raised => k_is)
    (case c_raised => k_is)
    (case k_raised => k_is)
    (case a_inverse => k_is)
    (case l_inverse => k_is)
    (case c_inverse => k_is)
    (case k_inverse => k_is)
    (case a_is_poly => k_is)
    (case l_is_poly => k_is)
    (case c_is_poly => k_is)
    (case k_is_poly => k_is)
    (case a_are_unlike => k_is)
    (case l_are_unlike => k_is)
    (case c_are_unlike => k_is)
    (case k_are_unlike => k_is)
    (case a_check_poly => k_is)
    (case l_check_poly => k_is)
    (case c_check_poly => k_is)
    (case k_check_poly => k_is)
    (case a_check_places => k_is)
    (case l_check_places => k_is)
    (case c_check_places => k_is)
    (case k_check_places => k_is)
    (case a_check_hidden_places => k_is)
    (case l_check_hidden_places => k_is)
    (case c_check_hidden_places => k_is)
    (case k_check_hidden_places => k_is)
    (case a_check_points => k_is)
    (case l_check_points => k_is)
    (case c_check_points => k_is)
    (case k_check_points => k_is)
    (case a_trimmed => k_is)
    (case l_trimmed => k_is)
    (case c_trimmed => k_is)
    (case k_trimmed => k_is)
    (case a_padded => k_is)
    (case l_padded => k_is)
    (case c_padded => k_is)
    (case k_padded => k_is)
    (case a_scaled => k_is)
    (case l_scaled => k_is)
    (case c_scaled => k_is)
    (case k_scaled => k_is)
    (case a_added => k_is)
    (case l_added => k_is)
    (case c_added => k_is)
    (case k_added => k_is)
    (case a_multiplied => k_is)
    (case l_multiplied => k_is)
    (case c_multiplied => k_is)
    (case k_multiplied => k_is)
    (case a_evaluated => k_is)
    (case l_evaluated => k_is)
    (case c_evaluated => k_is)
    (case k_evaluated => k_is)
    (case a_poly_sum => k_is)
    (case l_poly_sum => k_is)
    (case c_poly_sum => k_is)
    (case k_poly_sum => k_is)
    (case a_poly_scaled => k_is)
    (case l_poly_scaled => k_is)
    (case c_poly_scaled => k_is)
    (case k_poly_scaled => k_is)
    (case a_poly_product => k_is)
    (case l_poly_product => k_is)
    (case c_poly_product => k_is)
    (case k_poly_product => k_is)
    (case a_poly_divided => k_is)
    (case l_poly_divided => k_is)
    (case c_poly_divided => k_is)
    (case k_poly_divided => k_is)
    (case a_value_at => k_is)
    (case l_value_at => k_is)
    (case c_value_at => k_is)
    (case k_value_at => k_is)
    (case a_values_at => k_is)
    (case l_values_at => k_is)
    (case c_values_at => k_is)
    (case k_values_at => k_is)
    (case a_vanishing => k_is)
    (case l_vanishing => k_is)
    (case c_vanishing => k_is)
    (case k_vanishing => k_is)
    (case a_without_root => k_is)
    (case l_without_root => k_is)
    (case c_without_root => k_is)
    (case k_without_root => k_is)
    (case a_parts_of => k_is)
    (case l_parts_of => k_is)
    (case c_parts_of => k_is)
    (case k_parts_of => k_is)
    (case a_units_of => k_is)
    (case l_units_of => k_is)
    (case c_units_of => k_is)
    (case k_units_of => k_is)
    (case a_interpolated => k_is)
    (case l_interpolated => k_is)
    (case c_interpolated => k_is)
    (case k_interpolated => k_is)
    (case a_through => k_is)
    (case l_through => k_is)
    (case c_through => k_is)
    (case k_through => k_is)
    (case a_weights => k_is)
    (case l_weights => k_is)
    (case c_weights => k_is)
    (case k_weights => k_is)
    (case a_check_rows => k_is)
    (case l_check_rows => k_is)
    (case c_check_rows => k_is)
    (case k_check_rows => k_is)
    (case a_checks => k_is)
    (case l_checks => k_is)
    (case c_checks => k_is)
    (case k_checks => k_is)
    (case a_hiding_poly => k_is)
    (case l_hiding_poly => k_is)
    (case c_hiding_poly => k_is)
    (case k_hiding_poly => k_is)
    (case a_hiding => k_is)
    (case l_hiding => k_is)
    (case c_hiding => k_is)
    (case k_hiding => k_is)
    (case a_hidden => k_is)
    (case l_hidden => k_is)
    (case c_hidden => k_is)
    (case k_hidden => k_is)
    (case a__law_dice => k_is)
    (case l__law_dice => k_is)
    (case c__law_dice => k_is)
    (case k__law_dice => k_is)
    (case a__law_roll => k_is)
    (case l__law_roll => k_is)
    (case c__law_roll => k_is)
    (case k__law_roll => k_is)
    (case a__law_pick => k_is)
    (case l__law_pick => k_is)
    (case c__law_pick => k_is)
    (case k__law_pick => k_is)
    (case a__law_met => k_is)
    (case l__law_met => k_is)
    (case c__law_met => k_is)
    (case k__law_met => k_is)
    (case a__law_polys_right => k_is)
    (case l__law_polys_right => k_is)
    (case c__law_polys_right => k_is)
    (case k__law_polys_right => k_is)
    (case a__law_places_right => k_is)
    (case l__law_places_right => k_is)
    (case c__law_places_right => k_is)
    (case k__law_places_right => k_is)
    (case a__law_right => k_is)
    (case l__law_right => k_is)
    (case c__law_right => k_is)
    (case k__law_right => k_is)
    (case a_law => k_is)
    (case l_law => k_is)
    (case c_law => k_is)
    (case k_law => k_is)
    (case z_abs => k_is)
    (case z_all => k_is)
    (case z_int => k_is)
    (case z_isinstance => k_is)
    (case z_len => k_is)
    (case z_list => k_is)
    (case z_max => k_is)
    (case z_min => k_is)
    (case z_range => k_is)
    (case z_repr => k_is)
    (case z_reversed => k_is)
    (case z_set => k_is)
    (case z_tuple => k_is)
    (case z_zip => k_is)
    (case q_LEAST_FIELD => k_is)
    (case q_MAX_DEGREE => k_is)
    (case q_MAX_FIELD => k_is)
    (case q_MAX_SIDE => k_is)
    (case q_SMALL_PRIMES => k_is)
    (case r_SMALL_PRIMES => k_is)
    (case g_InvalidPoly => k_is)
    (case kc_InvalidPoly => k_is)
    (case sb_InvalidPoly => k_is)
    (case ty_InvalidPoly => k_is)
    (case ex_InvalidPoly => k_exc)
    (case g_InvalidOperation => k_is)
    (case kc_InvalidOperation => k_is)
    (case sb_InvalidOperation => k_is)
    (case ty_InvalidOperation => k_is)
    (case ex_InvalidOperation => k_exc)
    (case g_InvalidNumber => k_is)
    (case kc_InvalidNumber => k_is)
    (case sb_InvalidNumber => k_is)
    (case ty_InvalidNumber => k_is)
    (case ii_InvalidNumber => kx_is)
    (case hd_InvalidNumber => k_is)
    (case sa_InvalidNumber => k_is)
    (case i_InvalidNumber => k_is)
    (case ti_InvalidNumber => k_is)
    (case nf_InvalidNumber => k_is)
    (case li_InvalidNumber => k_is)
    (case ci_InvalidNumber => k_is)
    (case ki_InvalidNumber => k_is)
    (case xa_InvalidNumber => k_is)
    (case xg_InvalidNumber => k_is)
    (case xh_InvalidNumber => k_is)
    (case g_TooMany => k_is)
    (case kc_TooMany => k_is)
    (case sb_TooMany => k_is)
    (case ty_TooMany => k_is)
    (case ii_TooMany => kx_is)
    (case hd_TooMany => k_is)
    (case sa_TooMany => k_is)
    (case i_TooMany => k_is)
    (case ti_TooMany => k_is)
    (case nf_TooMany => k_is)
    (case li_TooMany => k_is)
    (case ci_TooMany => k_is)
    (case ki_TooMany => k_is)
    (case xa_TooMany => k_is)
    (case xg_TooMany => k_is)
    (case xh_TooMany => k_is)
    (case g_Refused => k_is)
    (case kc_Refused => k_is)
    (case sb_Refused => k_is)
    (case ty_Refused => k_is)
    (case ii_Refused => kx_is)
    (case hd_Refused => k_is)
    (case sa_Refused => k_is)
    (case i_Refused => k_is)
    (case ti_Refused => k_is)
    (case nf_Refused => k_is)
    (case li_Refused => k_is)
    (case ci_Refused => k_is)
    (case ki_Refused => k_is)
    (case xa_Refused => k_is)
    (case xg_Refused => k_is)
    (case xh_Refused => k_is)
    (case m_InvalidPoly_InvalidPoly => kts_exm)
    (case m_InvalidPoly_InvalidOperation => kts_exm)
    (case m_InvalidPoly_InvalidNumber => kts_exm)
    (case m_InvalidPoly_Refused => kts_exm)
    (case m_InvalidPoly_TooMany => kts_exm)
    (case m_InvalidOperation_InvalidPoly => kts_exm)
    (case m_InvalidOperation_InvalidOperation => kts_exm)
    (case m_InvalidOperation_InvalidNumber => kts_exm)
    (case m_InvalidOperation_Refused => kts_exm)
    (case m_InvalidOperation_TooMany => kts_exm)
    (case m_InvalidNumber_InvalidPoly => kts_exm)
    (case m_InvalidNumber_InvalidOperation => kts_exm)
    (case m_InvalidNumber_InvalidNumber => kts_exm)
    (case m_InvalidNumber_Refused => kts_exm)
    (case m_InvalidNumber_TooMany => kts_exm)
    (case m_TooMany_InvalidPoly => kts_exm)
    (case m_TooMany_InvalidOperation => kts_exm)
    (case m_TooMany_InvalidNumber => kts_exm)
    (case m_TooMany_Refused => kts_exm)
    (case m_TooMany_TooMany => kts_exm)
    (case m_Refused_InvalidPoly => kts_exm)
    (case m_Refused_InvalidOperation => kts_exm)
    (case m_Refused_InvalidNumber => kts_exm)
    (case m_Refused_Refused => kts_exm)
    (case m_Refused_TooMany => kts_exm)
    (case cc__law_polys_right => rfl)
    (case lc__law_polys_right => k_is)
    (case v__law_polys_right => rfl)
    (case np__law_polys_right => rfl)
    (case rc__law_polys_right => rfl)
    (case cc__law_places_right => rfl)
    (case lc__law_places_right => k_is)
    (case v__law_places_right => rfl)
    (case np__law_places_right => rfl)
    (case rc__law_places_right => rfl)
    (case cc_law => rfl)
    (case lc_law => k_is)
    (case v_law => rfl)
    (case np_law => rfl)
    (case rc_law => rfl)
    (case ne__law_places_right__law_polys_right => decide)
    (case ne_law__law_polys_right => decide)
    (case ne_law__law_places_right => decide)
