import PyProof.Rows.All
import HandS.ForMost
import HandS.ForExc
import HandS.IsInst
import HandS.WideBits
import HandS.TupAny
import HandS.TupMul
import HandS.Zip
import HandS.Rev
import HandS.Style
import HandS.Flow
import HandS.Conv
import HandS.EndBits
import PyProof.Rows.IntBool
import PyProof.ReprRoads
import HandS.TryOnly
import HandS.RevRange
import HandS.Head0
import HandS.More
import HandS.Head1
import HandS.Head2
import HandS.HeadEnd
import HandS.HeadHook1
import HandS.HeadHook2
import HandS.Defaults
import KE.GoesNew
import KE.DataMinMax
import KE.KTupSum
import KE.KRevSl
import HandS.Star
import KE.KDictZip
import HandS.TupLe
import PyProof.ReprLen
import PySem.Challenge.RW_liftwater_k77_whole_rains_in_any_order
set_option Elab.async false
set_option linter.all false
set_option maxRecDepth 100000
set_option maxHeartbeats 4000000
namespace Lw
open PySem PySem.Spec PyProof.Rows L2
/-! ### data -/
abbrev D := PyData
theorem same_seqT {K : PySem.W.Frag} {H H' : Hp} {a : Addr} {xs : List V} (e : Same H H') (h : SqT K H a xs) : SqT K H' a xs := by
  rcases h with (h | ⟨o, h⟩) | h
  · exact .inl (.inl (e _ _ h))
  · exact .inl (.inr ⟨o, e _ _ h⟩)
  · exact .inr h
section
variable {K : PySem.W.Frag} {H H' : Hp}
mutual
theorem dp_same (e : Same H H') : ∀ {v : V} {d : D}, Dp K H v d → Dp K H' v d
  | _, _, .non => .non
  | _, _, .bl b => .bl b
  | _, _, .int i => .int i
  | _, _, .str x => .str x
  | _, _, .lst h hs => .lst (e.seq h) (dpa_same e hs)
  | _, _, .tup h hs => .tup (same_seqT e h) (dpa_same e hs)
theorem dpa_same (e : Same H H') : ∀ {vs : List V} {ds : List D}, DpAll K H vs ds → DpAll K H' vs ds
  | _, _, .nil => .nil
  | _, _, .cons h hs => .cons (dp_same e h) (dpa_same e hs)
end
theorem dpa_len : ∀ {vs : List V} {ds : List D}, DpAll K H vs ds → vs.length = ds.length
  | _, _, .nil => rfl
  | _, _, .cons _ hs => by rw [List.length_cons, List.length_cons, dpa_len hs]
theorem dpa_app : ∀ {vs ws : List V} {ds es : List D}, DpAll K H vs ds → DpAll K H ws es → DpAll K H (vs ++ ws) (ds ++ es)
  | _, _, _, _, .nil, k => k
  | _, _, _, _, .cons h hs, k => .cons h (dpa_app hs k)
theorem dpa_get : ∀ {vs : List V} {ds : List D} {i : Nat} {d : D}, DpAll K H vs ds → ds[i]? = some d → ∃ v, vs[i]? = some v ∧ Dp K H v d
  | _, _, _, _, .nil, e => by simp at e
  | _, _, 0, _, .cons h _, e => by simp at e; subst e; exact ⟨_, rfl, h⟩
  | _, _, i + 1, d, .cons _ hs, e => by
    obtain ⟨v, h1, h2⟩ := dpa_get (i := i) (d := d) hs (by simpa using e)
    exact ⟨v, by simpa using h1, h2⟩
theorem dpa_getV : ∀ {vs : List V} {ds : List D} {i : Nat} {v : V}, DpAll K H vs ds → vs[i]? = some v → ∃ d, ds[i]? = some d ∧ Dp K H v d
  | _, _, _, _, .nil, e => by simp at e
  | _, _, 0, _, .cons h _, e => by simp at e; subst e; exact ⟨_, rfl, h⟩
  | _, _, i + 1, d, .cons _ hs, e => by
    obtain ⟨v, h1, h2⟩ := dpa_getV (i := i) (v := d) hs (by simpa using e)
    exact ⟨v, by simpa using h1, h2⟩
theorem dpa_set {v : V} {d : D} (h : Dp K H v d) : ∀ {vs : List V} {ds : List D} (i : Nat), DpAll K H vs ds → DpAll K H (vs.set i v) (ds.set i d)
  | _, _, _, .nil => .nil
  | _, _, 0, .cons _ t => .cons h t
  | _, _, i + 1, .cons q t => .cons q (dpa_set h i t)
theorem dpa_take : ∀ {vs : List V} {ds : List D} (n : Nat), DpAll K H vs ds → DpAll K H (vs.take n) (ds.take n)
  | _, _, 0, _ => .nil
  | _, _, _ + 1, .nil => .nil
  | _, _, n + 1, .cons r t => .cons r (dpa_take n t)
theorem dpa_drop : ∀ {vs : List V} {ds : List D} (n : Nat), DpAll K H vs ds → DpAll K H (vs.drop n) (ds.drop n)
  | _, _, 0, r => r
  | _, _, _ + 1, .nil => .nil
  | _, _, n + 1, .cons _ t => dpa_drop n t
theorem dpa_rev : ∀ {vs : List V} {ds : List D}, DpAll K H vs ds → DpAll K H vs.reverse ds.reverse
  | _, _, .nil => .nil
  | _, _, .cons r t => by
    rw [List.reverse_cons, List.reverse_cons]
    exact dpa_app (dpa_rev t) (.cons r .nil)
theorem dpa_erase : ∀ {vs : List V} {ds : List D} (n : Nat), DpAll K H vs ds → DpAll K H (vs.eraseIdx n) (ds.eraseIdx n)
  | _, _, _, .nil => .nil
  | _, _, 0, .cons _ t => t
  | _, _, n + 1, .cons r t => .cons r (dpa_erase n t)
theorem dpa_rep : ∀ (n : Nat) {vs : List V} {ds : List D}, DpAll K H vs ds → DpAll K H (List.replicate n vs).flatten (List.replicate n ds).flatten
  | 0, _, _, _ => .nil
  | n + 1, _, _, h => by
    rw [List.replicate_succ, List.replicate_succ, List.flatten_cons, List.flatten_cons]
    exact dpa_app h (dpa_rep n h)
theorem dp_none {v : V} (h : Dp K H v .none) : v = .non := by cases h; rfl
theorem dp_bool {v : V} {b : Bool} (h : Dp K H v (.bool b)) : v = .bl b := by cases h; rfl
theorem dp_int {v : V} {i : Int} (h : Dp K H v (.int i)) : v = .int i := by cases h; rfl
theorem dp_str {v : V} {x : Str} (h : Dp K H v (.str x)) : v = .str x := by cases h; rfl
theorem dp_list {v : V} {ds : List D} (h : Dp K H v (.list ds)) : ∃ a vs, v = .ref a ∧ SqL K H a vs ∧ DpAll K H vs ds := by
  cases h with | lst h hs => exact ⟨_, _, rfl, h, hs⟩
theorem dp_tuple {v : V} {ds : List D} (h : Dp K H v (.tuple ds)) : ∃ a vs, v = .ref a ∧ SqT K H a vs ∧ DpAll K H vs ds := by
  cases h with | tup h hs => exact ⟨_, _, rfl, h, hs⟩
theorem dpa_ints : ∀ {ns : List Int}, DpAll K H (ns.map V.int) (ns.map PyData.int)
  | [] => .nil
  | n :: ns => .cons (.int n) dpa_ints
theorem dpa_ints_inv : ∀ {vs : List V} {ns : List Int}, DpAll K H vs (ns.map PyData.int) → vs = ns.map V.int
  | _, [], .nil => rfl
  | _, n :: ns, .cons h t => by rw [dp_int h, dpa_ints_inv t]; rfl
theorem dpa_bools_inv : ∀ {vs : List V} {ns : List Bool}, DpAll K H vs (ns.map PyData.bool) → vs = ns.map V.bl
  | _, [], .nil => rfl
  | _, n :: ns, .cons h t => by rw [dp_bool h, dpa_bools_inv t]; rfl
end
/-! ### the state: slots that hold data, or a list of their own -/
inductive S where
  | pure (d : D)
  | own (par : Bool) (ds : List D)
abbrev En := List (Option S)
abbrev M (α : Type) := En → Option (α × En)
/-- what stood at a def's entry: the slots of lists of the caller's own, the heaps -/
structure Fx where
  A : Nat → Option Addr
  G0 : Hp
  H0 : Hp
structure Rel (K : PySem.W.Frag) (F : Fx) (ς : En) (G : Hp) (σ : L2.St) (H : Hp) : Prop where
  len : σ.length = ς.length
  sub : Same G H
  g0 : Same F.G0 G
  pu : ∀ (i : Nat) d, ς[i]? = some (some (.pure d)) → ∃ v, σ[i]? = some (some v) ∧ Dp K G v d
  ow : ∀ (i : Nat) b ds, ς[i]? = some (some (.own b ds)) → ∃ a vs, σ[i]? = some (some (.ref a)) ∧ H a = some (.lst vs) ∧ G a = none ∧ DpAll K G vs ds ∧ (b = true → F.A i = some a) ∧ (b = false → F.H0 a = none)
  ap : ∀ (i j : Nat) b c ds es a, ς[i]? = some (some (.own b ds)) → ς[j]? = some (some (.own c es)) → σ[i]? = some (some (.ref a)) → σ[j]? = some (some (.ref a)) → i = j
  par : ∀ i a, F.A i = some a → ∃ ds, ς[i]? = some (some (.own true ds))
  fr : ∀ a o, F.H0 a = some o → (∀ i, F.A i ≠ some a) → H a = some o
  nw : ∀ a, G a ≠ none → F.G0 a ≠ none ∨ F.H0 a = none
/-- what an expression gives -/
inductive R where
  | pure (d : D)
  | ref (i : Nat)
  | fresh (ds : List D)
def RepR (K : PySem.W.Frag) (F : Fx) (ς : En) (G : Hp) (σ : L2.St) (H : Hp) : R → V → Prop
  | .pure d, v => Dp K G v d
  | .ref i, v => σ[i]? = some (some v)
  | .fresh ds, v => ∃ a vs, v = .ref a ∧ H a = some (.lst vs) ∧ G a = none ∧ DpAll K G vs ds ∧ F.H0 a = none ∧ ∀ (i : Nat) b es, ς[i]? = some (some (.own b es)) → σ[i]? ≠ some (some (.ref a))
section
variable {K : PySem.W.Frag} {F : Fx} {ς : En} {G H : Hp} {σ : L2.St}
theorem same_upd {H : Hp} {p : Addr} {o : HO} (h : H p = none) : Same H (upd H p o) := fun b x e => by
  rw [upd_ne (ne_of_none e h)]; exact e
theorem same_upd2 {G H : Hp} {p : Addr} {o : HO} (h : Same G H) : Same (upd G p o) (upd H p o) := fun b x e => by
  by_cases hb : b = p
  · subst hb; rw [upd_same] at e ⊢; exact e
  · rw [upd_ne hb] at e ⊢; exact h _ _ e
theorem Rel.own_in (r : Rel K F ς G σ H) {i : Nat} {a : Addr} (h : F.A i = some a) : σ[i]? = some (some (.ref a)) ∧ ∃ vs, H a = some (.lst vs) := by
  obtain ⟨ds, e⟩ := r.par i a h
  obtain ⟨a', vs, e1, e2, _, _, e5, _⟩ := r.ow i true ds e
  have := e5 rfl
  rw [h] at this; cases this
  exact ⟨e1, vs, e2⟩
theorem Rel.new (r : Rel K F ς G σ H) {p : Addr} (h : H p = none) : F.H0 p = none := by
  cases q : F.H0 p with
  | none => rfl
  | some o =>
    by_cases hp : ∃ i, F.A i = some p
    · obtain ⟨i, hi⟩ := hp
      obtain ⟨_, vs, e⟩ := r.own_in hi
      rw [e] at h; cases h
    · have := r.fr p o q (fun i e => hp ⟨i, e⟩)
      rw [this] at h; cases h
theorem Rel.gnone (r : Rel K F ς G σ H) {p : Addr} (h : H p = none) : G p = none := r.sub.free h
/-- a new object, a datum from now on -/
theorem Rel.lay (r : Rel K F ς G σ H) {p : Addr} {o : HO} (h : H p = none) : Rel K F ς (upd G p o) σ (upd H p o) where
  len := r.len
  sub := same_upd2 r.sub
  g0 := r.g0.trans (same_upd (r.gnone h))
  pu := fun i d e => by
    obtain ⟨v, e1, e2⟩ := r.pu i d e
    exact ⟨v, e1, dp_same (same_upd (r.gnone h)) e2⟩
  ow := fun i b ds e => by
    obtain ⟨a, vs, e1, e2, e3, e4, e5⟩ := r.ow i b ds e
    have ne := ne_of_none e2 h
    exact ⟨a, vs, e1, by rw [upd_ne ne]; exact e2, by rw [upd_ne ne]; exact e3, dpa_same (same_upd (r.gnone h)) e4, e5⟩
  ap := r.ap
  par := r.par
  fr := fun a o' e na => by
    have := r.fr a o' e na
    rw [upd_ne (ne_of_none this h)]; exact this
  nw := fun a e => by
    by_cases ha : a = p
    · subst ha; exact .inr (r.new h)
    · rw [upd_ne ha] at e; exact r.nw a e
/-- a new list, nobody's yet -/
theorem Rel.layF (r : Rel K F ς G σ H) {p : Addr} {o : HO} (h : H p = none) : Rel K F ς G σ (upd H p o) where
  len := r.len
  sub := r.sub.trans (same_upd h)
  g0 := r.g0
  pu := r.pu
  ow := fun i b ds e => by
    obtain ⟨a, vs, e1, e2, e3, e4, e5⟩ := r.ow i b ds e
    have ne := ne_of_none e2 h
    exact ⟨a, vs, e1, by rw [upd_ne ne]; exact e2, e3, e4, e5⟩
  ap := r.ap
  par := r.par
  fr := fun a o' e na => by
    have := r.fr a o' e na
    rw [upd_ne (ne_of_none this h)]; exact this
  nw := r.nw
theorem Rel.repF (r : Rel K F ς G σ H) {p : Addr} {vs : List V} {ds : List D} (h : H p = none) (hd : DpAll K G vs ds) : RepR K F ς G σ (upd H p (.lst vs)) (.fresh ds) (.ref p) :=
  ⟨p, vs, rfl, upd_same, r.gnone h, hd, r.new h, fun i b es e q => by
    obtain ⟨a, ws, e1, e2, _⟩ := r.ow i b es e
    rw [q] at e1; cases e1
    rw [e2] at h; cases h⟩
theorem Rel.layD (r : Rel K F ς G σ H) {p : Addr} {vs : List V} {ds : List D} (h : H p = none) (hd : DpAll K G vs ds) : Dp K (upd G p (.tup vs)) (.ref p) (.tuple ds) :=
  .tup (.inl (.inl upd_same)) (dpa_same (same_upd (r.gnone h)) hd)
/-- freezing a list that is nobody's -/
theorem Rel.frzF (r : Rel K F ς G σ H) {v : V} {ds : List D} (h : RepR K F ς G σ H (.fresh ds) v) : ∃ G', Rel K F ς G' σ H ∧ Same G G' ∧ Dp K G' v (.list ds) := by
  obtain ⟨a, vs, rfl, h1, h2, h3, h4, h5⟩ := h
  refine ⟨upd G a (.lst vs), ⟨r.len, ?_, r.g0.trans (same_upd h2), ?_, ?_, r.ap, r.par, r.fr, ?_⟩, same_upd h2, .lst (.inl (.inl upd_same)) (dpa_same (same_upd h2) h3)⟩
  · intro b x e
    by_cases hb : b = a
    · subst hb; rw [upd_same] at e; rw [h1, e]
    · rw [upd_ne hb] at e; exact r.sub _ _ e
  · intro i d e
    obtain ⟨v, e1, e2⟩ := r.pu i d e
    exact ⟨v, e1, dp_same (same_upd h2) e2⟩
  · intro i b es e
    obtain ⟨c, ws, e1, e2, e3, e4, e5⟩ := r.ow i b es e
    have ne : c ≠ a := fun z => by subst z; exact h5 i b es e e1
    exact ⟨c, ws, e1, e2, by rw [upd_ne ne]; exact e3, dpa_same (same_upd h2) e4, e5⟩
  · intro c e
    by_cases hc : c = a
    · subst hc; exact .inr h4
    · rw [upd_ne hc] at e; exact r.nw c e
theorem get_set {α : Type} {l : List α} {i j : Nat} {x y : α} (h : (l.set i x)[j]? = some y) : (i = j ∧ x = y) ∨ (i ≠ j ∧ l[j]? = some y) := by
  by_cases e : i = j
  · subst e
    by_cases hl : i < l.length
    · rw [List.getElem?_set_self hl] at h; exact .inl ⟨rfl, Option.some.inj h⟩
    · rw [List.getElem?_eq_none (by rw [List.length_set]; omega)] at h; cases h
  · rw [List.getElem?_set_ne e] at h; exact .inr ⟨e, h⟩
def free (ς : En) (i : Nat) : Bool := match ς[i]? with
  | some (some (.own true _)) => false
  | some _ => true
  | none => false
theorem free_lt {i : Nat} (h : free ς i = true) : i < ς.length := by
  unfold free at h
  by_cases hl : i < ς.length
  · exact hl
  · rw [List.getElem?_eq_none (by omega)] at h; cases h
theorem free_no {i : Nat} {ds : List D} (h : free ς i = true) : ς[i]? ≠ some (some (.own true ds)) := fun e => by
  unfold free at h; rw [e] at h; cases h
/-- a slot takes a datum -/
theorem Rel.setP (r : Rel K F ς G σ H) {i : Nat} {v : V} {d : D} (hf : free ς i = true) (h : Dp K G v d) : Rel K F (ς.set i (some (.pure d))) G (σ.set i (some v)) H where
  len := by rw [List.length_set, List.length_set, r.len]
  sub := r.sub
  g0 := r.g0
  pu := fun j e q => by
    have hl : i < σ.length := by rw [r.len]; exact free_lt hf
    replace q := get_set q; rcases q with ⟨rfl, q⟩ | ⟨n, q⟩
    · cases q; exact ⟨v, List.getElem?_set_self hl, h⟩
    · rw [List.getElem?_set_ne n]; exact r.pu j e q
  ow := fun j b ds q => by
    replace q := get_set q; rcases q with ⟨rfl, q⟩ | ⟨n, q⟩
    · cases q
    · rw [List.getElem?_set_ne n]; exact r.ow j b ds q
  ap := fun j k b c ds es a q1 q2 q3 q4 => by
    replace q1 := get_set q1; rcases q1 with ⟨rfl, q1⟩ | ⟨n, q1⟩
    · cases q1
    replace q2 := get_set q2; rcases q2 with ⟨rfl, q2⟩ | ⟨m, q2⟩
    · cases q2
    rw [List.getElem?_set_ne n] at q3
    rw [List.getElem?_set_ne m] at q4
    exact r.ap j k b c ds es a q1 q2 q3 q4
  par := fun j a q => by
    obtain ⟨ds, e⟩ := r.par j a q
    have n : i ≠ j := fun z => by subst z; exact free_no hf e
    exact ⟨ds, by rw [List.getElem?_set_ne n]; exact e⟩
  fr := r.fr
  nw := r.nw
/-- a slot takes a new list as its own -/
theorem Rel.setO (r : Rel K F ς G σ H) {i : Nat} {v : V} {ds : List D} (hf : free ς i = true) (h : RepR K F ς G σ H (.fresh ds) v) : Rel K F (ς.set i (some (.own false ds))) G (σ.set i (some v)) H := by
  obtain ⟨a, vs, rfl, h1, h2, h3, h4, h5⟩ := h
  have hl : i < σ.length := by rw [r.len]; exact free_lt hf
  refine ⟨by rw [List.length_set, List.length_set, r.len], r.sub, r.g0, ?_, ?_, ?_, ?_, r.fr, r.nw⟩
  · intro j e q
    replace q := get_set q; rcases q with ⟨rfl, q⟩ | ⟨n, q⟩
    · cases q
    · rw [List.getElem?_set_ne n]; exact r.pu j e q
  · intro j b es q
    replace q := get_set q; rcases q with ⟨rfl, q⟩ | ⟨n, q⟩
    · cases q
      exact ⟨a, vs, List.getElem?_set_self hl, h1, h2, h3, (fun z => by cases z), fun _ => h4⟩
    · rw [List.getElem?_set_ne n]; exact r.ow j b es q
  · intro j k b c es fs a' q1 q2 q3 q4
    replace q1 := get_set q1; rcases q1 with ⟨rfl, q1⟩ | ⟨n, q1⟩
    · replace q2 := get_set q2; rcases q2 with ⟨rfl, q2⟩ | ⟨m, q2⟩
      · rfl
      · rw [List.getElem?_set_self hl] at q3; cases q3
        rw [List.getElem?_set_ne m] at q4
        exact absurd q4 (h5 k c fs q2)
    · replace q2 := get_set q2; rcases q2 with ⟨rfl, q2⟩ | ⟨m, q2⟩
      · rw [List.getElem?_set_self hl] at q4; cases q4
        rw [List.getElem?_set_ne n] at q3
        exact absurd q3 (h5 j b es q1)
      · rw [List.getElem?_set_ne n] at q3
        rw [List.getElem?_set_ne m] at q4
        exact r.ap j k b c es fs a' q1 q2 q3 q4
  · intro j a' q
    obtain ⟨es, e⟩ := r.par j a' q
    have n : i ≠ j := fun z => by subst z; exact free_no hf e
    exact ⟨es, by rw [List.getElem?_set_ne n]; exact e⟩
/-- a slot is forgotten -/
theorem Rel.setN (r : Rel K F ς G σ H) {i : Nat} {o : Option V} (hf : free ς i = true) : Rel K F (ς.set i none) G (σ.set i o) H where
  len := by rw [List.length_set, List.length_set, r.len]
  sub := r.sub
  g0 := r.g0
  pu := fun j e q => by
    replace q := get_set q; rcases q with ⟨rfl, q⟩ | ⟨n, q⟩
    · cases q
    · rw [List.getElem?_set_ne n]; exact r.pu j e q
  ow := fun j b ds q => by
    replace q := get_set q; rcases q with ⟨rfl, q⟩ | ⟨n, q⟩
    · cases q
    · rw [List.getElem?_set_ne n]; exact r.ow j b ds q
  ap := fun j k b c ds es a q1 q2 q3 q4 => by
    replace q1 := get_set q1; rcases q1 with ⟨rfl, q1⟩ | ⟨n, q1⟩
    · cases q1
    replace q2 := get_set q2; rcases q2 with ⟨rfl, q2⟩ | ⟨m, q2⟩
    · cases q2
    rw [List.getElem?_set_ne n] at q3
    rw [List.getElem?_set_ne m] at q4
    exact r.ap j k b c ds es a q1 q2 q3 q4
  par := fun j a q => by
    obtain ⟨ds, e⟩ := r.par j a q
    have n : i ≠ j := fun z => by subst z; exact free_no hf e
    exact ⟨ds, by rw [List.getElem?_set_ne n]; exact e⟩
  fr := r.fr
  nw := r.nw
/-- an own list is changed -/
theorem Rel.mut (r : Rel K F ς G σ H) {i : Nat} {b : Bool} {ds : List D} {a : Addr} {ws : List V} {es : List D} (hi : ς[i]? = some (some (.own b ds))) (ha : σ[i]? = some (some (.ref a))) (h : DpAll K G ws es) :
    Rel K F (ς.set i (some (.own b es))) G σ (upd H a (.lst ws)) := by
  obtain ⟨a', vs, e1, e2, e3, e4, e5, e6⟩ := r.ow i b ds hi
  rw [ha] at e1; cases e1
  have il : i < ς.length := (List.getElem?_eq_some_iff.mp hi).1
  refine ⟨by rw [List.length_set, r.len], ?_, r.g0, ?_, ?_, ?_, ?_, ?_, r.nw⟩
  · intro c o q
    have : c ≠ a := ne_of_none q e3
    rw [upd_ne this]; exact r.sub _ _ q
  · intro j d q
    replace q := get_set q; rcases q with ⟨rfl, q⟩ | ⟨n, q⟩
    · cases q
    · exact r.pu j d q
  · intro j c fs q
    replace q := get_set q; rcases q with ⟨rfl, q⟩ | ⟨n, q⟩
    · cases q
      exact ⟨a, ws, ha, upd_same, e3, h, e5, e6⟩
    · obtain ⟨x, xs, f1, f2, f3, f4, f5⟩ := r.ow j c fs q
      have ne : x ≠ a := fun z => by subst z; exact n (r.ap i j b c ds fs x hi q ha f1)
      exact ⟨x, xs, f1, by rw [upd_ne ne]; exact f2, f3, f4, f5⟩
  · intro j k c d fs gs x q1 q2 q3 q4
    replace q1 := get_set q1; rcases q1 with ⟨rfl, q1⟩ | ⟨n, q1⟩
    · replace q2 := get_set q2; rcases q2 with ⟨rfl, q2⟩ | ⟨m, q2⟩
      · rfl
      · exact r.ap i k b d ds gs x hi q2 q3 q4
    · replace q2 := get_set q2; rcases q2 with ⟨rfl, q2⟩ | ⟨m, q2⟩
      · exact r.ap j i c b fs ds x q1 hi q3 q4
      · exact r.ap j k c d fs gs x q1 q2 q3 q4
  · intro j x q
    by_cases e : i = j
    · subst e
      obtain ⟨fs, q2⟩ := r.par i x q
      rw [hi] at q2
      cases q2
      exact ⟨es, List.getElem?_set_self il⟩
    · rw [List.getElem?_set_ne e]; exact r.par j x q
  · intro x o q na
    have hx := r.fr x o q na
    have ne : x ≠ a := fun z => by
      subst z
      cases b with
      | true => exact na i (e5 rfl)
      | false => rw [e6 rfl] at q; cases q
    rw [upd_ne ne]; exact hx
/-- an own list becomes a datum -/
theorem Rel.frzO (r : Rel K F ς G σ H) {i : Nat} {ds : List D} (hi : ς[i]? = some (some (.own false ds))) :
    ∃ G' v, Rel K F (ς.set i (some (.pure (.list ds)))) G' σ H ∧ Same G G' ∧ σ[i]? = some (some v) ∧ Dp K G' v (.list ds) := by
  obtain ⟨a, vs, e1, e2, e3, e4, e5, e6⟩ := r.ow i false ds hi
  have hdp : Dp K (upd G a (.lst vs)) (.ref a) (.list ds) := .lst (.inl (.inl upd_same)) (dpa_same (same_upd e3) e4)
  refine ⟨upd G a (.lst vs), .ref a, ⟨by rw [List.length_set, r.len], ?_, r.g0.trans (same_upd e3), ?_, ?_, ?_, ?_, r.fr, ?_⟩, same_upd e3, e1, hdp⟩
  · intro b x e
    by_cases hb : b = a
    · subst hb; rw [upd_same] at e; rw [e2, e]
    · rw [upd_ne hb] at e; exact r.sub _ _ e
  · intro j d q
    replace q := get_set q; rcases q with ⟨rfl, q⟩ | ⟨n, q⟩
    · cases q; exact ⟨_, e1, hdp⟩
    · obtain ⟨v, f1, f2⟩ := r.pu j d q
      exact ⟨v, f1, dp_same (same_upd e3) f2⟩
  · intro j c fs q
    replace q := get_set q; rcases q with ⟨rfl, q⟩ | ⟨n, q⟩
    · cases q
    · obtain ⟨x, xs, f1, f2, f3, f4, f5⟩ := r.ow j c fs q
      have ne : x ≠ a := fun z => by subst z; exact n (r.ap i j false c ds fs x hi q e1 f1)
      exact ⟨x, xs, f1, f2, by rw [upd_ne ne]; exact f3, dpa_same (same_upd e3) f4, f5⟩
  · intro j k c d fs gs x q1 q2 q3 q4
    replace q1 := get_set q1; rcases q1 with ⟨rfl, q1⟩ | ⟨n, q1⟩
    · cases q1
    · replace q2 := get_set q2; rcases q2 with ⟨rfl, q2⟩ | ⟨m, q2⟩
      · cases q2
      · exact r.ap j k c d fs gs x q1 q2 q3 q4
  · intro j x q
    obtain ⟨fs, q2⟩ := r.par j x q
    have n : i ≠ j := fun z => by subst z; rw [hi] at q2; cases q2
    exact ⟨fs, by rw [List.getElem?_set_ne n]; exact q2⟩
  · intro c e
    by_cases hc : c = a
    · subst hc; exact .inr (e6 rfl)
    · rw [upd_ne hc] at e; exact r.nw c e
end
/-! ### readings -/
def toD : R → M D
  | .pure d => fun ς => some (d, ς)
  | .fresh ds => fun ς => some (.list ds, ς)
  | .ref i => fun ς => match ς[i]? with
    | some (some (.own false ds)) => some (.list ds, ς.set i (some (.pure (.list ds))))
    | some (some (.pure d)) => some (d, ς)
    | _ => none
def rdD : R → En → Option D
  | .pure d, _ => some d
  | .fresh ds, _ => some (.list ds)
  | .ref i, ς => match ς[i]? with
    | some (some (.own _ ds)) => some (.list ds)
    | some (some (.pure d)) => some d
    | _ => none
/-- what may be read at v: a datum, or a list whose items are data -/
def RdV (K : PySem.W.Frag) (G H : Hp) (v : V) (d : D) : Prop :=
  Dp K G v d ∨ ∃ a vs ds, v = .ref a ∧ d = .list ds ∧ H a = some (.lst vs) ∧ DpAll K G vs ds
section
variable {K : PySem.W.Frag} {F : Fx} {ς ς' : En} {G H : Hp} {σ : L2.St}
theorem toD_ok (r : Rel K F ς G σ H) {x : R} {v : V} {d : D} (h : RepR K F ς G σ H x v) (e : toD x ς = some (d, ς')) : ∃ G', Rel K F ς' G' σ H ∧ Same G G' ∧ Dp K G' v d := by
  cases x with
  | pure d' => cases e; exact ⟨G, r, Same.refl _, h⟩
  | fresh ds => cases e; exact r.frzF h
  | ref i =>
    unfold toD at e
    simp only at e
    split at e
    · rename_i ds q
      cases e
      obtain ⟨G', w, h1, h2, h3, h4⟩ := r.frzO q
      rw [show σ[i]? = some (some v) from h] at h3
      cases h3
      exact ⟨G', h1, h2, h4⟩
    · rename_i d' q
      cases e
      obtain ⟨w, h1, h2⟩ := r.pu i _ q
      rw [show σ[i]? = some (some v) from h] at h1
      cases h1
      exact ⟨G, r, Same.refl _, h2⟩
    · cases e
theorem rdD_ok (r : Rel K F ς G σ H) {x : R} {v : V} {d : D} (h : RepR K F ς G σ H x v) (e : rdD x ς = some d) : RdV K G H v d := by
  cases x with
  | pure d' => cases e; exact .inl h
  | fresh ds =>
    cases e
    obtain ⟨a, vs, rfl, h1, h2, h3, _⟩ := h
    exact .inr ⟨a, vs, ds, rfl, rfl, h1, h3⟩
  | ref i =>
    unfold rdD at e
    simp only at e
    split at e
    · rename_i b ds q
      cases e
      obtain ⟨a, vs, e1, e2, e3, e4, _⟩ := r.ow i _ _ q
      rw [show σ[i]? = some (some v) from h] at e1
      cases e1
      exact .inr ⟨a, vs, ds, rfl, rfl, e2, e4⟩
    · rename_i d' q
      cases e
      obtain ⟨w, h1, h2⟩ := r.pu i _ q
      rw [show σ[i]? = some (some v) from h] at h1
      cases h1
      exact .inl h2
    · cases e
theorem RdV.dp (r : Same G H) {v : V} {d : D} (h : RdV K G H v d) : Dp K H v d := by
  rcases h with h | ⟨a, vs, ds, rfl, rfl, h1, h2⟩
  · exact dp_same r h
  · exact .lst (.inl (.inl h1)) (dpa_same r h2)
theorem RdV.list (r : Same G H) {v : V} {ds : List D} (h : RdV K G H v (.list ds)) : ∃ a vs, v = .ref a ∧ SqL K H a vs ∧ DpAll K G vs ds := by
  rcases h with h | ⟨a, vs, ds', rfl, e, h1, h2⟩
  · obtain ⟨a, vs, rfl, h1, h2⟩ := dp_list h
    exact ⟨a, vs, rfl, r.seq h1, h2⟩
  · cases e; exact ⟨a, vs, rfl, .inl (.inl h1), h2⟩
theorem RdV.tuple (r : Same G H) {v : V} {ds : List D} (h : RdV K G H v (.tuple ds)) : ∃ a vs, v = .ref a ∧ SqT K H a vs ∧ DpAll K G vs ds := by
  rcases h with h | ⟨a, vs, ds', rfl, e, h1, h2⟩
  · obtain ⟨a, vs, rfl, h1, h2⟩ := dp_tuple h
    exact ⟨a, vs, rfl, same_seqT r h1, h2⟩
  · cases e
theorem RdV.int {v : V} {i : Int} (h : RdV K G H v (.int i)) : v = .int i := by
  rcases h with h | ⟨a, vs, ds', rfl, e, h1, h2⟩
  · exact dp_int h
  · cases e
theorem RdV.str {v : V} {i : Str} (h : RdV K G H v (.str i)) : v = .str i := by
  rcases h with h | ⟨a, vs, ds', rfl, e, h1, h2⟩
  · exact dp_str h
  · cases e
theorem RdV.bool {v : V} {i : Bool} (h : RdV K G H v (.bool i)) : v = .bl i := by
  rcases h with h | ⟨a, vs, ds', rfl, e, h1, h2⟩
  · exact dp_bool h
  · cases e
theorem RdV.none {v : V} (h : RdV K G H v .none) : v = .non := by
  rcases h with h | ⟨a, vs, ds', rfl, e, h1, h2⟩
  · exact dp_none h
  · cases e
/-- what stays readable while data grow: a datum, or a slot -/
theorem rep_keep {G' H' : Hp} {x : R} {v : V} (h : RepR K F ς G σ H x v) (hx : ∀ ds, x ≠ .fresh ds) (e : Same G G') : RepR K F ς' G' σ H' x v := by
  cases x with
  | pure d => exact dp_same e h
  | ref i => exact h
  | fresh ds => exact absurd rfl (hx ds)
end
end Lw
namespace Lw
open PySem PySem.Spec PyProof.Rows L2
/-! ### programs over the state -/
def ret {α : Type} (a : α) : M α := fun ς => some (a, ς)
def bd {α β : Type} (f : M α) (g : α → M β) : M β := fun ς => match f ς with
  | some (a, ς') => g a ς'
  | none => none
def lift {α : Type} (o : Option α) : M α := fun ς => match o with
  | some a => some (a, ς)
  | none => none
def rd (r : R) : M D := fun ς => match rdD r ς with
  | some d => some (d, ς)
  | none => none
def sub (f : M R) : M R := bd f fun r => match r with
  | .fresh ds => ret (.pure (.list ds))
  | r => ret r
def esc (f : M R) : M D := bd f toD
theorem bd_some {α β : Type} {f : M α} {g : α → M β} {ς : En} {x : β × En} (h : bd f g ς = some x) : ∃ a ς1, f ς = some (a, ς1) ∧ g a ς1 = some x := by
  unfold bd at h
  split at h
  · rename_i a ς1 e; exact ⟨a, ς1, e, h⟩
  · cases h
theorem lift_some {α : Type} {o : Option α} {ς ς' : En} {x : α} (h : lift o ς = some (x, ς')) : o = some x ∧ ς' = ς := by
  unfold lift at h
  split at h
  · cases h; exact ⟨rfl, rfl⟩
  · cases h
theorem rd_some {r : R} {ς ς' : En} {x : D} (h : rd r ς = some (x, ς')) : rdD r ς = some x ∧ ς' = ς := by
  unfold rd at h
  split at h
  · rename_i d e; cases h; exact ⟨e, rfl⟩
  · cases h
theorem sub_nf {f : M R} {ς ς' : En} {r : R} (h : sub f ς = some (r, ς')) : ∀ ds, r ≠ .fresh ds := by
  obtain ⟨a, ς1, _, h⟩ := bd_some h
  intro ds e
  subst e
  cases a <;> cases h
/-! ### readings by such programs -/
section
variable (K : PySem.W.Frag) (F : Fx)
def tEv (f : M R) : TE := fun σ H Q => ∃ ς G, Rel K F ς G σ H ∧ ∃ r ς', f ς = some (r, ς') ∧ ∀ v H' G', Rel K F ς' G' σ H' → Same G G' → RepR K F ς' G' σ H' r v → Q v H'
def tEvD (f : M D) : TE := fun σ H Q => ∃ ς G, Rel K F ς G σ H ∧ ∃ d ς', f ς = some (d, ς') ∧ ∀ v H' G', Rel K F ς' G' σ H' → Same G G' → Dp K G' v d → Q v H'
def tEvT (f : M Bool) : TT := fun σ H Q => ∃ ς G, Rel K F ς G σ H ∧ ∃ b ς', f ς = some (b, ς') ∧ ∀ H' G', Rel K F ς' G' σ H' → Same G G' → Q b H'
inductive Ar where
  | val (d : D)
  | ref (i : Nat)
def RepAr (G : Hp) (σ : L2.St) : Ar → V → Prop
  | .val d, v => Dp K G v d
  | .ref i, v => σ[i]? = some (some v)
def tEvA (f : M (List Ar)) : TA := fun σ H Q => ∃ ς G, Rel K F ς G σ H ∧ ∃ as ς', f ς = some (as, ς') ∧ ∀ vs H' G', Rel K F ς' G' σ H' → Same G G' → Paired (RepAr K G' σ) as vs → Q vs H'
end
theorem _root_.L2.PE.mono {X : Cx} {e : Expr} {t t' : TE} (h : PE X e t) (k : ∀ σ H Q, t' σ H Q → t σ H Q) : PE X e t' := ⟨fun pins s σ H Q I hw => h.run pins s σ H Q I (k σ H Q hw)⟩
theorem _root_.L2.PT.mono {X : Cx} {e : Expr} {t t' : TT} (h : PT X e t) (k : ∀ σ H Q, t' σ H Q → t σ H Q) : PT X e t' := ⟨fun pins s σ H Q I hw => h.run pins s σ H Q I (k σ H Q hw)⟩
theorem _root_.L2.PW.mono {X : Cx} {e : Expr} {t t' : TT} (h : PW X e t) (k : ∀ σ H Q, t' σ H Q → t σ H Q) : PW X e t' := ⟨fun w pins s σ H Q I hw => h.run w pins s σ H Q I (k σ H Q hw)⟩
theorem _root_.L2.PA.mono {X : Cx} {e : List Expr} {t t' : TA} (h : PA X e t) (k : ∀ σ H Q, t' σ H Q → t σ H Q) : PA X e t' := ⟨fun p pins s σ H Q I hw => h.run p pins s σ H Q I (k σ H Q hw)⟩
theorem _root_.L2.PS.mono {X : Cx} {e : Stmt} {t t' : TS} (h : PS X e t) (k : ∀ D σ H, t' D σ H → t D σ H) : PS X e t' := ⟨fun pins s σ H D I hw => h.run pins s σ H D I (k D σ H hw)⟩
theorem _root_.L2.PSs.mono {X : Cx} {e : List Stmt} {t t' : TS} (h : PSs X e t) (k : ∀ D σ H, t' D σ H → t D σ H) : PSs X e t' := ⟨fun pins s σ H D I hw => h.run pins s σ H D I (k D σ H hw)⟩
abbrev PEd (X : Cx) (e : Expr) (f : M R) : Prop := ∀ F : Fx, PE X e (tEv X.K F f)
abbrev PDd (X : Cx) (e : Expr) (f : M D) : Prop := ∀ F : Fx, PE X e (tEvD X.K F f)
abbrev PTd (X : Cx) (e : Expr) (f : M Bool) : Prop := ∀ F : Fx, PT X e (tEvT X.K F f)
abbrev PWd (X : Cx) (e : Expr) (f : M Bool) : Prop := ∀ F : Fx, PW X e (tEvT X.K F f)
abbrev PAd (X : Cx) (es : List Expr) (f : M (List Ar)) : Prop := ∀ F : Fx, PA X es (tEvA X.K F f)
section
variable {X : Cx} {F : Fx} {a b c e : Expr} {es : List Expr} {fa fb fc f : M R} {pos : Pos}
def vr (i : Nat) : M R := fun ς => match ς[i]? with
  | some (some (.pure d)) => some (.pure d, ς)
  | some (some (.own _ _)) => some (.ref i, ς)
  | _ => none
theorem d_var (i : Nat) {x : Str} (h : PE X (.Name x pos) (tVar i)) : PEd X (.Name x pos) (vr i) := fun F => h.mono fun σ H Q hq => by
  obtain ⟨ς, G, rl, r, ς', e, k⟩ := hq
  unfold vr at e
  split at e
  · rename_i d q
    cases e
    obtain ⟨v, h1, h2⟩ := rl.pu i d q
    exact ⟨v, h1, k v H G rl (Same.refl _) h2⟩
  · rename_i b ds q
    cases e
    obtain ⟨a, vs, h1, _⟩ := rl.ow i b ds q
    exact ⟨_, h1, k _ H G rl (Same.refl _) h1⟩
  · cases e
def cn (d : D) : M R := ret (.pure d)
theorem d_cn {v : V} {d : D} (h : PE X e (tC v)) (hd : ∀ G, Dp X.K G v d) : PEd X e (cn d) := fun F => h.mono fun σ H Q hq => by
  obtain ⟨ς, G, rl, r, ς', e, k⟩ := hq
  cases e
  exact k v H G rl (Same.refl _) (hd G)
theorem d_int {i : Int} {j : Nat} : PEd X (.Constant (.int i) j pos) (cn (.int i)) := d_cn pe_int fun _ => .int i
theorem d_str {x : Str} {j : Nat} : PEd X (.Constant (.str x) j pos) (cn (.str x)) := d_cn pe_str fun _ => .str x
theorem d_bl {x : Bool} {j : Nat} : PEd X (.Constant (.bool x) j pos) (cn (.bool x)) := d_cn pe_bl fun _ => .bl x
theorem d_non {j : Nat} : PEd X (.Constant .none j pos) (cn .none) := d_cn pe_non fun _ => .non
theorem d_gstr {x : Str} {z : Str} (h : PE X (.Name x pos) (tC (.str z))) : PEd X (.Name x pos) (cn (.str z)) := d_cn h fun _ => .str z
theorem d_sub (h : PEd X e f) : PEd X e (sub f) := fun F => (h F).mono fun σ H Q hq => by
  obtain ⟨ς, G, rl, r, ς', e, k⟩ := hq
  obtain ⟨r1, ς1, e1, e2⟩ := bd_some e
  refine ⟨ς, G, rl, r1, ς1, e1, fun v H' G' rl' s rep => ?_⟩
  cases r1 with
  | pure d => cases e2; exact k v H' G' rl' s rep
  | ref i => cases e2; exact k v H' G' rl' s rep
  | fresh ds =>
    cases e2
    obtain ⟨G2, rl2, s2, dp⟩ := rl'.frzF rep
    exact k v H' G2 rl2 (s.trans s2) dp
theorem d_esc (h : PEd X e f) : PDd X e (esc f) := fun F => (h F).mono fun σ H Q hq => by
  obtain ⟨ς, G, rl, d, ς', e, k⟩ := hq
  obtain ⟨r1, ς1, e1, e2⟩ := bd_some e
  refine ⟨ς, G, rl, r1, ς1, e1, fun v H' G' rl' s rep => ?_⟩
  obtain ⟨G2, rl2, s2, dp⟩ := toD_ok rl' rep e2
  exact k v H' G2 rl2 (s.trans s2) dp
/-! ### operators on data -/
structure Op2 (X : Cx) (F : Fx) (r2 : R2) (g : D → D → Option R) : Prop where
  run : ∀ (ς : En) (G : Hp) (σ : L2.St) (H : Hp) (x y : V) (dx dy : D) (r : R) (Q : VK), Rel X.K F ς G σ H → RdV X.K G H x dx → RdV X.K G H y dy → g dx dy = some r →
    (∀ v H' G', Rel X.K F ς G' σ H' → Same G G' → RepR X.K F ς G' σ H' r v → Q v H') → r2 x y H Q
def op2 (g : D → D → Option R) (fa fb : M R) : M R := bd (sub fa) fun a => bd (sub fb) fun b => bd (rd a) fun x => bd (rd b) fun y => lift (g x y)
theorem t_op2 {r2 : R2} {g : D → D → Option R} (o : Op2 X F r2 g) : ∀ σ H Q, tEv X.K F (op2 g fa fb) σ H Q → tOp r2 (tEv X.K F (sub fa)) (tEv X.K F (sub fb)) σ H Q := fun σ H Q hq => by
  obtain ⟨ς, G, rl, r, ς', e, k⟩ := hq
  obtain ⟨a, ς1, e1, q1⟩ := bd_some e
  obtain ⟨b, ς2, e2, q2⟩ := bd_some q1
  obtain ⟨x, ς3, e3', q3⟩ := bd_some q2
  obtain ⟨e3, rfl⟩ := rd_some e3'
  obtain ⟨y, ς4, e4', q4⟩ := bd_some q3
  obtain ⟨e4, rfl⟩ := rd_some e4'
  obtain ⟨e5, rfl⟩ := lift_some q4
  refine ⟨ς, G, rl, a, ς1, e1, fun v H1 G1 rl1 s1 rep1 => ⟨ς1, G1, rl1, b, ς', e2, fun w H2 G2 rl2 s2 rep2 => ?_⟩⟩
  have rep1' : RepR X.K F ς' G2 σ H2 a v := rep_keep rep1 (sub_nf e1) s2
  exact o.run ς' G2 σ H2 v w x y r Q rl2 (rdD_ok rl2 rep1' e3) (rdD_ok rl2 rep2 e4) e5 fun u H' G' rl' s rep => k u H' G' rl' (s1.trans (s2.trans s)) rep
theorem d_op {op : Operator} {r2 : R2} {g : D → D → Option R} (ho : OpR X (binaryOp op) r2) (o : ∀ F, Op2 X F r2 g) (ha : PEd X a fa) (hb : PEd X b fb) : PEd X (.BinOp a op b pos) (op2 g fa fb) :=
  fun F => PE.mono (pe_op ho (d_sub ha F) (d_sub hb F)) (t_op2 (o F))
theorem d_cmp {op : CmpOp} {r2 : R2} {g : D → D → Option R} (ho : OpR X (compareOp op) r2) (o : ∀ F, Op2 X F r2 g) (ha : PEd X a fa) (hb : PEd X b fb) (hm : behindInMarks op b = false) : PEd X (.Compare a [op] [b] pos) (op2 g fa fb) :=
  fun F => PE.mono (pe_cmpR ho (d_sub ha F) (d_sub hb F) hm) (t_op2 (o F))
/-- ints -/
def gI (C : Int → Int → Bool) (h : Int → Int → D) : D → D → Option R
  | .int i, .int j => if C i j then some (.pure (h i j)) else none
  | _, _ => none
def gI0 (h : Int → Int → D) : D → D → Option R
  | .int i, .int j => some (.pure (h i j))
  | _, _ => none
theorem op2_I {C : Int → Int → Prop} {c : Int → Int → Bool} {g : Int → Int → V} {h : Int → Int → D} (hc : ∀ i j, c i j = true → C i j) (hg : ∀ i j G, Dp X.K G (g i j) (h i j)) : Op2 X F (rI C g) (gI c h) := ⟨fun ς G σ H x y dx dy r Q rl hx hy e k => by
  cases dx with
  | int i =>
    cases dy with
    | int j =>
      replace e : (if c i j = true then some (R.pure (h i j)) else none) = some r := e
      by_cases q : c i j = true
      · rw [if_pos q] at e
        cases e
        exact ⟨i, j, hx.int, hy.int, hc i j q, k _ H G rl (Same.refl _) (hg i j G)⟩
      · rw [if_neg q] at e; cases e
    | _ => cases e
  | _ => cases e⟩
theorem op2_I0 {g : Int → Int → V} {h : Int → Int → D} (hg : ∀ i j G, Dp X.K G (g i j) (h i j)) : Op2 X F (rI0 g) (gI0 h) := ⟨fun ς G σ H x y dx dy r Q rl hx hy e k => by
  cases dx with
  | int i =>
    cases dy with
    | int j =>
      cases e
      exact ⟨i, j, hx.int, hy.int, k _ H G rl (Same.refl _) (hg i j G)⟩
    | _ => cases e
  | _ => cases e⟩
def orG (g g' : D → D → Option R) (x y : D) : Option R := match g x y with
  | some z => some z
  | none => g' x y
theorem Op2.or {r r' : R2} {g g' : D → D → Option R} (h : Op2 X F r g) (h' : Op2 X F r' g') : Op2 X F (fun x y H Q => r x y H Q ∨ r' x y H Q) (orG g g') := ⟨fun ς G σ H x y dx dy r Q rl hx hy e k => by
  unfold orG at e
  split at e
  · rename_i z q
    cases e
    exact .inl (h.run ς G σ H x y dx dy _ Q rl hx hy q k)
  · exact .inr (h'.run ς G σ H x y dx dy _ Q rl hx hy e k)⟩
theorem op2_sub : Op2 X F (rI0 fun i j => .int (i - j)) (gI0 fun i j => .int (i - j)) := op2_I0 fun _ _ _ => .int _
theorem op2_lt : Op2 X F (rI0 fun i j => .bl (decide (i < j))) (gI0 fun i j => .bool (decide (i < j))) := op2_I0 fun _ _ _ => .bl _
theorem op2_le : Op2 X F (rI0 fun i j => .bl (decide (i ≤ j))) (gI0 fun i j => .bool (decide (i ≤ j))) := op2_I0 fun _ _ _ => .bl _
theorem op2_gt : Op2 X F (rI0 fun i j => .bl (decide (j < i))) (gI0 fun i j => .bool (decide (j < i))) := op2_I0 fun _ _ _ => .bl _
theorem op2_ge : Op2 X F (rI0 fun i j => .bl (decide (j ≤ i))) (gI0 fun i j => .bool (decide (j ≤ i))) := op2_I0 fun _ _ _ => .bl _
def cMul (i j : Int) : Bool := (decide (-(2 ^ 64) < i) && decide (i < 2 ^ 64)) || (decide (-(2 ^ 64) < j) && decide (j < 2 ^ 64))
theorem op2_mulI : Op2 X F (rI CMul fun i j => .int (i * j)) (gI cMul fun i j => .int (i * j)) := op2_I (fun i j h => by
  unfold cMul at h
  simp only [Bool.or_eq_true, Bool.and_eq_true, decide_eq_true_eq] at h
  exact h) fun _ _ _ => .int _
def cDiv (_ j : Int) : Bool := decide (0 < j) && decide (j < 2 ^ 200)
theorem op2_fdiv : Op2 X F (rI CDivW fun i j => .int (i / j)) (gI cDiv fun i j => .int (i / j)) := op2_I (fun i j h => by
  unfold cDiv at h
  simp only [Bool.and_eq_true, decide_eq_true_eq] at h
  refine wide_div (b := 200) h.1 ?_ (by decide) (by decide)
  have h2 : j.toNat < 2 ^ 200 := by
    have := Int.toNat_lt (n := 2 ^ 200) (by omega : 0 ≤ j)
    rw [this]
    exact_mod_cast h.2
  omega) fun _ _ _ => .int _
theorem op2_mod : Op2 X F (rI (fun _ j => 0 < j) fun i j => .int (i % j)) (gI (fun _ j => decide (0 < j)) fun i j => .int (i % j)) := op2_I (fun i j h => of_decide_eq_true h) fun _ _ _ => .int _
def cPow (i j : Int) : Bool := decide (0 ≤ j) && decide (j ≤ 1000000) && decide (i.natAbs < 2 ^ 64)
theorem op2_pow : Op2 X F (rI CPow fun i j => .int (i ^ j.toNat)) (gI cPow fun i j => .int (i ^ j.toNat)) := op2_I (fun i j h => by
  unfold cPow at h
  simp only [Bool.and_eq_true, decide_eq_true_eq] at h
  exact ⟨h.1.1, h.1.2, h.2⟩) fun _ _ _ => .int _
end
end Lw
namespace Lw
open PySem PySem.Spec PyProof.Rows L2
section
variable {X : Cx} {F : Fx} {a b c e : Expr} {es : List Expr} {fa fb fc f : M R} {pos : Pos}
/-! ### + on texts, lists, tuples -/
def rCatL (K : PySem.W.Frag) : R2 := fun x y H Q => ∃ l b xs zs, x = .ref l ∧ y = .ref b ∧ SqL K H l xs ∧ SqL K H b zs ∧ xs.length + zs.length ≤ sizeLine ∧ ∀ p, H p = none → Q (.ref p) (upd H p (.lst (xs ++ zs)))
theorem op_catL : OpR X (binaryOp .Add) (rCatL X.K) := by
  intro pins s σ H x y v u Q I rx ry h
  obtain ⟨l, b, xs, zs, rfl, rfl, hH, hB, hz, q⟩ := h
  cases rx
  cases ry
  obtain ⟨its, r, pl, _⟩ := I.list hH
  obtain ⟨its2, r2, pl2, _⟩ := I.list hB
  obtain ⟨⟨cls, dd, data, sl⟩, ho, hc, n, hd⟩ := pl.isList
  obtain ⟨⟨cls2, dd2, data2, sl2⟩, ho2, hc2, n2, hd2⟩ := pl2.isList
  simp only at hc hd hc2 hd2
  subst hc hd hc2 hd2
  have e : its.toArray ++ its2.toArray = (its ++ its2).toArray := by simp
  have hl := r.length
  have hl2 := r2.length
  refine concat_meets ⟨_, ho, rfl⟩ ⟨_, ho2, rfl⟩ noFill_list_add seq_list_add PySem.F.slot_list_add PySem.F.entry_list_add (PySem.F.args_list_add_2 _ _) (list_addW l b its.toArray its2.toArray n n2 dd dd2 sl sl2 (by rw [List.size_toArray, List.size_toArray]; omega)) ⟨ho, ho2, ?_⟩
  rw [e]
  exact ⟨.ref _, _, I.lnew (t' := s.toks) (r.append r2) (by rw [List.length_append]; omega), rfl, q _ I.fresh⟩
def gStr : D → D → Option R
  | .str x, .str y => if x.length + y.length ≤ sizeLine then some (.pure (.str (x ++ y))) else none
  | _, _ => none
theorem op2_str : Op2 X F (fun x y H Q => ∃ i j, x = .str i ∧ y = .str j ∧ i.length + j.length ≤ sizeLine ∧ Q (.str (i ++ j)) H) gStr := ⟨fun ς G σ H x y dx dy r Q rl hx hy e k => by
  cases dx with
  | str i =>
    cases dy with
    | str j =>
      replace e : (if i.length + j.length ≤ sizeLine then some (R.pure (.str (i ++ j))) else none) = some r := e
      by_cases q : i.length + j.length ≤ sizeLine
      · rw [if_pos q] at e
        cases e
        exact ⟨i, j, hx.str, hy.str, q, k _ H G rl (Same.refl _) (.str _)⟩
      · rw [if_neg q] at e; cases e
    | _ => cases e
  | _ => cases e⟩
def gCatL : D → D → Option R
  | .list x, .list y => if x.length + y.length ≤ sizeLine then some (.fresh (x ++ y)) else none
  | _, _ => none
theorem op2_catL : Op2 X F (rCatL X.K) gCatL := ⟨fun ς G σ H x y dx dy r Q rl hx hy e k => by
  cases dx with
  | list i =>
    cases dy with
    | list j =>
      replace e : (if i.length + j.length ≤ sizeLine then some (R.fresh (i ++ j)) else none) = some r := e
      by_cases q : i.length + j.length ≤ sizeLine
      · rw [if_pos q] at e
        cases e
        obtain ⟨p, vs, rfl, h1, h2⟩ := hx.list rl.sub
        obtain ⟨p', vs', rfl, h1', h2'⟩ := hy.list rl.sub
        refine ⟨p, p', vs, vs', rfl, rfl, h1, h1', by rw [dpa_len h2, dpa_len h2']; exact q, fun z hz => ?_⟩
        exact k _ _ G (rl.layF hz) (Same.refl _) (rl.repF hz (dpa_app h2 h2'))
      · rw [if_neg q] at e; cases e
    | _ => cases e
  | _ => cases e⟩
def gCatT : D → D → Option R
  | .tuple x, .tuple y => if x.length + y.length ≤ sizeLine then some (.pure (.tuple (x ++ y))) else none
  | _, _ => none
theorem op2_catT : Op2 X F (rCatA X.K) gCatT := ⟨fun ς G σ H x y dx dy r Q rl hx hy e k => by
  cases dx with
  | tuple i =>
    cases dy with
    | tuple j =>
      replace e : (if i.length + j.length ≤ sizeLine then some (R.pure (.tuple (i ++ j))) else none) = some r := e
      by_cases q : i.length + j.length ≤ sizeLine
      · rw [if_pos q] at e
        cases e
        obtain ⟨p, vs, rfl, h1, h2⟩ := hx.tuple rl.sub
        obtain ⟨p', vs', rfl, h1', h2'⟩ := hy.tuple rl.sub
        refine ⟨p, p', vs, vs', rfl, rfl, h1, h1', by rw [dpa_len h2, dpa_len h2']; exact q, fun z => ?_, fun _ z => ?_, fun _ _ z hz => ?_⟩
        · subst z
          cases h2
          rcases hy with hy | ⟨_, _, _, _, e, _⟩
          · exact k _ H G rl (Same.refl _) hy
          · cases e
        · subst z
          cases h2'
          rw [List.append_nil] at k
          rcases hx with hx | ⟨_, _, _, _, e, _⟩
          · exact k _ H G rl (Same.refl _) hx
          · cases e
        · exact k _ _ _ (rl.lay hz) (same_upd (rl.gnone hz)) (rl.layD hz (dpa_app h2 h2'))
      · rw [if_neg q] at e; cases e
    | _ => cases e
  | _ => cases e⟩
theorem d_fdiv (ha : PEd X a fa) (hb : PEd X b fb) : PEd X (.BinOp a .FloorDiv b pos) (op2 (gI cDiv fun i j => .int (i / j)) fa fb) := d_op op_fdivW (fun _ => op2_fdiv) ha hb
theorem d_mod (ha : PEd X a fa) (hb : PEd X b fb) : PEd X (.BinOp a .Mod b pos) (op2 (gI (fun _ j => decide (0 < j)) fun i j => .int (i % j)) fa fb) := d_op op_mod (fun _ => op2_mod) ha hb
theorem d_pow (ha : PEd X a fa) (hb : PEd X b fb) : PEd X (.BinOp a .Pow b pos) (op2 (gI cPow fun i j => .int (i ^ j.toNat)) fa fb) := d_op op_pow (fun _ => op2_pow) ha hb
def gRepT : D → D → Option R
  | .tuple xs, .int k => if xs ≠ [] ∧ 2 ≤ k ∧ k ≤ 1000 ∧ xs.length ≤ 1000 then some (.pure (.tuple (List.replicate k.toNat xs).flatten)) else none
  | _, _ => none
theorem op2_repT : Op2 X F (rRepT X.K) gRepT := ⟨fun ς G σ H x y dx dy r Q rl hx hy e k => by
  cases dx with
  | tuple i =>
    cases dy with
    | int j =>
      replace e : (if i ≠ [] ∧ 2 ≤ j ∧ j ≤ 1000 ∧ i.length ≤ 1000 then some (R.pure (.tuple (List.replicate j.toNat i).flatten)) else none) = some r := e
      by_cases q : i ≠ [] ∧ 2 ≤ j ∧ j ≤ 1000 ∧ i.length ≤ 1000
      · rw [if_pos q] at e
        cases e
        obtain ⟨p, vs, rfl, h1, h2⟩ := hx.tuple rl.sub
        refine ⟨p, j, vs, rfl, hy.int, h1, fun z => q.1 (by subst z; cases h2; rfl), q.2.1, q.2.2.1, by rw [dpa_len h2]; exact q.2.2.2, fun z hz => ?_⟩
        exact k _ _ _ (rl.lay hz) (same_upd (rl.gnone hz)) (rl.layD hz (dpa_rep _ h2))
      · rw [if_neg q] at e; cases e
    | _ => cases e
  | _ => cases e⟩
/-! ### comparisons -/
/-- texts are held beside one another whatever signs they have -/
def gEqS : D → D → Option R
  | .str a, .str b => some (.pure (.bool (decide (a = b))))
  | _, _ => none
def gNeS : D → D → Option R
  | .str a, .str b => some (.pure (.bool (!decide (a = b))))
  | _, _ => none
def gEq0 (x y : D) : Option R := if SeqAt.shaped x = true ∧ SeqAt.shaped y = true then some (.pure (.bool (PyData.eqv x y))) else none
def gNe0 (x y : D) : Option R := if SeqAt.shaped x = true ∧ SeqAt.shaped y = true then some (.pure (.bool (!PyData.eqv x y))) else none
def gEq : D → D → Option R := orG gEqS gEq0
def gNe : D → D → Option R := orG gNeS gNe0
theorem op2_eqS : Op2 X F rEq gEqS := ⟨fun ς G σ H x y dx dy r Q rl hx hy e k => by
  cases dx with
  | str i =>
    cases dy with
    | str j =>
      cases e
      cases hx.str
      cases hy.str
      exact ⟨rfl, by
        have := k (.bl (decide (i = j))) H G rl (Same.refl _) (.bl _)
        rw [show decide (V.str i = V.str j) = decide (i = j) by simp]
        exact this⟩
    | _ => cases e
  | _ => cases e⟩
theorem op2_neS : Op2 X F rNe gNeS := ⟨fun ς G σ H x y dx dy r Q rl hx hy e k => by
  cases dx with
  | str i =>
    cases dy with
    | str j =>
      cases e
      cases hx.str
      cases hy.str
      exact ⟨rfl, by
        have := k (.bl (!decide (i = j))) H G rl (Same.refl _) (.bl _)
        rw [show decide (V.str i = V.str j) = decide (i = j) by simp]
        exact this⟩
    | _ => cases e
  | _ => cases e⟩
theorem op2_eq : Op2 X F (rEqD X.K) gEq0 := ⟨fun ς G σ H x y dx dy r Q rl hx hy e k => by
  unfold gEq0 at e
  split at e
  · rename_i q
    cases e
    exact ⟨dx, dy, hx.dp rl.sub, hy.dp rl.sub, q.1, q.2, k _ H G rl (Same.refl _) (.bl _)⟩
  · cases e⟩
theorem op2_ne : Op2 X F (rNeD X.K) gNe0 := ⟨fun ς G σ H x y dx dy r Q rl hx hy e k => by
  unfold gNe0 at e
  split at e
  · rename_i q
    cases e
    exact ⟨dx, dy, hx.dp rl.sub, hy.dp rl.sub, q.1, q.2, k _ H G rl (Same.refl _) (.bl _)⟩
  · cases e⟩
def isNone : D → Bool
  | .none => true
  | _ => false
theorem isNone_V {K : PySem.W.Frag} {G H : Hp} {x : V} {d : D} (h : RdV K G H x d) : decide (x = V.non) = isNone d := by
  rcases h with h | ⟨a, vs, ds, rfl, rfl, _⟩
  · cases h <;> first | exact decide_eq_true rfl | exact decide_eq_false (by intro z; cases z)
  · exact decide_eq_false (by intro z; cases z)
def gIs : D → D → Option R
  | x, .none => some (.pure (.bool (isNone x)))
  | _, _ => none
def gIsNot : D → D → Option R
  | x, .none => some (.pure (.bool (!isNone x)))
  | _, _ => none
theorem op2_is : Op2 X F (fun x y H Q => y = .non ∧ Q (.bl (decide (x = .non))) H) gIs := ⟨fun ς G σ H x y dx dy r Q rl hx hy e k => by
  cases dy with
  | none =>
    cases e
    exact ⟨hy.none, k _ H G rl (Same.refl _) (by rw [isNone_V hx]; exact .bl _)⟩
  | _ => cases e⟩
/-! ### x in data -/
def items : D → Option (List D)
  | .list ds => some ds
  | .tuple ds => some ds
  | _ => none
theorem items_ok {K : PySem.W.Frag} {G H : Hp} {x : V} {d : D} {ds : List D} (s : Same G H) (h : RdV K G H x d) (e : items d = some ds) : ∃ p xs, x = .ref p ∧ (SqL K H p xs ∨ SqT K H p xs) ∧ DpAll K G xs ds := by
  cases d with
  | list es => cases e; obtain ⟨p, vs, rfl, h1, h2⟩ := h.list s; exact ⟨p, vs, rfl, .inl h1, h2⟩
  | tuple es => cases e; obtain ⟨p, vs, rfl, h1, h2⟩ := h.tuple s; exact ⟨p, vs, rfl, .inr h1, h2⟩
  | _ => cases e
theorem units1 {k : Nat} {A : Around} (hr : Room k A) : A.units + 64 < cLine - 1 := by have := hr.un; omega
/-! ### a op b op c -/
def bOf : R → Option Bool
  | .pure (.bool b) => some b
  | _ => none
def chn (g g' : D → D → Option R) (fa fb fc : M R) : M R := bd (sub fa) fun a => bd (sub fb) fun b => bd (rd a) fun x => bd (rd b) fun y => bd (lift (g x y)) fun r => bd (lift (bOf r)) fun k =>
  if k = true then bd (sub fc) fun c => bd (rd b) fun y => bd (rd c) fun z => lift (g' y z) else ret (.pure (.bool false))
end
end Lw
namespace Lw
open PySem PySem.Spec PyProof.Rows L2
section
variable {X : Cx} {F : Fx} {a b c e : Expr} {es : List Expr} {fa fb fc f : M R} {ta tb : M Bool} {pos : Pos} {rest : List Expr}
/-! ### tests -/
def tst (f : M R) : M Bool := bd (sub f) fun r => bd (rd r) fun d => lift (match d with | .bool b => some b | _ => none)
def truD : D → Option Bool
  | .none => some false
  | .bool b => some b
  | .int i => some (i != 0)
  | .str x => if x.length ≤ sizeLine then some ((x.length : Int) != 0) else none
  | .list ds => some (!ds.isEmpty)
  | .tuple ds => some (!ds.isEmpty)
  | _ => none
def tru (f : M R) : M Bool := bd (sub f) fun r => bd (rd r) fun d => lift (truD d)
theorem t_tst : ∀ σ H Q, tEvT X.K F (tst f) σ H Q → (tEv X.K F (sub f)) σ H fun x H' => ∃ k, x = .bl k ∧ Q k H' := fun σ H Q hq => by
  obtain ⟨ς, G, rl, r, ς', e, k⟩ := hq
  obtain ⟨a, ς1, e1, q1⟩ := bd_some e
  obtain ⟨x, ς3, e3', q3⟩ := bd_some q1
  obtain ⟨e3, h3⟩ := rd_some e3'
  obtain ⟨e4, h4⟩ := lift_some q3
  subst h3 h4
  refine ⟨ς, G, rl, a, _, e1, fun v H1 G1 rl1 s1 rep1 => ?_⟩
  have rv := rdD_ok rl1 rep1 e3
  cases x with
  | bool b => cases e4; exact ⟨_, rv.bool, k H1 G1 rl1 s1⟩
  | _ => cases e4
theorem d_tstC {op : CmpOp} {r2 : R2} {g : D → D → Option R} (ho : OpR X (compareOp op) r2) (o : ∀ F, Op2 X F r2 g) (ha : PEd X a fa) (hb : PEd X b fb) (hm : behindInMarks op b = false) : PTd X (.Compare a [op] [b] pos) (tst (op2 g fa fb)) :=
  fun F => PT.mono (pt_cmpR ho (d_sub ha F) (d_sub hb F) hm) fun σ H Q hq => t_op2 (o F) σ H _ (by
    obtain ⟨ς, G, rl, r, ς', e, k⟩ := t_tst σ H Q hq
    obtain ⟨r1, ς1, e1, q1⟩ := bd_some e
    refine ⟨ς, G, rl, r1, ς1, e1, fun v H' G' rl' s rep => ?_⟩
    cases r1 with
    | pure d => cases q1; exact k v H' G' rl' s rep
    | ref i => cases q1; exact k v H' G' rl' s rep
    | fresh ds =>
      cases q1
      obtain ⟨G2, rl2, s2, dp⟩ := rl'.frzF rep
      exact k v H' G2 rl2 (s.trans s2) dp)
theorem truV_of {K : PySem.W.Frag} {G H : Hp} {x : V} {d : D} {k : Bool} (s : Same G H) (h : RdV K G H x d) (e : truD d = some k) : TruV K x H k := by
  cases d with
  | none => cases e; rw [h.none]; rfl
  | bool b => cases e; rw [h.bool]; rfl
  | int i => cases e; rw [h.int]; rfl
  | str y =>
    rw [h.str]
    unfold truD at e
    simp only at e
    split at e
    · rename_i q; cases e; exact ⟨q, rfl⟩
    · cases e
  | list ds =>
    cases e
    obtain ⟨p, vs, rfl, h1, h2⟩ := h.list s
    refine .inl ⟨vs, h1, ?_⟩
    cases h2 <;> rfl
  | tuple ds =>
    cases e
    obtain ⟨p, vs, rfl, h1, h2⟩ := h.tuple s
    refine .inr (.inl ⟨vs, h1, ?_⟩)
    cases h2 <;> rfl
  | dict _ => cases e
theorem d_tru (h : PEd X e f) (he : ∀ whole, isTrue e X.env whole = (do let v ← whole; standAt e.pos; holding [v] (truthy v)) := by intro _; rfl) : PTd X e (tru f) :=
  fun F => PT.mono (pt_truth (d_sub h F) he) fun σ H Q hq => by
    obtain ⟨ς, G, rl, r, ς', e, k⟩ := hq
    obtain ⟨a, ς1, e1, q1⟩ := bd_some e
    obtain ⟨x, ς3, e3', q3⟩ := bd_some q1
    obtain ⟨e3, h3⟩ := rd_some e3'
    obtain ⟨e4, h4⟩ := lift_some q3
    subst h3 h4
    exact ⟨ς, G, rl, a, _, e1, fun v H1 G1 rl1 s1 rep1 => ⟨_, truV_of rl1.sub (rdD_ok rl1 rep1 e3) e4, k H1 G1 rl1 s1⟩⟩
def andT (ta tb : M Bool) : M Bool := bd ta fun k => if k = true then tb else ret false
def orT (ta tb : M Bool) : M Bool := bd ta fun k => if k = true then ret true else tb
def notT (ta : M Bool) : M Bool := bd ta fun k => ret (!k)
theorem t_orT : ∀ σ H Q, tEvT X.K F (orT ta tb) σ H Q → tOr (tEvT X.K F ta) (tEvT X.K F tb) σ H Q := fun σ H Q hq => by
  obtain ⟨ς, G, rl, r, ς', e, k⟩ := hq
  obtain ⟨a, ς1, e1, q1⟩ := bd_some e
  refine ⟨ς, G, rl, a, ς1, e1, fun H1 G1 rl1 s1 => ?_⟩
  cases a with
  | true => rw [if_pos rfl] at q1 ⊢; cases q1; exact k H1 G1 rl1 s1
  | false => rw [if_neg (by decide)] at q1 ⊢; exact ⟨ς1, G1, rl1, r, ς', q1, fun H' G' rl' s => k H' G' rl' (s1.trans s)⟩
theorem w_or (ha : PTd X a ta) (hb : PWd X (.BoolOp .Or (b :: rest) pos) tb) : PWd X (.BoolOp .Or (a :: b :: rest) pos) (orT ta tb) := fun F => PW.mono (pw_or (ha F) (hb F)) t_orT
theorem w_or1 (ha : PTd X a ta) : PWd X (.BoolOp .Or [a] pos) ta := fun F => pw_or1 (ha F)
theorem d_notT (ha : PTd X a ta) : PTd X (.UnaryOp .Not a pos) (notT ta) := fun F => PT.mono (pt_not (ha F)) fun σ H Q hq => by
  obtain ⟨ς, G, rl, r, ς', e, k⟩ := hq
  obtain ⟨a, ς1, e1, q1⟩ := bd_some e
  cases q1
  exact ⟨ς, G, rl, a, _, e1, fun H1 G1 rl1 s1 => k H1 G1 rl1 s1⟩
/-! ### and, or, not as values -/
def boolD : D → Option Bool
  | .bool b => some b
  | _ => none
def andV (fa fb : M R) : M R := bd (sub fa) fun r => bd (rd r) fun d => bd (lift (boolD d)) fun k => if k = true then fb else ret (.pure (.bool false))
def orV (fa fb : M R) : M R := bd (sub fa) fun r => bd (rd r) fun d => bd (lift (boolD d)) fun k => if k = true then ret (.pure (.bool true)) else fb
def notV (fa : M R) : M R := bd (sub fa) fun r => bd (rd r) fun d => bd (lift (boolD d)) fun k => ret (.pure (.bool !k))
theorem boolD_V {K : PySem.W.Frag} {G H : Hp} {x : V} {d : D} {k : Bool} (h : RdV K G H x d) (e : boolD d = some k) : x = .bl k := by
  cases d with
  | bool b => cases e; exact h.bool
  | _ => cases e
theorem d_and (ha : PEd X a fa) (hb : PEd X (.BoolOp .And (b :: rest) pos) fb) : PEd X (.BoolOp .And (a :: b :: rest) pos) (andV fa fb) := fun F => PE.mono (pe_and (d_sub ha F) (hb F)) fun σ H Q hq => by
  obtain ⟨ς, G, rl, r, ς', e, k⟩ := hq
  obtain ⟨a, ς1, e1, q1⟩ := bd_some e
  obtain ⟨x, ς3, e3', q3⟩ := bd_some q1
  obtain ⟨e3, h3⟩ := rd_some e3'
  obtain ⟨kk, ς4, e4', q4⟩ := bd_some q3
  obtain ⟨e4, h4⟩ := lift_some e4'
  subst h3 h4
  refine ⟨ς, G, rl, a, _, e1, fun v H1 G1 rl1 s1 rep1 => ⟨kk, boolD_V (rdD_ok rl1 rep1 e3) e4, ?_⟩⟩
  cases kk with
  | true => rw [if_pos rfl] at q4 ⊢; exact ⟨_, G1, rl1, r, ς', q4, fun v H' G' rl' s rep => k v H' G' rl' (s1.trans s) rep⟩
  | false => rw [if_neg (by decide)] at q4 ⊢; cases q4; exact k _ H1 G1 rl1 s1 (.bl _)
theorem d_one {op : BoolOp} (h : PEd X a fa) : PEd X (.BoolOp op [a] pos) fa := fun F => pe_one (h F)
def ife (t : M Bool) (fa fb : M R) : M R := bd t fun k => if k = true then fa else fb
theorem d_ife (hc : PTd X c ta) (ha : PEd X a fa) (hb : PEd X b fb) : PEd X (.IfExp c a b pos) (ife ta fa fb) := fun F => PE.mono (pe_ifExp (hc F) (ha F) (hb F)) fun σ H Q hq => by
  obtain ⟨ς, G, rl, r, ς', e, k⟩ := hq
  obtain ⟨a, ς1, e1, q1⟩ := bd_some e
  refine ⟨ς, G, rl, a, ς1, e1, fun H1 G1 rl1 s1 => ?_⟩
  cases a with
  | true => rw [if_pos rfl] at q1 ⊢; exact ⟨_, G1, rl1, r, ς', q1, fun v H' G' rl' s rep => k v H' G' rl' (s1.trans s) rep⟩
  | false => rw [if_neg (by decide)] at q1 ⊢; exact ⟨_, G1, rl1, r, ς', q1, fun v H' G' rl' s rep => k v H' G' rl' (s1.trans s) rep⟩
/-! ### unary minus -/
def negV (fa : M R) : M R := bd (sub fa) fun r => bd (rd r) fun d => lift (match d with | .int i => some (.pure (.int (-i))) | _ => none)
theorem d_neg (ha : PEd X a fa) : PEd X (.UnaryOp .USub a pos) (negV fa) := fun F => PE.mono (pe_un un_neg (d_sub ha F)) fun σ H Q hq => by
  obtain ⟨ς, G, rl, r, ς', e, k⟩ := hq
  obtain ⟨a, ς1, e1, q1⟩ := bd_some e
  obtain ⟨x, ς3, e3', q3⟩ := bd_some q1
  obtain ⟨e3, h3⟩ := rd_some e3'
  obtain ⟨e4, h4⟩ := lift_some q3
  subst h3 h4
  refine ⟨ς, G, rl, a, _, e1, fun v H1 G1 rl1 s1 rep1 => ?_⟩
  have rv := rdD_ok rl1 rep1 e3
  cases x with
  | int i => cases e4; exact ⟨i, rv.int, k _ H1 G1 rl1 s1 (.int _)⟩
  | _ => cases e4
/-! ### arguments, displays -/
def avs : List D → List Ar := List.map Ar.val
def argN : M (List Ar) := ret []
def argV (f : M R) (g : M (List Ar)) : M (List Ar) := bd (esc f) fun d => bd g fun as => ret (.val d :: as)
def argR (f : M R) (g : M (List Ar)) : M (List Ar) := bd f fun r => match r with
  | .ref i => bd g fun as => ret (.ref i :: as)
  | _ => lift none
theorem a_nil : PAd X [] argN := fun F => PA.mono pa_nil fun σ H Q hq => by
  obtain ⟨ς, G, rl, r, ς', e, k⟩ := hq
  cases e
  exact k [] H G rl (Same.refl _) .nil
theorem a_val {ga : M (List Ar)} (ha : PEd X a fa) (hr : PAd X es ga) (hs : starEach (a :: es) X.env = (false, eval a X.env) :: starEach es X.env := by rfl) : PAd X (a :: es) (argV fa ga) := fun F => PA.mono (pa_cons (d_esc ha F) (hr F) hs) fun σ H Q hq => by
  obtain ⟨ς, G, rl, r, ς', e, k⟩ := hq
  obtain ⟨d, ς1, e1, q1⟩ := bd_some e
  obtain ⟨as, ς2, e2, q2⟩ := bd_some q1
  cases q2
  exact ⟨ς, G, rl, d, ς1, e1, fun v H1 G1 rl1 s1 dp => ⟨ς1, G1, rl1, as, _, e2, fun vs H2 G2 rl2 s2 ps => k (v :: vs) H2 G2 rl2 (s1.trans s2) (.cons (dp_same s2 dp) ps)⟩⟩
theorem a_ref {ga : M (List Ar)} (ha : PEd X a fa) (hr : PAd X es ga) (hs : starEach (a :: es) X.env = (false, eval a X.env) :: starEach es X.env := by rfl) : PAd X (a :: es) (argR fa ga) := fun F => PA.mono (pa_cons (ha F) (hr F) hs) fun σ H Q hq => by
  obtain ⟨ς, G, rl, r, ς', e, k⟩ := hq
  obtain ⟨d, ς1, e1, q1⟩ := bd_some e
  refine ⟨ς, G, rl, d, ς1, e1, fun v H1 G1 rl1 s1 dp => ?_⟩
  cases d with
  | ref i =>
    obtain ⟨as, ς2, e2, q2⟩ := bd_some q1
    cases q2
    exact ⟨ς1, G1, rl1, as, _, e2, fun vs H2 G2 rl2 s2 ps => k (v :: vs) H2 G2 rl2 (s1.trans s2) (.cons dp ps)⟩
  | _ => cases q1
def vals : List Ar → Option (List D)
  | [] => some []
  | .val d :: as => match vals as with
    | some ds => some (d :: ds)
    | none => none
  | .ref _ :: _ => none
theorem vals_ok {K : PySem.W.Frag} {G : Hp} {σ : L2.St} : ∀ {as : List Ar} {vs : List V} {ds : List D}, Paired (RepAr K G σ) as vs → vals as = some ds → DpAll K G vs ds
  | _, _, _, .nil, e => by cases e; exact .nil
  | .val d :: as, _, ds, .cons h t, e => by
    unfold vals at e
    split at e
    · rename_i ds' q
      cases e
      exact .cons h (vals_ok t q)
    · cases e
  | .ref i :: as, _, _, .cons h t, e => by cases e
def small (n : Nat) : Bool := decide (n ≤ sizeLine)
def tupE (g : M (List Ar)) : M R := bd g fun as => bd (lift (vals as)) fun ds => if small ds.length = true then ret (.pure (.tuple ds)) else lift none
def lstE (g : M (List Ar)) : M R := bd g fun as => bd (lift (vals as)) fun ds => if small ds.length = true then ret (.fresh ds) else lift none
theorem d_tup {g : M (List Ar)} {k : Nat} (h : PAd X es g) : PEd X (.Tuple es k pos) (tupE g) := fun F => PE.mono (pe_tup (h F)) fun σ H Q hq => by
  obtain ⟨ς, G, rl, r, ς', e, k⟩ := hq
  obtain ⟨as, ς1, e1, q1⟩ := bd_some e
  obtain ⟨ds, ς2, e2', q2⟩ := bd_some q1
  obtain ⟨e2, h2⟩ := lift_some e2'
  subst h2
  refine ⟨ς, G, rl, as, _, e1, fun vs H1 G1 rl1 s1 ps => ?_⟩
  have da := vals_ok ps e2
  by_cases hs : small ds.length = true
  · rw [if_pos hs] at q2
    cases q2
    refine ⟨by rw [dpa_len da]; exact of_decide_eq_true hs, fun p hp => ?_⟩
    exact k _ _ _ (rl1.lay hp) (s1.trans (same_upd (rl1.gnone hp))) (rl1.layD hp da)
  · rw [if_neg hs] at q2; cases q2
theorem d_lst {g : M (List Ar)} (h : PAd X es g) : PEd X (.List es pos) (lstE g) := fun F => PE.mono (pe_lst (h F)) fun σ H Q hq => by
  obtain ⟨ς, G, rl, r, ς', e, k⟩ := hq
  obtain ⟨as, ς1, e1, q1⟩ := bd_some e
  obtain ⟨ds, ς2, e2', q2⟩ := bd_some q1
  obtain ⟨e2, h2⟩ := lift_some e2'
  subst h2
  refine ⟨ς, G, rl, as, _, e1, fun vs H1 G1 rl1 s1 ps => ?_⟩
  have da := vals_ok ps e2
  by_cases hs : small ds.length = true
  · rw [if_pos hs] at q2
    cases q2
    refine ⟨by rw [dpa_len da]; exact of_decide_eq_true hs, fun p hp => ?_⟩
    exact k _ _ _ (rl1.layF hp) s1 (rl1.repF hp da)
  · rw [if_neg hs] at q2; cases q2
/-! ### o[i] -/
def gIx : D → D → Option R
  | .list ds, .int i => (atI ds i).map R.pure
  | .tuple ds, .int i => (atI ds i).map R.pure
  | _, _ => none
theorem atI_dp {K : PySem.W.Frag} {G : Hp} {vs : List V} {ds : List D} {i : Int} {d : D} (h : DpAll K G vs ds) (e : atI ds i = some d) : ∃ v, atI vs i = some v ∧ Dp K G v d := by
  unfold atI at e ⊢
  rw [dpa_len h]
  cases q : ixN ds.length i with
  | none => rw [q] at e; cases e
  | some j => rw [q] at e; exact dpa_get h e
theorem op2_ix : Op2 X F (rIx X.K) gIx := ⟨fun ς G σ H x y dx dy r Q rl hx hy e k => by
  cases dx with
  | list ds =>
    cases dy with
    | int i =>
      cases q : atI ds i with
      | none => rw [gIx, q] at e; cases e
      | some d =>
        rw [gIx, q] at e; cases e
        obtain ⟨p, vs, rfl, h1, h2⟩ := hx.list rl.sub
        obtain ⟨v, e1, e2⟩ := atI_dp h2 q
        exact .inl ⟨p, vs, i, v, rfl, hy.int, h1, e1, k v H G rl (Same.refl _) e2⟩
    | _ => cases e
  | tuple ds =>
    cases dy with
    | int i =>
      cases q : atI ds i with
      | none => rw [gIx, q] at e; cases e
      | some d =>
        rw [gIx, q] at e; cases e
        obtain ⟨p, vs, rfl, h1, h2⟩ := hx.tuple rl.sub
        obtain ⟨v, e1, e2⟩ := atI_dp h2 q
        exact .inr (.inl ⟨p, vs, i, v, rfl, hy.int, h1, e1, k v H G rl (Same.refl _) e2⟩)
    | _ => cases e
  | _ => cases e⟩
theorem d_ix (ha : PEd X a fa) (hb : PEd X b fb) (hs : PlainIx b := by exact fun _ _ => rfl) : PEd X (.Subscript a b pos) (op2 gIx fa fb) := fun F => PE.mono (pe_ix ix_seq (d_sub ha F) (d_sub hb F) hs) (t_op2 op2_ix)
end
end Lw
namespace Lw
open PySem PySem.Spec PyProof.Rows L2
section
variable {X : Cx} {F : Fx} {a b c e : Expr} {es : List Expr} {fa fb fc f : M R} {pos p p2 : Pos} {x : Str}
/-! ### bools among intsD -/
def rIB (h : Int → Int → Int) : R2 := fun x y H Q => (∃ k j, x = .bl k ∧ y = .int j ∧ Q (.int (h (if k = true then 1 else 0) j)) H) ∨ ∃ i k, x = .int i ∧ y = .bl k ∧ Q (.int (h i (if k = true then 1 else 0))) H
theorem op_addB : OpR X (binaryOp .Add) (rIB (· + ·)) := by
  intro pins s σ H x y v u Q I rx ry h
  rcases h with ⟨k, j, rfl, rfl, q⟩ | ⟨i, k, rfl, rfl, q⟩
  · cases rx
    obtain ⟨t, rfl⟩ := ry
    exact PySem.IntBool.add_bool_int ⟨.int _, H, I.tok _, ⟨_, rfl⟩, q⟩
  · obtain ⟨t, rfl⟩ := rx
    cases ry
    exact PySem.add_int_bool ⟨.int _, H, I.tok _, ⟨_, rfl⟩, q⟩
theorem op_subB : OpR X (binaryOp .Sub) (rIB (· - ·)) := by
  intro pins s σ H x y v u Q I rx ry h
  rcases h with ⟨k, j, rfl, rfl, q⟩ | ⟨i, k, rfl, rfl, q⟩
  · cases rx
    obtain ⟨t, rfl⟩ := ry
    exact PySem.IntBool.sub_bool_int ⟨.int _, H, I.tok _, ⟨_, rfl⟩, q⟩
  · obtain ⟨t, rfl⟩ := rx
    cases ry
    exact PySem.IntBool.sub_int_bool ⟨.int _, H, I.tok _, ⟨_, rfl⟩, q⟩
def gIB (h : Int → Int → Int) : D → D → Option R
  | .bool k, .int j => some (.pure (.int (h (if k = true then 1 else 0) j)))
  | .int i, .bool k => some (.pure (.int (h i (if k = true then 1 else 0))))
  | _, _ => none
theorem op2_IB {h : Int → Int → Int} : Op2 X F (rIB h) (gIB h) := ⟨fun ς G σ H x y dx dy r Q rl hx hy e k => by
  cases dx with
  | bool i =>
    cases dy with
    | int j => cases e; exact .inl ⟨i, j, hx.bool, hy.int, k _ H G rl (Same.refl _) (.int _)⟩
    | _ => cases e
  | int i =>
    cases dy with
    | bool j => cases e; exact .inr ⟨i, j, hx.int, hy.bool, k _ H G rl (Same.refl _) (.int _)⟩
    | _ => cases e
  | _ => cases e⟩
/-! ### slices -/
def tEvO (K : PySem.W.Frag) (F : Fx) (f : M (Option Int)) : TO := fun σ H Q => ∃ ς G, Rel K F ς G σ H ∧ ∃ o ς', f ς = some (o, ς') ∧ ∀ H' G', Rel K F ς' G' σ H' → Same G G' → Q o H'
def ptN : M (Option Int) := ret none
def ptS (f : M R) : M (Option Int) := bd (sub f) fun r => bd (rd r) fun d => lift (match d with | .int i => some (some i) | _ => none)
theorem _root_.L2.PO.mono {o : Option Expr} {t t' : TO} (h : PO X o t) (k : ∀ σ H Q, t' σ H Q → t σ H Q) : PO X o t' := ⟨fun pins s σ H Q I hw => h.run pins s σ H Q I (k σ H Q hw)⟩
abbrev POd (X : Cx) (o : Option Expr) (f : M (Option Int)) : Prop := ∀ F : Fx, PO X o (tEvO X.K F f)
theorem o_none : POd X none ptN := fun F => PO.mono po_none fun σ H Q hq => by
  obtain ⟨ς, G, rl, r, ς', e, k⟩ := hq
  cases e
  exact k H G rl (Same.refl _)
theorem o_some (h : PEd X e f) : POd X (some e) (ptS f) := fun F => PO.mono (po_some (d_sub h F)) fun σ H Q hq => by
  obtain ⟨ς, G, rl, r, ς', e, k⟩ := hq
  obtain ⟨a, ς1, e1, q1⟩ := bd_some e
  obtain ⟨x, ς3, e3', q3⟩ := bd_some q1
  obtain ⟨e3, h3⟩ := rd_some e3'
  obtain ⟨e4, h4⟩ := lift_some q3
  subst h3 h4
  refine ⟨ς, G, rl, a, _, e1, fun v H1 G1 rl1 s1 rep1 => ?_⟩
  have rv := rdD_ok rl1 rep1 e3
  cases x with
  | int i => cases e4; exact ⟨i, rv.int, k H1 G1 rl1 s1⟩
  | _ => cases e4
def cutD (ds : List D) (lo hi : Option Int) : List D := (ds.drop (HT.sIx ds.length 0 lo)).take (HT.sIx ds.length ds.length hi - HT.sIx ds.length 0 lo)
def gSl (x : D) (lo hi : Option Int) : Option R := match x with
  | .list ds => some (.fresh (cutD ds lo hi))
  | .tuple ds => some (.pure (.tuple (cutD ds lo hi)))
  | _ => none
def slE (fa : M R) (fl fh : M (Option Int)) : M R := bd (sub fa) fun a => bd fl fun l => bd fh fun h => bd (rd a) fun x => lift (gSl x l h)
theorem d_sl {lo hi : Option Expr} {fl fh : M (Option Int)} (ha : PEd X a fa) (hl : POd X lo fl) (hh : POd X hi fh) : PEd X (.Subscript a (.Slice lo hi none p2) pos) (slE fa fl fh) :=
  fun F => PE.mono (pe_slice (sl_list.or sl_tupA) (d_sub ha F) (hl F) (hh F)) fun σ H Q hq => by
    obtain ⟨ς, G, rl, r, ς', e, k⟩ := hq
    obtain ⟨a, ς1, e1, q1⟩ := bd_some e
    obtain ⟨l, ς2, e2, q2⟩ := bd_some q1
    obtain ⟨h, ς3, e3, q3⟩ := bd_some q2
    obtain ⟨x, ς4, e4', q4⟩ := bd_some q3
    obtain ⟨e4, h4⟩ := rd_some e4'
    obtain ⟨e5, h5⟩ := lift_some q4
    subst h4 h5
    refine ⟨ς, G, rl, a, ς1, e1, fun v H1 G1 rl1 s1 rep1 => ⟨ς1, G1, rl1, l, ς2, e2, fun H2 G2 rl2 s2 => ⟨ς2, G2, rl2, h, _, e3, fun H3 G3 rl3 s3 => ?_⟩⟩⟩
    have rep1' := rep_keep (ς' := ς') (H' := H3) rep1 (sub_nf e1) (s2.trans s3)
    have rv := rdD_ok rl3 rep1' e4
    cases x with
    | list ds =>
      cases e5
      obtain ⟨p, vs, rfl, h1, h2⟩ := rv.list rl3.sub
      refine .inl ⟨p, vs, rfl, h1, fun z hz => ?_⟩
      have : DpAll X.K G3 (cutV vs l h) (cutD ds l h) := by
        unfold cutV cutD
        rw [dpa_len h2]
        exact dpa_take _ (dpa_drop _ h2)
      exact k _ _ G3 (rl3.layF hz) (s1.trans (s2.trans s3)) (rl3.repF hz this)
    | tuple ds =>
      cases e5
      obtain ⟨p, vs, e6, h1, h2⟩ := rv.tuple rl3.sub
      subst e6
      refine .inr ⟨p, vs, rfl, h1, fun z => ?_, fun _ z hz => ?_⟩
      · rw [dpa_len h2] at z
        have : cutD ds l h = ds := by
          unfold cutD
          rw [z.1, z.2]
          simp
        rw [this] at k
        rcases rv with rv | ⟨_, _, _, _, ee, _⟩
        · exact k _ H3 G3 rl3 (s1.trans (s2.trans s3)) rv
        · cases ee
      · have : DpAll X.K G3 (cutV vs l h) (cutD ds l h) := by
          unfold cutV cutD
          rw [dpa_len h2]
          exact dpa_take _ (dpa_drop _ h2)
        exact k _ _ _ (rl3.lay hz) (s1.trans (s2.trans (s3.trans (same_upd (rl3.gnone hz))))) (rl3.layD hz this)
    | _ => cases e5
def revE (fa : M R) : M R := bd (sub fa) fun a => bd (rd a) fun x => lift (match x with | .list ds => some (.fresh ds.reverse) | _ => none)
/-! ### built-ins by values -/
structure Call1 (X : Cx) (F : Fx) (r : List V → Hp → VK → Prop) (g : D → Option R) : Prop where
  run : ∀ (ς : En) (G : Hp) (σ : L2.St) (H : Hp) (x : V) (dx : D) (res : R) (Q : VK), Rel X.K F ς G σ H → RdV X.K G H x dx → g dx = some res →
    (∀ v H' G', Rel X.K F ς G' σ H' → Same G G' → RepR X.K F ς G' σ H' res v → Q v H') → r [x] H Q
structure Call2 (X : Cx) (F : Fx) (r : List V → Hp → VK → Prop) (g : D → D → Option R) : Prop where
  run : ∀ (ς : En) (G : Hp) (σ : L2.St) (H : Hp) (x y : V) (dx dy : D) (res : R) (Q : VK), Rel X.K F ς G σ H → RdV X.K G H x dx → RdV X.K G H y dy → g dx dy = some res →
    (∀ v H' G', Rel X.K F ς G' σ H' → Same G G' → RepR X.K F ς G' σ H' res v → Q v H') → r [x, y] H Q
def cal1 (g : D → Option R) (fa : M R) : M R := bd (sub fa) fun a => bd (rd a) fun x => lift (g x)
theorem t_cal1 {r : List V → Hp → VK → Prop} {g : D → Option R} (o : Call1 X F r g) : ∀ σ H Q, tEv X.K F (cal1 g fa) σ H Q → tCB r (tCons (tEv X.K F (sub fa)) tNil) σ H Q := fun σ H Q hq => by
  obtain ⟨ς, G, rl, r, ς', e, k⟩ := hq
  obtain ⟨a, ς1, e1, q1⟩ := bd_some e
  obtain ⟨x, ς4, e4', q4⟩ := bd_some q1
  obtain ⟨e4, h4⟩ := rd_some e4'
  obtain ⟨e5, h5⟩ := lift_some q4
  subst h4 h5
  exact ⟨ς, G, rl, a, _, e1, fun v H1 G1 rl1 s1 rep1 => o.run _ G1 σ H1 v x r Q rl1 (rdD_ok rl1 rep1 e4) e5 fun u H' G' rl' s rep => k u H' G' rl' (s1.trans s) rep⟩
theorem t_cal2 {r : List V → Hp → VK → Prop} {g : D → D → Option R} (o : Call2 X F r g) : ∀ σ H Q, tEv X.K F (op2 g fa fb) σ H Q → tCB r (tCons (tEv X.K F (sub fa)) (tCons (tEv X.K F (sub fb)) tNil)) σ H Q := fun σ H Q hq =>
  t_op2 (X := X) (F := F) (fa := fa) (fb := fb) (r2 := fun x y H Q => r [x, y] H Q) (g := g) ⟨o.run⟩ σ H Q hq
theorem d_callB1 {r : List V → Hp → VK → Prop} {g : D → Option R} {id : String} (hc : CallR X (.builtin id) r) (o : ∀ F, Call1 X F r g) (hg : Gl X x) (hm : X.mg x = none) (hv : bootBuiltins x = some (.builtin id)) (ha : PEd X a fa) (hn : x ≠ "__name__" := by decide) (hdb : (x == ("__debug__" : Str)) = false := by decide)
    (he : starEach [a] X.env = (false, eval a X.env) :: starEach [] X.env := by rfl) (hpl : (backTo pos (starEach [] X.env)).any (·.1) = false := by rfl) : PEd X (.Call (.Name x p) [a] [] pos) (cal1 g fa) :=
  fun F => PE.mono (pe_callB hc hg hm hv (pa_cons (d_sub ha F) pa_nil he) hn hdb he hpl) (t_cal1 (o F))
theorem d_callT1 {r : List V → Hp → VK → Prop} {g : D → Option R} {T : String} (hc : CallR X (.type T) r) (o : ∀ F, Call1 X F r g) (hg : Gl X x) (hm : X.mg x = none) (hv : bootBuiltins x = some (.type T)) (ha : PEd X a fa) (hn : x ≠ "__name__" := by decide) (hdb : (x == ("__debug__" : Str)) = false := by decide)
    (he : starEach [a] X.env = (false, eval a X.env) :: starEach [] X.env := by rfl) (hpl : (backTo pos (starEach [] X.env)).any (·.1) = false := by rfl) : PEd X (.Call (.Name x p) [a] [] pos) (cal1 g fa) :=
  fun F => PE.mono (pe_callTy hc hg hm hv (pa_cons (d_sub ha F) pa_nil he) hn hdb he hpl) (t_cal1 (o F))
theorem d_callB2 {r : List V → Hp → VK → Prop} {g : D → D → Option R} {id : String} (hc : CallR X (.builtin id) r) (o : ∀ F, Call2 X F r g) (hg : Gl X x) (hm : X.mg x = none) (hv : bootBuiltins x = some (.builtin id)) (ha : PEd X a fa) (hb : PEd X b fb) (hn : x ≠ "__name__" := by decide) (hdb : (x == ("__debug__" : Str)) = false := by decide)
    (he : starEach [a, b] X.env = (false, eval a X.env) :: starEach [b] X.env := by rfl) (he2 : starEach [b] X.env = (false, eval b X.env) :: starEach [] X.env := by rfl) (hpl : (backTo pos (starEach [b] X.env)).any (·.1) = false := by rfl) : PEd X (.Call (.Name x p) [a, b] [] pos) (op2 g fa fb) :=
  fun F => PE.mono (pe_callB hc hg hm hv (pa_cons (d_sub ha F) (pa_cons (d_sub hb F) pa_nil he2) he) hn hdb he hpl) (t_cal2 (o F))
theorem CallR.or {f : Value} {r r' : List V → Hp → VK → Prop} (h : CallR X f r) (h' : CallR X f r') : CallR X f (fun xs H Q => r xs H Q ∨ r' xs H Q) := by
  intro pins s σ H xs us Q I rv hq
  rcases hq with hq | hq
  · exact h pins s σ H xs us Q I rv hq
  · exact h' pins s σ H xs us Q I rv hq
def gAbs : D → Option R
  | .int i => some (.pure (.int (if i < 0 then -i else i)))
  | _ => none
theorem d_abs (hg : Gl X "abs") (hm : X.mg "abs" = none) (ha : PEd X a fa) (he : starEach [a] X.env = (false, eval a X.env) :: starEach [] X.env := by rfl) : PEd X (.Call (.Name "abs" p) [a] [] pos) (cal1 gAbs fa) := d_callB1 call_abs (fun F => ⟨fun ς G σ H x dx res Q rl hx e k => by
  cases dx with
  | int i => cases e; exact ⟨i, by rw [hx.int], k _ H G rl (Same.refl _) (.int _)⟩
  | _ => cases e⟩) hg hm (by decide +kernel) ha (he := he) (hpl := rfl)
def gInt : D → Option R
  | .int i => some (.pure (.int i))
  | .bool k => some (.pure (.int (if k = true then 1 else 0)))
  | _ => none
theorem d_toInt (hg : Gl X "int") (hm : X.mg "int" = none) (ha : PEd X a fa) (he : starEach [a] X.env = (false, eval a X.env) :: starEach [] X.env := by rfl) : PEd X (.Call (.Name "int" p) [a] [] pos) (cal1 gInt fa) := d_callT1 call_int1 (fun F => ⟨fun ς G σ H x dx res Q rl hx e k => by
  cases dx with
  | int i => cases e; exact .inl ⟨i, by rw [hx.int], k _ H G rl (Same.refl _) (.int _)⟩
  | bool i => cases e; exact .inr ⟨i, by rw [hx.bool], k _ H G rl (Same.refl _) (.int _)⟩
  | _ => cases e⟩) hg hm (by decide +kernel) ha (he := he) (hpl := rfl)
def gLen : D → Option R
  | .list ds => some (.pure (.int ds.length))
  | .tuple ds => some (.pure (.int ds.length))
  | .str x => if x.length ≤ sizeLine then some (.pure (.int x.length)) else none
  | _ => none
theorem d_len (hg : Gl X "len") (hm : X.mg "len" = none) (ha : PEd X a fa) (he : starEach [a] X.env = (false, eval a X.env) :: starEach [] X.env := by rfl) : PEd X (.Call (.Name "len" p) [a] [] pos) (cal1 gLen fa) := d_callB1 call_len (fun F => ⟨fun ς G σ H x dx res Q rl hx e k => by
  cases dx with
  | list ds =>
    cases e
    obtain ⟨q, vs, rfl, h1, h2⟩ := hx.list rl.sub
    exact ⟨_, ds.length, rfl, .inl ⟨vs, h1, (dpa_len h2).symm⟩, k _ H G rl (Same.refl _) (.int _)⟩
  | tuple ds =>
    cases e
    obtain ⟨q, vs, rfl, h1, h2⟩ := hx.tuple rl.sub
    exact ⟨_, ds.length, rfl, .inr ⟨vs, h1, (dpa_len h2).symm⟩, k _ H G rl (Same.refl _) (.int _)⟩
  | str y =>
    replace e : (if y.length ≤ sizeLine then some (R.pure (.int y.length)) else none) = some res := e
    by_cases q : y.length ≤ sizeLine
    · rw [if_pos q] at e; cases e
      exact ⟨.str y, y.length, by rw [hx.str], ⟨q, rfl⟩, k _ H G rl (Same.refl _) (.int _)⟩
    · rw [if_neg q] at e; cases e
  | _ => cases e⟩) hg hm PySem.boot_len ha (he := he) (hpl := rfl)
def gList (x : D) : Option R := match items x with
  | some ds => some (.fresh ds)
  | none => none
theorem d_list (hg : Gl X "list") (hm : X.mg "list" = none) (ha : PEd X a fa) (he : starEach [a] X.env = (false, eval a X.env) :: starEach [] X.env := by rfl) : PEd X (.Call (.Name "list" p) [a] [] pos) (cal1 gList fa) := d_callT1 call_list_of (fun F => ⟨fun ς G σ H x dx res Q rl hx e k => by
  unfold gList at e
  split at e
  · rename_i ds q
    cases e
    obtain ⟨l, vs, rfl, h1, h2⟩ := items_ok rl.sub hx q
    exact ⟨l, vs, rfl, h1, fun z hz => k _ _ G (rl.layF hz) (Same.refl _) (rl.repF hz h2)⟩
  · cases e⟩) hg hm (by decide +kernel) ha (he := he) (hpl := rfl)
def gTuple (x : D) : Option R := match items x with
  | some ds => some (.pure (.tuple ds))
  | none => none
theorem d_tuple (hg : Gl X "tuple") (hm : X.mg "tuple" = none) (ha : PEd X a fa) (he : starEach [a] X.env = (false, eval a X.env) :: starEach [] X.env := by rfl) : PEd X (.Call (.Name "tuple" p) [a] [] pos) (cal1 gTuple fa) := d_callT1 call_tuple_of (fun F => ⟨fun ς G σ H x dx res Q rl hx e k => by
  cases dx with
  | list ds =>
    cases e
    obtain ⟨q, vs, rfl, h1, h2⟩ := hx.list rl.sub
    exact ⟨q, vs, rfl, .inl ⟨h1, fun z hz => k _ _ _ (rl.lay hz) (same_upd (rl.gnone hz)) (rl.layD hz h2)⟩⟩
  | tuple ds =>
    cases e
    rcases hx with hx | ⟨_, _, _, _, ee, _⟩
    · obtain ⟨q, vs, e6, h1, h2⟩ := dp_tuple hx
      subst e6
      exact ⟨q, vs, rfl, .inr ⟨same_seqT rl.sub h1, k _ H G rl (Same.refl _) hx⟩⟩
    · cases ee
  | _ => cases e⟩) hg hm (by decide +kernel) ha (he := he) (hpl := rfl)
def bools : List D → Option (List Bool)
  | [] => some []
  | .bool b :: ds => match bools ds with
    | some bs => some (b :: bs)
    | none => none
  | _ :: _ => none
theorem bools_map : ∀ {ds : List D} {bs : List Bool}, bools ds = some bs → ds = bs.map PyData.bool
  | [], _, e => by cases e; rfl
  | .bool b :: ds, bs, e => by
    unfold bools at e
    split at e
    · rename_i bs' q
      cases e
      rw [bools_map q]; rfl
    · cases e
  | .none :: _, _, e => by cases e
  | .int _ :: _, _, e => by cases e
  | .str _ :: _, _, e => by cases e
  | .list _ :: _, _, e => by cases e
  | .tuple _ :: _, _, e => by cases e
  | .dict _ :: _, _, e => by cases e
def gAll : D → Option R
  | .list ds => match bools ds with
    | some bs => some (.pure (.bool (bs.all id)))
    | none => none
  | _ => none
theorem d_all (hc : X.calm = true) (hg : Gl X "all") (hm : X.mg "all" = none) (ha : PEd X a fa) (he : starEach [a] X.env = (false, eval a X.env) :: starEach [] X.env := by rfl) : PEd X (.Call (.Name "all" p) [a] [] pos) (cal1 gAll fa) := d_callB1 (cr_all hc) (fun F => ⟨fun ς G σ H x dx res Q rl hx e k => by
  cases dx with
  | list ds =>
    unfold gAll at e
    simp only at e
    split at e
    · rename_i bs q
      cases e
      obtain ⟨l, vs, rfl, h1, h2⟩ := hx.list rl.sub
      rw [bools_map q] at h2
      rw [dpa_bools_inv h2] at h1
      exact ⟨l, bs, rfl, h1, k _ H G rl (Same.refl _) (.bl _)⟩
    · cases e
  | _ => cases e⟩) hg hm (by decide +kernel) ha (he := he) (hpl := rfl)
def intsD : List D → Option (List Int)
  | [] => some []
  | .int b :: ds => match intsD ds with
    | some bs => some (b :: bs)
    | none => none
  | _ :: _ => none
theorem ints_map : ∀ {ds : List D} {bs : List Int}, intsD ds = some bs → ds = bs.map PyData.int
  | [], _, e => by cases e; rfl
  | .int b :: ds, bs, e => by
    unfold intsD at e
    split at e
    · rename_i bs' q
      cases e
      rw [ints_map q]; rfl
    · cases e
  | .none :: _, _, e => by cases e
  | .bool _ :: _, _, e => by cases e
  | .str _ :: _, _, e => by cases e
  | .list _ :: _, _, e => by cases e
  | .tuple _ :: _, _, e => by cases e
  | .dict _ :: _, _, e => by cases e
def g2I (h : Int → Int → Int) : D → D → Option R
  | .int i, .int j => some (.pure (.int (h i j)))
  | _, _ => none
theorem d_max2 (hc : X.calm = true) (hg : Gl X "max") (hm : X.mg "max" = none) (ha : PEd X a fa) (hb : PEd X b fb) (he : starEach [a, b] X.env = (false, eval a X.env) :: starEach [b] X.env := by rfl) (he2 : starEach [b] X.env = (false, eval b X.env) :: starEach [] X.env := by rfl) (hpl : (backTo pos (starEach [b] X.env)).any (·.1) = false := by rfl) :
    PEd X (.Call (.Name "max" p) [a, b] [] pos) (op2 (g2I fun i j => if j > i then j else i) fa fb) := d_callB2 (call_max2 hc) (fun F => ⟨fun ς G σ H x y dx dy res Q rl hx hy e k => by
  cases dx with
  | int i =>
    cases dy with
    | int j => cases e; exact ⟨i, j, by rw [hx.int, hy.int], k _ H G rl (Same.refl _) (.int _)⟩
    | _ => cases e
  | _ => cases e⟩) hg hm (by decide +kernel) ha hb (he := he) (he2 := he2) (hpl := hpl)
theorem d_min2 (hc : X.calm = true) (hg : Gl X "min") (hm : X.mg "min" = none) (ha : PEd X a fa) (hb : PEd X b fb) (he : starEach [a, b] X.env = (false, eval a X.env) :: starEach [b] X.env := by rfl) (he2 : starEach [b] X.env = (false, eval b X.env) :: starEach [] X.env := by rfl) (hpl : (backTo pos (starEach [b] X.env)).any (·.1) = false := by rfl) :
    PEd X (.Call (.Name "min" p) [a, b] [] pos) (op2 (g2I fun i j => if j < i then j else i) fa fb) := d_callB2 (call_min2 hc) (fun F => ⟨fun ς G σ H x y dx dy res Q rl hx hy e k => by
  cases dx with
  | int i =>
    cases dy with
    | int j => cases e; exact ⟨i, j, by rw [hx.int, hy.int], k _ H G rl (Same.refl _) (.int _)⟩
    | _ => cases e
  | _ => cases e⟩) hg hm (by decide +kernel) ha hb (he := he) (he2 := he2) (hpl := hpl)
/-- divmod of a number not below 0 -/
def gDm : D → D → Option R
  | .int i, .int j => if 0 < j ∧ j < 2 ^ 200 then some (.pure (.tuple [.int (i / j), .int (i % j)])) else none
  | _, _ => none
theorem divp_200 {i j : Int} (h : 0 < j ∧ j < 2 ^ 200) : CDivP i j := by
  obtain ⟨w1, w2⟩ : CDivW i j := by
    refine wide_div (b := 200) h.1 ?_ (by decide) (by decide)
    have h2 : j.toNat < 2 ^ 200 := by
      rw [Int.toNat_lt (n := 2 ^ 200) (by omega : 0 ≤ j)]
      exact_mod_cast h.2
    omega
  refine ⟨h.1, ?_⟩
  exact PyProof.noPylong_of_log2 w2
theorem d_divmod (hg : Gl X "divmod") (hm : X.mg "divmod" = none) (ha : PEd X a fa) (hb : PEd X b fb) (he : starEach [a, b] X.env = (false, eval a X.env) :: starEach [b] X.env := by rfl) (he2 : starEach [b] X.env = (false, eval b X.env) :: starEach [] X.env := by rfl) (hpl : (backTo pos (starEach [b] X.env)).any (·.1) = false := by rfl) :
    PEd X (.Call (.Name "divmod" p) [a, b] [] pos) (op2 gDm fa fb) := d_callB2 call_divmodW (fun F => ⟨fun ς G σ H x y dx dy res Q rl hx hy e k => by
  cases dx with
  | int i =>
    cases dy with
    | int j =>
      replace e : (if 0 < j ∧ j < 2 ^ 200 then some (R.pure (.tuple [.int (i / j), .int (i % j)])) else none) = some res := e
      by_cases q : 0 < j ∧ j < 2 ^ 200
      · rw [if_pos q] at e; cases e
        exact ⟨i, j, by rw [hx.int, hy.int], divp_200 q, fun z hz => k _ _ _ (rl.lay hz) (same_upd (rl.gnone hz)) (rl.layD hz (.cons (.int _) (.cons (.int _) .nil)))⟩
      · rw [if_neg q] at e; cases e
    | _ => cases e
  | _ => cases e⟩) hg hm (by decide +kernel) ha hb (he := he) (he2 := he2) (hpl := hpl)
end
end Lw
namespace Lw
open PySem PySem.Spec PyProof.Rows L2
section
variable {X : Cx} {a b c e : Expr} {es : List Expr} {fa fb fc f : M R} {pos p p1 p2 p3 : Pos} {x : Str}
/-! ### isinstance -/
inductive Tn where
  | int | bool | str | list | tuple
def Tn.name : Tn → String
  | .int => "int" | .bool => "bool" | .str => "str" | .list => "list" | .tuple => "tuple"
def tyN : D → String
  | .none => "NoneType" | .bool _ => "bool" | .int _ => "int" | .str _ => "str" | .list _ => "list" | .tuple _ => "tuple" | .dict _ => "dict"
def isD : Tn → D → Bool
  | .int, .int _ => true
  | .int, .bool _ => true
  | .bool, .bool _ => true
  | .str, .str _ => true
  | .list, .list _ => true
  | .tuple, .tuple _ => true
  | _, _ => false
theorem kit_isD (t : Tn) (d : D) : kitB (tyN d) t.name = some (isD t d) := by
  cases t <;> cases d <;> (dsimp only [tyN, isD, Tn.name]; decide +kernel)
theorem tyX_of {K : PySem.W.Frag} {H : Hp} {v : V} {d : D} (h : Dp K H v d) : TyX K H v (.type (tyN d)) := by
  cases h with
  | non => exact .base .non
  | bl b => exact .base (.bl b)
  | int i => exact .base (.int i)
  | str x => exact .base (.str x)
  | lst h _ =>
    rcases h with (h | ⟨o, h⟩) | ⟨o, _, _, h, hc, _⟩
    · exact .base (.lst h)
    · exact .base (.frz h)
    · exact .kList h hc
  | tup h _ =>
    rcases h with (h | ⟨o, h⟩) | ⟨o, _, _, h, hc, _⟩
    · exact .base (.tup h)
    · exact .fTuple h
    · exact .kTuple h hc
def isE (fa : M R) (ts : List Tn) : M R := bd (sub fa) fun r => bd (rd r) fun d => ret (.pure (.bool (ts.any fun t => isD t d)))
theorem kitAny_of {K : PySem.W.Frag} {d : D} : ∀ ts : List Tn, PySem.W.kitAny K (.type (tyN d)) (ts.map fun t => .type t.name) = some (ts.any fun t => isD t d)
  | [] => rfl
  | t :: ts => kitAny_cons (kit_ty (kit_isD t d)) (fun h => by rw [List.any_cons, h, Bool.false_or]; exact kitAny_of ts) (fun h => by rw [List.any_cons, h, Bool.true_or])
theorem clsV_of : ∀ ts : List Tn, Paired ClsV (ts.map fun t => V.ty t.name) (ts.map fun t => Value.type t.name)
  | [] => .nil
  | t :: ts => .cons (.ty _) (clsV_of ts)
theorem d_isi1 {y : Str} (t : Tn) (hg : Gl X "isinstance") (hm : X.mg "isinstance" = none) (ha : PEd X a fa) (hy : PE X (.Name y p2) (tC (.ty t.name))) (he : starEach [a, .Name y p2] X.env = (false, eval a X.env) :: starEach [.Name y p2] X.env := by rfl) :
    PEd X (.Call (.Name "isinstance" p) [a, .Name y p2] [] pos) (isE fa [t]) := fun F => PE.mono (pe_callB call_isi hg hm (by decide +kernel) (pa_cons (d_sub ha F) (pa_cons hy pa_nil) he) (he := he) (hpl := rfl)) fun σ H Q hq => by
  obtain ⟨ς, G, rl, r, ς', e, k⟩ := hq
  obtain ⟨a, ς1, e1, q1⟩ := bd_some e
  obtain ⟨d, ς3, e3', q3⟩ := bd_some q1
  obtain ⟨e3, h3⟩ := rd_some e3'
  subst h3
  cases q3
  refine ⟨ς, G, rl, a, _, e1, fun v H1 G1 rl1 s1 rep1 => ?_⟩
  have rv := rdD_ok rl1 rep1 e3
  exact ⟨v, .ty t.name, _, _, _, rfl, .ty _, tyX_of (rv.dp rl1.sub), kit_ty (kit_isD t d), k _ H1 G1 rl1 s1 (by rw [List.any_cons, List.any_nil, Bool.or_false]; exact .bl _)⟩
theorem tys_len (ts : List Tn) (h : ts.length ≤ 100) : (ts.map fun t => V.ty t.name).length ≤ sizeLine := by rw [List.length_map, sizeLine_eq]; omega
theorem d_isiN {tys : List Expr} {kk : Nat} (ts : List Tn) (hg : Gl X "isinstance") (hm : X.mg "isinstance" = none) (ha : PEd X a fa) (hy : PA X tys (fun σ H Q => Q (ts.map fun t => V.ty t.name) H)) (hl : ts.length ≤ 100 := by decide) (he : starEach [a, .Tuple tys kk p2] X.env = (false, eval a X.env) :: starEach [.Tuple tys kk p2] X.env := by rfl) :
    PEd X (.Call (.Name "isinstance" p) [a, .Tuple tys kk p2] [] pos) (isE fa ts) := fun F => PE.mono (pe_callB call_isiT hg hm (by decide +kernel) (pa_cons (d_sub ha F) (pa_cons (pe_tup hy) pa_nil) he) (he := he) (hpl := rfl)) fun σ H Q hq => by
  obtain ⟨ς, G, rl, r, ς', e, k⟩ := hq
  obtain ⟨a, ς1, e1, q1⟩ := bd_some e
  obtain ⟨d, ς3, e3', q3⟩ := bd_some q1
  obtain ⟨e3, h3⟩ := rd_some e3'
  subst h3
  cases q3
  refine ⟨ς, G, rl, a, _, e1, fun v H1 G1 rl1 s1 rep1 => ⟨tys_len ts hl, fun z hz => ?_⟩⟩
  have rv := rdD_ok rl1 rep1 e3
  have ty := tyX_of (dp_same (same_upd (o := .tup (ts.map fun t => V.ty t.name)) hz) (rv.dp rl1.sub))
  exact ⟨v, z, _, _, _, _, rfl, upd_same, clsV_of ts, ty, kitAny_of ts, k _ _ _ (rl1.lay hz) (s1.trans (same_upd (rl1.gnone hz))) (.bl _)⟩
/-- the types' names as arguments -/
theorem ty_nil : PA X [] (fun σ H Q => Q (([] : List Tn).map fun t => V.ty t.name) H) := pa_nil
theorem ty_cons {y : Str} {ts : List Tn} (t : Tn) (hy : PE X (.Name y p2) (tC (.ty t.name))) (h : PA X es (fun σ H Q => Q (ts.map fun t => V.ty t.name) H)) (he : starEach (.Name y p2 :: es) X.env = (false, eval (.Name y p2) X.env) :: starEach es X.env := by rfl) :
    PA X (.Name y p2 :: es) (fun σ H Q => Q ((t :: ts).map fun t => V.ty t.name) H) := pa_cons hy h he
/-! ### repr of data -/
end
/-! ### another entry to hold on to -/
section
variable {K : PySem.W.Frag} {F : Fx} {ς ς' : En} {G H G' H' : Hp} {σ σ' : L2.St}
noncomputable def Fx.now (F : Fx) (ς : En) (G : Hp) (σ : L2.St) (H : Hp) : Fx where
  A := F.A
  G0 := G
  H0 := fun a => @ite _ (∃ (i : Nat) (ds : List D), ς[i]? = some (some (.own false ds)) ∧ σ[i]? = some (some (.ref a))) (Classical.propDecidable _) none (H a)
theorem now_none (r : Rel K F ς G σ H) {a : Addr} (h : (F.now ς G σ H).H0 a = none) : F.H0 a = none := by
  by_cases q : ∃ (i : Nat) (ds : List D), ς[i]? = some (some (.own false ds)) ∧ σ[i]? = some (some (.ref a))
  · obtain ⟨i, ds, h1, h2⟩ := q
    obtain ⟨a', vs, e1, _, _, _, _, e6⟩ := r.ow i false ds h1
    rw [h2] at e1; cases e1
    exact e6 rfl
  · have h' : H a = none := by
      unfold Fx.now at h
      simp only at h
      rw [if_neg q] at h
      exact h
    exact r.new h'
theorem now_some (r : Rel K F ς G σ H) {a : Addr} {o : HO} (h : H a = some o) (q : ∀ (i : Nat) b ds, ς[i]? = some (some (.own b ds)) → σ[i]? ≠ some (some (.ref a))) : (F.now ς G σ H).H0 a = some o := by
  unfold Fx.now
  simp only
  rw [if_neg (by rintro ⟨i, ds, h1, h2⟩; exact q i _ _ h1 h2)]
  exact h
theorem Rel.now (r : Rel K F ς G σ H) : Rel K (F.now ς G σ H) ς G σ H where
  len := r.len
  sub := r.sub
  g0 := Same.refl _
  pu := r.pu
  ow := fun i b ds e => by
    obtain ⟨a, vs, e1, e2, e3, e4, e5, e6⟩ := r.ow i b ds e
    refine ⟨a, vs, e1, e2, e3, e4, e5, fun hb => ?_⟩
    subst hb
    unfold Fx.now
    simp only
    rw [if_pos ⟨i, ds, e, e1⟩]
  ap := r.ap
  par := r.par
  fr := fun a o h _ => by
    unfold Fx.now at h
    simp only at h
    split at h
    · cases h
    · exact h
  nw := fun a h => .inl h
theorem Rel.back (r : Rel K F ς G σ H) (r1 : Rel K (F.now ς G σ H) ς' G' σ' H') : Rel K F ς' G' σ' H' where
  len := r1.len
  sub := r1.sub
  g0 := r.g0.trans r1.g0
  pu := r1.pu
  ow := fun i b ds e => by
    obtain ⟨a, vs, e1, e2, e3, e4, e5, e6⟩ := r1.ow i b ds e
    exact ⟨a, vs, e1, e2, e3, e4, e5, fun hb => now_none r (e6 hb)⟩
  ap := r1.ap
  par := r1.par
  fr := fun a o h na => by
    have h1 := r.fr a o h na
    refine r1.fr a o ?_ na
    cases q : (F.now ς G σ H).H0 a with
    | none => rw [now_none r q] at h; cases h
    | some o' =>
      have := r.now.fr a o' q na
      rw [h1] at this; exact this.symm
  nw := fun a h => by
    rcases r1.nw a h with q | q
    · exact r.nw a q
    · exact .inr (now_none r q)
/-- a list that is nobody's stays so -/
theorem Rel.keepF (r : Rel K F ς G σ H) (r1 : Rel K (F.now ς G σ H) ς' G' σ' H') {a : Addr} {o : HO} (h1 : H a = some o) (h2 : G a = none) (h5 : ∀ (i : Nat) b es, ς[i]? = some (some (.own b es)) → σ[i]? ≠ some (some (.ref a))) :
    H' a = some o ∧ G' a = none ∧ ∀ (i : Nat) b es, ς'[i]? = some (some (.own b es)) → σ'[i]? ≠ some (some (.ref a)) := by
  have q := now_some r h1 h5
  have np : ∀ i, F.A i ≠ some a := fun i z => by
    obtain ⟨ds, e⟩ := r.par i a z
    exact h5 i _ _ e (r.own_in z).1
  refine ⟨r1.fr a o q np, ?_, fun i b es e z => ?_⟩
  · cases z : G' a with
    | none => rfl
    | some y =>
      rcases r1.nw a (by rw [z]; simp) with w | w
      · exact absurd h2 w
      · rw [q] at w; cases w
  · obtain ⟨a', vs, e1, _, _, _, e5, e6⟩ := r1.ow i b es e
    rw [z] at e1; cases e1
    cases b with
    | true => exact np i (e5 rfl)
    | false => rw [e6 rfl] at q; cases q
theorem Rel.keepR (r : Rel K F ς G σ H) (r1 : Rel K (F.now ς G σ H) ς' G' σ H') {x : R} {v : V} (h : RepR K F ς G σ H x v) : RepR K F ς' G' σ H' x v := by
  cases x with
  | pure d => exact dp_same r1.g0 h
  | ref i => exact h
  | fresh ds =>
    obtain ⟨a, vs, rfl, h1, h2, h3, h4, h5⟩ := h
    obtain ⟨k1, k2, k3⟩ := r.keepF r1 h1 h2 h5
    exact ⟨a, vs, rfl, k1, k2, dpa_same r1.g0 h3, h4, k3⟩
end
end Lw
namespace Lw
open PySem PySem.Spec PyProof.Rows L2
inductive Out where
  | nx (ς : En)
  | rt (r : R) (ς : En)
  | bk (ς : En)
  | ct (ς : En)
abbrev MS := En → Option Out
def EndsOk (K : PySem.W.Frag) (F : Fx) (G : Hp) (D : Ends) : Out → Prop
  | .nx ς' => ∀ σ' H' G', Rel K F ς' G' σ' H' → Same G G' → D.nx σ' H'
  | .rt r ς' => ∀ v σ' H' G', Rel K F ς' G' σ' H' → Same G G' → RepR K F ς' G' σ' H' r v → D.rt v H'
  | .bk ς' => ∀ σ' H' G', Rel K F ς' G' σ' H' → Same G G' → D.bk σ' H'
  | .ct ς' => ∀ σ' H' G', Rel K F ς' G' σ' H' → Same G G' → D.ct σ' H'
theorem EndsOk.mono {K : PySem.W.Frag} {F : Fx} {G G1 : Hp} {D : Ends} {o : Out} (s : Same G G1) (h : EndsOk K F G D o) : EndsOk K F G1 D o := by
  cases o with
  | nx ς => exact fun σ' H' G' r z => h σ' H' G' r (s.trans z)
  | rt r ς => exact fun v σ' H' G' r z => h v σ' H' G' r (s.trans z)
  | bk ς => exact fun σ' H' G' r z => h σ' H' G' r (s.trans z)
  | ct ς => exact fun σ' H' G' r z => h σ' H' G' r (s.trans z)
def tSt (K : PySem.W.Frag) (F : Fx) (g : MS) : TS := fun D σ H => ∃ ς G, Rel K F ς G σ H ∧ ∃ o, g ς = some o ∧ EndsOk K F G D o
abbrev PSd (X : Cx) (st : Stmt) (g : MS) : Prop := ∀ F : Fx, PS X st (tSt X.K F g)
abbrev PSsd (X : Cx) (st : List Stmt) (g : MS) : Prop := ∀ F : Fx, PSs X st (tSt X.K F g)
section
variable {X : Cx} {a b c e : Expr} {es : List Expr} {fa fb fc f : M R} {ta : M Bool} {pos p p1 p2 p3 : Pos} {x : Str} {st : Stmt} {sts rest : List Stmt} {g g1 g2 : MS}
def skip : MS := fun ς => some (.nx ς)
def sq (g1 g2 : MS) : MS := fun ς => match g1 ς with
  | some (.nx ς') => g2 ς'
  | o => o
theorem s_nil : PSsd X [] skip := fun F => PSs.mono pss_nil fun D σ H hq => by
  obtain ⟨ς, G, rl, o, e, k⟩ := hq
  cases e
  exact k σ H G rl (Same.refl _)
theorem s_cons (h1 : PSd X st g1) (h2 : PSsd X rest g2) : PSsd X (st :: rest) (sq g1 g2) := fun F => PSs.mono (pss_cons (h1 F) (h2 F)) fun D σ H hq => by
  obtain ⟨ς, G, rl, o, e, k⟩ := hq
  unfold sq at e
  split at e
  · rename_i ς1 q
    exact ⟨ς, G, rl, _, q, fun σ' H' G' rl' s => ⟨ς1, G', rl', o, e, k.mono s⟩⟩
  · rename_i q
    refine ⟨ς, G, rl, o, e, ?_⟩
    cases o with
    | nx ς1 => exact absurd e (q ς1)
    | rt r ς1 => exact k
    | bk ς1 => exact k
    | ct ς1 => exact k
theorem s_one (h1 : PSd X st g1) : PSsd X [st] g1 := fun F => pss_one (h1 F)
def brk : MS := fun ς => some (.bk ς)
def exS (f : M R) : MS := fun ς => match f ς with
  | some (_, ς') => some (.nx ς')
  | none => none
theorem s_expr (he : PEd X e f) (hs : swapsWith e none pos.line X.env = pure false := by rfl) : PSd X (.Expr e pos) (exS f) := fun F => PS.mono (ps_expr (he F) hs) fun D σ H hq => by
  obtain ⟨ς, G, rl, o, e, k⟩ := hq
  unfold exS at e
  split at e
  · rename_i r ς1 q
    cases e
    exact ⟨ς, G, rl, r, ς1, q, fun v H' G' rl' s _ => k σ H' G' rl' s⟩
  · cases e
def retS (f : M R) : MS := fun ς => match f ς with
  | some (.pure d, ς') => some (.rt (.pure d) ς')
  | some (.fresh ds, ς') => some (.rt (.fresh ds) ς')
  | some (.ref i, ς') => match ς'[i]? with
    | some (some (.own false ds)) => some (.rt (.fresh ds) (ς'.set i none))
    | some (some (.pure d)) => some (.rt (.pure d) ς')
    | _ => none
  | none => none
theorem Rel.move {K : PySem.W.Frag} {F : Fx} {ς : En} {G H : Hp} {σ : L2.St} (r : Rel K F ς G σ H) {i : Nat} {ds : List D} {v : V} (h : ς[i]? = some (some (.own false ds))) (hv : σ[i]? = some (some v)) :
    Rel K F (ς.set i none) G (σ.set i none) H ∧ RepR K F (ς.set i none) G (σ.set i none) H (.fresh ds) v := by
  have hf : free ς i = true := by unfold free; rw [h]
  obtain ⟨a, vs, e1, e2, e3, e4, _, e6⟩ := r.ow i false ds h
  rw [hv] at e1; cases e1
  refine ⟨r.setN hf, a, vs, rfl, e2, e3, e4, e6 rfl, fun j b es q z => ?_⟩
  replace q := get_set q; rcases q with ⟨rfl, q⟩ | ⟨n, q⟩
  · cases q
  · rw [List.getElem?_set_ne n] at z
    exact n (r.ap i j false b ds es a h q hv z)
theorem s_ret (he : PEd X e f) : PSd X (.Return (some e) pos) (retS f) := fun F => PS.mono (ps_ret (he F)) fun D σ H hq => by
  obtain ⟨ς, G, rl, o, e, k⟩ := hq
  unfold retS at e
  split at e
  · rename_i d ς1 q
    cases e
    exact ⟨ς, G, rl, _, ς1, q, fun v H' G' rl' s rep => k v σ H' G' rl' s rep⟩
  · rename_i ds ς1 q
    cases e
    exact ⟨ς, G, rl, _, ς1, q, fun v H' G' rl' s rep => k v σ H' G' rl' s rep⟩
  · rename_i i ς1 q
    refine ⟨ς, G, rl, _, ς1, q, fun v H' G' rl' s rep => ?_⟩
    split at e
    · rename_i ds q2
      cases e
      obtain ⟨r1, r2⟩ := rl'.move q2 rep
      exact k v _ H' G' r1 s r2
    · rename_i d q2
      cases e
      obtain ⟨w, h1, h2⟩ := rl'.pu i _ q2
      rw [show σ[i]? = some (some v) from rep] at h1
      cases h1
      exact k v σ H' G' rl' s h2
    · cases e
  · cases e
def ifS (t : M Bool) (g1 g2 : MS) : MS := fun ς => match t ς with
  | some (true, ς') => g1 ς'
  | some (false, ς') => g2 ς'
  | none => none
theorem s_if (hc : PTd X c ta) (h1 : PSsd X sts g1) (h2 : PSsd X rest g2) : PSd X (.If c sts rest pos) (ifS ta g1 g2) := fun F => PS.mono (ps_if (hc F) (h1 F) (h2 F)) fun D σ H hq => by
  obtain ⟨ς, G, rl, o, e, k⟩ := hq
  unfold ifS at e
  split at e
  · rename_i ς1 q
    refine ⟨ς, G, rl, true, ς1, q, fun H' G' rl' s => ?_⟩
    exact iteT ⟨ς1, G', rl', o, e, k.mono s⟩
  · rename_i ς1 q
    refine ⟨ς, G, rl, false, ς1, q, fun H' G' rl' s => ?_⟩
    exact iteF ⟨ς1, G', rl', o, e, k.mono s⟩
  · cases e
/-! ### targets -/
abbrev Tg := D → En → Option En
def tTg (K : PySem.W.Frag) (F : Fx) (vs : List Nat) (tg : Tg) : TG := fun v σ H Q => ∃ ς G d, Rel K F ς G σ H ∧ Dp K G v d ∧ ∃ ς', tg d ς = some ς' ∧ ∀ σ' H' G', Rel K F ς' G' σ' H' → Same G G' → wipe σ' vs = wipe σ vs → Q σ' H'
theorem _root_.L2.PG.mono {t t' : TG} {tg : Expr} (h : PG X tg t) (k : ∀ v σ H Q, t' v σ H Q → t v σ H Q) : PG X tg t' := ⟨fun pins s σ H v u Q I r hw => h.run pins s σ H v u Q I r (k v σ H Q hw)⟩
abbrev PGd (X : Cx) (e : Expr) (vs : List Nat) (tg : Tg) : Prop := ∀ F : Fx, PG X e (tTg X.K F vs tg)
def tgN (i : Nat) : Tg := fun d ς => if free ς i = true then some (ς.set i (some (.pure d))) else none
theorem wipe_set (σ : L2.St) (i : Nat) (o : Option V) : ∀ vs : List Nat, i ∈ vs → wipe (σ.set i o) vs = wipe σ vs
  | [], h => by cases h
  | j :: vs, h => by
    by_cases hm : i ∈ vs
    · unfold wipe; rw [wipe_set σ i o vs hm]
    · have e : i = j := by
        rcases List.mem_cons.mp h with e | e
        · exact e
        · exact absurd e hm
      subst e
      unfold wipe
      have : ∀ ws : List Nat, i ∉ ws → (wipe (σ.set i o) ws).set i none = (wipe σ ws).set i none := by
        intro ws
        induction ws with
        | nil => intro _; show (σ.set i o).set i none = σ.set i none; rw [List.set_set]
        | cons w ws ih =>
          intro hw
          have h1 : i ≠ w := fun z => hw (by rw [z]; exact List.mem_cons_self)
          have h2 : i ∉ ws := fun z => hw (List.mem_cons_of_mem _ z)
          show ((wipe (σ.set i o) ws).set w none).set i none = ((wipe σ ws).set w none).set i none
          rw [List.set_comm _ _ (Ne.symm h1), ih h2, List.set_comm _ _ h1]
      exact this vs hm
theorem g_name {i : Nat} (h : PG X (.Name x pos) (gName i)) : PGd X (.Name x pos) [i] (tgN i) := fun F => PG.mono h fun v σ H Q hq => by
  obtain ⟨ς, G, d, rl, hd, ς', e, k⟩ := hq
  unfold tgN at e
  split at e
  · rename_i q
    cases e
    exact k _ H G (rl.setP q hd) (Same.refl _) (wipe_set σ i _ [i] (by simp))
  · cases e
/-- several targets -/
abbrev Tgs := List D → En → Option En
def tTgs (K : PySem.W.Frag) (F : Fx) (vs : List Nat) (tg : Tgs) : TGs := fun ws σ H Q => ∃ ς G ds, Rel K F ς G σ H ∧ DpAll K G ws ds ∧ ∃ ς', tg ds ς = some ς' ∧ ∀ σ' H' G', Rel K F ς' G' σ' H' → Same G G' → wipe σ' vs = wipe σ vs → Q σ' H'
theorem _root_.L2.PGs.mono {t t' : TGs} {tg : List Expr} (h : PGs X tg t) (k : ∀ v σ H Q, t' v σ H Q → t v σ H Q) : PGs X tg t' := ⟨fun pins s σ H v u Q I r hw => h.run pins s σ H v u Q I r (k v σ H Q hw)⟩
abbrev PGsd (X : Cx) (e : List Expr) (vs : List Nat) (tg : Tgs) : Prop := ∀ F : Fx, PGs X e (tTgs X.K F vs tg)
def tgsN : Tgs := fun ds ς => match ds with
  | [] => some ς
  | _ => none
def tgsC (t : Tg) (u : Tgs) : Tgs := fun ds ς => match ds with
  | d :: r => match t d ς with
    | some ς' => u r ς'
    | none => none
  | [] => none
theorem gs_nil : PGsd X [] [] tgsN := fun F => PGs.mono pgs_nil fun v σ H Q hq => by
  obtain ⟨ς, G, ds, rl, hd, ς', e, k⟩ := hq
  cases hd with
  | nil => cases e; exact ⟨rfl, k σ H G rl (Same.refl _) rfl⟩
  | cons _ _ => cases e
theorem wipe_app (σ : L2.St) : ∀ vs ws : List Nat, wipe σ (vs ++ ws) = wipe (wipe σ ws) vs
  | [], _ => rfl
  | v :: vs, ws => by show (wipe σ (vs ++ ws)).set v none = (wipe (wipe σ ws) vs).set v none; rw [wipe_app σ vs ws]
theorem wipe_comm1 (σ : L2.St) (i : Nat) : ∀ vs : List Nat, wipe (σ.set i none) vs = (wipe σ vs).set i none
  | [] => rfl
  | v :: vs => by
    show (wipe (σ.set i none) vs).set v none = ((wipe σ vs).set v none).set i none
    rw [wipe_comm1 σ i vs]
    by_cases h : i = v
    · rw [h]
    · rw [List.set_comm _ _ h]
theorem wipe_comm (σ : L2.St) : ∀ vs ws : List Nat, wipe (wipe σ ws) vs = wipe (wipe σ vs) ws
  | [], _ => rfl
  | v :: vs, ws => by show (wipe (wipe σ ws) vs).set v none = wipe ((wipe σ vs).set v none) ws; rw [wipe_comm σ vs ws, wipe_comm1]
theorem gs_cons {e : Expr} {es : List Expr} {t : Tg} {u : Tgs} {vs ws : List Nat} (h1 : PGd X e vs t) (h2 : PGsd X es ws u) (hs : PGs X (e :: es) (gCons (fun v σ H Q => ∃ F, tTg X.K F vs t v σ H Q) (fun v σ H Q => ∃ F, tTgs X.K F ws u v σ H Q))) : PGsd X (e :: es) (vs ++ ws) (tgsC t u) := fun F => PGs.mono hs fun zs σ H Q hq => by
  obtain ⟨ς, G, ds, rl, hd, ς', e, k⟩ := hq
  cases hd with
  | nil => cases e
  | cons d1 d2 =>
    rename_i v r d ds'
    unfold tgsC at e
    simp only at e
    split at e
    · rename_i ς1 q
      refine ⟨v, r, rfl, F, ς, G, d, rl, d1, ς1, q, fun σ1 H1 G1 rl1 s1 w1 => ⟨F, ς1, G1, ds', rl1, dpa_same s1 d2, ς', e, fun σ2 H2 G2 rl2 s2 w2 => k σ2 H2 G2 rl2 (s1.trans s2) ?_⟩⟩
      rw [wipe_app, wipe_app, w2, wipe_comm, w1, wipe_comm]
    · cases e
theorem PGd.ex {e : Expr} {vs : List Nat} {t : Tg} (h : PGd X e vs t) : PG X e (fun v σ H Q => ∃ F, tTg X.K F vs t v σ H Q) := ⟨fun pins s σ H v u Q I r ⟨F, hw⟩ => (h F).run pins s σ H v u Q I r hw⟩
theorem PGsd.ex {e : List Expr} {vs : List Nat} {t : Tgs} (h : PGsd X e vs t) : PGs X e (fun v σ H Q => ∃ F, tTgs X.K F vs t v σ H Q) := ⟨fun pins s σ H v u Q I r ⟨F, hw⟩ => (h F).run pins s σ H v u Q I r hw⟩
theorem _root_.L2.PG.or {t t' : TG} {tg : Expr} (h : PG X tg t) (h' : PG X tg t') : PG X tg (fun v σ H Q => t v σ H Q ∨ t' v σ H Q) := ⟨fun pins s σ H v u Q I r hw => by
  rcases hw with hw | hw
  · exact h.run pins s σ H v u Q I r hw
  · exact h'.run pins s σ H v u Q I r hw⟩
def tgT (n : Nat) (u : Tgs) : Tg := fun d ς => match items d with
  | some ds => if ds.length = n then u ds ς else none
  | none => none
theorem g_tup {es : List Expr} {k n : Nat} {u : Tgs} {vs : List Nat} (h : PG X (.Tuple es k pos) (fun v σ H Q => gTup X.K n (fun v σ H Q => ∃ F, tTgs X.K F vs u v σ H Q) v σ H Q ∨ gLst X.K n (fun v σ H Q => ∃ F, tTgs X.K F vs u v σ H Q) v σ H Q)) : PGd X (.Tuple es k pos) vs (tgT n u) := fun F => PG.mono h fun v σ H Q hq => by
  obtain ⟨ς, G, d, rl, hd, ς', e, kk⟩ := hq
  unfold tgT at e
  split at e
  · rename_i ds q
    split at e
    · rename_i hl
      cases d with
      | list es =>
        cases q
        obtain ⟨a, ws, rfl, h1, h2⟩ := dp_list hd
        exact .inr ⟨a, ws, rfl, rl.sub.seq h1, by rw [dpa_len h2]; exact hl, F, ς, G, _, rl, h2, ς', e, kk⟩
      | tuple es =>
        cases q
        obtain ⟨a, ws, rfl, h1, h2⟩ := dp_tuple hd
        exact .inl ⟨a, ws, rfl, same_seqT rl.sub h1, by rw [dpa_len h2]; exact hl, F, ς, G, _, rl, h2, ς', e, kk⟩
      | _ => cases q
    · cases e
  · cases e
def tgS (fo fi : M R) : Tg := fun d ς => match fo ς with
  | some (.ref i, ς1) => match ptS fi ς1 with
    | some (some j, ς2) => match ς2[i]? with
      | some (some (.own b ds)) => match ixN ds.length j with
        | some n => some (ς2.set i (some (.own b (ds.set n d))))
        | none => none
      | _ => none
    | _ => none
  | _ => none
theorem PEd.ex {e : Expr} {f : M R} (h : PEd X e f) : PE X e (fun σ H Q => ∃ F, tEv X.K F f σ H Q) := ⟨fun pins s σ H Q I ⟨F, hw⟩ => (h F).run pins s σ H Q I hw⟩
theorem g_sub {o i : Expr} {fo fi : M R} (h : PG X (.Subscript o i pos) (gSub (fun σ H Q => ∃ F, tEv X.K F fo σ H Q) (fun σ H Q => ∃ F, tEv X.K F (sub fi) σ H Q) rSetL)) : PGd X (.Subscript o i pos) [] (tgS fo fi) := fun F => PG.mono h fun v σ H Q hq => by
  obtain ⟨ς, G, d, rl, hd, ς', e, k⟩ := hq
  unfold tgS at e
  split at e
  · rename_i n ς1 q1
    split at e
    · rename_i j ς2 q2
      split at e
      · rename_i b ds q3
        split at e
        · rename_i m q4
          cases e
          obtain ⟨r, ς3, e3, q5⟩ := bd_some q2
          obtain ⟨y, ς4, e4', q6⟩ := bd_some q5
          obtain ⟨e4, h4⟩ := rd_some e4'
          obtain ⟨e5, h5⟩ := lift_some q6
          subst h4 h5
          refine ⟨F, ς, G, rl, _, ς1, q1, fun ov H1 G1 rl1 s1 rep1 => ⟨F, ς1, G1, rl1, r, _, e3, fun iv H2 G2 rl2 s2 rep2 => ?_⟩⟩
          have ri := rdD_ok rl2 rep2 e4
          cases y with
          | int jj =>
            cases e5
            obtain ⟨a, ws, f1, f2, f3, f4, _⟩ := rl2.ow _ b ds q3
            rw [show σ[n]? = some (some ov) from rep1] at f1
            cases f1
            exact ⟨a, ws, j, m, rfl, ri.int, f2, by rw [dpa_len f4]; exact q4, k σ _ G2 (rl2.mut q3 rep1 (dpa_set (dp_same (s1.trans s2) hd) m f4)) (s1.trans s2) rfl⟩
          | _ => cases e5
        · cases e
      · cases e
    · cases e
  · cases e
/-- target = value -/
def asg (f : M R) (tg : Tg) : MS := fun ς => match esc f ς with
  | some (d, ς') => match tg d ς' with
    | some ς2 => some (.nx ς2)
    | none => none
  | none => none
theorem s_asg {tg : Expr} {vs : List Nat} {t : Tg} (he : PEd X e f) (hg : PGd X tg vs t) (hs : swapsWithSole [tg] e pos.line X.env = pure false := by rfl) (hw : swappedStores [tg] e X.env = pure none := by rfl) (h1 : (assignEach [tg] X.env).map (·.2) = [assign tg X.env] := by rfl) : PSd X (.Assign [tg] e pos) (asg f t) := fun F => PS.mono (ps_asg (d_esc he F) (hg F) hs hw h1) fun D σ H hq => by
  obtain ⟨ς, G, rl, o, e, k⟩ := hq
  unfold asg at e
  split at e
  · rename_i d ς1 q
    split at e
    · rename_i ς2 q2
      cases e
      exact ⟨ς, G, rl, d, ς1, q, fun v H' G' rl' s dp => ⟨ς1, G', d, rl', dp, ς2, q2, fun σ2 H2 G2 rl2 s2 _ => k σ2 H2 G2 rl2 (s.trans s2)⟩⟩
    · cases e
  · cases e
/-- name = a new list, the name's own -/
def asgO (i : Nat) (f : M R) : MS := fun ς => match f ς with
  | some (.fresh ds, ς') => if free ς' i = true then some (.nx (ς'.set i (some (.own false ds)))) else none
  | _ => none
theorem t_asgO {F : Fx} {i : Nat} : ∀ D σ H, tSt X.K F (asgO i f) D σ H → tAsg (tEv X.K F f) (gName i) D σ H := fun D σ H hq => by
  obtain ⟨ς, G, rl, o, e, k⟩ := hq
  unfold asgO at e
  split at e
  · rename_i ds ς1 q
    split at e
    · rename_i hf
      cases e
      exact ⟨ς, G, rl, _, ς1, q, fun v H' G' rl' s rep => k _ H' G' (rl'.setO hf rep) s⟩
    · cases e
  · cases e
theorem t_asgP {F : Fx} {i : Nat} : ∀ D σ H, tSt X.K F (asg f (tgN i)) D σ H → tAsg (tEv X.K F f) (gName i) D σ H := fun D σ H hq => by
  obtain ⟨ς, G, rl, o, e, k⟩ := hq
  unfold asg at e
  split at e
  · rename_i d ς1 q
    obtain ⟨r1, ς2, e1, e2⟩ := bd_some q
    split at e
    · rename_i ς3 q2
      cases e
      refine ⟨ς, G, rl, r1, ς2, e1, fun v H' G' rl' s rep => ?_⟩
      obtain ⟨G2, rl2, s2, dp⟩ := toD_ok rl' rep e2
      unfold tgN at q2
      split at q2
      · rename_i hf
        cases q2
        exact k _ H' G2 (rl2.setP hf dp) (s.trans s2)
      · cases q2
    · cases e
  · cases e
theorem s_asgO {i : Nat} (he : PEd X e f) (h : ∀ te : TE, PE X e te → PS X st (tAsg te (gName i))) : PSd X st (asgO i f) := fun F => PS.mono (h _ (he F)) t_asgO
/-- where the value is a comprehension -/
theorem s_asgL {i : Nat} {t : TE} (h : PS X st (tAsg t (gName i))) (ht : ∀ F σ H Q, tEv X.K F f σ H Q → t σ H Q) : PSd X st (asg f (tgN i)) := fun F => PS.mono h fun D σ H hq => ht F σ H _ (t_asgP D σ H hq)
/-! ### a, b = x, y in one go -/
def put (i : Nat) : R → Option (Option S)
  | .pure d => some (some (.pure d))
  | .fresh ds => some (some (.own false ds))
  | .ref _ => none
/-- what is to be stored: a datum, or (o) a new list as it is -/
def pv' (o : Bool) (f : M R) : M R := if o = true then f else bd (esc f) fun d => ret (.pure d)
theorem d_pv (o : Bool) (h : PEd X e f) : PEd X e (pv' o f) := by
  cases o with
  | true => exact h
  | false =>
    intro F
    refine PE.mono (d_esc h F) fun σ H Q hq => ?_
    obtain ⟨ς, G, rl, r, ς', e, k⟩ := hq
    obtain ⟨d, ς1, e1, q1⟩ := bd_some e
    cases q1
    exact ⟨ς, G, rl, d, _, e1, k⟩
def par2 (i j : Nat) (o1 o2 : Bool) (fa fb : M R) : MS := fun ς => match bd (pv' o1 fa) (fun x => bd (pv' o2 fb) fun y => ret (x, y)) ς with
  | some ((x, y), ς') => match put i x, put j y with
    | some s, some t => if free ς' i = true ∧ free (ς'.set i s) j = true ∧ i ≠ j then some (.nx ((ς'.set i s).set j t)) else none
    | _, _ => none
  | none => none
theorem Rel.put {K : PySem.W.Frag} {F : Fx} {ς : En} {G H : Hp} {σ : L2.St} (r : Rel K F ς G σ H) {i : Nat} {x : R} {v : V} {s : Option S} (hf : free ς i = true) (hs : put i x = some s) (h : RepR K F ς G σ H x v) : Rel K F (ς.set i s) G (σ.set i (some v)) H := by
  cases x with
  | pure d => cases hs; exact r.setP hf h
  | fresh ds => cases hs; exact r.setO hf h
  | ref k => cases hs
theorem s_par2 {i j : Nat} {o1 o2 : Bool} (ha : PEd X a fa) (hb : PEd X b fb) (h : ∀ t : TA, PA X [a, b] t → PS X st (tPar i j t)) (hs1 : starEach [a, b] X.env = (false, eval a X.env) :: starEach [b] X.env := by rfl) (hs2 : starEach [b] X.env = (false, eval b X.env) :: starEach [] X.env := by rfl) : PSd X st (par2 i j o1 o2 fa fb) := fun F =>
  PS.mono (h _ (pa_cons (PEd.ex (d_pv o1 ha)) (pa_cons (PEd.ex (d_pv o2 hb)) pa_nil hs2) hs1)) fun D σ H hq => by
    obtain ⟨ς, G, rl, o, e, k⟩ := hq
    unfold par2 at e
    split at e
    · rename_i x y ς' q
      obtain ⟨x', ς1, e1, q1⟩ := bd_some q
      obtain ⟨y', ς2, e2, q2⟩ := bd_some q1
      cases q2
      split at e
      · rename_i s t p1 p2
        split at e
        · rename_i hf
          cases e
          refine ⟨F, ς, G, rl, _, ς1, e1, fun v H1 G1 rl1 s1 rep1 => ⟨F.now ς1 G1 σ H1, ς1, G1, rl1.now, _, _, e2, fun w H2 G2 rl2 s2 rep2 => ⟨v, w, rfl, ?_⟩⟩⟩
          have rb := rl1.back rl2
          have rep1' := rl1.keepR rl2 rep1
          have ra := rb.put hf.1 p1 rep1'
          refine k _ H2 G2 (ra.put hf.2.1 p2 ?_) (s1.trans s2)
          cases y with
          | pure d => exact rep2
          | ref n => cases p2
          | fresh ds =>
            obtain ⟨a2, vs2, rfl, f1, f2, f3, f4, f5⟩ := rep2
            refine ⟨a2, vs2, rfl, f1, f2, f3, now_none rl1 f4, fun n b es z1 z2 => ?_⟩
            replace z1 := get_set z1; rcases z1 with ⟨rfl, z1⟩ | ⟨nn, z1⟩
            · have il : i < σ.length := by rw [rl.len] ; exact (by have := free_lt hf.1; rw [← rb.len] at this; rw [← rl.len]; exact this)
              rw [List.getElem?_set_self il] at z2
              have hv : v = .ref a2 := Option.some.inj (Option.some.inj z2)
              cases x with
              | pure d => cases p1; cases z1
              | ref n => cases p1
              | fresh ds1 =>
                obtain ⟨a1, vs1, e6, g1, g2, g3, g4, g5⟩ := rep1
                rw [hv] at e6
                cases e6
                rw [now_some rl1 g1 g5] at f4
                cases f4
            · rw [List.getElem?_set_ne nn] at z2
              exact f5 n b es z1 z2
        · cases e
      · cases e
    · cases e
def par3 (i j l : Nat) (fa fb fc : M R) : MS := fun ς => match bd (esc fa) (fun x => bd (esc fb) fun y => bd (esc fc) fun z => ret (x, y, z)) ς with
  | some ((x, y, z), ς') => if free ς' i = true ∧ free (ς'.set i (some (.pure x))) j = true ∧ free ((ς'.set i (some (.pure x))).set j (some (.pure y))) l = true then some (.nx (((ς'.set i (some (.pure x))).set j (some (.pure y))).set l (some (.pure z)))) else none
  | none => none
theorem PDd.ex {e : Expr} {f : M D} (h : PDd X e f) : PE X e (fun σ H Q => ∃ F, tEvD X.K F f σ H Q) := ⟨fun pins s σ H Q I ⟨F, hw⟩ => (h F).run pins s σ H Q I hw⟩
theorem s_par3 {i j l : Nat} (ha : PEd X a fa) (hb : PEd X b fb) (hc : PEd X c fc) (h : ∀ t : TA, PA X [a, b, c] t → PS X st (tPar3 i j l t)) (hs1 : starEach [a, b, c] X.env = (false, eval a X.env) :: starEach [b, c] X.env := by rfl) (hs2 : starEach [b, c] X.env = (false, eval b X.env) :: starEach [c] X.env := by rfl) (hs3 : starEach [c] X.env = (false, eval c X.env) :: starEach [] X.env := by rfl) : PSd X st (par3 i j l fa fb fc) := fun F =>
  PS.mono (h _ (pa_cons (d_esc ha F) (pa_cons (d_esc hb F) (pa_cons (d_esc hc F) pa_nil hs3) hs2) hs1)) fun D σ H hq => by
    obtain ⟨ς, G, rl, o, e, k⟩ := hq
    unfold par3 at e
    split at e
    · rename_i x y z ς' q
      obtain ⟨x', ς1, e1, q1⟩ := bd_some q
      obtain ⟨y', ς2, e2, q2⟩ := bd_some q1
      obtain ⟨z', ς3, e3, q3⟩ := bd_some q2
      cases q3
      split at e
      · rename_i hf
        cases e
        exact ⟨ς, G, rl, _, ς1, e1, fun v H1 G1 rl1 s1 d1 => ⟨ς1, G1, rl1, _, ς2, e2, fun w H2 G2 rl2 s2 d2 => ⟨ς2, G2, rl2, _, _, e3, fun u H3 G3 rl3 s3 d3 => ⟨v, w, u, rfl,
          k _ H3 G3 (((rl3.setP hf.1 (dp_same (s2.trans s3) d1)).setP hf.2.1 (dp_same s3 d2)).setP hf.2.2 d3) (s1.trans (s2.trans s3))⟩⟩⟩⟩
      · cases e
    · cases e
end
end Lw
namespace Lw
open PySem PySem.Spec PyProof.Rows L2
/-! ### what is walked -/
structure WalkD (K : PySem.W.Frag) (G : Hp) (J : It) (ds : List D) : Prop where
  stop : ∀ H, Same G H → J.stop ds.length H
  go : ∀ i H, i < ds.length → Same G H → J.go i H
  yld : ∀ (i : Nat) H x H' d, Same G H → J.yld i H x H' → ds[i]? = some d → (H' = H ∧ Dp K G x d) ∨ ∃ T xs es, x = .ref T ∧ H T = none ∧ H' = upd H T (.tup xs) ∧ d = .tuple es ∧ DpAll K G xs es
theorem WalkD.mono {K : PySem.W.Frag} {G G' : Hp} {J : It} {ds : List D} (w : WalkD K G J ds) (s : Same G G') : WalkD K G' J ds where
  stop := fun H h => w.stop H (s.trans h)
  go := fun i H hi h => w.go i H hi (s.trans h)
  yld := fun i H x H' d h y e => by
    rcases w.yld i H x H' d (s.trans h) y e with ⟨h1, h2⟩ | ⟨T, xs, es, h1, h2, h3, h4, h5⟩
    · exact .inl ⟨h1, dp_same s h2⟩
    · exact .inr ⟨T, xs, es, h1, h2, h3, h4, dpa_same s h5⟩
def tEvI (K : PySem.W.Frag) (F : Fx) (f : M (List D)) : TI := fun σ H R => ∃ ς G, Rel K F ς G σ H ∧ ∃ ds ς', f ς = some (ds, ς') ∧ ∀ J H' G', Rel K F ς' G' σ H' → Same G G' → WalkD K G' J ds → R J H'
theorem _root_.L2.PI.mono {X : Cx} {tg it : Expr} {t t' : TI} (h : PI X tg it t) (k : ∀ σ H R, t' σ H R → t σ H R) : PI X tg it t' := ⟨fun pins s σ H R I hw => h.run pins s σ H R I (k σ H R hw)⟩
theorem _root_.L2.PI.or {X : Cx} {tg it : Expr} {t t' : TI} (h : PI X tg it t) (h' : PI X tg it t') : PI X tg it (fun σ H R => t σ H R ∨ t' σ H R) := ⟨fun pins s σ H R I hw => by
  rcases hw with hw | hw
  · exact h.run pins s σ H R I hw
  · exact h'.run pins s σ H R I hw⟩
abbrev PId (X : Cx) (tg it : Expr) (f : M (List D)) : Prop := ∀ F : Fx, PI X tg it (tEvI X.K F f)
section
variable {X : Cx} {a b c e tg : Expr} {es : List Expr} {fa fb fc f : M R} {ta : M Bool} {pos p p1 p2 p3 : Pos} {x : Str} {st : Stmt} {sts rest : List Stmt} {g g1 g2 : MS}
variable {K : PySem.W.Frag} {G : Hp}
theorem walk_tup {l : Addr} {xs : List V} {ds : List D} (h : SqT K G l xs) (hd : DpAll K G xs ds) : WalkD K G (Itt K l) ds where
  stop := fun H s => ⟨xs, same_seqT s h, by rw [dpa_len hd]; exact Nat.le_refl _⟩
  go := fun i H hl s => by
    obtain ⟨v, e, _⟩ := dpa_get hd (List.getElem?_eq_getElem hl)
    exact ⟨xs, v, same_seqT s h, e⟩
  yld := fun i H x H' d s y e => by
    obtain ⟨y1, y2⟩ := y
    obtain ⟨v, e1, e2⟩ := dpa_get hd e
    have := y2 xs (same_seqT s h)
    rw [e1] at this; cases this
    exact .inl ⟨y1, e2⟩
/-- over a list or tuple -/
def itS (f : M R) : M (List D) := bd (esc f) fun d => lift (items d)
theorem i_seq (he : PEd X e f) : PId X tg e (itS f) := fun F => PI.mono (PI.or (pi_list (d_esc he F)) (pi_tup (d_esc he F))) fun σ H R hq => by
  obtain ⟨ς, G, rl, ds, ς', e, k⟩ := hq
  obtain ⟨d, ς1, e1, q1⟩ := bd_some e
  obtain ⟨e2, h2⟩ := lift_some q1
  subst h2
  cases d with
  | list es =>
    cases e2
    refine .inl ⟨ς, G, rl, _, _, e1, fun v H' G' rl' s dp => ?_⟩
    obtain ⟨l, vs, rfl, h1, h2⟩ := dp_list dp
    have w : WalkD X.K G' (Itl X.K l) ds := by
      constructor
      · exact fun H s => ⟨vs, s.seq h1, by rw [dpa_len h2]; exact Nat.le_refl _⟩
      · intro i H hl s
        obtain ⟨v, e, _⟩ := dpa_get h2 (List.getElem?_eq_getElem hl)
        exact ⟨vs, v, s.seq h1, e⟩
      · intro i H x H' d s y e
        obtain ⟨y1, y2⟩ := y
        obtain ⟨v, e1, e2⟩ := dpa_get h2 e
        have := y2 vs (s.seq h1)
        rw [e1] at this; cases this
        exact .inl ⟨y1, e2⟩
    exact ⟨l, rfl, ⟨vs, rl'.sub.seq h1⟩, k _ H' G' rl' s w⟩
  | tuple es =>
    cases e2
    refine .inr ⟨ς, G, rl, _, _, e1, fun v H' G' rl' s dp => ?_⟩
    obtain ⟨l, vs, rfl, h1, h2⟩ := dp_tuple dp
    exact ⟨l, rfl, ⟨vs, same_seqT rl'.sub h1⟩, k _ H' G' rl' s (walk_tup h1 h2)⟩
  | _ => cases e2
/-- range(n), range(a, b) -/
def rngD (lo : Int) : Nat → List D
  | 0 => []
  | n + 1 => .int lo :: rngD (lo + 1) n
theorem rngD_len : ∀ (n : Nat) (lo : Int), (rngD lo n).length = n
  | 0, _ => rfl
  | n + 1, lo => by rw [rngD, List.length_cons, rngD_len n]
theorem rngD_get : ∀ (n : Nat) (lo : Int) (i : Nat), i < n → (rngD lo n)[i]? = some (.int (lo + i))
  | 0, _, _, h => absurd h (Nat.not_lt_zero _)
  | n + 1, lo, 0, _ => by rw [rngD]; simp
  | n + 1, lo, i + 1, h => by
    rw [rngD, List.getElem?_cons_succ, rngD_get n (lo + 1) i (by omega)]
    congr 2
    push_cast
    omega
theorem walk_rng {lo : Int} {n : Nat} : WalkD K G (Itr lo n) (rngD lo n) where
  stop := fun H s => by rw [rngD_len]; exact Nat.le_refl _
  go := fun i H hl s => by rw [rngD_len] at hl; exact hl
  yld := fun i H x H' d s y e => by
    have hl := (List.getElem?_eq_some_iff.mp e).1
    rw [rngD_len] at hl
    rw [rngD_get n lo i hl] at e
    cases e
    obtain ⟨y1, rfl⟩ := y
    exact .inl ⟨y1, .int _⟩
def inR (i : Int) : Bool := decide (-(2 ^ 62) ≤ i) && decide (i < 2 ^ 62)
def itR1 (f : M R) : M (List D) := bd (sub f) fun r => bd (rd r) fun d => match d with
  | .int n => if inR n = true then ret (rngD 0 n.toNat) else lift none
  | _ => lift none
def itR2 (fa fb : M R) : M (List D) := bd (sub fa) fun r => bd (sub fb) fun r2 => bd (rd r) fun d => bd (rd r2) fun d2 => match d, d2 with
  | .int m, .int n => if inR m = true ∧ inR n = true then ret (rngD m (n - m).toNat) else lift none
  | _, _ => lift none
theorem i_rng1 (hg : Gl X "range") (hm : X.mg "range" = none) (ha : PEd X a fa) (hs : starEach [a] X.env = [(false, eval a X.env)] := by rfl) : PId X tg (.Call (.Name "range" p) [a] [] pos) (itR1 fa) := fun F => PI.mono (pi_range1 hg hm (pa_cons (d_sub ha F) pa_nil hs) hs) fun σ H R hq => by
  obtain ⟨ς, G, rl, ds, ς', e, k⟩ := hq
  obtain ⟨r, ς1, e1, q1⟩ := bd_some e
  obtain ⟨d, ς2, e2', q2⟩ := bd_some q1
  obtain ⟨e2, h2⟩ := rd_some e2'
  subst h2
  refine ⟨ς, G, rl, r, _, e1, fun v H1 G1 rl1 s1 rep1 => ?_⟩
  have rv := rdD_ok rl1 rep1 e2
  cases d with
  | int n =>
    by_cases hn : inR n = true
    · replace q2 : (if inR n = true then ret (rngD 0 n.toNat) else lift none) _ = some (ds, ς') := q2
      rw [if_pos hn] at q2
      cases q2
      unfold inR at hn
      simp only [Bool.and_eq_true, decide_eq_true_eq] at hn
      refine ⟨n, by rw [rv.int], hn.1, hn.2, k _ H1 G1 rl1 s1 ?_⟩
      exact walk_rng
    · replace q2 : (if inR n = true then ret (rngD 0 n.toNat) else lift none) _ = some (ds, ς') := q2
      rw [if_neg hn] at q2
      cases q2
  | _ => cases q2
theorem i_rng2 (hg : Gl X "range") (hm : X.mg "range" = none) (ha : PEd X a fa) (hb : PEd X b fb) (h : ∀ t : TA, PA X [a, b] t → PI X tg (.Call (.Name "range" p) [a, b] [] pos) (iRng2 t)) (hs1 : starEach [a, b] X.env = (false, eval a X.env) :: starEach [b] X.env := by rfl) (hs2 : starEach [b] X.env = (false, eval b X.env) :: starEach [] X.env := by rfl) : PId X tg (.Call (.Name "range" p) [a, b] [] pos) (itR2 fa fb) := fun F => PI.mono (h _ (pa_cons (d_sub ha F) (pa_cons (d_sub hb F) pa_nil hs2) hs1)) fun σ H R hq => by
  obtain ⟨ς, G, rl, ds, ς', e, k⟩ := hq
  obtain ⟨r, ς1, e1, q1⟩ := bd_some e
  obtain ⟨r2, ς2, e2, q2⟩ := bd_some q1
  obtain ⟨d, ς3, e3', q3⟩ := bd_some q2
  obtain ⟨e3, h3⟩ := rd_some e3'
  obtain ⟨d2, ς4, e4', q4⟩ := bd_some q3
  obtain ⟨e4, h4⟩ := rd_some e4'
  subst h3 h4
  refine ⟨ς, G, rl, r, _, e1, fun v H1 G1 rl1 s1 rep1 => ⟨ς1, G1, rl1, r2, _, e2, fun w H2 G2 rl2 s2 rep2 => ?_⟩⟩
  have rv := rdD_ok rl2 (rep_keep (ς' := ς4) (H' := H2) rep1 (sub_nf e1) s2) e3
  have rw' := rdD_ok rl2 rep2 e4
  cases d with
  | int m =>
    cases d2 with
    | int n =>
      replace q4 : (if inR m = true ∧ inR n = true then ret (rngD m (n - m).toNat) else lift none) _ = some (ds, ς') := q4
      by_cases hn : inR m = true ∧ inR n = true
      · rw [if_pos hn] at q4
        cases q4
        obtain ⟨h1, h2⟩ := hn
        unfold inR at h1 h2
        simp only [Bool.and_eq_true, decide_eq_true_eq] at h1 h2
        exact ⟨m, n, by rw [rv.int, rw'.int], ⟨h1.1, h1.2, h2.1, h2.2⟩, k _ H2 G2 rl2 (s1.trans s2) walk_rng⟩
      · rw [if_neg hn] at q4; cases q4
    | _ => cases q4
  | _ => cases q4
/-- enumerate(xs) of a list -/
def enumD : Nat → List D → List D
  | _, [] => []
  | i, d :: ds => .tuple [.int i, d] :: enumD (i + 1) ds
theorem enumD_len : ∀ (ds : List D) (i : Nat), (enumD i ds).length = ds.length
  | [], _ => rfl
  | d :: ds, i => by rw [enumD, List.length_cons, List.length_cons, enumD_len ds]
theorem enumD_get : ∀ (ds : List D) (i j : Nat), (enumD i ds)[j]? = (ds[j]?).map fun d => PyData.tuple [.int ((i + j : Nat) : Int), d]
  | [], _, _ => rfl
  | d :: ds, i, 0 => by rw [enumD]; simp
  | d :: ds, i, j + 1 => by
    rw [enumD, List.getElem?_cons_succ, List.getElem?_cons_succ, enumD_get ds (i + 1) j]
    congr
    funext d
    congr 4
    omega
def itE (f : M R) : M (List D) := bd (esc f) fun d => match d with
  | .list ds => ret (enumD 0 ds)
  | _ => lift none
theorem i_enum {elts : List Expr} {kk : Nat} (hg : Gl X "enumerate") (hm : X.mg "enumerate" = none) (ha : PEd X a fa) (hs : starEach [a] X.env = [(false, eval a X.env)] := by rfl) : PId X (.Tuple elts kk p2) (.Call (.Name "enumerate" p) [a] [] pos) (itE fa) := fun F => PI.mono (pi_enum hg hm (pa_cons (d_esc ha F) pa_nil hs) hs) fun σ H R hq => by
  obtain ⟨ς, G, rl, ds, ς', e, k⟩ := hq
  obtain ⟨d, ς1, e1, q1⟩ := bd_some e
  refine ⟨ς, G, rl, d, _, e1, fun v H1 G1 rl1 s1 dp => ?_⟩
  cases d with
  | list es =>
    cases q1
    obtain ⟨l, vs, rfl, h1, h2⟩ := dp_list dp
    refine ⟨l, vs, rfl, rl1.sub.seq h1, k _ H1 G1 rl1 s1 ⟨fun H s => ⟨vs, s.seq h1, by rw [enumD_len, dpa_len h2]; exact Nat.le_refl _⟩, fun i H hl s => ?_, fun i H x H' d s y e => ?_⟩⟩
    · rw [enumD_len] at hl
      obtain ⟨v, e, _⟩ := dpa_get h2 (List.getElem?_eq_getElem hl)
      exact ⟨vs, v, s.seq h1, e⟩
    · obtain ⟨T, z, rfl, hT, rfl, hz⟩ := y
      rw [enumD_get] at e
      cases q : es[i]? with
      | none => rw [q] at e; cases e
      | some d' =>
        rw [q] at e
        cases e
        obtain ⟨v, f1, f2⟩ := dpa_get h2 q
        have := hz vs (s.seq h1)
        rw [f1] at this; cases this
        refine .inr ⟨T, _, _, rfl, hT, rfl, rfl, .cons ?_ (.cons f2 .nil)⟩
        rw [Nat.zero_add]
        exact .int _
  | _ => cases q1
/-- zip of two lists or two tuples -/
def zipD : List D → List D → List D
  | a :: as, b :: bs => .tuple [a, b] :: zipD as bs
  | _, _ => []
theorem zipD_len : ∀ (xs ys : List D), (zipD xs ys).length = min xs.length ys.length
  | [], ys => by rw [zipD]; simp; simp
  | a :: as, [] => by rw [zipD]; simp; simp
  | a :: as, b :: bs => by rw [zipD, List.length_cons, zipD_len as bs, List.length_cons, List.length_cons]; omega
theorem zipD_get : ∀ (xs ys : List D) (i : Nat) (d : D), (zipD xs ys)[i]? = some d → ∃ a b, xs[i]? = some a ∧ ys[i]? = some b ∧ d = .tuple [a, b]
  | [], ys, i, d, e => by rw [zipD] at e; simp at e; simp
  | a :: as, [], i, d, e => by rw [zipD] at e; simp at e; simp
  | a :: as, b :: bs, 0, d, e => by rw [zipD] at e; simp at e; exact ⟨a, b, rfl, rfl, e.symm⟩
  | a :: as, b :: bs, i + 1, d, e => by
    rw [zipD, List.getElem?_cons_succ] at e
    obtain ⟨u, v, h1, h2, h3⟩ := zipD_get as bs i d e
    exact ⟨u, v, by rw [List.getElem?_cons_succ]; exact h1, by rw [List.getElem?_cons_succ]; exact h2, h3⟩
def itZ (fa fb : M R) : M (List D) := bd (esc fa) fun d => bd (esc fb) fun d2 => match d, d2 with
  | .list xs, .list ys => ret (zipD xs ys)
  | .tuple xs, .tuple ys => ret (zipD xs ys)
  | _, _ => lift none
theorem i_zip {elts : List Expr} {kk : Nat} (hg : Gl X "zip") (hm : X.mg "zip" = none) (ha : PEd X a fa) (hb : PEd X b fb) (hs1 : starEach [a, b] X.env = (false, eval a X.env) :: starEach [b] X.env := by rfl) (hs2 : starEach [b] X.env = (false, eval b X.env) :: starEach [] X.env := by rfl) (hpl : (backTo pos (starEach [b] X.env)).any (·.1) = false := by rfl) :
    PId X (.Tuple elts kk p2) (.Call (.Name "zip" p) [a, b] [] pos) (itZ fa fb) := fun F => PI.mono (RZ.pi_zipA hg hm (pa_cons (d_esc ha F) (pa_cons (d_esc hb F) pa_nil hs2) hs1) hs1 hpl) fun σ H R hq => by
  obtain ⟨ς, G, rl, ds, ς', e, k⟩ := hq
  obtain ⟨d, ς1, e1, q1⟩ := bd_some e
  obtain ⟨d2, ς2, e2, q2⟩ := bd_some q1
  refine ⟨ς, G, rl, d, _, e1, fun v H1 G1 rl1 s1 dp => ⟨ς1, G1, rl1, d2, ς2, e2, fun w H2 G2 rl2 s2 dp2 => ?_⟩⟩
  cases d with
  | list xs =>
    cases d2 with
    | list ys =>
      cases q2
      obtain ⟨l, vs, rfl, h1, h2⟩ := dp_list (dp_same s2 dp)
      obtain ⟨l2, ws, rfl, h3, h4⟩ := dp_list dp2
      refine ⟨l, l2, vs, ws, rfl, .inl ⟨rl2.sub.seq h1, rl2.sub.seq h3, k _ H2 G2 rl2 (s1.trans s2) ⟨fun H s => ⟨vs, ws, s.seq h1, s.seq h3, ?_⟩, fun i H hl s => ?_, fun i H x H' d s y e => ?_⟩⟩⟩
      · rw [zipD_len, dpa_len h2, dpa_len h4]; omega
      · rw [zipD_len] at hl
        obtain ⟨v, f1, _⟩ := dpa_get h2 (List.getElem?_eq_getElem (i := i) (by omega))
        obtain ⟨w, f2, _⟩ := dpa_get h4 (List.getElem?_eq_getElem (i := i) (by omega))
        exact ⟨vs, ws, v, w, s.seq h1, s.seq h3, f1, f2⟩
      · obtain ⟨T, u, z, rfl, hT, rfl, z1, z2⟩ := y
        obtain ⟨a', b', f1, f2, rfl⟩ := zipD_get xs ys i d e
        obtain ⟨v1, g1, g2⟩ := dpa_get h2 f1
        obtain ⟨v2, g3, g4⟩ := dpa_get h4 f2
        have t1 := z1 vs (s.seq h1)
        have t2 := z2 ws (s.seq h3)
        rw [g1] at t1; cases t1
        rw [g3] at t2; cases t2
        exact .inr ⟨T, _, _, rfl, hT, rfl, rfl, .cons g2 (.cons g4 .nil)⟩
    | _ => cases q2
  | tuple xs =>
    cases d2 with
    | tuple ys =>
      cases q2
      obtain ⟨l, vs, rfl, h1, h2⟩ := dp_tuple (dp_same s2 dp)
      obtain ⟨l2, ws, rfl, h3, h4⟩ := dp_tuple dp2
      refine ⟨l, l2, vs, ws, rfl, .inr ⟨same_seqT rl2.sub h1, same_seqT rl2.sub h3, k _ H2 G2 rl2 (s1.trans s2) ⟨fun H s => ⟨vs, ws, same_seqT s h1, same_seqT s h3, ?_⟩, fun i H hl s => ?_, fun i H x H' d s y e => ?_⟩⟩⟩
      · rw [zipD_len, dpa_len h2, dpa_len h4]; omega
      · rw [zipD_len] at hl
        obtain ⟨v, f1, _⟩ := dpa_get h2 (List.getElem?_eq_getElem (i := i) (by omega))
        obtain ⟨w, f2, _⟩ := dpa_get h4 (List.getElem?_eq_getElem (i := i) (by omega))
        exact ⟨vs, ws, v, w, same_seqT s h1, same_seqT s h3, f1, f2⟩
      · obtain ⟨T, u, z, rfl, hT, rfl, z1, z2⟩ := y
        obtain ⟨a', b', f1, f2, rfl⟩ := zipD_get xs ys i d e
        obtain ⟨v1, g1, g2⟩ := dpa_get h2 f1
        obtain ⟨v2, g3, g4⟩ := dpa_get h4 f2
        have t1 := z1 vs (same_seqT s h1)
        have t2 := z2 ws (same_seqT s h3)
        rw [g1] at t1; cases t1
        rw [g3] at t2; cases t2
        exact .inr ⟨T, _, _, rfl, hT, rfl, rfl, .cons g2 (.cons g4 .nil)⟩
    | _ => cases q2
  | _ => cases q2
/-! ### for -/
def loop (tg : Tg) (body : MS) : List D → MS
  | [], ς => some (.nx ς)
  | d :: ds, ς => match tg d ς with
    | some ς1 => match body ς1 with
      | some (.nx ς2) => loop tg body ds ς2
      | some (.ct ς2) => loop tg body ds ς2
      | some (.bk ς2) => some (.nx ς2)
      | some (.rt r ς2) => some (.rt r ς2)
      | none => none
    | none => none
def forS (f : M (List D)) (tg : Tg) (body : MS) : MS := fun ς => match f ς with
  | some (ds, ς1) => loop tg body ds ς1
  | none => none
theorem Rel.tupled {F : Fx} {ς : En} {σ : L2.St} {H : Hp} {J : It} {ds : List D} {i : Nat} {v : V} {H' : Hp} {d : D} (r : Rel K F ς G σ H) {G1 : Hp} (s1 : Same G1 G) (w : WalkD K G1 J ds) (y : J.yld i H v H') (e : ds[i]? = some d) : ∃ G', Rel K F ς G' σ H' ∧ Same G G' ∧ Dp K G' v d := by
  rcases w.yld i H v H' d (s1.trans r.sub) y e with ⟨rfl, h2⟩ | ⟨T, xs, es, rfl, h2, rfl, rfl, h5⟩
  · exact ⟨G, r, Same.refl _, dp_same s1 h2⟩
  · exact ⟨_, r.lay h2, same_upd (r.gnone h2), r.layD h2 (dpa_same s1 h5)⟩
theorem s_for {it : Expr} {fi : M (List D)} {vs : List Nat} {t : Tg} (hp : PassesOwn (model X.prog X.w) X.A X.env X.xe) (hc : X.calm = true) (hi : PId X tg it fi) (hg : PGd X tg vs t) (hb : PSsd X sts g) (hs : ∀ x, foldedSetIterable it X.env x = pure x := by intro _; rfl) : PSd X (.For tg it sts [] pos) (forS fi t g) := fun F =>
  PS.mono (ps_for hp hc (hi F) (hg F) (hb F) hs) fun D σ H hq => by
    obtain ⟨ς, G, rl, o, e, k⟩ := hq
    unfold forS at e
    split at e
    · rename_i ds ς1 q
      refine ⟨ς, G, rl, ds, ς1, q, fun J H1 G1 rl1 s1 wk => ?_⟩
      refine ⟨fun i m σ' H' => m = ds.length - i ∧ i ≤ ds.length ∧ ∃ ς' G' o', Rel X.K F ς' G' σ' H' ∧ Same G1 G' ∧ loop t g (ds.drop i) ς' = some o' ∧ EndsOk X.K F G' D o', ⟨ds.length, by simp, Nat.zero_le _, ς1, G1, o, rl1, Same.refl _, e, k.mono s1⟩, ?_⟩
      rintro i m σ' H' ⟨rfl, hi', ς', G', o', rl', s', e', k'⟩
      by_cases hlt : i < ds.length
      · rw [List.drop_eq_getElem_cons hlt, loop] at e'
        split at e'
        · rename_i ς2 q2
          refine .inr ⟨wk.go i H' hlt (s'.trans rl'.sub), fun σ3 H3 => ∃ ς3 G3 o3, Rel X.K F ς3 G3 σ3 H3 ∧ Same G1 G3 ∧ loop t g (ds.drop (i + 1)) ς3 = some o3 ∧ EndsOk X.K F G3 D o3, fun σ3 H3 h3 => ⟨ds.length - (i + 1), by omega, rfl, hlt, h3⟩, fun v H2 y => ?_⟩
          obtain ⟨G2, rl2, s2, dp2⟩ := rl'.tupled s' wk y (List.getElem?_eq_getElem hlt)
          refine ⟨ς', G2, _, rl2, dp2, ς2, q2, fun σ3 H3 G3 rl3 s3 _ => ?_⟩
          have s13 : Same G1 G3 := s'.trans (s2.trans s3)
          split at e'
          · rename_i ς4 q4
            exact ⟨ς2, G3, rl3, _, q4, fun σ5 H5 G5 rl5 s5 => ⟨ς4, G5, o', rl5, s13.trans s5, e', k'.mono (s2.trans (s3.trans s5))⟩⟩
          · rename_i ς4 q4
            exact ⟨ς2, G3, rl3, _, q4, fun σ5 H5 G5 rl5 s5 => ⟨ς4, G5, o', rl5, s13.trans s5, e', k'.mono (s2.trans (s3.trans s5))⟩⟩
          · rename_i ς4 q4
            cases e'
            exact ⟨ς2, G3, rl3, _, q4, fun σ5 H5 G5 rl5 s5 => k' σ5 H5 G5 rl5 (s2.trans (s3.trans s5))⟩
          · rename_i r ς4 q4
            cases e'
            exact ⟨ς2, G3, rl3, _, q4, fun v σ5 H5 G5 rl5 s5 rep => k' v σ5 H5 G5 rl5 (s2.trans (s3.trans s5)) rep⟩
          · cases e'
        · cases e'
      · have ei : i = ds.length := by omega
        subst ei
        rw [List.drop_length, loop] at e'
        cases e'
        exact .inl ⟨wk.stop H' (s'.trans rl'.sub), k' σ' H' G' rl' (Same.refl _)⟩
    · cases e
end
end Lw
namespace Lw
open PySem PySem.Spec PyProof.Rows L2
section
variable {K : PySem.W.Frag} {F : Fx} {ς ς' : En} {G H G' H' : Hp} {σ σ' : L2.St}
def wipeE (ς : En) : List Nat → En
  | [] => ς
  | v :: vs => (wipeE ς vs).set v none
def freeAll (ς : En) (vs : List Nat) : Bool := vs.all (free ς)
theorem free_set {i j : Nat} (h : free ς i = true) : free (ς.set j none) i = true := by
  unfold free at h ⊢
  by_cases e : j = i
  · subst e
    by_cases hl : j < ς.length
    · rw [List.getElem?_set_self hl]
    · rw [List.getElem?_eq_none (by omega)] at h; cases h
  · rw [List.getElem?_set_ne e]; exact h
theorem free_wipeE {i : Nat} (h : free ς i = true) : ∀ vs : List Nat, free (wipeE ς vs) i = true
  | [] => h
  | v :: vs => free_set (free_wipeE h vs)
theorem Rel.wiped (r : Rel K F ς G σ H) : ∀ vs : List Nat, freeAll ς vs = true → Rel K F (wipeE ς vs) G (wipe σ vs) H
  | [], _ => r
  | v :: vs, h => by
    unfold freeAll at h
    rw [List.all_cons, Bool.and_eq_true] at h
    exact (r.wiped vs h.2).setN (free_wipeE h.1 vs)
theorem Rel.unwipe {vs : List Nat} (r : Rel K F ς G (wipe σ vs) H) : Rel K F ς G σ H where
  len := by rw [← r.len, wipe_length]
  sub := r.sub
  g0 := r.g0
  pu := fun i d e => by
    obtain ⟨v, h1, h2⟩ := r.pu i d e
    exact ⟨v, (wipe_some h1).1, h2⟩
  ow := fun i b ds e => by
    obtain ⟨a, ws, h1, h2⟩ := r.ow i b ds e
    exact ⟨a, ws, (wipe_some h1).1, h2⟩
  ap := fun i j b c ds es a q1 q2 q3 q4 => by
    obtain ⟨a1, _, h1, _⟩ := r.ow i b ds q1
    obtain ⟨a2, _, h2, _⟩ := r.ow j c es q2
    have e1 := (wipe_some h1).1
    have e2 := (wipe_some h2).1
    rw [q3] at e1; cases e1
    rw [q4] at e2; cases e2
    exact r.ap i j b c ds es a q1 q2 h1 h2
  par := r.par
  fr := r.fr
  nw := r.nw
/-- something of nobody's is changed -/
theorem Rel.touch (r : Rel K F ς G σ H) {a : Addr} {o : HO} (h2 : G a = none) (h4 : F.H0 a = none) (h5 : ∀ (i : Nat) b es, ς[i]? = some (some (.own b es)) → σ[i]? ≠ some (some (.ref a))) : Rel K F ς G σ (upd H a o) where
  len := r.len
  sub := fun b x e => by
    rw [upd_ne (ne_of_none e h2)]; exact r.sub _ _ e
  g0 := r.g0
  pu := r.pu
  ow := fun i b ds e => by
    obtain ⟨a', vs, e1, e2, e3⟩ := r.ow i b ds e
    have ne : a' ≠ a := fun z => by subst z; exact h5 i b ds e e1
    exact ⟨a', vs, e1, by rw [upd_ne ne]; exact e2, e3⟩
  ap := r.ap
  par := r.par
  fr := fun b x e na => by
    rw [upd_ne (ne_of_none e h4)]; exact r.fr b x e na
  nw := r.nw
end
/-! ### [e for x in xs] -/
def lcLoop (vs : List Nat) (tg : Tg) (tt : M Bool) (fe : M R) : List D → List D → En → Option (List D × En)
  | [], acc, ς => some (acc, ς)
  | d :: ds, acc, ς => match tg d ς with
    | some ς1 => match tt ς1 with
      | some (true, ς2) => match esc fe ς2 with
        | some (y, ς3) => if freeAll ς3 vs = true ∧ acc.length < sizeLine then lcLoop vs tg tt fe ds (acc ++ [y]) (wipeE ς3 vs) else none
        | none => none
      | some (false, ς2) => if freeAll ς2 vs = true then lcLoop vs tg tt fe ds acc (wipeE ς2 vs) else none
      | none => none
    | none => none
def lcE (fi : M (List D)) (vs : List Nat) (tg : Tg) (tt : M Bool) (fe : M R) : M R := fun ς => match fi ς with
  | some (ds, ς1) => if freeAll ς1 vs = true then match lcLoop vs tg tt fe ds [] (wipeE ς1 vs) with
      | some (acc, ς2) => some (.fresh acc, ς2)
      | none => none
    else none
  | none => none
section
variable {X : Cx} {a b c e tg : Expr} {es : List Expr} {fa fb fc f fe : M R} {ta : M Bool} {pos p p1 p2 p3 : Pos} {x : Str} {st : Stmt} {sts rest : List Stmt} {g g1 g2 : MS}
abbrev gEx (K : PySem.W.Frag) (vs : List Nat) (t : Tg) : TG := fun v σ H Q => ∃ F, tTg K F vs t v σ H Q
abbrev tEx (K : PySem.W.Frag) (t : M Bool) : TT := fun σ H Q => ∃ F, tEvT K F t σ H Q
abbrev eEx (K : PySem.W.Frag) (f : M D) : TE := fun σ H Q => ∃ F, tEvD K F f σ H Q
theorem t_lc {K : PySem.W.Frag} {fi : M (List D)} {vs : List Nat} {t : Tg} (F : Fx) : ∀ σ H Q, tEv K F (lcE fi vs t ta fe) σ H Q → tLc (fun σ H R => ∃ F, tEvI K F fi σ H R) (gEx K vs t) (tEx K ta) (eEx K (esc fe)) vs σ H Q := fun σ H Q hq => by
  obtain ⟨ς, G, rl, r, ς', e, k⟩ := hq
  unfold lcE at e
  split at e
  · rename_i ds ς1 q1
    split at e
    · rename_i hf
      split at e
      · rename_i accF ς2 q2
        cases e
        refine ⟨F, ς, G, rl, ds, ς1, q1, fun J H1 G1 rl1 s1 wk L hL => ?_⟩
        refine ⟨fun i m H' => m = ds.length - i ∧ i ≤ ds.length ∧ ∃ ςi Gi acc accV, Rel K F ςi Gi (wipe σ vs) H' ∧ Same G1 Gi ∧ H' L = some (.lst accV) ∧ Gi L = none ∧ DpAll K Gi accV acc ∧ F.H0 L = none ∧ (∀ (n : Nat) b es, ςi[n]? = some (some (.own b es)) → (wipe σ vs)[n]? ≠ some (some (.ref L))) ∧ lcLoop vs t ta fe (ds.drop i) acc ςi = some (accF, ς'), ?_, ?_⟩
        · refine ⟨ds.length, by simp, Nat.zero_le _, wipeE ς1 vs, G1, [], [], (rl1.wiped vs hf).layF hL, Same.refl _, upd_same, rl1.gnone hL, .nil, rl1.new hL, fun n b es z w => ?_, q2⟩
          obtain ⟨a, ws, f1, f2, _⟩ := (rl1.wiped vs hf).ow n b es z
          rw [w] at f1; cases f1
          rw [hL] at f2; cases f2
        · rintro i m H' ⟨rfl, hi, ςi, Gi, acc, accV, rli, si, hLi, hGi, hdi, h0, hni, ei⟩
          by_cases hlt : i < ds.length
          · rw [List.drop_eq_getElem_cons hlt, lcLoop] at ei
            split at ei
            · rename_i ς3 q3
              refine .inr ⟨wk.go i H' hlt (si.trans rli.sub), fun H3 => ∃ ςi Gi acc accV, Rel K F ςi Gi (wipe σ vs) H3 ∧ Same G1 Gi ∧ H3 L = some (.lst accV) ∧ Gi L = none ∧ DpAll K Gi accV acc ∧ F.H0 L = none ∧ (∀ (n : Nat) b es, ςi[n]? = some (some (.own b es)) → (wipe σ vs)[n]? ≠ some (some (.ref L))) ∧ lcLoop vs t ta fe (ds.drop (i + 1)) acc ςi = some (accF, ς'), fun H3 h3 => ⟨ds.length - (i + 1), by omega, rfl, hlt, h3⟩, fun v H2 y => ?_⟩
              obtain ⟨G2, rl2, s2, dp2⟩ := rli.now.tupled si wk y (List.getElem?_eq_getElem hlt)
              refine ⟨F.now ςi Gi (wipe σ vs) H', ςi, G2, _, rl2, dp2, ς3, q3, fun σ3 H3 G3 rl3 s3 w3 => ⟨w3.trans (by
                  have : ∀ us : List Nat, wipe (wipe σ us) us = wipe σ us := by
                    intro us
                    induction us with
                    | nil => rfl
                    | cons u us ih =>
                      show (wipe ((wipe σ us).set u none) us).set u none = (wipe σ us).set u none
                      rw [wipe_comm1, List.set_set, ih]
                  exact this vs), ?_⟩⟩
              split at ei
              · rename_i ς4 q4
                refine ⟨F.now ςi Gi (wipe σ vs) H', ς3, G3, rl3, true, ς4, q4, fun H4 G4 rl4 s4 => ?_⟩
                refine iteT ?_
                split at ei
                · rename_i y5 ς5 q5
                  split at ei
                  · rename_i hf5
                    refine ⟨F.now ςi Gi (wipe σ vs) H', ς4, G4, rl4, y5, ς5, q5, fun u H5 G5 rl5 s5 dp5 => ?_⟩
                    obtain ⟨k1, k2, k3⟩ := rli.keepF rl5 hLi hGi hni
                    have hdi' : DpAll K G5 accV acc := dpa_same (s2.trans (s3.trans (s4.trans s5))) hdi
                    refine ⟨accV, k1, by rw [dpa_len hdi]; exact hf5.2, wipeE ς5 vs, G5, acc ++ [y5], accV ++ [u], ?_, si.trans (s2.trans (s3.trans (s4.trans s5))), upd_same, k2, dpa_app hdi' (.cons dp5 .nil), h0, ?_, ei⟩
                    · have rb := (rli.back rl5).wiped vs hf5.1
                      have w3' : wipe σ3 vs = wipe σ vs := by
                        rw [w3]
                        have : ∀ us : List Nat, wipe (wipe σ us) us = wipe σ us := by
                          intro us
                          induction us with
                          | nil => rfl
                          | cons u us ih =>
                            show (wipe ((wipe σ us).set u none) us).set u none = (wipe σ us).set u none
                            rw [wipe_comm1, List.set_set, ih]
                        exact this vs
                      rw [w3'] at rb
                      refine rb.touch k2 h0 fun n b es z1 z2 => ?_
                      obtain ⟨a6, ws6, f1, f2, _⟩ := rb.ow n b es z1
                      rw [z2] at f1; cases f1
                      have z3 : ς5[n]? = some (some (.own b es)) := by
                        have : ∀ us : List Nat, (wipeE ς5 us)[n]? = some (some (.own b es)) → ς5[n]? = some (some (.own b es)) := by
                          intro us
                          induction us with
                          | nil => exact fun h => h
                          | cons u us ih =>
                            intro h
                            have h' : ((wipeE ς5 us).set u none)[n]? = some (some (.own b es)) := h
                            replace h' := get_set h'; rcases h' with ⟨rfl, h'⟩ | ⟨_, h'⟩
                            · cases h'
                            · exact ih h'
                        exact this vs z1
                      rw [← w3'] at z2
                      exact k3 n b es z3 (wipe_some z2).1
                    · intro n b es z1 z2
                      have w3' : wipe σ3 vs = wipe σ vs := by
                        rw [w3]
                        have : ∀ us : List Nat, wipe (wipe σ us) us = wipe σ us := by
                          intro us
                          induction us with
                          | nil => rfl
                          | cons u us ih =>
                            show (wipe ((wipe σ us).set u none) us).set u none = (wipe σ us).set u none
                            rw [wipe_comm1, List.set_set, ih]
                        exact this vs
                      have z3 : ς5[n]? = some (some (.own b es)) := by
                        have : ∀ us : List Nat, (wipeE ς5 us)[n]? = some (some (.own b es)) → ς5[n]? = some (some (.own b es)) := by
                          intro us
                          induction us with
                          | nil => exact fun h => h
                          | cons u us ih =>
                            intro h
                            have h' : ((wipeE ς5 us).set u none)[n]? = some (some (.own b es)) := h
                            replace h' := get_set h'; rcases h' with ⟨rfl, h'⟩ | ⟨_, h'⟩
                            · cases h'
                            · exact ih h'
                        exact this vs z1
                      rw [← w3'] at z2
                      exact k3 n b es z3 (wipe_some z2).1
                  · cases ei
                · cases ei
              · rename_i ς4 q4
                refine ⟨F.now ςi Gi (wipe σ vs) H', ς3, G3, rl3, false, ς4, q4, fun H5 G5 rl5 s5 => ?_⟩
                refine iteF ?_
                split at ei
                · rename_i hf5
                  obtain ⟨k1, k2, k3⟩ := rli.keepF rl5 hLi hGi hni
                  have hdi' : DpAll K G5 accV acc := dpa_same (s2.trans (s3.trans s5)) hdi
                  have w3' : wipe σ3 vs = wipe σ vs := by
                    rw [w3]
                    have : ∀ us : List Nat, wipe (wipe σ us) us = wipe σ us := by
                      intro us
                      induction us with
                      | nil => rfl
                      | cons u us ih =>
                        show (wipe ((wipe σ us).set u none) us).set u none = (wipe σ us).set u none
                        rw [wipe_comm1, List.set_set, ih]
                    exact this vs
                  have rb := (rli.back rl5).wiped vs hf5
                  rw [w3'] at rb
                  refine ⟨wipeE ς4 vs, G5, acc, accV, rb, si.trans (s2.trans (s3.trans s5)), k1, k2, hdi', h0, fun n b es z1 z2 => ?_, ei⟩
                  have z3 : ς4[n]? = some (some (.own b es)) := by
                    have : ∀ us : List Nat, (wipeE ς4 us)[n]? = some (some (.own b es)) → ς4[n]? = some (some (.own b es)) := by
                      intro us
                      induction us with
                      | nil => exact fun h => h
                      | cons u us ih =>
                        intro h
                        have h' : ((wipeE ς4 us).set u none)[n]? = some (some (.own b es)) := h
                        replace h' := get_set h'; rcases h' with ⟨rfl, h'⟩ | ⟨_, h'⟩
                        · cases h'
                        · exact ih h'
                    exact this vs z1
                  rw [← w3'] at z2
                  exact k3 n b es z3 (wipe_some z2).1
                · cases ei
              · cases ei
            · cases ei
          · have eI : i = ds.length := by omega
            subst eI
            rw [List.drop_length, lcLoop] at ei
            cases ei
            refine .inl ⟨wk.stop H' (si.trans rli.sub), k _ H' Gi rli.unwipe (s1.trans si) ⟨L, accV, rfl, hLi, hGi, hdi, h0, fun n b es z1 z2 => ?_⟩⟩
            obtain ⟨a6, ws6, f1, f2, _⟩ := rli.ow n b es z1
            have := (wipe_some f1).1
            rw [z2] at this; cases this
            exact hni n b es z1 f1
      · cases e
    · cases e
  · cases e
theorem PId.ex {it : Expr} {fi : M (List D)} (h : PId X tg it fi) : PI X tg it (fun σ H R => ∃ F, tEvI X.K F fi σ H R) := ⟨fun pins s σ H R I ⟨F, hw⟩ => (h F).run pins s σ H R I hw⟩
theorem ts_nil : PTs X [] (tEx X.K (ret true)) := ⟨fun pins s σ H Q I ⟨F, ς, G, rl, b, ς', e, k⟩ => by
  cases e
  exact pts_nil.run pins s σ H Q I (k H G rl (Same.refl _))⟩
theorem ts_one {c : Expr} (h : PTd X c ta) : PTs X [c] (tEx X.K ta) := pts_one ⟨fun pins s σ H Q I ⟨F, hw⟩ => (h F).run pins s σ H Q I hw⟩
end
end Lw
namespace Lw
open PySem PySem.Spec PyProof.Rows L2
section
variable {X : Cx} {a b c e tg o : Expr} {es : List Expr} {fa fb fc f fe fo : M R} {ta : M Bool} {pos p p1 p2 p3 : Pos} {x : Str} {st : Stmt} {sts rest : List Stmt} {g g1 g2 : MS}
theorem d_lc {elt tg iter : Expr} {ifs : List Expr} {scope : Scope} {own : List (Str × Nat)} {fi : M (List D)} {t : Tg} (hc : X.calm = true) (hN : X.N.Nodup) (hi : PId X tg iter fi) (ok : BlkOk X.N X.env.scope scope own)
    (hg : ∀ (s : Shared) (H : Hp) (C : Addr) (cl : List (Str × Addr)) (fp : List Addr), PGd (X.blk s H scope (compEnvC scope cl C X.env) fp) tg (own.map (·.2)) t)
    (ht : ∀ (s : Shared) (H : Hp) (C : Addr) (cl : List (Str × Addr)) (fp : List Addr), PTs (X.blk s H scope (compEnvC scope cl C X.env) fp) ifs (tEx X.K ta))
    (he : ∀ (s : Shared) (H : Hp) (C : Addr) (cl : List (Str × Addr)) (fp : List Addr), PEd (X.blk s H scope (compEnvC scope cl C X.env) fp) elt fe) (hs : ∀ x, foldedSetIterable iter X.env x = pure x := by intro _; rfl) :
    PEd X (.ListComp elt [⟨tg, iter, ifs, 0⟩] scope pos) (lcE fi (own.map (·.2)) t ta fe) := fun F =>
  PE.mono (pe_lc hc hN hi.ex ok (fun s H C cl fp => (hg s H C cl fp).ex) ht (fun s H C cl fp => PDd.ex (d_esc (he s H C cl fp))) hs) (t_lc F)
/-! ### methods of an own list -/
def isOwn (i : Nat) : M Unit := fun ς => match ς[i]? with
  | some (some (.own _ _)) => some ((), ς)
  | _ => none
def mth (h : List D → List D → Option (D × List D)) (fo : M R) (ga : M (List Ar)) : M R := bd fo fun r => match r with
  | .ref i => bd (isOwn i) fun _ => bd ga fun as => bd (lift (vals as)) fun ws => fun ς => match ς[i]? with
    | some (some (.own b ds)) => match h ds ws with
      | some (d, ds') => some (.pure d, ς.set i (some (.own b ds')))
      | none => none
    | _ => none
  | _ => lift none
structure Mth (X : Cx) (r : V → List V → Hp → VK → Prop) (h : List D → List D → Option (D × List D)) : Prop where
  run : ∀ (G : Hp) (H : Hp) (l : Addr) (xs ws : List V) (ds es : List D) (d : D) (ds' : List D) (Q : VK), H l = some (.lst xs) → DpAll X.K G xs ds → DpAll X.K G ws es → h ds es = some (d, ds') →
    (∀ v xs', DpAll X.K G xs' ds' → Dp X.K G v d → Q v (upd H l (.lst xs'))) → r (.ref l) ws H Q
theorem d_mth {ga : M (List Ar)} {h : List D → List D → Option (D × List D)} {r : V → List V → Hp → VK → Prop} (m : Mth X r h) (ho : PEd X o fo) (ha : PAd X es ga) (hp : ∀ (to : TE) (t : TA), PE X o to → PA X es t → PE X e (tBM X.K "list" r to t)) : PEd X e (mth h fo ga) := fun F => PE.mono (hp _ _ (ho F) (ha F)) fun σ H Q hq => by
  obtain ⟨ς, G, rl, res, ς', e, k⟩ := hq
  obtain ⟨r0, ς1, e1, q1⟩ := bd_some e
  refine ⟨ς, G, rl, r0, ς1, e1, fun v H1 G1 rl1 s1 rep1 => ?_⟩
  cases r0 with
  | ref i =>
    obtain ⟨_, ς2, e2, q2⟩ := bd_some q1
    unfold isOwn at e2
    split at e2
    · rename_i b ds q3
      cases e2
      obtain ⟨l, xs, f1, f2, _⟩ := rl1.ow i b ds q3
      rw [show σ[i]? = some (some v) from rep1] at f1
      cases f1
      refine ⟨.inl ⟨rfl, _, SqL.of f2⟩, ?_⟩
      obtain ⟨as, ς3, e3, q4⟩ := bd_some q2
      obtain ⟨ws, ς4, e4', q5⟩ := bd_some q4
      obtain ⟨e4, h4⟩ := lift_some e4'
      subst h4
      refine ⟨ς1, G1, rl1, as, _, e3, fun vs H2 G2 rl2 s2 ps => ?_⟩
      split at q5
      · rename_i b2 ds2 q6
        split at q5
        · rename_i d ds' q7
          cases q5
          obtain ⟨l2, xs2, g1, g2, g3, g4, _⟩ := rl2.ow i b2 ds2 q6
          rw [show σ[i]? = some (some (.ref l)) from rep1] at g1
          cases g1
          exact m.run G2 H2 l xs2 vs ds2 ws d ds' Q g2 g4 (vals_ok ps e4) q7 fun w xs' hx hw => k w _ G2 (rl2.mut q6 rep1 hx) (s1.trans s2) hw
        · cases q5
      · cases q5
    · cases e2
  | _ => cases q1
def hApp : List D → List D → Option (D × List D)
  | ds, [d] => if ds.length < sizeLine then some (.none, ds ++ [d]) else none
  | _, _ => none
theorem m_append : Mth X rAppend hApp := ⟨fun G H l xs ws ds es d ds' Q h1 h2 h3 e k => by
  cases h3 with
  | nil => cases e
  | cons hv ht =>
    cases ht with
    | nil =>
      rename_i v dd
      replace e : (if ds.length < sizeLine then some (PyData.none, ds ++ [dd]) else none) = some (d, ds') := e
      by_cases q : ds.length < sizeLine
      · rw [if_pos q] at e
        cases e
        exact ⟨l, xs, v, rfl, rfl, h1, by rw [dpa_len h2]; exact q, k _ _ (dpa_app h2 (.cons hv .nil)) .non⟩
      · rw [if_neg q] at e; cases e
    | cons _ _ => cases e⟩
def hPopAt : List D → List D → Option (D × List D)
  | ds, [.int i] => if -(2 ^ 63) ≤ i ∧ i < 2 ^ 63 then match seqIndex? i ds.length with
      | some k => match ds[k]? with
        | some d => some (d, ds.eraseIdx k)
        | none => none
      | none => none
    else none
  | _, _ => none
theorem m_popAt : Mth X rPopAt hPopAt := ⟨fun G H l xs ws ds es d ds' Q h1 h2 h3 e k => by
  cases h3 with
  | nil => cases e
  | cons hv ht =>
    cases ht with
    | nil =>
      rename_i v dd
      cases dd with
      | int i =>
        replace e : (if -(2 ^ 63) ≤ i ∧ i < 2 ^ 63 then (match seqIndex? i ds.length with
          | some k => match ds[k]? with
            | some d => some (d, ds.eraseIdx k)
            | none => none
          | none => none) else none) = some (d, ds') := e
        by_cases q : -(2 ^ 63) ≤ i ∧ i < 2 ^ 63
        · rw [if_pos q] at e
          split at e
          · rename_i n q2
            split at e
            · rename_i d2 q3
              cases e
              obtain ⟨y, y1, y2⟩ := dpa_get h2 q3
              exact ⟨l, xs, i, n, y, rfl, by rw [dp_int hv], h1, q.1, q.2, by rw [dpa_len h2]; exact q2, y1, k _ _ (dpa_erase n h2) y2⟩
            · cases e
          · cases e
        · rw [if_neg q] at e; cases e
      | _ => cases e
    | cons _ _ => simp [hPopAt] at e⟩
end
/-! ### a def, with nothing being shown around it -/
structure FnG (P : Program) (w : World) (K : PySem.W.Frag) (mg : Str → Option Value) (base : Heap) (CX : CXT) (k : Nat) (f : Addr) (fd : FuncData) (ps : List Str) (sp : Sp) : Prop where
  len : ∀ vs H Q E, sp vs H Q E → vs.length = ps.length
  run : ∀ (A : Around) (outer : List Env) (s : Shared) (H : Hp) (args : Args) (us : List Value) (vs : List V) (Q : VK) (E : XK), A.guards = some [] → Room k A → Env0 P w K mg base A outer s H →
    BindsTo s fd args (ps.zip us) → Vals vs us → sp vs H Q E → codeAny (model P w) A (.call (.ref f) args) (CR CX outer P w H s Q E) s
section
variable {P : Program} {w : World} {K : PySem.W.Frag} {mg : Str → Option Value} {base : Heap} {CX : CXT} {k : Nat} {f : Addr} {fd : FuncData} {ps : List Str} {sp : Sp}
theorem FnG.mono {j : Nat} (F : FnG P w K mg base CX j f fd ps sp) (h : j ≤ k) : FnG P w K mg base CX k f fd ps sp :=
  ⟨F.len, fun A outer s H args us vs Q E hg hr => F.run A outer s H args us vs Q E hg (hr.mono h)⟩
theorem fnG_of {name qual : Str} {params : Arguments} {body : List Stmt} {scope : Scope} {dV kV doc pm cdv ct oc : Value} {an od : Option Addr} {osl : Array (Option Value)} {N : List Str}
    (lk : K.lookup f = some ⟨oc, od, .func (PySem.W.fnOf name qual params body scope dV kV doc pm an cdv ct), osl⟩) (hcode : PySem.W.codeIn K cdv qual = true) (sc : FnScope N ps scope) (hlen : ∀ vs H Q E, sp vs H Q E → vs.length = ps.length)
    (hb0 : ∀ (A : Around) (outer : List Env) (s : Shared) (H : Hp) (vs : List V) (Q : VK) (E : XK), A.guards = some [] → Room k (A.deeper (envOfC qual scope s.heap.objs.size f cdv)) → sp vs H Q E →
      ∃ t, PSs (cxOf CX P w K mg base N qual scope f cdv A outer s H E) body t ∧ t { nx := fun _ H' => Q .non H', rt := Q } (L2.start N vs) H) : FnG P w K mg base CX (k + 1) f (PySem.W.fnOf name qual params body scope dV kV doc pm an cdv ct) ps sp := by
  constructor
  · exact hlen
  intro A outer s H args us vs Q E hgd room env bind rel prom
  have inK : K.In s.heap := env.mod.kin.keeps (fun b o e => (env.bs b o e).1)
  have noLim : s.heap.NoLimit := env.mod.nolimit.keeps (fun b o e => (env.bs b o e).1)
  have kinds : ∀ y ∈ ps.zip us, scope.names.lookup y.1 = some .local ∨ (scope.names.lookup y.1 = some .cell ∧ ((cellsFrom (s.heap.objs.size + 1) scope.names []).lookup y.1).isSome = true) := by
    rintro ⟨n, v⟩ hy
    rcases sc.par n (List.of_mem_zip hy).1 with loc | cel
    · exact Or.inl loc
    · exact Or.inr ⟨cel, PySem.W.cellsFrom_some _ _ _ (Or.inl cel)⟩
  refine codeAny_call_function room.depth (inK _ _ lk) rfl sc.co sc.gen rfl (PySem.W.codeRec_of inK hcode) (bind _ _ _ _ ?_)
  refine wpAny_newFunctionEnv_cells sc.kind kinds (fun env' he s1 inCall => ?_)
  subst he
  refine ⟨noLim.keeps inCall.toInCall.keep, codeAny_func ?_⟩
  obtain ⟨t, ht, hq⟩ := hb0 A outer s H vs Q E hgd (room.deeper _) prom
  have I0 : Inv (cxOf CX P w K mg base N qual scope f cdv A outer s H E) [] (L2.start N vs) H s1 := inv_start sc room.hd env (hlen vs H Q E prom) rel inCall
  refine wpAny_mono (ht.run [] s1 (L2.start N vs) H _ I0 hq) (fun fl s' hs => ?_) (fun _ _ hs => hs)
  cases fl with
  | ret u =>
    obtain ⟨v, σ', H', J, rv, q⟩ := hs
    exact ⟨v, H', J.os, J.bare, J.base, J.hok, rv, q⟩
  | next =>
    obtain ⟨σ', H', J, q⟩ := hs
    exact ⟨V.non, H', J.os, J.bare, J.base, J.hok, rfl, q⟩
  | brk => obtain ⟨_, _, _, q⟩ := hs; exact False.elim q
  | cont => obtain ⟨_, _, _, q⟩ := hs; exact False.elim q
end
section
variable {X : Cx} {CX : CXT} {k : Nat} {f : Addr} {fd : FuncData} {ps : List Str} {sp : Sp} {E : XK} {x : Str} {p pos : Pos} {e : Expr} {es : List Expr} {t : TA}
theorem pe_callG (G : FnG X.prog X.w X.K X.mg X.base CX k f fd ps sp) (hgd : X.A.guards = some []) (hr : Room k X.A) (hg : Gl X x) (hm : X.mg x = some (.ref f)) (hk : PySem.W.keepIn X.K (.ref f) = true) (hb : Binds X.K fd ps []) (hx : Passes CX X E)
    (ha : PA X (e :: es) t) (hdb : (x == ("__debug__" : Str)) = false := by decide) (he : starEach (e :: es) X.env = (false, eval e X.env) :: starEach es X.env := by rfl) (hpl : (backTo pos (starEach es X.env)).any (·.1) = false := by rfl) :
    PE X (.Call (.Name x p) (e :: es) [] pos) (fun σ H Q => t σ H fun vs H1 => sp vs H1 Q E) := by
  refine ⟨fun pins s σ H Q I h => wpAny_Call_Name_kw (ld_glob I hg hm ?_ hdb)⟩
  refine PySem.W.callWith_K (h₀ := X.base) I.ok.mod.kin hk (thn (ha.run pos pins s σ H _ I h) fun us s1 ⟨vs, H1, I1, r, q⟩ => ⟨I1.kIn, ?_⟩) he hpl
  have hl : (us ++ []).length = ps.length := by rw [List.append_nil, ← r.length]; exact G.len _ _ _ _ q
  have hb' := hb s1 us I1.kIn hl
  rw [List.append_nil] at hb'
  refine wpAny_call (codeAny_mono (G.run X.A X.stack s1 H1 ⟨us, []⟩ us vs Q E hgd hr I1.env0 hb' r q) fun r' s' hq => ?_)
  cases r' with
  | error er => exact hx pins σ H1 s1 er s' I1 hq
  | ok fl =>
    cases fl with
    | ret u => exact I1.after hq
    | next => exact False.elim hq
    | brk => exact False.elim hq
    | cont => exact False.elim hq
end
end Lw
namespace Lw
open PySem PySem.Spec PyProof.Rows L2
abbrev Fsem := List S → Option (R × List S)
structure ArgsOk (K : PySem.W.Frag) (ss : List S) (G : Hp) (vs : List V) (H : Hp) : Prop where
  len : vs.length = ss.length
  sub : Same G H
  pu : ∀ (i : Nat) d, ss[i]? = some (.pure d) → ∃ v, vs[i]? = some v ∧ Dp K G v d
  ow : ∀ (i : Nat) b ds, ss[i]? = some (.own b ds) → b = true ∧ ∃ a xs, vs[i]? = some (.ref a) ∧ H a = some (.lst xs) ∧ G a = none ∧ DpAll K G xs ds
  ap : ∀ (i j : Nat) b c ds es a, ss[i]? = some (.own b ds) → ss[j]? = some (.own c es) → vs[i]? = some (.ref a) → vs[j]? = some (.ref a) → i = j
def RepOut (K : PySem.W.Frag) (H G' H' : Hp) : R → V → Prop
  | .pure d, v => Dp K G' v d
  | .fresh ds, v => ∃ a xs, v = .ref a ∧ H' a = some (.lst xs) ∧ G' a = none ∧ DpAll K G' xs ds ∧ H a = none
  | .ref _, _ => False
structure RetOk (K : PySem.W.Frag) (ss : List S) (G : Hp) (vs : List V) (H : Hp) (r : R) (outs : List S) (v : V) (H' G' : Hp) : Prop where
  same : Same G G'
  sub : Same G' H'
  nw : ∀ a, G' a ≠ none → G a ≠ none ∨ H a = none
  fr : ∀ a o, H a = some o → (∀ (i : Nat) b ds, ss[i]? = some (.own b ds) → vs[i]? ≠ some (.ref a)) → H' a = some o
  ow : ∀ (i : Nat) b ds a, ss[i]? = some (.own b ds) → vs[i]? = some (.ref a) → ∃ ds' xs', outs[i]? = some (.own true ds') ∧ H' a = some (.lst xs') ∧ G' a = none ∧ DpAll K G' xs' ds'
  rep : RepOut K H G' H' r v
def spF (K : PySem.W.Frag) (n : Nat) (m : Fsem) : Sp := fun vs H Q _ => ∃ ss G, ss.length = n ∧ ArgsOk K ss G vs H ∧ ∃ r outs, m ss = some (r, outs) ∧ ∀ v H' G', RetOk K ss G vs H r outs v H' G' → Q v H'
/-! ### the call -/
def argS : List Ar → En → Option (List S)
  | [], _ => some []
  | .val d :: as, ς => match argS as ς with
    | some ss => some (.pure d :: ss)
    | none => none
  | .ref i :: as, ς => match ς[i]?, argS as ς with
    | some (some (.own _ ds)), some ss => some (.own true ds :: ss)
    | some (some (.pure d)), some ss => some (.pure d :: ss)
    | _, _ => none
def setOwn (ς : En) (i : Nat) (ds : List D) : En := match ς[i]? with
  | some (some (.own b _)) => ς.set i (some (.own b ds))
  | _ => ς
def putBack : List Ar → List S → En → En
  | .ref i :: as, .own _ ds :: os, ς => putBack as os (setOwn ς i ds)
  | _ :: as, _ :: os, ς => putBack as os ς
  | _, _, ς => ς
def refsOf : List Ar → List Nat
  | [] => []
  | .val _ :: as => refsOf as
  | .ref i :: as => i :: refsOf as
def callE (m : Fsem) (ga : M (List Ar)) : M R := bd ga fun as => fun ς => match argS as ς with
  | some ss => match m ss with
    | some (.ref _, _) => none
    | some (r, outs) => if (refsOf as).Nodup then some (r, putBack as outs ς) else none
    | none => none
  | none => none
theorem argS_len : ∀ {as : List Ar} {ς : En} {ss : List S}, argS as ς = some ss → ss.length = as.length
  | [], _, _, e => by cases e; rfl
  | .val d :: as, ς, ss, e => by
    unfold argS at e
    split at e
    · rename_i ss' q; cases e; rw [List.length_cons, List.length_cons, argS_len q]
    · cases e
  | .ref i :: as, ς, ss, e => by
    unfold argS at e
    split at e
    · rename_i q; cases e; rw [List.length_cons, List.length_cons, argS_len q]
    · rename_i q; cases e; rw [List.length_cons, List.length_cons, argS_len q]
    · cases e
theorem argS_get : ∀ {as : List Ar} {ς : En} {ss : List S} {k : Nat} {s : S}, argS as ς = some ss → ss[k]? = some s →
    (∃ d, as[k]? = some (.val d) ∧ s = .pure d) ∨ ∃ j, as[k]? = some (.ref j) ∧ ((∃ b ds, ς[j]? = some (some (.own b ds)) ∧ s = .own true ds) ∨ ∃ d, ς[j]? = some (some (.pure d)) ∧ s = .pure d)
  | [], _, _, _, _, e, h => by cases e; cases h
  | .val d :: as, ς, ss, k, s, e, h => by
    unfold argS at e
    split at e
    · rename_i ss' q
      cases e
      cases k with
      | zero => cases h; exact .inl ⟨d, rfl, rfl⟩
      | succ k =>
        have h' := argS_get (k := k) (s := s) q (by simpa using h)
        simpa using h'
    · cases e
  | .ref i :: as, ς, ss, k, s, e, h => by
    unfold argS at e
    split at e
    · rename_i b ds ss' q1 q
      cases e
      cases k with
      | zero => cases h; exact .inr ⟨i, rfl, .inl ⟨b, ds, q1, rfl⟩⟩
      | succ k =>
        have h' := argS_get (k := k) (s := s) q (by simpa using h)
        simpa using h'
    · rename_i d ss' q1 q
      cases e
      cases k with
      | zero => cases h; exact .inr ⟨i, rfl, .inr ⟨d, q1, rfl⟩⟩
      | succ k =>
        have h' := argS_get (k := k) (s := s) q (by simpa using h)
        simpa using h'
    · cases e
theorem argS_at : ∀ {as : List Ar} {ς : En} {ss : List S} {k j : Nat} {b : Bool} {ds : List D}, argS as ς = some ss → as[k]? = some (.ref j) → ς[j]? = some (some (.own b ds)) → ss[k]? = some (.own true ds)
  | [], _, _, _, _, _, _, e, h, _ => by cases h
  | .val d :: as, ς, ss, k, j, b, ds, e, h, hj => by
    unfold argS at e
    split at e
    · rename_i ss' q
      cases e
      cases k with
      | zero => cases h
      | succ k =>
        have h' := argS_at (k := k) q (by simpa using h) hj
        simpa using h'
    · cases e
  | .ref i :: as, ς, ss, k, j, b, ds, e, h, hj => by
    unfold argS at e
    split at e
    · rename_i b' ds' ss' q1 q
      cases e
      cases k with
      | zero =>
        cases h
        rw [hj] at q1
        cases q1
        rfl
      | succ k =>
        have h' := argS_at (k := k) q (by simpa using h) hj
        simpa using h'
    · rename_i d ss' q1 q
      cases e
      cases k with
      | zero =>
        cases h
        rw [hj] at q1
        cases q1
      | succ k =>
        have h' := argS_at (k := k) q (by simpa using h) hj
        simpa using h'
    · cases e
theorem paired_get {α β : Type} {Rr : α → β → Prop} : ∀ {as : List α} {bs : List β} {k : Nat} {x : α}, Paired Rr as bs → as[k]? = some x → ∃ y, bs[k]? = some y ∧ Rr x y
  | _, _, _, _, .nil, e => by simp at e
  | _, _, 0, _, .cons h _, e => by simp at e; subst e; exact ⟨_, rfl, h⟩
  | _, _, k + 1, x, .cons _ t, e => by
    obtain ⟨y, h1, h2⟩ := paired_get (k := k) (x := x) t (by simpa using e)
    exact ⟨y, by simpa using h1, h2⟩
theorem paired_len {α β : Type} {Rr : α → β → Prop} : ∀ {as : List α} {bs : List β}, Paired Rr as bs → as.length = bs.length
  | _, _, .nil => rfl
  | _, _, .cons _ t => by rw [List.length_cons, List.length_cons, paired_len t]
theorem refs_mem : ∀ {as : List Ar} {k j : Nat}, as[k]? = some (.ref j) → j ∈ refsOf as
  | [], _, _, h => by cases h
  | .val d :: as, 0, j, h => by cases h
  | .val d :: as, k + 1, j, h => refs_mem (as := as) (k := k) h
  | .ref i :: as, 0, j, h => by cases h; exact List.mem_cons_self
  | .ref i :: as, k + 1, j, h => List.mem_cons_of_mem _ (refs_mem (as := as) (k := k) h)
theorem mem_refs : ∀ {as : List Ar} {j : Nat}, j ∈ refsOf as → ∃ k : Nat, as[k]? = some (.ref j)
  | [], _, h => by cases h
  | .val d :: as, j, h => by obtain ⟨k, e⟩ := mem_refs (as := as) h; exact ⟨k + 1, e⟩
  | .ref i :: as, j, h => by
    rcases List.mem_cons.mp h with rfl | h
    · exact ⟨0, rfl⟩
    · obtain ⟨k, e⟩ := mem_refs (as := as) h; exact ⟨k + 1, e⟩
theorem setOwn_len (ς : En) (i : Nat) (ds : List D) : (setOwn ς i ds).length = ς.length := by
  unfold setOwn; split
  · rw [List.length_set]
  · rfl
theorem pb_nil (os : List S) (ς : En) : putBack [] os ς = ς := by cases os <;> rfl
theorem pb_nil2 (a : Ar) (as : List Ar) (ς : En) : putBack (a :: as) [] ς = ς := by cases a <;> rfl
theorem pb_val (d : D) (as : List Ar) (o : S) (os : List S) (ς : En) : putBack (.val d :: as) (o :: os) ς = putBack as os ς := by cases o <;> rfl
theorem pb_own (i : Nat) (as : List Ar) (b : Bool) (ds : List D) (os : List S) (ς : En) : putBack (.ref i :: as) (.own b ds :: os) ς = putBack as os (setOwn ς i ds) := rfl
theorem pb_pure (i : Nat) (as : List Ar) (d : D) (os : List S) (ς : En) : putBack (.ref i :: as) (.pure d :: os) ς = putBack as os ς := rfl
theorem putBack_len : ∀ (as : List Ar) (os : List S) (ς : En), (putBack as os ς).length = ς.length
  | [], _, ς => by rw [pb_nil]
  | a :: as, [], ς => by rw [pb_nil2]
  | .val d :: as, o :: os, ς => by rw [pb_val]; exact putBack_len as os ς
  | .ref i :: as, .own b ds :: os, ς => by rw [pb_own, putBack_len as os, setOwn_len]
  | .ref i :: as, .pure d :: os, ς => by rw [pb_pure]; exact putBack_len as os ς
theorem setOwn_ne {ς : En} {i j : Nat} {ds : List D} (h : i ≠ j) : (setOwn ς i ds)[j]? = ς[j]? := by
  unfold setOwn; split
  · rw [List.getElem?_set_ne h]
  · rfl
theorem setOwn_own {ς : En} {i : Nat} {b : Bool} {ds es : List D} (h : ς[i]? = some (some (.own b es))) : (setOwn ς i ds)[i]? = some (some (.own b ds)) := by
  unfold setOwn
  rw [h]
  exact List.getElem?_set_self (List.getElem?_eq_some_iff.mp h).1
theorem setOwn_not {ς : En} {i : Nat} {ds : List D} (h : ∀ b es, ς[i]? ≠ some (some (.own b es))) : setOwn ς i ds = ς := by
  unfold setOwn; split
  · rename_i b es q; exact absurd q (h b es)
  · rfl
/-- a slot that no argument is -/
theorem putBack_ne : ∀ {as : List Ar} {os : List S} {ς : En} {j : Nat}, j ∉ refsOf as → (putBack as os ς)[j]? = ς[j]?
  | [], _, ς, j, _ => by rw [pb_nil]
  | a :: as, [], ς, j, _ => by rw [pb_nil2]
  | .val d :: as, o :: os, ς, j, h => by rw [pb_val]; exact putBack_ne (as := as) h
  | .ref i :: as, .own b ds :: os, ς, j, h => by
    have h' : j ≠ i ∧ j ∉ refsOf as := ⟨fun z => h (by rw [z]; exact List.mem_cons_self), fun z => h (List.mem_cons_of_mem _ z)⟩
    rw [pb_own, putBack_ne h'.2, setOwn_ne (Ne.symm h'.1)]
  | .ref i :: as, .pure d :: os, ς, j, h => by
    have h' : j ∉ refsOf as := fun z => h (List.mem_cons_of_mem _ z)
    rw [pb_pure]; exact putBack_ne h'
/-- a slot without an own list stays -/
theorem putBack_not : ∀ {as : List Ar} {os : List S} {ς : En} {j : Nat}, (∀ b es, ς[j]? ≠ some (some (.own b es))) → (putBack as os ς)[j]? = ς[j]?
  | [], _, ς, j, _ => by rw [pb_nil]
  | a :: as, [], ς, j, _ => by rw [pb_nil2]
  | .val d :: as, o :: os, ς, j, h => by rw [pb_val]; exact putBack_not (as := as) h
  | .ref i :: as, .own b ds :: os, ς, j, h => by
    by_cases e : i = j
    · subst e
      rw [pb_own, setOwn_not h]
      exact putBack_not (as := as) h
    · have e2 := setOwn_ne (ς := ς) (ds := ds) e
      rw [pb_own, putBack_not (as := as) (by rw [e2]; exact h), e2]
  | .ref i :: as, .pure d :: os, ς, j, h => by rw [pb_pure]; exact putBack_not (as := as) h
theorem putBack_at : ∀ {as : List Ar} {os : List S} {ς : En} {k j : Nat} {b c : Bool} {ds es : List D}, (refsOf as).Nodup → as[k]? = some (.ref j) → os[k]? = some (.own c ds) → ς[j]? = some (some (.own b es)) → (putBack as os ς)[j]? = some (some (.own b ds))
  | [], _, _, _, _, _, _, _, _, _, h, _, _ => by cases h
  | _ :: _, [], _, _, _, _, _, _, _, _, _, h, _ => by cases h
  | .val d :: as, o :: os, ς, k, j, b, c, ds, es, nd, h1, h2, h3 => by
    cases k with
    | zero => cases h1
    | succ k => rw [pb_val]; exact putBack_at (as := as) (k := k) nd (by simpa using h1) (by simpa using h2) h3
  | .ref i :: as, .pure d :: os, ς, k, j, b, c, ds, es, nd, h1, h2, h3 => by
    cases k with
    | zero => cases h2
    | succ k => rw [pb_pure]; exact putBack_at (as := as) (k := k) (List.nodup_cons.mp nd).2 (by simpa using h1) (by simpa using h2) h3
  | .ref i :: as, .own b' ds' :: os, ς, k, j, b, c, ds, es, nd, h1, h2, h3 => by
    have nd' := List.nodup_cons.mp nd
    cases k with
    | zero =>
      cases h1; cases h2
      rw [pb_own, putBack_ne nd'.1, setOwn_own h3]
    | succ k =>
      have h1' : as[k]? = some (.ref j) := by simpa using h1
      have ne : i ≠ j := fun z => nd'.1 (by rw [z]; exact refs_mem (as := as) (k := k) h1')
      rw [pb_own]
      exact putBack_at (k := k) nd'.2 h1' (by simpa using h2) (by rw [setOwn_ne ne]; exact h3)
theorem putBack_is {j : Nat} {c : Bool} : ∀ (as : List Ar) (os : List S) (ς : En) (es : List D), ς[j]? = some (some (.own c es)) → ∃ es', (putBack as os ς)[j]? = some (some (.own c es'))
  | [], _, ς, es, h => by rw [pb_nil]; exact ⟨es, h⟩
  | a :: as, [], ς, es, h => by rw [pb_nil2]; exact ⟨es, h⟩
  | .val d :: as, o :: os, ς, es, h => by rw [pb_val]; exact putBack_is as os ς es h
  | .ref i :: as, .pure d :: os, ς, es, h => by rw [pb_pure]; exact putBack_is as os ς es h
  | .ref i :: as, .own b' ds' :: os, ς, es, h => by
    rw [pb_own]
    by_cases e : i = j
    · subst e; exact putBack_is as os _ ds' (setOwn_own h)
    · exact putBack_is as os _ es (by rw [setOwn_ne e]; exact h)
theorem putBack_own {as : List Ar} {os : List S} {ς : En} {j : Nat} {b : Bool} {ds : List D} (h : (putBack as os ς)[j]? = some (some (.own b ds))) : ∃ es, ς[j]? = some (some (.own b es)) := by
  by_cases q : ∃ c es, ς[j]? = some (some (.own c es))
  · obtain ⟨c, es, hq⟩ := q
    obtain ⟨es', e'⟩ := putBack_is as os ς es hq
    rw [h] at e'
    cases e'
    exact ⟨es, hq⟩
  · rw [putBack_not (fun c es z => q ⟨c, es, z⟩)] at h
    exact ⟨ds, h⟩
section
variable {K : PySem.W.Frag} {F : Fx} {ς : En} {G H G' H' : Hp} {σ : L2.St}
theorem Rel.args (r : Rel K F ς G σ H) {as : List Ar} {ss : List S} {vs : List V} (e : argS as ς = some ss) (ps : Paired (RepAr K G σ) as vs) (nd : (refsOf as).Nodup) : ArgsOk K ss G vs H where
  len := by rw [argS_len e, paired_len ps]
  sub := r.sub
  pu := fun i d h => by
    rcases argS_get e h with ⟨d', h1, h2⟩ | ⟨j, h1, ⟨b, ds, h2, h3⟩ | ⟨d', h2, h3⟩⟩
    · cases h2
      obtain ⟨v, k1, k2⟩ := paired_get ps h1
      exact ⟨v, k1, k2⟩
    · cases h3
    · cases h3
      obtain ⟨v, k1, k2⟩ := paired_get ps h1
      obtain ⟨w, k3, k4⟩ := r.pu j d h2
      rw [show σ[j]? = some (some v) from k2] at k3
      cases k3
      exact ⟨v, k1, k4⟩
  ow := fun i b ds h => by
    rcases argS_get e h with ⟨d', h1, h2⟩ | ⟨j, h1, ⟨b', ds', h2, h3⟩ | ⟨d', h2, h3⟩⟩
    · cases h2
    · cases h3
      obtain ⟨v, k1, k2⟩ := paired_get ps h1
      obtain ⟨a, xs, f1, f2, f3, f4, _⟩ := r.ow j b' ds h2
      rw [show σ[j]? = some (some v) from k2] at f1
      cases f1
      exact ⟨rfl, a, xs, k1, f2, f3, f4⟩
    · cases h3
  ap := fun i j b c ds es a h1 h2 h3 h4 => by
    rcases argS_get e h1 with ⟨d', _, q⟩ | ⟨m, g1, ⟨b', ds', g2, g3⟩ | ⟨d', _, q⟩⟩
    · cases q
    · rcases argS_get e h2 with ⟨d', _, q⟩ | ⟨n, g4, ⟨c', es', g5, g6⟩ | ⟨d', _, q⟩⟩
      · cases q
      · obtain ⟨v, k1, k2⟩ := paired_get ps g1
        obtain ⟨w, k3, k4⟩ := paired_get ps g4
        rw [h3] at k1; cases k1
        rw [h4] at k3; cases k3
        have emn := r.ap m n b' c' ds' es' a g2 g5 k2 k4
        subst emn
        have : ∀ (as : List Ar), (refsOf as).Nodup → ∀ (i j : Nat), as[i]? = some (.ref m) → as[j]? = some (.ref m) → i = j := by
          intro as
          induction as with
          | nil => intro _ i j h; cases h
          | cons x as ih =>
            intro nd i j hi hj
            cases x with
            | val d =>
              cases i with
              | zero => cases hi
              | succ i =>
                cases j with
                | zero => cases hj
                | succ j => rw [ih nd i j hi hj]
            | ref l =>
              have nd' := List.nodup_cons.mp nd
              cases i with
              | zero =>
                cases j with
                | zero => rfl
                | succ j => cases hi; exact absurd (refs_mem (as := as) (k := j) hj) nd'.1
              | succ i =>
                cases j with
                | zero => cases hj; exact absurd (refs_mem (as := as) (k := i) hi) nd'.1
                | succ j => rw [ih nd'.2 i j hi hj]
        exact this as nd i j g1 g4
      · cases q
    · cases q
theorem Rel.called (r : Rel K F ς G σ H) {as : List Ar} {ss outs : List S} {vs : List V} {res : R} {v : V} (e : argS as ς = some ss) (ps : Paired (RepAr K G σ) as vs) (nd : (refsOf as).Nodup) (t : RetOk K ss G vs H res outs v H' G') :
    Rel K F (putBack as outs ς) G' σ H' := by
  -- an own slot's list is not an argument's, unless it is that argument
  have away : ∀ (j : Nat) b ds a, ς[j]? = some (some (.own b ds)) → σ[j]? = some (some (.ref a)) → j ∉ refsOf as → ∀ (i : Nat) c es, ss[i]? = some (.own c es) → vs[i]? ≠ some (.ref a) := by
    intro j b ds a h1 h2 h3 i c es h4 h5
    rcases argS_get e h4 with ⟨d', _, q⟩ | ⟨m, g1, ⟨b', ds', g2, g3⟩ | ⟨d', _, q⟩⟩
    · cases q
    · obtain ⟨w, k1, k2⟩ := paired_get ps g1
      rw [h5] at k1; cases k1
      have := r.ap m j b' b ds' ds a g2 h1 k2 h2
      subst this
      exact h3 (refs_mem g1)
    · cases q
  refine ⟨by rw [putBack_len, r.len], t.sub, r.g0.trans t.same, ?_, ?_, ?_, ?_, ?_, ?_⟩
  · intro i d h
    have h' : ς[i]? = some (some (.pure d)) := by
      by_cases q : ∃ c es, ς[i]? = some (some (.own c es))
      · obtain ⟨c, es, hq⟩ := q
        exfalso
        by_cases hm : i ∈ refsOf as
        · obtain ⟨kk, hk⟩ := mem_refs hm
          have hs := argS_at e hk hq
          obtain ⟨v', k1, k2⟩ := paired_get ps hk
          obtain ⟨a, xs, f1, _⟩ := r.ow i c es hq
          rw [show σ[i]? = some (some v') from k2] at f1
          cases f1
          obtain ⟨ds', xs', o1, _⟩ := t.ow kk true es a hs k1
          rw [putBack_at nd hk o1 hq] at h
          cases h
        · rw [putBack_ne hm, hq] at h; cases h
      · rw [putBack_not (fun c es z => q ⟨c, es, z⟩)] at h; exact h
    obtain ⟨w, h1, h2⟩ := r.pu i d h'
    exact ⟨w, h1, dp_same t.same h2⟩
  · intro i b ds h
    obtain ⟨es, hq⟩ := putBack_own h
    obtain ⟨a, xs, f1, f2, f3, f4, f5⟩ := r.ow i b es hq
    by_cases hm : i ∈ refsOf as
    · obtain ⟨kk, hk⟩ := mem_refs hm
      have hs := argS_at e hk hq
      obtain ⟨v', k1, k2⟩ := paired_get ps hk
      rw [show σ[i]? = some (some v') from k2] at f1
      cases f1
      obtain ⟨ds', xs', o1, o2, o3, o4⟩ := t.ow kk true es a hs k1
      rw [putBack_at nd hk o1 hq] at h
      cases h
      exact ⟨a, xs', k2, o2, o3, o4, f5⟩
    · rw [putBack_ne hm, hq] at h
      cases h
      refine ⟨a, xs, f1, t.fr a _ f2 (away i b ds a hq f1 hm), ?_, dpa_same t.same f4, f5⟩
      cases z : G' a with
      | none => rfl
      | some y =>
        rcases t.nw a (by rw [z]; simp) with w | w
        · exact absurd f3 w
        · rw [f2] at w; cases w
  · intro i j b c ds es a h1 h2 h3 h4
    obtain ⟨_, q1⟩ := putBack_own h1
    obtain ⟨_, q2⟩ := putBack_own h2
    exact r.ap i j b c _ _ a q1 q2 h3 h4
  · intro i a h
    obtain ⟨ds, hq⟩ := r.par i a h
    by_cases hm : i ∈ refsOf as
    · obtain ⟨kk, hk⟩ := mem_refs hm
      have hs := argS_at e hk hq
      obtain ⟨v', k1, k2⟩ := paired_get ps hk
      obtain ⟨a', xs, f1, _⟩ := r.ow i true ds hq
      rw [show σ[i]? = some (some v') from k2] at f1
      cases f1
      obtain ⟨ds', xs', o1, _⟩ := t.ow kk true ds a' hs k1
      exact ⟨ds', putBack_at nd hk o1 hq⟩
    · exact ⟨ds, by rw [putBack_ne hm]; exact hq⟩
  · intro a o h na
    refine t.fr a o (r.fr a o h na) fun i c es h4 h5 => ?_
    rcases argS_get e h4 with ⟨d', _, q⟩ | ⟨m, g1, ⟨b', ds', g2, g3⟩ | ⟨d', _, q⟩⟩
    · cases q
    · obtain ⟨w, k1, k2⟩ := paired_get ps g1
      rw [h5] at k1; cases k1
      obtain ⟨a', xs, f1, _, _, _, f5, f6⟩ := r.ow m b' ds' g2
      rw [show σ[m]? = some (some (.ref a)) from k2] at f1
      cases f1
      cases b' with
      | true => exact na m (f5 rfl)
      | false => rw [f6 rfl] at h; cases h
    · cases q
  · intro a h
    rcases t.nw a h with w | w
    · exact r.nw a w
    · exact .inr (r.new w)
end
section
variable {X : Cx} {CX : CXT} {k n : Nat} {f : Addr} {fd : FuncData} {ps : List Str} {E : XK} {x : Str} {p pos : Pos} {e : Expr} {es : List Expr} {m : Fsem} {ga : M (List Ar)}
theorem d_call (G : FnG X.prog X.w X.K X.mg X.base CX k f fd ps (spF X.K n m)) (hgd : X.A.guards = some []) (hr : Room k X.A) (hg : Gl X x) (hm : X.mg x = some (.ref f)) (hk : PySem.W.keepIn X.K (.ref f) = true) (hb : Binds X.K fd ps []) (hx : Passes CX X E) (hn : (e :: es).length = n)
    (ha : PAd X (e :: es) ga) (hla : ∀ ς as ς', ga ς = some (as, ς') → as.length = (e :: es).length) (hdb : (x == ("__debug__" : Str)) = false := by decide) (he : starEach (e :: es) X.env = (false, eval e X.env) :: starEach es X.env := by rfl) (hpl : (backTo pos (starEach es X.env)).any (·.1) = false := by rfl) :
    PEd X (.Call (.Name x p) (e :: es) [] pos) (callE m ga) := fun F => PE.mono (pe_callG G hgd hr hg hm hk hb hx (ha F) hdb he hpl) fun σ H Q hq => by
  obtain ⟨ς, G, rl, r, ς', e', k⟩ := hq
  obtain ⟨as, ς1, e1, q1⟩ := bd_some e'
  refine ⟨ς, G, rl, as, ς1, e1, fun vs H1 G1 rl1 s1 pr => ?_⟩
  split at q1
  · rename_i ss q2
    split at q1
    · cases q1
    · rename_i r' outs hne q3
      split at q1
      · rename_i nd
        cases q1
        refine ⟨ss, G1, by rw [argS_len q2, hla _ _ _ e1, hn], rl1.args q2 pr nd, r, outs, q3, fun v H' G' t => k v H' G' (rl1.called q2 pr nd t) (s1.trans t.same) ?_⟩
        cases r with
        | pure d => exact t.rep
        | ref i => exact t.rep.elim
        | fresh ds =>
          obtain ⟨a, xs, rfl, h1, h2, h3, h4⟩ := t.rep
          refine ⟨a, xs, rfl, h1, h2, h3, rl1.new h4, fun i b es z1 z2 => ?_⟩
          obtain ⟨es', hq⟩ := putBack_own z1
          obtain ⟨a', _, f1, f2, _⟩ := rl1.ow i b es' hq
          rw [z2] at f1; cases f1
          rw [h4] at f2; cases f2
      · cases q1
    · cases q1
  · cases q1
end
theorem argN_len {ς : En} {as : List Ar} {ς' : En} (h : argN ς = some (as, ς')) : as.length = 0 := by cases h; rfl
theorem argV_len {f : M R} {g : M (List Ar)} {n : Nat} (hg : ∀ ς as ς', g ς = some (as, ς') → as.length = n) : ∀ ς as ς', argV f g ς = some (as, ς') → as.length = n + 1 := fun ς as ς' h => by
  obtain ⟨d, ς1, _, q⟩ := bd_some h
  obtain ⟨as', ς2, e2, q2⟩ := bd_some q
  cases q2
  rw [List.length_cons, hg _ _ _ e2]
theorem argR_len {f : M R} {g : M (List Ar)} {n : Nat} (hg : ∀ ς as ς', g ς = some (as, ς') → as.length = n) : ∀ ς as ς', argR f g ς = some (as, ς') → as.length = n + 1 := fun ς as ς' h => by
  obtain ⟨d, ς1, _, q⟩ := bd_some h
  cases d with
  | ref i =>
    obtain ⟨as', ς2, e2, q2⟩ := bd_some q
    cases q2
    rw [List.length_cons, hg _ _ _ e2]
  | _ => cases q
/-! ### the def -/
def ent (n : Nat) (ss : List S) : En := ss.map some ++ List.replicate (n - ss.length) none
def outsOf (ς : En) (k : Nat) : List S := (ς.take k).map fun o => o.getD (.pure .none)
def runFn (g : MS) (n : Nat) : Fsem := fun ss => match g (ent n ss) with
  | some (.rt (.ref _) _) => none
  | some (.rt r ς) => some (r, outsOf ς ss.length)
  | some (.nx ς) => some (.pure .none, outsOf ς ss.length)
  | _ => none
def fxOf (ss : List S) (vs : List V) (G H : Hp) : Fx where
  A := fun i => match ss[i]?, vs[i]? with
    | some (.own _ _), some (.ref a) => some a
    | _, _ => none
  G0 := G
  H0 := H
theorem ent_get {n : Nat} {ss : List S} {i : Nat} {s : S} (h : (ent n ss)[i]? = some (some s)) : ss[i]? = some s := by
  unfold ent at h
  by_cases hi : i < ss.length
  · rw [List.getElem?_append_left (by simpa using hi), List.getElem?_map] at h
    cases q : ss[i]? with
    | none => rw [q] at h; cases h
    | some z => rw [q] at h; cases h; rfl
  · rw [List.getElem?_append_right (by simpa using hi), List.getElem?_replicate] at h
    split at h <;> cases h
theorem ent_of {n : Nat} {ss : List S} {i : Nat} {s : S} (h : ss[i]? = some s) : (ent n ss)[i]? = some (some s) := by
  unfold ent
  have hi := (List.getElem?_eq_some_iff.mp h).1
  rw [List.getElem?_append_left (by simpa using hi), List.getElem?_map, h]
  rfl
theorem start_of {N : List Str} {vs : List V} {i : Nat} {v : V} (h : vs[i]? = some v) : (L2.start N vs)[i]? = some (some v) := by
  unfold L2.start
  have hi := (List.getElem?_eq_some_iff.mp h).1
  rw [List.getElem?_append_left (by simpa using hi), List.getElem?_map, h]
  rfl
theorem start_get {N : List Str} {vs : List V} {i : Nat} {v : V} (h : (L2.start N vs)[i]? = some (some v)) : vs[i]? = some v := by
  unfold L2.start at h
  by_cases hi : i < vs.length
  · rw [List.getElem?_append_left (by simpa using hi), List.getElem?_map] at h
    cases q : vs[i]? with
    | none => rw [q] at h; cases h
    | some z => rw [q] at h; cases h; rfl
  · rw [List.getElem?_append_right (by simpa using hi), List.getElem?_replicate] at h
    split at h <;> cases h
theorem rel_start {K : PySem.W.Frag} {ss : List S} {vs : List V} {G H : Hp} {N : List Str} (a : ArgsOk K ss G vs H) : Rel K (fxOf ss vs G H) (ent N.length ss) G (L2.start N vs) H where
  len := by unfold ent L2.start; simp only [List.length_append, List.length_map, List.length_replicate, a.len]
  sub := a.sub
  g0 := Same.refl _
  pu := fun i d h => by
    obtain ⟨v, h1, h2⟩ := a.pu i d (ent_get h)
    exact ⟨v, start_of h1, h2⟩
  ow := fun i b ds h => by
    have hs := ent_get h
    obtain ⟨rfl, z, xs, h1, h2, h3, h4⟩ := a.ow i b ds hs
    refine ⟨z, xs, start_of h1, h2, h3, h4, fun _ => ?_, fun q => by cases q⟩
    unfold fxOf
    simp only
    rw [hs, h1]
  ap := fun i j b c ds es z h1 h2 h3 h4 => a.ap i j b c ds es z (ent_get h1) (ent_get h2) (start_get h3) (start_get h4)
  par := fun i z h => by
    unfold fxOf at h
    simp only at h
    split at h
    · rename_i b ds a' q1 q2
      obtain ⟨rfl, _⟩ := a.ow i b ds q1
      exact ⟨ds, ent_of q1⟩
    · cases h
  fr := fun z o h _ => h
  nw := fun z h => .inl h
theorem ret_ok {K : PySem.W.Frag} {ss : List S} {vs : List V} {G H G' H' : Hp} {ς' : En} {σ' : L2.St} {r : R} {v : V} (a : ArgsOk K ss G vs H) (rl : Rel K (fxOf ss vs G H) ς' G' σ' H') (s : Same G G') (hr : ∀ i, r ≠ .ref i) (rep : RepR K (fxOf ss vs G H) ς' G' σ' H' r v) :
    RetOk K ss G vs H r (outsOf ς' ss.length) v H' G' where
  same := s
  sub := rl.sub
  nw := rl.nw
  fr := fun z o h na => by
    refine rl.fr z o h fun i q => ?_
    unfold fxOf at q
    simp only at q
    split at q
    · rename_i b ds a' q1 q2
      cases q
      exact na i b ds q1 q2
    · cases q
  ow := fun i b ds z h1 h2 => by
    have hA : (fxOf ss vs G H).A i = some z := by
      unfold fxOf
      simp only
      rw [h1, h2]
    obtain ⟨ds', e⟩ := rl.par i z hA
    obtain ⟨z', xs, f1, f2, f3, f4, f5, _⟩ := rl.ow i true ds' e
    have := f5 rfl
    rw [hA] at this; cases this
    refine ⟨ds', xs, ?_, f2, f3, f4⟩
    have hi := (List.getElem?_eq_some_iff.mp h1).1
    unfold outsOf
    rw [List.getElem?_map, List.getElem?_take_of_lt hi, e]
    rfl
  rep := by
    cases r with
    | pure d => exact rep
    | ref i => exact absurd rfl (hr i)
    | fresh ds =>
      obtain ⟨z, xs, rfl, h1, h2, h3, h4, _⟩ := rep
      exact ⟨z, xs, rfl, h1, h2, h3, h4⟩
theorem fn_body {X : Cx} {n : Nat} {N : List Str} {g : MS} {body : List Stmt} {vs : List V} {H : Hp} {Q : VK} {E : XK} (hb : PSsd X.nox body g) (h : spF X.K n (runFn g N.length) vs H Q E) :
    ∃ t, PSs X body t ∧ t { nx := fun _ H' => Q .non H', rt := Q } (L2.start N vs) H := by
  obtain ⟨ss, G, hl, a, r, outs, e2, q⟩ := h
  refine ⟨_, (hb (fxOf ss vs G H)).nox, ?_⟩
  unfold runFn at e2
  split at e2
  · cases e2
  · rename_i r' ς' hne q2
    cases e2
    exact ⟨ent N.length ss, G, rel_start a, _, q2, fun v σ' H' G' rl s rep => q v H' G' (ret_ok a rl s (fun i z => hne i z) rep)⟩
  · rename_i ς' q2
    cases e2
    exact ⟨ent N.length ss, G, rel_start a, _, q2, fun σ' H' G' rl s => q .non H' G' (ret_ok a rl s (fun i z => by cases z) .non)⟩
  · cases e2
end Lw
namespace Lw
open PySem PySem.Spec PyProof.Rows L2
/-! ### the law's own call -/
theorem law_go {P : Program} {w : World} {K : PySem.W.Frag} {mg mb : Str → Option Value} {k : Nat} {fa a : Addr} {fd : FuncData} {x : Str} {sp : Sp} {s₁ : Shared} {vs : List Value} {ns : List Int}
    (KX : K.In s₁.heap) (hns : s₁.heap.Ns mainGlobals mg) (hb : s₁.heap.Ns builtinsNs mb) (hbb : ∀ x : Str, x ≠ "__name__" → mb x = bootBuiltins x) (hlim : s₁.heap.NoLimit) (hg : s₁.gens = #[])
    (ha : s₁.heap.get? a = some { cls := .type "list", data := .seq vs.toArray }) (hi : IntsAre vs ns) (hl : ns.length ≤ sizeLine) (hr : Room k callerA)
    (F : ∀ base : Heap, K.In base → base.Ns mainGlobals mg → FnG P w K mg base CX0 k fa fd [x] sp) (hbind : ∀ (s : Shared) (u : Value), BindsTo s fd ⟨[u], []⟩ [(x, u)])
    (hsp : ∀ H : Hp, Only H → SqL K H a (ns.map V.int) → sp [.ref a] H (fun v _ => v = .bl true) fun _ _ _ => False) :
    codeAny (model P w) callerA (.call (.ref fa) ⟨[.ref a], []⟩) (fun r s' => r = .ok (.ret (.bool true)) ∧ OldK s₁.heap s'.heap ∧ s'.os = s₁.os ∧ AllBare s'.gens) s₁ := by
  have rv := vals_ints hi
  -- from any picture of the heap that tracks the script alone
  have main : ∀ H : Hp, Only H → SqL K H a (ns.map V.int) → HOk P w H s₁.heap → (∀ b, H b ≠ none → b = a) → (H a ≠ none → K.lookup a = none) →
      codeAny (model P w) callerA (.call (.ref fa) ⟨[.ref a], []⟩) (fun r s' => r = .ok (.ret (.bool true)) ∧ OldK s₁.heap s'.heap ∧ s'.os = s₁.os ∧ AllBare s'.gens) s₁ := by
    intro H hO hS hok hA hK
    have old : ∀ {b : Addr} {o : Obj}, s₁.heap.get? b = some o → H b = none → (hidT s₁.heap H).get? b = some o := fun e n => hidT_get e n
    have dicts : ∀ {b : Addr} {o : Obj} {es : Array DictEntry} {ep : Nat}, s₁.heap.get? b = some o → o.data = .dict es ep → H b = none := by
      intro b o es ep e d
      cases q : H b with
      | none => rfl
      | some u =>
        have e' : b = a := hA b (by rw [q]; simp)
        subst e'
        rw [ha] at e
        cases e
        exact absurd (show Data.seq vs.toArray _ = Data.dict es ep from d) (by intro z; cases z)
    have spaces : ∀ {b : Addr} {m : Str → Option Value}, s₁.heap.Ns b m → (hidT s₁.heap H).Ns b m := by
      rintro b m ⟨o, es, ep, e, d, r⟩
      exact ⟨o, es, ep, old e (dicts e d), d, r⟩
    have hKb : K.In (hidT s₁.heap H) := by
      intro b o e
      refine old (KX b o e) ?_
      cases q : H b with
      | none => rfl
      | some u =>
        have e' : b = a := hA b (by rw [q]; simp)
        subst e'
        rw [hK (by rw [q]; simp)] at e
        cases e
    have hM : Mod K mg (hidT s₁.heap H) := by
      obtain ⟨mc, h1, h2⟩ := hlim
      exact ⟨hKb, spaces hns, ⟨mb, spaces hb, hbb⟩, mc, spaces h1, h2⟩
    have noF : ∀ b : Addr, b ∉ (frs ([] : List Env)) := fun b z => absurd (show b ∈ ([] : List Addr) from z) (by simp)
    have e0 : Env0 P w K mg (hidT s₁.heap H) callerA [] s₁ H := ⟨rfl, hM, fun b o e => of_hidT e, Nat.le_of_eq (hidT_size _ _), trivial, fun b z => absurd z (noF b), hok, .of_eq hg⟩
    refine codeAny_mono ((F _ hKb (spaces hns)).run callerA [] s₁ H ⟨[.ref a], []⟩ [.ref a] [.ref a] _ _ rfl hr e0 (hbind s₁ (.ref a)) (.cons rfl .nil) (hsp H hO hS)) (fun r s' h => ?_)
    cases r with
    | error e => exact False.elim h
    | ok fl =>
      cases fl with
      | next => exact False.elim h
      | brk => exact False.elim h
      | cont => exact False.elim h
      | ret u =>
        obtain ⟨v, H', os, bare, un, hok', r', q⟩ := h
        cases (show v = .bl true from q)
        cases (show u = Value.bool true from r')
        refine ⟨rfl, OldK.of_keep (fun b o e => ?_), os, bare⟩
        cases z0 : H b with
        | none => exact un.keep b o e z0 (noF b) (by simp)
        | some u =>
          rcases hO b with z | ⟨ob, xs, z⟩
          · rw [z0] at z; cases z
          · have z2 := un.frzs b ob _ z
            obtain ⟨e1, _⟩ := hok b _ z
            obtain ⟨e2, _⟩ := hok' b _ z2
            rw [e] at e1
            cases e1
            exact e2
  cases hk : K.lookup a with
  | some o =>
    have e := KX a o hk
    rw [ha] at e
    cases e
    refine main (fun _ => none) (fun _ => Or.inl rfl) (Or.inr ⟨_, vs.toArray, _, hk, rfl, rfl, rfl, ?_, by simpa using rv⟩) (fun b u z => by cases z) (fun b z => absurd rfl z) (fun z => absurd rfl z)
    rw [List.size_toArray, hi.length]
    exact hl
  | none =>
    refine main (fun b => if b = a then some (.frz { cls := .type "list", data := .seq vs.toArray } (.lst (ns.map V.int))) else none) ?_ (Or.inl (Or.inr ⟨{ cls := .type "list", data := .seq vs.toArray }, if_pos rfl⟩)) ?_ ?_ (fun _ => hk)
    · intro b
      by_cases hb : b = a
      · exact Or.inr ⟨_, _, if_pos hb⟩
      · exact Or.inl (if_neg hb)
    · intro b u z
      by_cases hb : b = a
      · have z' := (if_pos hb).symm.trans z
        cases z'
        subst hb
        exact ⟨ha, by rw [List.length_map]; exact hl, vs, _, rv, ha⟩
      · have z' := (if_neg hb).symm.trans z
        cases z'
    · intro b z
      by_cases hb : b = a
      · exact hb
      · exact absurd (if_neg hb) z
/-- what the law must be worth -/
theorem law_sp {K : PySem.W.Frag} {m : Fsem} {H : Hp} {a : Addr} {ns : List Int} (h : ∃ outs, m [.pure (.list (ns.map PyData.int))] = some (.pure (.bool true), outs)) (hS : SqL K H a (ns.map V.int)) : spF K 1 m [.ref a] H (fun v _ => v = .bl true) fun _ _ _ => False := by
  obtain ⟨outs, e⟩ := h
  refine ⟨_, H, rfl, ⟨rfl, Same.refl _, fun i d h => ?_, fun i b ds h => ?_, fun i j b c ds es z h1 _ _ _ => ?_⟩, _, outs, e, fun v H' G' t => dp_bool t.rep⟩
  · cases i with
    | zero => cases h; exact ⟨_, rfl, .lst hS dpa_ints⟩
    | succ i => cases h
  · cases i with
    | zero => cases h
    | succ i => cases h
  · cases i with
    | zero => cases h1
    | succ i => cases h1
end Lw
namespace Lw
open PySem PySem.Spec PyProof.Rows L2
theorem tuple_mul1 (l : Addr) (items : Array Value) (n : Nat) (dd : Option Addr) (sl : Array (Option Value)) (u : Tok) :
    Meets (Builtin.«tuple.__mul__» ⟨[.ref l, .int 1 u], []⟩) (fun _ R s => s.heap.get? l = some { cls := .type "tuple", dict := dd, data := .seq items n, slots := sl } ∧ R (.ok (.ret (Value.ref l))) s) :=
  .of_wp fun prog w A R s h => by
    obtain ⟨hp, g, d, tk, os⟩ := s
    obtain ⟨hl, h⟩ := h
    have f1 := AutoSeq1.idx_int
    wp_walk using wpAny_loadPart' hl
    repeat (first
      | (refine wpAny_ite_false (decide_eq_false (by decide)) ?_; wp_walk using wpAny_loadPart' hl)
      | (refine wpAny_ite_true (decide_eq_true (by simp)) ?_; wp_walk using wpAny_loadPart' hl))
    exact ⟨_, rfl, h⟩
def rRepT1 (K : PySem.W.Frag) : R2 := fun x y H Q => ∃ l xs, x = .ref l ∧ y = .int 1 ∧ SqT K H l xs ∧ Q (.ref l) H
section
variable {X : Cx} {F : Fx} {a b c e : Expr} {es : List Expr} {fa fb fc f : M R} {ta : M Bool} {pos p p2 : Pos} {x : Str}
theorem op_repT1 : OpR X (binaryOp .Mult) (rRepT1 X.K) := by
  intro pins s σ H x y v u Q I rx ry h
  obtain ⟨l, xs, rfl, rfl, hT, q⟩ := h
  cases rx
  obtain ⟨t, rfl⟩ := ry
  obtain ⟨its, r, ⟨⟨cls, dd, data, sl⟩, ho, hc, n, hd⟩, hs⟩ := I.tuple hT
  simp only at hc hd
  subst hc hd
  exact wpAny_binaryOp_repeat_ref (T := "tuple") (U := "int") (by decide) ⟨_, ho, rfl⟩ (fun s' => typeIs_int s' 1 t) noFill_tuple_mul F.fills_int_mul F.slot_int_rmul repeat_tuple F.slot_int_index.lookup
    (call_meets F.slot_int_rmul (typeIs_int s 1 t) F.entry_int_rmul (F.args_int_rmul_2 _ _) (int_rmul_tuple 1 t l its.toArray n dd sl)
      ⟨ho, rfl, ⟨_, ho, rfl⟩, call_meets F.slot_tuple_mul ⟨_, ho, rfl⟩ F.entry_tuple_mul (F.args_tuple_mul_2 _ _) (tuple_mul1 l its.toArray n dd sl t) ⟨ho, .ref l, H, I, rfl, q⟩⟩)
def gRepT1 : D → D → Option R
  | .tuple xs, .int 1 => some (.pure (.tuple xs))
  | _, _ => none
theorem op2_repT1 : Op2 X F (rRepT1 X.K) gRepT1 := ⟨fun ς G σ H x y dx dy r Q rl hx hy e k => by
  cases dx with
  | tuple i =>
    cases dy with
    | int j =>
      by_cases q : j = 1
      · subst q
        cases e
        rcases hx with hx | ⟨_, _, _, _, ee, _⟩
        · obtain ⟨p, vs, rfl, h1, h2⟩ := dp_tuple hx
          exact ⟨p, vs, rfl, hy.int, same_seqT rl.sub h1, k _ H G rl (Same.refl _) hx⟩
        · cases ee
      · unfold gRepT1 at e
        split at e
        · rename_i h1 h2; cases h2; exact absurd rfl q
        · cases e
    | _ => cases e
  | _ => cases e⟩
def gMulA : D → D → Option R := orG (gI cMul fun i j => .int (i * j)) (orG gRepT gRepT1)
theorem d_mulA (ha : PEd X a fa) (hb : PEd X b fb) : PEd X (.BinOp a .Mult b pos) (op2 gMulA fa fb) := d_op (op_mul.or (op_repT.or op_repT1)) (fun _ => Op2.or op2_mulI (Op2.or op2_repT op2_repT1)) ha hb
def gAddA : D → D → Option R := orG (gI0 fun i j => .int (i + j)) (orG gStr (orG gCatL (orG gCatT (gIB (· + ·)))))
theorem d_addA (ha : PEd X a fa) (hb : PEd X b fb) : PEd X (.BinOp a .Add b pos) (op2 gAddA fa fb) :=
  d_op (op_add.or (op_add_str.or (op_catL.or (op_catA.or op_addB)))) (fun _ => Op2.or (op2_I0 fun _ _ _ => .int _) (Op2.or op2_str (Op2.or op2_catL (Op2.or op2_catT op2_IB)))) ha hb
def gSubA : D → D → Option R := orG (gI0 fun i j => .int (i - j)) (gIB (· - ·))
theorem d_subA (ha : PEd X a fa) (hb : PEd X b fb) : PEd X (.BinOp a .Sub b pos) (op2 gSubA fa fb) := d_op (op_sub.or op_subB) (fun _ => Op2.or op2_sub op2_IB) ha hb
def gDivA : D → D → Option R := gI cDiv fun i j => .int (i / j)
def gModA : D → D → Option R := gI (fun _ j => decide (0 < j)) fun i j => .int (i % j)
def gPowA : D → D → Option R := gI cPow fun i j => .int (i ^ j.toNat)
def gLt : D → D → Option R := gI0 fun i j => .bool (decide (i < j))
def gLe : D → D → Option R := gI0 fun i j => .bool (decide (i ≤ j))
def gGt : D → D → Option R := gI0 fun i j => .bool (decide (j < i))
def gGe : D → D → Option R := gI0 fun i j => .bool (decide (j ≤ i))
theorem d_divA (ha : PEd X a fa) (hb : PEd X b fb) : PEd X (.BinOp a .FloorDiv b pos) (op2 gDivA fa fb) := d_fdiv ha hb
theorem d_modA (ha : PEd X a fa) (hb : PEd X b fb) : PEd X (.BinOp a .Mod b pos) (op2 gModA fa fb) := d_mod ha hb
theorem d_powA (ha : PEd X a fa) (hb : PEd X b fb) : PEd X (.BinOp a .Pow b pos) (op2 gPowA fa fb) := d_pow ha hb
theorem o_lt : Op2 X F (rI0 fun i j => .bl (decide (i < j))) gLt := op2_lt
theorem o_le : Op2 X F (rI0 fun i j => .bl (decide (i ≤ j))) gLe := op2_le
theorem o_gt : Op2 X F (rI0 fun i j => .bl (decide (j < i))) gGt := op2_gt
theorem o_ge : Op2 X F (rI0 fun i j => .bl (decide (j ≤ i))) gGe := op2_ge
theorem _root_.Lw.PWd.pt (h : PWd X e ta) : PTd X e ta := fun F => (h F).pt
end
/-! ### a def by its name -/
def Fo (P : Program) (w : World) (K : PySem.W.Frag) (mg : Str → Option Value) (base : Heap) (x : Str) (ps : List Str) (m : Fsem) (k : Nat) : Prop :=
  ∃ (f : Addr) (fd : FuncData), FnG P w K mg base CX0 k f fd ps (spF K ps.length m) ∧ mg x = some (.ref f) ∧ PySem.W.keepIn K (.ref f) = true ∧ Binds K fd ps []
section
variable {X : Cx} {x : Str} {ps : List Str} {m : Fsem} {k j : Nat} {p pos : Pos} {e : Expr} {es : List Expr} {ga : M (List Ar)}
theorem Fo.call (h : Fo X.prog X.w X.K X.mg X.base x ps m j) (hgd : X.A.guards = some []) (hr : Room k X.A) (hj : j ≤ k) (hg : Gl X x) (hn : (e :: es).length = ps.length) (ha : PAd X (e :: es) ga) (hla : ∀ ς as ς', ga ς = some (as, ς') → as.length = (e :: es).length)
    (hdb : (x == ("__debug__" : Str)) = false := by decide) (he : starEach (e :: es) X.env = (false, eval e X.env) :: starEach es X.env := by rfl) (hpl : (backTo pos (starEach es X.env)).any (·.1) = false := by rfl) :
    PEd X (.Call (.Name x p) (e :: es) [] pos) (callE m ga) := by
  obtain ⟨f, fd, G, hm, hk, hb⟩ := h
  exact d_call G hgd (hr.mono hj) hg hm hk hb (pass0 (X := X)) hn ha hla hdb he hpl
end
theorem fo_none {P : Program} {w : World} {K : PySem.W.Frag} {mg : Str → Option Value} {base : Heap} {x : Str} {ps : List Str} {k : Nat} {f : Addr} {fd : FuncData} (hm : mg x = some (.ref f)) (hk : PySem.W.keepIn K (.ref f) = true) (hb : Binds K fd ps []) : Fo P w K mg base x ps (fun _ => none) k := by
  refine ⟨f, fd, ⟨fun vs H Q E h => ?_, fun A outer s H args us vs Q E _ _ _ _ _ h => ?_⟩, hm, hk, hb⟩
  · obtain ⟨_, _, _, _, _, _, e, _⟩ := h; cases e
  · obtain ⟨_, _, _, _, _, _, e, _⟩ := h; cases e
theorem FunD.mkFn {P : Program} {w : World} {K : PySem.W.Frag} {mg : Str → Option Value} {base : Heap} {k : Nat} {f : Addr} {fd : FuncData} {ps : List Str} {x : Str} {params : Arguments} {body : List Stmt} {scope : Scope} {dvs : List V} {kws : List (Str × V)} {N : List Str} {g : MS}
    (F : FunD K x x params body scope dvs kws f fd) (S : FnScope N ps scope)
    (hbody : ∀ (cdv : Value) (A : Around) (outer : List Env) (s : Shared) (H : Hp) (E : XK), A.guards = some [] → Room k (A.deeper (envOfC x scope s.heap.objs.size f cdv)) →
      PSsd (cxOf CX0 P w K mg base N x scope f cdv A outer s H E).nox body g) : FnG P w K mg base CX0 (k + 1) f fd ps (spF K ps.length (runFn g N.length)) := by
  obtain ⟨oc, od, dV, kV, doc, pm, an, cdv, ct, osl, rfl, lk, hcd, _, _⟩ := F.ex
  refine fnG_of lk hcd S (fun vs H Q E h => ?_) (fun A outer s H vs Q E hgd hr h => ?_)
  · obtain ⟨ss, G, hl, a, _⟩ := h
    rw [a.len, hl]
  · exact fn_body (hbody cdv A outer s H E hgd hr) h
theorem FunD.mkG {P : Program} {w : World} {K : PySem.W.Frag} {mg : Str → Option Value} {base : Heap} {k : Nat} {f : Addr} {fd : FuncData} {ps : List Str} {x : Str} {params : Arguments} {body : List Stmt} {scope : Scope} {dvs : List V} {kws : List (Str × V)} {N : List Str} {g : MS}
    (F : FunD K x x params body scope dvs kws f fd) (S : FnScope N ps scope)
    (hbody : ∀ (cdv : Value) (A : Around) (outer : List Env) (s : Shared) (H : Hp) (E : XK), A.guards = some [] → Room k (A.deeper (envOfC x scope s.heap.objs.size f cdv)) →
      PSsd (cxOf CX0 P w K mg base N x scope f cdv A outer s H E).nox body g) (hm : mg x = some (.ref f)) (hb : Binds K fd ps []) : Fo P w K mg base x ps (runFn g N.length) (k + 1) := ⟨f, fd, FunD.mkFn F S hbody, hm, F.kp, hb⟩
/-! ### a def that is handed a new list as its one argument -/
def finF (o : Option (R × List S)) (ς : En) : Option (R × En) := match o with
  | some (.ref _, _) => none
  | some (r, _) => some (r, ς)
  | none => none
def callF (m : Fsem) (fe : M R) : M R := bd fe fun r => match r with
  | .fresh ds => fun ς => finF (m [.own true ds]) ς
  | _ => lift none
section
variable {K : PySem.W.Frag} {F : Fx} {ς : En} {G H G' H' : Hp} {σ : L2.St}
theorem args1 (r : Rel K F ς G σ H) {ds : List D} {v : V} (h : RepR K F ς G σ H (.fresh ds) v) : ArgsOk K [.own true ds] G [v] H := by
  obtain ⟨a, xs, rfl, h1, h2, h3, _, _⟩ := h
  refine ⟨rfl, r.sub, fun i d q => ?_, fun i b es q => ?_, fun i j b c es fs z q1 q2 _ _ => ?_⟩
  · cases i with
    | zero => cases q
    | succ i => cases q
  · cases i with
    | zero => cases q; exact ⟨rfl, a, xs, rfl, h1, h2, h3⟩
    | succ i => cases q
  · cases i with
    | zero =>
      cases j with
      | zero => rfl
      | succ j => cases q2
    | succ i => cases q1
theorem Rel.called1 (r : Rel K F ς G σ H) {ds : List D} {v w : V} {res : R} {outs : List S} (h : RepR K F ς G σ H (.fresh ds) v) (t : RetOk K [.own true ds] G [v] H res outs w H' G') : Rel K F ς G' σ H' := by
  obtain ⟨a, xs, rfl, h1, h2, h3, h4, h5⟩ := h
  have away : ∀ b, b ≠ a → ∀ (i : Nat) c es, ([S.own true ds])[i]? = some (.own c es) → ([V.ref a])[i]? ≠ some (.ref b) := by
    intro b ne i c es q1 q2
    cases i with
    | zero => cases q2; exact ne rfl
    | succ i => cases q1
  refine ⟨r.len, t.sub, r.g0.trans t.same, ?_, ?_, r.ap, r.par, ?_, ?_⟩
  · intro i d e
    obtain ⟨u, e1, e2⟩ := r.pu i d e
    exact ⟨u, e1, dp_same t.same e2⟩
  · intro i b es e
    obtain ⟨c, ws, e1, e2, e3, e4, e5⟩ := r.ow i b es e
    have ne : c ≠ a := fun z => by subst z; exact h5 i b es e e1
    refine ⟨c, ws, e1, t.fr c _ e2 (away c ne), ?_, dpa_same t.same e4, e5⟩
    cases z : G' c with
    | none => rfl
    | some y =>
      rcases t.nw c (by rw [z]; simp) with q | q
      · exact absurd e3 q
      · rw [e2] at q; cases q
  · intro c o e na
    have ne : c ≠ a := fun z => by subst z; rw [h4] at e; cases e
    exact t.fr c o (r.fr c o e na) (away c ne)
  · intro c e
    rcases t.nw c e with q | q
    · exact r.nw c q
    · exact .inr (r.new q)
end
section
variable {X : Cx} {x : Str} {ps : List Str} {m : Fsem} {k j : Nat} {p pos : Pos} {e : Expr} {fe : M R}
theorem Fo.call1 (h : Fo X.prog X.w X.K X.mg X.base x ps m j) (hgd : X.A.guards = some []) (hr : Room k X.A) (hj : j ≤ k) (hg : Gl X x) (hn : 1 = ps.length) (he : PEd X e fe)
    (hdb : (x == ("__debug__" : Str)) = false := by decide) (hs : starEach [e] X.env = (false, eval e X.env) :: starEach [] X.env := by rfl) (hpl : (backTo pos (starEach [] X.env)).any (·.1) = false := by rfl) :
    PEd X (.Call (.Name x p) [e] [] pos) (callF m fe) := by
  obtain ⟨f, fd, G, hm, hk, hb⟩ := h
  intro F
  refine PE.mono (pe_callG G hgd (hr.mono hj) hg hm hk hb (pass0 (X := X)) (pa_cons (he F) pa_nil hs) hdb hs hpl) fun σ H Q hq => ?_
  obtain ⟨ς, G, rl, r, ς', e', kq⟩ := hq
  obtain ⟨r0, ς1, e1, q1⟩ := bd_some e'
  refine ⟨ς, G, rl, r0, ς1, e1, fun v H1 G1 rl1 s1 rep => ?_⟩
  cases r0 with
  | fresh ds =>
    replace q1 : finF (m [.own true ds]) ς1 = some (r, ς') := q1
    unfold finF at q1
    split at q1
    · cases q1
    · rename_i r' outs hne q3
      cases q1
      refine ⟨[.own true ds], G1, hn, args1 rl1 rep, r, outs, q3, fun u H' G' t => kq u H' G' (rl1.called1 rep t) (s1.trans t.same) ?_⟩
      cases r with
      | pure d => exact t.rep
      | ref i => exact t.rep.elim
      | fresh es =>
        obtain ⟨a, xs, rfl, h1, h2, h3, h4⟩ := t.rep
        refine ⟨a, xs, rfl, h1, h2, h3, rl1.new h4, fun i b es' z1 z2 => ?_⟩
        obtain ⟨a', _, f1, f2, _⟩ := rl1.ow i b es' z1
        rw [z2] at f1; cases f1
        rw [h4] at f2; cases f2
    · cases q1
  | _ => cases q1
end
theorem walk_GE {l : PySem.W.OpenLaw} {n k : Nat} {q : Program} {loose : List Str} {XP : (Str → Option Value) → Heap → Prop} {YP : World → Heap → Prop} {d : DefRec} {x : Str}
    (hn : l.most = some n) (hn2 : n ≤ sizeLine) (hdf : d.params.defaults = []) (hr : Room k callerA)
    (F : ∀ (w : World) (mg : Str → Option Value) (fa : Addr) (h : Heap), YP w h → h.Ns mainGlobals mg → mg d.name = some (.ref fa) →
      ∃ (K : PySem.W.Frag) (fd : FuncData) (sp : Sp), K.In h ∧ (∀ (s : Shared) (u : Value), BindsTo s fd ⟨[u], []⟩ [(x, u)]) ∧
        (∀ (H : Hp) (a : Addr) (ns : List Int), ns.length ≤ n → (∀ z ∈ ns, Builtin.Int.intBits z ≤ 1048576) → SqL K H a (ns.map V.int) → sp [.ref a] H (fun v _ => v = .bl true) fun _ _ _ => False) ∧
        ∀ base : Heap, K.In base → base.Ns mainGlobals mg → FnG l.prog w K mg base CX0 k fa fd [x] sp) :
    PySem.W.WalkO q loose XP YP l.row.toRowW d [] (fun f vs => PySem.call f vs) := by
  refine Att.attach_callB hn hdf (fun w s₀ s₁ mg mb fa o pm cd doc a vs ns G Y ho hd hcd hmg hobj hints hlen hbits hg => ?_)
  obtain ⟨K, fd, sp, KX, hb, hsp, hF⟩ := F w mg fa _ Y G.T.g hmg
  exact law_go KX G.T.g G.T.b G.T.builtins G.T.nolimit hg hobj hints (Nat.le_trans hlen hn2) hr hF hb (fun H _ hS => hsp H a ns hlen hbits hS)
end Lw
namespace Lw
open PySem PySem.Spec PyProof.Rows L2
/-! ### what a program over the state is worth -/
def wp {α : Type} (f : M α) (ς : En) (Q : α → En → Prop) : Prop := ∃ a ς', f ς = some (a, ς') ∧ Q a ς'
def wps (g : MS) (ς : En) (Q : Out → Prop) : Prop := ∃ o, g ς = some o ∧ Q o
def wpf (m : Fsem) (ss : List S) (Q : R → List S → Prop) : Prop := ∃ r o, m ss = some (r, o) ∧ Q r o
namespace Sm
section
variable {α β : Type} {ς : En} {i : Nat} {d : D} {ds : List D} {b : Bool}
theorem mono {f : M α} {Q Q' : α → En → Prop} (h : wp f ς Q) (k : ∀ a ς', Q a ς' → Q' a ς') : wp f ς Q' := by
  obtain ⟨a, ς', e, q⟩ := h; exact ⟨a, ς', e, k _ _ q⟩
theorem fmono {m : Fsem} {ss : List S} {Q Q' : R → List S → Prop} (h : wpf m ss Q) (k : ∀ r o, Q r o → Q' r o) : wpf m ss Q' := by
  obtain ⟨r, o, e, q⟩ := h; exact ⟨r, o, e, k _ _ q⟩
theorem ret {a : α} {Q : α → En → Prop} (h : Q a ς) : wp (Lw.ret a) ς Q := ⟨a, ς, rfl, h⟩
theorem bd {f : M α} {g : α → M β} {Q : β → En → Prop} (h : wp f ς fun a ς' => wp (g a) ς' Q) : wp (Lw.bd f g) ς Q := by
  obtain ⟨a, ς', e, a2, ς2, e2, q⟩ := h
  exact ⟨a2, ς2, by unfold Lw.bd; rw [e]; exact e2, q⟩
theorem cn {Q : R → En → Prop} (h : Q (.pure d) ς) : wp (Lw.cn d) ς Q := ⟨_, ς, rfl, h⟩
theorem vrP {Q : R → En → Prop} (e : ς[i]? = some (some (.pure d))) (h : Q (.pure d) ς) : wp (vr i) ς Q := ⟨_, ς, by unfold vr; rw [e], h⟩
theorem vrO {Q : R → En → Prop} (e : ς[i]? = some (some (.own b ds))) (h : Q (.ref i) ς) : wp (vr i) ς Q := ⟨_, ς, by unfold vr; rw [e], h⟩
theorem lift {o : Option α} {a : α} {Q : α → En → Prop} (e : o = some a) (h : Q a ς) : wp (Lw.lift o) ς Q := ⟨a, ς, by unfold Lw.lift; rw [e], h⟩
theorem rd {r : R} {Q : D → En → Prop} (e : rdD r ς = some d) (h : Q d ς) : wp (Lw.rd r) ς Q := ⟨d, ς, by unfold Lw.rd; rw [e], h⟩
/-- a value that is read at once -/
def nf : R → R
  | .fresh ds => .pure (.list ds)
  | r => r
theorem rd_nf (r : R) (ς : En) : rdD (nf r) ς = rdD r ς := by cases r <;> rfl
theorem sub {f : M R} {Q : R → En → Prop} (h : wp f ς fun r ς' => Q (nf r) ς') : wp (Lw.sub f) ς Q := by
  refine bd (mono h fun r ς' q => ?_)
  cases r <;> exact ret q
theorem op2 {g : D → D → Option R} {fa fb : M R} {Q : R → En → Prop} (h : wp fa ς fun a ς1 => wp fb ς1 fun b ς2 => ∃ x y r, rdD a ς2 = some x ∧ rdD b ς2 = some y ∧ g x y = some r ∧ Q r ς2) : wp (Lw.op2 g fa fb) ς Q := by
  refine bd (sub (mono h fun a ς1 h => bd (sub (mono h fun b ς2 h => ?_))))
  obtain ⟨x, y, r, e1, e2, e3, q⟩ := h
  exact bd (rd (by rw [rd_nf]; exact e1) (bd (rd (by rw [rd_nf]; exact e2) (lift e3 q))))
theorem cal1 {g : D → Option R} {fa : M R} {Q : R → En → Prop} (h : wp fa ς fun a ς1 => ∃ x r, rdD a ς1 = some x ∧ g x = some r ∧ Q r ς1) : wp (Lw.cal1 g fa) ς Q := by
  refine bd (sub (mono h fun a ς1 h => ?_))
  obtain ⟨x, r, e1, e3, q⟩ := h
  exact bd (rd (by rw [rd_nf]; exact e1) (lift e3 q))
theorem isE {ts : List Tn} {fa : M R} {Q : R → En → Prop} (h : wp fa ς fun a ς1 => ∃ x, rdD a ς1 = some x ∧ Q (.pure (.bool (ts.any fun t => isD t x))) ς1) : wp (Lw.isE fa ts) ς Q := by
  refine bd (sub (mono h fun a ς1 h => ?_))
  obtain ⟨x, e1, q⟩ := h
  exact bd (rd (by rw [rd_nf]; exact e1) (ret q))
theorem esc {f : M R} {Q : D → En → Prop} (h : wp f ς fun r ς1 => ∃ d ς2, toD r ς1 = some (d, ς2) ∧ Q d ς2) : wp (Lw.esc f) ς Q := by
  refine bd (mono h fun r ς1 h => ?_)
  obtain ⟨d, ς2, e, q⟩ := h
  exact ⟨d, ς2, e, q⟩
theorem tst {f : M R} {Q : Bool → En → Prop} (h : wp f ς fun r ς1 => ∃ b, rdD r ς1 = some (.bool b) ∧ Q b ς1) : wp (Lw.tst f) ς Q := by
  refine bd (sub (mono h fun a ς1 h => ?_))
  obtain ⟨x, e1, q⟩ := h
  exact bd (rd (by rw [rd_nf]; exact e1) (lift rfl q))
theorem tru {f : M R} {Q : Bool → En → Prop} (h : wp f ς fun r ς1 => ∃ d b, rdD r ς1 = some d ∧ truD d = some b ∧ Q b ς1) : wp (Lw.tru f) ς Q := by
  refine bd (sub (mono h fun a ς1 h => ?_))
  obtain ⟨x, b, e1, e2, q⟩ := h
  exact bd (rd (by rw [rd_nf]; exact e1) (lift e2 q))
theorem andT {ta tb : M Bool} {Q : Bool → En → Prop} (h : wp ta ς fun b ς1 => if b = true then wp tb ς1 Q else Q false ς1) : wp (Lw.andT ta tb) ς Q := by
  refine bd (mono h fun b ς1 h => ?_)
  cases b
  · rw [if_neg (by decide)] at h ⊢; exact ret h
  · rw [if_pos rfl] at h ⊢; exact h
theorem orT {ta tb : M Bool} {Q : Bool → En → Prop} (h : wp ta ς fun b ς1 => if b = true then Q true ς1 else wp tb ς1 Q) : wp (Lw.orT ta tb) ς Q := by
  refine bd (mono h fun b ς1 h => ?_)
  cases b
  · rw [if_neg (by decide)] at h ⊢; exact h
  · rw [if_pos rfl] at h ⊢; exact ret h
theorem notT {ta : M Bool} {Q : Bool → En → Prop} (h : wp ta ς fun b ς1 => Q (!b) ς1) : wp (Lw.notT ta) ς Q := bd (mono h fun b ς1 h => ret h)
theorem andV {fa fb : M R} {Q : R → En → Prop} (h : wp fa ς fun r ς1 => ∃ b, rdD r ς1 = some (.bool b) ∧ if b = true then wp fb ς1 Q else Q (.pure (.bool false)) ς1) : wp (Lw.andV fa fb) ς Q := by
  refine bd (sub (mono h fun a ς1 h => ?_))
  obtain ⟨b, e1, q⟩ := h
  refine bd (rd (by rw [rd_nf]; exact e1) (bd (lift rfl ?_)))
  cases b
  · rw [if_neg (by decide)] at q ⊢; exact ret q
  · rw [if_pos rfl] at q ⊢; exact q
theorem orV {fa fb : M R} {Q : R → En → Prop} (h : wp fa ς fun r ς1 => ∃ b, rdD r ς1 = some (.bool b) ∧ if b = true then Q (.pure (.bool true)) ς1 else wp fb ς1 Q) : wp (Lw.orV fa fb) ς Q := by
  refine bd (sub (mono h fun a ς1 h => ?_))
  obtain ⟨b, e1, q⟩ := h
  refine bd (rd (by rw [rd_nf]; exact e1) (bd (lift rfl ?_)))
  cases b
  · rw [if_neg (by decide)] at q ⊢; exact q
  · rw [if_pos rfl] at q ⊢; exact ret q
theorem notV {fa : M R} {Q : R → En → Prop} (h : wp fa ς fun r ς1 => ∃ b, rdD r ς1 = some (.bool b) ∧ Q (.pure (.bool !b)) ς1) : wp (Lw.notV fa) ς Q := by
  refine bd (sub (mono h fun a ς1 h => ?_))
  obtain ⟨b, e1, q⟩ := h
  exact bd (rd (by rw [rd_nf]; exact e1) (bd (lift rfl (ret q))))
theorem negV {fa : M R} {Q : R → En → Prop} (h : wp fa ς fun r ς1 => ∃ i, rdD r ς1 = some (.int i) ∧ Q (.pure (.int (-i))) ς1) : wp (Lw.negV fa) ς Q := by
  refine bd (sub (mono h fun a ς1 h => ?_))
  obtain ⟨b, e1, q⟩ := h
  exact bd (rd (by rw [rd_nf]; exact e1) (lift rfl q))
theorem ife {t : M Bool} {fa fb : M R} {Q : R → En → Prop} (h : wp t ς fun b ς1 => if b = true then wp fa ς1 Q else wp fb ς1 Q) : wp (Lw.ife t fa fb) ς Q := by
  refine bd (mono h fun b ς1 h => ?_)
  cases b
  · rw [if_neg (by decide)] at h ⊢; exact h
  · rw [if_pos rfl] at h ⊢; exact h
theorem chn {g g' : D → D → Option R} {fa fb fc : M R} {Q : R → En → Prop} (h : wp fa ς fun a ς1 => wp fb ς1 fun b ς2 => ∃ x y k, rdD a ς2 = some x ∧ rdD b ς2 = some y ∧ g x y = some (.pure (.bool k)) ∧
    if k = true then wp fc ς2 fun c ς3 => ∃ y z r, rdD b ς3 = some y ∧ rdD c ς3 = some z ∧ g' y z = some r ∧ Q r ς3 else Q (.pure (.bool false)) ς2) : wp (Lw.chn g g' fa fb fc) ς Q := by
  refine bd (sub (mono h fun a ς1 h => bd (sub (mono h fun b ς2 h => ?_))))
  obtain ⟨x, y, k, e1, e2, e3, q⟩ := h
  refine bd (rd (by rw [rd_nf]; exact e1) (bd (rd (by rw [rd_nf]; exact e2) (bd (lift e3 (bd (lift rfl ?_)))))))
  cases k
  · rw [if_neg (by decide)] at q ⊢; exact ret q
  · rw [if_pos rfl] at q ⊢
    refine bd (sub (mono q fun c ς3 h => ?_))
    obtain ⟨y, z, r, e1, e2, e3, q⟩ := h
    exact bd (rd (by rw [rd_nf]; exact e1) (bd (rd (by rw [rd_nf]; exact e2) (lift e3 q))))
theorem argN {Q : List Ar → En → Prop} (h : Q [] ς) : wp Lw.argN ς Q := ret h
theorem argV {f : M R} {g : M (List Ar)} {Q : List Ar → En → Prop} (h : wp f ς fun r ς1 => ∃ d ς2, toD r ς1 = some (d, ς2) ∧ wp g ς2 fun as ς3 => Q (.val d :: as) ς3) : wp (Lw.argV f g) ς Q :=
  bd (esc (mono h fun r ς1 ⟨d, ς2, e, q⟩ => ⟨d, ς2, e, bd (mono q fun as ς3 q => ret q)⟩))
theorem argR {f : M R} {g : M (List Ar)} {Q : List Ar → En → Prop} (h : wp f ς fun r ς1 => ∃ i, r = .ref i ∧ wp g ς1 fun as ς3 => Q (.ref i :: as) ς3) : wp (Lw.argR f g) ς Q := by
  refine bd (mono h fun r ς1 h => ?_)
  obtain ⟨i, rfl, q⟩ := h
  exact bd (mono q fun as ς3 q => ret q)
theorem tupE {g : M (List Ar)} {Q : R → En → Prop} (h : wp g ς fun as ς1 => ∃ ds, vals as = some ds ∧ ds.length ≤ sizeLine ∧ Q (.pure (.tuple ds)) ς1) : wp (Lw.tupE g) ς Q := by
  refine bd (mono h fun as ς1 h => ?_)
  obtain ⟨ds, e, hs, q⟩ := h
  refine bd (lift e ?_)
  rw [if_pos (show small ds.length = true from decide_eq_true hs)]
  exact ret q
theorem lstE {g : M (List Ar)} {Q : R → En → Prop} (h : wp g ς fun as ς1 => ∃ ds, vals as = some ds ∧ ds.length ≤ sizeLine ∧ Q (.fresh ds) ς1) : wp (Lw.lstE g) ς Q := by
  refine bd (mono h fun as ς1 h => ?_)
  obtain ⟨ds, e, hs, q⟩ := h
  refine bd (lift e ?_)
  rw [if_pos (show small ds.length = true from decide_eq_true hs)]
  exact ret q
theorem callE {m : Fsem} {g : M (List Ar)} {Q : R → En → Prop} (h : wp g ς fun as ς1 => ∃ ss, argS as ς1 = some ss ∧ (refsOf as).Nodup ∧ wpf m ss fun r outs => (∀ i, r ≠ .ref i) ∧ Q r (putBack as outs ς1)) : wp (Lw.callE m g) ς Q := by
  refine bd (mono h fun as ς1 h => ?_)
  obtain ⟨ss, e, nd, r, outs, e2, hr, q⟩ := h
  refine ⟨r, putBack as outs ς1, ?_, q⟩
  simp only [e, e2]
  cases r with
  | ref i => exact absurd rfl (hr i)
  | pure d => exact if_pos nd
  | fresh ds => exact if_pos nd
theorem callF {m : Fsem} {fe : M R} {Q : R → En → Prop} (h : wp fe ς fun r ς1 => ∃ ds, r = .fresh ds ∧ wpf m [.own true ds] fun r outs => (∀ i, r ≠ .ref i) ∧ Q r ς1) : wp (Lw.callF m fe) ς Q := by
  refine bd (mono h fun r ς1 h => ?_)
  obtain ⟨ds, rfl, r, outs, e2, hr, q⟩ := h
  refine ⟨r, ς1, ?_, q⟩
  show finF (m [.own true ds]) ς1 = _
  rw [e2]
  cases r with
  | ref i => exact absurd rfl (hr i)
  | pure d => rfl
  | fresh ds => rfl
theorem ptN {Q : Option Int → En → Prop} (h : Q none ς) : wp Lw.ptN ς Q := ret h
theorem ptS {f : M R} {Q : Option Int → En → Prop} (h : wp f ς fun r ς1 => ∃ i, rdD r ς1 = some (.int i) ∧ Q (some i) ς1) : wp (Lw.ptS f) ς Q := by
  refine bd (sub (mono h fun a ς1 h => ?_))
  obtain ⟨b, e1, q⟩ := h
  exact bd (rd (by rw [rd_nf]; exact e1) (lift rfl q))
theorem slE {fa : M R} {fl fh : M (Option Int)} {Q : R → En → Prop} (h : wp fa ς fun a ς1 => wp fl ς1 fun l ς2 => wp fh ς2 fun u ς3 => ∃ x r, rdD a ς3 = some x ∧ gSl x l u = some r ∧ Q r ς3) : wp (Lw.slE fa fl fh) ς Q := by
  refine bd (sub (mono h fun a ς1 h => bd (mono h fun l ς2 h => bd (mono h fun u ς3 h => ?_))))
  obtain ⟨x, r, e1, e2, q⟩ := h
  exact bd (rd (by rw [rd_nf]; exact e1) (lift e2 q))
theorem revE {fa : M R} {Q : R → En → Prop} (h : wp fa ς fun a ς1 => ∃ ds, rdD a ς1 = some (.list ds) ∧ Q (.fresh ds.reverse) ς1) : wp (Lw.revE fa) ς Q := by
  refine bd (sub (mono h fun a ς1 h => ?_))
  obtain ⟨ds, e1, q⟩ := h
  exact bd (rd (by rw [rd_nf]; exact e1) (lift rfl q))
theorem mth {hh : List D → List D → Option (D × List D)} {fo : M R} {ga : M (List Ar)} {Q : R → En → Prop} (h : wp fo ς fun r ς1 => ∃ i b ds, r = .ref i ∧ ς1[i]? = some (some (.own b ds)) ∧ wp ga ς1 fun as ς2 => ∃ ws b ds d ds', vals as = some ws ∧ ς2[i]? = some (some (.own b ds)) ∧ hh ds ws = some (d, ds') ∧ Q (.pure d) (ς2.set i (some (.own b ds')))) : wp (Lw.mth hh fo ga) ς Q := by
  refine bd (mono h fun r ς1 h => ?_)
  obtain ⟨i, b, ds, rfl, e, h⟩ := h
  refine bd ⟨(), ς1, by unfold isOwn; rw [e], bd (mono h fun as ς2 h => ?_)⟩
  obtain ⟨ws, b, ds, d, ds', e1, e2, e3, q⟩ := h
  refine bd (lift e1 ⟨_, _, ?_, q⟩)
  simp only [e2, e3]
/-- iterables -/
theorem itS {f : M R} {Q : List D → En → Prop} (h : wp f ς fun r ς1 => ∃ d ς2 ds, toD r ς1 = some (d, ς2) ∧ items d = some ds ∧ Q ds ς2) : wp (Lw.itS f) ς Q :=
  bd (esc (mono h fun r ς1 ⟨d, ς2, ds, e, e2, q⟩ => ⟨d, ς2, e, lift e2 q⟩))
theorem itR1 {f : M R} {Q : List D → En → Prop} (h : wp f ς fun r ς1 => ∃ n, rdD r ς1 = some (.int n) ∧ inR n = true ∧ Q (rngD 0 n.toNat) ς1) : wp (Lw.itR1 f) ς Q := by
  refine bd (sub (mono h fun a ς1 h => ?_))
  obtain ⟨n, e1, e2, q⟩ := h
  refine bd (rd (by rw [rd_nf]; exact e1) ?_)
  show wp (if inR n = true then Lw.ret (rngD 0 n.toNat) else Lw.lift none) ς1 Q
  rw [if_pos e2]
  exact ret q
theorem itR2 {fa fb : M R} {Q : List D → En → Prop} (h : wp fa ς fun r ς1 => wp fb ς1 fun r2 ς2 => ∃ m n, rdD r ς2 = some (.int m) ∧ rdD r2 ς2 = some (.int n) ∧ inR m = true ∧ inR n = true ∧ Q (rngD m (n - m).toNat) ς2) : wp (Lw.itR2 fa fb) ς Q := by
  refine bd (sub (mono h fun a ς1 h => bd (sub (mono h fun b ς2 h => ?_))))
  obtain ⟨m, n, e1, e2, h1, h2, q⟩ := h
  refine bd (rd (by rw [rd_nf]; exact e1) (bd (rd (by rw [rd_nf]; exact e2) ?_)))
  show wp (if inR m = true ∧ inR n = true then Lw.ret (rngD m (n - m).toNat) else Lw.lift none) ς2 Q
  rw [if_pos ⟨h1, h2⟩]
  exact ret q
theorem itE {f : M R} {Q : List D → En → Prop} (h : wp f ς fun r ς1 => ∃ ds ς2, toD r ς1 = some (.list ds, ς2) ∧ Q (enumD 0 ds) ς2) : wp (Lw.itE f) ς Q :=
  bd (esc (mono h fun r ς1 ⟨ds, ς2, e, q⟩ => ⟨_, ς2, e, ret q⟩))
theorem itZ {fa fb : M R} {Q : List D → En → Prop} (h : wp fa ς fun r ς1 => ∃ d ς2, toD r ς1 = some (d, ς2) ∧ wp fb ς2 fun r2 ς3 => ∃ d2 ς4 xs ys, toD r2 ς3 = some (d2, ς4) ∧ ((d = .list xs ∧ d2 = .list ys) ∨ (d = .tuple xs ∧ d2 = .tuple ys)) ∧ Q (zipD xs ys) ς4) : wp (Lw.itZ fa fb) ς Q := by
  refine bd (esc (mono h fun r ς1 h => ?_))
  obtain ⟨d, ς2, e, h⟩ := h
  refine ⟨d, ς2, e, bd (esc (mono h fun r2 ς3 h => ?_))⟩
  obtain ⟨d2, ς4, xs, ys, e2, h, q⟩ := h
  refine ⟨d2, ς4, e2, ?_⟩
  rcases h with ⟨rfl, rfl⟩ | ⟨rfl, rfl⟩ <;> exact ret q
/-- comprehensions -/
theorem lcE {fi : M (List D)} {vs : List Nat} {tg : Tg} {tt : M Bool} {fe : M R} {Q : R → En → Prop}
    (h : wp fi ς fun ds ς1 => freeAll ς1 vs = true ∧ ∃ acc ς2, lcLoop vs tg tt fe ds [] (wipeE ς1 vs) = some (acc, ς2) ∧ Q (.fresh acc) ς2) : wp (Lw.lcE fi vs tg tt fe) ς Q := by
  obtain ⟨ds, ς1, e, hf, acc, ς2, e2, q⟩ := h
  refine ⟨_, ς2, ?_, q⟩
  unfold Lw.lcE
  simp only [e, e2]
  rw [if_pos hf]
theorem lcInv {vs : List Nat} {tg : Tg} {fe : M R} {ds : List D} {Q : List D → En → Prop} (I : Nat → List D → En → Prop) (h0 : I 0 [] ς) (hlen : ds.length ≤ sizeLine)
    (hs : ∀ (i : Nat) d acc ς, ds[i]? = some d → acc.length = i → I i acc ς → ∃ ς1, tg d ς = some ς1 ∧ wp fe ς1 fun r ς2 => ∃ y ς3, toD r ς2 = some (y, ς3) ∧ freeAll ς3 vs = true ∧ I (i + 1) (acc ++ [y]) (wipeE ς3 vs))
    (hd : ∀ acc ς, acc.length = ds.length → I ds.length acc ς → Q acc ς) : ∃ acc ς2, lcLoop vs tg (Lw.ret true) fe ds [] ς = some (acc, ς2) ∧ Q acc ς2 := by
  have main : ∀ (n i : Nat) (acc : List D) (ς : En), n = ds.length - i → i ≤ ds.length → acc.length = i → I i acc ς → ∃ acc' ς2, lcLoop vs tg (Lw.ret true) fe (ds.drop i) acc ς = some (acc', ς2) ∧ Q acc' ς2 := by
    intro n
    induction n with
    | zero =>
      intro i acc ς hn hi ha hI
      have : i = ds.length := by omega
      subst this
      rw [List.drop_length]
      exact ⟨acc, ς, rfl, hd acc ς ha hI⟩
    | succ n ih =>
      intro i acc ς hn hi ha hI
      have hlt : i < ds.length := by omega
      rw [List.drop_eq_getElem_cons hlt]
      obtain ⟨ς1, e1, r, ς2, e2, y, ς3, e3, hf, hI'⟩ := hs i _ acc ς (List.getElem?_eq_getElem hlt) ha hI
      obtain ⟨acc', ς4, e4, q⟩ := ih (i + 1) (acc ++ [y]) (wipeE ς3 vs) (by omega) hlt (by simp [ha]) hI'
      refine ⟨acc', ς4, ?_, q⟩
      rw [lcLoop]
      have ee : Lw.esc fe ς1 = some (y, ς3) := by unfold Lw.esc Lw.bd; rw [e2]; exact e3
      simp only [e1, Lw.ret, ee]
      rw [if_pos ⟨hf, by omega⟩]
      exact e4
  have := main ds.length 0 [] ς (by omega) (by omega) rfl h0
  rw [List.drop_zero] at this
  exact this
end
section
variable {ς : En} {Q : Out → Prop} {g g1 g2 : MS} {f : M R}
theorem skip (h : Q (.nx ς)) : wps Lw.skip ς Q := ⟨_, rfl, h⟩
def andThen (g : MS) (Q : Out → Prop) : Out → Prop
  | .nx ς => wps g ς Q
  | o => Q o
theorem sq (h : wps g1 ς (andThen g2 Q)) : wps (Lw.sq g1 g2) ς Q := by
  obtain ⟨o, e, q⟩ := h
  cases o with
  | nx ς1 => obtain ⟨o2, e2, q2⟩ := q; exact ⟨o2, by unfold Lw.sq; rw [e]; exact e2, q2⟩
  | rt r ς1 => exact ⟨_, by unfold Lw.sq; rw [e], q⟩
  | bk ς1 => exact ⟨_, by unfold Lw.sq; rw [e], q⟩
  | ct ς1 => exact ⟨_, by unfold Lw.sq; rw [e], q⟩
theorem asg {tg : Tg} (h : wp f ς fun r ς1 => ∃ d ς2 ς3, toD r ς1 = some (d, ς2) ∧ tg d ς2 = some ς3 ∧ Q (.nx ς3)) : wps (Lw.asg f tg) ς Q := by
  obtain ⟨r, ς1, e, d, ς2, ς3, e2, e3, q⟩ := h
  refine ⟨.nx ς3, ?_, q⟩
  have ee : Lw.esc f ς = some (d, ς2) := by unfold Lw.esc Lw.bd; rw [e]; exact e2
  unfold Lw.asg
  simp only [ee, e3]
theorem asgO {i : Nat} (h : wp f ς fun r ς1 => ∃ ds, r = .fresh ds ∧ free ς1 i = true ∧ Q (.nx (ς1.set i (some (.own false ds))))) : wps (Lw.asgO i f) ς Q := by
  obtain ⟨r, ς1, e, ds, rfl, hf, q⟩ := h
  exact ⟨_, by unfold Lw.asgO; rw [e]; exact if_pos hf, q⟩
theorem exS (h : wp f ς fun _ ς1 => Q (.nx ς1)) : wps (Lw.exS f) ς Q := by
  obtain ⟨r, ς1, e, q⟩ := h
  exact ⟨_, by unfold Lw.exS; rw [e], q⟩
/-- what is handed back -/
def outR (Q : Out → Prop) : R → En → Prop
  | .pure d, ς => Q (.rt (.pure d) ς)
  | .fresh ds, ς => Q (.rt (.fresh ds) ς)
  | .ref i, ς => (∃ ds, ς[i]? = some (some (.own false ds)) ∧ Q (.rt (.fresh ds) (ς.set i none))) ∨ ∃ d, ς[i]? = some (some (.pure d)) ∧ Q (.rt (.pure d) ς)
theorem retS (h : wp f ς (outR Q)) : wps (Lw.retS f) ς Q := by
  obtain ⟨r, ς1, e, q⟩ := h
  unfold wps Lw.retS
  rw [e]
  cases r with
  | pure d => exact ⟨_, rfl, q⟩
  | fresh ds => exact ⟨_, rfl, q⟩
  | ref i =>
    rcases q with ⟨ds, e2, q⟩ | ⟨d, e2, q⟩
    · exact ⟨_, by simp only [e2], q⟩
    · exact ⟨_, by simp only [e2], q⟩
theorem ifS {t : M Bool} (h : wp t ς fun b ς1 => if b = true then wps g1 ς1 Q else wps g2 ς1 Q) : wps (Lw.ifS t g1 g2) ς Q := by
  obtain ⟨b, ς1, e, q⟩ := h
  unfold wps Lw.ifS
  rw [e]
  cases b
  · rw [if_neg (by decide)] at q; exact q
  · rw [if_pos rfl] at q; exact q
theorem forS {fi : M (List D)} {tg : Tg} (h : wp fi ς fun ds ς1 => wps (loop tg g ds) ς1 Q) : wps (Lw.forS fi tg g) ς Q := by
  obtain ⟨ds, ς1, e, o, e2, q⟩ := h
  exact ⟨o, by unfold Lw.forS; rw [e]; exact e2, q⟩
theorem loopInv {tg : Tg} {ds : List D} (I : Nat → En → Prop) (h0 : I 0 ς)
    (hs : ∀ (i : Nat) d ς, ds[i]? = some d → I i ς → ∃ ς1, tg d ς = some ς1 ∧ wps g ς1 fun o => match o with | .nx ς2 => I (i + 1) ς2 | .ct ς2 => I (i + 1) ς2 | .bk ς2 => Q (.nx ς2) | .rt r ς2 => Q (.rt r ς2))
    (hd : ∀ ς, I ds.length ς → Q (.nx ς)) : wps (loop tg g ds) ς Q := by
  have main : ∀ (n i : Nat) (ς : En), n = ds.length - i → i ≤ ds.length → I i ς → wps (loop tg g (ds.drop i)) ς Q := by
    intro n
    induction n with
    | zero =>
      intro i ς hn hi hI
      have : i = ds.length := by omega
      subst this
      rw [List.drop_length]
      exact ⟨_, rfl, hd ς hI⟩
    | succ n ih =>
      intro i ς hn hi hI
      have hlt : i < ds.length := by omega
      rw [List.drop_eq_getElem_cons hlt]
      obtain ⟨ς1, e1, o, e2, q⟩ := hs i _ ς (List.getElem?_eq_getElem hlt) hI
      unfold wps
      rw [loop]
      simp only [e1, e2]
      cases o with
      | nx ς2 => exact ih (i + 1) ς2 (by omega) hlt q
      | ct ς2 => exact ih (i + 1) ς2 (by omega) hlt q
      | bk ς2 => exact ⟨_, rfl, q⟩
      | rt r ς2 => exact ⟨_, rfl, q⟩
  have := main ds.length 0 ς (by omega) (by omega) h0
  rw [List.drop_zero] at this
  exact this
theorem par2 {i j : Nat} {o1 o2 : Bool} {fa fb : M R} (h : wp (pv' o1 fa) ς fun x ς1 => wp (pv' o2 fb) ς1 fun y ς2 => ∃ s t, put i x = some s ∧ put j y = some t ∧ (free ς2 i = true ∧ free (ς2.set i s) j = true ∧ i ≠ j) ∧ Q (.nx ((ς2.set i s).set j t))) : wps (Lw.par2 i j o1 o2 fa fb) ς Q := by
  obtain ⟨x, ς1, e1, y, ς2, e2, s, t, p1, p2, hf, q⟩ := h
  refine ⟨_, ?_, q⟩
  unfold Lw.par2
  have : Lw.bd (pv' o1 fa) (fun x => Lw.bd (pv' o2 fb) fun y => Lw.ret (x, y)) ς = some ((x, y), ς2) := by
    unfold Lw.bd
    rw [e1]
    simp only [e2, Lw.ret]
  rw [this]
  simp only [p1, p2]
  rw [if_pos hf]
theorem pvF {f : M R} {Q : R → En → Prop} (h : wp f ς fun r ς1 => ∃ d ς2, toD r ς1 = some (d, ς2) ∧ Q (.pure d) ς2) : wp (pv' false f) ς Q := by
  show wp (Lw.bd (Lw.esc f) fun d => Lw.ret (.pure d)) ς Q
  exact bd (esc (mono h fun r ς1 ⟨d, ς2, e, q⟩ => ⟨d, ς2, e, ret q⟩))
theorem pvT {f : M R} {Q : R → En → Prop} (h : wp f ς Q) : wp (pv' true f) ς Q := h
theorem par3 {i j l : Nat} {fa fb fc : M R} (h : wp fa ς fun a ς1 => ∃ x ς1', toD a ς1 = some (x, ς1') ∧ wp fb ς1' fun b ς2 => ∃ y ς2', toD b ς2 = some (y, ς2') ∧ wp fc ς2' fun c ς3 => ∃ z ς3', toD c ς3 = some (z, ς3') ∧
    (free ς3' i = true ∧ free (ς3'.set i (some (.pure x))) j = true ∧ free ((ς3'.set i (some (.pure x))).set j (some (.pure y))) l = true) ∧ Q (.nx (((ς3'.set i (some (.pure x))).set j (some (.pure y))).set l (some (.pure z))))) : wps (Lw.par3 i j l fa fb fc) ς Q := by
  obtain ⟨a, ς1, e1, x, ς1', t1, b, ς2, e2, y, ς2', t2, c, ς3, e3, z, ς3', t3, hf, q⟩ := h
  refine ⟨_, ?_, q⟩
  unfold Lw.par3
  have h1 : Lw.esc fa ς = some (x, ς1') := by unfold Lw.esc Lw.bd; rw [e1]; exact t1
  have h2 : Lw.esc fb ς1' = some (y, ς2') := by unfold Lw.esc Lw.bd; rw [e2]; exact t2
  have h3 : Lw.esc fc ς2' = some (z, ς3') := by unfold Lw.esc Lw.bd; rw [e3]; exact t3
  have : Lw.bd (Lw.esc fa) (fun x => Lw.bd (Lw.esc fb) fun y => Lw.bd (Lw.esc fc) fun z => Lw.ret (x, y, z)) ς = some ((x, y, z), ς3') := by
    unfold Lw.bd
    rw [h1]
    simp only [h2, h3, Lw.ret]
  rw [this]
  simp only
  rw [if_pos hf]
/-- a def by its body -/
def outF (n : Nat) (Q : R → List S → Prop) : Out → Prop
  | .rt r ς => (∀ i, r ≠ .ref i) ∧ Q r (outsOf ς n)
  | .nx ς => Q (.pure .none) (outsOf ς n)
  | _ => False
theorem run {n : Nat} {ss : List S} {Q : R → List S → Prop} (h : wps g (ent n ss) (outF ss.length Q)) : wpf (runFn g n) ss Q := by
  obtain ⟨o, e, q⟩ := h
  unfold wpf runFn
  rw [e]
  cases o with
  | nx ς => exact ⟨_, _, rfl, q⟩
  | rt r ς =>
    cases r with
    | ref i => exact absurd rfl (q.1 i)
    | pure d => exact ⟨_, _, rfl, q.2⟩
    | fresh ds => exact ⟨_, _, rfl, q.2⟩
  | bk ς => exact q.elim
  | ct ς => exact q.elim
theorem at_nx (h : wps g ς Q) : andThen g Q (.nx ς) := h
theorem at_rt {r : R} (h : Q (.rt r ς)) : andThen g Q (.rt r ς) := h
theorem oP {d : D} (h : Q (.rt (.pure d) ς)) : outR Q (.pure d) ς := h
theorem oF {ds : List D} (h : Q (.rt (.fresh ds) ς)) : outR Q (.fresh ds) ς := h
theorem oM {i : Nat} {ds : List D} (e : ς[i]? = some (some (.own false ds))) (h : Q (.rt (.fresh ds) (ς.set i none))) : outR Q (.ref i) ς := .inl ⟨ds, e, h⟩
theorem fP {n : Nat} {d : D} {Q : R → List S → Prop} (h : Q (.pure d) (outsOf ς n)) : outF n Q (.rt (.pure d) ς) := ⟨(fun i z => by cases z), h⟩
theorem fF {n : Nat} {ds : List D} {Q : R → List S → Prop} (h : Q (.fresh ds) (outsOf ς n)) : outF n Q (.rt (.fresh ds) ς) := ⟨(fun i z => by cases z), h⟩
end
end Sm
end Lw
namespace Lw
open PySem PySem.Spec PyProof.Rows L2
/-! ### rows of new tuples out of one, two or three sequences, each a list or a tuple -/
inductive Kd where
  | L
  | T
namespace Kd
def Sq (k : Kd) (K : PySem.W.Frag) (H : Hp) (a : Addr) (xs : List V) : Prop := match k with
  | L => SqL K H a xs
  | T => SqT K H a xs
def Is (k : Kd) (h : Heap) (a : Addr) (its : Array Value) : Prop := match k with
  | L => h.IsList a its
  | T => h.IsTuple a its
def Iter (k : Kd) (h : Heap) (it a : Addr) (i : Nat) : Prop := match k with
  | L => h.IsListIter it a i
  | T => h.IsTupleIter it a i
def ob (k : Kd) (a : Addr) : Obj := match k with
  | L => { cls := .type "list_iterator", data := .fields #[.ref a, .int 0 0] }
  | T => { cls := .type "tuple_iterator", data := .fields #[.ref a, .int 0 0] }
theorem begins (k : Kd) (a : Addr) (its : Array Value) : Begins (.ref a) (k.ob a) fun h => k.Is h a its := by
  cases k
  · exact begins_list a its
  · exact begins_tuple a its
theorem iter0 (k : Kd) {h : Heap} {it a : Addr} (e : h.get? it = some (k.ob a)) : k.Iter h it a 0 := by
  cases k
  · exact ⟨_, e, rfl, rfl⟩
  · exact ⟨_, e, rfl, rfl⟩
theorem draws (k : Kd) {P : Program} {w : World} {A : Around} (hh : A.handled = none) (it a : Addr) (ne : a ≠ it) (its : Array Value) :
    Draws P w A it [it, a] its.size (fun i v => its[i]? = some v) (fun i h => k.Iter h it a i ∧ k.Is h a its) := by
  cases k
  · exact Draws.list hh it a ne its
  · exact Draws.tuple hh it a ne its
theorem iterAt (k : Kd) {h h' : Heap} {it a : Addr} {i : Nat} (x : k.Iter h it a i) (e : ∀ o, h.get? it = some o → h'.get? it = some o) : k.Iter h' it a i := by
  cases k
  · exact Heap.IsListIter.at x e
  · exact Heap.IsTupleIter.at x e
theorem iterOb (k : Kd) {h : Heap} {it a : Addr} {i : Nat} (x : k.Iter h it a i) : ∃ o, h.get? it = some o ∧ ∀ v, o.data ≠ .cell v := by
  cases k
  · obtain ⟨o, e, _, d⟩ := x; exact ⟨o, e, fun v q => by rw [d] at q; cases q⟩
  · obtain ⟨o, e, _, d⟩ := x; exact ⟨o, e, fun v q => by rw [d] at q; cases q⟩
theorem inv (k : Kd) {X : Cx} {pins : List (Addr × Obj)} {σ : L2.St} {H : Hp} {s : Shared} {a : Addr} {xs : List V} (I : Inv X pins σ H s) (h : k.Sq X.K H a xs) : ∃ its : List Value, Vals xs its ∧ k.Is s.heap a its.toArray ∧ a < s.heap.objs.size := by
  cases k
  · obtain ⟨its, r, pl, _⟩ := I.list h
    exact ⟨its, r, pl.isList, pl.lt⟩
  · obtain ⟨its, r, pl, _⟩ := I.tuple h
    obtain ⟨o, e, _⟩ := id pl
    exact ⟨its, r, pl, Heap.lt_size e⟩
theorem same (k : Kd) {K : PySem.W.Frag} {H H' : Hp} {a : Addr} {xs : List V} (s : Same H H') (h : k.Sq K H a xs) : k.Sq K H' a xs := by
  cases k
  · exact s.seq h
  · exact same_seqT s h
theorem of_items {K : PySem.W.Frag} {H : Hp} {v : V} {d : D} {ds : List D} (h : Dp K H v d) (e : items d = some ds) : ∃ (k : Kd) (a : Addr) (xs : List V), v = .ref a ∧ k.Sq K H a xs ∧ DpAll K H xs ds := by
  cases d with
  | list es => cases e; obtain ⟨a, vs, rfl, h1, h2⟩ := dp_list h; exact ⟨L, a, vs, rfl, h1, h2⟩
  | tuple es => cases e; obtain ⟨a, vs, rfl, h1, h2⟩ := dp_tuple h; exact ⟨T, a, vs, rfl, h1, h2⟩
  | _ => cases e
end Kd
/-- rows given out one by one, each a new tuple -/
def ItG (ok : Hp → Prop) (n : Nat) (row : Nat → List V) : It :=
  ⟨fun i H => ok H ∧ i < n, fun i H v H' => ∃ p, v = .ref p ∧ H p = none ∧ H' = upd H p (.tup (row i)), fun i H => ok H ∧ n ≤ i⟩
theorem turn_g {P : Program} {w : World} {K : PySem.W.Frag} {tg : Expr} {ok : Hp → Prop} {n : Nat} {row : Nat → List V} {fp : List Addr} {it : Addr} {S : Nat → Heap → Prop} (hm : it ∈ fp) (hn : ∀ i, (row i).length ≤ sizeLine)
    (ho : ∀ i h, S i h → ∀ b ∈ fp, ∃ o, h.get? b = some o ∧ ∀ v, o.data ≠ .cell v)
    (hk : ∀ i h h', S i h → (∀ b ∈ fp, ∀ o, h.get? b = some o → h'.get? b = some o) → S i h')
    (hw : ∀ (X : Cx), X.prog = P → X.w = w → X.K = K → X.calm = true → ∀ (pins : List (Addr × Obj)) (s : Shared) (σ : L2.St) (H : Hp), Inv X pins σ H s → ok H → ∀ i, S i s.heap → ∃ fp' wr St, (∀ b ∈ wr, b ∈ fp) ∧
      GoesN P w X.A tg it fp' wr n (fun i h₀ v h => ∃ T vals, v = .ref T ∧ h₀.objs.size ≤ T ∧ Vals (row i) vals ∧ h.IsTuple T vals.toArray) St ∧ St i s.heap ∧ ∀ j h, St j h → S j h)
    (hs : ∀ (A : Around) (i : Nat) (s : Shared) (Q : Value → Shared → Prop) (E : Value → Shared → Prop), S i s.heap → Q (.ref it) s → wpAny (model P w) A (pyIter (.ref it)) Q E s) :
    Turn P w K tg (ItG ok n row) fp it (fun i h => i ≤ n ∧ S i h) where
  mem := hm
  obj := fun i h st => ho i h st.2
  keep := fun i h h' st k => ⟨st.1, hk i h h' st.2 k⟩
  item := by
    intro X hP hW hK hc i pins s σ H E I hf st hg
    obtain ⟨fp', wr, St, hwr, W, w0, w1⟩ := hw X hP hW hK hc pins s σ H I hg.1 i st.2
    refine W.goes i s (fun u s2 => ∃ x H', Inv X pins σ H' s2 ∧ RelV x u ∧ (ItG ok n row).yld i H x H' ∧ (i + 1 ≤ n ∧ S (i + 1) s2.heap) ∧ ∀ b ∈ fp, H' b = none) E hg.2 w0 fun v h' tk y st' hkk htk => ?_
    obtain ⟨T, vals, rfl, hT, hv, hI⟩ := y
    have hlt : ∀ b ∈ fp, b < s.heap.objs.size := fun b hb => by obtain ⟨o, e, _⟩ := ho i _ st.2 b hb; exact Heap.lt_size e
    subst hP hW
    have new : ObjOk X.prog X.w (upd H T (.tup (row i))) h' T (.tup (row i)) := ⟨hn i, vals, hv, hI⟩
    have I1 : Inv X pins σ (upd H T (.tup (row i))) { s with heap := h', toks := tk } := I.turnedNew (ch := fp) (fun b o hb q => hkk b o (fun z => hb (hwr b z)) q) hf hT new
    refine ⟨.ref T, _, I1, rfl, ⟨T, rfl, I.hok.fresh hT, rfl⟩, ⟨hg.2, w1 _ _ st'⟩, fun b hb => ?_⟩
    rw [upd_ne (Nat.ne_of_lt (Nat.lt_of_lt_of_le (hlt b hb) hT))]
    exact (hf b hb).1
  done := by
    intro X hP hW hK hc i pins s σ H E I hf st hg
    obtain ⟨fp', wr, St, hwr, W, w0, w1⟩ := hw X hP hW hK hc pins s σ H I hg.1 i st.2
    have e : i = n := Nat.le_antisymm st.1 hg.2
    subst e
    exact W.stops s (fun s1 => Inv X pins σ H s1) E w0 fun h' tk hkk htk => I.turnedL (ch := fp) (fun b o hb q => hkk b o (fun z => hb (hwr b z)) q) hf
  self := fun A i s Q E st h => hs A i s Q E st.2 h
end Lw
namespace Lw
open PySem PySem.Spec PyProof.Rows L2
theorem vals_at {xs : List V} {its : List Value} {i : Nat} (r : Vals xs its) (h : i < xs.length) {u : Value} (e : its.toArray[i]? = some u) : RelV (xs.getD i .non) u := by
  obtain ⟨u', e', r'⟩ := r.get (List.getElem?_eq_getElem h)
  have : its[i]? = some u := by simpa using e
  rw [this] at e'
  cases e'
  rw [List.getD_eq_getElem?_getD, List.getElem?_eq_getElem h]
  exact r'
theorem mem5 (N : Nat) : ∀ c ∈ [N + 4, N + 2, N + 3, N, N + 1], N ≤ c := fun c hc => by
  have : c = N + 4 ∨ c = N + 2 ∨ c = N + 3 ∨ c = N ∨ c = N + 1 := by simpa using hc
  omega
theorem lt_ne {a N : Nat} (k : Nat) (h : a < N) : a ≠ N + k := by omega
def zS2 (k1 k2 : Kd) (z TI TO i1 i2 a b : Addr) (i : Nat) (h : Heap) : Prop := IsZip h z TI TO .none ∧ IsTupOf2 h TI (.ref i1) (.ref i2) ∧ (∃ x y, IsTupOf2 h TO x y) ∧ k1.Iter h i1 a i ∧ k2.Iter h i2 b i
theorem turn_z2 {P : Program} {w : World} {K : PySem.W.Frag} {elts : List Expr} {kk : Nat} {tpos : Pos} {k1 k2 : Kd} {z TI TO i1 i2 a b : Addr} {xs ys : List V} (SP : ZipSep2 z TI TO i1 i2 [i1, a] [i2, b]) (n1 : a ≠ i1) (n2 : b ≠ i2) :
    Turn P w K (.Tuple elts kk tpos) (ItG (fun H => k1.Sq K H a xs ∧ k2.Sq K H b ys) (min xs.length ys.length) (fun i => [xs.getD i .non, ys.getD i .non])) [z, TI, TO, i1, i2] z (fun i h => i ≤ min xs.length ys.length ∧ zS2 k1 k2 z TI TO i1 i2 a b i h) := by
  refine turn_g (by simp) (fun i => by show 2 ≤ sizeLine; decide) ?_ ?_ ?_ ?_
  · rintro i h ⟨e1, e2, ⟨x, y, e3⟩, e4, e5⟩ c hc
    have : c = z ∨ c = TI ∨ c = TO ∨ c = i1 ∨ c = i2 := by simpa using hc
    rcases this with rfl | rfl | rfl | rfl | rfl
    · exact ⟨_, e1, fun v q => nomatch q⟩
    · exact ⟨_, e2, fun v q => nomatch q⟩
    · exact ⟨_, e3, fun v q => nomatch q⟩
    · exact k1.iterOb e4
    · exact k2.iterOb e5
  · rintro i h h' ⟨e1, e2, ⟨x, y, e3⟩, e4, e5⟩ k
    exact ⟨k z (by simp) _ e1, k TI (by simp) _ e2, ⟨x, y, k TO (by simp) _ e3⟩, k1.iterAt e4 fun o q => k i1 (by simp) o q, k2.iterAt e5 fun o q => k i2 (by simp) o q⟩
  · intro X hP hW hK hc pins s σ H I hok i st
    subst hP hW hK
    obtain ⟨its, r1, s1, _⟩ := k1.inv I hok.1
    obtain ⟨its2, r2, s2, _⟩ := k2.inv I hok.2
    have hh : X.A.in1.handled = none := I.ok.hd hc
    have l1 := r1.length
    have l2 := r2.length
    have W := GoesN.zip2 (prog := X.prog) (w := X.w) (A := X.A) (elts := elts) (x1 := kk) (pos := tpos) SP (k1.draws hh i1 a n1 its.toArray) (k2.draws hh i2 b n2 its2.toArray)
    have en : min its.toArray.size its2.toArray.size = min xs.length ys.length := by rw [List.size_toArray, List.size_toArray, l1, l2]
    have W2 := W.mono (Y' := fun i h₀ v h => ∃ T vals, v = .ref T ∧ h₀.objs.size ≤ T ∧ Vals [xs.getD i .non, ys.getD i .non] vals ∧ h.IsTuple T vals.toArray) (fun i h₀ v h hi ⟨T, x, y, ev, hT, hx, hy, hI⟩ => ⟨T, [x, y], ev, hT, .cons (vals_at r1 (by omega) hx) (.cons (vals_at r2 (by omega) hy) .nil), hI⟩)
    rw [en] at W2
    exact ⟨_, [z, TO, i1, i2], _, by simp, W2, ⟨st.1, st.2.1, st.2.2.1, ⟨st.2.2.2.1, s1⟩, ⟨st.2.2.2.2, s2⟩⟩, fun j h e => ⟨e.1, e.2.1, e.2.2.1, e.2.2.2.1.1, e.2.2.2.2.1⟩⟩
  · exact fun A i s Q E st h => wpAny_pyIter_zip st.1 h
def iZipK (K : PySem.W.Frag) (ta : TA) : TI := fun σ H R => ta σ H fun vs H1 => ∃ (k1 k2 : Kd) (a b : Addr) (xs ys : List V), vs = [.ref a, .ref b] ∧ k1.Sq K H1 a xs ∧ k2.Sq K H1 b ys ∧
  R (ItG (fun H => k1.Sq K H a xs ∧ k2.Sq K H b ys) (min xs.length ys.length) (fun i => [xs.getD i .non, ys.getD i .non])) H1
section
variable {X : Cx} {e e2 e3 : Expr} {ta : TA} {p pos tpos : Pos} {elts : List Expr} {kk : Nat}
theorem fp_new {pins : List (Addr × Obj)} {σ : L2.St} {H : Hp} {s : Shared} (I : Inv X pins σ H s) {l : List Addr} (hl : ∀ c ∈ l, s.heap.objs.size ≤ c) : ∀ c ∈ l, FpOk X pins H c := fun c hc => I.fpOk (hl c hc) (I.hok.fresh (hl c hc))
theorem pi_zipK (hg : Gl X "zip") (hm : X.mg "zip" = none) (ha : PA X [e, e2] ta) (hs : starEach [e, e2] X.env = (false, eval e X.env) :: starEach [e2] X.env := by rfl) (hpl : (backTo pos (starEach [e2] X.env)).any (·.1) = false := by rfl) :
    PI X (.Tuple elts kk tpos) (.Call (.Name "zip" p) [e, e2] [] pos) (iZipK X.K ta) := by
  constructor
  intro pins s σ H R I h
  refine Call_ (ld_blt I hg hm PyProof.Rows.boot_zip (PyProof.Rows.callWith_type1 (thn (ha.run pos pins s σ H _ I h) fun us s1 ⟨vs, H1, I1, r1, q1⟩ => ?_) hs hpl))
  obtain ⟨k1, k2, a, b, xs, ys, ex, h1, h2, q⟩ := q1
  subst ex
  obtain ⟨u1, us1, rfl, ra, r1⟩ : ∃ u us', us = u :: us' ∧ RelV (.ref a) u ∧ Vals [.ref b] us' := by cases r1 with | cons x y => exact ⟨_, _, rfl, x, y⟩
  obtain ⟨u2, us2, rfl, rb, r1⟩ : ∃ u us', us1 = u :: us' ∧ RelV (.ref b) u ∧ Vals [] us' := by cases r1 with | cons x y => exact ⟨_, _, rfl, x, y⟩
  cases r1
  cases ra
  cases rb
  obtain ⟨its, v1, s1', l1⟩ := k1.inv I1 h1
  obtain ⟨its2, v2, s2', l2⟩ := k2.inv I1 h2
  refine zip_begins2 (k1.begins a its.toArray) (k2.begins b its2.toArray) s1' s2' fun h' hz hTI hTO g1 g2 hsz hk => wpAny_pyIter_zip hz ?_
  have I2 : Inv X pins σ H1 { s1 with heap := h' } := I1.kept (t' := s1.toks) hk
  refine ⟨s1.heap.objs.size + 4, [s1.heap.objs.size + 4, s1.heap.objs.size + 2, s1.heap.objs.size + 3, s1.heap.objs.size, s1.heap.objs.size + 1], _, _, H1, rfl, I2, turn_z2 ?_ (Nat.ne_of_lt l1) (Nat.ne_of_lt (Nat.lt_succ_of_lt l2)), ⟨Nat.zero_le _, hz, hTI, ⟨_, _, hTO⟩, k1.iter0 g1, k2.iter0 g2⟩, fp_new I1 ?_, q⟩
  · exact zip_sep2 (fun d hd => by cases List.mem_singleton.1 hd; exact l1) (fun d hd => by cases List.mem_singleton.1 hd; exact l2)
  · exact mem5 _
end
def eS (k1 : Kd) (e it a : Addr) (i : Nat) (h : Heap) : Prop := (∃ old, IsEnum h e it ((i : Nat) : Int) old) ∧ k1.Iter h it a i
theorem turn_e {P : Program} {w : World} {K : PySem.W.Frag} {elts : List Expr} {kk : Nat} {tpos : Pos} {k1 : Kd} {e it a : Addr} {xs : List V} (n1 : a ≠ it) (n2 : e ≠ it) (n3 : e ≠ a) :
    Turn P w K (.Tuple elts kk tpos) (ItG (fun H => k1.Sq K H a xs) xs.length (fun i => [.int ((i : Nat) : Int), xs.getD i .non])) [e, it] e (fun i h => i ≤ xs.length ∧ eS k1 e it a i h) := by
  refine turn_g (by simp) (fun i => by show 2 ≤ sizeLine; decide) ?_ ?_ ?_ ?_
  · rintro i h ⟨⟨old, e1⟩, e2⟩ d hc
    have : d = e ∨ d = it := by simpa using hc
    rcases this with rfl | rfl
    · exact ⟨_, e1, fun v q => nomatch q⟩
    · exact k1.iterOb e2
  · rintro i h h' ⟨⟨old, e1⟩, e2⟩ k
    exact ⟨⟨old, k e (by simp) _ e1⟩, k1.iterAt e2 fun o q => k it (by simp) o q⟩
  · intro X hP hW hK hc pins s σ H I hok i st
    subst hP hW hK
    obtain ⟨its, r1, s1, _⟩ := k1.inv I hok
    have hh : X.A.in1.handled = none := I.ok.hd hc
    have l1 := r1.length
    have W := GoesN.enumFrom (prog := X.prog) (w := X.w) (A := X.A) (elts := elts) (x1 := kk) (pos := tpos) 0 (k1.draws hh it a n1 its.toArray) e n2 (by simp [n2, n3]) (by simp)
    have en : its.toArray.size = xs.length := by rw [List.size_toArray, l1]
    have W2 := W.mono (Y' := fun i h₀ v h => ∃ T vals, v = .ref T ∧ h₀.objs.size ≤ T ∧ Vals [V.int ((i : Nat) : Int), xs.getD i .non] vals ∧ h.IsTuple T vals.toArray) (fun i h₀ v h hi ⟨T, t, x, ev, hT, hx, hI⟩ => ⟨T, [.int (0 + (i : Int)) t, x], ev, hT, .cons ⟨t, by rw [Int.zero_add]⟩ (.cons (vals_at r1 (by omega) hx) .nil), hI⟩)
    rw [en] at W2
    refine ⟨_, [e, it], _, by simp, W2, ⟨?_, st.2, s1⟩, fun j h q => ⟨?_, q.2.1⟩⟩
    · obtain ⟨old, q⟩ := st.1; exact ⟨old, by rw [Int.zero_add]; exact q⟩
    · obtain ⟨old, q⟩ := q.1; exact ⟨old, by rw [Int.zero_add] at q; exact q⟩
  · exact fun A i s Q E st h => wpAny_pyIter_enum st.1.choose_spec h
def iEnumK (K : PySem.W.Frag) (ta : TA) : TI := fun σ H R => ta σ H fun vs H1 => ∃ (k1 : Kd) (a : Addr) (xs : List V), vs = [.ref a] ∧ k1.Sq K H1 a xs ∧ R (ItG (fun H => k1.Sq K H a xs) xs.length (fun i => [.int ((i : Nat) : Int), xs.getD i .non])) H1
section
variable {X : Cx} {e e2 e3 : Expr} {ta : TA} {p pos tpos : Pos} {elts : List Expr} {kk : Nat}
theorem enum_new {v : Value} {o : Obj} {B : Heap → Prop} (b : Begins v o B) : Meets (Builtin.«enumerate.__new__» ⟨[.type "enumerate", v], []⟩) (fun _ R s => B s.heap ∧ R (.ok (.ret (.ref (s.heap.push o).objs.size))) { s with heap := (s.heap.push o).push { cls := .type "enumerate", data := .fields #[.none, .bool false, .ref s.heap.objs.size, rawInt 0, .none, .none] } }) := .of_wp fun prog w A R s h => by
  obtain ⟨hp, g, d, tk, os⟩ := s
  obtain ⟨hb, h⟩ := h
  have sb := sub_enumerate
  have qi : ∀ {A' : Around} {E : Value → Shared → Prop} {Q : Value → Shared → Prop}, Q (.ref hp.objs.size) ⟨hp.push o, g, d, tk, os⟩ → wpAny (model prog w) A' (pyIter v) Q E ⟨hp, g, d, tk, os⟩ := fun q => b.iter prog w _ _ ⟨hp, g, d, tk, os⟩ _ hb q
  wp_walk using qi
  refine wpAny_stack_any fun st => wpAny_pure ?_
  split
  · rename_i c _ _ _ _ _
    cases (c == Value.type "enumerate") <;> (wp_walk using qi; exact ⟨_, rfl, h⟩)
  · wp_walk using qi
    exact ⟨_, rfl, h⟩
theorem enum_call {P : Program} {w : World} {A : Around} {E : Value → Shared → Prop} {s : Shared} {v : Value} {o : Obj} {B : Heap → Prop} {Q : Value → Shared → Prop} (b : Begins v o B) (hb : B s.heap)
    (h : ∀ h', IsEnum h' (s.heap.objs.size + 1) s.heap.objs.size 0 .none → h'.get? s.heap.objs.size = some o → (∀ c u, s.heap.get? c = some u → h'.get? c = some u) → Q (.ref (s.heap.objs.size + 1)) { s with heap := h' }) :
    wpAny (model P w) A (call (.type "enumerate") [v]) Q E s := by
  refine callType_new F.called_enumerate (by decide) (F.typeCall_enumerate_1 _) (F.newCall_enumerate_1 _) (fun obj => F.args_object_init_2 obj _) F.entry_enumerate_new (enum_new b) ⟨hb, ?_⟩
  have hz : (s.heap.push o).objs.size = s.heap.objs.size + 1 := Heap.size_push ..
  show _ ∧ _
  rw [hz]
  have he := Heap.get?_push_size (s.heap.push o) (o := { cls := .type "enumerate", data := .fields #[.none, .bool false, .ref s.heap.objs.size, rawInt 0, .none, .none] }) rfl
  rw [hz] at he
  exact ⟨⟨_, he, rfl⟩, h _ he (Heap.get?_push_of_some _ (Heap.get?_push_size _ b.free)) fun c u x => Heap.get?_push_of_some _ (Heap.get?_push_of_some _ x)⟩
theorem pi_enumK (hg : Gl X "enumerate") (hm : X.mg "enumerate" = none) (ha : PA X [e] ta) (hs : starEach [e] X.env = [(false, eval e X.env)] := by rfl) : PI X (.Tuple elts kk tpos) (.Call (.Name "enumerate" p) [e] [] pos) (iEnumK X.K ta) := by
  constructor
  intro pins s σ H R I h
  refine Call_ (ld_blt I hg hm boot_enumerate (PyProof.Rows.callWith_type1 (thn (ha.run pos pins s σ H _ I h) fun us s1 ⟨vs, H1, I1, r1, q1⟩ => ?_) hs rfl))
  obtain ⟨k1, a, xs, ex, h1, q⟩ := q1
  subst ex
  obtain ⟨u1, us1, rfl, ra, r1⟩ : ∃ u us', us = u :: us' ∧ RelV (.ref a) u ∧ Vals [] us' := by cases r1 with | cons x y => exact ⟨_, _, rfl, x, y⟩
  cases r1
  cases ra
  obtain ⟨its, v1, s1', l1⟩ := k1.inv I1 h1
  refine enum_call (k1.begins a its.toArray) s1' fun h' he g1 hk => wpAny_pyIter_enum he ?_
  have I2 : Inv X pins σ H1 { s1 with heap := h' } := I1.kept (t' := s1.toks) hk
  refine ⟨s1.heap.objs.size + 1, [s1.heap.objs.size + 1, s1.heap.objs.size], _, _, H1, rfl, I2, turn_e (lt_ne 0 l1) (Nat.succ_ne_self _) (Ne.symm (lt_ne 1 l1)), ⟨Nat.zero_le _, ⟨.none, he⟩, k1.iter0 g1⟩, fp_new I1 ?_, q⟩
  intro c hc
  have : c = s1.heap.objs.size + 1 ∨ c = s1.heap.objs.size := by simpa using hc
  rcases this with rfl | rfl
  · exact Nat.le_succ _
  · exact Nat.le_refl _
end
/-- what is walked, in data -/
theorem walk_g {K : PySem.W.Frag} {G : Hp} {ok : Hp → Prop} {n : Nat} {row : Nat → List V} {ds : List D} (hok : ∀ H, Same G H → ok H) (hn : ds.length = n) (hr : ∀ (i : Nat) d, ds[i]? = some d → ∃ es, d = .tuple es ∧ DpAll K G (row i) es) : WalkD K G (ItG ok n row) ds where
  stop := fun H s => ⟨hok H s, by omega⟩
  go := fun i H hl s => ⟨hok H s, by omega⟩
  yld := fun i H x H' d s y e => by
    obtain ⟨p, rfl, hp, rfl⟩ := y
    obtain ⟨es, rfl, he⟩ := hr i d e
    exact .inr ⟨p, _, es, rfl, hp, rfl, rfl, he⟩
theorem dpa_getD {K : PySem.W.Frag} {G : Hp} {vs : List V} {ds : List D} {i : Nat} {d : D} (h : DpAll K G vs ds) (e : ds[i]? = some d) : Dp K G (vs.getD i .non) d := by
  obtain ⟨v, e1, e2⟩ := dpa_get h e
  rw [List.getD_eq_getElem?_getD, e1]
  exact e2
/-- three at once -/
def zipD3 : List D → List D → List D → List D
  | a :: as, b :: bs, c :: cs => .tuple [a, b, c] :: zipD3 as bs cs
  | _, _, _ => []
section
variable {X : Cx} {a b c : Expr} {fa fb fc : M R} {p pos p2 : Pos} {elts : List Expr} {kk : Nat}
def itZ2 (fa fb : M R) : M (List D) := bd (esc fa) fun d => bd (esc fb) fun d2 => bd (lift (items d)) fun xs => bd (lift (items d2)) fun ys => ret (zipD xs ys)
def itZ3 (fa fb fc : M R) : M (List D) := bd (esc fa) fun d => bd (esc fb) fun d2 => bd (esc fc) fun d3 => bd (lift (items d)) fun xs => bd (lift (items d2)) fun ys => bd (lift (items d3)) fun zs => ret (zipD3 xs ys zs)
def itEn (fa : M R) : M (List D) := bd (esc fa) fun d => bd (lift (items d)) fun xs => ret (enumD 0 xs)
theorem i_zip2 (hg : Gl X "zip") (hm : X.mg "zip" = none) (ha : PEd X a fa) (hb : PEd X b fb) (hs1 : starEach [a, b] X.env = (false, eval a X.env) :: starEach [b] X.env := by rfl) (hs2 : starEach [b] X.env = (false, eval b X.env) :: starEach [] X.env := by rfl) (hpl : (backTo pos (starEach [b] X.env)).any (·.1) = false := by rfl) :
    PId X (.Tuple elts kk p2) (.Call (.Name "zip" p) [a, b] [] pos) (itZ2 fa fb) := fun F => PI.mono (pi_zipK hg hm (pa_cons (d_esc ha F) (pa_cons (d_esc hb F) pa_nil hs2) hs1) hs1 hpl) fun σ H R hq => by
  obtain ⟨ς, G, rl, ds, ς', e, k⟩ := hq
  obtain ⟨d, ς1, e1, q1⟩ := bd_some e
  obtain ⟨d2, ς2, e2, q2⟩ := bd_some q1
  obtain ⟨xs, ς3, e3', q3⟩ := bd_some q2
  obtain ⟨e3, h3⟩ := lift_some e3'
  obtain ⟨ys, ς4, e4', q4⟩ := bd_some q3
  obtain ⟨e4, h4⟩ := lift_some e4'
  subst h3 h4
  cases q4
  refine ⟨ς, G, rl, d, _, e1, fun v H1 G1 rl1 s1 dp => ⟨ς1, G1, rl1, d2, _, e2, fun w H2 G2 rl2 s2 dp2 => ?_⟩⟩
  obtain ⟨k1, l1, vs, rfl, h1, g1⟩ := Kd.of_items (dp_same s2 dp) e3
  obtain ⟨k2, l2, ws, rfl, h2, g2⟩ := Kd.of_items dp2 e4
  refine ⟨k1, k2, l1, l2, vs, ws, rfl, k1.same rl2.sub h1, k2.same rl2.sub h2, k _ H2 G2 rl2 (s1.trans s2) (walk_g (fun H s => ⟨k1.same s h1, k2.same s h2⟩) (by rw [zipD_len, dpa_len g1, dpa_len g2]) fun i d e => ?_)⟩
  obtain ⟨x, y, f1, f2, rfl⟩ := zipD_get xs ys i d e
  exact ⟨_, rfl, .cons (dpa_getD g1 f1) (.cons (dpa_getD g2 f2) .nil)⟩
theorem i_enumK (hg : Gl X "enumerate") (hm : X.mg "enumerate" = none) (ha : PEd X a fa) (hs : starEach [a] X.env = [(false, eval a X.env)] := by rfl) : PId X (.Tuple elts kk p2) (.Call (.Name "enumerate" p) [a] [] pos) (itEn fa) := fun F => PI.mono (pi_enumK hg hm (pa_cons (d_esc ha F) pa_nil hs) hs) fun σ H R hq => by
  obtain ⟨ς, G, rl, ds, ς', e, k⟩ := hq
  obtain ⟨d, ς1, e1, q1⟩ := bd_some e
  obtain ⟨xs, ς3, e3', q3⟩ := bd_some q1
  obtain ⟨e3, h3⟩ := lift_some e3'
  subst h3
  cases q3
  refine ⟨ς, G, rl, d, _, e1, fun v H1 G1 rl1 s1 dp => ?_⟩
  obtain ⟨k1, l1, vs, rfl, h1, g1⟩ := Kd.of_items dp e3
  refine ⟨k1, l1, vs, rfl, k1.same rl1.sub h1, k _ H1 G1 rl1 s1 (walk_g (fun H s => k1.same s h1) (by rw [enumD_len, dpa_len g1]) fun i d e => ?_)⟩
  rw [enumD_get] at e
  cases q : xs[i]? with
  | none => rw [q] at e; cases e
  | some d' =>
    rw [q] at e
    cases e
    refine ⟨_, rfl, .cons ?_ (.cons (dpa_getD g1 q) .nil)⟩
    rw [Nat.zero_add]
    exact .int _
end
namespace Sm
variable {ς : En}
theorem itZ2 {fa fb : M R} {Q : List D → En → Prop} (h : wp fa ς fun r ς1 => ∃ d ς2, toD r ς1 = some (d, ς2) ∧ wp fb ς2 fun r2 ς3 => ∃ d2 ς4, toD r2 ς3 = some (d2, ς4) ∧ ∃ xs ys, items d = some xs ∧ items d2 = some ys ∧ Q (zipD xs ys) ς4) : wp (Lw.itZ2 fa fb) ς Q := by
  refine bd (esc (mono h fun r ς1 h => ?_))
  obtain ⟨d, ς2, e, h⟩ := h
  refine ⟨d, ς2, e, bd (esc (mono h fun r2 ς3 h => ?_))⟩
  obtain ⟨d2, ς4, e2, xs, ys, i1, i2, q⟩ := h
  exact ⟨d2, ς4, e2, bd (lift i1 (bd (lift i2 (ret q))))⟩
theorem itZ3 {fa fb fc : M R} {Q : List D → En → Prop} (h : wp fa ς fun r ς1 => ∃ d ς2, toD r ς1 = some (d, ς2) ∧ wp fb ς2 fun r2 ς3 => ∃ d2 ς4, toD r2 ς3 = some (d2, ς4) ∧ wp fc ς4 fun r3 ς5 => ∃ d3 ς6, toD r3 ς5 = some (d3, ς6) ∧ ∃ xs ys zs, items d = some xs ∧ items d2 = some ys ∧ items d3 = some zs ∧ Q (zipD3 xs ys zs) ς6) : wp (Lw.itZ3 fa fb fc) ς Q := by
  refine bd (esc (mono h fun r ς1 h => ?_))
  obtain ⟨d, ς2, e, h⟩ := h
  refine ⟨d, ς2, e, bd (esc (mono h fun r2 ς3 h => ?_))⟩
  obtain ⟨d2, ς4, e2, h⟩ := h
  refine ⟨d2, ς4, e2, bd (esc (mono h fun r3 ς5 h => ?_))⟩
  obtain ⟨d3, ς6, e3, xs, ys, zs, i1, i2, i3, q⟩ := h
  exact ⟨d3, ς6, e3, bd (lift i1 (bd (lift i2 (bd (lift i3 (ret q))))))⟩
theorem itEn {f : M R} {Q : List D → En → Prop} (h : wp f ς fun r ς1 => ∃ d ς2, toD r ς1 = some (d, ς2) ∧ ∃ xs, items d = some xs ∧ Q (enumD 0 xs) ς2) : wp (Lw.itEn f) ς Q :=
  bd (esc (mono h fun r ς1 ⟨d, ς2, e, xs, i1, q⟩ => ⟨d, ς2, e, bd (lift i1 (ret q))⟩))
end Sm
end Lw
namespace Lw
open PySem PySem.Spec PyProof.Rows L2
/-! ### t[::-1] of a tuple -/
section
variable {P : Program} {w : World} {A : Around} {E : Value → Shared → Prop} {s : Shared}
theorem rev_applied {sl : Addr} {n : Nat} {u : Tok} {Q : Int × Int × Nat → Shared → Prop} (hs : s.heap.IsSliceOf sl .none .none (.int (-1) u)) (h : Q ((n : Int) - 1, -1, n) s) : wpAny (model P w) A (Builtin.Slice.sliceApplied (.ref sl) (pure (n : Int))) Q E s := by
  obtain ⟨os, f1, _, f2⟩ := id hs
  unfold Builtin.Slice.sliceApplied Builtin.Slice.sliceFields
  refine wpAny_bind (wpAny_bind (wpAny_field f1 f2 (x := .none) rfl (wpAny_bind (wpAny_field f1 f2 (x := .none) rfl (wpAny_bind (wpAny_field f1 f2 (x := .int (-1) u) rfl (wpAny_pure ?_)))))))
  refine wpAny_bind (slicePart_int ?_)
  show wpAny _ _ (if ((-1 : Int) == 0) = true then _ else _) _ _ s
  rw [if_neg (by decide)]
  refine wpAny_bind (slicePart_none (wpAny_bind (slicePart_none (wpAny_bind (wpAny_pure ?_)))))
  show wpAny _ _ (match Builtin.Slice.sliceAdjust none none (-1) (n : Int) with | (lo, hi) => pure (lo, (-1 : Int), Builtin.Slice.slicePlaces lo hi (-1))) _ _ s
  have e : Builtin.Slice.sliceAdjust none none (-1) (n : Int) = ((n : Int) - 1, -1) := by
    unfold Builtin.Slice.sliceAdjust
    simp
  rw [e]
  show wpAny _ _ (pure ((n : Int) - 1, (-1 : Int), Builtin.Slice.slicePlaces ((n : Int) - 1) (-1) (-1))) _ _ s
  have e2 : Builtin.Slice.slicePlaces ((n : Int) - 1) (-1) (-1) = n := by
    unfold Builtin.Slice.slicePlaces
    by_cases hn : n = 0
    · subst hn; simp
    · simp; omega
  rw [e2]
  exact wpAny_pure h
theorem rev_pick (xs : Array Value) : ((List.range xs.size).filterMap fun (k : Nat) => xs[((xs.size : Int) - 1 + (k : Int) * (-1)).toNat]?).toArray = xs.toList.reverse.toArray := by
  have e := PySem.W.krv_pick xs
  unfold slicePick at e
  rw [PySem.W.krv_bounds] at e
  replace e : ((sliceRange ((xs.size : Int) - 1) (-1) (-1)).filterMap (xs[·]?)).toArray = xs.toList.reverse.toArray := e
  rw [← e, PySem.W.krv_sliceRange, List.filterMap_map]
  have key : ∀ l : List Nat, (l.filterMap fun (k : Nat) => xs[((xs.size : Int) - 1 + (k : Int) * (-1)).toNat]?) = l.filterMap ((xs[·]?) ∘ fun k => xs.size - 1 - k) := by
    intro l
    induction l with
    | nil => rfl
    | cons k l ih =>
      have : xs[((xs.size : Int) - 1 + (k : Int) * (-1)).toNat]? = ((xs[·]?) ∘ fun k => xs.size - 1 - k) k := by
        show _ = xs[xs.size - 1 - k]?
        congr 1
        omega
      rw [List.filterMap_cons, List.filterMap_cons, ih, this]
  rw [key]
theorem rev_get {t sl : Addr} {its : Array Value} {u : Tok} {Q : Value → Shared → Prop} (ht : IsTup s.heap t its) (hs : s.heap.IsSliceOf sl .none .none (.int (-1) u)) (hz : its.size ≤ sizeLine)
    (h : Q (.ref s.heap.objs.size) { s with heap := s.heap.push { cls := .type "tuple", data := .seq its.toList.reverse.toArray } }) : wpAny (model P w) A (getItem (.ref t) (.ref sl)) Q E s := by
  have hd : sizeOk (.seq its.toList.reverse.toArray) := by
    show its.toList.reverse.toArray.size ≤ sizeLine
    rw [List.size_toArray, List.length_reverse, Array.length_toList]
    exact hz
  obtain ⟨os, f1, f2, _⟩ := id hs
  unfold getItem
  try with_reducible refine wpAny_holding ?_
  first | refine wpAny_bind (wpAny_pure ?_) | skip
  refine wpAny_bind (wpAny_sequenceKey ht.typeIs (by decide) (wpAny_bind (wpAny_callSpecial?_slot (name := Str.ofString "__getitem__") ht.typeIs PyProof.Rows.slot_tuple_getitem (wpAny_call_entry PyProof.Rows.slot_tuple_getitem ht.typeIs entry_tuple_getitem ?_ (args_tuple_getitem _ _)))))
  have tS : s.TypeIs (.ref sl) "slice" := ⟨os, f1, f2⟩
  show wpAny _ _ (Builtin.Tuple.tupleItemsOf (.ref t) >>= _) _ _ s
  refine wpAny_bind (tupleItemsOf_ ht (wpAny_bind (wpAny_typeOf tS ?_)))
  rw [if_pos (by decide)]
  refine wpAny_bind (rev_applied (n := its.size) hs ?_)
  show wpAny _ _ (if ((its.size : Int) - 1 == 0 && (-1 : Int) == 1 && its.size == its.size) = true then _ else _) _ _ s
  rw [if_neg (by simp), rev_pick]
  first
    | exact wpAny_bind (m := Builtin.Tuple.tupleExact _) (wpAny_newObj_type (wpAny_pure ⟨_, rfl, wpAny_pure h⟩) hd)
    | exact wpAny_bind (m := Builtin.Tuple.tupleExact _) (wpAny_newObj_type (wpAny_bind (wpAny_pure (wpAny_pure ⟨_, rfl, wpAny_pure h⟩))) hd)
    | exact wpAny_bind (wpAny_bind (m := Builtin.Tuple.tupleExact _) (wpAny_newObj_type (wpAny_pure (wpAny_pure ⟨_, rfl, wpAny_pure h⟩)) hd))
    | exact wpAny_bind (wpAny_bind (m := Builtin.Tuple.tupleExact _) (wpAny_newObj_type (wpAny_pure ⟨_, rfl, wpAny_pure h⟩) hd))
end
section
variable {X : Cx}
def tRevT (K : PySem.W.Frag) (te : TE) : TE := fun σ H Q => te σ H fun x H1 => ∃ a xs, x = .ref a ∧ SqT K H1 a xs ∧ ∀ p, H1 p = none → Q (.ref p) (upd H1 p (.tup xs.reverse))
theorem pe_revT {e : Expr} {te : TE} {k : Nat} {p1 p2 p3 pos : Pos} (he : PE X e te) : PE X (.Subscript e (.Slice none none (some (.UnaryOp .USub (.Constant (.int 1) k p1) p2)) p3) pos) (tRevT X.K te) := by
  constructor
  intro pins s σ H Q I h
  refine Subscript_ (thn (he.run pins s σ H _ I h) fun v s1 ⟨x, H1, I1, r1, a, xs, ex, hx, q⟩ => ?_)
  subst ex
  cases r1
  have hst : PO X (some (.UnaryOp .USub (.Constant (.int 1) k p1) p2)) (tPart (tUn (rU fun i => .int (-i)) (tC (.int 1)))) := po_some (pe_un un_neg pe_int)
  refine wpAny_Slice (thn (po_none.run pins s1 σ H1 (fun o H' => o = none ∧ H' = H1) I1 ⟨rfl, rfl⟩) fun vl s2 ⟨l, H2, I2, pl, el, e2⟩ => thn (po_none.run pins s2 σ H2 (fun o H' => o = none ∧ H' = H2) I2 ⟨rfl, rfl⟩) fun vu s3 ⟨u, H3, I3, pu, eu, e3⟩ => thn (hst.run pins s3 σ H3 (fun o H' => o = some (-1) ∧ H' = H3) I3 ⟨1, rfl, -1, rfl, rfl, rfl⟩) fun vs s4 ⟨o, H4, I4, ps, eo, e4⟩ => ?_)
  subst el e2 eu e3 eo e4
  cases pl
  cases pu
  obtain ⟨tk, rfl⟩ : ∃ tk, vs = .int (-1) tk := by cases ps; exact ⟨_, rfl⟩
  have I5 : Inv X pins σ H4 { s4 with heap := s4.heap.push { cls := .type "slice", data := .fields #[.none, .none, .int (-1) tk] } } := I4.kept (t' := s4.toks) fun b ob z => Heap.get?_push_of_some _ z
  obtain ⟨its, r, ht, hz⟩ := I5.tuple hx
  have hlen := r.length
  refine tail_any (ops := [.ref a, .ref s4.heap.objs.size]) ht.typeIs (PyProof.Rows.slot_tuple_getitem.lookup) (rev_get ht (Heap.IsSliceOf.new _ _ _ _) (by rw [List.size_toArray]; omega) ?_) (by with_unfolding_all rfl)
  refine ⟨.ref _, _, I5.laid (t' := s4.toks) (o := .tup xs.reverse) (fun b ob z => Heap.get?_push_of_some _ z) (Nat.le_refl _) ?_, rfl, q _ (I5.hok.fresh (Nat.le_refl _))⟩
  exact ⟨by rw [List.length_reverse]; exact hz, its.reverse, r.reverse, ⟨_, Heap.get?_push_size _ rfl, rfl, _, rfl⟩⟩
theorem _root_.L2.PE.or {e : Expr} {t t' : TE} (h : PE X e t) (h' : PE X e t') : PE X e (fun σ H Q => t σ H Q ∨ t' σ H Q) := ⟨fun pins s σ H Q I hw => by
  rcases hw with hw | hw
  · exact h.run pins s σ H Q I hw
  · exact h'.run pins s σ H Q I hw⟩
def gRev : D → Option R
  | .list ds => some (.fresh ds.reverse)
  | .tuple ds => some (.pure (.tuple ds.reverse))
  | _ => none
variable {a b c e : Expr} {fa fb fc f : M R} {pos p p1 p2 p3 : Pos} {x : Str}
theorem d_revA {k : Nat} (ha : PEd X a fa) : PEd X (.Subscript a (.Slice none none (some (.UnaryOp .USub (.Constant (.int 1) k p1) p2)) p3) pos) (cal1 gRev fa) :=
  fun F => PE.mono (PE.or (pe_revL (d_sub ha F)) (pe_revT (d_sub ha F))) fun σ H Q hq => by
    obtain ⟨ς, G, rl, r, ς', e, k⟩ := hq
    obtain ⟨a, ς1, e1, q1⟩ := bd_some e
    obtain ⟨x, ς4, e4', q4⟩ := bd_some q1
    obtain ⟨e4, h4⟩ := rd_some e4'
    obtain ⟨e5, h5⟩ := lift_some q4
    subst h4 h5
    cases x with
    | list ds =>
      refine .inl ⟨ς, G, rl, a, _, e1, fun v H1 G1 rl1 s1 rep1 => ?_⟩
      have rv := rdD_ok rl1 rep1 e4
      cases e5
      obtain ⟨p, vs, rfl, h1, h2⟩ := rv.list rl1.sub
      exact ⟨p, vs, rfl, h1, fun z hz => k _ _ G1 (rl1.layF hz) s1 (rl1.repF hz (dpa_rev h2))⟩
    | tuple ds =>
      refine .inr ⟨ς, G, rl, a, _, e1, fun v H1 G1 rl1 s1 rep1 => ?_⟩
      have rv := rdD_ok rl1 rep1 e4
      cases e5
      obtain ⟨p, vs, rfl, h1, h2⟩ := rv.tuple rl1.sub
      exact ⟨p, vs, rfl, h1, fun z hz => k _ _ _ (rl1.lay hz) (s1.trans (same_upd (rl1.gnone hz))) (rl1.layD hz (dpa_rev h2))⟩
    | _ => cases e5
/-! ### sum, min, max of a list or tuple -/
def rSumK (K : PySem.W.Frag) : List V → Hp → VK → Prop := fun vs H Q => ∃ (k : Kd) (a : Addr) (ns : List Int), vs = [V.ref a] ∧ k.Sq K H a (ns.map V.int) ∧ Q (.int ns.sum) H
theorem cr_sumK (hc : X.calm = true) : CallR X (.builtin "sum") (rSumK X.K) := by
  intro pins s σ H vs us Q I r h
  obtain ⟨k, a, ns, rfl, hs, q⟩ := h
  cases k with
  | L => exact cr_sum hc pins s σ H _ us Q I r ⟨a, ns, rfl, hs, q⟩
  | T =>
    obtain ⟨its, rv, hl, _⟩ := I.tuple hs
    rw [Vals.ref1 r]
    obtain ⟨xs, hx⟩ := rv.ints.allInts.items
    have hn : numsOf its.toArray.toList = ns := by rw [show its.toArray.toList = its from rfl, rv.ints.numsOf]
    rw [hx] at hl hn
    rw [nums_intItems] at hn
    refine PySem.W.ktm_sumG (I.ok.hd hc) hl fun h' tk t' hk => ⟨.int _, H, I.kept hk, ⟨t', ?_⟩, q⟩
    rw [preSum_eq, List.take_of_length_le (by simp), hn]
def gSumK (d : D) : Option R := match items d with
  | some ds => match intsD ds with
    | some bs => some (.pure (.int bs.sum))
    | none => none
  | none => none
theorem ints_rd {K : PySem.W.Frag} {G H : Hp} {v : V} {d : D} {ds : List D} {ns : List Int} (s : Same G H) (h : RdV K G H v d) (e : items d = some ds) (i : intsD ds = some ns) : ∃ (k : Kd) (a : Addr), v = .ref a ∧ k.Sq K H a (ns.map V.int) := by
  obtain ⟨k, a, xs, rfl, h1, h2⟩ := Kd.of_items (h.dp s) e
  rw [ints_map i] at h2
  rw [dpa_ints_inv h2] at h1
  exact ⟨k, a, rfl, h1⟩
theorem d_sumK (hc : X.calm = true) (hg : Gl X "sum") (hm : X.mg "sum" = none) (ha : PEd X a fa) (he : starEach [a] X.env = (false, eval a X.env) :: starEach [] X.env := by rfl) : PEd X (.Call (.Name "sum" p) [a] [] pos) (cal1 gSumK fa) := d_callB1 (cr_sumK hc) (fun F => ⟨fun ς G σ H x dx res Q rl hx e k => by
  unfold gSumK at e
  split at e
  · rename_i ds q
    split at e
    · rename_i bs q2
      cases e
      obtain ⟨kd, l, rfl, h1⟩ := ints_rd rl.sub hx q q2
      exact ⟨kd, l, bs, rfl, h1, k _ H G rl (Same.refl _) (.int _)⟩
    · cases e
  · cases e⟩) hg hm (by decide +kernel) ha (he := he) (hpl := rfl)
def rBest (K : PySem.W.Frag) (best : D → List D → D) : List V → Hp → VK → Prop := fun vs H Q => ∃ (k : Kd) (a : Addr) (xs : List V) (d : D) (ds : List D), vs = [V.ref a] ∧ k.Sq K H a xs ∧ DpAll K H xs (d :: ds) ∧ PySem.W.AlikeAll (d :: ds) ∧ PyData.depthAll (d :: ds) ≤ 60 ∧ ∀ v, v ∈ xs → Dp K H v (best d ds) → Q v H
theorem best_end {pins : List (Addr × Obj)} {σ : L2.St} {H : Hp} {s : Shared} {Q : VK} {xs : List V} {ds : List D} {its : List Value} {b : D} {i : Nat} {v : Value} {h' : Heap} {tk : Nat} {bs : List Addr} (I : Inv X pins σ H s) (hd : DpAll X.K H xs ds) (rv : Vals xs its) (e : its.toArray[i]? = some v) (hr : Reads h' v b bs) (hk : ∀ b o, s.heap.get? b = some o → h'.get? b = some o) (q : ∀ v, v ∈ xs → Dp X.K H v b → Q v H) :
    ∃ x H', Inv X pins σ H' { s with heap := h', toks := tk } ∧ RelV x v ∧ Q x H' := by
  have e' : its[i]? = some v := by simpa using e
  have hl := rv.length
  have hi : i < xs.length := by rw [hl]; exact (List.getElem?_eq_some_iff.mp e').1
  obtain ⟨u, e2, ru⟩ := rv.get (List.getElem?_eq_getElem hi)
  rw [e'] at e2
  cases e2
  obtain ⟨d, f1, f2⟩ := dpa_getV hd (List.getElem?_eq_getElem hi)
  obtain ⟨as, rd⟩ := Dp.reads I d _ _ f2 ru
  obtain ⟨z, _⟩ := PyProof.Rows.reads_det (fun b o e _ => hk b o e) rd hr
  subst z
  exact ⟨_, H, I.kept hk, ru, q _ (List.getElem_mem hi) f2⟩
theorem cr_minK' (hc : X.calm = true) (hu : X.A.units + 64 < cLine - 1) : CallR X (.builtin "min") (rBest X.K PySem.W.minD) := by
  intro pins s σ H vs us Q I r h
  obtain ⟨k, a, xs, d, ds, rfl, hs, hd, ha, hdp, q⟩ := h
  rw [Vals.ref1 r]
  cases k with
  | L =>
    obtain ⟨its, rv, hl, _⟩ := I.list hs
    obtain ⟨as, rs⟩ := Dp.readsAll I (d :: ds) xs its hd rv
    exact PySem.W.min_list_data (I.ok.hd hc) hl.isList rs ha (by omega) fun i v h' tk bs e hr hk => best_end I hd rv e hr hk q
  | T =>
    obtain ⟨its, rv, hl, _⟩ := I.tuple hs
    obtain ⟨as, rs⟩ := Dp.readsAll I (d :: ds) xs its hd rv
    exact PySem.W.min_tuple_data (I.ok.hd hc) hl rs ha (by omega) fun i v h' tk bs e hr hk => best_end I hd rv e hr hk q
theorem ints_alike (n : Int) (ns : List Int) : PySem.W.AlikeAll (PyData.int n :: ns.map PyData.int) := by
  have : PyData.int n :: ns.map PyData.int = (n :: ns).map PyData.int := rfl
  rw [this]
  constructor
  · intro x hx y hy
    obtain ⟨i, _, rfl⟩ := List.mem_map.1 hx
    obtain ⟨j, _, rfl⟩ := List.mem_map.1 hy
    unfold PySem.W.alike
    rfl
  · intro x hx z
    obtain ⟨i, _, rfl⟩ := List.mem_map.1 hx
    cases z
theorem ints_depth : ∀ ns : List Int, PyData.depthAll (ns.map PyData.int) ≤ 1
  | [] => by simp [PyData.depthAll]
  | n :: ns => by
    have := ints_depth ns
    simp only [List.map_cons, PyData.depthAll, PyData.depth]
    omega
def gMinK (d : D) : Option R := match items d with
  | some ds => match intsD ds with
    | some (n :: ns) => some (.pure (.int (ns.foldl min n)))
    | _ => none
  | none => none
theorem best_call {K : PySem.W.Frag} {F : Fx} {ς : En} {G H : Hp} {σ : L2.St} {x : V} {dx : D} {ds : List D} {n : Int} {ns : List Int} {Q : VK} {best : D → List D → D} {m : Int} (hb : best (.int n) (ns.map PyData.int) = .int m) (rl : Rel K F ς G σ H) (hx : RdV K G H x dx) (q : items dx = some ds) (q2 : intsD ds = some (n :: ns)) (k : Q (.int m) H) : rBest K best [x] H Q := by
  obtain ⟨kd, a, xs, rfl, h1, h2⟩ := Kd.of_items (hx.dp rl.sub) q
  rw [ints_map q2] at h2
  refine ⟨kd, a, xs, .int n, ns.map PyData.int, rfl, h1, h2, ints_alike n ns, ?_, fun v _ hv => ?_⟩
  · have := ints_depth (n :: ns)
    rw [List.map_cons] at this
    omega
  · rw [hb] at hv
    rw [dp_int hv]
    exact k
theorem d_minK (hc : X.calm = true) (hu : X.A.units + 64 < cLine - 1) (hg : Gl X "min") (hm : X.mg "min" = none) (ha : PEd X a fa) (he : starEach [a] X.env = (false, eval a X.env) :: starEach [] X.env := by rfl) : PEd X (.Call (.Name "min" p) [a] [] pos) (cal1 gMinK fa) := d_callB1 (cr_minK' hc hu) (fun F => ⟨fun ς G σ H x dx res Q rl hx e k => by
  unfold gMinK at e
  split at e
  · rename_i ds q
    split at e
    · rename_i n ns q2
      cases e
      exact best_call (PySem.W.minD_ints n ns) rl hx q q2 (k _ H G rl (Same.refl _) (.int _))
    · cases e
  · cases e⟩) hg hm (by decide +kernel) ha (he := he) (hpl := rfl)
end
end Lw
namespace Lw
open PySem PySem.Spec PyProof.Rows L2
section
variable {X : Cx} {a b c e tg : Expr} {es : List Expr} {fa fb fc f : M R} {ta : M Bool} {pos p p1 p2 p3 : Pos} {x : Str} {st : Stmt} {sts rest : List Stmt} {g g1 g2 : MS}
theorem relab_look {c : Str → NameKind → Bool} : ∀ {names : List (Str × NameKind)} {y : Str}, (names.lookup y = some .cell ∨ names.lookup y = some .free) → ((names.map fun (n, k) => if (k == NameKind.free && c n k) = true then (n, NameKind.cell) else (n, k)).lookup y = some .cell ∨ (names.map fun (n, k) => if (k == NameKind.free && c n k) = true then (n, NameKind.cell) else (n, k)).lookup y = some .free)
  | [], _, h => by simp at h
  | (n, k) :: r, y, h => by
    have ih := @relab_look c r y
    rw [List.map_cons]
    dsimp only
    by_cases e : (y == n) = true
    · simp only [List.lookup_cons, e] at h
      by_cases q : (k == NameKind.free && c n k) = true
      · rw [if_pos q]; simp [List.lookup_cons, e]
      · rw [if_neg q]; simpa [List.lookup_cons, e] using h
    · have e' : (y == n) = false := by simpa using e
      simp only [List.lookup_cons, e'] at h
      by_cases q : (k == NameKind.free && c n k) = true
      · rw [if_pos q]; simpa [List.lookup_cons, e'] using ih h
      · rw [if_neg q]; simpa [List.lookup_cons, e'] using ih h
theorem blkOk_n {N : List Str} {sc scope : Scope} {own : List (Str × Nat)} {cl : List (Str × Addr)} {C : Addr} {env0 : Env} (h : blkC N sc scope own = true) : BlkOk N (compEnvC sc cl C env0).scope scope own := by
  have o := blkOk_by h
  refine ⟨o.kind, o.uniq, o.ix, fun y hy hf => ?_, o.own⟩
  have := relab_look (c := fun n k => env0.scope.kind == .function && env0.kindOf n == some .cell) (o.free y hy hf)
  simpa [compEnvC, relabel, Bool.and_assoc] using this
/-- what no way of ours comes to -/
def rse : MS := fun _ => none
/-! ### [*a, b, ..] -/
def argX (f : M R) (g : M (List Ar)) : M (List Ar) := bd (esc f) fun d => bd (lift (items d)) fun ds => bd g fun as => ret (avs ds ++ as)
theorem avs_ok {K : PySem.W.Frag} {G : Hp} {σ : L2.St} : ∀ {ds : List D} {vs : List V} {as : List Ar} {ws : List V}, DpAll K G vs ds → Paired (RepAr K G σ) as ws → Paired (RepAr K G σ) (avs ds ++ as) (vs ++ ws)
  | _, _, _, _, .nil, h => h
  | _, _, _, _, .cons r t, h => .cons r (avs_ok t h)
theorem a_star {ga : M (List Ar)} (ha : PEd X a fa) (hr : PAd X es ga) (hs : starEach (.Starred a p :: es) X.env = (true, eval a X.env) :: starEach es X.env := by rfl) : PAd X (.Starred a p :: es) (argX fa ga) := fun F => PA.mono (StX.pa_star (d_esc ha F) (hr F) hs) fun σ H Q hq => by
  obtain ⟨ς, G, rl, r, ς', e, k⟩ := hq
  obtain ⟨d, ς1, e1, q1⟩ := bd_some e
  obtain ⟨ds, ς3, e3', q3⟩ := bd_some q1
  obtain ⟨e3, h3⟩ := lift_some e3'
  subst h3
  obtain ⟨as, ς2, e2, q2⟩ := bd_some q3
  cases q2
  refine ⟨ς, G, rl, d, _, e1, fun v H1 G1 rl1 s1 dp => ?_⟩
  obtain ⟨kd, l, vs, rfl, h1, h2⟩ := Kd.of_items dp e3
  refine ⟨l, vs, rfl, ?_, _, G1, rl1, as, _, e2, fun ws H2 G2 rl2 s2 ps => k (vs ++ ws) H2 G2 rl2 (s1.trans s2) (avs_ok (dpa_same s2 h2) ps)⟩
  cases kd with
  | L => exact .inr (rl1.sub.seq h1)
  | T => exact .inl (same_seqT rl1.sub h1)
theorem vals_avs : ∀ {ds : List D} {as : List Ar} {es : List D}, vals as = some es → vals (avs ds ++ as) = some (ds ++ es)
  | [], _, _, h => h
  | d :: ds, as, es, h => by
    show (match vals (avs ds ++ as) with | some ws => some (d :: ws) | none => none) = _
    rw [vals_avs h]
    rfl
theorem Sm.argX {ς : En} {Q : List Ar → En → Prop} {f : M R} {g : M (List Ar)} (h : wp f ς fun r ς1 => ∃ d ς2, toD r ς1 = some (d, ς2) ∧ ∃ ds, items d = some ds ∧ wp g ς2 fun as ς3 => Q (avs ds ++ as) ς3) : wp (Lw.argX f g) ς Q :=
  Sm.bd (Sm.esc (Sm.mono h fun r ς1 ⟨d, ς2, e, ds, e2, q⟩ => ⟨d, ς2, e, Sm.bd (Sm.lift e2 (Sm.bd (Sm.mono q fun as ς3 q => Sm.ret q)))⟩))
/-! ### x += e, of numbers -/
def augI (i : Nat) (h : Int → Int → Int) (f : M R) : MS := fun ς => match ς[i]? with
  | some (some (.pure (.int m))) => match esc f ς with
    | some (.int n, ς1) => if free ς1 i = true then some (.nx (ς1.set i (some (.pure (.int (h m n)))))) else none
    | _ => none
  | _ => none
theorem s_augI {i : Nat} {h : Int → Int → Int} {op : Operator} (he : PEd X e f) (hs : ∀ te, PE X e te → PS X (.AugAssign (.Name x p) op e pos) (tAug i te (ipI h))) : PSd X (.AugAssign (.Name x p) op e pos) (augI i h f) := fun F => PS.mono (hs _ (d_esc he F)) fun D σ H hq => by
  obtain ⟨ς, G, rl, o, e, k⟩ := hq
  unfold augI at e
  split at e
  · rename_i m q
    split at e
    · rename_i n ς1 q1
      split at e
      · rename_i hf
        cases e
        obtain ⟨v, h1, h2⟩ := rl.pu i _ q
        rw [dp_int h2] at h1
        refine ⟨_, h1, ς, G, rl, _, _, q1, fun w H1 G1 rl1 s1 dp => ⟨m, n, rfl, dp_int dp, k _ H1 G1 (rl1.setP hf (.int _)) s1⟩⟩
      · cases e
    · cases e
  · cases e
theorem Sm.augI {ς : En} {Q : Out → Prop} {i : Nat} {h : Int → Int → Int} {m : Int} (e : ς[i]? = some (some (.pure (.int m)))) (hh : wp f ς fun r ς1 => ∃ n ς2, toD r ς1 = some (.int n, ς2) ∧ free ς2 i = true ∧ Q (.nx (ς2.set i (some (.pure (.int (h m n))))))) : wps (Lw.augI i h f) ς Q := by
  obtain ⟨r, ς1, e1, n, ς2, e2, hf, q⟩ := hh
  refine ⟨_, ?_, q⟩
  have ee : Lw.esc f ς = some (.int n, ς2) := by unfold Lw.esc Lw.bd; rw [e1]; exact e2
  unfold Lw.augI
  simp only [e, ee]
  exact if_pos hf
/-! ### [..] * n -/
theorem _root_.L2.PE.ex {t : Fx → TE} (h : ∀ F, PE X e (t F)) : PE X e (fun σ H Q => ∃ F, t F σ H Q) := ⟨fun pins s σ H Q I ⟨F, hw⟩ => (h F).run pins s σ H Q I hw⟩
def repE (fa : M R) (n : Nat) : M R := bd fa fun r => match r with
  | .fresh ds => if ds.length * n ≤ 1000 ∧ n ≤ 1000 then ret (.fresh (List.replicate n ds).flatten) else lift none
  | _ => lift none
theorem Sm.repE {ς : En} {Q : R → En → Prop} {n : Nat} (h : wp fa ς fun r ς1 => ∃ ds, r = .fresh ds ∧ (ds.length * n ≤ 1000 ∧ n ≤ 1000) ∧ Q (.fresh (List.replicate n ds).flatten) ς1) : wp (Lw.repE fa n) ς Q := by
  refine Sm.bd (Sm.mono h fun r ς1 ⟨ds, e, hl, q⟩ => ?_)
  subst e
  show wp (if ds.length * n ≤ 1000 ∧ n ≤ 1000 then Lw.ret (R.fresh (List.replicate n ds).flatten) else Lw.lift none) ς1 Q
  rw [if_pos hl]
  exact Sm.ret q
/-! ### {text: a, text: b}[x] -/
def dicE (s t : Str) (fa fb fi : M R) : M R := bd (esc fa) fun x => bd (esc fb) fun y => bd (esc fi) fun z => match z with
  | .str w => if w = s ∧ s ≠ t then ret (.pure x) else if w = t ∧ s ≠ t then ret (.pure y) else lift none
  | _ => lift none
section
variable {K : PySem.W.Frag} {F : Fx} {ς : En} {G H : Hp} {σ : L2.St} {q : Addr} {o : HO}
theorem Rel.other (r : Rel K F ς G σ H) {o' : HO} (hg : G q = none) (h0 : F.H0 q = none) (ho : ∀ (i : Nat) b ds, ς[i]? = some (some (.own b ds)) → σ[i]? ≠ some (some (.ref q))) : Rel K F ς G σ (upd H q o') where
  len := r.len
  sub := fun a u e => by
    have : a ≠ q := ne_of_none e hg
    rw [upd_ne this]; exact r.sub _ _ e
  g0 := r.g0
  pu := r.pu
  ow := fun i b ds e => by
    obtain ⟨a, vs, e1, e2, e3, e4, e5⟩ := r.ow i b ds e
    have ne : a ≠ q := fun z => ho i b ds e (by rw [e1, z])
    exact ⟨a, vs, e1, by rw [upd_ne ne]; exact e2, e3, e4, e5⟩
  ap := r.ap
  par := r.par
  fr := fun a u e na => by
    have : a ≠ q := ne_of_none e h0
    rw [upd_ne this]; exact r.fr a u e na
  nw := r.nw
theorem Rel.newA (r : Rel K F ς G σ H) (h : H q = none) : (∀ i, F.A i ≠ some q) ∧ F.G0 q = none ∧ ∀ (i : Nat) b ds, ς[i]? = some (some (.own b ds)) → σ[i]? ≠ some (some (.ref q)) := by
  refine ⟨fun i e => ?_, ?_, fun i b ds e z => ?_⟩
  · obtain ⟨_, vs, w⟩ := r.own_in e
    rw [w] at h; cases h
  · cases z : F.G0 q with
    | none => rfl
    | some u =>
      have := r.sub _ _ (r.g0 _ _ z)
      rw [this] at h; cases h
  · obtain ⟨a, vs, e1, e2, _⟩ := r.ow i b ds e
    rw [z] at e1
    cases e1
    rw [e2] at h; cases h
end
variable {s t : Str}
theorem Sm.dicE {ς : En} {Q : R → En → Prop} (hst : s ≠ t) (h : wp fa ς fun r ς1 => ∃ x ς1', toD r ς1 = some (x, ς1') ∧ wp fb ς1' fun r2 ς2 => ∃ y ς2', toD r2 ς2 = some (y, ς2') ∧ wp fc ς2' fun r3 ς3 => ∃ w ς3', toD r3 ς3 = some (.str w, ς3') ∧ ((w = s ∧ Q (.pure x) ς3') ∨ (w = t ∧ Q (.pure y) ς3'))) : wp (Lw.dicE s t fa fb fc) ς Q := by
  refine Sm.bd (Sm.esc (Sm.mono h fun r ς1 ⟨x, ς1', e1, h⟩ => ⟨x, ς1', e1, Sm.bd (Sm.esc (Sm.mono h fun r2 ς2 ⟨y, ς2', e2, h⟩ => ⟨y, ς2', e2, Sm.bd (Sm.esc (Sm.mono h fun r3 ς3 ⟨w, ς3', e3, h⟩ => ⟨_, ς3', e3, ?_⟩))⟩))⟩))
  show wp (if w = s ∧ s ≠ t then Lw.ret (R.pure x) else if w = t ∧ s ≠ t then Lw.ret (R.pure y) else Lw.lift none) ς3' Q
  rcases h with ⟨rfl, q⟩ | ⟨rfl, q⟩
  · rw [if_pos ⟨rfl, hst⟩]; exact Sm.ret q
  · rw [if_neg (fun z => hst z.1.symm), if_pos ⟨rfl, hst⟩]; exact Sm.ret q
end
end Lw
namespace Lw
open PySem PySem.Spec PyProof.Rows L2
theorem mem5u (N : Nat) : ∀ c ∈ [N + 4, N + 2, N + 3, N, N + 1], c ≤ N + 4 := fun c hc => by
  have : c = N + 4 ∨ c = N + 2 ∨ c = N + 3 ∨ c = N ∨ c = N + 1 := by simpa using hc
  omega
theorem neN {x y : Nat} (h : x ≠ y) : x ≠ y := h
/-! ### list(zip(a, b)) -/
section
variable {P : Program} {w : World} {A : Around} {E : Value → Shared → Prop} {s : Shared}
theorem Kd.nextItem (k : Kd) {it l : Addr} {i : Nat} {its : Array Value} {x : Value} {Q : Value → Shared → Prop} (hit : k.Iter s.heap it l i) (hl : k.Is s.heap l its) (hx : its[i]? = some x) (hQ : ∀ h', k.Iter h' it l (i + 1) → Heap.SameBut it s.heap h' → Q x { s with heap := h' }) : wpAny (model P w) A (Builtin.SmallTypes.nextOf (.ref it)) Q E s := by
  cases k
  · exact wpAny_nextOf_list_item hit hl hx hQ
  · exact RZ.nextOf_tuple_item hit hl hx hQ
theorem Kd.nextEnd (k : Kd) {it l : Addr} {i : Nat} {its : Array Value} {Q : Value → Shared → Prop} (hh : A.handled = none) (hit : k.Iter s.heap it l i) (hl : k.Is s.heap l its) (hx : its[i]? = none) (hE : ∀ h' e, Heap.ExtBut it s.heap h' → (∃ o, h'.get? e = some o ∧ o.cls = .type "StopIteration") → E (.ref e) { s with heap := h' }) : wpAny (model P w) A (Builtin.SmallTypes.nextOf (.ref it)) Q E s := by
  cases k
  · exact wpAny_nextOf_list_end hh hit hl hx hE
  · exact RZ.nextOf_tuple_end hh hit hl hx hE
theorem Kd.iterExt (k : Kd) {h h' : Heap} {it l b : Addr} {i : Nat} (x : k.Iter h it l i) (hs : Heap.ExtBut b h h') (hb : it ≠ b) : k.Iter h' it l i := by
  cases k
  · exact Heap.IsListIter.extBut x hs hb
  · exact Heap.IsTupleIter.extBut x hs hb
theorem Kd.isExt (k : Kd) {h h' : Heap} {l b : Addr} {its : Array Value} (x : k.Is h l its) (hs : Heap.ExtBut b h h') (hb : l ≠ b) : k.Is h' l its := by
  cases k
  · exact Heap.IsList.extBut x hs hb
  · exact Heap.IsTuple.extBut x hs hb
theorem held_item {k1 k2 : Kd} {z TI TO T i1 i2 l1 l2 : Addr} {f : Bool} {oT : Obj} {n1 n2 : Nat} {xs ys : Array Value} {x y : Value} {Q : Value → Shared → Prop} (D : ZipApart z TI TO i1 i2 l1 l2) (hz : IsZipHeld s.heap z TI TO T f) (hT : s.heap.get? T = some oT) (hTI : IsPair s.heap TI (.ref i1) (.ref i2))
    (h1 : k1.Iter s.heap i1 l1 n1) (h2 : k2.Iter s.heap i2 l2 n2) (hl1 : k1.Is s.heap l1 xs) (hl2 : k2.Is s.heap l2 ys) (hx : xs[n1]? = some x) (hy : ys[n2]? = some y)
    (hQ : ∀ h', IsZipHeld h' z TI TO T true → k1.Iter h' i1 l1 (n1 + 1) → k2.Iter h' i2 l2 (n2 + 1) → IsPair h' s.heap.objs.size x y → (∀ c o, c ≠ z → c ≠ i1 → c ≠ i2 → s.heap.get? c = some o → h'.get? c = some o) → Q (.ref s.heap.objs.size) { s with heap := h' }) :
    wpAny (model P w) A (Builtin.«zip.__next__» ⟨[.ref z], []⟩) (fun fin s' => ∃ v, fin = .done (.ret v) ∧ Q v s') E s := by
  show wpAny _ _ (field (.ref z) 2 >>= _) _ _ _
  refine wpAny_bind (wpAny_field hz rfl (x := .bool false) rfl ?_)
  show wpAny _ _ (field (.ref z) 3 >>= _) _ _ _
  refine wpAny_bind (wpAny_field hz rfl (x := .ref TI) rfl (wpAny_bind (wpAny_seqItems hTI rfl ?_)))
  show wpAny _ _ (Builtin.SmallTypes.ownedTupleIsFree (.ref z) >>= _) _ _ _
  refine wpAny_bind (wpAny_tupleHeld_zip hz hT fun g₁ hz₁ hs₁ => ?_)
  simp only [Bool.false_eq_true, if_false]
  refine wpAny_bind ?_
  rw [← Array.forIn_toList]
  simp only [List.forIn_cons, List.forIn_nil]
  refine wpAny_bind (wpAny_bind (wpAny_holding ?_))
  show wpAny _ _ (Builtin.SmallTypes.nextOf (.ref i1) >>= _) _ _ _
  refine wpAny_bind (k1.nextItem (s := { s with heap := g₁ }) (k1.iterExt h1 hs₁.extBut D.i1z) (k1.isExt hl1 hs₁.extBut D.l1z) hx fun g₂ h1₂ hs₂ => wpAny_pure (wpAny_pure ?_))
  refine wpAny_bind (wpAny_bind (wpAny_holding ?_))
  show wpAny _ _ (Builtin.SmallTypes.nextOf (.ref i2) >>= _) _ _ _
  refine wpAny_bind (k2.nextItem (s := { s with heap := g₂ }) (k2.iterExt (k2.iterExt h2 hs₁.extBut D.i2z) hs₂.extBut D.i12.symm) (k2.isExt (k2.isExt hl2 hs₁.extBut D.l2z) hs₂.extBut D.l2i1) hy fun g₃ h2₃ hs₃ => wpAny_pure (wpAny_pure (wpAny_pure ?_)))
  show wpAny _ _ (newTuple [x, y] >>= _) _ _ _
  refine wpAny_bind (wpAny_newTuple (wpAny_pure ⟨_, rfl, ?_⟩))
  have hsz : g₃.objs.size = s.heap.objs.size := by rw [hs₃.1, hs₂.1, hs₁.1]
  have hz₃ : IsZipHeld g₃ z TI TO T true := hs₃.extBut _ _ D.i2z.symm (hs₂.extBut _ _ D.i1z.symm hz₁)
  show Q (.ref g₃.objs.size) _
  have hp : IsPair (g₃.push { cls := .type "tuple", data := .seq #[x, y] }) g₃.objs.size x y := Heap.get?_push_size _ rfl
  rw [hsz] at hp ⊢
  exact hQ _ (Heap.get?_push_of_some _ hz₃) (k1.iterAt (k1.iterExt h1₂ hs₃.extBut D.i12) fun o e => Heap.get?_push_of_some _ e) (k2.iterAt h2₃ fun o e => Heap.get?_push_of_some _ e) hp fun c o c1 c2 c3 e => Heap.get?_push_of_some _ (hs₃.extBut _ _ c3 (hs₂.extBut _ _ c2 (hs₁.extBut _ _ c1 e)))
theorem held_end {k1 k2 : Kd} {z TI TO T i1 i2 l1 l2 : Addr} {f : Bool} {oT : Obj} {n1 n2 : Nat} {xs ys : Array Value} {Q : Fin → Shared → Prop} (hh : A.handled = none) (D : ZipApart z TI TO i1 i2 l1 l2) (hz : IsZipHeld s.heap z TI TO T f) (hT : s.heap.get? T = some oT) (hTI : IsPair s.heap TI (.ref i1) (.ref i2))
    (h1 : k1.Iter s.heap i1 l1 n1) (h2 : k2.Iter s.heap i2 l2 n2) (hl1 : k1.Is s.heap l1 xs) (hl2 : k2.Is s.heap l2 ys) (hend : xs[n1]? = none ∨ ys[n2]? = none)
    (hE : ∀ h' e, (∀ c o, c ≠ z → c ≠ i1 → c ≠ i2 → s.heap.get? c = some o → h'.get? c = some o) → (∃ o, h'.get? e = some o ∧ o.cls = .type "StopIteration") → E (.ref e) { s with heap := h' }) : wpAny (model P w) A (Builtin.«zip.__next__» ⟨[.ref z], []⟩) Q E s := by
  show wpAny _ _ (field (.ref z) 2 >>= _) _ _ _
  refine wpAny_bind (wpAny_field hz rfl (x := .bool false) rfl ?_)
  show wpAny _ _ (field (.ref z) 3 >>= _) _ _ _
  refine wpAny_bind (wpAny_field hz rfl (x := .ref TI) rfl (wpAny_bind (wpAny_seqItems hTI rfl ?_)))
  show wpAny _ _ (Builtin.SmallTypes.ownedTupleIsFree (.ref z) >>= _) _ _ _
  refine wpAny_bind (wpAny_tupleHeld_zip hz hT fun g₁ hz₁ hs₁ => ?_)
  simp only [Bool.false_eq_true, if_false]
  refine wpAny_bind ?_
  rw [← Array.forIn_toList]
  simp only [List.forIn_cons, List.forIn_nil]
  refine wpAny_bind (wpAny_bind (wpAny_holding ?_))
  show wpAny _ _ (Builtin.SmallTypes.nextOf (.ref i1) >>= _) _ _ _
  cases hx : xs[n1]? with
  | none => exact wpAny_bind (k1.nextEnd (s := { s with heap := g₁ }) hh (k1.iterExt h1 hs₁.extBut D.i1z) (k1.isExt hl1 hs₁.extBut D.l1z) hx fun g₂ e hs₂ he => hE g₂ e (fun c o c1 c2 _ x => hs₂ _ _ c2 (hs₁.extBut _ _ c1 x)) he)
  | some x =>
    have hy : ys[n2]? = none := by rcases hend with h | h; rw [hx] at h; cases h; exact h
    refine wpAny_bind (k1.nextItem (s := { s with heap := g₁ }) (k1.iterExt h1 hs₁.extBut D.i1z) (k1.isExt hl1 hs₁.extBut D.l1z) hx fun g₂ h1₂ hs₂ => wpAny_pure (wpAny_pure ?_))
    refine wpAny_bind (wpAny_bind (wpAny_holding ?_))
    show wpAny _ _ (Builtin.SmallTypes.nextOf (.ref i2) >>= _) _ _ _
    exact wpAny_bind (k2.nextEnd (s := { s with heap := g₂ }) hh (k2.iterExt (k2.iterExt h2 hs₁.extBut D.i2z) hs₂.extBut D.i12.symm) (k2.isExt (k2.isExt hl2 hs₁.extBut D.l2z) hs₂.extBut D.l2i1) hy fun g₃ e hs₃ he => hE g₃ e (fun c o c1 c2 c3 x => hs₃ _ _ c3 (hs₂.extBut _ _ c2 (hs₁.extBut _ _ c1 x))) he)
/-- a zip, its last tuple out or not -/
def ZSt (k1 k2 : Kd) (z TI TO i1 i2 a b : Addr) (i : Nat) (h : Heap) : Prop := IsPair h TI (.ref i1) (.ref i2) ∧ (∃ x y, IsPair h TO x y) ∧ k1.Iter h i1 a i ∧ k2.Iter h i2 b i ∧ (IsZip h z TI TO .none ∨ ∃ T f oT, IsZipHeld h z TI TO T f ∧ h.get? T = some oT ∧ T ≠ z ∧ T ≠ TO ∧ T ≠ i1 ∧ T ≠ i2)
theorem znext_item {k1 k2 : Kd} {z TI TO i1 i2 a b : Addr} {i : Nat} {xs ys : Array Value} {Q : Option Value → Shared → Prop} (hh : A.handled = none) (D : ZipApart z TI TO i1 i2 a b) (SP : ZipSep2 z TI TO i1 i2 [i1, a] [i2, b]) (st : ZSt k1 k2 z TI TO i1 i2 a b i s.heap) (hl1 : k1.Is s.heap a xs) (hl2 : k2.Is s.heap b ys) (hi1 : i < xs.size) (hi2 : i < ys.size)
    (hQ : ∀ x y h' tk, xs[i]? = some x → ys[i]? = some y → ZSt k1 k2 z TI TO i1 i2 a b (i + 1) h' → IsPair h' s.heap.objs.size x y → (∀ c o, c ≠ z → c ≠ TO → c ≠ i1 → c ≠ i2 → s.heap.get? c = some o → h'.get? c = some o) → Q (some (.ref s.heap.objs.size)) { s with heap := h', toks := tk }) : wpAny (model P w) A (pyNext (.ref z)) Q E s := by
  obtain ⟨e1, ⟨p, q, e2⟩, e3, e4, e5⟩ := st
  rcases e5 with e5 | ⟨T, f, oT, e5, e6, n1, n2, n3, n4⟩
  · have D1 := k1.draws (P := P) (w := w) (A := A.in1) hh i1 a D.l1i1 xs
    have D2 := k2.draws (P := P) (w := w) (A := A.in1) hh i2 b D.l2i2 ys
    obtain ⟨_, u1, _⟩ := k1.iterOb e3
    obtain ⟨_, u2, _⟩ := k2.iterOb e4
    have lz := Heap.lt_size e5
    have lt := Heap.lt_size e2
    have l1 := Heap.lt_size u1
    have l2 := Heap.lt_size u2
    exact wpAny_pyNext_zipD2_item SP D1 D2 e5 e1 e2 ⟨e3, hl1⟩ ⟨e4, hl2⟩ hi1 hi2 fun x y h' tk hx hy b1 b2 b3 b4 b5 b6 b7 => hQ x y h' tk hx hy ⟨b7 TI _ D.TIz D.TITO D.TIi1 D.TIi2 e1, ⟨x, y, b2⟩, b3.1, b4.1, .inr ⟨_, false, _, b1, b5, Nat.ne_of_gt lz, Nat.ne_of_gt lt, Nat.ne_of_gt l1, Nat.ne_of_gt l2⟩⟩ b5 b7
  · have hTy : s.TypeIs (.ref z) "zip" := ⟨_, e5, rfl⟩
    obtain ⟨x, hx⟩ : ∃ x, xs[i]? = some x := ⟨_, Array.getElem?_eq_getElem hi1⟩
    obtain ⟨y, hy⟩ : ∃ y, ys[i]? = some y := ⟨_, Array.getElem?_eq_getElem hi2⟩
    unfold pyNext
    refine wpAny_bind (wpAny_attempt (wpAny_callSpecial?_slot (name := Str.ofString "__next__") hTy F.slot_zip_next (wpAny_call_entry F.slot_zip_next hTy F.entry_zip_next (held_item D e5 e6 e1 e3 e4 hl1 hl2 hx hy fun h' c1 c2 c3 c4 c5 => wpAny_pure ?_) (F.args_zip_next_1 _))))
    exact hQ x y h' s.toks hx hy ⟨c5 TI _ D.TIz D.TIi1 D.TIi2 e1, ⟨p, q, c5 TO _ D.TOz D.TOi1 D.TOi2 e2⟩, c2, c3, .inr ⟨T, true, oT, c1, c5 T _ n1 n3 n4 e6, n1, n2, n3, n4⟩⟩ c4 fun c o a1 a2 a3 a4 e => c5 c o a1 a3 a4 e
theorem znext_end {k1 k2 : Kd} {z TI TO i1 i2 a b : Addr} {i : Nat} {xs ys : Array Value} {Q : Option Value → Shared → Prop} (hh : A.handled = none) (D : ZipApart z TI TO i1 i2 a b) (SP : ZipSep2 z TI TO i1 i2 [i1, a] [i2, b]) (st : ZSt k1 k2 z TI TO i1 i2 a b i s.heap) (hl1 : k1.Is s.heap a xs) (hl2 : k2.Is s.heap b ys) (hi1 : i ≤ xs.size) (hi2 : i ≤ ys.size) (hend : i = xs.size ∨ i = ys.size)
    (hQ : ∀ h' tk, (∀ c o, c ≠ z → c ≠ TO → c ≠ i1 → c ≠ i2 → s.heap.get? c = some o → h'.get? c = some o) → Q none { s with heap := h', toks := tk }) : wpAny (model P w) A (pyNext (.ref z)) Q E s := by
  obtain ⟨e1, ⟨p, q, e2⟩, e3, e4, e5⟩ := st
  rcases e5 with e5 | ⟨T, f, oT, e5, e6, n1, n2, n3, n4⟩
  · have D1 := k1.draws (P := P) (w := w) (A := A.in1) hh i1 a D.l1i1 xs
    have D2 := k2.draws (P := P) (w := w) (A := A.in1) hh i2 b D.l2i2 ys
    exact wpAny_pyNext_zipD2_end SP D1 D2 e5 e1 e2 ⟨e3, hl1⟩ ⟨e4, hl2⟩ hi1 hi2 hend hQ
  · have hTy : s.TypeIs (.ref z) "zip" := ⟨_, e5, rfl⟩
    have he : xs[i]? = none ∨ ys[i]? = none := by
      rcases hend with h | h
      · exact .inl (by simp [h])
      · exact .inr (by simp [h])
    unfold pyNext
    refine wpAny_bind (wpAny_attempt (wpAny_callSpecial?_slot (name := Str.ofString "__next__") hTy F.slot_zip_next (wpAny_call_entry F.slot_zip_next hTy F.entry_zip_next (held_end hh D e5 e6 e1 e3 e4 hl1 hl2 he fun h' e hk hee => ?_) (F.args_zip_next_1 _))))
    obtain ⟨o, ho, hc⟩ := hee
    exact wpAny_bind (wpAny_isInstance (T := "StopIteration") (b := true) ⟨o, ho, hc⟩ isSubtype_stop (wpAny_pure (hQ h' s.toks fun c o a1 a2 a3 a4 e => hk c o a1 a3 a4 e)))
theorem ZSt.upd {k1 k2 : Kd} {z TI TO i1 i2 a b S : Addr} {i : Nat} {h h' : Heap} (st : ZSt k1 k2 z TI TO i1 i2 a b i h) (hS : S ≠ z ∧ S ≠ TI ∧ S ≠ TO ∧ S ≠ i1 ∧ S ≠ i2) (hk : ∀ c o, c ≠ S → h.get? c = some o → h'.get? c = some o) (hs : ∃ o, h'.get? S = some o) : ZSt k1 k2 z TI TO i1 i2 a b i h' := by
  obtain ⟨e1, ⟨p, q, e2⟩, e3, e4, e5⟩ := st
  refine ⟨hk _ _ hS.2.1.symm e1, ⟨p, q, hk _ _ hS.2.2.1.symm e2⟩, k1.iterAt e3 fun o e => hk _ _ hS.2.2.2.1.symm e, k2.iterAt e4 fun o e => hk _ _ hS.2.2.2.2.symm e, ?_⟩
  rcases e5 with e5 | ⟨T, f, oT, e5, e6, n⟩
  · exact .inl (hk _ _ hS.1.symm e5)
  · by_cases hT : T = S
    · obtain ⟨o, ho⟩ := hs
      exact .inr ⟨T, f, o, hk _ _ hS.1.symm e5, by rw [hT]; exact ho, n⟩
    · exact .inr ⟨T, f, oT, hk _ _ hS.1.symm e5, hk _ _ hT e6, n⟩
theorem zloop {X : Cx} {pins : List (Addr × Obj)} {σ : L2.St} {k1 k2 : Kd} {z TI TO i1 i2 a b S : Addr} {xs ys : List V} {res : Value} {R : Result → Shared → Prop} (W : Nat → List V → Hp → Prop) (hh : A.handled = none) (D : ZipApart z TI TO i1 i2 a b) (SP : ZipSep2 z TI TO i1 i2 [i1, a] [i2, b]) (hS : S ≠ z ∧ S ≠ TI ∧ S ≠ TO ∧ S ≠ i1 ∧ S ≠ i2) (hn : min xs.length ys.length ≤ sizeLine)
    (hW : ∀ i vs H, W i vs H → vs.length = i ∧ H S = some (.lst vs) ∧ k1.Sq X.K H a xs ∧ k2.Sq X.K H b ys)
    (hstep : ∀ i vs H T, i < min xs.length ys.length → W i vs H → H T = none → W (i + 1) (vs ++ [.ref T]) (upd (upd H T (.tup [xs.getD i .non, ys.getD i .non])) S (.lst (vs ++ [.ref T]))))
    (hend : ∀ vs H s', W (min xs.length ys.length) vs H → Inv X pins σ H s' → R (.ok (.ret res)) s') :
    ∀ (m i : Nat) (vs : List V) (H : Hp) (s : Shared), m = min xs.length ys.length - i → i ≤ min xs.length ys.length → W i vs H → Inv X pins σ H s → (∀ c ∈ [z, TI, TO, i1, i2], FpOk X pins H c) → ZSt k1 k2 z TI TO i1 i2 a b i s.heap →
      codeAny (model X.prog X.w) A (.builtin "list.extend.loop" ⟨[.ref S, .ref z, res], []⟩) R s := by
  intro m
  induction m with
  | zero =>
    intro i vs H s hm hi w0 I hf st
    have ei : i = min xs.length ys.length := by omega
    obtain ⟨_, hHS, q1, q2⟩ := hW i vs H w0
    obtain ⟨its, r1, s1, _⟩ := k1.inv I q1
    obtain ⟨its2, r2, s2, _⟩ := k2.inv I q2
    have l1 := r1.length
    have l2 := r2.length
    refine codeAny_builtin F.entry_extend_loop ?_
    rw [Around.under_plainId F.plain_extend_loop _]
    show wpAny _ A.in1 (pyNext (.ref z) >>= _) _ _ s
    refine wpAny_bind (znext_end (A := A.in1) hh D SP st s1 s2 (by rw [List.size_toArray]; omega) (by rw [List.size_toArray]; omega) (by rw [List.size_toArray, List.size_toArray]; omega) fun h' tk hk => wpAny_pure ?_)
    subst ei
    exact hend vs H _ w0 (I.turnedL (ch := [z, TI, TO, i1, i2]) (fun c o hc q => hk c o (fun e => hc (by simp [e])) (fun e => hc (by simp [e])) (fun e => hc (by simp [e])) (fun e => hc (by simp [e])) q) hf)
  | succ m ih =>
    intro i vs H s hm hi w0 I hf st
    have hlt : i < min xs.length ys.length := by omega
    obtain ⟨hvl, hHS, q1, q2⟩ := hW i vs H w0
    obtain ⟨its, r1, s1, _⟩ := k1.inv I q1
    obtain ⟨its2, r2, s2, _⟩ := k2.inv I q2
    have l1 := r1.length
    have l2 := r2.length
    refine codeAny_builtin F.entry_extend_loop ?_
    rw [Around.under_plainId F.plain_extend_loop _]
    show wpAny _ A.in1 (pyNext (.ref z) >>= _) _ _ s
    refine wpAny_bind (znext_item (A := A.in1) hh D SP st s1 s2 (by rw [List.size_toArray]; omega) (by rw [List.size_toArray]; omega) fun x y h' tk hx hy st' hp hk => ?_)
    have hTn : H s.heap.objs.size = none := I.hok.fresh (Nat.le_refl _)
    have new : ObjOk X.prog X.w (upd H s.heap.objs.size (.tup [xs.getD i .non, ys.getD i .non])) h' s.heap.objs.size (.tup [xs.getD i .non, ys.getD i .non]) :=
      ⟨by show 2 ≤ sizeLine; decide, [x, y], .cons (vals_at r1 (by omega) hx) (.cons (vals_at r2 (by omega) hy) .nil), ⟨_, hp, rfl, _, rfl⟩⟩
    have I1 : Inv X pins σ (upd H s.heap.objs.size (.tup [xs.getD i .non, ys.getD i .non])) { s with heap := h', toks := tk } :=
      I.turnedNew (ch := [z, TI, TO, i1, i2]) (fun c o hc q => hk c o (fun e => hc (by simp [e])) (fun e => hc (by simp [e])) (fun e => hc (by simp [e])) (fun e => hc (by simp [e])) q) hf (Nat.le_refl _) new
    have hST : S ≠ s.heap.objs.size := fun e => by rw [e, hTn] at hHS; cases hHS
    have hH1 : upd H s.heap.objs.size (.tup [xs.getD i .non, ys.getD i .non]) S = some (.lst vs) := by rw [upd_ne hST]; exact hHS
    obtain ⟨zz, its3, c, r3, hl3, e3⟩ := I1.lstM hH1
    have hl4 : its3.length = vs.length := r3.length.symm
    show wpAny _ A.in1 (updateSeq S (·.push (.ref s.heap.objs.size)) >>= _) _ _ _
    refine wpAny_bind ?_
    refine wpAny_updateSeq e3 rfl (wpAny_pure ⟨plainId_quiet F.plain_extend_loop _, ?_⟩) (by rw [List.size_toArray]; omega) (by show (its3.toArray.push _).size ≤ sizeLine + 1; rw [Array.size_push, List.size_toArray]; omega)
    have I2 : Inv X pins σ (upd (upd H s.heap.objs.size (.tup [xs.getD i .non, ys.getD i .non])) S (.lst (vs ++ [.ref s.heap.objs.size]))) { s with heap := h'.update S (Obj.mapSeq (·.push (.ref s.heap.objs.size))), toks := tk } :=
      I1.lset (its' := its3 ++ [.ref s.heap.objs.size]) (t' := tk) hH1 e3 (by simp) (r3.append (.cons (show L2.RelV (V.ref s.heap.objs.size) (Value.ref s.heap.objs.size) from rfl) .nil)) (by rw [List.length_append, List.length_singleton]; omega)
    refine ih (i + 1) (vs ++ [.ref s.heap.objs.size]) _ _ (by omega) hlt (hstep i vs H _ hlt w0 hTn) I2 (fun c' hc => ?_) (st'.upd hS (fun c' o hc q => (Heap.get?_update_other _ _ (Ne.symm hc)).trans q) ⟨_, Heap.get?_update_self (Obj.mapSeq (·.push (.ref s.heap.objs.size))) e3 rfl⟩)
    have hlt' : c' < s.heap.objs.size := by
      obtain ⟨e1, ⟨p, q, e2⟩, e3', e4, e5⟩ := st
      have hz : z < s.heap.objs.size := by rcases e5 with e5 | ⟨T, f, oT, e5, _⟩ <;> exact Heap.lt_size e5
      obtain ⟨_, u1, _⟩ := k1.iterOb e3'
      obtain ⟨_, u2, _⟩ := k2.iterOb e4
      have : c' = z ∨ c' = TI ∨ c' = TO ∨ c' = i1 ∨ c' = i2 := by simpa using hc
      rcases this with rfl | rfl | rfl | rfl | rfl
      · exact hz
      · exact Heap.lt_size e1
      · exact Heap.lt_size e2
      · exact Heap.lt_size u1
      · exact Heap.lt_size u2
    have hcS : c' ≠ S := by
      have : c' = z ∨ c' = TI ∨ c' = TO ∨ c' = i1 ∨ c' = i2 := by simpa using hc
      rcases this with rfl | rfl | rfl | rfl | rfl
      · exact hS.1.symm
      · exact hS.2.1.symm
      · exact hS.2.2.1.symm
      · exact hS.2.2.2.1.symm
      · exact hS.2.2.2.2.symm
    obtain ⟨f0, f1⟩ := hf c' hc
    exact ⟨by rw [upd_ne hcS, upd_ne (Nat.ne_of_lt hlt')]; exact f0, f1⟩
theorem zip_no_len : typeLookup (.type "zip") "__len__" = pure none := by rw [typeLookup_type, builtinLookup_eq_fast]; kernel_rfl
theorem zip_no_hint : typeLookup (.type "zip") "__length_hint__" = pure none := by rw [typeLookup_type, builtinLookup_eq_fast]; kernel_rfl
theorem list_zip {z TI TO : Addr} {Q : Value → Shared → Prop} (hz : IsZip s.heap z TI TO .none)
    (h : ∀ h' c, (∀ b o, s.heap.get? b = some o → h'.get? b = some o) → h'.get? s.heap.objs.size = some { cls := .type "list", data := .seq #[] c } → ∀ R : Result → Shared → Prop, (∀ s', Q (.ref s.heap.objs.size) s' → R (.ok (.ret .none)) s') → codeAny (model P w) A.in1 (.builtin "list.extend.loop" ⟨[.ref s.heap.objs.size, .ref z, .none], []⟩) R { s with heap := h' }) :
    wpAny (model P w) A (call (.type "list") [.ref z]) Q E s := by
  have hSz : s.heap.objs.size ≠ z := Nat.ne_of_gt (Heap.lt_size hz)
  refine callType_codes (Q₁ := fun obj s₁ => obj = .ref s.heap.objs.size ∧ s₁ = { s with heap := s.heap.push { cls := .type "list", data := .seq #[] } }) F.called_list (F.typeCall_list_1 _) F.entry_list_init (code_list_new _ ⟨rfl, rfl⟩) fun obj s₁ h₁ => ?_
  obtain ⟨rfl, rfl⟩ := h₁
  have hS : (s.heap.push { cls := .type "list", data := .seq #[] }).get? s.heap.objs.size = some { cls := .type "list", data := .seq #[] } := Heap.get?_push_size _ rfl
  refine ⟨⟨_, hS, rfl⟩, F.args_list_init_2 _ _, ?_⟩
  show wpAny _ A.in1.in1 (do let old ← Builtin.List.listItems (.ref s.heap.objs.size); Builtin.List.listUpdate (.ref s.heap.objs.size) (fun _ => #[]); letGo old.toList.reverse; Builtin.List.listExtendWith (.ref s.heap.objs.size) (.ref z) .none) _ _ _
  refine wpAny_bind ?_
  unfold Builtin.List.listItems
  refine wpAny_bind (wpAny_seqItems hS rfl (wpAny_pure ?_))
  show wpAny _ A.in1.in1 (updateSeq s.heap.objs.size (fun _ => #[]) >>= fun _ => letGo (#[] : Array Value).toList.reverse >>= fun _ => Builtin.List.listExtendWith (.ref s.heap.objs.size) (.ref z) .none) _ _ _
  refine wpAny_bind (wpAny_updateSeq hS rfl ?_)
  have hS2 := Heap.get?_update_self (Obj.mapSeq (fun _ => (#[] : Array Value))) hS rfl
  refine wpAny_bind (wpAny_letGo ?_)
  unfold Builtin.List.listExtendWith
  have up : ∀ (h : Heap) (f : Obj → Obj), (∀ b o, s.heap.get? b = some o → h.get? b = some o) → ∀ b o, s.heap.get? b = some o → (h.update s.heap.objs.size f).get? b = some o := fun h f q b o e => (Heap.get?_update_other _ _ (Ne.symm (Nat.ne_of_lt (Heap.lt_size e)))).trans (q b o e)
  have u1 : ∀ b o, s.heap.get? b = some o → (s.heap.push { cls := .type "list", data := .seq #[] }).get? b = some o := fun b o e => Heap.get?_push_of_some _ e
  have u2 := up _ (Obj.mapSeq (fun _ => (#[] : Array Value))) u1
  have zt : ∀ {g : Heap}, (∀ b o, s.heap.get? b = some o → g.get? b = some o) → Shared.TypeIs { s with heap := g } (.ref z) "zip" := fun {g} q => ⟨_, q _ _ hz, rfl⟩
  refine wpAny_bind (wpAny_typeOf (zt u2) ?_)
  have b1 : Builtin.List.listSameRef (.ref s.heap.objs.size) (.ref z) = false := by simp [Builtin.List.listSameRef, hSz]
  have b2 : (Value.type "zip" == Value.type "list") = false := by decide
  have b3 : (Value.type "zip" == Value.type "tuple") = false := by decide
  simp only [b1, b2, b3, Bool.or_false, Bool.false_eq_true, if_false]
  refine wpAny_bind (wpAny_pyIter_zip (u2 _ _ hz) ?_)
  refine wpAny_bind (wpAny_holding ?_)
  unfold Builtin.List.listLengthHint
  refine wpAny_bind (wpAny_specialOf (zt u2) zip_no_len ?_)
  show wpAny _ A.in1.in1 (specialOf (Value.ref z) (Str.ofString "__length_hint__") >>= _) _ _ _
  refine wpAny_bind (wpAny_specialOf (zt u2) zip_no_hint (wpAny_pure ?_))
  show wpAny _ A.in1.in1 (rule "list.extend.makes-room" >>= fun _ => Builtin.List.listTouch (.ref s.heap.objs.size) >>= fun _ => again (.builtin "list.extend.loop" ⟨[.ref s.heap.objs.size, .ref z, .none], []⟩)) _ _ _
  refine wpAny_bind (wpAny_rule (wpAny_bind ?_))
  show wpAny _ A.in1.in1 (updateSeq s.heap.objs.size (·.push .none) >>= fun _ => updateSeq s.heap.objs.size (·.pop)) _ _ _
  refine wpAny_bind (wpAny_updateSeq hS2 rfl ?_)
  have hS3 := Heap.get?_update_self (Obj.mapSeq (·.push Value.none)) hS2 rfl
  refine wpAny_updateSeq (hz := by seq_fits) hS3 rfl ?_
  have hS4 := Heap.get?_update_self (Obj.mapSeq (·.pop)) hS3 rfl
  refine wpAny_pure ⟨plainId_quiet F.plain_extend_loop _, ?_⟩
  exact h _ _ (up _ (Obj.mapSeq (·.pop)) (up _ (Obj.mapSeq (·.push Value.none)) u2)) hS4 _ fun s' q => ⟨rfl, q⟩
end
def tLz (K : PySem.W.Frag) (ta : TA) : TE := fun σ H Q => ta σ H fun vs H1 => ∃ (k1 k2 : Kd) (a b : Addr) (xs ys : List V), vs = [.ref a, .ref b] ∧ k1.Sq K H1 a xs ∧ k2.Sq K H1 b ys ∧ min xs.length ys.length ≤ sizeLine ∧ ∃ W : Addr → Nat → List V → Hp → Prop,
  (∀ S, H1 S = none → W S 0 [] (upd H1 S (.lst []))) ∧ (∀ S i vs H, W S i vs H → vs.length = i ∧ H S = some (.lst vs) ∧ k1.Sq K H a xs ∧ k2.Sq K H b ys) ∧
  (∀ S i vs H T, i < min xs.length ys.length → W S i vs H → H T = none → W S (i + 1) (vs ++ [.ref T]) (upd (upd H T (.tup [xs.getD i .non, ys.getD i .non])) S (.lst (vs ++ [.ref T])))) ∧ ∀ S vs H, W S (min xs.length ys.length) vs H → Q (.ref S) H
theorem pe_lz {X : Cx} {e e2 : Expr} {ta : TA} {p p2 pos pos2 : Pos} (hc : X.calm = true) (hg : Gl X "list") (hm : X.mg "list" = none) (hg2 : Gl X "zip") (hm2 : X.mg "zip" = none) (ha : PA X [e, e2] ta) (na : starEach [.Call (.Name "zip" p2) [e, e2] [] pos2] X.env = (false, eval (.Call (.Name "zip" p2) [e, e2] [] pos2) X.env) :: starEach [] X.env := by rfl)
    (hs : starEach [e, e2] X.env = (false, eval e X.env) :: starEach [e2] X.env := by rfl) (hpl : (backTo pos2 (starEach [e2] X.env)).any (·.1) = false := by rfl) : PE X (.Call (.Name "list" p) [.Call (.Name "zip" p2) [e, e2] [] pos2] [] pos) (tLz X.K ta) := by
  constructor
  intro pins s σ H Q I h
  refine Call_ (ld_blt I hg hm boot_list ?_)
  refine PyProof.Rows.callWith_type1 (PyProof.Rows.args_cons ?_ na) na rfl
  refine Call_ (ld_blt I hg2 hm2 PyProof.Rows.boot_zip (PyProof.Rows.callWith_type1 (thn (ha.run pos2 pins s σ H _ I h) fun us s1 ⟨vs, H1, I1, r1, q1⟩ => ?_) hs hpl))
  obtain ⟨k1, k2, a, b, xs, ys, ex, h1, h2, hn, W, w0, w1, w2, q⟩ := q1
  subst ex
  obtain ⟨v1, us1, rfl, ra, r1⟩ : ∃ u us', us = u :: us' ∧ RelV (.ref a) u ∧ Vals [.ref b] us' := by cases r1 with | cons x y => exact ⟨_, _, rfl, x, y⟩
  obtain ⟨v2, us2, rfl, rb, r1⟩ : ∃ u us', us1 = u :: us' ∧ RelV (.ref b) u ∧ Vals [] us' := by cases r1 with | cons x y => exact ⟨_, _, rfl, x, y⟩
  cases r1
  cases ra
  cases rb
  obtain ⟨its, x1, s1', l1⟩ := k1.inv I1 h1
  obtain ⟨its2, x2, s2', l2⟩ := k2.inv I1 h2
  refine zip_begins2 (k1.begins a its.toArray) (k2.begins b its2.toArray) s1' s2' fun h' hz hTI hTO g1 g2 hsz hk => PyProof.Rows.args_nil ?_
  have I2 : Inv X pins σ H1 { s1 with heap := h' } := I1.kept (t' := s1.toks) hk
  have hhd : X.A.in1.handled = none := I1.ok.hd hc
  refine list_zip (s := { s1 with heap := h' }) hz fun h'' c hk2 hS R hR => ?_
  have hfr : H1 h'.objs.size = none := I2.hok.fresh (Nat.le_refl _)
  have I3 : Inv X pins σ (upd H1 h'.objs.size (.lst [])) { s1 with heap := h'' } := I2.laid (t' := s1.toks) hk2 (Nat.le_refl _) ⟨by show 0 ≤ sizeLine; exact Nat.zero_le _, [], c, .nil, hS⟩
  have hN : h'.objs.size = s1.heap.objs.size + 5 := hsz
  refine zloop (X := X) (k1 := k1) (k2 := k2) (TI := s1.heap.objs.size + 2) (TO := s1.heap.objs.size + 3) (i1 := s1.heap.objs.size) (i2 := s1.heap.objs.size + 1) (a := a) (b := b) (xs := xs) (ys := ys) (W h'.objs.size) hhd (PySem.W.ktu_apart s1.heap.objs.size a b l1 l2) (zip_sep2 (fun d hd => by cases List.mem_singleton.1 hd; exact l1) (fun d hd => by cases List.mem_singleton.1 hd; exact l2)) ?_ hn (w1 _) (w2 _) (fun vs H s' w I' => hR s' ⟨.ref h'.objs.size, H, I', rfl, q _ _ _ w⟩) _ 0 [] _ _ rfl (Nat.zero_le _) (w0 _ hfr) I3 ?_ ?_
  · rw [hN]
    refine ⟨?_, ?_, ?_, ?_, ?_⟩ <;> (refine neN ?_; omega)
  · intro d hd
    have hle := mem5 s1.heap.objs.size d hd
    have hlt : d < h'.objs.size := by rw [hN]; exact Nat.lt_of_le_of_lt (mem5u s1.heap.objs.size d hd) (by omega)
    refine I1.fpOk hle ?_
    rw [upd_ne (Nat.ne_of_lt hlt)]
    exact I1.hok.fresh hle
  · exact ⟨hk2 _ _ hTI, ⟨_, _, hk2 _ _ hTO⟩, k1.iterAt (k1.iter0 g1) fun o e => hk2 _ _ e, k2.iterAt (k2.iter0 g2) fun o e => hk2 _ _ e, .inl (hk2 _ _ hz)⟩
end Lw
namespace Lw
open PySem PySem.Spec PyProof.Rows L2
variable {X : Cx} {e a b : Expr} {f fa fb : M R} {p p2 pos pos2 : Pos}
/-! ### list(zip(a, b)) -/
def lzE (fa fb : M R) : M R := bd (itZ2 fa fb) fun zs => if small zs.length = true then ret (.fresh zs) else lift none
theorem take_succ_get {zs : List D} {i : Nat} {z : D} (e : zs[i]? = some z) : zs.take (i + 1) = zs.take i ++ [z] := by
  rw [List.take_add_one, e]; rfl
theorem d_lz (hc : X.calm = true) (hg : Gl X "list") (hm : X.mg "list" = none) (hg2 : Gl X "zip") (hm2 : X.mg "zip" = none) (ha : PEd X a fa) (hb : PEd X b fb) (na : starEach [.Call (.Name "zip" p2) [a, b] [] pos2] X.env = (false, eval (.Call (.Name "zip" p2) [a, b] [] pos2) X.env) :: starEach [] X.env := by rfl)
    (hs1 : starEach [a, b] X.env = (false, eval a X.env) :: starEach [b] X.env := by rfl) (hs2 : starEach [b] X.env = (false, eval b X.env) :: starEach [] X.env := by rfl) (hpl : (backTo pos2 (starEach [b] X.env)).any (·.1) = false := by rfl) :
    PEd X (.Call (.Name "list" p) [.Call (.Name "zip" p2) [a, b] [] pos2] [] pos) (lzE fa fb) := fun F => PE.mono (pe_lz hc hg hm hg2 hm2 (pa_cons (d_esc ha F) (pa_cons (d_esc hb F) pa_nil hs2) hs1) na hs1 hpl) fun σ H R hq => by
  obtain ⟨ς, G, rl, r, ς', e, k⟩ := hq
  obtain ⟨zs, ςz, ez, qz⟩ := bd_some e
  obtain ⟨d, ς1, e1, q1⟩ := bd_some ez
  obtain ⟨d2, ς2, e2, q2⟩ := bd_some q1
  obtain ⟨xs, ς3, e3', q3⟩ := bd_some q2
  obtain ⟨e3, h3⟩ := lift_some e3'
  obtain ⟨ys, ς4, e4', q4⟩ := bd_some q3
  obtain ⟨e4, h4⟩ := lift_some e4'
  subst h3 h4
  cases q4
  have hsm : (zipD xs ys).length ≤ sizeLine := by
    by_cases hx : small (zipD xs ys).length = true
    · exact of_decide_eq_true hx
    · rw [if_neg hx] at qz; cases qz
  rw [if_pos (show small (zipD xs ys).length = true from decide_eq_true hsm)] at qz
  cases qz
  refine ⟨ς, G, rl, d, _, e1, fun v H1 G1 rl1 s1 dp => ⟨ς1, G1, rl1, d2, _, e2, fun w H2 G2 rl2 s2 dp2 => ?_⟩⟩
  obtain ⟨k1, l1, vs, rfl, h1, g1⟩ := Kd.of_items (dp_same s2 dp) e3
  obtain ⟨k2, l2, ws, rfl, h2, g2⟩ := Kd.of_items dp2 e4
  have hmin : min vs.length ws.length = (zipD xs ys).length := by rw [zipD_len, dpa_len g1, dpa_len g2]
  refine ⟨k1, k2, l1, l2, vs, ws, rfl, k1.same rl2.sub h1, k2.same rl2.sub h2, by rw [hmin]; exact hsm, fun S i us H' => ∃ G', Rel X.K F ς' G' σ H' ∧ Same G2 G' ∧ G' S = none ∧ F.H0 S = none ∧ (∀ (j : Nat) b es, ς'[j]? = some (some (.own b es)) → σ[j]? ≠ some (some (.ref S))) ∧ H' S = some (.lst us) ∧ us.length = i ∧ DpAll X.K G' us ((zipD xs ys).take i), ?_, ?_, ?_, ?_⟩
  · intro S hS
    exact ⟨G2, rl2.layF hS, Same.refl _, rl2.gnone hS, rl2.new hS, (rl2.newA hS).2.2, upd_same, rfl, .nil⟩
  · rintro S i us H' ⟨G', r', s', n1, n2, n3, hS, hl, hd⟩
    exact ⟨hl, hS, k1.same r'.sub (k1.same s' h1), k2.same r'.sub (k2.same s' h2)⟩
  · rintro S i us H' T hi ⟨G', r', s', n1, n2, n3, hS, hl, hd⟩ hT
    have hST : S ≠ T := fun q => by rw [q, hT] at hS; cases hS
    have hT' : G' T = none := r'.gnone hT
    rw [hmin] at hi
    obtain ⟨z, ez⟩ : ∃ z, (zipD xs ys)[i]? = some z := ⟨_, List.getElem?_eq_getElem hi⟩
    obtain ⟨x, y, f1, f2, rfl⟩ := zipD_get xs ys i z ez
    have r1 : Rel X.K F ς' (upd G' T (.tup [vs.getD i .non, ws.getD i .non])) σ (upd H' T (.tup [vs.getD i .non, ws.getD i .non])) := r'.lay hT
    have n1' : upd G' T (.tup [vs.getD i .non, ws.getD i .non]) S = none := by rw [upd_ne hST]; exact n1
    refine ⟨_, r1.other n1' n2 n3, s'.trans (same_upd hT'), n1', n2, n3, upd_same, by rw [List.length_append, hl]; rfl, ?_⟩
    rw [take_succ_get ez]
    refine dpa_app (dpa_same (same_upd hT') hd) (.cons ?_ .nil)
    exact r'.layD hT (.cons (dp_same s' (dpa_getD g1 f1)) (.cons (dp_same s' (dpa_getD g2 f2)) .nil))
  · rintro S us H' ⟨G', r', s', n1, n2, n3, hS, hl, hd⟩
    rw [hmin, List.take_length] at hd
    exact k _ H' G' r' (s1.trans (s2.trans s')) ⟨S, us, rfl, hS, n1, hd, n2, n3⟩
theorem Sm.lzE {ς : En} {Q : R → En → Prop} (h : wp fa ς fun r ς1 => ∃ d ς2, toD r ς1 = some (d, ς2) ∧ wp fb ς2 fun r2 ς3 => ∃ d2 ς4, toD r2 ς3 = some (d2, ς4) ∧ ∃ xs ys, items d = some xs ∧ items d2 = some ys ∧ (zipD xs ys).length ≤ sizeLine ∧ Q (.fresh (zipD xs ys)) ς4) : wp (Lw.lzE fa fb) ς Q := by
  refine Sm.bd (Sm.itZ2 (Sm.mono h fun r ς1 ⟨d, ς2, e, q⟩ => ⟨d, ς2, e, Sm.mono q fun r2 ς3 ⟨d2, ς4, e2, xs, ys, e3, e4, hl, q⟩ => ⟨d2, ς4, e2, xs, ys, e3, e4, ?_⟩⟩))
  rw [if_pos (show small (zipD xs ys).length = true from decide_eq_true hl)]
  exact Sm.ret q
/-! ### reversed(a list or tuple) -/
section
variable {tg c : Expr} {fc : M R} {K : PySem.W.Frag} {G : Hp}
def itV (f : M R) : M (List D) := bd (esc f) fun d => bd (lift (items d)) fun xs => ret xs.reverse
theorem Sm.itV {ς : En} {Q : List D → En → Prop} (h : wp f ς fun r ς1 => ∃ d ς2, toD r ς1 = some (d, ς2) ∧ ∃ xs, items d = some xs ∧ Q xs.reverse ς2) : wp (Lw.itV f) ς Q :=
  Sm.bd (Sm.esc (Sm.mono h fun r ς1 ⟨d, ς2, e, xs, e2, q⟩ => ⟨d, ς2, e, Sm.bd (Sm.lift e2 (Sm.ret q))⟩))
/-! ### range(a, b, -1), reversed(range(..)) -/
theorem rngD_rget (n : Nat) (lo : Int) (i : Nat) (h : i < n) : (rngD lo n).reverse[i]? = some (.int (lo + (n : Int) - 1 - i)) := by
  rw [List.getElem?_reverse (by rw [rngD_len]; exact h), rngD_len, rngD_get n lo _ (by omega)]
  congr 2
  omega
theorem walk_dn {m lo : Int} {n : Nat} (hm : m = lo + (n : Int) - 1) : WalkD K G (Itc m (-1) n) (rngD lo n).reverse where
  stop := fun H s => by rw [List.length_reverse, rngD_len]; exact Nat.le_refl _
  go := fun i H hl s => by rw [List.length_reverse, rngD_len] at hl; exact hl
  yld := fun i H x H' d s y e => by
    have hl := (List.getElem?_eq_some_iff.mp e).1
    rw [List.length_reverse, rngD_len] at hl
    rw [rngD_rget n lo i hl] at e
    cases e
    obtain ⟨y1, rfl⟩ := y
    refine .inl ⟨y1, ?_⟩
    have : m + (i : Int) * (-1) = lo + (n : Int) - 1 - i := by omega
    rw [this]
    exact .int _
def gDn : D → D → D → Option (List D)
  | .int m, .int n, .int k => if k = -1 ∧ inR m = true ∧ inR n = true then some (rngD (n + 1) (m - n).toNat).reverse else none
  | _, _, _ => none
def itR3 (fa fb fc : M R) : M (List D) := bd (esc fa) fun x => bd (esc fb) fun y => bd (esc fc) fun z => lift (gDn x y z)
theorem Sm.itR3 {ς : En} {Q : List D → En → Prop} {fc : M R} (h : wp fa ς fun r ς1 => ∃ d ς2, toD r ς1 = some (d, ς2) ∧ wp fb ς2 fun r2 ς3 => ∃ d2 ς4, toD r2 ς3 = some (d2, ς4) ∧ wp fc ς4 fun r3 ς5 => ∃ d3 ς6, toD r3 ς5 = some (d3, ς6) ∧ ∃ xs, gDn d d2 d3 = some xs ∧ Q xs ς6) : wp (Lw.itR3 fa fb fc) ς Q :=
  Sm.bd (Sm.esc (Sm.mono h fun r ς1 ⟨d, ς2, e, q⟩ => ⟨d, ς2, e, Sm.bd (Sm.esc (Sm.mono q fun r2 ς3 ⟨d2, ς4, e2, q2⟩ => ⟨d2, ς4, e2, Sm.bd (Sm.esc (Sm.mono q2 fun r3 ς5 ⟨d3, ς6, e3, xs, e4, q3⟩ => ⟨d3, ς6, e3, Sm.lift e4 q3⟩))⟩))⟩))
def gRn1 : D → Option (List D)
  | .int n => if inR n = true then some (rngD 0 n.toNat).reverse else none
  | _ => none
def itRv1 (f : M R) : M (List D) := bd (esc f) fun x => lift (gRn1 x)
theorem Sm.itRv1 {ς : En} {Q : List D → En → Prop} (h : wp fa ς fun r ς1 => ∃ d ς2, toD r ς1 = some (d, ς2) ∧ ∃ xs, gRn1 d = some xs ∧ Q xs ς2) : wp (Lw.itRv1 fa) ς Q :=
  Sm.bd (Sm.esc (Sm.mono h fun r ς1 ⟨d, ς2, e, xs, e2, q⟩ => ⟨d, ς2, e, Sm.lift e2 q⟩))
def gRn2 : D → D → Option (List D)
  | .int m, .int n => if inR m = true ∧ inR n = true then some (rngD m (n - m).toNat).reverse else none
  | _, _ => none
def itRv2 (fa fb : M R) : M (List D) := bd (esc fa) fun x => bd (esc fb) fun y => lift (gRn2 x y)
theorem i_revR2 (hg : Gl X "reversed") (hm : X.mg "reversed" = none) (hg2 : Gl X "range") (hm2 : X.mg "range" = none) (ha : PEd X a fa) (hb : PEd X b fb) (na : starEach [a, b] X.env = (false, eval a X.env) :: starEach [b] X.env := by rfl) (nb : starEach [b] X.env = (false, eval b X.env) :: starEach [] X.env := by rfl) (hpl : (backTo pos2 (starEach [b] X.env)).any (·.1) = false := by rfl) (hs : starEach [.Call (.Name "range" p2) [a, b] [] pos2] X.env = (false, eval (.Call (.Name "range" p2) [a, b] [] pos2) X.env) :: starEach [] X.env := by rfl) :
    PId X tg (.Call (.Name "reversed" p) [.Call (.Name "range" p2) [a, b] [] pos2] [] pos) (itRv2 fa fb) := fun F => PI.mono (pi_revR hg hm (prg_2 hg2 hm2 (d_esc ha F) (d_esc hb F) na nb hpl) hs) fun σ H R hq => by
  obtain ⟨ς, G, rl, ds, ς', e, k⟩ := hq
  obtain ⟨x, ς1, e1, q1⟩ := bd_some e
  obtain ⟨y, ς2, e2, q2⟩ := bd_some q1
  obtain ⟨e4, h4⟩ := lift_some q2
  subst h4
  refine ⟨ς, G, rl, x, _, e1, fun v H1 G1 rl1 s1 dp1 => ⟨ς1, G1, rl1, y, _, e2, fun w H2 G2 rl2 s2 dp2 => ?_⟩⟩
  unfold gRn2 at e4
  split at e4
  · rename_i m n
    split at e4
    · rename_i hh
      obtain ⟨h1, h2⟩ := hh
      unfold inR at h1 h2
      simp only [Bool.and_eq_true, decide_eq_true_eq] at h1 h2
      cases e4
      exact ⟨m, n, by rw [dp_int dp1], by rw [dp_int dp2], h1.1, h1.2, h2.1, h2.2, k _ H2 G2 rl2 (s1.trans s2) (walk_dn rfl)⟩
    · cases e4
  · cases e4
theorem Sm.itRv2 {ς : En} {Q : List D → En → Prop} (h : wp fa ς fun r ς1 => ∃ d ς2, toD r ς1 = some (d, ς2) ∧ wp fb ς2 fun r2 ς3 => ∃ d2 ς4, toD r2 ς3 = some (d2, ς4) ∧ ∃ xs, gRn2 d d2 = some xs ∧ Q xs ς4) : wp (Lw.itRv2 fa fb) ς Q :=
  Sm.bd (Sm.esc (Sm.mono h fun r ς1 ⟨d, ς2, e, q⟩ => ⟨d, ς2, e, Sm.bd (Sm.esc (Sm.mono q fun r2 ς3 ⟨d2, ς4, e2, xs, e3, q2⟩ => ⟨d2, ς4, e2, Sm.lift e3 q2⟩))⟩))
end
/-! ### xs[i] += e, of a list of one's own -/
def augS (n : Nat) (fi : M R) (h : Int → Int → Int) (fe : M R) : MS := fun ς => match vr n ς with
  | some (.ref i, ς1) => match ptS fi ς1 with
    | some (some j, ς2) => match ς2[i]? with
      | some (some (.own _ ds)) => match ixN ds.length j with
        | some m => match ds[m]? with
          | some (.int x) => match esc fe ς2 with
            | some (.int y, ς3) => match ς3[i]? with
              | some (some (.own b ds')) => if ds'.length = ds.length then some (.nx (ς3.set i (some (.own b (ds'.set m (.int (h x y))))))) else none
              | _ => none
            | _ => none
          | _ => none
        | none => none
      | _ => none
    | _ => none
  | _ => none
theorem Sm.augS {ς : En} {Q : Out → Prop} {n : Nat} {fi fe : M R} {h : Int → Int → Int} {b : Bool} {ds : List D} (e0 : ς[n]? = some (some (.own b ds))) (hi : wp fi ς fun r ς1 => ∃ (j : Int) (m : Nat) (x : Int), rdD r ς1 = some (.int j) ∧ ς1[n]? = some (some (.own b ds)) ∧ ixN ds.length j = some m ∧ ds[m]? = some (.int x) ∧ wp fe ς1 fun r2 ς2 => ∃ (y : Int) (ς3 : En), toD r2 ς2 = some (.int y, ς3) ∧ ς3[n]? = some (some (.own b ds)) ∧ Q (.nx (ς3.set n (some (.own b (ds.set m (.int (h x y)))))))) : wps (Lw.augS n fi h fe) ς Q := by
  have hp : wp (Lw.ptS fi) ς fun r ς1 => ∃ (j : Int), r = some j ∧ ∃ (m : Nat) (x : Int), ς1[n]? = some (some (.own b ds)) ∧ ixN ds.length j = some m ∧ ds[m]? = some (.int x) ∧ wp fe ς1 fun r2 ς2 => ∃ (y : Int) (ς3 : En), toD r2 ς2 = some (.int y, ς3) ∧ ς3[n]? = some (some (.own b ds)) ∧ Q (.nx (ς3.set n (some (.own b (ds.set m (.int (h x y))))))) :=
    Sm.ptS (Sm.mono hi fun r ς1 ⟨j, m, x, e1, e2, e3, e4, e5⟩ => ⟨j, e1, j, rfl, m, x, e2, e3, e4, e5⟩)
  obtain ⟨r, ς1, e1, j, rfl, m, x, e2, e3, e4, r2, ς2, e5, y, ς3, e6, e7, q⟩ := hp
  refine ⟨_, ?_, q⟩
  have ee : Lw.esc fe ς1 = some (.int y, ς3) := by unfold Lw.esc Lw.bd; rw [e5]; exact e6
  have ev : Lw.vr n ς = some (.ref n, ς) := by unfold Lw.vr; rw [e0]
  unfold Lw.augS
  simp only [ev, e1, e2, e3, e4, ee, e7, if_true]
end Lw
namespace Lw
open PySem PySem.Spec PyProof.Rows L2
def g_l_box : MS :=
  (sq (asg (ife (tst (op2 gLt (vr 1) (cal1 gLen (vr 0)))) (op2 gIx (vr 0) (vr 1)) (cn (.int 0))) (tgN 2))
  (retS (lstE (argV (op2 gMulA (cal1 gAbs (vr 2)) (cal1 gInt (op2 gGe (cal1 gAbs (vr 2)) (op2 gPowA (cn (.int 10)) (cn (.int 18)))))) (argV (op2 gModA (op2 gMulA (op2 gAddA (op2 gAddA (op2 gModA (vr 2) (cn (.int 2147483629))) (op2 gMulA (cn (.int 15485863)) (vr 1))) (cn (.int 43))) (cn (.int 48271))) (cn (.int 2147483647))) (argV (cn (.int 0)) argN))))))
def m_l_box : Fsem := runFn g_l_box 3
def g_l_take (self : Fsem) : MS :=
  (sq (ifS (tst (op2 gGt (op2 gIx (vr 0) (cn (.int 0))) (cn (.int 0)))) (sq (asg (op2 gDm (op2 gIx (vr 0) (cn (.int 0))) (vr 1)) (tgT 2 (tgsC (tgS (vr 0) (cn (.int 0))) (tgsC (tgN 2) tgsN))))
  (retS (vr 2))) skip)
  (sq (ifS (tst (op2 gGt (vr 1) (op2 gPowA (cn (.int 10)) (cn (.int 7))))) (retS (op2 gModA (op2 gAddA (callE self (argR (vr 0) (argV (op2 gPowA (cn (.int 10)) (cn (.int 7))) argN))) (op2 gMulA (op2 gPowA (cn (.int 10)) (cn (.int 7))) (callE self (argR (vr 0) (argV (op2 gAddA (op2 gDivA (op2 gSubA (vr 1) (cn (.int 1))) (op2 gPowA (cn (.int 10)) (cn (.int 7)))) (cn (.int 1))) argN))))) (vr 1))) skip)
  (sq (asg (op2 gAddA (op2 gIx (vr 0) (cn (.int 2))) (cn (.int 1))) (tgS (vr 0) (cn (.int 2))))
  (sq (asg (op2 gAddA (cn (.int 69621)) (op2 gMulA (op2 gIx (vr 0) (cn (.int 2))) (op2 gIx (vr 0) (cn (.int 2))))) (tgN 3))
  (sq (asg (op2 gModA (op2 gMulA (op2 gAddA (op2 gIx (vr 0) (cn (.int 1))) (op2 gMulA (cn (.int 39373)) (op2 gIx (vr 0) (cn (.int 2))))) (vr 3)) (cn (.int 2147483587))) (tgN 4))
  (sq (asg (op2 gModA (op2 gAddA (op2 gMulA (vr 4) (op2 gAddA (op2 gModA (vr 4) (cn (.int 30011))) (cn (.int 5)))) (op2 gIx (vr 0) (cn (.int 2)))) (cn (.int 2147483563))) (tgN 5))
  (retS (op2 gModA (op2 gDivA (op2 gModA (op2 gMulA (vr 5) (op2 gAddA (op2 gModA (vr 5) (cn (.int 1013))) (cn (.int 3)))) (cn (.int 998244353))) (cn (.int 16))) (vr 1)))))))))
def m_l_take : Nat → Fsem
  | 0 => fun _ => none
  | n + 1 => runFn (g_l_take (m_l_take n)) 6
def g_l_folded : MS :=
  (sq (asgO 2 (cal1 gList (slE (vr 0) ptN (ptS (vr 1)))))
  (sq (forS (itE (slE (vr 0) (ptS (vr 1)) (ptS (cn (.int 63))))) (tgT 2 (tgsC (tgN 3) (tgsC (tgN 4) tgsN))) (asg (op2 gAddA (op2 gIx (vr 2) (op2 gModA (vr 3) (vr 1))) (op2 gMulA (vr 4) (op2 gAddA (vr 3) (cn (.int 2))))) (tgS (vr 2) (op2 gModA (vr 3) (vr 1)))))
  (retS (vr 2))))
def m_l_folded : Fsem := runFn g_l_folded 5
def g_l_same (self : Fsem) : MS :=
  (sq (ifS (tru (isE (vr 1) [.list, .tuple])) (sq (ifS (orT (tst (op2 gNe (isE (vr 0) [.list]) (isE (vr 1) [.list]))) (tst (op2 gNe (isE (vr 0) [.tuple]) (isE (vr 1) [.tuple])))) (retS (cn (.bool false))) skip)
  (retS (andV (op2 gEq (cal1 gLen (vr 0)) (cal1 gLen (vr 1))) (cal1 gAll (lcE (itZ (vr 0) (vr 1)) [2, 3] (tgT 2 (tgsC (tgN 2) (tgsC (tgN 3) tgsN))) (ret true) (callE self (argV (vr 2) (argV (vr 3) argN)))))))) skip)
  (sq (ifS (orT (tst (op2 gIs (vr 1) (cn .none))) (tru (isE (vr 1) [.str]))) (retS (andV (op2 gEq (vr 0) (vr 1)) (op2 gEq (isE (vr 0) [.str]) (isE (vr 1) [.str])))) skip)
  (retS (andV (isE (vr 0) [.int]) (andV (op2 gEq (isE (vr 0) [.bool]) (isE (vr 1) [.bool])) (op2 gEq (vr 0) (vr 1)))))))
def m_l_same : Nat → Fsem
  | 0 => fun _ => none
  | n + 1 => runFn (g_l_same (m_l_same n)) 4
def g_l_great : MS :=
  (retS (op2 gIx (lstE (argV (cn (.int 1)) (argV (cn (.int 1)) (argV (cn (.int 1)) (argV (op2 gPowA (cn (.int 10)) (cn (.int 6))) (argV (op2 gPowA (cn (.int 10)) (cn (.int 15))) argN)))))) (callE (m_l_take 4) (argR (vr 0) (argV (cn (.int 5)) argN)))))
def m_l_great : Fsem := runFn g_l_great 1
def g_l_stair : MS :=
  (sq (asgO 3 (lstE argN))
  (sq (forS (itR1 (op2 gAddA (cn (.int 1)) (callE (m_l_take 4) (argR (vr 0) (argV (vr 1) argN))))) (tgN 4) (sq (par3 5 6 7 (callE (m_l_take 4) (argR (vr 0) (argV (cn (.int 4)) argN))) (callE (m_l_take 4) (argR (vr 0) (argV (op2 gIx (lstE (argV (cn (.int 2)) (argV (cn (.int 8)) (argV (cn (.int 30)) argN)))) (callE (m_l_take 4) (argR (vr 0) (argV (cn (.int 3)) argN)))) argN))) (op2 gAddA (cn (.int 1)) (callE (m_l_take 4) (argR (vr 0) (argV (cn (.int 4)) argN)))))
  (exS (mth hApp (vr 3) (argV (tupE (argV (op2 gMulA (vr 5) (vr 2)) (argV (op2 gMulA (op2 gAddA (vr 5) (vr 6)) (vr 2)) (argV (op2 gMulA (vr 7) (vr 2)) argN)))) argN)))))
  (retS (cal1 gTuple (vr 3)))))
def m_l_stair : Fsem := runFn g_l_stair 8
end Lw
namespace Lw
open PySem PySem.Spec PyProof.Rows L2
def g_p_change_of : MS :=
  (sq (par2 2 3 false false (op2 gIx (vr 1) (cn (.int 0))) (op2 gIx (vr 1) (cn (.int 1))))
  (sq (ifS (tst (op2 gEq (vr 2) (cn (.str "fill")))) (retS (tupE (argV (vr 3) (argV (negV (op2 gIx (op2 gIx (vr 0) (op2 gSubA (vr 3) (cn (.int 1)))) (cn (.int 2)))) argN)))) skip)
  (sq (ifS (tst (op2 gEq (vr 2) (cn (.str "empty")))) (retS (tupE (argV (op2 gSubA (vr 3) (cn (.int 1))) (argV (op2 gIx (op2 gIx (vr 0) (op2 gSubA (vr 3) (cn (.int 1)))) (cn (.int 2))) argN)))) skip)
  (sq (ifS (tst (op2 gEq (vr 2) (cn (.str "raise")))) (retS (tupE (argV (vr 3) (argV (op2 gIx (vr 1) (cn (.int 2))) argN)))) skip)
  (retS (tupE (argV (vr 3) (argV (negV (op2 gIx (vr 1) (cn (.int 2)))) argN))))))))
def m_p_change_of : Fsem := runFn g_p_change_of 4
def g_l_lap : MS :=
  (sq (asg (lcE (itR1 (vr 1)) [5] (tgN 5) (ret true) (callE (m_l_take 4) (argR (vr 0) (argV (cn (.int 2)) argN)))) (tgN 4))
  (sq (par2 6 7 true true (cal1 gList (vr 4)) (lstE argN))
  (sq (forS (itR1 (callE (m_l_take 4) (argR (vr 0) (argV (op2 gAddA (vr 2) (cn (.int 1))) argN)))) (tgN 8) (sq (par2 9 10 false false (callE (m_l_take 4) (argR (vr 0) (argV (cn (.int 5)) argN))) (callE (m_l_take 4) (argR (vr 0) (argV (vr 1) argN))))
  (ifS (tst (op2 gLt (vr 9) (cn (.int 2)))) (sq (exS (mth hApp (vr 7) (argV (tupE (argV (op2 gIx (lstE (argV (cn (.str "fill")) (argV (cn (.str "empty")) argN))) (op2 gIx (vr 6) (vr 10))) (argV (op2 gAddA (vr 10) (cn (.int 1))) argN))) argN)))
  (asg (op2 gSubA (cn (.int 1)) (op2 gIx (vr 6) (vr 10))) (tgS (vr 6) (vr 10)))) (exS (mth hApp (vr 7) (argV (tupE (argV (op2 gIx (lstE (argV (cn (.str "lower")) (argV (cn (.str "raise")) (argV (cn (.str "raise")) argN)))) (op2 gSubA (vr 9) (cn (.int 2)))) (argV (op2 gAddA (vr 10) (cn (.int 1))) (argV (op2 gMulA (vr 3) (op2 gAddA (cn (.int 1)) (callE (m_l_take 4) (argR (vr 0) (argV (cn (.int 6)) argN))))) argN)))) argN))))))
  (sq (forS (itR1 (vr 1)) (tgN 10) (ifS (tst (op2 gNe (op2 gIx (vr 6) (vr 10)) (op2 gIx (vr 4) (vr 10)))) (exS (mth hApp (vr 7) (argV (tupE (argV (op2 gIx (lstE (argV (cn (.str "fill")) (argV (cn (.str "empty")) argN))) (op2 gIx (vr 6) (vr 10))) (argV (op2 gAddA (vr 10) (cn (.int 1))) argN))) argN))) skip))
  (retS (tupE (argV (vr 7) (argV (cal1 gTuple (lcE (itS (vr 4)) [9] (tgN 9) (ret true) (op2 gIx (lstE (argV (cn (.str "low")) (argV (cn (.str "high")) argN))) (vr 9)))) argN))))))))
def m_l_lap : Fsem := runFn g_l_lap 11
end Lw
namespace Lw
open PySem PySem.Spec PyProof.Rows L2
def g_p_run_over : MS :=
  (sq (asgO 2 (lstE argN))
  (sq (asgO 3 (lstE argN))
  (sq (asg (cn (.int 0)) (tgN 4))
  (sq (forS (itV (lzE (vr 0) (vr 1))) (tgT 2 (tgsC (tgN 5) (tgsC (tgN 6) tgsN))) (sq (asg (op2 gAddA (vr 6) (vr 4)) (tgN 7))
  (sq (asg (op2 (g2I fun i j => if j > i then j else i) (cn (.int 0)) (op2 gSubA (vr 7) (op2 gIx (vr 5) (cn (.int 1))))) (tgN 4))
  (sq (exS (mth hApp (vr 2) (argV (op2 gSubA (vr 7) (vr 4)) argN)))
  (exS (mth hApp (vr 3) (argV (vr 4) argN)))))))
  (retS (tupE (argV (cal1 gTuple (cal1 gRev (vr 2))) (argV (cal1 gTuple (cal1 gRev (vr 3))) argN))))))))
def m_p_run_over : Fsem := runFn g_p_run_over 8
def g_p_levels_behind : MS :=
  (sq (asg (callE m_p_change_of (argV (vr 0) (argV (vr 2) argN))) (tgT 2 (tgsC (tgN 3) (tgsC (tgN 4) tgsN))))
  (sq (asgO 5 (cal1 gList (vr 1)))
  (sq (ifS (tst (op2 gGt (vr 3) (cn (.int 0)))) (augS 5 (op2 gSubA (vr 3) (cn (.int 1))) (fun i j => i + j) (vr 4)) skip)
  (retS (callE m_p_run_over (argV (vr 0) (argV (vr 5) argN)))))))
def m_p_levels_behind : Fsem := runFn g_p_levels_behind 6
def g_p_chambers_behind : MS :=
  (sq (asgO 2 (cal1 gList (vr 0)))
  (sq (ifS (tst (op2 gEq (op2 gIx (vr 1) (cn (.int 0))) (cn (.str "fill")))) (asg (cn (.str "high")) (tgS (vr 2) (op2 gSubA (op2 gIx (vr 1) (cn (.int 1))) (cn (.int 1))))) skip)
  (sq (ifS (tst (op2 gEq (op2 gIx (vr 1) (cn (.int 0))) (cn (.str "empty")))) (asg (cn (.str "low")) (tgS (vr 2) (op2 gSubA (op2 gIx (vr 1) (cn (.int 1))) (cn (.int 1))))) skip)
  (retS (cal1 gTuple (vr 2))))))
def m_p_chambers_behind : Fsem := runFn g_p_chambers_behind 3
def g_p_is_shut : MS :=
  (sq (par2 2 3 false false (op2 gIx (vr 1) (cn (.int 0))) (op2 gIx (vr 1) (cn (.int 1))))
  (sq (ifS (tst (op2 gEq (vr 2) (cn (.str "fill")))) (retS (op2 gNe (op2 gIx (vr 0) (op2 gSubA (vr 3) (cn (.int 1)))) (cn (.str "low")))) skip)
  (retS (andV (op2 gEq (vr 2) (cn (.str "empty"))) (op2 gNe (op2 gIx (vr 0) (op2 gSubA (vr 3) (cn (.int 1)))) (cn (.str "high")))))))
def m_p_is_shut : Fsem := runFn g_p_is_shut 4
def g_p_asked_by : MS :=
  (sq (asg (callE m_p_change_of (argV (vr 0) (argV (vr 1) argN))) (tgT 2 (tgsC (tgN 2) (tgsC (tgN 3) tgsN))))
  (sq (ifS (tst (op2 gGe (vr 3) (cn (.int 0)))) (retS (cn .none)) skip)
  (retS (tupE (argV (vr 2) (argV (op2 gSubA (op2 gIx (op2 gIx (vr 0) (op2 gSubA (vr 2) (cn (.int 1)))) (cn (.int 0))) (vr 3)) argN))))))
def m_p_asked_by : Fsem := runFn g_p_asked_by 4
def g_p_is_dry : MS :=
  (sq (asg (callE m_p_asked_by (argV (vr 0) (argV (vr 2) argN))) (tgN 3))
  (retS (andV (op2 gIsNot (vr 3) (cn .none)) (op2 gLt (op2 gIx (vr 1) (op2 gSubA (op2 gIx (vr 3) (cn (.int 0))) (cn (.int 1)))) (op2 gIx (vr 3) (cn (.int 1)))))))
def m_p_is_dry : Fsem := runFn g_p_is_dry 4
def g_p_fault_of : MS :=
  (sq (asg (vr 1) (tgT 2 (tgsC (tgN 3) (tgsC (tgN 4) tgsN))))
  (sq (ifS (tru (callE m_p_is_shut (argV (vr 4) (argV (vr 2) argN)))) (retS (tupE (argV (cn (.str "shut")) (argV (op2 gIx (vr 2) (cn (.int 1))) argN)))) skip)
  (sq (ifS (tru (callE m_p_is_dry (argV (vr 0) (argV (vr 3) (argV (vr 2) argN))))) (retS (tupE (argV (cn (.str "dry")) (argV (op2 gIx (vr 2) (cn (.int 1))) argN)))) skip)
  (retS (cn .none)))))
def m_p_fault_of : Fsem := runFn g_p_fault_of 5
def g_p_refuse : MS :=
  (sq (asg (vr 0) (tgT 2 (tgsC (tgN 1) (tgsC (tgN 2) tgsN))))
  (sq (ifS (tst (op2 gEq (vr 1) (cn (.str "shut")))) rse skip)
  rse))
def m_p_refuse : Fsem := runFn g_p_refuse 3
def g_p_done : MS :=
  (sq (asg (callE m_p_fault_of (argV (vr 0) (argV (vr 1) (argV (vr 2) argN)))) (tgN 3))
  (sq (ifS (tst (op2 gIsNot (vr 3) (cn .none))) (exS (callE m_p_refuse (argV (vr 3) argN))) skip)
  (sq (asg (vr 1) (tgT 2 (tgsC (tgN 4) (tgsC (tgN 5) tgsN))))
  (sq (asg (callE m_p_levels_behind (argV (vr 0) (argV (vr 4) (argV (vr 2) argN)))) (tgT 2 (tgsC (tgN 6) (tgsC (tgN 7) tgsN))))
  (retS (tupE (argV (tupE (argV (vr 6) (argV (callE m_p_chambers_behind (argV (vr 5) (argV (vr 2) argN))) argN))) (argV (vr 7) argN))))))))
def m_p_done : Fsem := runFn g_p_done 8
end Lw
namespace Lw
open PySem PySem.Spec PyProof.Rows L2
section
variable {X : Cx} {a b c e tg : Expr} {es : List Expr} {fa fb fc f : M R} {pos p : Pos} {st : Stmt}
/-! ### x, y = a, b by the pair itself -/
theorem RepR.layF {K : PySem.W.Frag} {F : Fx} {ς : En} {G : Hp} {σ : L2.St} {H : Hp} {x : R} {v : V} {q : Addr} {o : HO} (h : RepR K F ς G σ H x v) (hq : H q = none) : RepR K F ς G σ (upd H q o) x v := by
  cases x with
  | pure d => exact h
  | ref i => exact h
  | fresh ds =>
    obtain ⟨a, vs, rfl, h1, h2⟩ := h
    have ne : a ≠ q := fun z => by subst z; rw [h1] at hq; cases hq
    exact ⟨a, vs, rfl, by rw [upd_ne ne]; exact h1, h2⟩
/-! ### x, y, z = a, b, [..] -/
def parL3 (i j l : Nat) (fa fb fc : M R) : MS := fun ς => match bd (esc fa) (fun x => bd (esc fb) fun y => bd fc fun z => ret (x, y, z)) ς with
  | some ((x, y, .fresh zs), ς') => if free ς' i = true ∧ free (ς'.set i (some (.pure x))) j = true ∧ free ((ς'.set i (some (.pure x))).set j (some (.pure y))) l = true then some (.nx (((ς'.set i (some (.pure x))).set j (some (.pure y))).set l (some (.own false zs)))) else none
  | _ => none
theorem Sm.parL3 {ς : En} {Q : Out → Prop} {i j l : Nat} (h : wp fa ς fun a ς1 => ∃ x ς1', toD a ς1 = some (x, ς1') ∧ wp fb ς1' fun b ς2 => ∃ y ς2', toD b ς2 = some (y, ς2') ∧ wp fc ς2' fun c ς3 => ∃ zs, c = .fresh zs ∧
    (free ς3 i = true ∧ free (ς3.set i (some (.pure x))) j = true ∧ free ((ς3.set i (some (.pure x))).set j (some (.pure y))) l = true) ∧ Q (.nx (((ς3.set i (some (.pure x))).set j (some (.pure y))).set l (some (.own false zs))))) : wps (Lw.parL3 i j l fa fb fc) ς Q := by
  obtain ⟨a, ς1, e1, x, ς1', t1, b, ς2, e2, y, ς2', t2, c, ς3, e3, zs, rfl, hf, q⟩ := h
  refine ⟨_, ?_, q⟩
  unfold Lw.parL3
  have h1 : Lw.esc fa ς = some (x, ς1') := by unfold Lw.esc Lw.bd; rw [e1]; exact t1
  have h2 : Lw.esc fb ς1' = some (y, ς2') := by unfold Lw.esc Lw.bd; rw [e2]; exact t2
  have : Lw.bd (Lw.esc fa) (fun x => Lw.bd (Lw.esc fb) fun y => Lw.bd fc fun z => Lw.ret (x, y, z)) ς = some ((x, y, .fresh zs), ς3) := by
    unfold Lw.bd
    rw [h1]
    simp only [h2, e3, Lw.ret]
  rw [this]
  simp only
  rw [if_pos hf]
/-! ### x is True, x is not True, of truths -/
def gIsNotB : D → D → Option R
  | .bool a, .bool b => some (.pure (.bool (!decide (a = b))))
  | _, _ => none
theorem op2_isNotB {F : Fx} : Op2 X F (fun x y H Q => ∃ a b, x = .bl a ∧ y = .bl b ∧ Q (.bl (!decide (a = b))) H) gIsNotB := ⟨fun ς G σ H x y dx dy r Q rl hx hy e k => by
  cases dx with
  | bool a =>
    cases dy with
    | bool b =>
      cases e
      rcases hx with hx | ⟨_, _, _, _, ee, _⟩
      · rcases hy with hy | ⟨_, _, _, _, ee, _⟩
        · exact ⟨a, b, dp_bool hx, dp_bool hy, k _ H G rl (Same.refl _) (.bl _)⟩
        · cases ee
      · cases ee
    | _ => cases e
  | _ => cases e⟩
end
end Lw
namespace Lw
open PySem PySem.Spec PyProof.Rows L2
def g_p_brim_table : MS :=
  (sq (asgO 1 (lstE argN))
  (sq (asg (tupE (argV (cn (.int 0)) argN)) (tgN 2))
  (sq (forS (itS (cal1 gRev (vr 0))) (tgN 3) (sq (asg (op2 gAddA (tupE (argV (cn (.int 0)) argN)) (cal1 gTuple (lcE (itS (vr 2)) [4] (tgN 4) (ret true) (op2 gAddA (op2 gIx (vr 3) (cn (.int 1))) (vr 4))))) (tgN 2))
  (exS (mth hApp (vr 1) (argV (vr 2) argN)))))
  (retS (cal1 gTuple (cal1 gRev (vr 1)))))))
def m_p_brim_table : Fsem := runFn g_p_brim_table 5
def g_p_table_behind : MS :=
  (sq (asg (callE m_p_change_of (argV (vr 0) (argV (vr 2) argN))) (tgT 2 (tgsC (tgN 3) (tgsC (tgN 4) tgsN))))
  (sq (asgO 5 (lstE argN))
  (sq (asg (tupE (argV (cn (.int 0)) argN)) (tgN 6))
  (sq (forS (itRv2 (cn (.int 1)) (op2 gAddA (cal1 gLen (vr 0)) (cn (.int 1)))) (tgN 7) (sq (asg (ife (tst (op2 gLe (vr 7) (vr 3))) (vr 4) (cn (.int 0))) (tgN 8))
  (sq (asg (lcE (itS (op2 gIx (vr 1) (op2 gSubA (vr 7) (cn (.int 1))))) [10] (tgN 10) (ret true) (op2 gAddA (vr 10) (vr 8))) (tgN 9))
  (sq (asg (op2 gIx (op2 gIx (vr 0) (op2 gSubA (vr 7) (cn (.int 1)))) (cn (.int 1))) (tgN 11))
  (sq (asg (op2 gAddA (tupE (argV (op2 gIx (vr 9) (cn (.int 0))) argN)) (cal1 gTuple (lcE (itZ2 (slE (vr 9) (ptS (cn (.int 1))) ptN) (vr 6)) [10, 12] (tgT 2 (tgsC (tgN 10) (tgsC (tgN 12) tgsN))) (ret true) (op2 (g2I fun i j => if j < i then j else i) (vr 10) (op2 gAddA (vr 11) (vr 12)))))) (tgN 6))
  (exS (mth hApp (vr 5) (argV (vr 6) argN))))))))
  (retS (cal1 gTuple (cal1 gRev (vr 5))))))))
def m_p_table_behind : Fsem := runFn g_p_table_behind 13
def g_p_tables_along : MS :=
  (sq (asg (callE m_p_brim_table (argV (vr 0) argN)) (tgN 2))
  (sq (asgO 3 (lstE (argV (vr 2) argN)))
  (sq (forS (itS (vr 1)) (tgN 4) (sq (asg (callE m_p_table_behind (argV (vr 0) (argV (vr 2) (argV (vr 4) argN)))) (tgN 2))
  (exS (mth hApp (vr 3) (argV (vr 2) argN)))))
  (retS (vr 3)))))
def m_p_tables_along : Fsem := runFn g_p_tables_along 5
def g_p_table_of : MS :=
  (retS (op2 gIx (callE m_p_tables_along (argV (vr 0) (argV (vr 1) argN))) (negV (cn (.int 1)))))
def m_p_table_of : Fsem := runFn g_p_table_of 2
def g_p_led : MS :=
  (sq (asg (lstE (argX (vr 1) (argV (cn (.int 0)) argN))) (tgN 2))
  (retS (cal1 gTuple (lcE (itEn (vr 0)) [5, 6] (tgT 2 (tgsC (tgN 5) (tgsC (tgN 6) tgsN))) (ret true) (cal1 gMinK (lcE (itZ2 (vr 6) (slE (vr 2) (ptS (vr 5)) ptN)) [3, 4] (tgT 2 (tgsC (tgN 3) (tgsC (tgN 4) tgsN))) (ret true) (op2 gAddA (vr 3) (vr 4))))))))
def m_p_led : Fsem := runFn g_p_led 7
def g_p_totals_of : MS :=
  (sq (asgO 1 (lstE argN))
  (sq (asg (cn (.int 0)) (tgN 2))
  (sq (forS (itS (cal1 gRev (vr 0))) (tgN 3) (sq (augI 2 (fun i j => i + j) (vr 3))
  (exS (mth hApp (vr 1) (argV (vr 2) argN)))))
  (retS (cal1 gTuple (cal1 gRev (vr 1)))))))
def m_p_totals_of : Fsem := runFn g_p_totals_of 4
def g_p_levels_of : MS :=
  (sq (asg (lstE (argX (slE (vr 0) (ptS (cn (.int 1))) ptN) (argV (cn (.int 0)) argN))) (tgN 1))
  (retS (cal1 gTuple (lcE (itZ2 (vr 0) (vr 1)) [2, 3] (tgT 2 (tgsC (tgN 2) (tgsC (tgN 3) tgsN))) (ret true) (op2 gSubA (vr 2) (vr 3))))))
def m_p_levels_of : Fsem := runFn g_p_levels_of 4
def g_p_row_behind : MS :=
  (retS (cal1 gTuple (lcE (itR1 (cal1 gLen (vr 1))) [3] (tgN 3) (ret true) (cal1 gMinK (lcE (itR1 (op2 gAddA (vr 3) (cn (.int 1)))) [2] (tgN 2) (ret true) (op2 gAddA (op2 gIx (vr 1) (vr 2)) (op2 gIx (op2 gIx (vr 0) (vr 2)) (op2 gSubA (vr 3) (vr 2)))))))))
def m_p_row_behind : Fsem := runFn g_p_row_behind 4
def g_p_behind : MS :=
  (sq (asg (lstE (argX (vr 0) (argV (tupE (argV (cn (.int 0)) argN)) argN))) (tgN 2))
  (retS (cal1 gTuple (lcE (itEn (vr 1)) [3, 4] (tgT 2 (tgsC (tgN 3) (tgsC (tgN 4) tgsN))) (ret true) (callE m_p_row_behind (argV (slE (vr 2) (ptS (vr 3)) ptN) (argV (vr 4) argN)))))))
def m_p_behind : Fsem := runFn g_p_behind 5
end Lw
namespace Lw
open PySem PySem.Spec PyProof.Rows L2
section
variable {X : Cx} {a b c e tg : Expr} {es : List Expr} {fa fb fc f : M R} {pos p : Pos} {st : Stmt}
/-! ### i >> j, i & j, i.bit_length() -/
def gShr : D → D → Option R := gI (fun _ j => decide (0 ≤ j)) fun i j => .int (i / 2 ^ j.toNat)
theorem d_shr (ha : PEd X a fa) (hb : PEd X b fb) : PEd X (.BinOp a .RShift b pos) (op2 gShr fa fb) := d_op op_shr (fun _ => op2_I (fun i j h => of_decide_eq_true h) fun _ _ _ => .int _) ha hb
def gAnd : D → D → Option R := gI0 fun i j => .int (Builtin.bitAnd i j)
theorem d_bitand (ha : PEd X a fa) (hb : PEd X b fb) : PEd X (.BinOp a .BitAnd b pos) (op2 gAnd fa fb) := d_op op_and (fun _ => op2_I0 fun _ _ _ => .int _) ha hb
def gBits : D → Option R
  | .int i => some (.pure (.int (Builtin.Int.intBits i : Nat)))
  | _ => none
theorem d_bits {apos : Pos} (ha : PEd X a fa) (hbase : attributeBase a "bit_length" X.env (eval a X.env) = eval a X.env := by rfl) (hline : (apos.endLine == pos.line) = true := by rfl) : PEd X (.Call (.Attribute a "bit_length" apos) [] [] pos) (cal1 gBits fa) := fun F => PE.mono (L2.pe_bits (d_sub ha F) hbase hline) fun σ H Q hq => by
  obtain ⟨ς, G, rl, r, ς', e, k⟩ := hq
  obtain ⟨a, ς1, e1, q1⟩ := bd_some e
  obtain ⟨x, ς3, e3', q3⟩ := bd_some q1
  obtain ⟨e3, h3⟩ := rd_some e3'
  obtain ⟨e4, h4⟩ := lift_some q3
  subst h3 h4
  refine ⟨ς, G, rl, a, _, e1, fun v H1 G1 rl1 s1 rep1 => ?_⟩
  have rv := rdD_ok rl1 rep1 e3
  cases x with
  | int i => cases e4; exact ⟨i, rv.int, k _ H1 G1 rl1 s1 (.int _)⟩
  | _ => cases e4
theorem shr_ok {i : Int} {k : Nat} : gShr (.int i) (.int (k : Int)) = some (.pure (.int (i / 2 ^ k))) := by
  show (if decide (0 ≤ (k : Int)) = true then some (R.pure (.int (i / 2 ^ (k : Int).toNat))) else none) = _
  rw [if_pos (decide_eq_true (by omega)), Int.toNat_natCast]
theorem and1_ok {n : Nat} : gAnd (.int (n : Int)) (.int 1) = some (.pure (.int ((n % 2 : Nat) : Int))) := by
  have e : Builtin.bitAnd (n : Int) 1 = ((n % 2 : Nat) : Int) := by
    rw [PyProof.Rows.bitAnd_m1]
    omega
  show some (R.pure (.int (Builtin.bitAnd (n : Int) 1))) = _
  rw [e]
end
end Lw
namespace Lw
open PySem PySem.Spec PyProof.Rows L2
def g_p_doubles_of : MS :=
  (sq (asg (cal1 gTuple (lcE (itS (vr 0)) [3] (tgN 3) (ret true) (cal1 gTuple (vr 3)))) (tgN 2))
  (sq (asgO 4 (lstE (argV (vr 2) argN)))
  (sq (forS (itR1 (op2 gSubA (cal1 gBits (vr 1)) (cn (.int 1)))) (tgN 5) (sq (asg (callE m_p_behind (argV (vr 2) (argV (vr 2) argN))) (tgN 2))
  (exS (mth hApp (vr 4) (argV (vr 2) argN)))))
  (retS (vr 4)))))
def m_p_doubles_of : Fsem := runFn g_p_doubles_of 6
def g_p_doubles_in : MS :=
  (retS (lcE (itEn (vr 0)) [2, 3] (tgT 2 (tgsC (tgN 2) (tgsC (tgN 3) tgsN))) (tru (op2 gAnd (op2 gShr (vr 1) (vr 2)) (cn (.int 1)))) (vr 3)))
def m_p_doubles_in : Fsem := runFn g_p_doubles_in 4
def g_p_led_often : MS :=
  (sq (asg (cal1 gTuple (vr 1)) (tgN 3))
  (sq (forS (itS (callE m_p_doubles_in (argV (vr 0) (argV (vr 2) argN)))) (tgN 4) (asg (callE m_p_led (argV (vr 4) (argV (vr 3) argN))) (tgN 3)))
  (retS (vr 3))))
def m_p_led_often : Fsem := runFn g_p_led_often 5
def g_p_far_totals : MS :=
  (retS (callE m_p_led_often (argV (callE m_p_doubles_of (argV (callE m_p_table_of (argV (vr 0) (argV (vr 2) argN))) (argV (vr 3) argN))) (argV (callE m_p_totals_of (argV (vr 1) argN)) (argV (vr 3) argN)))))
def m_p_far_totals : Fsem := runFn g_p_far_totals 4
def g_p_far_levels : MS :=
  (retS (callE m_p_levels_of (argV (callE m_p_far_totals (argV (vr 0) (argV (vr 1) (argV (vr 2) (argV (vr 3) argN))))) argN)))
def m_p_far_levels : Fsem := runFn g_p_far_levels 4
end Lw
namespace Lw
open PySem PySem.Spec PyProof.Rows L2
theorem list_mulW (l : Addr) (items : Array Value) (n : Nat) (dd : Option Addr) (sl : Array (Option Value)) (x : Int) (u : Tok) (hc0 : ¬(!Builtin.List.listFitsIndex x) = true) (hc1 : ¬items.size * x.toNat > (2 ^ 63 - 1) / 8) (hc2 : ¬Builtin.List.listTooLong (items.size * x.toNat) = true) :
    Meets (Builtin.«list.__mul__» ⟨[.ref l, .int x u], []⟩) (fun _ R s => s.heap.get? l = some { cls := .type "list", dict := dd, data := .seq items n, slots := sl } ∧ R (.ok (.ret (Value.ref s.heap.objs.size))) { s with heap := s.heap.push { cls := Value.type "list", data := Data.seq (List.foldl (fun x1 x2 => x1 ++ x2) #[] (List.replicate (if items.isEmpty = true then 0 else x.toNat) items)) }, toks := s.toks }) :=
  .of_wp fun prog w A R s h => by
    obtain ⟨hp, g, d, tk, os⟩ := s; obtain ⟨hl, h⟩ := h
    have hsz := AutoListH.joined_fits hc2
    have f1 := AutoSeq1.idx_int
    wp_walk using wpAny_loadPart' hl
    refine wpAny_ite_false (decide_eq_false (Nat.not_lt.mpr hsz)) ?_
    wp_walk using wpAny_loadPart' hl
    exact ⟨_, rfl, h⟩
theorem int_rmulW (a : Int) (t : Tok) (l : Addr) (items : Array Value) (n : Nat) (dd : Option Addr) (sl : Array (Option Value)) :
    Meets (Builtin.«int.__rmul__» ⟨[.int a t, .ref l], []⟩) (fun _ R s => s.heap.get? l = some { cls := .type "list", dict := dd, data := .seq items n, slots := sl } ∧ R (.ok (.ret Value.notImplemented)) s) :=
  .of_wp fun prog w A R s h => by obtain ⟨hp, g, d, tk, os⟩ := s; obtain ⟨hl, h⟩ := h; wp_walk using wpAny_loadPart' hl; exact ⟨_, rfl, h⟩
section
variable {X : Cx} {F : Fx} {a b c e tg : Expr} {es : List Expr} {fa fb fc f : M R} {pos p : Pos} {st : Stmt}
/-! ### a list, so many times -/
def rRepV (K : PySem.W.Frag) : R2 := fun x y H Q => ∃ l k xs, x = .ref l ∧ y = .int k ∧ SqL K H l xs ∧ -(2 ^ 63) ≤ k ∧ k < 2 ^ 63 ∧ xs.length * k.toNat ≤ sizeLine ∧
  ∀ p, H p = none → Q (.ref p) (upd H p (.lst (List.replicate k.toNat xs).flatten))
theorem op_repV : OpR X (binaryOp .Mult) (rRepV X.K) := by
  intro pins s σ H x y v u Q I rx ry h
  obtain ⟨l, k, xs, rfl, rfl, hH, h1, h2, hz, q⟩ := h
  cases rx
  obtain ⟨t, rfl⟩ := ry
  obtain ⟨its, r, pl, _⟩ := I.list hH
  have hl := r.length
  obtain ⟨⟨cls, dd, data, sl⟩, e, hc, n, hd⟩ := pl.isList
  simp only at hc hd
  subst hc hd
  have hlen : its.toArray.size * k.toNat ≤ sizeLine := by rw [List.size_toArray, ← hl]; exact hz
  have hcap : ¬ its.toArray.size * k.toNat > (2 ^ 63 - 1) / 8 := by
    have : (sizeLine : Nat) ≤ (2 ^ 63 - 1) / 8 := by decide
    omega
  have hfit : ¬ (!Builtin.List.listFitsIndex k) = true := by
    rw [fitsIndex_both h1 h2]
    exact Bool.false_ne_true
  have hlong : ¬ Builtin.List.listTooLong (its.toArray.size * k.toNat) = true := by
    rw [notLongL hlen]
    exact Bool.false_ne_true
  have hnew : List.foldl (fun x1 x2 => x1 ++ x2) #[] (List.replicate (if its.toArray.isEmpty = true then 0 else k.toNat) its.toArray) = (List.replicate k.toNat its).flatten.toArray := by
    have f0 : ∀ m : Nat, List.foldl (fun x1 x2 => x1 ++ x2) #[] (List.replicate m its.toArray) = (List.replicate m its).flatten.toArray := fun m => by
      have := foldl_rep its m []
      rw [List.nil_append] at this
      exact this
    rw [f0]
    cases its with
    | nil => simp
    | cons a r' => rw [if_neg (by simp)]
  refine wpAny_binaryOp_repeat_ref (T := "list") (U := "int") (by decide) ⟨_, e, rfl⟩ (fun s' => typeIs_int s' k t) noFill_list_mul F.fills_int_mul F.slot_int_rmul repeat_list F.slot_int_index.lookup
    (call_meets F.slot_int_rmul (typeIs_int s k t) F.entry_int_rmul (F.args_int_rmul_2 _ _) (int_rmulW k t l its.toArray n dd sl)
      ⟨e, rfl, ⟨_, e, rfl⟩, call_meets F.slot_list_mul ⟨_, e, rfl⟩ F.entry_list_mul (F.args_list_mul_2 _ _) (list_mulW l its.toArray n dd sl k t hfit hcap hlong) ⟨e, ?_⟩⟩)
  rw [hnew]
  exact ⟨.ref _, _, I.lnew (t' := s.toks) (r.rep k.toNat) (by rw [PyProof.Rows.lm_len_rep_flat, Nat.mul_comm]; exact hz), rfl, q _ I.fresh⟩
def gRepL : D → D → Option R
  | .list ds, .int n => if 0 ≤ n ∧ ds.length * n.toNat ≤ 1000 ∧ n ≤ 1000 then some (.fresh (List.replicate n.toNat ds).flatten) else none
  | _, _ => none
theorem op2_repL : Op2 X F (rRepV X.K) gRepL := ⟨fun ς G σ H x y dx dy r Q rl hx hy e k => by
  cases dx with
  | list ds =>
    cases dy with
    | int n =>
      replace e : (if 0 ≤ n ∧ ds.length * n.toNat ≤ 1000 ∧ n ≤ 1000 then some (R.fresh (List.replicate n.toNat ds).flatten) else none) = some r := e
      by_cases q : 0 ≤ n ∧ ds.length * n.toNat ≤ 1000 ∧ n ≤ 1000
      · rw [if_pos q] at e
        cases e
        obtain ⟨p, vs, rfl, h1, h2⟩ := hx.list rl.sub
        have hl := dpa_len h2
        have hs : sizeLine = 16777216 := rfl
        refine ⟨p, n, vs, rfl, hy.int, h1, by omega, by omega, by rw [hl]; omega, fun z hz => ?_⟩
        exact k _ _ G (rl.layF hz) (Same.refl _) (rl.repF hz (dpa_rep n.toNat h2))
      · rw [if_neg q] at e; cases e
    | _ => cases e
  | _ => cases e⟩
def gMulV : D → D → Option R := orG gMulA gRepL
theorem d_mulV (ha : PEd X a fa) (hb : PEd X b fb) : PEd X (.BinOp a .Mult b pos) (op2 gMulV fa fb) := d_op ((op_mul.or (op_repT.or op_repT1)).or op_repV) (fun _ => Op2.or (Op2.or op2_mulI (Op2.or op2_repT op2_repT1)) op2_repL) ha hb
theorem repL_ok {ds : List D} {n : Nat} (h : ds.length * n ≤ 1000 ∧ n ≤ 1000) : gMulV (.list ds) (.int (n : Int)) = some (.fresh (List.replicate n ds).flatten) := by
  show (if 0 ≤ (n : Int) ∧ ds.length * (n : Int).toNat ≤ 1000 ∧ (n : Int) ≤ 1000 then some (R.fresh (List.replicate (n : Int).toNat ds).flatten) else none) = _
  rw [if_pos (by rw [Int.toNat_natCast]; omega), Int.toNat_natCast]
end
end Lw
namespace Lw
open PySem PySem.Spec PyProof.Rows L2
/-! ### while -/
/-! ### two generators -/
def lcLoop2 (vs : List Nat) (tg : Tg) (tt : M Bool) (fi1 : M (List D)) (vs1 : List Nat) (tg1 : Tg) (tt1 : M Bool) (fe : M R) : List D → List D → En → Option (List D × En)
  | [], acc, ς => some (acc, ς)
  | d :: ds, acc, ς => match tg d ς with
    | some ς1 => match tt ς1 with
      | some (true, ς2) => match fi1 ς2 with
        | some (ds1, ς3) => if freeAll ς3 vs1 = true then match lcLoop vs1 tg1 tt1 fe ds1 acc (wipeE ς3 vs1) with
            | some (acc', ς4) => if freeAll ς4 vs = true then lcLoop2 vs tg tt fi1 vs1 tg1 tt1 fe ds acc' (wipeE ς4 vs) else none
            | none => none
          else none
        | none => none
      | some (false, ς2) => if freeAll ς2 vs = true then lcLoop2 vs tg tt fi1 vs1 tg1 tt1 fe ds acc (wipeE ς2 vs) else none
      | none => none
    | none => none
def lc2E (fi : M (List D)) (vs : List Nat) (tg : Tg) (tt : M Bool) (fi1 : M (List D)) (vs1 : List Nat) (tg1 : Tg) (tt1 : M Bool) (fe : M R) : M R := fun ς => match fi ς with
  | some (ds, ς1) => if freeAll ς1 vs = true then match lcLoop2 vs tg tt fi1 vs1 tg1 tt1 fe ds [] (wipeE ς1 vs) with
      | some (acc, ς2) => some (.fresh acc, ς2)
      | none => none
    else none
  | none => none
theorem wipe_wipe (σ : L2.St) : ∀ us : List Nat, wipe (wipe σ us) us = wipe σ us
  | [] => rfl
  | u :: us => by
    show (wipe ((wipe σ us).set u none) us).set u none = (wipe σ us).set u none
    rw [wipe_comm1, List.set_set, wipe_wipe σ us]
theorem wipeE_own {ς : En} {n : Nat} {b : Bool} {es : List D} : ∀ us : List Nat, (wipeE ς us)[n]? = some (some (.own b es)) → ς[n]? = some (some (.own b es))
  | [], h => h
  | u :: us, h => by
    have h' : ((wipeE ς us).set u none)[n]? = some (some (.own b es)) := h
    replace h' := get_set h'; rcases h' with ⟨rfl, h'⟩ | ⟨_, h'⟩
    · cases h'
    · exact wipeE_own us h'
section
variable {K : PySem.W.Frag} {F : Fx} {L : Addr} {ς ς' : En} {G G' : Hp} {σ σ' : L2.St} {H H' : Hp} {acc : List D}
/-- the list that a comprehension fills, nobody's yet -/
structure LcI (K : PySem.W.Frag) (F : Fx) (L : Addr) (ς : En) (G : Hp) (σ : L2.St) (H : Hp) (acc : List D) : Prop where
  rel : Rel K F ς G σ H
  h0 : F.H0 L = none
  gn : G L = none
  ns : ∀ (n : Nat) b es, ς[n]? = some (some (.own b es)) → σ[n]? ≠ some (some (.ref L))
  ac : ∃ accV, H L = some (.lst accV) ∧ DpAll K G accV acc
theorem LcI.step (h : LcI K F L ς G σ H acc) (r : Rel K (F.now ς G σ H) ς' G' σ' H') (s : Same G G') : LcI K F L ς' G' σ' H' acc := by
  obtain ⟨accV, e, d⟩ := h.ac
  obtain ⟨k1, k2, k3⟩ := h.rel.keepF r e h.gn h.ns
  exact ⟨h.rel.back r, h.h0, k2, k3, accV, k1, dpa_same s d⟩
theorem LcI.wiped (h : LcI K F L ς G σ H acc) (vs : List Nat) (hf : freeAll ς vs = true) : LcI K F L (wipeE ς vs) G (wipe σ vs) H acc :=
  ⟨h.rel.wiped vs hf, h.h0, h.gn, fun n b es z1 z2 => h.ns n b es (wipeE_own vs z1) (wipe_some z2).1, h.ac⟩
theorem LcI.push (h : LcI K F L ς G σ H acc) {accV : List V} {u : V} {y : D} (e : H L = some (.lst accV)) (d : DpAll K G accV acc) (dp : Dp K G u y) : LcI K F L ς G σ (upd H L (.lst (accV ++ [u]))) (acc ++ [y]) :=
  ⟨h.rel.touch h.gn h.h0 h.ns, h.h0, h.gn, h.ns, _, upd_same, dpa_app d (.cons dp .nil)⟩
theorem lc_in {σ2 : L2.St} {ς2 ς3 ς4 : En} {G3 H3 : Hp} {ds1 accF : List D} {vs1 : List Nat} {fi1 : M (List D)} {t1 : Tg} {ta1 : M Bool} {fe : M R} (h : LcI K F L ς2 G3 σ2 H3 acc) (q1 : fi1 ς2 = some (ds1, ς3)) (hf : freeAll ς3 vs1 = true) (e : lcLoop vs1 t1 ta1 fe ds1 acc (wipeE ς3 vs1) = some (accF, ς4)) (Nx : Hp → Prop) (hN : ∀ G H, Same G3 G → LcI K F L ς4 G (wipe σ2 vs1) H accF → Nx H) :
    ∃ F', tEvI K F' fi1 σ2 H3 fun J1 H4 => ∃ W1 : Nat → Nat → Hp → Prop, (∃ m, W1 0 m H4) ∧ ∀ j k H, W1 j k H →
      (J1.stop j H ∧ Nx H) ∨ (J1.go j H ∧ ∃ Nx1 : Hp → Prop, (∀ H', Nx1 H' → ∃ k', k' < k ∧ W1 (j + 1) k' H') ∧ ∀ x H', J1.yld j H x H' → gEx K vs1 t1 x (wipe σ2 vs1) H' fun σ3 H5 => wipe σ3 vs1 = wipe σ2 vs1 ∧ tEx K ta1 σ3 H5 fun b H6 =>
        if b = true then eEx K (esc fe) σ3 H6 fun y H7 => ∃ acc, H7 L = some (.lst acc) ∧ acc.length < sizeLine ∧ Nx1 (upd H7 L (.lst (acc ++ [y]))) else Nx1 H6) := by
  refine ⟨F.now ς2 G3 σ2 H3, ς2, G3, h.rel.now, ds1, ς3, q1, fun J1 H4 G4 rl4 s4 wk => ?_⟩
  have h4 := (h.step rl4 s4).wiped vs1 hf
  refine ⟨fun j k H' => k = ds1.length - j ∧ j ≤ ds1.length ∧ ∃ ςj Gj acc', LcI K F L ςj Gj (wipe σ2 vs1) H' acc' ∧ Same G4 Gj ∧ lcLoop vs1 t1 ta1 fe (ds1.drop j) acc' ςj = some (accF, ς4), ⟨ds1.length, by simp, Nat.zero_le _, _, G4, acc, h4, Same.refl _, e⟩, ?_⟩
  rintro j k H' ⟨rfl, hj, ςj, Gj, acc', hI, sj, ej⟩
  by_cases hlt : j < ds1.length
  · rw [List.drop_eq_getElem_cons hlt, lcLoop] at ej
    split at ej
    · rename_i ς5 q5
      refine .inr ⟨wk.go j H' hlt (sj.trans hI.rel.sub), fun H6 => ∃ ςj Gj acc', LcI K F L ςj Gj (wipe σ2 vs1) H6 acc' ∧ Same G4 Gj ∧ lcLoop vs1 t1 ta1 fe (ds1.drop (j + 1)) acc' ςj = some (accF, ς4), fun H6 h6 => ⟨ds1.length - (j + 1), by omega, rfl, hlt, h6⟩, fun v H2 y => ?_⟩
      obtain ⟨G2, rl2, s2, dp2⟩ := hI.rel.now.tupled sj wk y (List.getElem?_eq_getElem hlt)
      refine ⟨F.now ςj Gj (wipe σ2 vs1) H', ςj, G2, _, rl2, dp2, ς5, q5, fun σ3 H5 G5 rl3 s3 w3 => ⟨w3.trans (wipe_wipe σ2 vs1), ?_⟩⟩
      have w3' : wipe σ3 vs1 = wipe σ2 vs1 := w3.trans (wipe_wipe σ2 vs1)
      split at ej
      · rename_i ς6 q6
        refine ⟨F.now ςj Gj (wipe σ2 vs1) H', ς5, G5, rl3, true, ς6, q6, fun H6 G6 rl6 s6 => iteT ?_⟩
        split at ej
        · rename_i y7 ς7 q7
          split at ej
          · rename_i hf7
            refine ⟨F.now ςj Gj (wipe σ2 vs1) H', ς6, G6, rl6, y7, ς7, q7, fun u H7 G7 rl7 s7 dp7 => ?_⟩
            have h7 := (hI.step rl7 (s2.trans (s3.trans (s6.trans s7)))).wiped vs1 hf7.1
            obtain ⟨accV, k1, k2⟩ := h7.ac
            rw [w3'] at h7
            exact ⟨accV, k1, by rw [dpa_len k2]; exact hf7.2, wipeE ς7 vs1, G7, acc' ++ [y7], h7.push k1 k2 dp7, sj.trans (s2.trans (s3.trans (s6.trans s7))), ej⟩
          · cases ej
        · cases ej
      · rename_i ς6 q6
        refine ⟨F.now ςj Gj (wipe σ2 vs1) H', ς5, G5, rl3, false, ς6, q6, fun H6 G6 rl6 s6 => iteF ?_⟩
        split at ej
        · rename_i hf7
          have h7 := (hI.step rl6 (s2.trans (s3.trans s6))).wiped vs1 hf7
          rw [w3'] at h7
          exact ⟨wipeE ς6 vs1, G6, acc', h7, sj.trans (s2.trans (s3.trans s6)), ej⟩
        · cases ej
      · cases ej
    · cases ej
  · have ejj : j = ds1.length := by omega
    subst ejj
    rw [List.drop_length, lcLoop] at ej
    cases ej
    exact .inl ⟨wk.stop H' (sj.trans hI.rel.sub), hN Gj H' (s4.trans sj) hI⟩
theorem wipe_sub (σ : L2.St) (vs : List Nat) : ∀ us : List Nat, (∀ u ∈ us, u ∈ vs) → wipe (wipe σ us) vs = wipe σ vs
  | [], _ => rfl
  | u :: us, h => by
    show wipe ((wipe σ us).set u none) vs = wipe σ vs
    rw [wipe_set _ u none vs (h u (by simp)), wipe_sub σ vs us fun w m => h w (by simp [m])]
theorem t_lc2 {fi fi1 : M (List D)} {vs vs1 : List Nat} {t t1 : Tg} {ta ta1 : M Bool} {fe : M R} (hv : ∀ i ∈ vs1, i ∈ vs) (F : Fx) : ∀ σ H Q, tEv K F (lc2E fi vs t ta fi1 vs1 t1 ta1 fe) σ H Q → tLc2 (fun σ H R => ∃ F, tEvI K F fi σ H R) (gEx K vs t) (tEx K ta) (fun σ H R => ∃ F, tEvI K F fi1 σ H R) (gEx K vs1 t1) (tEx K ta1) (eEx K (esc fe)) vs vs1 σ H Q := fun σ H Q hq => by
  obtain ⟨ς, G, rl, r, ς', e, k⟩ := hq
  unfold lc2E at e
  split at e
  · rename_i ds ς1 q1
    split at e
    · rename_i hf
      split at e
      · rename_i accF ς2 q2
        cases e
        refine ⟨F, ς, G, rl, ds, ς1, q1, fun J H1 G1 rl1 s1 wk L hL => ?_⟩
        have hI0 : LcI K F L (wipeE ς1 vs) G1 (wipe σ vs) (upd H1 L (.lst [])) [] := by
          refine ⟨(rl1.wiped vs hf).layF hL, rl1.new hL, rl1.gnone hL, fun n b es z w => ?_, [], upd_same, .nil⟩
          obtain ⟨a, ws, f1, f2, _⟩ := (rl1.wiped vs hf).ow n b es z
          rw [w] at f1; cases f1
          rw [hL] at f2; cases f2
        refine ⟨fun i m H' => m = ds.length - i ∧ i ≤ ds.length ∧ ∃ ςi Gi acc, LcI K F L ςi Gi (wipe σ vs) H' acc ∧ Same G1 Gi ∧ lcLoop2 vs t ta fi1 vs1 t1 ta1 fe (ds.drop i) acc ςi = some (accF, ς'), ⟨ds.length, by simp, Nat.zero_le _, _, G1, [], hI0, Same.refl _, q2⟩, ?_⟩
        rintro i m H' ⟨rfl, hi, ςi, Gi, acc, hI, si, ei⟩
        by_cases hlt : i < ds.length
        · rw [List.drop_eq_getElem_cons hlt, lcLoop2] at ei
          split at ei
          · rename_i ς3 q3
            refine .inr ⟨wk.go i H' hlt (si.trans hI.rel.sub), fun H3 => ∃ ςi Gi acc, LcI K F L ςi Gi (wipe σ vs) H3 acc ∧ Same G1 Gi ∧ lcLoop2 vs t ta fi1 vs1 t1 ta1 fe (ds.drop (i + 1)) acc ςi = some (accF, ς'), fun H3 h3 => ⟨ds.length - (i + 1), by omega, rfl, hlt, h3⟩, fun v H2 y => ?_⟩
            obtain ⟨G2, rl2, s2, dp2⟩ := hI.rel.now.tupled si wk y (List.getElem?_eq_getElem hlt)
            refine ⟨F.now ςi Gi (wipe σ vs) H', ςi, G2, _, rl2, dp2, ς3, q3, fun σ3 H3 G3 rl3 s3 w3 => ⟨w3.trans (wipe_wipe σ vs), ?_⟩⟩
            have w3' : wipe σ3 vs = wipe σ vs := w3.trans (wipe_wipe σ vs)
            split at ei
            · rename_i ς4 q4
              refine ⟨F.now ςi Gi (wipe σ vs) H', ς3, G3, rl3, true, ς4, q4, fun H4 G4 rl4 s4 => iteT ?_⟩
              have h4 := hI.step rl4 (s2.trans (s3.trans s4))
              split at ei
              · rename_i ds1 ς5 q5
                split at ei
                · rename_i hf5
                  split at ei
                  · rename_i acc6 ς6 q6
                    split at ei
                    · rename_i hf6
                      refine lc_in h4 q5 hf5 q6 _ fun G7 H7 s7 h7 => ?_
                      have h8 := h7.wiped vs hf6
                      rw [wipe_sub σ3 vs vs1 hv, w3'] at h8
                      exact ⟨_, G7, acc6, h8, si.trans (s2.trans (s3.trans (s4.trans s7))), ei⟩
                    · cases ei
                  · cases ei
                · cases ei
              · cases ei
            · rename_i ς4 q4
              refine ⟨F.now ςi Gi (wipe σ vs) H', ς3, G3, rl3, false, ς4, q4, fun H5 G5 rl5 s5 => iteF ?_⟩
              split at ei
              · rename_i hf5
                have h5 := (hI.step rl5 (s2.trans (s3.trans s5))).wiped vs hf5
                rw [w3'] at h5
                exact ⟨_, G5, acc, h5, si.trans (s2.trans (s3.trans s5)), ei⟩
              · cases ei
            · cases ei
          · cases ei
        · have eI : i = ds.length := by omega
          subst eI
          rw [List.drop_length, lcLoop2] at ei
          cases ei
          obtain ⟨accV, k1, k2⟩ := hI.ac
          refine .inl ⟨wk.stop H' (si.trans hI.rel.sub), k _ H' Gi hI.rel.unwipe (s1.trans si) ⟨L, accV, rfl, k1, hI.gn, k2, hI.h0, fun n b es z1 z2 => ?_⟩⟩
          obtain ⟨a6, ws6, f1, f2, _⟩ := hI.rel.ow n b es z1
          have := (wipe_some f1).1
          rw [z2] at this; cases this
          exact hI.ns n b es z1 f1
      · cases e
    · cases e
  · cases e
end
section
variable {X : Cx} {fe : M R} {ta ta1 : M Bool} {pos : Pos}
theorem g_wide {tg : Expr} {vs ws : List Nat} {t : Tg} (h : PGd X tg vs t) (hv : ∀ v ∈ vs, v ∈ ws) : PGd X tg ws t := fun F => PG.mono (h F) fun v σ H Q ⟨ς, G, d, rl, hd, ς', e, k⟩ => ⟨ς, G, d, rl, hd, ς', e, fun σ' H' G' r s w => k σ' H' G' r s (by rw [← wipe_sub σ' ws vs hv, w, wipe_sub σ ws vs hv])⟩
theorem d_lc2 {elt tg iter tg1 iter1 : Expr} {ifs ifs1 : List Expr} {scope : Scope} {own : List (Str × Nat)} {vs1 : List Nat} {fi fi1 : M (List D)} {t t1 : Tg} (hc : X.calm = true) (hN : X.N.Nodup) (hi : PId X tg iter fi) (ok : BlkOk X.N X.env.scope scope own) (hv : ∀ i ∈ vs1, i ∈ own.map (·.2))
    (hg : ∀ (s : Shared) (H : Hp) (C : Addr) (cl : List (Str × Addr)) (fp : List Addr), PGd (X.blk s H scope (compEnvC scope cl C X.env) fp) tg (own.map (·.2)) t)
    (ht : ∀ (s : Shared) (H : Hp) (C : Addr) (cl : List (Str × Addr)) (fp : List Addr), PTs (X.blk s H scope (compEnvC scope cl C X.env) fp) ifs (tEx X.K ta))
    (hi1 : ∀ (s : Shared) (H : Hp) (C : Addr) (cl : List (Str × Addr)) (fp : List Addr), PId (X.blk s H scope (compEnvC scope cl C X.env) fp) tg1 iter1 fi1)
    (hg1 : ∀ (s : Shared) (H : Hp) (C : Addr) (cl : List (Str × Addr)) (fp : List Addr), PGd (X.blk s H scope (compEnvC scope cl C X.env) fp) tg1 vs1 t1)
    (ht1 : ∀ (s : Shared) (H : Hp) (C : Addr) (cl : List (Str × Addr)) (fp : List Addr), PTs (X.blk s H scope (compEnvC scope cl C X.env) fp) ifs1 (tEx X.K ta1))
    (he : ∀ (s : Shared) (H : Hp) (C : Addr) (cl : List (Str × Addr)) (fp : List Addr), PEd (X.blk s H scope (compEnvC scope cl C X.env) fp) elt fe) (hs : ∀ x, foldedSetIterable iter X.env x = pure x := by intro _; rfl) (hs1 : ∀ env x, foldedSetIterable iter1 env x = pure x := by intro _ _; rfl) :
    PEd X (.ListComp elt [⟨tg, iter, ifs, 0⟩, ⟨tg1, iter1, ifs1, 0⟩] scope pos) (lc2E fi (own.map (·.2)) t ta fi1 vs1 t1 ta1 fe) := fun F =>
  PE.mono (pe_lc2 hc hN hi.ex ok hv (fun s H C cl fp => (hg s H C cl fp).ex) ht (fun s H C cl fp => (hi1 s H C cl fp).ex) (fun s H C cl fp => (hg1 s H C cl fp).ex) ht1 (fun s H C cl fp => PDd.ex (d_esc (he s H C cl fp))) hs hs1) (t_lc2 hv F)
end
end Lw
namespace Lw
open PySem PySem.Spec PyProof.Rows L2
def g_p_alike : MS :=
  (retS (op2 gEq (callE m_p_table_of (argV (vr 0) (argV (vr 1) argN))) (callE m_p_table_of (argV (vr 0) (argV (vr 2) argN)))))
def m_p_alike : Fsem := runFn g_p_alike 3
def g_p_no_less : MS :=
  (sq (asg (lzE (callE m_p_table_of (argV (vr 0) (argV (vr 1) argN))) (callE m_p_table_of (argV (vr 0) (argV (vr 2) argN)))) (tgN 3))
  (retS (cal1 gAll (lc2E (itS (vr 3)) [4, 5, 6, 7] (tgT 2 (tgsC (tgN 4) (tgsC (tgN 5) tgsN))) (ret true) (itZ2 (vr 4) (vr 5)) [6, 7] (tgT 2 (tgsC (tgN 6) (tgsC (tgN 7) tgsN))) (ret true) (op2 gGe (vr 6) (vr 7))))))
def m_p_no_less : Fsem := runFn g_p_no_less 8
end Lw
namespace Lw
open PySem PySem.Spec PyProof.Rows L2
local macro_rules | `(tactic| walk_at "lw e") => `(tactic| (repeat (first | (with_reducible apply Exists.intro) | ((with_reducible refine And.intro ?_ ?_); · (first | (with_reducible exact pw_7) | (with_reducible exact pw_6) | (with_reducible exact pw_15) | (with_reducible exact pw_18) | (with_reducible exact pw_19) | (with_reducible exact pw_30) | (with_reducible exact pw_40) | (with_reducible exact tix0) | (with_reducible exact tix1) | (with_reducible exact tix2) | ((with_reducible apply mul_r); decide) | ((with_reducible apply mul_l); decide) | ((with_reducible apply div_i); decide) | ((with_reducible apply in_R); decide) | ((fail_if_success (with_reducible apply mul_r)); (fail_if_success (with_reducible apply div_i)); (fail_if_success (with_reducible apply dm_int)); (fail_if_success (with_reducible apply in_R)); rfl) | (exact Nat.le_of_ble_eq_true rfl) | (simp [refsOf]; done) | (exact ⟨rfl, rfl, by decide⟩) | (exact ⟨rfl, rfl, rfl⟩))) | ((with_reducible apply Sm.vrP); (focus rfl)) | ((with_reducible apply Sm.vrO); (focus rfl)) | (with_reducible refine Sm.cn ?_) | (with_reducible refine Sm.op2 ?_) | (with_reducible refine Sm.argV ?_) | (with_reducible refine Sm.callE ?_) | (with_reducible refine Sm.cal1 ?_) | (with_reducible refine Sm.sq ?_) | (with_reducible refine Sm.asgS ?_) | (with_reducible refine Sm.asg ?_) | (with_reducible refine Sm.retS ?_) | (with_reducible refine Sm.ifS ?_) | (with_reducible refine Sm.argN ?_) | (with_reducible refine Sm.tst ?_) | (with_reducible refine Sm.tupE ?_) | (with_reducible refine Sm.lstE ?_) | (with_reducible refine Sm.isE ?_) | (with_reducible refine Sm.argR ?_) | (with_reducible refine Sm.tru ?_) | (with_reducible refine Sm.andT ?_) | (with_reducible refine Sm.orT ?_) | (with_reducible refine Sm.notT ?_) | (with_reducible refine Sm.andV ?_) | (with_reducible refine Sm.orV ?_) | (with_reducible refine Sm.notV ?_) | (with_reducible refine Sm.negV ?_) | (with_reducible refine Sm.ife ?_) | (with_reducible refine Sm.chn ?_) | (with_reducible refine Sm.callF ?_) | (with_reducible refine Sm.slE ?_) | (with_reducible refine Sm.ptN ?_) | (with_reducible refine Sm.ptS ?_) | (with_reducible refine Sm.revE ?_) | (with_reducible refine Sm.mth ?_) | (with_reducible refine Sm.ret ?_) | (with_reducible refine Sm.esc ?_) | (with_reducible refine Sm.itS ?_) | (with_reducible refine Sm.itR1 ?_) | (with_reducible refine Sm.itR2 ?_) | (with_reducible refine Sm.itE ?_) | (with_reducible refine Sm.itZ ?_) | (with_reducible refine Sm.lcE2 ?_) | (with_reducible refine Sm.pvF ?_) | (with_reducible refine Sm.pvT ?_) | (with_reducible refine Sm.asgO ?_) | (with_reducible refine Sm.exS ?_) | (with_reducible refine Sm.skip ?_) | (with_reducible refine Sm.par2 ?_) | (with_reducible refine Sm.par3 ?_) | (with_reducible refine Sm.forS ?_) | (with_reducible refine Sm.at_nx ?_) | (with_reducible refine Sm.at_rt ?_) | (with_reducible refine Sm.oP ?_) | (with_reducible refine Sm.oF ?_) | (with_reducible refine Sm.fP ?_) | (with_reducible refine Sm.fF ?_) | (with_reducible refine iteTT ?_) | (with_reducible refine iteT ?_) | (with_reducible refine iteF ?_) | ((with_reducible refine iteB1 ?_ ?_); (focus rfl)) | ((with_reducible refine iteB0 ?_ ?_); (focus rfl)))))
local macro_rules | `(tactic| walk_at "lw n") => `(tactic| (try dsimp only [ent, List.map, Nat.reduceAdd, Nat.reduceSub, List.length_cons, List.length_nil, List.replicate_succ, List.replicate_zero, List.cons_append, List.nil_append, putBack, setOwn, List.getElem?_cons_zero, List.getElem?_cons_succ, List.set_cons_zero, List.set_cons_succ, Sm.nf]))
local macro_rules | `(tactic| walk_at "lw v") => `(tactic| (try simp only [pb1, pb2, pb3, pb4]))
theorem pw_6 : gPowA (.int 10) (.int 6) = some (.pure (.int 1000000)) := rfl
theorem pw_7 : gPowA (.int 10) (.int 7) = some (.pure (.int 10000000)) := rfl
theorem pw_15 : gPowA (.int 10) (.int 15) = some (.pure (.int 1000000000000000)) := rfl
theorem pw_18 : gPowA (.int 10) (.int 18) = some (.pure (.int 1000000000000000000)) := rfl
theorem pw_19 : gPowA (.int 10) (.int 19) = some (.pure (.int 10000000000000000000)) := rfl
theorem pw_30 : gPowA (.int 10) (.int 30) = some (.pure (.int 1000000000000000000000000000000)) := rfl
theorem pw_40 : gPowA (.int 10) (.int 40) = some (.pure (.int 10000000000000000000000000000000000000000)) := rfl
theorem iteDT {p A B : Prop} [Decidable p] (hp : p) (h : A) : if decide p = true then A else B := by rw [if_pos (decide_eq_true hp)]; exact h
theorem iteDF {p A B : Prop} [Decidable p] (hp : ¬ p) (h : B) : if decide p = true then A else B := by rw [if_neg (by rw [decide_eq_false hp]; decide)]; exact h
theorem dm_int {i j : Int} (h : 0 < j ∧ j < 2 ^ 200) : gDm (.int i) (.int j) = some (.pure (.tuple [.int (i / j), .int (i % j)])) := if_pos h
theorem mul_i {i j : Int} (h : cMul i j = true) : gMulA (.int i) (.int j) = some (.pure (.int (i * j))) := by
  unfold gMulA orG gI; simp only [h, if_true]
theorem cMul_r {i j : Int} (h : -18446744073709551616 < j ∧ j < 18446744073709551616) : cMul i j = true := by
  unfold cMul
  rw [Bool.or_eq_true]
  exact .inr (by rw [Bool.and_eq_true]; exact ⟨decide_eq_true h.1, decide_eq_true h.2⟩)
theorem cMul_l {i j : Int} (h : -18446744073709551616 < i ∧ i < 18446744073709551616) : cMul i j = true := by
  unfold cMul
  rw [Bool.or_eq_true]
  exact .inl (by rw [Bool.and_eq_true]; exact ⟨decide_eq_true h.1, decide_eq_true h.2⟩)
theorem mul_r {i j : Int} (h : -18446744073709551616 < j ∧ j < 18446744073709551616) : gMulA (.int i) (.int j) = some (.pure (.int (i * j))) := mul_i (cMul_r h)
theorem mul_l {i j : Int} (h : -18446744073709551616 < i ∧ i < 18446744073709551616) : gMulA (.int i) (.int j) = some (.pure (.int (i * j))) := mul_i (cMul_l h)
theorem mod_i {i j : Int} (h : 0 < j) : gModA (.int i) (.int j) = some (.pure (.int (i % j))) := if_pos (decide_eq_true h)
theorem div_i {i j : Int} (h : 0 < j ∧ j < 2 ^ 200) : gDivA (.int i) (.int j) = some (.pure (.int (i / j))) := if_pos (by unfold cDiv; rw [Bool.and_eq_true]; exact ⟨decide_eq_true h.1, decide_eq_true h.2⟩)
local macro_rules | `(tactic| walk_at "lw e") => `(tactic| (repeat (first | (with_reducible apply Exists.intro) | ((with_reducible refine And.intro ?_ ?_); · (first | (with_reducible exact pw_7) | (with_reducible exact pw_6) | (with_reducible exact pw_15) | (with_reducible exact pw_18) | (with_reducible exact pw_19) | (with_reducible exact pw_30) | (with_reducible exact pw_40) | (with_reducible exact tix0) | (with_reducible exact tix1) | (with_reducible exact tix2) | ((with_reducible apply mul_r); decide) | ((with_reducible apply mul_l); decide) | ((with_reducible apply div_i); decide) | ((with_reducible apply in_R); decide) | ((fail_if_success (with_reducible apply mul_r)); (fail_if_success (with_reducible apply div_i)); (fail_if_success (with_reducible apply dm_int)); (fail_if_success (with_reducible apply in_R)); rfl) | (exact Nat.le_of_ble_eq_true rfl) | (simp [refsOf]; done) | (exact ⟨rfl, rfl, by decide⟩) | (exact ⟨rfl, rfl, rfl⟩))) | ((with_reducible apply Sm.vrP); (focus rfl)) | ((with_reducible apply Sm.vrO); (focus rfl)) | (with_reducible refine Sm.cn ?_) | (with_reducible refine Sm.op2 ?_) | (with_reducible refine Sm.argV ?_) | (with_reducible refine Sm.callE ?_) | (with_reducible refine Sm.cal1 ?_) | (with_reducible refine Sm.sq ?_) | (with_reducible refine Sm.asgS ?_) | (with_reducible refine Sm.asg ?_) | (with_reducible refine Sm.retS ?_) | (with_reducible refine Sm.ifS ?_) | (with_reducible refine Sm.argN ?_) | (with_reducible refine Sm.tst ?_) | (with_reducible refine Sm.tupE ?_) | (with_reducible refine Sm.lstE ?_) | (with_reducible refine Sm.isE ?_) | (with_reducible refine Sm.argR ?_) | (with_reducible refine Sm.tru ?_) | (with_reducible refine Sm.andT ?_) | (with_reducible refine Sm.orT ?_) | (with_reducible refine Sm.notT ?_) | (with_reducible refine Sm.andV ?_) | (with_reducible refine Sm.orV ?_) | (with_reducible refine Sm.notV ?_) | (with_reducible refine Sm.negV ?_) | (with_reducible refine Sm.ife ?_) | (with_reducible refine Sm.chn ?_) | (with_reducible refine Sm.callF ?_) | (with_reducible refine Sm.slE ?_) | (with_reducible refine Sm.ptN ?_) | (with_reducible refine Sm.ptS ?_) | (with_reducible refine Sm.revE ?_) | (with_reducible refine Sm.mth ?_) | (with_reducible refine Sm.ret ?_) | (with_reducible refine Sm.esc ?_) | (with_reducible refine Sm.itS ?_) | (with_reducible refine Sm.itR1 ?_) | (with_reducible refine Sm.itR2 ?_) | (with_reducible refine Sm.itE ?_) | (with_reducible refine Sm.itZ ?_) | (with_reducible refine Sm.lcE2 ?_) | (with_reducible refine Sm.pvF ?_) | (with_reducible refine Sm.pvT ?_) | (with_reducible refine Sm.asgO ?_) | (with_reducible refine Sm.exS ?_) | (with_reducible refine Sm.skip ?_) | (with_reducible refine Sm.par2 ?_) | (with_reducible refine Sm.par3 ?_) | (with_reducible refine Sm.forS ?_) | (with_reducible refine Sm.at_nx ?_) | (with_reducible refine Sm.at_rt ?_) | (with_reducible refine Sm.oP ?_) | (with_reducible refine Sm.oF ?_) | (with_reducible refine Sm.fP ?_) | (with_reducible refine Sm.fF ?_) | (with_reducible refine iteTT ?_) | (with_reducible refine iteT ?_) | (with_reducible refine iteF ?_) | ((with_reducible refine iteB1 ?_ ?_); (focus rfl)) | ((with_reducible refine iteB0 ?_ ?_); (focus rfl)))))
local macro_rules | `(tactic| walk_at "lw n") => `(tactic| (try dsimp only [ent, List.map, Nat.reduceAdd, Nat.reduceSub, List.length_cons, List.length_nil, List.replicate_succ, List.replicate_zero, List.cons_append, List.nil_append, putBack, setOwn, List.getElem?_cons_zero, List.getElem?_cons_succ, List.set_cons_zero, List.set_cons_succ, Sm.nf]))
local macro_rules | `(tactic| walk_at "lw v") => `(tactic| (try simp only [pb1, pb2, pb3, pb4]))
/-- what is drawn from -/
def Box (c : Nat) (ds : List D) : Prop := ∃ x y z : Int, ds = [.int x, .int y, .int z] ∧ 0 ≤ x ∧ 0 ≤ y ∧ y < 2147483647 ∧ 0 ≤ z ∧ z + c ≤ 1000000
theorem Box.less {c c' : Nat} {ds : List D} (h : Box c ds) (k : c' ≤ c) : Box c' ds := by
  obtain ⟨x, y, z, e, h1, h2, h3, h4, h5⟩ := h
  exact ⟨x, y, z, e, h1, h2, h3, h4, by omega⟩
def TakeQ (c : Nat) (k : Int) (r : R) (outs : List S) : Prop := ∃ v ds', r = .pure (.int v) ∧ 0 ≤ v ∧ v < k ∧ Box c ds' ∧ outs = [.own true ds', .pure (.int k)]
theorem take_one {c : Nat} {ds : List D} {k : Int} (hb : Box (c + 1) ds) (h1 : 1 ≤ k) (h2 : k ≤ 10000000) (ms : Fsem) : wpf (runFn (g_l_take ms) 6) [.own true ds, .pure (.int k)] (TakeQ c k) := by
  obtain ⟨x, y, z, rfl, hx, hy, hy2, hz, hz2⟩ := hb
  refine Sm.run ?_
  unfold g_l_take
  walk_at "lw e"
  by_cases hx0 : 0 < x
  · refine iteDT hx0 ?_
    walk_at "lw e"
    refine ⟨dm_int ⟨by omega, by omega⟩, ?_⟩
    walk_at "lw e"
    refine ⟨x % k, [.int (x / k), .int y, .int z], rfl, Int.emod_nonneg _ (by omega), Int.emod_lt_of_pos _ (by omega), ⟨_, _, _, rfl, Int.ediv_nonneg hx (by omega), hy, hy2, hz, by omega⟩, rfl⟩
  · refine iteDF hx0 ?_
    walk_at "lw e"
    refine iteDF (by omega) ?_
    walk_at "lw e"
    have hz1 : (z + 1) * (z + 1) ≤ 1000001 * 1000001 := Int.mul_le_mul (by omega) (by omega) (by omega) (by omega)
    have hz0 : 0 ≤ (z + 1) * (z + 1) := Int.mul_nonneg (by omega) (by omega)
    refine ⟨mul_r (j := z + 1) ⟨by omega, by omega⟩, ?_⟩
    walk_at "lw e"
    refine ⟨mul_l (i := y + 39373 * (z + 1)) ⟨by omega, by omega⟩, ?_⟩
    walk_at "lw e"
    refine ⟨mul_l ⟨by omega, by omega⟩, ?_⟩
    walk_at "lw e"
    refine ⟨mul_l ⟨by omega, by omega⟩, ?_⟩
    walk_at "lw e"
    refine ⟨mod_i (by omega), ?_⟩
    walk_at "lw e"
    refine ⟨_, [.int x, .int y, .int (z + 1)], rfl, Int.emod_nonneg _ (by omega), Int.emod_lt_of_pos _ (by omega), ⟨_, _, _, rfl, hx, hy, hy2, by omega, by omega⟩, rfl⟩
theorem nref {d : D} : ∀ i, R.pure d ≠ .ref i := fun i z => by cases z
theorem nfr {ds : List D} : ∀ i, R.fresh ds ≠ .ref i := fun i z => by cases z
theorem pow7_pos (n : Nat) : (1 : Int) ≤ 10000000 ^ n := by
  induction n with
  | zero => decide
  | succ n ih => rw [Int.pow_succ]; omega
theorem take_ok (n : Nat) : ∀ (c : Nat) (ds : List D) (k : Int), Box (c + 2 ^ (n + 1)) ds → 1 ≤ k → k ≤ 10000000 ^ (n + 1) → k < 1000000000000000000000000000000 → wpf (m_l_take (n + 1)) [.own true ds, .pure (.int k)] (TakeQ c k) := by
  induction n with
  | zero =>
    intro c ds k hb h1 h2 _
    exact take_one (hb.less (by omega)) h1 (by omega) _
  | succ n ih =>
    intro c ds k hb h1 h2 h3
    by_cases hk : k ≤ 10000000
    · exact take_one (hb.less (by have : 0 < 2 ^ (n + 1 + 1) := Nat.two_pow_pos _; omega)) h1 hk _
    · obtain ⟨x, y, z, rfl, hx, hy, hy2, hz, hz2⟩ := hb
      have hq : 0 < (2 : Nat) ^ n := Nat.two_pow_pos n
      have hp : (2 : Nat) ^ (n + 1 + 1) = 2 ^ (n + 1) + 2 ^ (n + 1) := by rw [Nat.pow_succ]; omega
      have hk2 : (k - 1) / 10000000 + 1 ≤ 10000000 ^ (n + 1) := by
        have e : (10000000 : Int) ^ (n + 1 + 1) = 10000000 ^ (n + 1) * 10000000 := Int.pow_succ _ _
        rw [e] at h2
        omega
      have h7 : (10000000 : Int) ≤ 10000000 ^ (n + 1) := by
        have e : (10000000 : Int) ^ (n + 1) = 10000000 ^ n * 10000000 := Int.pow_succ _ _
        have : (1 : Int) ≤ 10000000 ^ n := pow7_pos n
        omega
      show wpf (runFn (g_l_take (m_l_take (n + 1))) 6) _ _
      refine Sm.run ?_
      unfold g_l_take
      walk_at "lw e"
      by_cases hx0 : 0 < x
      · refine iteDT hx0 ?_
        walk_at "lw e"
        refine ⟨dm_int ⟨by omega, by omega⟩, ?_⟩
        walk_at "lw e"
        exact ⟨x % k, [.int (x / k), .int y, .int z], rfl, Int.emod_nonneg _ (by omega), Int.emod_lt_of_pos _ (by omega), ⟨_, _, _, rfl, Int.ediv_nonneg hx (by omega), hy, hy2, hz, by omega⟩, rfl⟩
      · refine iteDF hx0 ?_
        walk_at "lw e"
        refine iteDT (by omega) ?_
        walk_at "lw e"
        refine Sm.fmono (ih (c + 2 ^ (n + 1)) _ 10000000 ⟨x, y, z, rfl, hx, hy, hy2, hz, by omega⟩ (by decide) h7 (by decide)) fun r o h => ?_
        obtain ⟨v1, ds1, rfl, a1, a2, hb1, rfl⟩ := h
        refine ⟨nref, ?_⟩
        walk_at "lw e"
        refine Sm.fmono (ih c _ ((k - 1) / 10000000 + 1) hb1 (by omega) hk2 (by omega)) fun r o h => ?_
        obtain ⟨v2, ds2, rfl, b1, b2, hb2, rfl⟩ := h
        refine ⟨nref, ?_⟩
        walk_at "lw e"
        refine ⟨mod_i (by omega), ?_⟩
        walk_at "lw e"
        exact ⟨_, ds2, rfl, Int.emod_nonneg _ (by omega), Int.emod_lt_of_pos _ (by omega), hb2, rfl⟩
theorem take4 {c : Nat} {ds : List D} {k : Int} (hb : Box (c + 16) ds) (h1 : 1 ≤ k) (h2 : k ≤ 10000000000000000000000000000) : wpf (m_l_take 4) [.own true ds, .pure (.int k)] (TakeQ c k) := take_ok 3 c ds k hb h1 h2 (by omega)
end Lw
namespace Lw
open PySem PySem.Spec PyProof.Rows L2
local macro_rules | `(tactic| walk_at "lw e") => `(tactic| (repeat (first | (with_reducible apply Exists.intro) | ((with_reducible refine And.intro ?_ ?_); · (first | (with_reducible exact pw_7) | (with_reducible exact pw_6) | (with_reducible exact pw_15) | (with_reducible exact pw_18) | (with_reducible exact pw_19) | (with_reducible exact pw_30) | (with_reducible exact pw_40) | (with_reducible exact tix0) | (with_reducible exact tix1) | (with_reducible exact tix2) | ((with_reducible apply mul_r); decide) | ((with_reducible apply mul_l); decide) | ((with_reducible apply div_i); decide) | ((with_reducible apply in_R); decide) | ((fail_if_success (with_reducible apply mul_r)); (fail_if_success (with_reducible apply div_i)); (fail_if_success (with_reducible apply dm_int)); (fail_if_success (with_reducible apply in_R)); rfl) | (exact Nat.le_of_ble_eq_true rfl) | (simp [refsOf]; done) | (exact ⟨rfl, rfl, by decide⟩) | (exact ⟨rfl, rfl, rfl⟩))) | ((with_reducible apply Sm.vrP); (focus rfl)) | ((with_reducible apply Sm.vrO); (focus rfl)) | (with_reducible refine Sm.cn ?_) | (with_reducible refine Sm.op2 ?_) | (with_reducible refine Sm.argV ?_) | (with_reducible refine Sm.callE ?_) | (with_reducible refine Sm.cal1 ?_) | (with_reducible refine Sm.sq ?_) | (with_reducible refine Sm.asgS ?_) | (with_reducible refine Sm.asg ?_) | (with_reducible refine Sm.retS ?_) | (with_reducible refine Sm.ifS ?_) | (with_reducible refine Sm.argN ?_) | (with_reducible refine Sm.tst ?_) | (with_reducible refine Sm.tupE ?_) | (with_reducible refine Sm.lstE ?_) | (with_reducible refine Sm.isE ?_) | (with_reducible refine Sm.argR ?_) | (with_reducible refine Sm.tru ?_) | (with_reducible refine Sm.andT ?_) | (with_reducible refine Sm.orT ?_) | (with_reducible refine Sm.notT ?_) | (with_reducible refine Sm.andV ?_) | (with_reducible refine Sm.orV ?_) | (with_reducible refine Sm.notV ?_) | (with_reducible refine Sm.negV ?_) | (with_reducible refine Sm.ife ?_) | (with_reducible refine Sm.chn ?_) | (with_reducible refine Sm.callF ?_) | (with_reducible refine Sm.slE ?_) | (with_reducible refine Sm.ptN ?_) | (with_reducible refine Sm.ptS ?_) | (with_reducible refine Sm.revE ?_) | (with_reducible refine Sm.mth ?_) | (with_reducible refine Sm.ret ?_) | (with_reducible refine Sm.esc ?_) | (with_reducible refine Sm.itS ?_) | (with_reducible refine Sm.itR1 ?_) | (with_reducible refine Sm.itR2 ?_) | (with_reducible refine Sm.itE ?_) | (with_reducible refine Sm.itZ ?_) | (with_reducible refine Sm.lcE2 ?_) | (with_reducible refine Sm.pvF ?_) | (with_reducible refine Sm.pvT ?_) | (with_reducible refine Sm.asgO ?_) | (with_reducible refine Sm.exS ?_) | (with_reducible refine Sm.skip ?_) | (with_reducible refine Sm.par2 ?_) | (with_reducible refine Sm.par3 ?_) | (with_reducible refine Sm.forS ?_) | (with_reducible refine Sm.at_nx ?_) | (with_reducible refine Sm.at_rt ?_) | (with_reducible refine Sm.oP ?_) | (with_reducible refine Sm.oF ?_) | (with_reducible refine Sm.fP ?_) | (with_reducible refine Sm.fF ?_) | (with_reducible refine iteTT ?_) | (with_reducible refine iteT ?_) | (with_reducible refine iteF ?_) | ((with_reducible refine iteB1 ?_ ?_); (focus rfl)) | ((with_reducible refine iteB0 ?_ ?_); (focus rfl)))))
local macro_rules | `(tactic| walk_at "lw n") => `(tactic| (try dsimp only [ent, List.map, Nat.reduceAdd, Nat.reduceSub, List.length_cons, List.length_nil, List.replicate_succ, List.replicate_zero, List.cons_append, List.nil_append, putBack, setOwn, List.getElem?_cons_zero, List.getElem?_cons_succ, List.set_cons_zero, List.set_cons_succ, Sm.nf]))
local macro_rules | `(tactic| walk_at "lw v") => `(tactic| (try simp only [pb1, pb2, pb3, pb4]))
abbrev ilist (ns : List Int) : D := .list (ns.map PyData.int)
def cutI (ns : List Int) (lo hi : Option Int) : List Int := (ns.drop (HT.sIx ns.length 0 lo)).take (HT.sIx ns.length ns.length hi - HT.sIx ns.length 0 lo)
theorem cutD_ints (ns : List Int) (lo hi : Option Int) : cutD (ns.map PyData.int) lo hi = (cutI ns lo hi).map PyData.int := by
  unfold cutD cutI
  rw [List.length_map, List.map_take, List.map_drop]
theorem atI_ints {ns : List Int} {i : Int} (h0 : 0 ≤ i) (h1 : i < ns.length) : gIx (ilist ns) (.int i) = some (.pure (.int (ns.getD i.toNat 0))) := by
  have hl : i.toNat < ns.length := by omega
  have : atI (ns.map PyData.int) i = some (.int (ns.getD i.toNat 0)) := by
    unfold atI ixN
    rw [List.length_map]
    simp only [h0, if_true]
    rw [if_pos (by omega)]
    simp [hl]
  show (atI (ns.map PyData.int) i).map R.pure = _
  rw [this]; rfl
def BoxQ (r : R) (_ : List S) : Prop := ∃ ds, r = .fresh ds ∧ Box 1000000 ds
def IntQ (ς0 : En) (r : R) (ς1 : En) : Prop := ∃ i : Int, r = .pure (.int i) ∧ ς1 = ς0
def IntsQ (n : Nat) (r : R) (_ : List S) : Prop := ∃ cs : List Int, r = .fresh (cs.map PyData.int) ∧ cs.length ≤ n
theorem box_ok {ns : List Int} {k : Nat} (hk : k ≤ 100) : wpf m_l_box [.pure (ilist ns), .pure (.int k)] BoxQ := by
  refine Sm.run ?_
  unfold g_l_box
  refine Sm.sq (Sm.asg (Sm.mono (Q := IntQ (ent 3 [.pure (ilist ns), .pure (.int k)])) ?_ ?_))
  · walk_at "lw e"
    rw [List.length_map]
    by_cases h : (k : Int) < ns.length
    · refine iteDT h ?_
      walk_at "lw e"
      exact ⟨atI_ints (by omega) h, _, rfl, rfl⟩
    · refine iteDF h ?_
      walk_at "lw e"
      exact ⟨_, rfl, rfl⟩
  · rintro r ς1 ⟨cell, rfl, rfl⟩
    walk_at "lw e"
    refine ⟨mul_r (by split <;> omega), ?_⟩
    walk_at "lw e"
    refine ⟨_, rfl, _, _, _, rfl, ?_, Int.emod_nonneg _ (by decide), Int.emod_lt_of_pos _ (by decide), by decide, by decide⟩
    have h1 : 0 ≤ (if cell < 0 then -cell else cell) := by split <;> omega
    exact Int.mul_nonneg h1 (by split <;> omega)
theorem enum_ints {ns : List Int} : ∀ {i j : Nat} {d : D}, (enumD i (ns.map PyData.int))[j]? = some d → ∃ n, ns[j]? = some n ∧ d = .tuple [.int ((i + j : Nat) : Int), .int n] := by
  intro i j d h
  rw [enumD_get, List.getElem?_map] at h
  cases q : ns[j]? with
  | none => rw [q] at h; cases h
  | some n => rw [q] at h; cases h; exact ⟨n, rfl, rfl⟩
theorem set_ints (ns : List Int) (i : Nat) (n : Int) : (ns.map PyData.int).set i (.int n) = (ns.set i n).map PyData.int := by rw [List.map_set]
/-- a slot that may be written -/
def Fr : Option S → Prop
  | some (.own true _) => False
  | _ => True
theorem tgN_o {i : Nat} {x : D} {ς : En} {o : Option S} (h : ς[i]? = some o) (f : Fr o) : tgN i x ς = some (ς.set i (some (.pure x))) := by
  unfold tgN free
  rw [h]
  rcases o with _ | _ | ⟨_ | _, _⟩
  · rfl
  · rfl
  · rfl
  · exact f.elim
theorem tgsC_o {i : Nat} {x : D} {xs : List D} {u : Tgs} {ς : En} {o : Option S} (h : ς[i]? = some o) (f : Fr o) : tgsC (tgN i) u (x :: xs) ς = u xs (ς.set i (some (.pure x))) := by
  unfold tgsC
  simp only [tgN_o h f]
theorem tgT2_o {i j : Nat} {x y : D} {ς : En} {a b : Option S} (h1 : ς[i]? = some a) (f1 : Fr a) (h2 : (ς.set i (some (.pure x)))[j]? = some b) (f2 : Fr b) : tgT 2 (tgsC (tgN i) (tgsC (tgN j) tgsN)) (.tuple [x, y]) ς = some ((ς.set i (some (.pure x))).set j (some (.pure y))) := by
  show tgsC (tgN i) (tgsC (tgN j) tgsN) [x, y] ς = _
  rw [tgsC_o h1 f1, tgsC_o h2 f2]
  rfl
theorem tgT3_o {i j k : Nat} {x y z : D} {ς : En} {a b c : Option S} (h1 : ς[i]? = some a) (f1 : Fr a) (h2 : (ς.set i (some (.pure x)))[j]? = some b) (f2 : Fr b) (h3 : ((ς.set i (some (.pure x))).set j (some (.pure y)))[k]? = some c) (f3 : Fr c) : tgT 3 (tgsC (tgN i) (tgsC (tgN j) (tgsC (tgN k) tgsN))) (.tuple [x, y, z]) ς = some (((ς.set i (some (.pure x))).set j (some (.pure y))).set k (some (.pure z))) := by
  show tgsC (tgN i) (tgsC (tgN j) (tgsC (tgN k) tgsN)) [x, y, z] ς = _
  rw [tgsC_o h1 f1, tgsC_o h2 f2, tgsC_o h3 f3]
  rfl
theorem Sm.asgS {ς : En} {Q : Out → Prop} {f fo fi : M R} (h : wp f ς fun r ς1 => ∃ d ς2, toD r ς1 = some (d, ς2) ∧ wp fo ς2 fun r ς3 => ∃ i, r = .ref i ∧ wp fi ς3 fun r2 ς4 => ∃ j n b ds, rdD r2 ς4 = some (.int j) ∧ ς4[i]? = some (some (.own b ds)) ∧ ixN ds.length j = some n ∧ Q (.nx (ς4.set i (some (.own b (ds.set n d)))))) : wps (Lw.asg f (tgS fo fi)) ς Q := by
  refine Sm.asg (Sm.mono h fun r ς1 h => ?_)
  obtain ⟨d, ς2, e, r2, ς3, e2, i, rfl, r3, ς4, e3, j, n, b, ds, e4, e5, e6, q⟩ := h
  refine ⟨d, ς2, _, e, ?_, q⟩
  have hp : Lw.ptS fi ς3 = some (some j, ς4) := by
    obtain ⟨a, ς', ee, qq⟩ : wp (Lw.ptS fi) ς3 (fun a ς' => a = some j ∧ ς' = ς4) := Sm.ptS ⟨r3, ς4, e3, j, e4, rfl, rfl⟩
    obtain ⟨rfl, rfl⟩ := qq
    exact ee
  unfold tgS
  rw [e2]
  simp only [hp, e5, e6]
theorem ix_in {n : Nat} {i : Int} (h0 : 0 ≤ i) (h1 : i < n) : ixN n i = some i.toNat := by
  unfold ixN
  rw [if_pos h0, if_pos (by omega)]
local macro_rules | `(tactic| walk_at "lw e") => `(tactic| (repeat (first | (with_reducible apply Exists.intro) | ((with_reducible refine And.intro ?_ ?_); · (first | (with_reducible exact pw_7) | (with_reducible exact pw_6) | (with_reducible exact pw_15) | (with_reducible exact pw_18) | (with_reducible exact pw_19) | (with_reducible exact pw_30) | (with_reducible exact pw_40) | (with_reducible exact tix0) | (with_reducible exact tix1) | (with_reducible exact tix2) | ((with_reducible apply mul_r); decide) | ((with_reducible apply mul_l); decide) | ((with_reducible apply div_i); decide) | ((with_reducible apply in_R); decide) | ((fail_if_success (with_reducible apply mul_r)); (fail_if_success (with_reducible apply div_i)); (fail_if_success (with_reducible apply dm_int)); (fail_if_success (with_reducible apply in_R)); rfl) | (exact Nat.le_of_ble_eq_true rfl) | (simp [refsOf]; done) | (exact ⟨rfl, rfl, by decide⟩) | (exact ⟨rfl, rfl, rfl⟩))) | ((with_reducible apply Sm.vrP); (focus rfl)) | ((with_reducible apply Sm.vrO); (focus rfl)) | (with_reducible refine Sm.cn ?_) | (with_reducible refine Sm.op2 ?_) | (with_reducible refine Sm.argV ?_) | (with_reducible refine Sm.callE ?_) | (with_reducible refine Sm.cal1 ?_) | (with_reducible refine Sm.sq ?_) | (with_reducible refine Sm.asgS ?_) | (with_reducible refine Sm.asg ?_) | (with_reducible refine Sm.retS ?_) | (with_reducible refine Sm.ifS ?_) | (with_reducible refine Sm.argN ?_) | (with_reducible refine Sm.tst ?_) | (with_reducible refine Sm.tupE ?_) | (with_reducible refine Sm.lstE ?_) | (with_reducible refine Sm.isE ?_) | (with_reducible refine Sm.argR ?_) | (with_reducible refine Sm.tru ?_) | (with_reducible refine Sm.andT ?_) | (with_reducible refine Sm.orT ?_) | (with_reducible refine Sm.notT ?_) | (with_reducible refine Sm.andV ?_) | (with_reducible refine Sm.orV ?_) | (with_reducible refine Sm.notV ?_) | (with_reducible refine Sm.negV ?_) | (with_reducible refine Sm.ife ?_) | (with_reducible refine Sm.chn ?_) | (with_reducible refine Sm.callF ?_) | (with_reducible refine Sm.slE ?_) | (with_reducible refine Sm.ptN ?_) | (with_reducible refine Sm.ptS ?_) | (with_reducible refine Sm.revE ?_) | (with_reducible refine Sm.mth ?_) | (with_reducible refine Sm.ret ?_) | (with_reducible refine Sm.esc ?_) | (with_reducible refine Sm.itS ?_) | (with_reducible refine Sm.itR1 ?_) | (with_reducible refine Sm.itR2 ?_) | (with_reducible refine Sm.itE ?_) | (with_reducible refine Sm.itZ ?_) | (with_reducible refine Sm.lcE2 ?_) | (with_reducible refine Sm.pvF ?_) | (with_reducible refine Sm.pvT ?_) | (with_reducible refine Sm.asgO ?_) | (with_reducible refine Sm.exS ?_) | (with_reducible refine Sm.skip ?_) | (with_reducible refine Sm.par2 ?_) | (with_reducible refine Sm.par3 ?_) | (with_reducible refine Sm.forS ?_) | (with_reducible refine Sm.at_nx ?_) | (with_reducible refine Sm.at_rt ?_) | (with_reducible refine Sm.oP ?_) | (with_reducible refine Sm.oF ?_) | (with_reducible refine Sm.fP ?_) | (with_reducible refine Sm.fF ?_) | (with_reducible refine iteTT ?_) | (with_reducible refine iteT ?_) | (with_reducible refine iteF ?_) | ((with_reducible refine iteB1 ?_ ?_); (focus rfl)) | ((with_reducible refine iteB0 ?_ ?_); (focus rfl)))))
local macro_rules | `(tactic| walk_at "lw n") => `(tactic| (try dsimp only [ent, List.map, Nat.reduceAdd, Nat.reduceSub, List.length_cons, List.length_nil, List.replicate_succ, List.replicate_zero, List.cons_append, List.nil_append, putBack, setOwn, List.getElem?_cons_zero, List.getElem?_cons_succ, List.set_cons_zero, List.set_cons_succ, Sm.nf]))
local macro_rules | `(tactic| walk_at "lw v") => `(tactic| (try simp only [pb1, pb2, pb3, pb4]))
theorem cut_lt {ns : List Int} {s : Nat} (h : 0 < (cutI ns (some (s : Int)) (some 63)).length) (hl : ns.length ≤ 63) : (cutI ns none (some (s : Int))).length = s := by
  unfold cutI at h ⊢
  simp only [List.length_take, List.length_drop] at h ⊢
  have e : ∀ d, HT.sIx ns.length d (some (s : Int)) = min s ns.length := by
    intro d
    unfold HT.sIx
    simp only
    split <;> omega
  rw [e] at h ⊢
  have e0 : HT.sIx ns.length 0 none = 0 := rfl
  rw [e0] at *
  omega
theorem folded_ok {ns : List Int} {s : Nat} (hl : ns.length ≤ 63) (h1 : 1 ≤ s) (h2 : s ≤ 60) : wpf m_l_folded [.pure (ilist ns), .pure (.int s)] (IntsQ s) := by
  refine Sm.run ?_
  unfold g_l_folded
  walk_at "lw e"
  rw [cutD_ints, cutD_ints]
  refine Sm.loopInv (fun _ ς => ∃ cs : List Int, ∃ a b, ς = [some (.pure (ilist ns)), some (.pure (.int s)), some (.own false (cs.map PyData.int)), a, b] ∧ cs.length = (cutI ns none (some (s : Int))).length ∧ Fr a ∧ Fr b) ⟨_, _, _, rfl, rfl, trivial, trivial⟩ ?_ ?_
  · rintro i d ς hd ⟨cs, a, b, rfl, hc, fa, fb⟩
    obtain ⟨n, hn, rfl⟩ := enum_ints hd
    refine ⟨_, tgT2_o rfl fa rfl fb, ?_⟩
    have hi : i < (cutI ns (some (s : Int)) (some 63)).length := by
      obtain ⟨h, -⟩ := List.getElem?_eq_some_iff.1 hn
      exact h
    have hlt : 0 < (cutI ns (some (s : Int)) (some 63)).length := by omega
    have hi63 : i < 63 := by
      unfold cutI at hi
      rw [List.length_take, List.length_drop] at hi
      omega
    have hcs : cs.length = s := hc.trans (cut_lt hlt hl)
    have hm : ((0 + i : Nat) : Int) % (s : Int) < s := Int.emod_lt_of_pos _ (by omega)
    have hm0 : 0 ≤ ((0 + i : Nat) : Int) % (s : Int) := Int.emod_nonneg _ (by omega)
    walk_at "lw e"
    refine ⟨mod_i (by omega), ?_⟩
    walk_at "lw e"
    refine ⟨atI_ints hm0 (by omega), ?_⟩
    walk_at "lw e"
    refine ⟨mul_r (by omega), ?_⟩
    walk_at "lw e"
    refine ⟨mod_i (by omega), ?_⟩
    walk_at "lw e"
    refine ⟨ix_in hm0 (by rw [List.length_map]; omega), ?_⟩
    dsimp only
    rw [set_ints]
    exact ⟨_, _, _, rfl, by rw [List.length_set]; exact hc, trivial, trivial⟩
  · rintro ς ⟨cs, a, b, rfl, hc, fa, fb⟩
    walk_at "lw e"
    refine Sm.oM rfl (Sm.fF ⟨cs, rfl, ?_⟩)
    rw [hc]
    unfold cutI
    rw [List.length_take, HT.sIx_nat]
    omega
end Lw
namespace Lw
open PySem PySem.Spec PyProof.Rows L2
local macro_rules | `(tactic| walk_at "lw e") => `(tactic| (repeat (first | (with_reducible apply Exists.intro) | ((with_reducible refine And.intro ?_ ?_); · (first | (with_reducible exact pw_7) | (with_reducible exact pw_6) | (with_reducible exact pw_15) | (with_reducible exact pw_18) | (with_reducible exact pw_19) | (with_reducible exact pw_30) | (with_reducible exact pw_40) | (with_reducible exact tix0) | (with_reducible exact tix1) | (with_reducible exact tix2) | ((with_reducible apply mul_r); decide) | ((with_reducible apply mul_l); decide) | ((with_reducible apply div_i); decide) | ((with_reducible apply in_R); decide) | ((fail_if_success (with_reducible apply mul_r)); (fail_if_success (with_reducible apply div_i)); (fail_if_success (with_reducible apply dm_int)); (fail_if_success (with_reducible apply in_R)); rfl) | (exact Nat.le_of_ble_eq_true rfl) | (simp [refsOf]; done) | (exact ⟨rfl, rfl, by decide⟩) | (exact ⟨rfl, rfl, rfl⟩))) | ((with_reducible apply Sm.vrP); (focus rfl)) | ((with_reducible apply Sm.vrO); (focus rfl)) | (with_reducible refine Sm.cn ?_) | (with_reducible refine Sm.op2 ?_) | (with_reducible refine Sm.argV ?_) | (with_reducible refine Sm.callE ?_) | (with_reducible refine Sm.cal1 ?_) | (with_reducible refine Sm.sq ?_) | (with_reducible refine Sm.asgS ?_) | (with_reducible refine Sm.asg ?_) | (with_reducible refine Sm.retS ?_) | (with_reducible refine Sm.ifS ?_) | (with_reducible refine Sm.argN ?_) | (with_reducible refine Sm.tst ?_) | (with_reducible refine Sm.tupE ?_) | (with_reducible refine Sm.lstE ?_) | (with_reducible refine Sm.isE ?_) | (with_reducible refine Sm.argR ?_) | (with_reducible refine Sm.tru ?_) | (with_reducible refine Sm.andT ?_) | (with_reducible refine Sm.orT ?_) | (with_reducible refine Sm.notT ?_) | (with_reducible refine Sm.andV ?_) | (with_reducible refine Sm.orV ?_) | (with_reducible refine Sm.notV ?_) | (with_reducible refine Sm.negV ?_) | (with_reducible refine Sm.ife ?_) | (with_reducible refine Sm.chn ?_) | (with_reducible refine Sm.callF ?_) | (with_reducible refine Sm.slE ?_) | (with_reducible refine Sm.ptN ?_) | (with_reducible refine Sm.ptS ?_) | (with_reducible refine Sm.revE ?_) | (with_reducible refine Sm.mth ?_) | (with_reducible refine Sm.ret ?_) | (with_reducible refine Sm.esc ?_) | (with_reducible refine Sm.itS ?_) | (with_reducible refine Sm.itR1 ?_) | (with_reducible refine Sm.itR2 ?_) | (with_reducible refine Sm.itE ?_) | (with_reducible refine Sm.itZ ?_) | (with_reducible refine Sm.lcE2 ?_) | (with_reducible refine Sm.pvF ?_) | (with_reducible refine Sm.pvT ?_) | (with_reducible refine Sm.asgO ?_) | (with_reducible refine Sm.exS ?_) | (with_reducible refine Sm.skip ?_) | (with_reducible refine Sm.par2 ?_) | (with_reducible refine Sm.par3 ?_) | (with_reducible refine Sm.forS ?_) | (with_reducible refine Sm.at_nx ?_) | (with_reducible refine Sm.at_rt ?_) | (with_reducible refine Sm.oP ?_) | (with_reducible refine Sm.oF ?_) | (with_reducible refine Sm.fP ?_) | (with_reducible refine Sm.fF ?_) | (with_reducible refine iteTT ?_) | (with_reducible refine iteT ?_) | (with_reducible refine iteF ?_) | ((with_reducible refine iteB1 ?_ ?_); (focus rfl)) | ((with_reducible refine iteB0 ?_ ?_); (focus rfl)))))
local macro_rules | `(tactic| walk_at "lw n") => `(tactic| (try dsimp only [ent, List.map, Nat.reduceAdd, Nat.reduceSub, List.length_cons, List.length_nil, List.replicate_succ, List.replicate_zero, List.cons_append, List.nil_append, putBack, setOwn, List.getElem?_cons_zero, List.getElem?_cons_succ, List.set_cons_zero, List.set_cons_succ, Sm.nf]))
local macro_rules | `(tactic| walk_at "lw v") => `(tactic| (try simp only [pb1, pb2, pb3, pb4]))
/-- a leaf whose numbers are at most B -/
def lfb (B : Nat) : D → Bool
  | .none => true
  | .bool _ => true
  | .int i => decide (i.natAbs ≤ B)
  | .str x => PyData.strOk x
  | _ => false
/-- a thing at most e deep, its numbers at most B -/
def fnb (B : Nat) : Nat → D → Bool
  | 0, d => lfb B d
  | e + 1, d => match d with
    | .list xs => xs.all (fnb B e)
    | .tuple xs => xs.all (fnb B e)
    | d => lfb B d
theorem lfb_fnb {B e : Nat} {d : D} (h : lfb B d = true) : fnb B e d = true := by
  cases e with
  | zero => exact h
  | succ e => cases d <;> first | exact h | cases h
theorem lay_all {xs : List D} (h : ∀ x ∈ xs, PyData.canLay0 x = true) : PyData.canLayAll0 xs = true := by
  induction xs with
  | nil => rfl
  | cons x xs ih => rw [PyData.canLayAll0, h x (by simp), ih fun y hy => h y (by simp [hy])]; rfl
theorem show_all {xs : List D} (h : ∀ x ∈ xs, PyData.showable x = true) : PyData.showableAll xs = true := by
  induction xs with
  | nil => rfl
  | cons x xs ih => rw [PyData.showableAll, h x (by simp), ih fun y hy => h y (by simp [hy])]; rfl
theorem short_all {B : Nat} {xs : List D} (h : ∀ x ∈ xs, PyData.leavesShort B x = true) : PyData.leavesShortAll B xs = true := by
  induction xs with
  | nil => rfl
  | cons x xs ih => rw [PyData.leavesShortAll, h x (by simp), ih fun y hy => h y (by simp [hy])]; rfl
theorem depth_all {e : Nat} {xs : List D} (h : ∀ x ∈ xs, PyData.depth x ≤ e) : PyData.depthAll xs ≤ e := by
  induction xs with
  | nil => exact Nat.zero_le _
  | cons x xs ih => rw [PyData.depthAll]; exact Nat.max_le.2 ⟨h x (by simp), ih fun y hy => h y (by simp [hy])⟩
theorem lf_facts {B : Nat} (hB : B < 10 ^ 90) {d : D} (h : lfb B d = true) : d.canLay0 = true ∧ d.showable = true ∧ d.leavesShort 100 = true ∧ d.depth = 0 := by
  cases d with
  | none => exact ⟨rfl, rfl, rfl, rfl⟩
  | bool b => exact ⟨rfl, rfl, rfl, rfl⟩
  | int i =>
    have hi : i.natAbs < 10 ^ 90 := Nat.lt_of_le_of_lt (of_decide_eq_true h) hB
    refine ⟨rfl, decide_eq_true ?_, decide_eq_true ?_, rfl⟩
    · by_cases h0 : i.natAbs = 0
      · rw [h0]; decide
      · exact (Nat.log2_lt h0).2 (Nat.lt_trans hi (by decide +kernel))
    · have := int_text_length_le10 (k := 90) (by decide) hi
      show (Str.ofString (toString i)).length ≤ 100
      rw [PySem.ofString_length]
      omega
  | str x =>
    refine ⟨h, rfl, ?_, rfl⟩
    have h' : PyData.strOk x = true := h
    unfold PyData.strOk at h'
    rw [Array.all_eq_true_iff_forall_mem] at h'
    simp only [PyData.leavesShort, List.all_eq_true, decide_eq_true_eq]
    intro c hc
    have := h' c (by simpa using hc)
    have : c < 0x110000 := of_decide_eq_true this
    omega
  | list xs => cases h
  | tuple xs => cases h
  | dict xs => cases h
theorem fn_facts {B : Nat} (hB : B < 10 ^ 90) : ∀ (e : Nat) (d : D), fnb B e d = true → d.canLay0 = true ∧ d.showable = true ∧ d.leavesShort 100 = true ∧ d.depth ≤ e
  | 0, d, h => by obtain ⟨a, b, c, q⟩ := lf_facts hB h; exact ⟨a, b, c, by omega⟩
  | e + 1, d, h => by
    have key : ∀ xs : List D, xs.all (fnb B e) = true → PyData.canLayAll0 xs = true ∧ PyData.showableAll xs = true ∧ PyData.leavesShortAll 100 xs = true ∧ PyData.depthAll xs ≤ e := fun xs hx => by
      rw [List.all_eq_true] at hx
      exact ⟨lay_all fun x m => (fn_facts hB e x (hx x m)).1, show_all fun x m => (fn_facts hB e x (hx x m)).2.1, short_all fun x m => (fn_facts hB e x (hx x m)).2.2.1, depth_all fun x m => (fn_facts hB e x (hx x m)).2.2.2⟩
    cases d with
    | list xs =>
      obtain ⟨a, b, c, q⟩ := key xs h
      refine ⟨by rw [PyData.canLay0]; exact a, by rw [PyData.showable]; exact b, by rw [PyData.leavesShort]; exact c, by rw [PyData.depth]; omega⟩
    | tuple xs =>
      obtain ⟨a, b, c, q⟩ := key xs h
      refine ⟨by rw [PyData.canLay0]; exact a, by rw [PyData.showable]; exact b, by rw [PyData.leavesShort]; exact c, by rw [PyData.depth]; omega⟩
    | dict xs => cases h
    | none => exact ⟨rfl, rfl, rfl, Nat.zero_le _⟩
    | bool b => exact ⟨rfl, rfl, rfl, Nat.zero_le _⟩
    | int i => obtain ⟨a, b, c, q⟩ := lf_facts hB (d := .int i) h; exact ⟨a, b, c, by omega⟩
    | str i => obtain ⟨a, b, c, q⟩ := lf_facts hB (d := .str i) h; exact ⟨a, b, c, by omega⟩
theorem fn_shaped {B e : Nat} {d : D} (h : fnb B e d = true) (hB : B < 10 ^ 90) (he : e ≤ 64) : SeqAt.shaped d = true := by
  obtain ⟨a, b, c, q⟩ := fn_facts hB e d h
  unfold SeqAt.shaped
  rw [a, Bool.true_and]
  exact decide_eq_true (by omega)
theorem fn_mono {B B' : Nat} (hB : B ≤ B') : ∀ (e e' : Nat) (d : D), e ≤ e' → fnb B e d = true → fnb B' e' d = true := by
  have hl : ∀ d, lfb B d = true → lfb B' d = true := fun d h => by
    cases d <;> first | exact h | (exact decide_eq_true (Nat.le_trans (of_decide_eq_true h) hB))
  intro e
  induction e with
  | zero => intro e' d _ h; exact lfb_fnb (hl d h)
  | succ e ih =>
    intro e' d he h
    obtain ⟨f, rfl⟩ : ∃ f, e' = f + 1 := ⟨e' - 1, by omega⟩
    cases d with
    | list xs =>
      have h' : xs.all (fnb B e) = true := h
      show xs.all (fnb B' f) = true
      rw [List.all_eq_true] at h' ⊢
      exact fun x m => ih f x (by omega) (h' x m)
    | tuple xs =>
      have h' : xs.all (fnb B e) = true := h
      show xs.all (fnb B' f) = true
      rw [List.all_eq_true] at h' ⊢
      exact fun x m => ih f x (by omega) (h' x m)
    | none => rfl
    | bool b => rfl
    | int i => exact hl (.int i) h
    | str i => exact hl (.str i) h
    | dict kv => cases h
theorem eqv_str {a b : Str} : PyData.eqv (.str a) (.str b) = decide (a = b) := by
  show (a == b) = decide (a = b)
  by_cases h : a = b <;> simp [h]
theorem eq_ok {x y : D} (hx : SeqAt.shaped x = true) (hy : SeqAt.shaped y = true) : gEq x y = some (.pure (.bool (PyData.eqv x y))) := by
  have h0 : gEq0 x y = some (.pure (.bool (PyData.eqv x y))) := if_pos ⟨hx, hy⟩
  cases x with
  | str a =>
    cases y with
    | str b => rw [eqv_str]; rfl
    | _ => exact h0
  | _ => exact h0
end Lw
namespace Lw
open PySem PySem.Spec PyProof.Rows L2
local macro_rules | `(tactic| walk_at "lw e") => `(tactic| (repeat (first | (with_reducible apply Exists.intro) | ((with_reducible refine And.intro ?_ ?_); · (first | (with_reducible exact pw_7) | (with_reducible exact pw_6) | (with_reducible exact pw_15) | (with_reducible exact pw_18) | (with_reducible exact pw_19) | (with_reducible exact pw_30) | (with_reducible exact pw_40) | (with_reducible exact tix0) | (with_reducible exact tix1) | (with_reducible exact tix2) | ((with_reducible apply mul_r); decide) | ((with_reducible apply mul_l); decide) | ((with_reducible apply div_i); decide) | ((with_reducible apply in_R); decide) | ((fail_if_success (with_reducible apply mul_r)); (fail_if_success (with_reducible apply div_i)); (fail_if_success (with_reducible apply dm_int)); (fail_if_success (with_reducible apply in_R)); rfl) | (exact Nat.le_of_ble_eq_true rfl) | (simp [refsOf]; done) | (exact ⟨rfl, rfl, by decide⟩) | (exact ⟨rfl, rfl, rfl⟩))) | ((with_reducible apply Sm.vrP); (focus rfl)) | ((with_reducible apply Sm.vrO); (focus rfl)) | (with_reducible refine Sm.cn ?_) | (with_reducible refine Sm.op2 ?_) | (with_reducible refine Sm.argV ?_) | (with_reducible refine Sm.callE ?_) | (with_reducible refine Sm.cal1 ?_) | (with_reducible refine Sm.sq ?_) | (with_reducible refine Sm.asgS ?_) | (with_reducible refine Sm.asg ?_) | (with_reducible refine Sm.retS ?_) | (with_reducible refine Sm.ifS ?_) | (with_reducible refine Sm.argN ?_) | (with_reducible refine Sm.tst ?_) | (with_reducible refine Sm.tupE ?_) | (with_reducible refine Sm.lstE ?_) | (with_reducible refine Sm.isE ?_) | (with_reducible refine Sm.argR ?_) | (with_reducible refine Sm.tru ?_) | (with_reducible refine Sm.andT ?_) | (with_reducible refine Sm.orT ?_) | (with_reducible refine Sm.notT ?_) | (with_reducible refine Sm.andV ?_) | (with_reducible refine Sm.orV ?_) | (with_reducible refine Sm.notV ?_) | (with_reducible refine Sm.negV ?_) | (with_reducible refine Sm.ife ?_) | (with_reducible refine Sm.chn ?_) | (with_reducible refine Sm.callF ?_) | (with_reducible refine Sm.slE ?_) | (with_reducible refine Sm.ptN ?_) | (with_reducible refine Sm.ptS ?_) | (with_reducible refine Sm.revE ?_) | (with_reducible refine Sm.mth ?_) | (with_reducible refine Sm.ret ?_) | (with_reducible refine Sm.esc ?_) | (with_reducible refine Sm.itS ?_) | (with_reducible refine Sm.itR1 ?_) | (with_reducible refine Sm.itR2 ?_) | (with_reducible refine Sm.itE ?_) | (with_reducible refine Sm.itZ ?_) | (with_reducible refine Sm.lcE2 ?_) | (with_reducible refine Sm.pvF ?_) | (with_reducible refine Sm.pvT ?_) | (with_reducible refine Sm.asgO ?_) | (with_reducible refine Sm.exS ?_) | (with_reducible refine Sm.skip ?_) | (with_reducible refine Sm.par2 ?_) | (with_reducible refine Sm.par3 ?_) | (with_reducible refine Sm.forS ?_) | (with_reducible refine Sm.at_nx ?_) | (with_reducible refine Sm.at_rt ?_) | (with_reducible refine Sm.oP ?_) | (with_reducible refine Sm.oF ?_) | (with_reducible refine Sm.fP ?_) | (with_reducible refine Sm.fF ?_) | (with_reducible refine iteTT ?_) | (with_reducible refine iteT ?_) | (with_reducible refine iteF ?_) | ((with_reducible refine iteB1 ?_ ?_); (focus rfl)) | ((with_reducible refine iteB0 ?_ ?_); (focus rfl)))))
local macro_rules | `(tactic| walk_at "lw n") => `(tactic| (try dsimp only [ent, List.map, Nat.reduceAdd, Nat.reduceSub, List.length_cons, List.length_nil, List.replicate_succ, List.replicate_zero, List.cons_append, List.nil_append, putBack, setOwn, List.getElem?_cons_zero, List.getElem?_cons_succ, List.set_cons_zero, List.set_cons_succ, Sm.nf]))
local macro_rules | `(tactic| walk_at "lw v") => `(tactic| (try simp only [pb1, pb2, pb3, pb4]))
theorem at_list {xs : List D} {i : Int} (h0 : 0 ≤ i) (h1 : i < xs.length) : gIx (.list xs) (.int i) = some (.pure (xs.getD i.toNat .none)) := by
  have hl : i.toNat < xs.length := by omega
  have : atI xs i = some (xs.getD i.toNat .none) := by
    unfold atI ixN
    simp only [h0, if_true]
    rw [if_pos (by omega)]
    simp [hl]
  show (atI xs i).map R.pure = _
  rw [this]; rfl
theorem at_tup {xs : List D} {i : Int} (h0 : 0 ≤ i) (h1 : i < xs.length) : gIx (.tuple xs) (.int i) = some (.pure (xs.getD i.toNat .none)) := at_list h0 h1
/-- something was drawn: P holds of it -/
def DrawQ (c : Nat) (P : D → Prop) (rest : List S) (r : R) (outs : List S) : Prop := ∃ d ds', r = .pure d ∧ P d ∧ Box c ds' ∧ outs = .own true ds' :: rest
theorem great_ok {c : Nat} {ds : List D} (hb : Box (c + 16) ds) : wpf m_l_great [.own true ds] (DrawQ c (fun d => ∃ g : Nat, d = .int g ∧ 1 ≤ g ∧ g ≤ 1000000000000000) []) := by
  refine Sm.run ?_
  unfold g_l_great
  walk_at "lw e"
  refine Sm.fmono (take4 hb (by decide) (by decide)) fun r o h => ?_
  obtain ⟨v, ds', rfl, a1, a2, hb', rfl⟩ := h
  refine ⟨nref, ?_⟩
  walk_at "lw e"
  refine ⟨at_list a1 (by exact a2), ?_⟩
  walk_at "lw e"
  refine ⟨_, ds', rfl, ?_, hb', rfl⟩
  have hv : v = 0 ∨ v = 1 ∨ v = 2 ∨ v = 3 ∨ v = 4 := by omega
  rcases hv with rfl | rfl | rfl | rfl | rfl
  · exact ⟨1, rfl, by decide, by decide⟩
  · exact ⟨1, rfl, by decide, by decide⟩
  · exact ⟨1, rfl, by decide, by decide⟩
  · exact ⟨1000000, rfl, by decide, by decide⟩
  · exact ⟨1000000000000000, rfl, by decide, by decide⟩
/-- a pound by draws -/
def Pound (g : Nat) (d : D) : Prop := ∃ a b s : Int, d = .tuple [.int (a * g), .int ((a + b) * g), .int (s * g)] ∧ 0 ≤ a ∧ a < 4 ∧ 0 ≤ b ∧ b < 30 ∧ 1 ≤ s ∧ s < 5
def StairP (g cap : Nat) (d : D) : Prop := ∃ xs, d = .tuple xs ∧ 1 ≤ xs.length ∧ xs.length ≤ cap ∧ ∀ x ∈ xs, Pound g x
def pk3 (v : Int) : Int := if v = 0 then 2 else if v = 1 then 8 else 30
theorem pk3_b (v : Int) : 1 ≤ pk3 v ∧ pk3 v ≤ 30 := by unfold pk3; split; decide; split <;> decide
theorem pick3 {v : Int} (h0 : 0 ≤ v) (h1 : v < 3) : gIx (.list [.int 2, .int 8, .int 30]) (.int v) = some (.pure (.int (pk3 v))) := by
  have hv : v = 0 ∨ v = 1 ∨ v = 2 := by omega
  rcases hv with rfl | rfl | rfl <;> rfl
theorem rng_at {n i : Nat} {d : D} (h : (rngD 0 n)[i]? = some d) : i < n ∧ d = .int i := by
  have hl : i < n := by
    obtain ⟨h1, -⟩ := List.getElem?_eq_some_iff.1 h
    rw [rngD_len] at h1
    exact h1
  rw [rngD_get n 0 i hl] at h
  cases h
  exact ⟨hl, by rw [Int.zero_add]⟩
theorem in_R {i : Int} (h : -1000 ≤ i ∧ i ≤ 100000) : inR i = true := by
  unfold inR
  rw [Bool.and_eq_true]
  exact ⟨decide_eq_true (by omega), decide_eq_true (by omega)⟩
theorem app_ok {ds : List D} {d : D} (h : ds.length < 10000) : hApp ds [d] = some (.none, ds ++ [d]) := by
  unfold hApp
  have hs : sizeLine = 16777216 := rfl
  exact if_pos (by omega)
theorem fr_free {ς : En} {i : Nat} {o : Option S} (h : ς[i]? = some o) (f : Fr o) : free ς i = true := by
  unfold free
  rw [h]
  rcases o with _ | _ | ⟨_ | _, _⟩
  · rfl
  · rfl
  · rfl
  · exact f.elim
theorem stair_ok {c cap g : Nat} {ds : List D} (hc : 1 ≤ cap) (hc2 : cap ≤ 100) (hg : g ≤ 1000000000000000) (hb : Box (c + 64 * cap + 16) ds) : wpf m_l_stair [.own true ds, .pure (.int cap), .pure (.int g)] (DrawQ c (StairP g cap) [.pure (.int cap), .pure (.int g)]) := by
  refine Sm.run ?_
  unfold g_l_stair
  walk_at "lw e"
  refine Sm.fmono (take4 hb (by omega) (by omega)) fun r o h => ?_
  obtain ⟨v, ds', rfl, a1, a2, hb', rfl⟩ := h
  refine ⟨nref, ?_⟩
  walk_at "lw e"
  refine ⟨in_R (by omega), ?_⟩
  refine Sm.loopInv (fun i ς => ∃ bs ys : List D, ∃ o4 o5 o6 o7, ς = [some (.own true bs), some (.pure (.int cap)), some (.pure (.int g)), some (.own false ys), o4, o5, o6, o7] ∧ Box (c + 64 * (cap - i)) bs ∧ ys.length = i ∧ (∀ x ∈ ys, Pound g x) ∧ Fr o4 ∧ Fr o5 ∧ Fr o6 ∧ Fr o7) ⟨_, _, _, _, _, _, rfl, hb'.less (by omega), rfl, (fun x h => nomatch h), trivial, trivial, trivial, trivial⟩ ?_ ?_
  · rintro i d ς hd ⟨bs, ys, o4, o5, o6, o7, rfl, hbs, hlen, hys, f4, f5, f6, f7⟩
    obtain ⟨hi, rfl⟩ := rng_at hd
    refine ⟨_, tgN_o rfl f4, ?_⟩
    walk_at "lw e"
    (refine Sm.fmono (take4 (c := c + 64 * (cap - i) - 16) (Box.less hbs (by omega)) (by omega) (by omega)) fun r o h => ?_; obtain ⟨v1, b1, rfl, l1, u1, h1, rfl⟩ := h; refine ⟨nref, ?_⟩; walk_at "lw n"; walk_at "lw e")
    (refine Sm.fmono (take4 (c := c + 64 * (cap - i) - 32) (Box.less h1 (by omega)) (by omega) (by omega)) fun r o h => ?_; obtain ⟨v2, b2, rfl, l2, u2, h2, rfl⟩ := h; refine ⟨nref, ?_⟩; walk_at "lw n"; walk_at "lw e")
    have k12 := pk3_b v2
    refine ⟨pick3 l2 u2, ?_⟩
    walk_at "lw e"
    (refine Sm.fmono (take4 (c := c + 64 * (cap - i) - 48) (Box.less h2 (by omega)) (by omega) (by omega)) fun r o h => ?_; obtain ⟨v3, b3, rfl, l3, u3, h3, rfl⟩ := h; refine ⟨nref, ?_⟩; walk_at "lw n"; walk_at "lw e")
    (refine Sm.fmono (take4 (c := c + 64 * (cap - i) - 64) (Box.less h3 (by omega)) (by omega) (by omega)) fun r o h => ?_; obtain ⟨v4, b4, rfl, l4, u4, h4, rfl⟩ := h; refine ⟨nref, ?_⟩; walk_at "lw n"; walk_at "lw e")
    refine ⟨⟨fr_free rfl f5, fr_free rfl f6, fr_free rfl f7⟩, ?_⟩
    walk_at "lw n"
    walk_at "lw e"
    refine ⟨mul_r (by omega), ?_⟩
    walk_at "lw e"
    refine ⟨mul_r (by omega), ?_⟩
    walk_at "lw e"
    refine ⟨mul_r (by omega), ?_⟩
    walk_at "lw e"
    refine ⟨app_ok (by omega), ?_⟩
    refine ⟨_, _, _, _, _, _, rfl, h4.less (by omega), by rw [List.length_append, hlen]; rfl, ?_, trivial, trivial, trivial, trivial⟩
    intro x hx
    rw [List.mem_append] at hx
    rcases hx with hx | hx
    · exact hys x hx
    · cases List.mem_singleton.1 hx
      exact ⟨v1, v3, 1 + v4, rfl, l1, u1, l3, by omega, by omega, by omega⟩
  · rintro ς ⟨bs, ys, o4, o5, o6, o7, rfl, hbs, hlen, hys, f4, f5, f6, f7⟩
    walk_at "lw e"
    rw [rngD_len] at hlen
    exact ⟨_, _, rfl, ⟨ys, rfl, by omega, by omega, hys⟩, hbs.less (by omega), rfl⟩
end Lw
namespace Lw
open PySem PySem.Spec PyProof.Rows L2
local macro_rules | `(tactic| walk_at "lw e") => `(tactic| (repeat (first | (with_reducible apply Exists.intro) | ((with_reducible refine And.intro ?_ ?_); · (first | (with_reducible exact pw_7) | (with_reducible exact pw_6) | (with_reducible exact pw_15) | (with_reducible exact pw_18) | (with_reducible exact pw_19) | (with_reducible exact pw_30) | (with_reducible exact pw_40) | (with_reducible exact tix0) | (with_reducible exact tix1) | (with_reducible exact tix2) | ((with_reducible apply mul_r); decide) | ((with_reducible apply mul_l); decide) | ((with_reducible apply div_i); decide) | ((with_reducible apply in_R); decide) | ((fail_if_success (with_reducible apply mul_r)); (fail_if_success (with_reducible apply div_i)); (fail_if_success (with_reducible apply dm_int)); (fail_if_success (with_reducible apply in_R)); rfl) | (exact Nat.le_of_ble_eq_true rfl) | (simp [refsOf]; done) | (exact ⟨rfl, rfl, by decide⟩) | (exact ⟨rfl, rfl, rfl⟩))) | ((with_reducible apply Sm.vrP); (focus rfl)) | ((with_reducible apply Sm.vrO); (focus rfl)) | (with_reducible refine Sm.cn ?_) | (with_reducible refine Sm.op2 ?_) | (with_reducible refine Sm.argV ?_) | (with_reducible refine Sm.callE ?_) | (with_reducible refine Sm.cal1 ?_) | (with_reducible refine Sm.sq ?_) | (with_reducible refine Sm.asgS ?_) | (with_reducible refine Sm.asg ?_) | (with_reducible refine Sm.retS ?_) | (with_reducible refine Sm.ifS ?_) | (with_reducible refine Sm.argN ?_) | (with_reducible refine Sm.tst ?_) | (with_reducible refine Sm.tupE ?_) | (with_reducible refine Sm.lstE ?_) | (with_reducible refine Sm.isE ?_) | (with_reducible refine Sm.argR ?_) | (with_reducible refine Sm.tru ?_) | (with_reducible refine Sm.andT ?_) | (with_reducible refine Sm.orT ?_) | (with_reducible refine Sm.notT ?_) | (with_reducible refine Sm.andV ?_) | (with_reducible refine Sm.orV ?_) | (with_reducible refine Sm.notV ?_) | (with_reducible refine Sm.negV ?_) | (with_reducible refine Sm.ife ?_) | (with_reducible refine Sm.chn ?_) | (with_reducible refine Sm.callF ?_) | (with_reducible refine Sm.slE ?_) | (with_reducible refine Sm.ptN ?_) | (with_reducible refine Sm.ptS ?_) | (with_reducible refine Sm.revE ?_) | (with_reducible refine Sm.mth ?_) | (with_reducible refine Sm.ret ?_) | (with_reducible refine Sm.esc ?_) | (with_reducible refine Sm.itS ?_) | (with_reducible refine Sm.itR1 ?_) | (with_reducible refine Sm.itR2 ?_) | (with_reducible refine Sm.itE ?_) | (with_reducible refine Sm.itZ ?_) | (with_reducible refine Sm.lcE2 ?_) | (with_reducible refine Sm.pvF ?_) | (with_reducible refine Sm.pvT ?_) | (with_reducible refine Sm.asgO ?_) | (with_reducible refine Sm.exS ?_) | (with_reducible refine Sm.skip ?_) | (with_reducible refine Sm.par2 ?_) | (with_reducible refine Sm.par3 ?_) | (with_reducible refine Sm.forS ?_) | (with_reducible refine Sm.at_nx ?_) | (with_reducible refine Sm.at_rt ?_) | (with_reducible refine Sm.oP ?_) | (with_reducible refine Sm.oF ?_) | (with_reducible refine Sm.fP ?_) | (with_reducible refine Sm.fF ?_) | (with_reducible refine iteTT ?_) | (with_reducible refine iteT ?_) | (with_reducible refine iteF ?_) | ((with_reducible refine iteB1 ?_ ?_); (focus rfl)) | ((with_reducible refine iteB0 ?_ ?_); (focus rfl)))))
local macro_rules | `(tactic| walk_at "lw n") => `(tactic| (try dsimp only [ent, List.map, Nat.reduceAdd, Nat.reduceSub, List.length_cons, List.length_nil, List.replicate_succ, List.replicate_zero, List.cons_append, List.nil_append, putBack, setOwn, List.getElem?_cons_zero, List.getElem?_cons_succ, List.set_cons_zero, List.set_cons_succ, Sm.nf]))
local macro_rules | `(tactic| walk_at "lw v") => `(tactic| (try simp only [pb1, pb2, pb3, pb4]))
def ValQ (P : D → Prop) (r : R) (_ : List S) : Prop := ∃ d, r = .pure d ∧ P d
abbrev TrueQ : R → List S → Prop := ValQ fun d => d = .bool true
theorem iteB1 {b : Bool} {A B : Prop} (e : b = true) (h : A) : if b = true then A else B := by rw [if_pos e]; exact h
theorem iteB0 {b : Bool} {A B : Prop} (e : b = false) (h : B) : if b = true then A else B := by rw [if_neg (by rw [e]; decide)]; exact h
def lcQ (vs : List Nat) (tg : Tg) (tt : M Bool) (fe : M R) (ds : List D) (ς : En) (Q : List D → En → Prop) : Prop := ∃ acc ς2, lcLoop vs tg tt fe ds [] ς = some (acc, ς2) ∧ Q acc ς2
theorem Sm.lcE2 {ς : En} {fi : M (List D)} {vs : List Nat} {tg : Tg} {tt : M Bool} {fe : M R} {Q : R → En → Prop}
    (h : wp fi ς fun ds ς1 => freeAll ς1 vs = true ∧ lcQ vs tg tt fe ds (wipeE ς1 vs) fun acc ς2 => Q (.fresh acc) ς2) : wp (Lw.lcE fi vs tg tt fe) ς Q := Sm.lcE h
theorem Sm.lcPure {ς : En} {vs : List Nat} {tg : Tg} {fe : M R} {ds : List D} {Q : List D → En → Prop} (f : D → D) (hlen : ds.length ≤ sizeLine)
    (hs : ∀ d ∈ ds, ∃ ς1, tg d ς = some ς1 ∧ wp fe ς1 fun r ς2 => ∃ ς3, toD r ς2 = some (f d, ς3) ∧ freeAll ς3 vs = true ∧ wipeE ς3 vs = ς)
    (hd : Q (ds.map f) ς) : lcQ vs tg (Lw.ret true) fe ds ς Q := by
  refine Sm.lcInv (fun i acc ς' => acc = (ds.take i).map f ∧ ς' = ς) ⟨by simp, rfl⟩ hlen ?_ ?_
  · rintro i d acc ς' hi _ ⟨rfl, rfl⟩
    obtain ⟨ς1, e1, h⟩ := hs d (List.mem_of_getElem? hi)
    refine ⟨ς1, e1, Sm.mono h fun r ς2 h => ?_⟩
    obtain ⟨ς3, e3, hf, hw⟩ := h
    refine ⟨_, ς3, e3, hf, ?_, hw⟩
    rw [List.take_add_one, hi]
    simp
  · rintro acc ς' _ ⟨rfl, rfl⟩
    rw [List.take_length]
    exact hd
local macro_rules | `(tactic| walk_at "lw e") => `(tactic| (repeat (first | (with_reducible apply Exists.intro) | ((with_reducible refine And.intro ?_ ?_); · (first | (with_reducible exact pw_7) | (with_reducible exact pw_6) | (with_reducible exact pw_15) | (with_reducible exact pw_18) | (with_reducible exact pw_19) | (with_reducible exact pw_30) | (with_reducible exact pw_40) | (with_reducible exact tix0) | (with_reducible exact tix1) | (with_reducible exact tix2) | ((with_reducible apply mul_r); decide) | ((with_reducible apply mul_l); decide) | ((with_reducible apply div_i); decide) | ((with_reducible apply in_R); decide) | ((fail_if_success (with_reducible apply mul_r)); (fail_if_success (with_reducible apply div_i)); (fail_if_success (with_reducible apply dm_int)); (fail_if_success (with_reducible apply in_R)); rfl) | (exact Nat.le_of_ble_eq_true rfl) | (simp [refsOf]; done) | (exact ⟨rfl, rfl, by decide⟩) | (exact ⟨rfl, rfl, rfl⟩))) | ((with_reducible apply Sm.vrP); (focus rfl)) | ((with_reducible apply Sm.vrO); (focus rfl)) | (with_reducible refine Sm.cn ?_) | (with_reducible refine Sm.op2 ?_) | (with_reducible refine Sm.argV ?_) | (with_reducible refine Sm.callE ?_) | (with_reducible refine Sm.cal1 ?_) | (with_reducible refine Sm.sq ?_) | (with_reducible refine Sm.asgS ?_) | (with_reducible refine Sm.asg ?_) | (with_reducible refine Sm.retS ?_) | (with_reducible refine Sm.ifS ?_) | (with_reducible refine Sm.argN ?_) | (with_reducible refine Sm.tst ?_) | (with_reducible refine Sm.tupE ?_) | (with_reducible refine Sm.lstE ?_) | (with_reducible refine Sm.isE ?_) | (with_reducible refine Sm.argR ?_) | (with_reducible refine Sm.tru ?_) | (with_reducible refine Sm.andT ?_) | (with_reducible refine Sm.orT ?_) | (with_reducible refine Sm.notT ?_) | (with_reducible refine Sm.andV ?_) | (with_reducible refine Sm.orV ?_) | (with_reducible refine Sm.notV ?_) | (with_reducible refine Sm.negV ?_) | (with_reducible refine Sm.ife ?_) | (with_reducible refine Sm.chn ?_) | (with_reducible refine Sm.callF ?_) | (with_reducible refine Sm.slE ?_) | (with_reducible refine Sm.ptN ?_) | (with_reducible refine Sm.ptS ?_) | (with_reducible refine Sm.revE ?_) | (with_reducible refine Sm.mth ?_) | (with_reducible refine Sm.ret ?_) | (with_reducible refine Sm.esc ?_) | (with_reducible refine Sm.itS ?_) | (with_reducible refine Sm.itR1 ?_) | (with_reducible refine Sm.itR2 ?_) | (with_reducible refine Sm.itE ?_) | (with_reducible refine Sm.itZ ?_) | (with_reducible refine Sm.lcE2 ?_) | (with_reducible refine Sm.pvF ?_) | (with_reducible refine Sm.pvT ?_) | (with_reducible refine Sm.asgO ?_) | (with_reducible refine Sm.exS ?_) | (with_reducible refine Sm.skip ?_) | (with_reducible refine Sm.par2 ?_) | (with_reducible refine Sm.par3 ?_) | (with_reducible refine Sm.forS ?_) | (with_reducible refine Sm.at_nx ?_) | (with_reducible refine Sm.at_rt ?_) | (with_reducible refine Sm.oP ?_) | (with_reducible refine Sm.oF ?_) | (with_reducible refine Sm.fP ?_) | (with_reducible refine Sm.fF ?_) | (with_reducible refine iteTT ?_) | (with_reducible refine iteT ?_) | (with_reducible refine iteF ?_) | ((with_reducible refine iteB1 ?_ ?_); (focus rfl)) | ((with_reducible refine iteB0 ?_ ?_); (focus rfl)))))
local macro_rules | `(tactic| walk_at "lw n") => `(tactic| (try dsimp only [ent, List.map, Nat.reduceAdd, Nat.reduceSub, List.length_cons, List.length_nil, List.replicate_succ, List.replicate_zero, List.cons_append, List.nil_append, putBack, setOwn, List.getElem?_cons_zero, List.getElem?_cons_succ, List.set_cons_zero, List.set_cons_succ, Sm.nf]))
local macro_rules | `(tactic| walk_at "lw v") => `(tactic| (try simp only [pb1, pb2, pb3, pb4]))
theorem bools_mk : ∀ bs : List Bool, bools (bs.map PyData.bool) = some bs
  | [] => rfl
  | b :: bs => by rw [List.map_cons, bools, bools_mk bs]
theorem all_mk {xs : List D} {p : D → Bool} : gAll (.list (xs.map fun x => .bool (p x))) = some (.pure (.bool (xs.all p))) := by
  unfold gAll
  have : xs.map (fun x => PyData.bool (p x)) = (xs.map p).map PyData.bool := by rw [List.map_map]; rfl
  rw [this]
  simp only [bools_mk]
  rw [List.all_map]; rfl
theorem eqv_int {a b : Int} : PyData.eqv (.int a) (.int b) = decide (a = b) := by
  show (a == b) = decide (a = b)
  by_cases h : a = b <;> simp [h]
theorem pb0 {o : List S} {ς : En} : putBack [] o ς = ς := by cases o <;> rfl
theorem pbv {a : D} {as : List Ar} {o : List S} {ς : En} (h : ∀ o, putBack as o ς = ς) : putBack (.val a :: as) o ς = ς := by
  cases o with
  | nil => rfl
  | cons s o => exact h o
theorem pb1 {a : D} {o : List S} {ς : En} : putBack [.val a] o ς = ς := pbv fun _ => pb0
theorem pb2 {a b : D} {o : List S} {ς : En} : putBack [.val a, .val b] o ς = ς := pbv fun _ => pb1
theorem pb3 {a b c : D} {o : List S} {ς : En} : putBack [.val a, .val b, .val c] o ς = ς := pbv fun _ => pb2
theorem pb4 {a b c d : D} {o : List S} {ς : En} : putBack [.val a, .val b, .val c, .val d] o ς = ς := pbv fun _ => pb3
local macro_rules | `(tactic| walk_at "lw e") => `(tactic| (repeat (first | (with_reducible apply Exists.intro) | ((with_reducible refine And.intro ?_ ?_); · (first | (with_reducible exact pw_7) | (with_reducible exact pw_6) | (with_reducible exact pw_15) | (with_reducible exact pw_18) | (with_reducible exact pw_19) | (with_reducible exact pw_30) | (with_reducible exact pw_40) | (with_reducible exact tix0) | (with_reducible exact tix1) | (with_reducible exact tix2) | ((with_reducible apply mul_r); decide) | ((with_reducible apply mul_l); decide) | ((with_reducible apply div_i); decide) | ((with_reducible apply in_R); decide) | ((fail_if_success (with_reducible apply mul_r)); (fail_if_success (with_reducible apply div_i)); (fail_if_success (with_reducible apply dm_int)); (fail_if_success (with_reducible apply in_R)); rfl) | (exact Nat.le_of_ble_eq_true rfl) | (simp [refsOf]; done) | (exact ⟨rfl, rfl, by decide⟩) | (exact ⟨rfl, rfl, rfl⟩))) | ((with_reducible apply Sm.vrP); (focus rfl)) | ((with_reducible apply Sm.vrO); (focus rfl)) | (with_reducible refine Sm.cn ?_) | (with_reducible refine Sm.op2 ?_) | (with_reducible refine Sm.argV ?_) | (with_reducible refine Sm.callE ?_) | (with_reducible refine Sm.cal1 ?_) | (with_reducible refine Sm.sq ?_) | (with_reducible refine Sm.asgS ?_) | (with_reducible refine Sm.asg ?_) | (with_reducible refine Sm.retS ?_) | (with_reducible refine Sm.ifS ?_) | (with_reducible refine Sm.argN ?_) | (with_reducible refine Sm.tst ?_) | (with_reducible refine Sm.tupE ?_) | (with_reducible refine Sm.lstE ?_) | (with_reducible refine Sm.isE ?_) | (with_reducible refine Sm.argR ?_) | (with_reducible refine Sm.tru ?_) | (with_reducible refine Sm.andT ?_) | (with_reducible refine Sm.orT ?_) | (with_reducible refine Sm.notT ?_) | (with_reducible refine Sm.andV ?_) | (with_reducible refine Sm.orV ?_) | (with_reducible refine Sm.notV ?_) | (with_reducible refine Sm.negV ?_) | (with_reducible refine Sm.ife ?_) | (with_reducible refine Sm.chn ?_) | (with_reducible refine Sm.callF ?_) | (with_reducible refine Sm.slE ?_) | (with_reducible refine Sm.ptN ?_) | (with_reducible refine Sm.ptS ?_) | (with_reducible refine Sm.revE ?_) | (with_reducible refine Sm.mth ?_) | (with_reducible refine Sm.ret ?_) | (with_reducible refine Sm.esc ?_) | (with_reducible refine Sm.itS ?_) | (with_reducible refine Sm.itR1 ?_) | (with_reducible refine Sm.itR2 ?_) | (with_reducible refine Sm.itE ?_) | (with_reducible refine Sm.itZ ?_) | (with_reducible refine Sm.lcE2 ?_) | (with_reducible refine Sm.pvF ?_) | (with_reducible refine Sm.pvT ?_) | (with_reducible refine Sm.asgO ?_) | (with_reducible refine Sm.exS ?_) | (with_reducible refine Sm.skip ?_) | (with_reducible refine Sm.par2 ?_) | (with_reducible refine Sm.par3 ?_) | (with_reducible refine Sm.forS ?_) | (with_reducible refine Sm.at_nx ?_) | (with_reducible refine Sm.at_rt ?_) | (with_reducible refine Sm.oP ?_) | (with_reducible refine Sm.oF ?_) | (with_reducible refine Sm.fP ?_) | (with_reducible refine Sm.fF ?_) | (with_reducible refine iteTT ?_) | (with_reducible refine iteT ?_) | (with_reducible refine iteF ?_) | ((with_reducible refine iteB1 ?_ ?_); (focus rfl)) | ((with_reducible refine iteB0 ?_ ?_); (focus rfl)))))
local macro_rules | `(tactic| walk_at "lw n") => `(tactic| (try dsimp only [ent, List.map, Nat.reduceAdd, Nat.reduceSub, List.length_cons, List.length_nil, List.replicate_succ, List.replicate_zero, List.cons_append, List.nil_append, putBack, setOwn, List.getElem?_cons_zero, List.getElem?_cons_succ, List.set_cons_zero, List.set_cons_succ, Sm.nf]))
local macro_rules | `(tactic| walk_at "lw v") => `(tactic| (try simp only [pb1, pb2, pb3, pb4]))
end Lw
namespace Lw
open PySem PySem.Spec PyProof.Rows L2
local macro_rules | `(tactic| walk_at "lw e") => `(tactic| (repeat (first | (with_reducible apply Exists.intro) | ((with_reducible refine And.intro ?_ ?_); · (first | (with_reducible exact pw_7) | (with_reducible exact pw_6) | (with_reducible exact pw_15) | (with_reducible exact pw_18) | (with_reducible exact pw_19) | (with_reducible exact pw_30) | (with_reducible exact pw_40) | (with_reducible exact tix0) | (with_reducible exact tix1) | (with_reducible exact tix2) | ((with_reducible apply mul_r); decide) | ((with_reducible apply mul_l); decide) | ((with_reducible apply div_i); decide) | ((with_reducible apply in_R); decide) | ((fail_if_success (with_reducible apply mul_r)); (fail_if_success (with_reducible apply div_i)); (fail_if_success (with_reducible apply dm_int)); (fail_if_success (with_reducible apply in_R)); rfl) | (exact Nat.le_of_ble_eq_true rfl) | (simp [refsOf]; done) | (exact ⟨rfl, rfl, by decide⟩) | (exact ⟨rfl, rfl, rfl⟩))) | ((with_reducible apply Sm.vrP); (focus rfl)) | ((with_reducible apply Sm.vrO); (focus rfl)) | (with_reducible refine Sm.cn ?_) | (with_reducible refine Sm.op2 ?_) | (with_reducible refine Sm.argV ?_) | (with_reducible refine Sm.callE ?_) | (with_reducible refine Sm.cal1 ?_) | (with_reducible refine Sm.sq ?_) | (with_reducible refine Sm.asgS ?_) | (with_reducible refine Sm.asg ?_) | (with_reducible refine Sm.retS ?_) | (with_reducible refine Sm.ifS ?_) | (with_reducible refine Sm.argN ?_) | (with_reducible refine Sm.tst ?_) | (with_reducible refine Sm.tupE ?_) | (with_reducible refine Sm.lstE ?_) | (with_reducible refine Sm.isE ?_) | (with_reducible refine Sm.argR ?_) | (with_reducible refine Sm.tru ?_) | (with_reducible refine Sm.andT ?_) | (with_reducible refine Sm.orT ?_) | (with_reducible refine Sm.notT ?_) | (with_reducible refine Sm.andV ?_) | (with_reducible refine Sm.orV ?_) | (with_reducible refine Sm.notV ?_) | (with_reducible refine Sm.negV ?_) | (with_reducible refine Sm.ife ?_) | (with_reducible refine Sm.chn ?_) | (with_reducible refine Sm.callF ?_) | (with_reducible refine Sm.slE ?_) | (with_reducible refine Sm.ptN ?_) | (with_reducible refine Sm.ptS ?_) | (with_reducible refine Sm.revE ?_) | (with_reducible refine Sm.mth ?_) | (with_reducible refine Sm.ret ?_) | (with_reducible refine Sm.esc ?_) | (with_reducible refine Sm.itS ?_) | (with_reducible refine Sm.itR1 ?_) | (with_reducible refine Sm.itR2 ?_) | (with_reducible refine Sm.itE ?_) | (with_reducible refine Sm.itZ ?_) | (with_reducible refine Sm.lcE2 ?_) | (with_reducible refine Sm.pvF ?_) | (with_reducible refine Sm.pvT ?_) | (with_reducible refine Sm.asgO ?_) | (with_reducible refine Sm.exS ?_) | (with_reducible refine Sm.skip ?_) | (with_reducible refine Sm.par2 ?_) | (with_reducible refine Sm.par3 ?_) | (with_reducible refine Sm.forS ?_) | (with_reducible refine Sm.at_nx ?_) | (with_reducible refine Sm.at_rt ?_) | (with_reducible refine Sm.oP ?_) | (with_reducible refine Sm.oF ?_) | (with_reducible refine Sm.fP ?_) | (with_reducible refine Sm.fF ?_) | (with_reducible refine iteTT ?_) | (with_reducible refine iteT ?_) | (with_reducible refine iteF ?_) | ((with_reducible refine iteB1 ?_ ?_); (focus rfl)) | ((with_reducible refine iteB0 ?_ ?_); (focus rfl)))))
local macro_rules | `(tactic| walk_at "lw n") => `(tactic| (try dsimp only [ent, List.map, Nat.reduceAdd, Nat.reduceSub, List.length_cons, List.length_nil, List.replicate_succ, List.replicate_zero, List.cons_append, List.nil_append, putBack, setOwn, List.getElem?_cons_zero, List.getElem?_cons_succ, List.set_cons_zero, List.set_cons_succ, Sm.nf]))
local macro_rules | `(tactic| walk_at "lw v") => `(tactic| (try simp only [pb1, pb2, pb3, pb4]))
theorem strOk_str (s : String) : PyData.strOk (Str.ofString s) = true := by
  rw [PySem.Str.ofString_eq_toList]
  unfold PyData.strOk
  simp only [List.all_toArray, List.all_map, List.all_eq_true, Function.comp]
  intro c _
  exact decide_eq_true (by
    have := c.valid
    rcases this with h | h
    · exact Nat.lt_trans h (by decide)
    · exact h.2)
theorem pop_ok {ds : List D} {i : Int} (h0 : 0 ≤ i) (h1 : i < ds.length) (h2 : ds.length ≤ 10000) : hPopAt ds [.int i] = some (ds.getD i.toNat .none, ds.eraseIdx i.toNat) := by
  unfold hPopAt
  dsimp only
  rw [if_pos ⟨by omega, by omega⟩]
  have : seqIndex? i ds.length = some i.toNat := by
    unfold seqIndex?
    simp only [show ¬ i < 0 by omega, if_false]
    rw [if_pos (by simp; omega)]
  have hl : i.toNat < ds.length := by omega
  simp only [this, List.getElem?_eq_getElem hl]
  simp [hl]
end Lw
namespace Lw
open PySem PySem.Spec PyProof.Rows L2
local macro_rules | `(tactic| walk_at "lw e") => `(tactic| (repeat (first | (with_reducible apply Exists.intro) | ((with_reducible refine And.intro ?_ ?_); · (first | (with_reducible exact pw_7) | (with_reducible exact pw_6) | (with_reducible exact pw_15) | (with_reducible exact pw_18) | (with_reducible exact pw_19) | (with_reducible exact pw_30) | (with_reducible exact pw_40) | (with_reducible exact tix0) | (with_reducible exact tix1) | (with_reducible exact tix2) | ((with_reducible apply mul_r); decide) | ((with_reducible apply mul_l); decide) | ((with_reducible apply div_i); decide) | ((with_reducible apply in_R); decide) | ((fail_if_success (with_reducible apply mul_r)); (fail_if_success (with_reducible apply div_i)); (fail_if_success (with_reducible apply dm_int)); (fail_if_success (with_reducible apply in_R)); rfl) | (exact Nat.le_of_ble_eq_true rfl) | (simp [refsOf]; done) | (exact ⟨rfl, rfl, by decide⟩) | (exact ⟨rfl, rfl, rfl⟩))) | ((with_reducible apply Sm.vrP); (focus rfl)) | ((with_reducible apply Sm.vrO); (focus rfl)) | (with_reducible refine Sm.cn ?_) | (with_reducible refine Sm.op2 ?_) | (with_reducible refine Sm.argV ?_) | (with_reducible refine Sm.callE ?_) | (with_reducible refine Sm.cal1 ?_) | (with_reducible refine Sm.sq ?_) | (with_reducible refine Sm.asgS ?_) | (with_reducible refine Sm.asg ?_) | (with_reducible refine Sm.retS ?_) | (with_reducible refine Sm.ifS ?_) | (with_reducible refine Sm.argN ?_) | (with_reducible refine Sm.tst ?_) | (with_reducible refine Sm.tupE ?_) | (with_reducible refine Sm.lstE ?_) | (with_reducible refine Sm.isE ?_) | (with_reducible refine Sm.argR ?_) | (with_reducible refine Sm.tru ?_) | (with_reducible refine Sm.andT ?_) | (with_reducible refine Sm.orT ?_) | (with_reducible refine Sm.notT ?_) | (with_reducible refine Sm.andV ?_) | (with_reducible refine Sm.orV ?_) | (with_reducible refine Sm.notV ?_) | (with_reducible refine Sm.negV ?_) | (with_reducible refine Sm.ife ?_) | (with_reducible refine Sm.chn ?_) | (with_reducible refine Sm.callF ?_) | (with_reducible refine Sm.slE ?_) | (with_reducible refine Sm.ptN ?_) | (with_reducible refine Sm.ptS ?_) | (with_reducible refine Sm.revE ?_) | (with_reducible refine Sm.mth ?_) | (with_reducible refine Sm.ret ?_) | (with_reducible refine Sm.esc ?_) | (with_reducible refine Sm.itS ?_) | (with_reducible refine Sm.itR1 ?_) | (with_reducible refine Sm.itR2 ?_) | (with_reducible refine Sm.itE ?_) | (with_reducible refine Sm.itZ ?_) | (with_reducible refine Sm.lcE2 ?_) | (with_reducible refine Sm.pvF ?_) | (with_reducible refine Sm.pvT ?_) | (with_reducible refine Sm.asgO ?_) | (with_reducible refine Sm.exS ?_) | (with_reducible refine Sm.skip ?_) | (with_reducible refine Sm.par2 ?_) | (with_reducible refine Sm.par3 ?_) | (with_reducible refine Sm.forS ?_) | (with_reducible refine Sm.at_nx ?_) | (with_reducible refine Sm.at_rt ?_) | (with_reducible refine Sm.oP ?_) | (with_reducible refine Sm.oF ?_) | (with_reducible refine Sm.fP ?_) | (with_reducible refine Sm.fF ?_) | (with_reducible refine iteTT ?_) | (with_reducible refine iteT ?_) | (with_reducible refine iteF ?_) | ((with_reducible refine iteB1 ?_ ?_); (focus rfl)) | ((with_reducible refine iteB0 ?_ ?_); (focus rfl)))))
local macro_rules | `(tactic| walk_at "lw n") => `(tactic| (try dsimp only [ent, List.map, Nat.reduceAdd, Nat.reduceSub, List.length_cons, List.length_nil, List.replicate_succ, List.replicate_zero, List.cons_append, List.nil_append, putBack, setOwn, List.getElem?_cons_zero, List.getElem?_cons_succ, List.set_cons_zero, List.set_cons_succ, Sm.nf]))
local macro_rules | `(tactic| walk_at "lw v") => `(tactic| (try simp only [pb1, pb2, pb3, pb4]))
theorem tix0 {w : D} {r : List D} : gIx (.tuple (w :: r)) (.int 0) = some (.pure w) := at_tup (xs := w :: r) (by decide) (by rw [List.length_cons]; omega)
theorem tix1 {w y : D} {r : List D} : gIx (.tuple (w :: y :: r)) (.int 1) = some (.pure y) := at_tup (xs := w :: y :: r) (by decide) (by rw [List.length_cons, List.length_cons]; omega)
theorem tix2 {w y z : D} {r : List D} : gIx (.tuple (w :: y :: z :: r)) (.int 2) = some (.pure z) := at_tup (xs := w :: y :: z :: r) (by decide) (by rw [List.length_cons, List.length_cons, List.length_cons]; omega)
local macro_rules | `(tactic| walk_at "lw e") => `(tactic| (repeat (first | (with_reducible apply Exists.intro) | ((with_reducible refine And.intro ?_ ?_); · (first | (with_reducible exact pw_7) | (with_reducible exact pw_6) | (with_reducible exact pw_15) | (with_reducible exact pw_18) | (with_reducible exact pw_19) | (with_reducible exact pw_30) | (with_reducible exact pw_40) | (with_reducible exact tix0) | (with_reducible exact tix1) | (with_reducible exact tix2) | ((with_reducible apply mul_r); decide) | ((with_reducible apply mul_l); decide) | ((with_reducible apply div_i); decide) | ((with_reducible apply in_R); decide) | ((fail_if_success (with_reducible apply mul_r)); (fail_if_success (with_reducible apply div_i)); (fail_if_success (with_reducible apply dm_int)); (fail_if_success (with_reducible apply in_R)); rfl) | (exact Nat.le_of_ble_eq_true rfl) | (simp [refsOf]; done) | (exact ⟨rfl, rfl, by decide⟩) | (exact ⟨rfl, rfl, rfl⟩))) | ((with_reducible apply Sm.vrP); (focus rfl)) | ((with_reducible apply Sm.vrO); (focus rfl)) | (with_reducible refine Sm.cn ?_) | (with_reducible refine Sm.op2 ?_) | (with_reducible refine Sm.argV ?_) | (with_reducible refine Sm.callE ?_) | (with_reducible refine Sm.cal1 ?_) | (with_reducible refine Sm.sq ?_) | (with_reducible refine Sm.asgS ?_) | (with_reducible refine Sm.asg ?_) | (with_reducible refine Sm.retS ?_) | (with_reducible refine Sm.ifS ?_) | (with_reducible refine Sm.argN ?_) | (with_reducible refine Sm.tst ?_) | (with_reducible refine Sm.tupE ?_) | (with_reducible refine Sm.lstE ?_) | (with_reducible refine Sm.isE ?_) | (with_reducible refine Sm.argR ?_) | (with_reducible refine Sm.tru ?_) | (with_reducible refine Sm.andT ?_) | (with_reducible refine Sm.orT ?_) | (with_reducible refine Sm.notT ?_) | (with_reducible refine Sm.andV ?_) | (with_reducible refine Sm.orV ?_) | (with_reducible refine Sm.notV ?_) | (with_reducible refine Sm.negV ?_) | (with_reducible refine Sm.ife ?_) | (with_reducible refine Sm.chn ?_) | (with_reducible refine Sm.callF ?_) | (with_reducible refine Sm.slE ?_) | (with_reducible refine Sm.ptN ?_) | (with_reducible refine Sm.ptS ?_) | (with_reducible refine Sm.revE ?_) | (with_reducible refine Sm.mth ?_) | (with_reducible refine Sm.ret ?_) | (with_reducible refine Sm.esc ?_) | (with_reducible refine Sm.itS ?_) | (with_reducible refine Sm.itR1 ?_) | (with_reducible refine Sm.itR2 ?_) | (with_reducible refine Sm.itE ?_) | (with_reducible refine Sm.itZ ?_) | (with_reducible refine Sm.lcE2 ?_) | (with_reducible refine Sm.pvF ?_) | (with_reducible refine Sm.pvT ?_) | (with_reducible refine Sm.asgO ?_) | (with_reducible refine Sm.exS ?_) | (with_reducible refine Sm.skip ?_) | (with_reducible refine Sm.par2 ?_) | (with_reducible refine Sm.par3 ?_) | (with_reducible refine Sm.forS ?_) | (with_reducible refine Sm.at_nx ?_) | (with_reducible refine Sm.at_rt ?_) | (with_reducible refine Sm.oP ?_) | (with_reducible refine Sm.oF ?_) | (with_reducible refine Sm.fP ?_) | (with_reducible refine Sm.fF ?_) | (with_reducible refine iteTT ?_) | (with_reducible refine iteT ?_) | (with_reducible refine iteF ?_) | ((with_reducible refine iteB1 ?_ ?_); (focus rfl)) | ((with_reducible refine iteB0 ?_ ?_); (focus rfl)))))
local macro_rules | `(tactic| walk_at "lw n") => `(tactic| (try dsimp only [ent, List.map, Nat.reduceAdd, Nat.reduceSub, List.length_cons, List.length_nil, List.replicate_succ, List.replicate_zero, List.cons_append, List.nil_append, putBack, setOwn, List.getElem?_cons_zero, List.getElem?_cons_succ, List.set_cons_zero, List.set_cons_succ, Sm.nf]))
local macro_rules | `(tactic| walk_at "lw v") => `(tactic| (try simp only [pb1, pb2, pb3, pb4]))
theorem wpf_law {m : Fsem} {ss : List S} (h : wpf m ss TrueQ) : ∃ outs, m ss = some (.pure (.bool true), outs) := by
  obtain ⟨r, o, e, d, rfl, rfl⟩ := h
  exact ⟨o, e⟩
end Lw
namespace Lw
open PySem PySem.Spec PyProof.Rows L2
local macro_rules | `(tactic| walk_at "lw e") => `(tactic| (repeat (first | (with_reducible apply Exists.intro) | ((with_reducible refine And.intro ?_ ?_); · (first | (with_reducible exact pw_7) | (with_reducible exact pw_6) | (with_reducible exact pw_15) | (with_reducible exact pw_18) | (with_reducible exact pw_19) | (with_reducible exact pw_30) | (with_reducible exact pw_40) | (with_reducible exact tix0) | (with_reducible exact tix1) | (with_reducible exact tix2) | ((with_reducible apply mul_r); decide) | ((with_reducible apply mul_l); decide) | ((with_reducible apply div_i); decide) | ((with_reducible apply in_R); decide) | ((fail_if_success (with_reducible apply mul_r)); (fail_if_success (with_reducible apply div_i)); (fail_if_success (with_reducible apply dm_int)); (fail_if_success (with_reducible apply in_R)); rfl) | (exact Nat.le_of_ble_eq_true rfl) | (simp [refsOf]; done) | (exact ⟨rfl, rfl, by decide⟩) | (exact ⟨rfl, rfl, rfl⟩))) | ((with_reducible apply Sm.vrP); (focus rfl)) | ((with_reducible apply Sm.vrO); (focus rfl)) | (with_reducible refine Sm.cn ?_) | (with_reducible refine Sm.op2 ?_) | (with_reducible refine Sm.argV ?_) | (with_reducible refine Sm.callE ?_) | (with_reducible refine Sm.cal1 ?_) | (with_reducible refine Sm.sq ?_) | (with_reducible refine Sm.asgS ?_) | (with_reducible refine Sm.asg ?_) | (with_reducible refine Sm.retS ?_) | (with_reducible refine Sm.ifS ?_) | (with_reducible refine Sm.argN ?_) | (with_reducible refine Sm.tst ?_) | (with_reducible refine Sm.tupE ?_) | (with_reducible refine Sm.lstE ?_) | (with_reducible refine Sm.isE ?_) | (with_reducible refine Sm.argR ?_) | (with_reducible refine Sm.tru ?_) | (with_reducible refine Sm.andT ?_) | (with_reducible refine Sm.orT ?_) | (with_reducible refine Sm.notT ?_) | (with_reducible refine Sm.andV ?_) | (with_reducible refine Sm.orV ?_) | (with_reducible refine Sm.notV ?_) | (with_reducible refine Sm.negV ?_) | (with_reducible refine Sm.ife ?_) | (with_reducible refine Sm.chn ?_) | (with_reducible refine Sm.callF ?_) | (with_reducible refine Sm.slE ?_) | (with_reducible refine Sm.ptN ?_) | (with_reducible refine Sm.ptS ?_) | (with_reducible refine Sm.revE ?_) | (with_reducible refine Sm.mth ?_) | (with_reducible refine Sm.ret ?_) | (with_reducible refine Sm.esc ?_) | (with_reducible refine Sm.itS ?_) | (with_reducible refine Sm.itR1 ?_) | (with_reducible refine Sm.itR2 ?_) | (with_reducible refine Sm.itE ?_) | (with_reducible refine Sm.itZ ?_) | (with_reducible refine Sm.lcE2 ?_) | (with_reducible refine Sm.pvF ?_) | (with_reducible refine Sm.pvT ?_) | (with_reducible refine Sm.asgO ?_) | (with_reducible refine Sm.exS ?_) | (with_reducible refine Sm.skip ?_) | (with_reducible refine Sm.par2 ?_) | (with_reducible refine Sm.par3 ?_) | (with_reducible refine Sm.forS ?_) | (with_reducible refine Sm.at_nx ?_) | (with_reducible refine Sm.at_rt ?_) | (with_reducible refine Sm.oP ?_) | (with_reducible refine Sm.oF ?_) | (with_reducible refine Sm.fP ?_) | (with_reducible refine Sm.fF ?_) | (with_reducible refine iteTT ?_) | (with_reducible refine iteT ?_) | (with_reducible refine iteF ?_) | ((with_reducible refine iteB1 ?_ ?_); (focus rfl)) | ((with_reducible refine iteB0 ?_ ?_); (focus rfl)))))
local macro_rules | `(tactic| walk_at "lw n") => `(tactic| (try dsimp only [ent, List.map, Nat.reduceAdd, Nat.reduceSub, List.length_cons, List.length_nil, List.replicate_succ, List.replicate_zero, List.cons_append, List.nil_append, putBack, setOwn, List.getElem?_cons_zero, List.getElem?_cons_succ, List.set_cons_zero, List.set_cons_succ, Sm.nf]))
local macro_rules | `(tactic| walk_at "lw v") => `(tactic| (try simp only [pb1, pb2, pb3, pb4]))
theorem iteTT {A B : Prop} (h : A) : if True then A else B := by rw [if_pos trivial]; exact h
local macro_rules | `(tactic| walk_at "lw e") => `(tactic| (repeat (first | (with_reducible apply Exists.intro) | ((with_reducible refine And.intro ?_ ?_); · (first | (with_reducible exact pw_7) | (with_reducible exact pw_6) | (with_reducible exact pw_15) | (with_reducible exact pw_18) | (with_reducible exact pw_19) | (with_reducible exact pw_30) | (with_reducible exact pw_40) | (with_reducible exact tix0) | (with_reducible exact tix1) | (with_reducible exact tix2) | ((with_reducible apply mul_r); decide) | ((with_reducible apply mul_l); decide) | ((with_reducible apply div_i); decide) | ((with_reducible apply in_R); decide) | ((fail_if_success (with_reducible apply mul_r)); (fail_if_success (with_reducible apply div_i)); (fail_if_success (with_reducible apply dm_int)); (fail_if_success (with_reducible apply in_R)); rfl) | (exact Nat.le_of_ble_eq_true rfl) | (simp [refsOf]; done) | (exact ⟨rfl, rfl, by decide⟩) | (exact ⟨rfl, rfl, rfl⟩))) | ((with_reducible apply Sm.vrP); (focus rfl)) | ((with_reducible apply Sm.vrO); (focus rfl)) | (with_reducible refine Sm.cn ?_) | (with_reducible refine Sm.op2 ?_) | (with_reducible refine Sm.argV ?_) | (with_reducible refine Sm.callE ?_) | (with_reducible refine Sm.cal1 ?_) | (with_reducible refine Sm.sq ?_) | (with_reducible refine Sm.asgS ?_) | (with_reducible refine Sm.asg ?_) | (with_reducible refine Sm.retS ?_) | (with_reducible refine Sm.ifS ?_) | (with_reducible refine Sm.argN ?_) | (with_reducible refine Sm.tst ?_) | (with_reducible refine Sm.tupE ?_) | (with_reducible refine Sm.lstE ?_) | (with_reducible refine Sm.isE ?_) | (with_reducible refine Sm.argR ?_) | (with_reducible refine Sm.tru ?_) | (with_reducible refine Sm.andT ?_) | (with_reducible refine Sm.orT ?_) | (with_reducible refine Sm.notT ?_) | (with_reducible refine Sm.andV ?_) | (with_reducible refine Sm.orV ?_) | (with_reducible refine Sm.notV ?_) | (with_reducible refine Sm.negV ?_) | (with_reducible refine Sm.ife ?_) | (with_reducible refine Sm.chn ?_) | (with_reducible refine Sm.callF ?_) | (with_reducible refine Sm.slE ?_) | (with_reducible refine Sm.ptN ?_) | (with_reducible refine Sm.ptS ?_) | (with_reducible refine Sm.revE ?_) | (with_reducible refine Sm.mth ?_) | (with_reducible refine Sm.ret ?_) | (with_reducible refine Sm.esc ?_) | (with_reducible refine Sm.itS ?_) | (with_reducible refine Sm.itR1 ?_) | (with_reducible refine Sm.itR2 ?_) | (with_reducible refine Sm.itE ?_) | (with_reducible refine Sm.itZ ?_) | (with_reducible refine Sm.lcE2 ?_) | (with_reducible refine Sm.pvF ?_) | (with_reducible refine Sm.pvT ?_) | (with_reducible refine Sm.asgO ?_) | (with_reducible refine Sm.exS ?_) | (with_reducible refine Sm.skip ?_) | (with_reducible refine Sm.par2 ?_) | (with_reducible refine Sm.par3 ?_) | (with_reducible refine Sm.forS ?_) | (with_reducible refine Sm.at_nx ?_) | (with_reducible refine Sm.at_rt ?_) | (with_reducible refine Sm.oP ?_) | (with_reducible refine Sm.oF ?_) | (with_reducible refine Sm.fP ?_) | (with_reducible refine Sm.fF ?_) | (with_reducible refine iteTT ?_) | (with_reducible refine iteT ?_) | (with_reducible refine iteF ?_) | ((with_reducible refine iteB1 ?_ ?_); (focus rfl)) | ((with_reducible refine iteB0 ?_ ?_); (focus rfl)))))
local macro_rules | `(tactic| walk_at "lw n") => `(tactic| (try dsimp only [ent, List.map, Nat.reduceAdd, Nat.reduceSub, List.length_cons, List.length_nil, List.replicate_succ, List.replicate_zero, List.cons_append, List.nil_append, putBack, setOwn, List.getElem?_cons_zero, List.getElem?_cons_succ, List.set_cons_zero, List.set_cons_succ, Sm.nf]))
local macro_rules | `(tactic| walk_at "lw v") => `(tactic| (try simp only [pb1, pb2, pb3, pb4]))
theorem w_intk {k : Nat} {i : Int} (h : i.natAbs < 2 ^ k) : (PyData.int i).weight ≤ k := by
  show (if i == 0 then 0 else i.natAbs.log2 + 1) ≤ k
  split
  · omega
  · rename_i h0
    have h0 : i.natAbs ≠ 0 := by
      intro z
      exact h0 (by simp [Int.natAbs_eq_zero.1 z])
    have := (Nat.log2_lt (k := k) h0).2 h
    omega
def DatQ (P : D → Prop) (r : R) (_ : List S) : Prop := ∃ d, (r = .pure d ∨ ∃ xs, r = .fresh xs ∧ d = .list xs) ∧ P d
theorem DatQ.ref {P : D → Prop} {r : R} {o : List S} (h : DatQ P r o) : ∀ i, r ≠ .ref i := by
  obtain ⟨d, rfl | ⟨xs, rfl, rfl⟩, -⟩ := h <;> (intro i z; cases z)
end Lw
namespace Lw
open PySem PySem.Spec PyProof.Rows L2
local macro_rules | `(tactic| walk_at "lw e") => `(tactic| (repeat (first | (with_reducible apply Exists.intro) | ((with_reducible refine And.intro ?_ ?_); · (first | (with_reducible exact pw_7) | (with_reducible exact pw_6) | (with_reducible exact pw_15) | (with_reducible exact pw_18) | (with_reducible exact pw_19) | (with_reducible exact pw_30) | (with_reducible exact pw_40) | (with_reducible exact tix0) | (with_reducible exact tix1) | (with_reducible exact tix2) | ((with_reducible apply mul_r); decide) | ((with_reducible apply mul_l); decide) | ((with_reducible apply div_i); decide) | ((with_reducible apply in_R); decide) | ((fail_if_success (with_reducible apply mul_r)); (fail_if_success (with_reducible apply div_i)); (fail_if_success (with_reducible apply dm_int)); (fail_if_success (with_reducible apply in_R)); rfl) | (exact Nat.le_of_ble_eq_true rfl) | (simp [refsOf]; done) | (exact ⟨rfl, rfl, by decide⟩) | (exact ⟨rfl, rfl, rfl⟩) | ((with_reducible apply tgN_o); (focus rfl); (focus (first | assumption | trivial))))) | ((with_reducible apply Sm.vrP); (focus rfl)) | ((with_reducible apply Sm.vrO); (focus rfl)) | (with_reducible refine Sm.cn ?_) | (with_reducible refine Sm.op2 ?_) | (with_reducible refine Sm.argV ?_) | (with_reducible refine Sm.callE ?_) | (with_reducible refine Sm.cal1 ?_) | (with_reducible refine Sm.sq ?_) | (with_reducible refine Sm.asgS ?_) | (with_reducible refine Sm.asg ?_) | (with_reducible refine Sm.retS ?_) | (with_reducible refine Sm.ifS ?_) | (with_reducible refine Sm.argN ?_) | (with_reducible refine Sm.tst ?_) | (with_reducible refine Sm.tupE ?_) | (with_reducible refine Sm.lstE ?_) | (with_reducible refine Sm.isE ?_) | (with_reducible refine Sm.argR ?_) | (with_reducible refine Sm.tru ?_) | (with_reducible refine Sm.andT ?_) | (with_reducible refine Sm.orT ?_) | (with_reducible refine Sm.notT ?_) | (with_reducible refine Sm.andV ?_) | (with_reducible refine Sm.orV ?_) | (with_reducible refine Sm.notV ?_) | (with_reducible refine Sm.negV ?_) | (with_reducible refine Sm.ife ?_) | (with_reducible refine Sm.chn ?_) | (with_reducible refine Sm.callF ?_) | (with_reducible refine Sm.slE ?_) | (with_reducible refine Sm.ptN ?_) | (with_reducible refine Sm.ptS ?_) | (with_reducible refine Sm.revE ?_) | (with_reducible refine Sm.mth ?_) | (with_reducible refine Sm.ret ?_) | (with_reducible refine Sm.esc ?_) | (with_reducible refine Sm.itS ?_) | (with_reducible refine Sm.itR1 ?_) | (with_reducible refine Sm.itR2 ?_) | (with_reducible refine Sm.itE ?_) | (with_reducible refine Sm.itZ ?_) | (with_reducible refine Sm.lcE2 ?_) | (with_reducible refine Sm.pvF ?_) | (with_reducible refine Sm.pvT ?_) | (with_reducible refine Sm.asgO ?_) | (with_reducible refine Sm.exS ?_) | (with_reducible refine Sm.skip ?_) | (with_reducible refine Sm.par2 ?_) | (with_reducible refine Sm.par3 ?_) | (with_reducible refine Sm.forS ?_) | (with_reducible refine Sm.at_nx ?_) | (with_reducible refine Sm.at_rt ?_) | (with_reducible refine Sm.oP ?_) | (with_reducible refine Sm.oF ?_) | (with_reducible refine Sm.fP ?_) | (with_reducible refine Sm.fF ?_) | (with_reducible refine Sm.itZ2 ?_) | (with_reducible refine Sm.itZ3 ?_) | (with_reducible refine Sm.itEn ?_) | (with_reducible refine Sm.argX ?_) | (with_reducible refine Sm.repE ?_) | ((with_reducible apply Sm.augI); (focus rfl)) | ((with_reducible refine Sm.dicE ?_ ?_); (focus decide)) | (with_reducible refine iteTT ?_) | (with_reducible refine iteT ?_) | (with_reducible refine iteF ?_) | ((with_reducible refine iteB1 ?_ ?_); (focus rfl)) | ((with_reducible refine iteB0 ?_ ?_); (focus rfl)))))
local macro_rules | `(tactic| walk_at "lw n") => `(tactic| (try dsimp only [ent, List.map, Nat.reduceAdd, Nat.reduceSub, List.length_cons, List.length_nil, List.replicate_succ, List.replicate_zero, List.cons_append, List.nil_append, putBack, setOwn, List.getElem?_cons_zero, List.getElem?_cons_succ, List.set_cons_zero, List.set_cons_succ, Sm.nf]))
local macro_rules | `(tactic| walk_at "lw v") => `(tactic| (try simp only [pb1, pb2, pb3, pb4]))
/-- a law that is right over two boxes at least, one for each folded cell -/
theorem law_ok2 {right : Fsem} {k : Nat} (h1 : 1 ≤ k) (h2 : k ≤ 60) (hr : ∀ ds, Box 1000000 ds → wpf right [.own true ds] TrueQ) (ns : List Int) (hl : ns.length ≤ 63) : wpf (runFn (sq (asg (callE m_l_folded (argV (vr 0) (argV (cn (.int k)) argN))) (tgN 1))
  (retS (cal1 gAll (lcE (itR1 (op2 (g2I fun i j => if j > i then j else i) (cn (.int 2)) (cal1 gLen (vr 1)))) [2] (tgN 2) (ret true) (callF right (callE m_l_box (argV (vr 1) (argV (vr 2) argN)))))))) 3) [.pure (ilist ns)] TrueQ := by
  refine Sm.run ?_
  walk_at "lw n"
  walk_at "lw e"
  refine Sm.fmono (folded_ok hl h1 h2) fun r o h => ?_
  obtain ⟨cs, rfl, hc⟩ := h
  walk_at "lw v"
  refine ⟨nfr, _, _, _, rfl, rfl, ?_⟩
  walk_at "lw n"
  walk_at "lw e"
  rw [List.length_map]
  obtain ⟨m, hm, hm2⟩ : ∃ m : Nat, (fun i j : Int => if j > i then j else i) 2 (cs.length : Int) = m ∧ m ≤ 62 := by
    by_cases q : (cs.length : Int) > 2
    · exact ⟨cs.length, if_pos q, by omega⟩
    · exact ⟨2, if_neg q, by omega⟩
  rw [hm]
  refine ⟨in_R (by omega), ?_⟩
  walk_at "lw e"
  have hsl : sizeLine = 16777216 := rfl
  refine Sm.lcPure (ds := rngD 0 ((m : Int)).toNat) (fun _ => .bool true) (by rw [rngD_len]; omega) ?_ ?_
  · intro d hd
    obtain ⟨i, hi⟩ := List.mem_iff_getElem?.1 hd
    obtain ⟨hi, rfl⟩ := rng_at hi
    refine ⟨_, tgN_o rfl trivial, ?_⟩
    walk_at "lw e"
    refine Sm.fmono (box_ok (by omega)) fun r o h => ?_
    obtain ⟨ds, rfl, hb⟩ := h
    refine ⟨nfr, ?_⟩
    walk_at "lw v"
    walk_at "lw e"
    refine Sm.fmono (hr ds hb) fun r o h => ?_
    obtain ⟨d, rfl, rfl⟩ := h
    refine ⟨nref, ?_⟩
    walk_at "lw e"
    rfl
  · refine ⟨_, _, rfl, all_mk (p := fun _ => true), ?_⟩
    walk_at "lw e"
    refine ⟨_, rfl, ?_⟩
    rw [List.all_eq_true.2 (fun _ _ => rfl)]
end Lw
namespace Lw
open PySem PySem.Spec PyProof.Rows L2
local macro_rules | `(tactic| walk_at "lw e") => `(tactic| (repeat (first | (with_reducible apply Exists.intro) | ((with_reducible refine And.intro ?_ ?_); · (first | (with_reducible exact pw_7) | (with_reducible exact pw_6) | (with_reducible exact pw_15) | (with_reducible exact pw_18) | (with_reducible exact pw_19) | (with_reducible exact pw_30) | (with_reducible exact pw_40) | (with_reducible exact tix0) | (with_reducible exact tix1) | (with_reducible exact tix2) | ((with_reducible apply mul_r); decide) | ((with_reducible apply mul_l); decide) | ((with_reducible apply div_i); decide) | ((with_reducible apply in_R); decide) | ((fail_if_success (with_reducible apply mul_r)); (fail_if_success (with_reducible apply div_i)); (fail_if_success (with_reducible apply dm_int)); (fail_if_success (with_reducible apply in_R)); rfl) | (exact Nat.le_of_ble_eq_true rfl) | (simp [refsOf]; done) | (exact ⟨rfl, rfl, by decide⟩) | (exact ⟨rfl, rfl, rfl⟩) | ((with_reducible apply tgN_o); (focus rfl); (focus (first | assumption | trivial))))) | ((with_reducible apply Sm.vrP); (focus rfl)) | ((with_reducible apply Sm.vrO); (focus rfl)) | (with_reducible refine Sm.cn ?_) | (with_reducible refine Sm.op2 ?_) | (with_reducible refine Sm.argV ?_) | (with_reducible refine Sm.callE ?_) | (with_reducible refine Sm.cal1 ?_) | (with_reducible refine Sm.sq ?_) | (with_reducible refine Sm.asgS ?_) | (with_reducible refine Sm.asg ?_) | (with_reducible refine Sm.retS ?_) | (with_reducible refine Sm.ifS ?_) | (with_reducible refine Sm.argN ?_) | (with_reducible refine Sm.tst ?_) | (with_reducible refine Sm.tupE ?_) | (with_reducible refine Sm.lstE ?_) | (with_reducible refine Sm.isE ?_) | (with_reducible refine Sm.argR ?_) | (with_reducible refine Sm.tru ?_) | (with_reducible refine Sm.andT ?_) | (with_reducible refine Sm.orT ?_) | (with_reducible refine Sm.notT ?_) | (with_reducible refine Sm.andV ?_) | (with_reducible refine Sm.orV ?_) | (with_reducible refine Sm.notV ?_) | (with_reducible refine Sm.negV ?_) | (with_reducible refine Sm.ife ?_) | (with_reducible refine Sm.chn ?_) | (with_reducible refine Sm.callF ?_) | (with_reducible refine Sm.slE ?_) | (with_reducible refine Sm.ptN ?_) | (with_reducible refine Sm.ptS ?_) | (with_reducible refine Sm.revE ?_) | (with_reducible refine Sm.mth ?_) | (with_reducible refine Sm.ret ?_) | (with_reducible refine Sm.esc ?_) | (with_reducible refine Sm.itS ?_) | (with_reducible refine Sm.itR1 ?_) | (with_reducible refine Sm.itR2 ?_) | (with_reducible refine Sm.itE ?_) | (with_reducible refine Sm.itZ ?_) | (with_reducible refine Sm.lcE2 ?_) | (with_reducible refine Sm.pvF ?_) | (with_reducible refine Sm.pvT ?_) | (with_reducible refine Sm.asgO ?_) | (with_reducible refine Sm.exS ?_) | (with_reducible refine Sm.skip ?_) | (with_reducible refine Sm.par2 ?_) | (with_reducible refine Sm.par3 ?_) | (with_reducible refine Sm.forS ?_) | (with_reducible refine Sm.at_nx ?_) | (with_reducible refine Sm.at_rt ?_) | (with_reducible refine Sm.oP ?_) | (with_reducible refine Sm.oF ?_) | (with_reducible refine Sm.fP ?_) | (with_reducible refine Sm.fF ?_) | (with_reducible refine Sm.itZ2 ?_) | (with_reducible refine Sm.itZ3 ?_) | (with_reducible refine Sm.itEn ?_) | (with_reducible refine Sm.argX ?_) | (with_reducible refine Sm.repE ?_) | ((with_reducible apply Sm.augI); (focus rfl)) | ((with_reducible refine Sm.dicE ?_ ?_); (focus decide)) | (with_reducible refine iteTT ?_) | (with_reducible refine iteT ?_) | (with_reducible refine iteF ?_) | ((with_reducible refine iteB1 ?_ ?_); (focus rfl)) | ((with_reducible refine iteB0 ?_ ?_); (focus rfl)))))
local macro_rules | `(tactic| walk_at "lw n") => `(tactic| (try dsimp only [ent, List.map, Nat.reduceAdd, Nat.reduceSub, List.length_cons, List.length_nil, List.replicate_succ, List.replicate_zero, List.cons_append, List.nil_append, putBack, setOwn, List.getElem?_cons_zero, List.getElem?_cons_succ, List.set_cons_zero, List.set_cons_succ, Sm.nf]))
local macro_rules | `(tactic| walk_at "lw v") => `(tactic| (try simp only [pb1, pb2, pb3, pb4]))
/-! ### tuples of numbers -/
def it (ns : List Int) : D := .tuple (ns.map PyData.int)
def il (ns : List Int) : D := .list (ns.map PyData.int)
/-- a list or tuple of these numbers -/
def Seq (t : D) (ns : List Int) : Prop := t = il ns ∨ t = it ns
theorem Seq.items {t : D} {ns : List Int} (h : Seq t ns) : items t = some (ns.map PyData.int) := by rcases h with rfl | rfl <;> rfl
theorem ints_mk : ∀ ns : List Int, intsD (ns.map PyData.int) = some ns
  | [] => rfl
  | n :: ns => by rw [List.map_cons, intsD, ints_mk ns]
theorem sumK_ok {t : D} {ns : List Int} (h : Seq t ns) : gSumK t = some (.pure (.int ns.sum)) := by
  unfold gSumK
  rw [h.items]
  simp only [ints_mk]
theorem minK_ok {t : D} {n : Int} {ns : List Int} (h : Seq t (n :: ns)) : gMinK t = some (.pure (.int (ns.foldl min n))) := by
  unfold gMinK
  rw [h.items]
  simp only [ints_mk]
theorem rev_any {t : D} {ds : List D} (h : items t = some ds) : ∃ r d, gRev t = some r ∧ (∀ ς, toD r ς = some (d, ς)) ∧ items d = some ds.reverse := by
  cases t with
  | list xs => cases h; exact ⟨_, .list ds.reverse, rfl, fun ς => rfl, rfl⟩
  | tuple xs => cases h; exact ⟨_, .tuple ds.reverse, rfl, fun ς => rfl, rfl⟩
  | _ => cases h
theorem cut_from (ds : List D) (i : Nat) : cutD ds (some (i : Int)) none = ds.drop i := by
  unfold cutD
  rw [show HT.sIx ds.length 0 (some (i : Int)) = min i ds.length from HT.sIx_nat _ _ i, show HT.sIx ds.length ds.length none = ds.length from rfl]
  by_cases hi : i ≤ ds.length
  · rw [Nat.min_eq_left hi, List.take_of_length_le (by rw [List.length_drop]; omega)]
  · rw [Nat.min_eq_right (by omega), List.drop_length, List.drop_eq_nil_of_le (by omega), List.take_nil]
/-- t[i:] -/
theorem sl_from {t : D} {ds : List D} (h : items t = some ds) (i : Nat) : ∃ r d, gSl t (some (i : Int)) none = some r ∧ (∀ ς, toD r ς = some (d, ς)) ∧ (∀ ς, rdD r ς = some d) ∧ items d = some (ds.drop i) ∧ ((∃ xs, t = .list xs) → d = .list (ds.drop i)) ∧ ((∃ xs, t = .tuple xs) → d = .tuple (ds.drop i)) := by
  have key : cutD ds (some (i : Int)) none = ds.drop i := by
    unfold cutD
    rw [show HT.sIx ds.length 0 (some (i : Int)) = min i ds.length from HT.sIx_nat _ _ i, show HT.sIx ds.length ds.length none = ds.length from rfl]
    by_cases hi : i ≤ ds.length
    · rw [Nat.min_eq_left hi, List.take_of_length_le (by rw [List.length_drop]; omega)]
    · rw [Nat.min_eq_right (by omega), List.drop_length, List.drop_eq_nil_of_le (by omega), List.take_nil]
  cases t with
  | list xs => cases h; exact ⟨.fresh (ds.drop i), .list (ds.drop i), by rw [← key]; rfl, fun ς => rfl, fun ς => rfl, rfl, fun _ => rfl, fun ⟨_, z⟩ => by cases z⟩
  | tuple xs => cases h; exact ⟨.pure (.tuple (ds.drop i)), .tuple (ds.drop i), by rw [← key]; rfl, fun ς => rfl, fun ς => rfl, rfl, fun ⟨_, z⟩ => (by cases z), fun _ => rfl⟩
  | _ => cases h
theorem rng_map {α : Type} (f : D → α) : ∀ (n : Nat) (lo : Int), (rngD lo n).map f = (List.range n).map fun (i : Nat) => f (.int (lo + i))
  | 0, _ => rfl
  | n + 1, lo => by
    rw [rngD, List.map_cons, rng_map f n (lo + 1), List.range_succ_eq_map, List.map_cons, List.map_map]
    congr 1
    · simp
    · apply List.map_congr_left
      intro i _
      show f _ = f _
      congr 2
      push_cast
      omega
theorem zip_ints : ∀ (xs ys : List Int), zipD (xs.map PyData.int) (ys.map PyData.int) = (List.zip xs ys).map fun p => PyData.tuple [.int p.1, .int p.2]
  | [], ys => by simp [zipD]
  | x :: xs, [] => by simp [zipD]
  | x :: xs, y :: ys => by rw [List.map_cons, List.map_cons, zipD, zip_ints xs ys, List.zip_cons_cons, List.map_cons]
theorem catL_ok {x y : List D} (h : x.length + y.length ≤ 1000000) : gAddA (.list x) (.list y) = some (.fresh (x ++ y)) := by
  have hs : sizeLine = 16777216 := rfl
  have e : gCatL (.list x) (.list y) = some (.fresh (x ++ y)) := if_pos (by omega)
  unfold gAddA orG
  simp only [gI0, gStr, e]
theorem catT_ok {x y : List D} (h : x.length + y.length ≤ 1000000) : gAddA (.tuple x) (.tuple y) = some (.pure (.tuple (x ++ y))) := by
  have hs : sizeLine = 16777216 := rfl
  have e : gCatT (.tuple x) (.tuple y) = some (.pure (.tuple (x ++ y))) := if_pos (by omega)
  unfold gAddA orG
  simp only [gI0, gStr, gCatL, e]
/-! ### things that are fine -/
def Fine (B e w : Nat) (d : D) : Prop := fnb B e d = true ∧ d.weight ≤ w
theorem Fine.int {B e w : Nat} {i : Int} (h : i.natAbs ≤ B) (hw : B < 2 ^ w) : Fine B e w (.int i) := ⟨lfb_fnb (decide_eq_true h), w_intk (Nat.lt_of_le_of_lt h hw)⟩
theorem Fine.bool {B e : Nat} {b : Bool} : Fine B e 1 (.bool b) := ⟨lfb_fnb rfl, by cases b <;> decide⟩
theorem Fine.mono {B e w w' : Nat} {d : D} (h : Fine B e w d) (hw : w ≤ w') : Fine B e w' d := ⟨h.1, Nat.le_trans h.2 hw⟩
theorem w_all_le {k : Nat} {xs : List D} (h : ∀ x ∈ xs, x.weight ≤ k) : PyData.weightAll xs ≤ (k + 1) * xs.length := by
  induction xs with
  | nil => exact Nat.zero_le _
  | cons x xs ih =>
    have h1 := h x (by simp)
    have h2 := ih fun y hy => h y (by simp [hy])
    rw [PyData.weightAll, List.length_cons, Nat.mul_add]
    omega
theorem Fine.tup {B e w n : Nat} {xs : List D} (h : ∀ x ∈ xs, Fine B e w x) (hn : xs.length ≤ n) : Fine B (e + 1) ((w + 1) * n) (.tuple xs) :=
  ⟨List.all_eq_true.2 fun x m => (h x m).1, Nat.le_trans (w_all_le fun x m => (h x m).2) (Nat.mul_le_mul_left _ hn)⟩
theorem Fine.lst {B e w n : Nat} {xs : List D} (h : ∀ x ∈ xs, Fine B e w x) (hn : xs.length ≤ n) : Fine B (e + 1) ((w + 1) * n) (.list xs) :=
  ⟨List.all_eq_true.2 fun x m => (h x m).1, Nat.le_trans (w_all_le fun x m => (h x m).2) (Nat.mul_le_mul_left _ hn)⟩
theorem Fine.it {B e w n : Nat} {ns : List Int} (h : ∀ i ∈ ns, i.natAbs ≤ B) (hw : B < 2 ^ w) (hn : ns.length ≤ n) : Fine B (e + 1) ((w + 1) * n) (it ns) :=
  Fine.tup (fun x m => by obtain ⟨i, hi, rfl⟩ := List.mem_map.1 m; exact Fine.int (h i hi) hw) (by rw [List.length_map]; exact hn)
end Lw
namespace Lw
open PySem PySem.Spec PyProof.Rows L2
local macro_rules | `(tactic| walk_at "lw e") => `(tactic| (repeat (first | (with_reducible apply Exists.intro) | ((with_reducible refine And.intro ?_ ?_); · (first | (with_reducible exact pw_7) | (with_reducible exact pw_6) | (with_reducible exact pw_15) | (with_reducible exact pw_18) | (with_reducible exact pw_19) | (with_reducible exact pw_30) | (with_reducible exact pw_40) | (with_reducible exact tix0) | (with_reducible exact tix1) | (with_reducible exact tix2) | ((with_reducible apply mul_r); decide) | ((with_reducible apply mul_l); decide) | ((with_reducible apply div_i); decide) | ((with_reducible apply in_R); decide) | ((fail_if_success (with_reducible apply mul_r)); (fail_if_success (with_reducible apply div_i)); (fail_if_success (with_reducible apply dm_int)); (fail_if_success (with_reducible apply in_R)); rfl) | (exact Nat.le_of_ble_eq_true rfl) | (simp [refsOf]; done) | (exact ⟨rfl, rfl, by decide⟩) | (exact ⟨rfl, rfl, rfl⟩) | ((with_reducible apply tgN_o); (focus rfl); (focus (first | assumption | trivial))))) | ((with_reducible apply Sm.vrP); (focus rfl)) | ((with_reducible apply Sm.vrO); (focus rfl)) | (with_reducible refine Sm.cn ?_) | (with_reducible refine Sm.op2 ?_) | (with_reducible refine Sm.argV ?_) | (with_reducible refine Sm.callE ?_) | (with_reducible refine Sm.cal1 ?_) | (with_reducible refine Sm.sq ?_) | (with_reducible refine Sm.asgS ?_) | (with_reducible refine Sm.asg ?_) | (with_reducible refine Sm.retS ?_) | (with_reducible refine Sm.ifS ?_) | (with_reducible refine Sm.argN ?_) | (with_reducible refine Sm.tst ?_) | (with_reducible refine Sm.tupE ?_) | (with_reducible refine Sm.lstE ?_) | (with_reducible refine Sm.isE ?_) | (with_reducible refine Sm.argR ?_) | (with_reducible refine Sm.tru ?_) | (with_reducible refine Sm.andT ?_) | (with_reducible refine Sm.orT ?_) | (with_reducible refine Sm.notT ?_) | (with_reducible refine Sm.andV ?_) | (with_reducible refine Sm.orV ?_) | (with_reducible refine Sm.notV ?_) | (with_reducible refine Sm.negV ?_) | (with_reducible refine Sm.ife ?_) | (with_reducible refine Sm.chn ?_) | (with_reducible refine Sm.callF ?_) | (with_reducible refine Sm.slE ?_) | (with_reducible refine Sm.ptN ?_) | (with_reducible refine Sm.ptS ?_) | (with_reducible refine Sm.revE ?_) | (with_reducible refine Sm.mth ?_) | (with_reducible refine Sm.ret ?_) | (with_reducible refine Sm.esc ?_) | (with_reducible refine Sm.itS ?_) | (with_reducible refine Sm.itR1 ?_) | (with_reducible refine Sm.itR2 ?_) | (with_reducible refine Sm.itE ?_) | (with_reducible refine Sm.itZ ?_) | (with_reducible refine Sm.lcE2 ?_) | (with_reducible refine Sm.pvF ?_) | (with_reducible refine Sm.pvT ?_) | (with_reducible refine Sm.asgO ?_) | (with_reducible refine Sm.exS ?_) | (with_reducible refine Sm.skip ?_) | (with_reducible refine Sm.par2 ?_) | (with_reducible refine Sm.par3 ?_) | (with_reducible refine Sm.forS ?_) | (with_reducible refine Sm.at_nx ?_) | (with_reducible refine Sm.at_rt ?_) | (with_reducible refine Sm.oP ?_) | (with_reducible refine Sm.oF ?_) | (with_reducible refine Sm.fP ?_) | (with_reducible refine Sm.fF ?_) | (with_reducible refine Sm.itZ2 ?_) | (with_reducible refine Sm.itZ3 ?_) | (with_reducible refine Sm.itEn ?_) | (with_reducible refine Sm.argX ?_) | (with_reducible refine Sm.repE ?_) | ((with_reducible apply Sm.augI); (focus rfl)) | ((with_reducible refine Sm.dicE ?_ ?_); (focus decide)) | (with_reducible refine iteTT ?_) | (with_reducible refine iteT ?_) | (with_reducible refine iteF ?_) | ((with_reducible refine iteB1 ?_ ?_); (focus rfl)) | ((with_reducible refine iteB0 ?_ ?_); (focus rfl)))))
local macro_rules | `(tactic| walk_at "lw n") => `(tactic| (try dsimp only [ent, List.map, Nat.reduceAdd, Nat.reduceSub, List.length_cons, List.length_nil, List.replicate_succ, List.replicate_zero, List.cons_append, List.nil_append, putBack, setOwn, List.getElem?_cons_zero, List.getElem?_cons_succ, List.set_cons_zero, List.set_cons_succ, Sm.nf]))
local macro_rules | `(tactic| walk_at "lw v") => `(tactic| (try simp only [pb1, pb2, pb3, pb4]))
/-! ### stairs, deeds, what they add -/
def pd (p : Int × Int × Int) : D := .tuple [.int p.1, .int p.2.1, .int p.2.2]
def Stair (st : D) (ps : List (Int × Int × Int)) : Prop := st = .tuple (ps.map pd) ∨ st = .list (ps.map pd)
theorem Stair.items {st : D} {ps : List (Int × Int × Int)} (h : Stair st ps) : items st = some (ps.map pd) := by rcases h with rfl | rfl <;> rfl
theorem Stair.len {st : D} {ps : List (Int × Int × Int)} (h : Stair st ps) : gLen st = some (.pure (.int ps.length)) := by
  rcases h with rfl | rfl
  · show some (R.pure (.int ((ps.map pd).length : Nat))) = _; rw [List.length_map]
  · show some (R.pure (.int ((ps.map pd).length : Nat))) = _; rw [List.length_map]
def pAt (ps : List (Int × Int × Int)) (i : Nat) : Int × Int × Int := ps.getD i (0, 0, 0)
theorem Stair.ix {st : D} {ps : List (Int × Int × Int)} (h : Stair st ps) {i : Int} (h0 : 0 ≤ i) (h1 : i < ps.length) : gIx st (.int i) = some (.pure (pd (pAt ps i.toNat))) := by
  have hlt : i.toNat < ps.length := by omega
  have key : (ps.map pd).getD i.toNat .none = pd (pAt ps i.toNat) := by
    unfold pAt
    rw [List.getD_eq_getElem?_getD, List.getElem?_map, List.getElem?_eq_getElem hlt, List.getD_eq_getElem?_getD, List.getElem?_eq_getElem hlt]
    rfl
  rcases h with rfl | rfl
  · rw [at_tup h0 (by rw [List.length_map]; exact h1), key]
  · rw [at_list h0 (by rw [List.length_map]; exact h1), key]
inductive Dd where
  | fill (l : Nat)
  | empty (l : Nat)
  | raise (l : Nat) (m : Int)
  | lower (l : Nat) (m : Int)
def Dd.at : Dd → Nat
  | .fill l => l
  | .empty l => l
  | .raise l _ => l
  | .lower l _ => l
def dd : Dd → D
  | .fill l => .tuple [.str "fill", .int l]
  | .empty l => .tuple [.str "empty", .int l]
  | .raise l m => .tuple [.str "raise", .int l, .int m]
  | .lower l m => .tuple [.str "lower", .int l, .int m]
def sz (ps : List (Int × Int × Int)) (l : Nat) : Int := (pAt ps (l - 1)).2.2
def chg (ps : List (Int × Int × Int)) : Dd → Int × Int
  | .fill l => (l, -sz ps l)
  | .empty l => ((l : Int) - 1, sz ps l)
  | .raise l m => (l, m)
  | .lower l m => (l, -m)
/-- the deed is of the stair -/
def Dd.On (n : Nat) (d : Dd) : Prop := 1 ≤ d.at ∧ d.at ≤ n
/-- what deeds add to pound j and all above it -/
def addTo (ps : List (Int × Int × Int)) (j : Int) (d : Dd) : Int := if (chg ps d).1 ≥ j then (chg ps d).2 else 0
def sumAt (ps : List (Int × Int × Int)) (ds : List Dd) (j : Int) : Int := (ds.map (addTo ps j)).sum
def sums (ps : List (Int × Int × Int)) (ds : List Dd) : List Int := (List.range ps.length).map fun (i : Nat) => sumAt ps ds (1 + (i : Int))
theorem sumAt_app (ps : List (Int × Int × Int)) (a b : List Dd) (j : Int) : sumAt ps (a ++ b) j = sumAt ps a j + sumAt ps b j := by
  unfold sumAt; rw [List.map_append, List.sum_append]
theorem Sm.lcFil {ς : En} {vs : List Nat} {tg : Tg} {tt : M Bool} {fe : M R} {ds : List D} {Q : List D → En → Prop} (p : D → Bool) (f : D → D) (hlen : ds.length ≤ sizeLine)
    (hs : ∀ d ∈ ds, ∃ ς1, tg d ς = some ς1 ∧ wp tt ς1 fun b ς2 => b = p d ∧ freeAll ς2 vs = true ∧ wipeE ς2 vs = ς ∧ (p d = true → wp fe ς2 fun r ς3 => ∃ ς4, toD r ς3 = some (f d, ς4) ∧ freeAll ς4 vs = true ∧ wipeE ς4 vs = ς))
    (hd : Q ((ds.filter p).map f) ς) : lcQ vs tg tt fe ds ς Q := by
  have main : ∀ (es : List D) (acc : List D), (∀ d ∈ es, d ∈ ds) → acc.length + es.length ≤ sizeLine → lcLoop vs tg tt fe es acc ς = some (acc ++ (es.filter p).map f, ς) := by
    intro es
    induction es with
    | nil => intro acc _ _; rw [lcLoop]; simp
    | cons d es ih =>
      intro acc hm hl
      obtain ⟨ς1, e1, b, ς2, e2, hb, hf, hw, hfe⟩ := hs d (hm d (by simp))
      rw [List.length_cons] at hl
      rw [lcLoop]
      simp only [e1, e2]
      cases q : p d with
      | true =>
        rw [q] at hb
        subst hb
        obtain ⟨r, ς3, e3, ς4, e4, hf4, hw4⟩ := hfe q
        have ee : Lw.esc fe ς2 = some (f d, ς4) := by unfold Lw.esc Lw.bd; rw [e3]; exact e4
        simp only [ee]
        rw [if_pos ⟨hf4, by omega⟩, hw4, ih _ (fun x hx => hm x (by simp [hx])) (by rw [List.length_append, List.length_singleton]; omega), List.filter_cons_of_pos q]
        simp
      | false =>
        rw [q] at hb
        subst hb
        simp only
        rw [if_pos hf, hw, ih _ (fun x hx => hm x (by simp [hx])) (by omega), List.filter_cons_of_neg (by rw [q]; decide)]
  exact ⟨_, ς, main ds [] (fun d h => h) (by simpa using hlen), by simpa using hd⟩
def pr (p : Int × Int) : D := .tuple [.int p.1, .int p.2]
def undd : D → Dd
  | .tuple [.str s, .int l] => if s = "fill" then .fill l.toNat else .empty l.toNat
  | .tuple [.str s, .int l, .int m] => if s = "raise" then .raise l.toNat m else .lower l.toNat m
  | _ => .fill 0
def Deeds (t : D) (ds : List Dd) : Prop := t = .list (ds.map dd) ∨ t = .tuple (ds.map dd)
theorem Deeds.items {t : D} {ds : List Dd} (h : Deeds t ds) : items t = some (ds.map dd) := by rcases h with rfl | rfl <;> rfl
end Lw
namespace Lw
open PySem PySem.Spec PyProof.Rows L2
local macro_rules | `(tactic| walk_at "lw e") => `(tactic| (repeat (first | (with_reducible apply Exists.intro) | ((with_reducible refine And.intro ?_ ?_); · (first | (with_reducible exact pw_7) | (with_reducible exact pw_6) | (with_reducible exact pw_15) | (with_reducible exact pw_18) | (with_reducible exact pw_19) | (with_reducible exact pw_30) | (with_reducible exact pw_40) | (with_reducible exact tix0) | (with_reducible exact tix1) | (with_reducible exact tix2) | ((with_reducible apply mul_r); decide) | ((with_reducible apply mul_l); decide) | ((with_reducible apply div_i); decide) | ((with_reducible apply in_R); decide) | ((fail_if_success (with_reducible apply mul_r)); (fail_if_success (with_reducible apply div_i)); (fail_if_success (with_reducible apply dm_int)); (fail_if_success (with_reducible apply in_R)); rfl) | (exact Nat.le_of_ble_eq_true rfl) | (simp [refsOf]; done) | (exact ⟨rfl, rfl, by decide⟩) | (exact ⟨rfl, rfl, rfl⟩) | ((with_reducible apply tgN_o); (focus rfl); (focus (first | assumption | trivial))))) | ((with_reducible apply Sm.vrP); (focus rfl)) | ((with_reducible apply Sm.vrO); (focus rfl)) | (with_reducible refine Sm.cn ?_) | (with_reducible refine Sm.op2 ?_) | (with_reducible refine Sm.argV ?_) | (with_reducible refine Sm.callE ?_) | (with_reducible refine Sm.cal1 ?_) | (with_reducible refine Sm.sq ?_) | (with_reducible refine Sm.asgS ?_) | (with_reducible refine Sm.asg ?_) | (with_reducible refine Sm.retS ?_) | (with_reducible refine Sm.ifS ?_) | (with_reducible refine Sm.argN ?_) | (with_reducible refine Sm.tst ?_) | (with_reducible refine Sm.tupE ?_) | (with_reducible refine Sm.lstE ?_) | (with_reducible refine Sm.isE ?_) | (with_reducible refine Sm.argR ?_) | (with_reducible refine Sm.tru ?_) | (with_reducible refine Sm.andT ?_) | (with_reducible refine Sm.orT ?_) | (with_reducible refine Sm.notT ?_) | (with_reducible refine Sm.andV ?_) | (with_reducible refine Sm.orV ?_) | (with_reducible refine Sm.notV ?_) | (with_reducible refine Sm.negV ?_) | (with_reducible refine Sm.ife ?_) | (with_reducible refine Sm.chn ?_) | (with_reducible refine Sm.callF ?_) | (with_reducible refine Sm.slE ?_) | (with_reducible refine Sm.ptN ?_) | (with_reducible refine Sm.ptS ?_) | (with_reducible refine Sm.revE ?_) | (with_reducible refine Sm.mth ?_) | (with_reducible refine Sm.ret ?_) | (with_reducible refine Sm.esc ?_) | (with_reducible refine Sm.itS ?_) | (with_reducible refine Sm.itR1 ?_) | (with_reducible refine Sm.itR2 ?_) | (with_reducible refine Sm.itE ?_) | (with_reducible refine Sm.itZ ?_) | (with_reducible refine Sm.lcE2 ?_) | (with_reducible refine Sm.pvF ?_) | (with_reducible refine Sm.pvT ?_) | (with_reducible refine Sm.asgO ?_) | (with_reducible refine Sm.exS ?_) | (with_reducible refine Sm.skip ?_) | (with_reducible refine Sm.par2 ?_) | (with_reducible refine Sm.par3 ?_) | (with_reducible refine Sm.forS ?_) | (with_reducible refine Sm.at_nx ?_) | (with_reducible refine Sm.at_rt ?_) | (with_reducible refine Sm.oP ?_) | (with_reducible refine Sm.oF ?_) | (with_reducible refine Sm.fP ?_) | (with_reducible refine Sm.fF ?_) | (with_reducible refine Sm.itZ2 ?_) | (with_reducible refine Sm.itZ3 ?_) | (with_reducible refine Sm.itEn ?_) | (with_reducible refine Sm.argX ?_) | (with_reducible refine Sm.repE ?_) | ((with_reducible apply Sm.augI); (focus rfl)) | ((with_reducible refine Sm.dicE ?_ ?_); (focus decide)) | (with_reducible refine iteTT ?_) | (with_reducible refine iteT ?_) | (with_reducible refine iteF ?_) | ((with_reducible refine iteB1 ?_ ?_); (focus rfl)) | ((with_reducible refine iteB0 ?_ ?_); (focus rfl)))))
local macro_rules | `(tactic| walk_at "lw n") => `(tactic| (try dsimp only [ent, List.map, Nat.reduceAdd, Nat.reduceSub, List.length_cons, List.length_nil, List.replicate_succ, List.replicate_zero, List.cons_append, List.nil_append, putBack, setOwn, List.getElem?_cons_zero, List.getElem?_cons_succ, List.set_cons_zero, List.set_cons_succ, Sm.nf]))
local macro_rules | `(tactic| walk_at "lw v") => `(tactic| (try simp only [pb1, pb2, pb3, pb4]))
def addPre : Nat → Int → List Int → List Int
  | 0, _, xs => xs
  | _ + 1, _, [] => []
  | i + 1, m, x :: xs => (x + m) :: addPre i m xs
theorem addPre_get (m : Int) : ∀ (i : Nat) (xs : List Int) (a : Nat), (addPre i m xs)[a]? = if a < i then (xs[a]?).map (· + m) else xs[a]?
  | 0, xs, a => by simp [addPre]
  | i + 1, [], a => by simp [addPre]
  | i + 1, x :: xs, 0 => by simp [addPre]
  | i + 1, x :: xs, a + 1 => by
    rw [addPre, List.getElem?_cons_succ, List.getElem?_cons_succ, addPre_get m i xs a]
    by_cases h : a < i
    · rw [if_pos h, if_pos (by omega)]
    · rw [if_neg h, if_neg (by omega)]
theorem addPre_len (m : Int) : ∀ (i : Nat) (xs : List Int), (addPre i m xs).length = xs.length
  | 0, xs => rfl
  | i + 1, [] => rfl
  | i + 1, x :: xs => by rw [addPre, List.length_cons, List.length_cons, addPre_len m i xs]
theorem addPre_sums (ps : List (Int × Int × Int)) (ds : List Dd) (d : Dd) (c : Nat) (hc : (chg ps d).1 = c) : addPre c (chg ps d).2 (sums ps ds) = sums ps (ds ++ [d]) := by
  apply List.ext_getElem?
  intro a
  rw [addPre_get]
  unfold sums
  rw [List.getElem?_map, List.getElem?_map]
  by_cases h : a < ps.length
  · rw [List.getElem?_range h]
    simp only [Option.map_some]
    rw [sumAt_app]
    have : sumAt ps [d] (1 + (a : Int)) = if a < c then (chg ps d).2 else 0 := by
      unfold sumAt addTo
      rw [List.map_cons, List.map_nil, List.sum_cons, List.sum_nil, hc]
      by_cases q : a < c
      · rw [if_pos (by omega), if_pos q]; omega
      · rw [if_neg (by omega), if_neg q]; omega
    rw [this]
    by_cases q : a < c
    · rw [if_pos q, if_pos q]
    · rw [if_neg q, if_neg q]; simp
  · rw [List.getElem?_eq_none (by rw [List.length_range]; omega)]
    simp
theorem at_ints {xs : List Int} {i : Nat} (h : i < xs.length) : gIx (.list (xs.map PyData.int)) (.int (i : Int)) = some (.pure (.int (xs.getD i 0))) := by
  rw [at_list (by omega) (by rw [List.length_map]; omega)]
  congr 2
  rw [Int.toNat_natCast, List.getD_eq_getElem?_getD, List.getElem?_map, List.getElem?_eq_getElem h, List.getD_eq_getElem?_getD, List.getElem?_eq_getElem h]
  rfl
end Lw
namespace Lw
open PySem PySem.Spec PyProof.Rows L2
local macro_rules | `(tactic| walk_at "lw e") => `(tactic| (repeat (first | (with_reducible apply Exists.intro) | ((with_reducible refine And.intro ?_ ?_); · (first | (with_reducible exact pw_7) | (with_reducible exact pw_6) | (with_reducible exact pw_15) | (with_reducible exact pw_18) | (with_reducible exact pw_19) | (with_reducible exact pw_30) | (with_reducible exact pw_40) | (with_reducible exact tix0) | (with_reducible exact tix1) | (with_reducible exact tix2) | ((with_reducible apply mul_r); decide) | ((with_reducible apply mul_l); decide) | ((with_reducible apply div_i); decide) | ((with_reducible apply in_R); decide) | ((fail_if_success (with_reducible apply mul_r)); (fail_if_success (with_reducible apply div_i)); (fail_if_success (with_reducible apply dm_int)); (fail_if_success (with_reducible apply in_R)); rfl) | (exact Nat.le_of_ble_eq_true rfl) | (simp [refsOf]; done) | (exact ⟨rfl, rfl, by decide⟩) | (exact ⟨rfl, rfl, rfl⟩) | ((with_reducible apply tgN_o); (focus rfl); (focus (first | assumption | trivial))))) | ((with_reducible apply Sm.vrP); (focus rfl)) | ((with_reducible apply Sm.vrO); (focus rfl)) | (with_reducible refine Sm.cn ?_) | (with_reducible refine Sm.op2 ?_) | (with_reducible refine Sm.argV ?_) | (with_reducible refine Sm.callE ?_) | (with_reducible refine Sm.cal1 ?_) | (with_reducible refine Sm.sq ?_) | (with_reducible refine Sm.asgS ?_) | (with_reducible refine Sm.asg ?_) | (with_reducible refine Sm.retS ?_) | (with_reducible refine Sm.ifS ?_) | (with_reducible refine Sm.argN ?_) | (with_reducible refine Sm.tst ?_) | (with_reducible refine Sm.tupE ?_) | (with_reducible refine Sm.lstE ?_) | (with_reducible refine Sm.isE ?_) | (with_reducible refine Sm.argR ?_) | (with_reducible refine Sm.tru ?_) | (with_reducible refine Sm.andT ?_) | (with_reducible refine Sm.orT ?_) | (with_reducible refine Sm.notT ?_) | (with_reducible refine Sm.andV ?_) | (with_reducible refine Sm.orV ?_) | (with_reducible refine Sm.notV ?_) | (with_reducible refine Sm.negV ?_) | (with_reducible refine Sm.ife ?_) | (with_reducible refine Sm.chn ?_) | (with_reducible refine Sm.callF ?_) | (with_reducible refine Sm.slE ?_) | (with_reducible refine Sm.ptN ?_) | (with_reducible refine Sm.ptS ?_) | (with_reducible refine Sm.revE ?_) | (with_reducible refine Sm.mth ?_) | (with_reducible refine Sm.ret ?_) | (with_reducible refine Sm.esc ?_) | (with_reducible refine Sm.itS ?_) | (with_reducible refine Sm.itR1 ?_) | (with_reducible refine Sm.itR2 ?_) | (with_reducible refine Sm.itE ?_) | (with_reducible refine Sm.itZ ?_) | (with_reducible refine Sm.lcE2 ?_) | (with_reducible refine Sm.pvF ?_) | (with_reducible refine Sm.pvT ?_) | (with_reducible refine Sm.asgO ?_) | (with_reducible refine Sm.exS ?_) | (with_reducible refine Sm.skip ?_) | (with_reducible refine Sm.par2 ?_) | (with_reducible refine Sm.par3 ?_) | (with_reducible refine Sm.forS ?_) | (with_reducible refine Sm.at_nx ?_) | (with_reducible refine Sm.at_rt ?_) | (with_reducible refine Sm.oP ?_) | (with_reducible refine Sm.oF ?_) | (with_reducible refine Sm.fP ?_) | (with_reducible refine Sm.fF ?_) | (with_reducible refine Sm.itZ2 ?_) | (with_reducible refine Sm.itZ3 ?_) | (with_reducible refine Sm.itEn ?_) | (with_reducible refine Sm.argX ?_) | (with_reducible refine Sm.repE ?_) | ((with_reducible apply Sm.augI); (focus rfl)) | ((with_reducible refine Sm.dicE ?_ ?_); (focus decide)) | (with_reducible refine iteTT ?_) | (with_reducible refine iteT ?_) | (with_reducible refine iteF ?_) | ((with_reducible refine iteB1 ?_ ?_); (focus rfl)) | ((with_reducible refine iteB0 ?_ ?_); (focus rfl)))))
local macro_rules | `(tactic| walk_at "lw n") => `(tactic| (try dsimp only [ent, List.map, Nat.reduceAdd, Nat.reduceSub, List.length_cons, List.length_nil, List.replicate_succ, List.replicate_zero, List.cons_append, List.nil_append, putBack, setOwn, List.getElem?_cons_zero, List.getElem?_cons_succ, List.set_cons_zero, List.set_cons_succ, Sm.nf]))
local macro_rules | `(tactic| walk_at "lw v") => `(tactic| (try simp only [pb1, pb2, pb3, pb4]))
/-! ### stones -/
theorem foldl_min_le : ∀ (xs : List Int) (a : Int), xs.foldl min a ≤ a ∧ ∀ x ∈ xs, xs.foldl min a ≤ x
  | [], a => ⟨by simp, fun x h => by cases h⟩
  | y :: ys, a => by
    obtain ⟨h1, h2⟩ := foldl_min_le ys (min a y)
    rw [List.foldl_cons]
    refine ⟨by omega, fun x hx => ?_⟩
    rcases List.mem_cons.1 hx with rfl | hx
    · omega
    · exact h2 x hx
theorem foldl_min_mem : ∀ (xs : List Int) (a : Int), xs.foldl min a = a ∨ xs.foldl min a ∈ xs
  | [], a => .inl rfl
  | y :: ys, a => by
    rw [List.foldl_cons]
    rcases foldl_min_mem ys (min a y) with h | h
    · rw [h]
      by_cases q : a ≤ y
      · rw [Int.min_eq_left q]; exact .inl rfl
      · rw [Int.min_eq_right (by omega)]; exact .inr (by simp)
    · exact .inr (by simp [h])
/-! ### a lap by draws -/
def Dd.Sm (g : Nat) : Dd → Prop
  | .raise _ m => 1 ≤ m ∧ m ≤ 6 * g
  | .lower _ m => 1 ≤ m ∧ m ≤ 6 * g
  | _ => True
def I01 (c n cap g : Nat) (j : Nat) (acc : List D) (ς : En) : Prop := ∃ (bs : List D) (ns : List Int), ς = [some (.own true bs), some (.pure (.int n)), some (.pure (.int cap)), some (.pure (.int g)), none, none, none, none, none, none, none] ∧ acc = ns.map PyData.int ∧ ns.length = j ∧ (∀ x ∈ ns, x = 0 ∨ x = 1) ∧ Box (c + 2000 - 16 * j) bs
def turnW (v : Int) : Str := if v = 0 then "fill" else "empty"
theorem pickT {v : Int} (h : v = 0 ∨ v = 1) : gIx (.list [.str "fill", .str "empty"]) (.int v) = some (.pure (.str (turnW v))) := by
  rcases h with rfl | rfl <;> rfl
def rlW (v : Int) : Str := if v = 0 then "lower" else "raise"
theorem pickR {v : Int} (h0 : 0 ≤ v) (h1 : v < 3) : gIx (.list [.str "lower", .str "raise", .str "raise"]) (.int v) = some (.pure (.str (rlW v))) := by
  have : v = 0 ∨ v = 1 ∨ v = 2 := by omega
  rcases this with rfl | rfl | rfl <;> rfl
theorem now_at {now : List Int} {i : Nat} (h : i < now.length) (hn : ∀ x ∈ now, x = 0 ∨ x = 1) : now.getD i 0 = 0 ∨ now.getD i 0 = 1 := by
  rw [List.getD_eq_getElem?_getD, List.getElem?_eq_getElem h]
  exact hn _ (List.getElem_mem h)
theorem on_app {n g : Nat} {ds : List Dd} {d : Dd} (h : ∀ d ∈ ds, d.On n ∧ d.Sm g) (hd : d.On n ∧ d.Sm g) : ∀ e ∈ ds ++ [d], e.On n ∧ e.Sm g := by
  intro e he
  rcases List.mem_append.1 he with he | he
  · exact h e he
  · cases List.mem_singleton.1 he; exact hd
theorem mapD_app (ds : List Dd) (d : Dd) : ds.map dd ++ [dd d] = (ds ++ [d]).map dd := by rw [List.map_append]; rfl
end Lw
-- F2
namespace Lw
open PySem PySem.Spec PyProof.Rows L2
local macro_rules | `(tactic| walk_at "lw e") => `(tactic| (repeat (first | (with_reducible apply Exists.intro) | ((with_reducible refine And.intro ?_ ?_); · (first | (with_reducible exact pw_7) | (with_reducible exact pw_6) | (with_reducible exact pw_15) | (with_reducible exact pw_18) | (with_reducible exact pw_19) | (with_reducible exact pw_30) | (with_reducible exact pw_40) | (with_reducible exact tix0) | (with_reducible exact tix1) | (with_reducible exact tix2) | ((with_reducible apply mul_r); decide) | ((with_reducible apply mul_l); decide) | ((with_reducible apply div_i); decide) | ((with_reducible apply in_R); decide) | ((fail_if_success (with_reducible apply mul_r)); (fail_if_success (with_reducible apply div_i)); (fail_if_success (with_reducible apply dm_int)); (fail_if_success (with_reducible apply in_R)); rfl) | (exact Nat.le_of_ble_eq_true rfl) | (simp [refsOf]; done) | (exact ⟨rfl, rfl, by decide⟩) | (exact ⟨rfl, rfl, rfl⟩) | ((with_reducible apply tgN_o); (focus rfl); (focus (first | assumption | trivial))))) | ((with_reducible apply Sm.vrP); (focus rfl)) | ((with_reducible apply Sm.vrO); (focus rfl)) | (with_reducible refine Sm.cn ?_) | (with_reducible refine Sm.op2 ?_) | (with_reducible refine Sm.argV ?_) | (with_reducible refine Sm.callE ?_) | (with_reducible refine Sm.cal1 ?_) | (with_reducible refine Sm.sq ?_) | (with_reducible refine Sm.asgS ?_) | (with_reducible refine Sm.asg ?_) | (with_reducible refine Sm.retS ?_) | (with_reducible refine Sm.ifS ?_) | (with_reducible refine Sm.argN ?_) | (with_reducible refine Sm.tst ?_) | (with_reducible refine Sm.tupE ?_) | (with_reducible refine Sm.lstE ?_) | (with_reducible refine Sm.isE ?_) | (with_reducible refine Sm.argR ?_) | (with_reducible refine Sm.tru ?_) | (with_reducible refine Sm.andT ?_) | (with_reducible refine Sm.orT ?_) | (with_reducible refine Sm.notT ?_) | (with_reducible refine Sm.andV ?_) | (with_reducible refine Sm.orV ?_) | (with_reducible refine Sm.notV ?_) | (with_reducible refine Sm.negV ?_) | (with_reducible refine Sm.ife ?_) | (with_reducible refine Sm.chn ?_) | (with_reducible refine Sm.callF ?_) | (with_reducible refine Sm.slE ?_) | (with_reducible refine Sm.ptN ?_) | (with_reducible refine Sm.ptS ?_) | (with_reducible refine Sm.revE ?_) | (with_reducible refine Sm.mth ?_) | (with_reducible refine Sm.ret ?_) | (with_reducible refine Sm.esc ?_) | (with_reducible refine Sm.itS ?_) | (with_reducible refine Sm.itR1 ?_) | (with_reducible refine Sm.itR2 ?_) | (with_reducible refine Sm.itE ?_) | (with_reducible refine Sm.itZ ?_) | (with_reducible refine Sm.lcE2 ?_) | (with_reducible refine Sm.pvF ?_) | (with_reducible refine Sm.pvT ?_) | (with_reducible refine Sm.asgO ?_) | (with_reducible refine Sm.exS ?_) | (with_reducible refine Sm.skip ?_) | (with_reducible refine Sm.par2 ?_) | (with_reducible refine Sm.par3 ?_) | (with_reducible refine Sm.forS ?_) | (with_reducible refine Sm.at_nx ?_) | (with_reducible refine Sm.at_rt ?_) | (with_reducible refine Sm.oP ?_) | (with_reducible refine Sm.oF ?_) | (with_reducible refine Sm.fP ?_) | (with_reducible refine Sm.fF ?_) | (with_reducible refine Sm.itZ2 ?_) | (with_reducible refine Sm.itZ3 ?_) | (with_reducible refine Sm.itEn ?_) | (with_reducible refine Sm.argX ?_) | (with_reducible refine Sm.repE ?_) | ((with_reducible apply Sm.augI); (focus rfl)) | ((with_reducible refine Sm.dicE ?_ ?_); (focus decide)) | (with_reducible refine Sm.lzE ?_) | (with_reducible refine Sm.itV ?_) | (with_reducible refine Sm.itR3 ?_) | (with_reducible refine Sm.itRv1 ?_) | (with_reducible refine Sm.itRv2 ?_) | ((with_reducible apply Sm.augS); (focus rfl)) | (with_reducible refine iteTT ?_) | (with_reducible refine iteT ?_) | (with_reducible refine iteF ?_) | ((with_reducible refine iteB1 ?_ ?_); (focus rfl)) | ((with_reducible refine iteB0 ?_ ?_); (focus rfl)))))
local macro_rules | `(tactic| walk_at "lw n") => `(tactic| (try dsimp only [ent, List.map, Nat.reduceAdd, Nat.reduceSub, List.length_cons, List.length_nil, List.replicate_succ, List.replicate_zero, List.cons_append, List.nil_append, putBack, setOwn, List.getElem?_cons_zero, List.getElem?_cons_succ, List.set_cons_zero, List.set_cons_succ, Sm.nf]))
local macro_rules | `(tactic| walk_at "lw v") => `(tactic| (try simp only [pb1, pb2, pb3, pb4]))
/-! ### stairs, deeds as tuples or lists, at any depth -/
theorem ix_items {t : D} {ds : List D} (h : items t = some ds) {i : Int} (h0 : 0 ≤ i) (h1 : i < ds.length) : gIx t (.int i) = some (.pure (ds.getD i.toNat .none)) := by
  cases t with
  | list es => cases h; exact at_list h0 h1
  | tuple es => cases h; exact at_tup h0 h1
  | _ => cases h
def Pnd (x : D) (p : Int × Int × Int) : Prop := items x = some [.int p.1, .int p.2.1, .int p.2.2]
structure StairG (st : D) (xs : List D) (ps : List (Int × Int × Int)) : Prop where
  its : items st = some xs
  len : xs.length = ps.length
  ok : ∀ (i : Nat) x p, xs[i]? = some x → ps[i]? = some p → Pnd x p
theorem Pnd.of (p : Int × Int × Int) : Pnd (pd p) p := rfl
theorem Stair.gen {st : D} {ps : List (Int × Int × Int)} (h : Stair st ps) : StairG st (ps.map pd) ps := ⟨h.items, List.length_map _, fun i x p h1 h2 => by
  rw [List.getElem?_map, h2] at h1
  cases h1
  exact Pnd.of p⟩
theorem StairG.ix {st : D} {xs : List D} {ps : List (Int × Int × Int)} (h : StairG st xs ps) {l : Nat} (h0 : 1 ≤ l) (h1 : l ≤ ps.length) : ∃ x, gIx st (.int ((l : Int) - 1)) = some (.pure x) ∧ Pnd x (pAt ps (l - 1)) := by
  have hl := h.len
  have hlt : l - 1 < xs.length := by omega
  have hlp : l - 1 < ps.length := by omega
  refine ⟨xs.getD (l - 1) .none, ?_, ?_⟩
  · rw [ix_items h.its (by omega) (by omega)]
    congr 4
    omega
  · refine h.ok (l - 1) _ _ ?_ ?_
    · rw [List.getD_eq_getElem?_getD, List.getElem?_eq_getElem hlt]; rfl
    · unfold pAt; rw [List.getD_eq_getElem?_getD, List.getElem?_eq_getElem hlp]; rfl
theorem items_cases {t : D} {ds : List D} (h : items t = some ds) : t = .list ds ∨ t = .tuple ds := by
  cases t with
  | list es => cases h; exact .inl rfl
  | tuple es => cases h; exact .inr rfl
  | _ => cases h
theorem Pnd.a {x : D} {p : Int × Int × Int} (h : Pnd x p) : gIx x (.int 0) = some (.pure (.int p.1)) := by rcases items_cases h with rfl | rfl <;> rfl
theorem Pnd.b {x : D} {p : Int × Int × Int} (h : Pnd x p) : gIx x (.int 1) = some (.pure (.int p.2.1)) := by rcases items_cases h with rfl | rfl <;> rfl
theorem Pnd.c {x : D} {p : Int × Int × Int} (h : Pnd x p) : gIx x (.int 2) = some (.pure (.int p.2.2)) := by rcases items_cases h with rfl | rfl <;> rfl
/-- the parts of a deed -/
def dl : Dd → List D
  | .fill l => [.str "fill", .int l]
  | .empty l => [.str "empty", .int l]
  | .raise l m => [.str "raise", .int l, .int m]
  | .lower l m => [.str "lower", .int l, .int m]
def Dt (t : D) (d : Dd) : Prop := items t = some (dl d)
theorem Dt.of (d : Dd) : Dt (dd d) d := by cases d <;> rfl
theorem changeG {st t : D} {xs : List D} {ps : List (Int × Int × Int)} {d : Dd} (hs : StairG st xs ps) (ht : Dt t d) (hd : d.On ps.length) : wpf m_p_change_of [.pure st, .pure t] (ValQ fun x => x = .tuple [.int (chg ps d).1, .int (chg ps d).2]) := by
  obtain ⟨h1, h2⟩ := hd
  have ix : ∀ l : Nat, 1 ≤ l → l ≤ ps.length → ∃ x, gIx st (.int ((l : Int) - 1)) = some (.pure x) ∧ gIx x (.int 2) = some (.pure (.int (sz ps l))) := fun l a b => by
    obtain ⟨x, i1, i2⟩ := hs.ix a b
    exact ⟨x, i1, i2.c⟩
  refine Sm.run ?_
  unfold g_p_change_of
  walk_at "lw n"
  cases d with
  | fill l =>
    obtain ⟨x, i1, i2⟩ := ix l h1 h2
    rcases items_cases ht with rfl | rfl
    all_goals
      walk_at "lw e"
      refine ⟨i1, ?_⟩
      walk_at "lw e"
      refine ⟨i2, ?_⟩
      walk_at "lw e"
      exact ⟨_, rfl, rfl⟩
  | empty l =>
    obtain ⟨x, i1, i2⟩ := ix l h1 h2
    rcases items_cases ht with rfl | rfl
    all_goals
      walk_at "lw e"
      refine ⟨i1, ?_⟩
      walk_at "lw e"
      refine ⟨i2, ?_⟩
      walk_at "lw e"
      exact ⟨_, rfl, rfl⟩
  | raise l m => rcases items_cases ht with rfl | rfl <;> (walk_at "lw e"; exact ⟨_, rfl, rfl⟩)
  | lower l m => rcases items_cases ht with rfl | rfl <;> (walk_at "lw e"; exact ⟨_, rfl, rfl⟩)
/-! ### running over -/
abbrev Pz := (Int × Int × Int) × Int
def spill (m : Int) : Int := if m > 0 then m else 0
/-- levels, what ran over out of each pound, what ran over out of the lowest -/
def ov : List Pz → List Int × List Int × Int
  | [] => ([], [], 0)
  | z :: zs => ((z.2 + (ov zs).2.2 - spill (z.2 + (ov zs).2.2 - z.1.2.1)) :: (ov zs).1, spill (z.2 + (ov zs).2.2 - z.1.2.1) :: (ov zs).2.1, spill (z.2 + (ov zs).2.2 - z.1.2.1))
theorem ov_len : ∀ zs : List Pz, (ov zs).1.length = zs.length ∧ (ov zs).2.1.length = zs.length
  | [] => ⟨rfl, rfl⟩
  | z :: zs => by
    obtain ⟨h1, h2⟩ := ov_len zs
    exact ⟨by rw [ov, List.length_cons, h1]; rfl, by rw [ov, List.length_cons, h2]; rfl⟩
abbrev Qz := D × Pz
def zd (z : Qz) : D := .tuple [z.1, .int z.2.2]
def qz : List D → List (Int × Int × Int) → List Int → List Qz
  | x :: xs, p :: ps, l :: ls => (x, (p, l)) :: qz xs ps ls
  | _, _, _ => []
theorem qz_snd : ∀ (xs : List D) (ps : List (Int × Int × Int)) (ls : List Int), xs.length = ps.length → (qz xs ps ls).map (·.2) = ps.zip ls
  | [], [], ls, _ => by simp [qz]
  | [], p :: ps, ls, h => by simp at h
  | x :: xs, [], ls, h => by simp at h
  | x :: xs, p :: ps, [], h => by simp [qz]
  | x :: xs, p :: ps, l :: ls, h => by rw [qz, List.map_cons, qz_snd xs ps ls (by simpa using h), List.zip_cons_cons]
theorem qz_zip : ∀ (xs : List D) (ps : List (Int × Int × Int)) (ls : List Int), xs.length = ps.length → zipD xs (ls.map PyData.int) = (qz xs ps ls).map zd
  | [], [], ls, _ => by simp [qz, zipD]
  | [], p :: ps, ls, h => by simp at h
  | x :: xs, [], ls, h => by simp at h
  | x :: xs, p :: ps, [], h => by simp [qz, zipD]
  | x :: xs, p :: ps, l :: ls, h => by rw [qz, List.map_cons, List.map_cons, zipD, qz_zip xs ps ls (by simpa using h)]; rfl
theorem qz_ok : ∀ (xs : List D) (ps : List (Int × Int × Int)) (ls : List Int), (∀ (i : Nat) x p, xs[i]? = some x → ps[i]? = some p → Pnd x p) → ∀ z ∈ qz xs ps ls, Pnd z.1 z.2.1
  | [], ps, ls, _, z, hz => by simp [qz] at hz
  | x :: xs, [], ls, _, z, hz => by simp [qz] at hz
  | x :: xs, p :: ps, [], _, z, hz => by simp [qz] at hz
  | x :: xs, p :: ps, l :: ls, h, z, hz => by
    rw [qz] at hz
    rcases List.mem_cons.1 hz with rfl | hz
    · exact h 0 x p rfl rfl
    · exact qz_ok xs ps ls (fun i x p a b => h (i + 1) x p (by simpa using a) (by simpa using b)) z hz
def IOv (st lv : D) (zs : List Pz) (i : Nat) (ς : En) : Prop := ∃ (o5 o6 o7 : Option S), ς = [some (.pure st), some (.pure lv), some (.own false ((ov (zs.drop (zs.length - i))).1.reverse.map PyData.int)), some (.own false ((ov (zs.drop (zs.length - i))).2.1.reverse.map PyData.int)), some (.pure (.int (ov (zs.drop (zs.length - i))).2.2)), o5, o6, o7] ∧ Fr o5 ∧ Fr o6 ∧ Fr o7
theorem rev_map_at {α : Type} {f : α → D} {zs : List α} {i : Nat} {d : D} (h : (zs.map f).reverse[i]? = some d) : i < zs.length ∧ ∃ z ∈ zs, d = f z ∧ zs.drop (zs.length - (i + 1)) = z :: zs.drop (zs.length - i) := by
  have hl : i < zs.length := by have := (List.getElem?_eq_some_iff.mp h).1; simpa using this
  refine ⟨hl, zs[zs.length - (i + 1)], List.getElem_mem _, ?_, ?_⟩
  · rw [List.getElem?_reverse (by simpa using hl), List.length_map, List.getElem?_map, List.getElem?_eq_getElem (by omega)] at h
    have h := Option.some.inj h
    rw [← h]
    congr 2
    omega
  · rw [List.drop_eq_getElem_cons (by omega)]
    congr 2
    omega
theorem run_overG {st lv : D} {xs : List D} {ps : List (Int × Int × Int)} {ls : List Int} (hs : StairG st xs ps) (hv : Seq lv ls) (hp : ps.length ≤ 1000) (hl : ls.length ≤ 1000) : wpf m_p_run_over [.pure st, .pure lv] (ValQ fun x => x = .tuple [it (ov (ps.zip ls)).1, it (ov (ps.zip ls)).2.1]) := by
  have hsl : sizeLine = 16777216 := rfl
  have hzl : (ps.zip ls).length ≤ 1000 := by rw [List.length_zip]; omega
  have hq := qz_snd xs ps ls hs.len
  have hok := qz_ok xs ps ls hs.ok
  have hql : (qz xs ps ls).length = (ps.zip ls).length := by rw [← hq, List.length_map]
  refine Sm.run ?_
  unfold g_p_run_over
  walk_at "lw n"
  walk_at "lw e"
  refine ⟨hs.its, hv.items, by rw [qz_zip xs ps ls hs.len, List.length_map]; omega, ?_⟩
  walk_at "lw e"
  rw [qz_zip xs ps ls hs.len]
  walk_at "lw n"
  have h0 : IOv st lv (ps.zip ls) 0 [some (.pure st), some (.pure lv), some (.own false []), some (.own false []), some (.pure (.int 0)), none, none, none] := by
    refine ⟨none, none, none, ?_, trivial, trivial, trivial⟩
    rw [Nat.sub_zero, List.drop_length]
    rfl
  refine Sm.loopInv (IOv st lv (ps.zip ls)) h0 ?_ ?_
  · rintro i d ς hd ⟨o5, o6, o7, rfl, f5, f6, f7⟩
    obtain ⟨hi, z, hz, rfl, ez⟩ := rev_map_at hd
    have hb := (hok z hz).b
    have ez2 : (ps.zip ls).drop ((ps.zip ls).length - (i + 1)) = z.2 :: (ps.zip ls).drop ((ps.zip ls).length - i) := by
      have := congrArg (List.map (·.2)) ez
      rw [List.map_drop, List.map_cons, List.map_drop, hq, hql] at this
      exact this
    unfold IOv
    rw [ez2]
    generalize he : (ps.zip ls).drop ((ps.zip ls).length - i) = es
    have hel : es.length ≤ 1000 := by rw [← he, List.length_drop]; omega
    obtain ⟨l1, l2⟩ := ov_len es
    refine ⟨_, tgT2_o rfl f5 rfl f6, ?_⟩
    walk_at "lw n"
    walk_at "lw e"
    refine ⟨hb, ?_⟩
    walk_at "lw e"
    refine ⟨app_ok (by rw [List.length_map, List.length_reverse]; omega), ?_⟩
    walk_at "lw n"
    walk_at "lw e"
    refine ⟨app_ok (by rw [List.length_map, List.length_reverse]; omega), ?_⟩
    walk_at "lw n"
    refine ⟨some (.pure z.1), some (.pure (.int z.2.2)), some (.pure (.int (z.2.2 + (ov es).2.2))), ?_, trivial, trivial, trivial⟩
    rw [ov]
    simp only [List.reverse_cons, List.map_append, List.map_cons, List.map_nil]
    rfl
  · rintro ς ⟨o5, o6, o7, rfl, f5, f6, f7⟩
    rw [List.length_reverse, List.length_map, hql, Nat.sub_self, List.drop_zero]
    walk_at "lw e"
    walk_at "lw n"
    walk_at "lw e"
    walk_at "lw n"
    walk_at "lw e"
    refine ⟨_, rfl, ?_⟩
    rw [← List.map_reverse, ← List.map_reverse, List.reverse_reverse, List.reverse_reverse]
    rfl
end Lw
-- F2
namespace Lw
open PySem PySem.Spec PyProof.Rows L2
local macro_rules | `(tactic| walk_at "lw e") => `(tactic| (repeat (first | (with_reducible apply Exists.intro) | ((with_reducible refine And.intro ?_ ?_); · (first | (with_reducible exact pw_7) | (with_reducible exact pw_6) | (with_reducible exact pw_15) | (with_reducible exact pw_18) | (with_reducible exact pw_19) | (with_reducible exact pw_30) | (with_reducible exact pw_40) | (with_reducible exact tix0) | (with_reducible exact tix1) | (with_reducible exact tix2) | ((with_reducible apply mul_r); decide) | ((with_reducible apply mul_l); decide) | ((with_reducible apply div_i); decide) | ((with_reducible apply in_R); decide) | ((fail_if_success (with_reducible apply mul_r)); (fail_if_success (with_reducible apply div_i)); (fail_if_success (with_reducible apply dm_int)); (fail_if_success (with_reducible apply in_R)); rfl) | (exact Nat.le_of_ble_eq_true rfl) | (simp [refsOf]; done) | (exact ⟨rfl, rfl, by decide⟩) | (exact ⟨rfl, rfl, rfl⟩) | ((with_reducible apply tgN_o); (focus rfl); (focus (first | assumption | trivial))))) | ((with_reducible apply Sm.vrP); (focus rfl)) | ((with_reducible apply Sm.vrO); (focus rfl)) | (with_reducible refine Sm.cn ?_) | (with_reducible refine Sm.op2 ?_) | (with_reducible refine Sm.argV ?_) | (with_reducible refine Sm.callE ?_) | (with_reducible refine Sm.cal1 ?_) | (with_reducible refine Sm.sq ?_) | (with_reducible refine Sm.asgS ?_) | (with_reducible refine Sm.asg ?_) | (with_reducible refine Sm.retS ?_) | (with_reducible refine Sm.ifS ?_) | (with_reducible refine Sm.argN ?_) | (with_reducible refine Sm.tst ?_) | (with_reducible refine Sm.tupE ?_) | (with_reducible refine Sm.lstE ?_) | (with_reducible refine Sm.isE ?_) | (with_reducible refine Sm.argR ?_) | (with_reducible refine Sm.tru ?_) | (with_reducible refine Sm.andT ?_) | (with_reducible refine Sm.orT ?_) | (with_reducible refine Sm.notT ?_) | (with_reducible refine Sm.andV ?_) | (with_reducible refine Sm.orV ?_) | (with_reducible refine Sm.notV ?_) | (with_reducible refine Sm.negV ?_) | (with_reducible refine Sm.ife ?_) | (with_reducible refine Sm.chn ?_) | (with_reducible refine Sm.callF ?_) | (with_reducible refine Sm.slE ?_) | (with_reducible refine Sm.ptN ?_) | (with_reducible refine Sm.ptS ?_) | (with_reducible refine Sm.revE ?_) | (with_reducible refine Sm.mth ?_) | (with_reducible refine Sm.ret ?_) | (with_reducible refine Sm.esc ?_) | (with_reducible refine Sm.itS ?_) | (with_reducible refine Sm.itR1 ?_) | (with_reducible refine Sm.itR2 ?_) | (with_reducible refine Sm.itE ?_) | (with_reducible refine Sm.itZ ?_) | (with_reducible refine Sm.lcE2 ?_) | (with_reducible refine Sm.pvF ?_) | (with_reducible refine Sm.pvT ?_) | (with_reducible refine Sm.asgO ?_) | (with_reducible refine Sm.exS ?_) | (with_reducible refine Sm.skip ?_) | (with_reducible refine Sm.par2 ?_) | (with_reducible refine Sm.par3 ?_) | (with_reducible refine Sm.forS ?_) | (with_reducible refine Sm.at_nx ?_) | (with_reducible refine Sm.at_rt ?_) | (with_reducible refine Sm.oP ?_) | (with_reducible refine Sm.oF ?_) | (with_reducible refine Sm.fP ?_) | (with_reducible refine Sm.fF ?_) | (with_reducible refine Sm.itZ2 ?_) | (with_reducible refine Sm.itZ3 ?_) | (with_reducible refine Sm.itEn ?_) | (with_reducible refine Sm.argX ?_) | (with_reducible refine Sm.repE ?_) | ((with_reducible apply Sm.augI); (focus rfl)) | ((with_reducible refine Sm.dicE ?_ ?_); (focus decide)) | (with_reducible refine Sm.lzE ?_) | (with_reducible refine Sm.itV ?_) | (with_reducible refine Sm.itR3 ?_) | (with_reducible refine Sm.itRv1 ?_) | (with_reducible refine Sm.itRv2 ?_) | ((with_reducible apply Sm.augS); (focus rfl)) | (with_reducible refine iteTT ?_) | (with_reducible refine iteT ?_) | (with_reducible refine iteF ?_) | ((with_reducible refine iteB1 ?_ ?_); (focus rfl)) | ((with_reducible refine iteB0 ?_ ?_); (focus rfl)))))
local macro_rules | `(tactic| walk_at "lw n") => `(tactic| (try dsimp only [ent, List.map, Nat.reduceAdd, Nat.reduceSub, List.length_cons, List.length_nil, List.replicate_succ, List.replicate_zero, List.cons_append, List.nil_append, putBack, setOwn, List.getElem?_cons_zero, List.getElem?_cons_succ, List.set_cons_zero, List.set_cons_succ, Sm.nf]))
local macro_rules | `(tactic| walk_at "lw v") => `(tactic| (try simp only [pb1, pb2, pb3, pb4]))
/-! ### one deed -/
def add1 (ls : List Int) (p m : Int) : List Int := if p > 0 then ls.set (p.toNat - 1) (ls.getD (p.toNat - 1) 0 + m) else ls
theorem add1_len (ls : List Int) (p m : Int) : (add1 ls p m).length = ls.length := by unfold add1; split <;> simp
theorem chg_on {ps : List (Int × Int × Int)} {d : Dd} {n : Nat} (h : d.On n) : 0 ≤ (chg ps d).1 ∧ (chg ps d).1 ≤ n := by
  obtain ⟨h1, h2⟩ := h
  cases d with
  | fill l => exact ⟨by show (0 : Int) ≤ l; omega, by show (l : Int) ≤ n; have : l ≤ n := h2; omega⟩
  | empty l => have a : 1 ≤ l := h1; have b : l ≤ n := h2; exact ⟨by show (0 : Int) ≤ (l : Int) - 1; omega, by show (l : Int) - 1 ≤ n; omega⟩
  | raise l m => exact ⟨by show (0 : Int) ≤ l; omega, by show (l : Int) ≤ n; have : l ≤ n := h2; omega⟩
  | lower l m => exact ⟨by show (0 : Int) ≤ l; omega, by show (l : Int) ≤ n; have : l ≤ n := h2; omega⟩
theorem ls_at {ls : List Int} {i : Nat} (h : i < ls.length) : (ls.map PyData.int)[i]? = some (.int (ls.getD i 0)) := by
  rw [List.getElem?_map, List.getD_eq_getElem?_getD, List.getElem?_eq_getElem h]; rfl
theorem levelsG {st lv t : D} {xs : List D} {ps : List (Int × Int × Int)} {ls : List Int} {d : Dd} (hs : StairG st xs ps) (hv : Seq lv ls) (ht : Dt t d) (hd : d.On ps.length) (hp : ps.length ≤ 1000) (hl : ls.length = ps.length) :
    wpf m_p_levels_behind [.pure st, .pure lv, .pure t] (ValQ fun x => x = .tuple [it (ov (ps.zip (add1 ls (chg ps d).1 (chg ps d).2))).1, it (ov (ps.zip (add1 ls (chg ps d).1 (chg ps d).2))).2.1]) := by
  have hsl : sizeLine = 16777216 := rfl
  obtain ⟨c0, c1⟩ := chg_on (ps := ps) hd
  refine Sm.run ?_
  unfold g_p_levels_behind
  walk_at "lw n"
  walk_at "lw e"
  (refine Sm.fmono (changeG hs ht hd) fun r o h => ?_; obtain ⟨d, rfl, rfl⟩ := h; refine ⟨nref, ?_⟩; walk_at "lw v"; walk_at "lw e")
  walk_at "lw n"
  walk_at "lw e"
  have hg : gList lv = some (.fresh (ls.map PyData.int)) := by rcases hv with rfl | rfl <;> rfl
  refine ⟨hg, ?_⟩
  walk_at "lw e"
  walk_at "lw n"
  by_cases h : (chg ps d).1 > 0
  · walk_at "lw e"
    refine iteDT h ?_
    walk_at "lw e"
    refine ⟨ix_in (by omega) (by rw [List.length_map]; omega), ?_⟩
    refine ⟨ls_at (by omega), ?_⟩
    walk_at "lw e"
    walk_at "lw n"
    have e1 : ((chg ps d).1 - 1).toNat = (chg ps d).1.toNat - 1 := by omega
    rw [e1, set_ints]
    have e2 : ls.set ((chg ps d).1.toNat - 1) (ls.getD ((chg ps d).1.toNat - 1) 0 + (chg ps d).2) = add1 ls (chg ps d).1 (chg ps d).2 := by unfold add1; rw [if_pos h]
    rw [e2]
    walk_at "lw e"
    (refine Sm.fmono (run_overG hs (.inl rfl) hp (by rw [add1_len]; omega)) fun r o h => ?_; obtain ⟨d, rfl, rfl⟩ := h; refine ⟨nref, ?_⟩; walk_at "lw v"; walk_at "lw e")
    exact ⟨_, rfl, rfl⟩
  · walk_at "lw e"
    refine iteDF h ?_
    walk_at "lw e"
    have e2 : add1 ls (chg ps d).1 (chg ps d).2 = ls := by unfold add1; rw [if_neg h]
    rw [e2]
    (refine Sm.fmono (run_overG hs (.inl rfl) hp (by omega)) fun r o h => ?_; obtain ⟨d, rfl, rfl⟩ := h; refine ⟨nref, ?_⟩; walk_at "lw v"; walk_at "lw e")
    exact ⟨_, rfl, rfl⟩
def chD (b : Bool) : D := .str (if b = true then "high" else "low")
def Chs (t : D) (bs : List Bool) : Prop := items t = some (bs.map chD)
def turn (bs : List Bool) : Dd → List Bool
  | .fill l => bs.set (l - 1) true
  | .empty l => bs.set (l - 1) false
  | _ => bs
def shut (bs : List Bool) : Dd → Bool
  | .fill l => bs.getD (l - 1) false
  | .empty l => !bs.getD (l - 1) false
  | _ => false
theorem Chs.ix {t : D} {bs : List Bool} (h : Chs t bs) {l : Nat} (h0 : 1 ≤ l) (h1 : l ≤ bs.length) : gIx t (.int ((l : Int) - 1)) = some (.pure (chD (bs.getD (l - 1) false))) := by
  have hlt : l - 1 < bs.length := by omega
  rw [ix_items h (by omega) (by rw [List.length_map]; omega)]
  have e : ((l : Int) - 1).toNat = l - 1 := by omega
  rw [e, List.getD_eq_getElem?_getD, List.getElem?_map, List.getD_eq_getElem?_getD, List.getElem?_eq_getElem hlt]
  rfl
theorem chD_set (bs : List Bool) (i : Nat) (b : Bool) : (bs.map chD).set i (chD b) = (bs.set i b).map chD := by rw [List.map_set]
theorem chambersG {cv t : D} {bs : List Bool} {d : Dd} (hc : Chs cv bs) (ht : Dt t d) (hd : d.On bs.length) (hl : bs.length ≤ 1000) : wpf m_p_chambers_behind [.pure cv, .pure t] (ValQ fun x => x = .tuple ((turn bs d).map chD)) := by
  have hsl : sizeLine = 16777216 := rfl
  obtain ⟨h1, h2⟩ := hd
  have hg : gList cv = some (.fresh (bs.map chD)) := by rcases items_cases hc with rfl | rfl <;> rfl
  refine Sm.run ?_
  unfold g_p_chambers_behind
  walk_at "lw n"
  cases d with
  | fill l =>
    have a : 1 ≤ l := h1
    have b : l ≤ bs.length := h2
    rcases items_cases ht with rfl | rfl
    all_goals
      walk_at "lw e"
      refine ⟨hg, ?_⟩
      walk_at "lw e"
      refine ⟨ix_in (by omega) (by rw [List.length_map]; omega), ?_⟩
      walk_at "lw n"
      rw [show ((l : Int) - 1).toNat = l - 1 by omega, show PyData.str (Str.ofString "high") = chD true from rfl, chD_set]
      walk_at "lw e"
      exact ⟨_, rfl, rfl⟩
  | empty l =>
    have a : 1 ≤ l := h1
    have b : l ≤ bs.length := h2
    rcases items_cases ht with rfl | rfl
    all_goals
      walk_at "lw e"
      refine ⟨hg, ?_⟩
      walk_at "lw e"
      refine ⟨ix_in (by omega) (by rw [List.length_map]; omega), ?_⟩
      walk_at "lw n"
      rw [show ((l : Int) - 1).toNat = l - 1 by omega, show PyData.str (Str.ofString "low") = chD false from rfl, chD_set]
      walk_at "lw e"
      exact ⟨_, rfl, rfl⟩
  | raise l m =>
    rcases items_cases ht with rfl | rfl
    all_goals
      walk_at "lw e"
      refine ⟨hg, ?_⟩
      walk_at "lw e"
      exact ⟨_, rfl, rfl⟩
  | lower l m =>
    rcases items_cases ht with rfl | rfl
    all_goals
      walk_at "lw e"
      refine ⟨hg, ?_⟩
      walk_at "lw e"
      exact ⟨_, rfl, rfl⟩
theorem shutG {cv t : D} {bs : List Bool} {d : Dd} (hc : Chs cv bs) (ht : Dt t d) (hd : d.On bs.length) : wpf m_p_is_shut [.pure cv, .pure t] (ValQ fun x => x = .bool (shut bs d)) := by
  obtain ⟨h1, h2⟩ := hd
  refine Sm.run ?_
  unfold g_p_is_shut
  walk_at "lw n"
  cases d with
  | fill l =>
    have ix : gIx cv (.int ((l : Int) - 1)) = some (.pure (chD (bs.getD (l - 1) false))) := hc.ix h1 h2
    rcases items_cases ht with rfl | rfl
    all_goals
      walk_at "lw e"
      refine ⟨ix, ?_⟩
      walk_at "lw e"
      refine ⟨_, rfl, ?_⟩
      show _ = PyData.bool (bs.getD (l - 1) false)
      cases bs.getD (l - 1) false <;> rfl
  | empty l =>
    have ix : gIx cv (.int ((l : Int) - 1)) = some (.pure (chD (bs.getD (l - 1) false))) := hc.ix h1 h2
    rcases items_cases ht with rfl | rfl
    all_goals
      walk_at "lw e"
      refine ⟨ix, ?_⟩
      walk_at "lw e"
      refine ⟨_, rfl, ?_⟩
      show _ = PyData.bool (!bs.getD (l - 1) false)
      cases bs.getD (l - 1) false <;> rfl
  | raise l m => rcases items_cases ht with rfl | rfl <;> (walk_at "lw e"; exact ⟨_, rfl, rfl⟩)
  | lower l m => rcases items_cases ht with rfl | rfl <;> (walk_at "lw e"; exact ⟨_, rfl, rfl⟩)
def asks (ps : List (Int × Int × Int)) (d : Dd) : Int := (pAt ps ((chg ps d).1.toNat - 1)).1 - (chg ps d).2
def dry (ps : List (Int × Int × Int)) (ls : List Int) (d : Dd) : Bool := if (chg ps d).2 ≥ 0 then false else decide (ls.getD ((chg ps d).1.toNat - 1) 0 < asks ps d)
def Down (ps : List (Int × Int × Int)) (d : Dd) : Prop := (chg ps d).2 < 0 → 1 ≤ (chg ps d).1
theorem askedG {st t : D} {xs : List D} {ps : List (Int × Int × Int)} {d : Dd} (hs : StairG st xs ps) (ht : Dt t d) (hd : d.On ps.length) (hdn : Down ps d) : wpf m_p_asked_by [.pure st, .pure t] (ValQ fun x => x = if (chg ps d).2 ≥ 0 then .none else .tuple [.int (chg ps d).1, .int (asks ps d)]) := by
  obtain ⟨c0, c1⟩ := chg_on (ps := ps) hd
  refine Sm.run ?_
  unfold g_p_asked_by
  walk_at "lw n"
  walk_at "lw e"
  (refine Sm.fmono (changeG hs ht hd) fun r o h => ?_; obtain ⟨d, rfl, rfl⟩ := h; refine ⟨nref, ?_⟩; walk_at "lw v"; walk_at "lw e")
  walk_at "lw n"
  by_cases h : (chg ps d).2 ≥ 0
  · walk_at "lw e"
    refine iteDT h ?_
    walk_at "lw e"
    exact ⟨_, rfl, by rw [if_pos h]⟩
  · have h1 := hdn (by omega)
    obtain ⟨x, i1, i2⟩ := hs.ix (l := (chg ps d).1.toNat) (by omega) (by omega)
    rw [show (((chg ps d).1.toNat : Nat) : Int) - 1 = (chg ps d).1 - 1 by omega] at i1
    have i3 := i2.a
    walk_at "lw e"
    refine iteDF h ?_
    walk_at "lw e"
    refine ⟨i1, ?_⟩
    walk_at "lw e"
    refine ⟨i3, ?_⟩
    walk_at "lw e"
    exact ⟨_, rfl, by rw [if_neg h]; rfl⟩
theorem dryG {st lv t : D} {xs : List D} {ps : List (Int × Int × Int)} {ls : List Int} {d : Dd} (hs : StairG st xs ps) (hv : Seq lv ls) (ht : Dt t d) (hd : d.On ps.length) (hdn : Down ps d) (hl : ls.length = ps.length) : wpf m_p_is_dry [.pure st, .pure lv, .pure t] (ValQ fun x => x = .bool (dry ps ls d)) := by
  obtain ⟨c0, c1⟩ := chg_on (ps := ps) hd
  refine Sm.run ?_
  unfold g_p_is_dry
  walk_at "lw n"
  walk_at "lw e"
  (refine Sm.fmono (askedG hs ht hd hdn) fun r o h => ?_; obtain ⟨d, rfl, rfl⟩ := h; refine ⟨nref, ?_⟩; walk_at "lw v"; walk_at "lw e")
  by_cases h : (chg ps d).2 ≥ 0
  · rw [if_pos h]
    walk_at "lw n"
    walk_at "lw e"
    exact ⟨_, rfl, by unfold dry; rw [if_pos h]⟩
  · have h1 := hdn (by omega)
    have i1 : gIx lv (.int ((chg ps d).1 - 1)) = some (.pure (.int (ls.getD ((chg ps d).1.toNat - 1) 0))) := by
      rw [ix_items hv.items (by omega) (by rw [List.length_map]; omega), show ((chg ps d).1 - 1).toNat = (chg ps d).1.toNat - 1 by omega, List.getD_eq_getElem?_getD, ls_at (by omega)]
      rfl
    rw [if_neg h]
    walk_at "lw n"
    walk_at "lw e"
    refine ⟨i1, ?_⟩
    walk_at "lw e"
    exact ⟨_, rfl, by unfold dry; rw [if_neg h]⟩
end Lw
-- F2
namespace Lw
open PySem PySem.Spec PyProof.Rows L2
local macro_rules | `(tactic| walk_at "lw e") => `(tactic| (repeat (first | (with_reducible apply Exists.intro) | ((with_reducible refine And.intro ?_ ?_); · (first | (with_reducible exact pw_7) | (with_reducible exact pw_6) | (with_reducible exact pw_15) | (with_reducible exact pw_18) | (with_reducible exact pw_19) | (with_reducible exact pw_30) | (with_reducible exact pw_40) | (with_reducible exact tix0) | (with_reducible exact tix1) | (with_reducible exact tix2) | ((with_reducible apply mul_r); decide) | ((with_reducible apply mul_l); decide) | ((with_reducible apply div_i); decide) | ((with_reducible apply in_R); decide) | ((fail_if_success (with_reducible apply mul_r)); (fail_if_success (with_reducible apply div_i)); (fail_if_success (with_reducible apply dm_int)); (fail_if_success (with_reducible apply in_R)); rfl) | (exact Nat.le_of_ble_eq_true rfl) | (simp [refsOf]; done) | (exact ⟨rfl, rfl, by decide⟩) | (exact ⟨rfl, rfl, rfl⟩) | ((with_reducible apply tgN_o); (focus rfl); (focus (first | assumption | trivial))))) | ((with_reducible apply Sm.vrP); (focus rfl)) | ((with_reducible apply Sm.vrO); (focus rfl)) | (with_reducible refine Sm.cn ?_) | (with_reducible refine Sm.op2 ?_) | (with_reducible refine Sm.argV ?_) | (with_reducible refine Sm.callE ?_) | (with_reducible refine Sm.cal1 ?_) | (with_reducible refine Sm.sq ?_) | (with_reducible refine Sm.asgS ?_) | (with_reducible refine Sm.asg ?_) | (with_reducible refine Sm.retS ?_) | (with_reducible refine Sm.ifS ?_) | (with_reducible refine Sm.argN ?_) | (with_reducible refine Sm.tst ?_) | (with_reducible refine Sm.tupE ?_) | (with_reducible refine Sm.lstE ?_) | (with_reducible refine Sm.isE ?_) | (with_reducible refine Sm.argR ?_) | (with_reducible refine Sm.tru ?_) | (with_reducible refine Sm.andT ?_) | (with_reducible refine Sm.orT ?_) | (with_reducible refine Sm.notT ?_) | (with_reducible refine Sm.andV ?_) | (with_reducible refine Sm.orV ?_) | (with_reducible refine Sm.notV ?_) | (with_reducible refine Sm.negV ?_) | (with_reducible refine Sm.ife ?_) | (with_reducible refine Sm.chn ?_) | (with_reducible refine Sm.callF ?_) | (with_reducible refine Sm.slE ?_) | (with_reducible refine Sm.ptN ?_) | (with_reducible refine Sm.ptS ?_) | (with_reducible refine Sm.revE ?_) | (with_reducible refine Sm.mth ?_) | (with_reducible refine Sm.ret ?_) | (with_reducible refine Sm.esc ?_) | (with_reducible refine Sm.itS ?_) | (with_reducible refine Sm.itR1 ?_) | (with_reducible refine Sm.itR2 ?_) | (with_reducible refine Sm.itE ?_) | (with_reducible refine Sm.itZ ?_) | (with_reducible refine Sm.lcE2 ?_) | (with_reducible refine Sm.pvF ?_) | (with_reducible refine Sm.pvT ?_) | (with_reducible refine Sm.asgO ?_) | (with_reducible refine Sm.exS ?_) | (with_reducible refine Sm.skip ?_) | (with_reducible refine Sm.par2 ?_) | (with_reducible refine Sm.par3 ?_) | (with_reducible refine Sm.forS ?_) | (with_reducible refine Sm.at_nx ?_) | (with_reducible refine Sm.at_rt ?_) | (with_reducible refine Sm.oP ?_) | (with_reducible refine Sm.oF ?_) | (with_reducible refine Sm.fP ?_) | (with_reducible refine Sm.fF ?_) | (with_reducible refine Sm.itZ2 ?_) | (with_reducible refine Sm.itZ3 ?_) | (with_reducible refine Sm.itEn ?_) | (with_reducible refine Sm.argX ?_) | (with_reducible refine Sm.repE ?_) | ((with_reducible apply Sm.augI); (focus rfl)) | ((with_reducible refine Sm.dicE ?_ ?_); (focus decide)) | (with_reducible refine Sm.lzE ?_) | (with_reducible refine Sm.itV ?_) | (with_reducible refine Sm.itR3 ?_) | (with_reducible refine Sm.itRv1 ?_) | (with_reducible refine Sm.itRv2 ?_) | ((with_reducible apply Sm.augS); (focus rfl)) | (with_reducible refine iteTT ?_) | (with_reducible refine iteT ?_) | (with_reducible refine iteF ?_) | ((with_reducible refine iteB1 ?_ ?_); (focus rfl)) | ((with_reducible refine iteB0 ?_ ?_); (focus rfl)))))
local macro_rules | `(tactic| walk_at "lw n") => `(tactic| (try dsimp only [ent, List.map, Nat.reduceAdd, Nat.reduceSub, List.length_cons, List.length_nil, List.replicate_succ, List.replicate_zero, List.cons_append, List.nil_append, putBack, setOwn, List.getElem?_cons_zero, List.getElem?_cons_succ, List.set_cons_zero, List.set_cons_succ, Sm.nf]))
local macro_rules | `(tactic| walk_at "lw v") => `(tactic| (try simp only [pb1, pb2, pb3, pb4]))
/-! ### fault_of, done, gone -/
structure Stand (t : D) (ls : List Int) (bs : List Bool) : Prop where
  ex : ∃ lv cv, items t = some [lv, cv] ∧ Seq lv ls ∧ Chs cv bs
theorem tgT2_i {i j : Nat} {t x y : D} {ς : En} {a b : Option S} (h : items t = some [x, y]) (h1 : ς[i]? = some a) (f1 : Fr a) (h2 : (ς.set i (some (.pure x)))[j]? = some b) (f2 : Fr b) : tgT 2 (tgsC (tgN i) (tgsC (tgN j) tgsN)) t ς = some ((ς.set i (some (.pure x))).set j (some (.pure y))) := by
  unfold tgT
  rw [h]
  show tgsC (tgN i) (tgsC (tgN j) tgsN) [x, y] ς = _
  rw [tgsC_o h1 f1, tgsC_o h2 f2]
  rfl
def fault (ps : List (Int × Int × Int)) (ls : List Int) (bs : List Bool) (d : Dd) : D := if shut bs d = true then .tuple [.str "shut", .int d.at] else if dry ps ls d = true then .tuple [.str "dry", .int d.at] else .none
theorem Dt.p1 {t : D} {d : Dd} (h : Dt t d) : gIx t (.int 1) = some (.pure (.int d.at)) := by
  rcases items_cases h with rfl | rfl <;> (cases d <;> rfl)
theorem faultG {st sd t : D} {xs : List D} {ps : List (Int × Int × Int)} {ls : List Int} {bs : List Bool} {d : Dd} (hs : StairG st xs ps) (hd : Stand sd ls bs) (ht : Dt t d) (ho : d.On ps.length) (hdn : Down ps d) (hl : ls.length = ps.length) (hb : bs.length = ps.length) : wpf m_p_fault_of [.pure st, .pure sd, .pure t] (ValQ fun x => x = fault ps ls bs d) := by
  obtain ⟨lv, cv, ei, hv, hc⟩ := hd.ex
  refine Sm.run ?_
  unfold g_p_fault_of
  walk_at "lw n"
  have hsh := shutG hc ht (by rw [hb]; exact ho)
  have hdr := dryG hs hv ht ho hdn hl
  have p1 := ht.p1
  cases qs : shut bs d with
  | true =>
    rw [qs] at hsh
    walk_at "lw e"
    refine ⟨tgT2_i ei rfl trivial rfl trivial, ?_⟩
    walk_at "lw n"
    walk_at "lw e"
    (refine Sm.fmono (hsh) fun r o h => ?_; obtain ⟨d, rfl, rfl⟩ := h; refine ⟨nref, ?_⟩; walk_at "lw v"; walk_at "lw e")
    walk_at "lw n"
    walk_at "lw e"
    refine ⟨p1, ?_⟩
    walk_at "lw e"
    exact ⟨_, rfl, by unfold fault; rw [if_pos qs]⟩
  | false =>
    rw [qs] at hsh
    cases qd : dry ps ls d with
    | true =>
      rw [qd] at hdr
      walk_at "lw e"
      refine ⟨tgT2_i ei rfl trivial rfl trivial, ?_⟩
      walk_at "lw n"
      walk_at "lw e"
      (refine Sm.fmono (hsh) fun r o h => ?_; obtain ⟨d, rfl, rfl⟩ := h; refine ⟨nref, ?_⟩; walk_at "lw v"; walk_at "lw e")
      walk_at "lw n"
      walk_at "lw e"
      (refine Sm.fmono (hdr) fun r o h => ?_; obtain ⟨d, rfl, rfl⟩ := h; refine ⟨nref, ?_⟩; walk_at "lw v"; walk_at "lw e")
      walk_at "lw n"
      walk_at "lw e"
      refine ⟨p1, ?_⟩
      walk_at "lw e"
      exact ⟨_, rfl, by unfold fault; rw [if_neg (by rw [qs]; decide), if_pos qd]⟩
    | false =>
      rw [qd] at hdr
      walk_at "lw e"
      refine ⟨tgT2_i ei rfl trivial rfl trivial, ?_⟩
      walk_at "lw n"
      walk_at "lw e"
      (refine Sm.fmono (hsh) fun r o h => ?_; obtain ⟨d, rfl, rfl⟩ := h; refine ⟨nref, ?_⟩; walk_at "lw v"; walk_at "lw e")
      walk_at "lw n"
      walk_at "lw e"
      (refine Sm.fmono (hdr) fun r o h => ?_; obtain ⟨d, rfl, rfl⟩ := h; refine ⟨nref, ?_⟩; walk_at "lw v"; walk_at "lw e")
      walk_at "lw n"
      walk_at "lw e"
      exact ⟨_, rfl, by unfold fault; rw [if_neg (by rw [qs]; decide), if_neg (by rw [qd]; decide)]⟩
def aft (ps : List (Int × Int × Int)) (ls : List Int) (d : Dd) : List Int := (ov (ps.zip (add1 ls (chg ps d).1 (chg ps d).2))).1
def spl (ps : List (Int × Int × Int)) (ls : List Int) (d : Dd) : List Int := (ov (ps.zip (add1 ls (chg ps d).1 (chg ps d).2))).2.1
theorem aft_len {ps : List (Int × Int × Int)} {ls : List Int} {d : Dd} (hl : ls.length = ps.length) : (aft ps ls d).length = ps.length ∧ (spl ps ls d).length = ps.length := by
  obtain ⟨h1, h2⟩ := ov_len (ps.zip (add1 ls (chg ps d).1 (chg ps d).2))
  have e : (ps.zip (add1 ls (chg ps d).1 (chg ps d).2)).length = ps.length := by rw [List.length_zip, add1_len, hl]; omega
  exact ⟨by unfold aft; rw [h1, e], by unfold spl; rw [h2, e]⟩
def sD (ls : List Int) (bs : List Bool) : D := .tuple [it ls, .tuple (bs.map chD)]
theorem sD_stand (ls : List Int) (bs : List Bool) : Stand (sD ls bs) ls bs := ⟨⟨it ls, .tuple (bs.map chD), rfl, .inr rfl, rfl⟩⟩
def Let (ps : List (Int × Int × Int)) (ls : List Int) (bs : List Bool) (d : Dd) : Prop := shut bs d = false ∧ dry ps ls d = false
theorem doneG {st sd t : D} {xs : List D} {ps : List (Int × Int × Int)} {ls : List Int} {bs : List Bool} {d : Dd} (hs : StairG st xs ps) (hd : Stand sd ls bs) (ht : Dt t d) (ho : d.On ps.length) (hdn : Down ps d) (hp : ps.length ≤ 1000) (hl : ls.length = ps.length) (hb : bs.length = ps.length) (hlet : Let ps ls bs d) : wpf m_p_done [.pure st, .pure sd, .pure t] (ValQ fun x => x = .tuple [sD (aft ps ls d) (turn bs d), it (spl ps ls d)]) := by
  obtain ⟨lv, cv, ei, hv, hc⟩ := hd.ex
  have hf := faultG hs hd ht ho hdn hl hb
  have ef : fault ps ls bs d = .none := by unfold fault; rw [if_neg (by rw [hlet.1]; decide), if_neg (by rw [hlet.2]; decide)]
  rw [ef] at hf
  refine Sm.run ?_
  unfold g_p_done
  walk_at "lw n"
  walk_at "lw e"
  (refine Sm.fmono (hf) fun r o h => ?_; obtain ⟨d, rfl, rfl⟩ := h; refine ⟨nref, ?_⟩; walk_at "lw v"; walk_at "lw e")
  walk_at "lw n"
  walk_at "lw e"
  refine ⟨tgT2_i ei rfl trivial rfl trivial, ?_⟩
  walk_at "lw n"
  walk_at "lw e"
  (refine Sm.fmono (levelsG hs hv ht ho hp hl) fun r o h => ?_; obtain ⟨d, rfl, rfl⟩ := h; refine ⟨nref, ?_⟩; walk_at "lw v"; walk_at "lw e")
  walk_at "lw n"
  walk_at "lw e"
  (refine Sm.fmono (chambersG hc ht (by rw [hb]; exact ho) (by omega)) fun r o h => ?_; obtain ⟨d, rfl, rfl⟩ := h; refine ⟨nref, ?_⟩; walk_at "lw v"; walk_at "lw e")
  walk_at "lw n"
  walk_at "lw e"
  exact ⟨_, rfl, rfl⟩
end Lw
-- F2
namespace Lw
open PySem PySem.Spec PyProof.Rows L2
local macro_rules | `(tactic| walk_at "lw e") => `(tactic| (repeat (first | (with_reducible apply Exists.intro) | ((with_reducible refine And.intro ?_ ?_); · (first | (with_reducible exact pw_7) | (with_reducible exact pw_6) | (with_reducible exact pw_15) | (with_reducible exact pw_18) | (with_reducible exact pw_19) | (with_reducible exact pw_30) | (with_reducible exact pw_40) | (with_reducible exact tix0) | (with_reducible exact tix1) | (with_reducible exact tix2) | ((with_reducible apply mul_r); decide) | ((with_reducible apply mul_l); decide) | ((with_reducible apply div_i); decide) | ((with_reducible apply in_R); decide) | ((fail_if_success (with_reducible apply mul_r)); (fail_if_success (with_reducible apply div_i)); (fail_if_success (with_reducible apply dm_int)); (fail_if_success (with_reducible apply in_R)); rfl) | (exact Nat.le_of_ble_eq_true rfl) | (simp [refsOf]; done) | (exact ⟨rfl, rfl, by decide⟩) | (exact ⟨rfl, rfl, rfl⟩) | ((with_reducible apply tgN_o); (focus rfl); (focus (first | assumption | trivial))))) | ((with_reducible apply Sm.vrP); (focus rfl)) | ((with_reducible apply Sm.vrO); (focus rfl)) | (with_reducible refine Sm.cn ?_) | (with_reducible refine Sm.op2 ?_) | (with_reducible refine Sm.argV ?_) | (with_reducible refine Sm.callE ?_) | (with_reducible refine Sm.cal1 ?_) | (with_reducible refine Sm.sq ?_) | (with_reducible refine Sm.asgS ?_) | (with_reducible refine Sm.asg ?_) | (with_reducible refine Sm.retS ?_) | (with_reducible refine Sm.ifS ?_) | (with_reducible refine Sm.argN ?_) | (with_reducible refine Sm.tst ?_) | (with_reducible refine Sm.tupE ?_) | (with_reducible refine Sm.lstE ?_) | (with_reducible refine Sm.isE ?_) | (with_reducible refine Sm.argR ?_) | (with_reducible refine Sm.tru ?_) | (with_reducible refine Sm.andT ?_) | (with_reducible refine Sm.orT ?_) | (with_reducible refine Sm.notT ?_) | (with_reducible refine Sm.andV ?_) | (with_reducible refine Sm.orV ?_) | (with_reducible refine Sm.notV ?_) | (with_reducible refine Sm.negV ?_) | (with_reducible refine Sm.ife ?_) | (with_reducible refine Sm.chn ?_) | (with_reducible refine Sm.callF ?_) | (with_reducible refine Sm.slE ?_) | (with_reducible refine Sm.ptN ?_) | (with_reducible refine Sm.ptS ?_) | (with_reducible refine Sm.revE ?_) | (with_reducible refine Sm.mth ?_) | (with_reducible refine Sm.ret ?_) | (with_reducible refine Sm.esc ?_) | (with_reducible refine Sm.itS ?_) | (with_reducible refine Sm.itR1 ?_) | (with_reducible refine Sm.itR2 ?_) | (with_reducible refine Sm.itE ?_) | (with_reducible refine Sm.itZ ?_) | (with_reducible refine Sm.lcE2 ?_) | (with_reducible refine Sm.pvF ?_) | (with_reducible refine Sm.pvT ?_) | (with_reducible refine Sm.asgO ?_) | (with_reducible refine Sm.exS ?_) | (with_reducible refine Sm.skip ?_) | (with_reducible refine Sm.par2 ?_) | (with_reducible refine Sm.par3 ?_) | (with_reducible refine Sm.forS ?_) | (with_reducible refine Sm.at_nx ?_) | (with_reducible refine Sm.at_rt ?_) | (with_reducible refine Sm.oP ?_) | (with_reducible refine Sm.oF ?_) | (with_reducible refine Sm.fP ?_) | (with_reducible refine Sm.fF ?_) | (with_reducible refine Sm.itZ2 ?_) | (with_reducible refine Sm.itZ3 ?_) | (with_reducible refine Sm.itEn ?_) | (with_reducible refine Sm.argX ?_) | (with_reducible refine Sm.repE ?_) | ((with_reducible apply Sm.augI); (focus rfl)) | ((with_reducible refine Sm.dicE ?_ ?_); (focus decide)) | (with_reducible refine Sm.lzE ?_) | (with_reducible refine Sm.itV ?_) | (with_reducible refine Sm.itR3 ?_) | (with_reducible refine Sm.itRv1 ?_) | (with_reducible refine Sm.itRv2 ?_) | ((with_reducible apply Sm.augS); (focus rfl)) | (with_reducible refine iteTT ?_) | (with_reducible refine iteT ?_) | (with_reducible refine iteF ?_) | ((with_reducible refine iteB1 ?_ ?_); (focus rfl)) | ((with_reducible refine iteB0 ?_ ?_); (focus rfl)))))
local macro_rules | `(tactic| walk_at "lw n") => `(tactic| (try dsimp only [ent, List.map, Nat.reduceAdd, Nat.reduceSub, List.length_cons, List.length_nil, List.replicate_succ, List.replicate_zero, List.cons_append, List.nil_append, putBack, setOwn, List.getElem?_cons_zero, List.getElem?_cons_succ, List.set_cons_zero, List.set_cons_succ, Sm.nf]))
local macro_rules | `(tactic| walk_at "lw v") => `(tactic| (try simp only [pb1, pb2, pb3, pb4]))
structure DeedsG (t : D) (ts : List D) (ds : List Dd) : Prop where
  its : items t = some ts
  len : ts.length = ds.length
  ok : ∀ (i : Nat) x d, ts[i]? = some x → ds[i]? = some d → Dt x d
abbrev Gs := List Int × List Bool × List Int
def gst (ps : List (Int × Int × Int)) (s : Gs) (d : Dd) : Gs := (aft ps s.1 d, turn s.2.1 d, (s.2.2.zip (spl ps s.1 d)).map fun p => p.1 + p.2)
def gn (ps : List (Int × Int × Int)) (s : Gs) (ds : List Dd) : Gs := ds.foldl (gst ps) s
end Lw
-- F2
namespace Lw
open PySem PySem.Spec PyProof.Rows L2
local macro_rules | `(tactic| walk_at "lw e") => `(tactic| (repeat (first | (with_reducible apply Exists.intro) | ((with_reducible refine And.intro ?_ ?_); · (first | (with_reducible exact pw_7) | (with_reducible exact pw_6) | (with_reducible exact pw_15) | (with_reducible exact pw_18) | (with_reducible exact pw_19) | (with_reducible exact pw_30) | (with_reducible exact pw_40) | (with_reducible exact tix0) | (with_reducible exact tix1) | (with_reducible exact tix2) | ((with_reducible apply mul_r); decide) | ((with_reducible apply mul_l); decide) | ((with_reducible apply div_i); decide) | ((with_reducible apply in_R); decide) | ((fail_if_success (with_reducible apply mul_r)); (fail_if_success (with_reducible apply div_i)); (fail_if_success (with_reducible apply dm_int)); (fail_if_success (with_reducible apply in_R)); rfl) | (exact Nat.le_of_ble_eq_true rfl) | (simp [refsOf]; done) | (exact ⟨rfl, rfl, by decide⟩) | (exact ⟨rfl, rfl, rfl⟩) | ((with_reducible apply tgN_o); (focus rfl); (focus (first | assumption | trivial))))) | ((with_reducible apply Sm.vrP); (focus rfl)) | ((with_reducible apply Sm.vrO); (focus rfl)) | (with_reducible refine Sm.cn ?_) | (with_reducible refine Sm.op2 ?_) | (with_reducible refine Sm.argV ?_) | (with_reducible refine Sm.callE ?_) | (with_reducible refine Sm.cal1 ?_) | (with_reducible refine Sm.sq ?_) | (with_reducible refine Sm.asgS ?_) | (with_reducible refine Sm.asg ?_) | (with_reducible refine Sm.retS ?_) | (with_reducible refine Sm.ifS ?_) | (with_reducible refine Sm.argN ?_) | (with_reducible refine Sm.tst ?_) | (with_reducible refine Sm.tupE ?_) | (with_reducible refine Sm.lstE ?_) | (with_reducible refine Sm.isE ?_) | (with_reducible refine Sm.argR ?_) | (with_reducible refine Sm.tru ?_) | (with_reducible refine Sm.andT ?_) | (with_reducible refine Sm.orT ?_) | (with_reducible refine Sm.notT ?_) | (with_reducible refine Sm.andV ?_) | (with_reducible refine Sm.orV ?_) | (with_reducible refine Sm.notV ?_) | (with_reducible refine Sm.negV ?_) | (with_reducible refine Sm.ife ?_) | (with_reducible refine Sm.chn ?_) | (with_reducible refine Sm.callF ?_) | (with_reducible refine Sm.slE ?_) | (with_reducible refine Sm.ptN ?_) | (with_reducible refine Sm.ptS ?_) | (with_reducible refine Sm.revE ?_) | (with_reducible refine Sm.mth ?_) | (with_reducible refine Sm.ret ?_) | (with_reducible refine Sm.esc ?_) | (with_reducible refine Sm.itS ?_) | (with_reducible refine Sm.itR1 ?_) | (with_reducible refine Sm.itR2 ?_) | (with_reducible refine Sm.itE ?_) | (with_reducible refine Sm.itZ ?_) | (with_reducible refine Sm.lcE2 ?_) | (with_reducible refine Sm.pvF ?_) | (with_reducible refine Sm.pvT ?_) | (with_reducible refine Sm.asgO ?_) | (with_reducible refine Sm.exS ?_) | (with_reducible refine Sm.skip ?_) | (with_reducible refine Sm.par2 ?_) | (with_reducible refine Sm.par3 ?_) | (with_reducible refine Sm.forS ?_) | (with_reducible refine Sm.at_nx ?_) | (with_reducible refine Sm.at_rt ?_) | (with_reducible refine Sm.oP ?_) | (with_reducible refine Sm.oF ?_) | (with_reducible refine Sm.fP ?_) | (with_reducible refine Sm.fF ?_) | (with_reducible refine Sm.itZ2 ?_) | (with_reducible refine Sm.itZ3 ?_) | (with_reducible refine Sm.itEn ?_) | (with_reducible refine Sm.argX ?_) | (with_reducible refine Sm.repE ?_) | ((with_reducible apply Sm.augI); (focus rfl)) | ((with_reducible refine Sm.dicE ?_ ?_); (focus decide)) | (with_reducible refine Sm.lzE ?_) | (with_reducible refine Sm.itV ?_) | (with_reducible refine Sm.itR3 ?_) | (with_reducible refine Sm.itRv1 ?_) | (with_reducible refine Sm.itRv2 ?_) | ((with_reducible apply Sm.augS); (focus rfl)) | (with_reducible refine iteTT ?_) | (with_reducible refine iteT ?_) | (with_reducible refine iteF ?_) | ((with_reducible refine iteB1 ?_ ?_); (focus rfl)) | ((with_reducible refine iteB0 ?_ ?_); (focus rfl)))))
local macro_rules | `(tactic| walk_at "lw n") => `(tactic| (try dsimp only [ent, List.map, Nat.reduceAdd, Nat.reduceSub, List.length_cons, List.length_nil, List.replicate_succ, List.replicate_zero, List.cons_append, List.nil_append, putBack, setOwn, List.getElem?_cons_zero, List.getElem?_cons_succ, List.set_cons_zero, List.set_cons_succ, Sm.nf]))
local macro_rules | `(tactic| walk_at "lw v") => `(tactic| (try simp only [pb1, pb2, pb3, pb4]))
/-! ### sums_of, stairs and deeds as lists or tuples -/
theorem StairG.glen {st : D} {xs : List D} {ps : List (Int × Int × Int)} (h : StairG st xs ps) : gLen st = some (.pure (.int ps.length)) := by
  rcases items_cases h.its with rfl | rfl
  · show some (R.pure (.int (xs.length : Nat))) = _; rw [h.len]
  · show some (R.pure (.int (xs.length : Nat))) = _; rw [h.len]
def undg (x : D) : Dd := undd (.tuple ((items x).getD []))
theorem undg_dt {x : D} {d : Dd} (h : Dt x d) : undg x = d := by
  unfold undg
  rw [show items x = some (dl d) from h]
  cases d <;> rfl
theorem DeedsG.map {α : Type} {t : D} {ts : List D} {ds : List Dd} (h : DeedsG t ts ds) (f : Dd → α) : ts.map (fun x => f (undg x)) = ds.map f := by
  apply List.ext_getElem?
  intro i
  rw [List.getElem?_map, List.getElem?_map]
  by_cases hi : i < ts.length
  · have hj : i < ds.length := by rw [← h.len]; exact hi
    rw [List.getElem?_eq_getElem hi, List.getElem?_eq_getElem hj]
    show some (f (undg ts[i])) = some (f ds[i])
    rw [undg_dt (h.ok i _ _ (List.getElem?_eq_getElem hi) (List.getElem?_eq_getElem hj))]
  · have hj : ¬ i < ds.length := by rw [← h.len]; exact hi
    rw [List.getElem?_eq_none (by omega), List.getElem?_eq_none (by omega)]
    rfl
end Lw
-- F2
namespace Lw
open PySem PySem.Spec PyProof.Rows L2
local macro_rules | `(tactic| walk_at "lw e") => `(tactic| (repeat (first | (with_reducible apply Exists.intro) | ((with_reducible refine And.intro ?_ ?_); · (first | (with_reducible exact pw_7) | (with_reducible exact pw_6) | (with_reducible exact pw_15) | (with_reducible exact pw_18) | (with_reducible exact pw_19) | (with_reducible exact pw_30) | (with_reducible exact pw_40) | (with_reducible exact tix0) | (with_reducible exact tix1) | (with_reducible exact tix2) | ((with_reducible apply mul_r); decide) | ((with_reducible apply mul_l); decide) | ((with_reducible apply div_i); decide) | ((with_reducible apply in_R); decide) | ((fail_if_success (with_reducible apply mul_r)); (fail_if_success (with_reducible apply div_i)); (fail_if_success (with_reducible apply dm_int)); (fail_if_success (with_reducible apply in_R)); rfl) | (exact Nat.le_of_ble_eq_true rfl) | (simp [refsOf]; done) | (exact ⟨rfl, rfl, by decide⟩) | (exact ⟨rfl, rfl, rfl⟩) | ((with_reducible apply tgN_o); (focus rfl); (focus (first | assumption | trivial))))) | ((with_reducible apply Sm.vrP); (focus rfl)) | ((with_reducible apply Sm.vrO); (focus rfl)) | (with_reducible refine Sm.cn ?_) | (with_reducible refine Sm.op2 ?_) | (with_reducible refine Sm.argV ?_) | (with_reducible refine Sm.callE ?_) | (with_reducible refine Sm.cal1 ?_) | (with_reducible refine Sm.sq ?_) | (with_reducible refine Sm.asgS ?_) | (with_reducible refine Sm.asg ?_) | (with_reducible refine Sm.retS ?_) | (with_reducible refine Sm.ifS ?_) | (with_reducible refine Sm.argN ?_) | (with_reducible refine Sm.tst ?_) | (with_reducible refine Sm.tupE ?_) | (with_reducible refine Sm.lstE ?_) | (with_reducible refine Sm.isE ?_) | (with_reducible refine Sm.argR ?_) | (with_reducible refine Sm.tru ?_) | (with_reducible refine Sm.andT ?_) | (with_reducible refine Sm.orT ?_) | (with_reducible refine Sm.notT ?_) | (with_reducible refine Sm.andV ?_) | (with_reducible refine Sm.orV ?_) | (with_reducible refine Sm.notV ?_) | (with_reducible refine Sm.negV ?_) | (with_reducible refine Sm.ife ?_) | (with_reducible refine Sm.chn ?_) | (with_reducible refine Sm.callF ?_) | (with_reducible refine Sm.slE ?_) | (with_reducible refine Sm.ptN ?_) | (with_reducible refine Sm.ptS ?_) | (with_reducible refine Sm.revE ?_) | (with_reducible refine Sm.mth ?_) | (with_reducible refine Sm.ret ?_) | (with_reducible refine Sm.esc ?_) | (with_reducible refine Sm.itS ?_) | (with_reducible refine Sm.itR1 ?_) | (with_reducible refine Sm.itR2 ?_) | (with_reducible refine Sm.itE ?_) | (with_reducible refine Sm.itZ ?_) | (with_reducible refine Sm.lcE2 ?_) | (with_reducible refine Sm.pvF ?_) | (with_reducible refine Sm.pvT ?_) | (with_reducible refine Sm.asgO ?_) | (with_reducible refine Sm.exS ?_) | (with_reducible refine Sm.skip ?_) | (with_reducible refine Sm.par2 ?_) | (with_reducible refine Sm.par3 ?_) | (with_reducible refine Sm.forS ?_) | (with_reducible refine Sm.at_nx ?_) | (with_reducible refine Sm.at_rt ?_) | (with_reducible refine Sm.oP ?_) | (with_reducible refine Sm.oF ?_) | (with_reducible refine Sm.fP ?_) | (with_reducible refine Sm.fF ?_) | (with_reducible refine Sm.itZ2 ?_) | (with_reducible refine Sm.itZ3 ?_) | (with_reducible refine Sm.itEn ?_) | (with_reducible refine Sm.argX ?_) | (with_reducible refine Sm.repE ?_) | ((with_reducible apply Sm.augI); (focus rfl)) | ((with_reducible refine Sm.dicE ?_ ?_); (focus decide)) | (with_reducible refine Sm.lzE ?_) | (with_reducible refine Sm.itV ?_) | (with_reducible refine Sm.itR3 ?_) | (with_reducible refine Sm.itRv1 ?_) | (with_reducible refine Sm.itRv2 ?_) | ((with_reducible apply Sm.augS); (focus rfl)) | (with_reducible refine iteTT ?_) | (with_reducible refine iteT ?_) | (with_reducible refine iteF ?_) | ((with_reducible refine iteB1 ?_ ?_); (focus rfl)) | ((with_reducible refine iteB0 ?_ ?_); (focus rfl)))))
local macro_rules | `(tactic| walk_at "lw n") => `(tactic| (try dsimp only [ent, List.map, Nat.reduceAdd, Nat.reduceSub, List.length_cons, List.length_nil, List.replicate_succ, List.replicate_zero, List.cons_append, List.nil_append, putBack, setOwn, List.getElem?_cons_zero, List.getElem?_cons_succ, List.set_cons_zero, List.set_cons_succ, Sm.nf]))
local macro_rules | `(tactic| walk_at "lw v") => `(tactic| (try simp only [pb1, pb2, pb3, pb4]))
/-! ### laps whose turns are let -/
def B01 (xs : List Int) : List Bool := xs.map fun x => decide (x = 1)
def turns (bs : List Bool) (ds : List Dd) : List Bool := ds.foldl turn bs
structure Runs (bs : List Bool) (ds : List Dd) (bs' : List Bool) : Prop where
  fin : turns bs ds = bs'
  ok : ∀ (i : Nat) d, ds[i]? = some d → shut (turns bs (ds.take i)) d = false
theorem Runs.nil (bs : List Bool) : Runs bs [] bs := ⟨rfl, fun i d h => by simp at h⟩
theorem Runs.snoc {bs bs' bs2 : List Bool} {ds : List Dd} {d : Dd} (h : Runs bs ds bs') (h1 : shut bs' d = false) (h2 : turn bs' d = bs2) : Runs bs (ds ++ [d]) bs2 := by
  constructor
  · unfold turns
    rw [List.foldl_append]
    show turn (turns bs ds) d = _
    rw [h.fin, h2]
  · intro i e he
    by_cases hi : i < ds.length
    · rw [List.getElem?_append_left hi] at he
      rw [List.take_append_of_le_length (by omega)]
      exact h.ok i e he
    · have hi2 : i = ds.length := by
        have := (List.getElem?_eq_some_iff.mp he).1
        rw [List.length_append, List.length_singleton] at this
        omega
      subst hi2
      rw [List.getElem?_append_right (Nat.le_refl _), Nat.sub_self] at he
      cases he
      rw [List.take_append_of_le_length (Nat.le_refl _), List.take_length, h.fin]
      exact h1
theorem B01_at {xs : List Int} {i : Nat} (h : i < xs.length) : (B01 xs).getD i false = decide (xs.getD i 0 = 1) := by
  unfold B01
  rw [List.getD_eq_getElem?_getD, List.getElem?_map, List.getElem?_eq_getElem h, List.getD_eq_getElem?_getD, List.getElem?_eq_getElem h]
  rfl
theorem B01_set (xs : List Int) (i : Nat) (v : Int) : (B01 xs).set i (decide (v = 1)) = B01 (xs.set i v) := by
  unfold B01
  rw [List.map_set]
theorem turnD2 {v : Int} (h : v = 0 ∨ v = 1) (a : Nat) : ∃ d : Dd, PyData.tuple [.str (turnW v), .int ((a + 1 : Nat) : Int)] = dd d ∧ d.at = a + 1 ∧ (∀ g, d.Sm g) ∧ ∀ now : List Int, now.getD a 0 = v → a < now.length → shut (B01 now) d = false ∧ turn (B01 now) d = B01 (now.set a (1 - v)) := by
  rcases h with rfl | rfl
  · refine ⟨.fill (a + 1), rfl, rfl, fun _ => trivial, fun now e ha => ⟨?_, ?_⟩⟩
    · show (B01 now).getD (a + 1 - 1) false = false
      rw [Nat.add_sub_cancel, B01_at ha, e]
      rfl
    · show (B01 now).set (a + 1 - 1) true = _
      rw [Nat.add_sub_cancel, ← B01_set]
      rfl
  · refine ⟨.empty (a + 1), rfl, rfl, fun _ => trivial, fun now e ha => ⟨?_, ?_⟩⟩
    · show (!(B01 now).getD (a + 1 - 1) false) = false
      rw [Nat.add_sub_cancel, B01_at ha, e]
      rfl
    · show (B01 now).set (a + 1 - 1) false = _
      rw [Nat.add_sub_cancel, ← B01_set]
      rfl
theorem rlD2 (v : Int) (l : Nat) (m : Int) : ∃ d : Dd, PyData.tuple [.str (rlW v), .int (l : Int), .int m] = dd d ∧ d.at = l ∧ (∀ g : Nat, 1 ≤ m → m ≤ 6 * g → d.Sm g) ∧ ∀ bs : List Bool, shut bs d = false ∧ turn bs d = bs := by
  unfold rlW
  by_cases h : v = 0
  · rw [if_pos h]; exact ⟨.lower l m, rfl, rfl, fun g a b => ⟨a, b⟩, fun _ => ⟨rfl, rfl⟩⟩
  · rw [if_neg h]; exact ⟨.raise l m, rfl, rfl, fun g a b => ⟨a, b⟩, fun _ => ⟨rfl, rfl⟩⟩
def LapG (n g cap : Nat) (d : D) : Prop := ∃ (ds : List Dd) (bs : List Bool), d = .tuple [.list (ds.map dd), .tuple (bs.map chD)] ∧ ds.length ≤ cap + n ∧ (∀ d ∈ ds, d.On n ∧ d.Sm g) ∧ bs.length = n ∧ Runs bs ds bs
theorem mid_eq {now fs : List Int} {i : Nat} (ha : i < now.length) (hf : i < fs.length) (q : now.getD i 0 = fs.getD i 0) : fs.take (i + 1) ++ now.drop (i + 1) = fs.take i ++ now.drop i := by
  rw [List.getD_eq_getElem?_getD, List.getElem?_eq_getElem ha, List.getD_eq_getElem?_getD, List.getElem?_eq_getElem hf] at q
  have q : now[i] = fs[i] := q
  rw [List.take_add_one, List.getElem?_eq_getElem hf, List.drop_eq_getElem_cons ha, q, List.append_assoc]
  rfl
theorem mid_lt {now fs : List Int} {i : Nat} (ha : i < now.length) (hf : i < fs.length) : i < (fs.take i ++ now.drop i).length := by
  rw [List.length_append, List.length_take, List.length_drop]; omega
theorem mid_at {now fs : List Int} {i : Nat} (ha : i < now.length) (hf : i < fs.length) : (fs.take i ++ now.drop i).getD i 0 = now.getD i 0 := by
  have hl : (fs.take i).length = i := by rw [List.length_take]; omega
  rw [List.getD_eq_getElem?_getD, List.getElem?_append_right (by omega), hl, Nat.sub_self, List.getElem?_drop, Nat.add_zero, List.getD_eq_getElem?_getD]
theorem mid_set {now fs : List Int} {i : Nat} (ha : i < now.length) (hf : i < fs.length) (h1 : fs.getD i 0 = 0 ∨ fs.getD i 0 = 1) (h2 : now.getD i 0 = 0 ∨ now.getD i 0 = 1) (q : ¬ now.getD i 0 = fs.getD i 0) : (fs.take i ++ now.drop i).set i (1 - now.getD i 0) = fs.take (i + 1) ++ now.drop (i + 1) := by
  have hl : (fs.take i).length = i := by rw [List.length_take]; omega
  have e : 1 - now.getD i 0 = fs.getD i 0 := by omega
  rw [e, List.set_append_right _ _ (by omega), hl, Nat.sub_self, List.drop_eq_getElem_cons ha, List.set_cons_zero, List.take_add_one, List.getElem?_eq_getElem hf, List.getD_eq_getElem?_getD, List.getElem?_eq_getElem hf, List.append_assoc]
  rfl
def chOf : D → D
  | .int v => chD (decide (v = 1))
  | x => x
def ILp2 (c n cap g : Nat) (fs : List Int) (i : Nat) (ς : En) : Prop := ∃ (bs : List D) (now : List Int) (ds : List Dd) (o8 o9 o10 : Option S), ς = [some (.own true bs), some (.pure (.int n)), some (.pure (.int cap)), some (.pure (.int g)), some (.pure (.list (fs.map PyData.int))), none, some (.own false (now.map PyData.int)), some (.own false (ds.map dd)), o8, o9, o10] ∧ now.length = n ∧ (∀ x ∈ now, x = 0 ∨ x = 1) ∧ ds.length = i ∧ (∀ d ∈ ds, d.On n ∧ d.Sm g) ∧ Box (c + 1800 - 48 * i) bs ∧ Fr o8 ∧ Fr o9 ∧ Fr o10 ∧ Runs (B01 fs) ds (B01 now)
def ILq2 (c n cap g k : Nat) (fs : List Int) (i : Nat) (ς : En) : Prop := ∃ (bs : List D) (now : List Int) (ds : List Dd) (o8 o9 o10 : Option S), ς = [some (.own true bs), some (.pure (.int n)), some (.pure (.int cap)), some (.pure (.int g)), some (.pure (.list (fs.map PyData.int))), none, some (.own false (now.map PyData.int)), some (.own false (ds.map dd)), o8, o9, o10] ∧ now.length = n ∧ (∀ x ∈ now, x = 0 ∨ x = 1) ∧ ds.length ≤ k + i ∧ (∀ d ∈ ds, d.On n ∧ d.Sm g) ∧ Box c bs ∧ Fr o8 ∧ Fr o9 ∧ Fr o10 ∧ Runs (B01 fs) ds (B01 (fs.take i ++ now.drop i))
theorem lap2_ok {c n cap g : Nat} {bs : List D} (hn1 : 1 ≤ n) (hn : n ≤ 6) (hcap : cap ≤ 20) (hg : g ≤ 1000000000000000) (hg1 : 1 ≤ g) (hb : Box (c + 2000) bs) : wpf m_l_lap [.own true bs, .pure (.int n), .pure (.int cap), .pure (.int g)] (DrawQ c (LapG n g cap) [.pure (.int n), .pure (.int cap), .pure (.int g)]) := by
  have hsl : sizeLine = 16777216 := rfl
  refine Sm.run ?_
  unfold g_l_lap
  walk_at "lw n"
  walk_at "lw e"
  refine ⟨in_R (by omega), ?_⟩
  walk_at "lw e"
  refine Sm.lcInv (I01 c n cap g) ⟨_, [], rfl, rfl, rfl, (fun x h => by cases h), hb.less (by omega)⟩ (by rw [rngD_len]; omega) ?_ ?_
  · rintro j d acc ς hd hj ⟨bs, ns, rfl, rfl, hns, hR, hb2⟩
    have hjl : j < 6 := by have := (List.getElem?_eq_some_iff.mp hd).1; rw [rngD_len] at this; omega
    refine ⟨_, tgN_o rfl trivial, ?_⟩
    walk_at "lw n"
    walk_at "lw e"
    (refine Sm.fmono (take4 (c := c + 2000 - 16 * (j + 1)) (Box.less hb2 (by omega)) (by omega) (by omega)) fun r o h => ?_; obtain ⟨v1, b1, rfl, l1, u1, h1, rfl⟩ := h; refine ⟨nref, ?_⟩; walk_at "lw n"; walk_at "lw e")
    refine ⟨_, ns ++ [v1], rfl, by simp, by simp [hns], ?_, h1⟩
    intro x hx
    rcases List.mem_append.1 hx with hx | hx
    · exact hR x hx
    · cases List.mem_singleton.1 hx; omega
  · rintro acc ς hacc ⟨bs, fs, rfl, rfl, hfs, hf01, hb2⟩
    rw [rngD_len, Int.toNat_natCast] at hfs hb2
    walk_at "lw e"
    walk_at "lw n"
    walk_at "lw e"
    walk_at "lw n"
    walk_at "lw e"
    (refine Sm.fmono (take4 (c := c + 1800) (Box.less hb2 (by omega)) (by omega) (by omega)) fun r o h => ?_; obtain ⟨v1, b1, rfl, l1, u1, h1, rfl⟩ := h; refine ⟨nref, ?_⟩; walk_at "lw n"; walk_at "lw e")
    refine ⟨in_R (by omega), ?_⟩
    walk_at "lw e"
    refine Sm.loopInv (ILp2 c n cap g fs) ⟨_, fs, [], _, _, _, rfl, hfs, hf01, rfl, (fun d h => by cases h), h1.less (by omega), trivial, trivial, trivial, Runs.nil _⟩ ?_ ?_
    · rintro i d ς hd ⟨bs, now, ds, o8, o9, o10, rfl, hnow, hn01, hdl, hon, hbb, f8, f9, f10, hrun⟩
      obtain ⟨hi, rfl⟩ := rng_at hd
      have hi : i < 21 := by omega
      refine ⟨_, tgN_o rfl f8, ?_⟩
      walk_at "lw n"
      walk_at "lw e"
      (refine Sm.fmono (take4 (c := c + 1800 - 48 * i - 16) (Box.less hbb (by omega)) (by omega) (by omega)) fun r o h => ?_; obtain ⟨v2, b2, rfl, l2, u2, h2, rfl⟩ := h; refine ⟨nref, ?_⟩; walk_at "lw n"; walk_at "lw e")
      (refine Sm.fmono (take4 (c := c + 1800 - 48 * i - 32) (Box.less h2 (by omega)) (by omega) (by omega)) fun r o h => ?_; obtain ⟨v3, b3, rfl, l3, u3, h3, rfl⟩ := h; refine ⟨nref, ?_⟩; walk_at "lw n"; walk_at "lw e")
      refine ⟨⟨fr_free rfl f9, fr_free rfl f10, by decide⟩, ?_⟩
      walk_at "lw n"
      obtain ⟨a, rfl⟩ : ∃ a : Nat, v3 = a := ⟨v3.toNat, by omega⟩
      have ha : a < now.length := by omega
      have h01 := now_at ha hn01
      by_cases hw : v2 < 2
      · walk_at "lw e"
        refine iteDT hw ?_
        walk_at "lw e"
        refine ⟨at_ints ha, ?_⟩
        walk_at "lw e"
        refine ⟨pickT h01, ?_⟩
        walk_at "lw e"
        refine ⟨app_ok (by rw [List.length_map]; omega), ?_⟩
        walk_at "lw n"
        walk_at "lw e"
        refine ⟨at_ints ha, ?_⟩
        walk_at "lw e"
        refine ⟨ix_in (by omega) (by rw [List.length_map]; omega), ?_⟩
        walk_at "lw n"
        obtain ⟨d, e1, e2, e3, e4⟩ := turnD2 h01 a
        rw [show ((a : Int) + 1) = ((a + 1 : Nat) : Int) by omega, e1, Int.toNat_natCast, set_ints, mapD_app]
        refine ⟨_, now.set a (1 - now.getD a 0), ds ++ [d], _, _, _, rfl, by rw [List.length_set]; exact hnow, ?_, by simp [hdl], on_app hon ⟨⟨by omega, by omega⟩, e3 g⟩, h3.less (by omega), trivial, trivial, trivial, hrun.snoc (e4 now rfl ha).1 (e4 now rfl ha).2⟩
        intro x hx
        rcases List.mem_or_eq_of_mem_set hx with hx | rfl
        · exact hn01 x hx
        · omega
      · walk_at "lw e"
        refine iteDF hw ?_
        walk_at "lw e"
        refine ⟨pickR (by omega) (by omega), ?_⟩
        walk_at "lw e"
        (refine Sm.fmono (take4 (c := c + 1800 - 48 * (i + 1)) (Box.less h3 (by omega)) (by omega) (by omega)) fun r o h => ?_; obtain ⟨v4, b4, rfl, l4, u4, h4, rfl⟩ := h; refine ⟨nref, ?_⟩; walk_at "lw n"; walk_at "lw e")
        refine ⟨mul_r ⟨by omega, by omega⟩, ?_⟩
        walk_at "lw e"
        refine ⟨app_ok (by rw [List.length_map]; omega), ?_⟩
        walk_at "lw n"
        have hm1 : (1 : Int) ≤ g * (1 + v4) := by
          have := Int.mul_le_mul (show (1 : Int) ≤ g by omega) (show (1 : Int) ≤ 1 + v4 by omega) (by decide) (by omega)
          omega
        have hm2 : (g : Int) * (1 + v4) ≤ 6 * g := by
          rw [Int.mul_comm]
          exact Int.mul_le_mul_of_nonneg_right (by omega) (by omega)
        obtain ⟨d, e1, e2, e3, e4⟩ := rlD2 (v2 - 2) (a + 1) (g * (1 + v4))
        rw [show ((a : Int) + 1) = ((a + 1 : Nat) : Int) by omega, e1, mapD_app]
        exact ⟨_, now, ds ++ [d], _, _, _, rfl, hnow, hn01, by simp [hdl], on_app hon ⟨⟨by omega, by omega⟩, e3 g hm1 hm2⟩, h4, trivial, trivial, trivial, hrun.snoc (e4 _).1 (e4 _).2⟩
    · rintro ς ⟨bs, now, ds, o8, o9, o10, rfl, hnow, hn01, hdl, hon, hbb, f8, f9, f10, hrun⟩
      rw [rngD_len] at hdl hbb
      walk_at "lw e"
      refine ⟨in_R (by omega), ?_⟩
      walk_at "lw e"
      have hbc := hbb.less (show c ≤ _ by omega)
      refine Sm.loopInv (ILq2 c n cap g ds.length fs) ⟨_, now, ds, _, _, _, rfl, hnow, hn01, by omega, hon, hbc, f8, f9, f10, hrun⟩ ?_ ?_
      · rintro i d ς hd ⟨bs, now, es, o8, o9, o10, rfl, hnow, hn01, hel, hoe, hbe, f8, f9, f10, hrun⟩
        obtain ⟨hi, rfl⟩ := rng_at hd
        rw [Int.toNat_natCast] at hi
        have ha : i < now.length := by omega
        have hf : i < fs.length := by omega
        have h01 := now_at ha hn01
        refine ⟨_, tgN_o rfl f10, ?_⟩
        walk_at "lw n"
        walk_at "lw e"
        refine ⟨at_ints ha, ?_⟩
        walk_at "lw e"
        refine ⟨at_ints hf, ?_⟩
        walk_at "lw e"
        by_cases q : now.getD i 0 = fs.getD i 0
        · refine iteB0 (by rw [eqv_int, decide_eq_true q]; rfl) ?_
          refine Sm.skip ?_
          exact ⟨_, now, es, _, _, _, rfl, hnow, hn01, by omega, hoe, hbe, f8, f9, trivial, by rw [mid_eq ha hf q]; exact hrun⟩
        · refine iteB1 (by rw [eqv_int, decide_eq_false q]; rfl) ?_
          walk_at "lw e"
          refine ⟨at_ints ha, ?_⟩
          walk_at "lw e"
          refine ⟨pickT h01, ?_⟩
          walk_at "lw e"
          refine ⟨app_ok (by rw [List.length_map]; omega), ?_⟩
          walk_at "lw n"
          obtain ⟨d, e1, e2, e3, e4⟩ := turnD2 h01 i
          rw [show ((i : Int) + 1) = ((i + 1 : Nat) : Int) by omega, e1, mapD_app]
          exact ⟨_, now, es ++ [d], _, _, _, rfl, hnow, hn01, by simp; omega, on_app hoe ⟨⟨by omega, by omega⟩, e3 g⟩, hbe, f8, f9, trivial, hrun.snoc (e4 _ (mid_at ha hf) (mid_lt ha hf)).1 ((e4 _ (mid_at ha hf) (mid_lt ha hf)).2.trans (by rw [mid_set ha hf (now_at hf hf01) h01 q]))⟩
      · rintro ς ⟨bs, now, es, o8, o9, o10, rfl, hnow, hn01, hel, hoe, hbe, f8, f9, f10, hrun⟩
        rw [rngD_len, Int.toNat_natCast] at hel
        walk_at "lw e"
        walk_at "lw n"
        refine ⟨?_, ?_⟩
        · show (free _ 9 && true) = true
          rw [fr_free rfl f9]
          rfl
        refine Sm.lcPure chOf (by rw [List.length_map]; omega) ?_ ?_
        · intro x hx
          obtain ⟨v, hv, rfl⟩ := List.mem_map.1 hx
          refine ⟨_, tgN_o rfl trivial, ?_⟩
          walk_at "lw n"
          rcases hf01 v hv with rfl | rfl
          · walk_at "lw e"
            first | rfl | exact ⟨rfl, rfl, rfl⟩ | exact ⟨_, rfl, rfl, rfl⟩
          · walk_at "lw e"
            first | rfl | exact ⟨rfl, rfl, rfl⟩ | exact ⟨_, rfl, rfl, rfl⟩
        · walk_at "lw e"
          have efs : (fs.map PyData.int).map chOf = (B01 fs).map chD := by
            unfold B01
            rw [List.map_map, List.map_map]
            rfl
          rw [efs]
          refine ⟨_, _, rfl, ⟨es, B01 fs, rfl, by omega, hoe, by unfold B01; rw [List.length_map]; exact hfs, ?_⟩, hbe, rfl⟩
          rw [rngD_len, Int.toNat_natCast, ← hfs, List.take_length, List.drop_eq_nil_of_le (by omega), List.append_nil] at hrun
          exact hrun
end Lw
-- F2
namespace Lw
open PySem PySem.Spec PyProof.Rows L2
local macro_rules | `(tactic| walk_at "lw e") => `(tactic| (repeat (first | (with_reducible apply Exists.intro) | ((with_reducible refine And.intro ?_ ?_); · (first | (with_reducible exact pw_7) | (with_reducible exact pw_6) | (with_reducible exact pw_15) | (with_reducible exact pw_18) | (with_reducible exact pw_19) | (with_reducible exact pw_30) | (with_reducible exact pw_40) | (with_reducible exact tix0) | (with_reducible exact tix1) | (with_reducible exact tix2) | ((with_reducible apply mul_r); decide) | ((with_reducible apply mul_l); decide) | ((with_reducible apply div_i); decide) | ((with_reducible apply in_R); decide) | ((fail_if_success (with_reducible apply mul_r)); (fail_if_success (with_reducible apply div_i)); (fail_if_success (with_reducible apply dm_int)); (fail_if_success (with_reducible apply in_R)); rfl) | (exact Nat.le_of_ble_eq_true rfl) | (simp [refsOf]; done) | (exact ⟨rfl, rfl, by decide⟩) | (exact ⟨rfl, rfl, rfl⟩) | ((with_reducible apply tgN_o); (focus rfl); (focus (first | assumption | trivial))))) | ((with_reducible apply Sm.vrP); (focus rfl)) | ((with_reducible apply Sm.vrO); (focus rfl)) | (with_reducible refine Sm.cn ?_) | (with_reducible refine Sm.op2 ?_) | (with_reducible refine Sm.argV ?_) | (with_reducible refine Sm.callE ?_) | (with_reducible refine Sm.cal1 ?_) | (with_reducible refine Sm.sq ?_) | (with_reducible refine Sm.asgS ?_) | (with_reducible refine Sm.asg ?_) | (with_reducible refine Sm.retS ?_) | (with_reducible refine Sm.ifS ?_) | (with_reducible refine Sm.argN ?_) | (with_reducible refine Sm.tst ?_) | (with_reducible refine Sm.tupE ?_) | (with_reducible refine Sm.lstE ?_) | (with_reducible refine Sm.isE ?_) | (with_reducible refine Sm.argR ?_) | (with_reducible refine Sm.tru ?_) | (with_reducible refine Sm.andT ?_) | (with_reducible refine Sm.orT ?_) | (with_reducible refine Sm.notT ?_) | (with_reducible refine Sm.andV ?_) | (with_reducible refine Sm.orV ?_) | (with_reducible refine Sm.notV ?_) | (with_reducible refine Sm.negV ?_) | (with_reducible refine Sm.ife ?_) | (with_reducible refine Sm.chn ?_) | (with_reducible refine Sm.callF ?_) | (with_reducible refine Sm.slE ?_) | (with_reducible refine Sm.ptN ?_) | (with_reducible refine Sm.ptS ?_) | (with_reducible refine Sm.revE ?_) | (with_reducible refine Sm.mth ?_) | (with_reducible refine Sm.ret ?_) | (with_reducible refine Sm.esc ?_) | (with_reducible refine Sm.itS ?_) | (with_reducible refine Sm.itR1 ?_) | (with_reducible refine Sm.itR2 ?_) | (with_reducible refine Sm.itE ?_) | (with_reducible refine Sm.itZ ?_) | (with_reducible refine Sm.lcE2 ?_) | (with_reducible refine Sm.pvF ?_) | (with_reducible refine Sm.pvT ?_) | (with_reducible refine Sm.asgO ?_) | (with_reducible refine Sm.exS ?_) | (with_reducible refine Sm.skip ?_) | (with_reducible refine Sm.par2 ?_) | (with_reducible refine Sm.par3 ?_) | (with_reducible refine Sm.forS ?_) | (with_reducible refine Sm.at_nx ?_) | (with_reducible refine Sm.at_rt ?_) | (with_reducible refine Sm.oP ?_) | (with_reducible refine Sm.oF ?_) | (with_reducible refine Sm.fP ?_) | (with_reducible refine Sm.fF ?_) | (with_reducible refine Sm.itZ2 ?_) | (with_reducible refine Sm.itZ3 ?_) | (with_reducible refine Sm.itEn ?_) | (with_reducible refine Sm.argX ?_) | (with_reducible refine Sm.repE ?_) | ((with_reducible apply Sm.augI); (focus rfl)) | ((with_reducible refine Sm.dicE ?_ ?_); (focus decide)) | (with_reducible refine Sm.lzE ?_) | (with_reducible refine Sm.itV ?_) | (with_reducible refine Sm.itR3 ?_) | (with_reducible refine Sm.itRv1 ?_) | (with_reducible refine Sm.itRv2 ?_) | ((with_reducible apply Sm.augS); (focus rfl)) | (with_reducible refine iteTT ?_) | (with_reducible refine iteT ?_) | (with_reducible refine iteF ?_) | ((with_reducible refine iteB1 ?_ ?_); (focus rfl)) | ((with_reducible refine iteB0 ?_ ?_); (focus rfl)))))
local macro_rules | `(tactic| walk_at "lw n") => `(tactic| (try dsimp only [ent, List.map, Nat.reduceAdd, Nat.reduceSub, List.length_cons, List.length_nil, List.replicate_succ, List.replicate_zero, List.cons_append, List.nil_append, putBack, setOwn, List.getElem?_cons_zero, List.getElem?_cons_succ, List.set_cons_zero, List.set_cons_succ, Sm.nf]))
local macro_rules | `(tactic| walk_at "lw v") => `(tactic| (try simp only [pb1, pb2, pb3, pb4]))
/-! ### sums of laps, lock by lock -/
theorem Runs.tail {bs bs' : List Bool} {d : Dd} {ds : List Dd} (h : Runs bs (d :: ds) bs') : shut bs d = false ∧ Runs (turn bs d) ds bs' := by
  refine ⟨h.ok 0 d rfl, ⟨h.fin, fun i e he => ?_⟩⟩
  exact h.ok (i + 1) e (by rw [List.getElem?_cons_succ]; exact he)
end Lw
-- F2
namespace Lw
open PySem PySem.Spec PyProof.Rows L2
local macro_rules | `(tactic| walk_at "lw e") => `(tactic| (repeat (first | (with_reducible apply Exists.intro) | ((with_reducible refine And.intro ?_ ?_); · (first | (with_reducible exact pw_7) | (with_reducible exact pw_6) | (with_reducible exact pw_15) | (with_reducible exact pw_18) | (with_reducible exact pw_19) | (with_reducible exact pw_30) | (with_reducible exact pw_40) | (with_reducible exact tix0) | (with_reducible exact tix1) | (with_reducible exact tix2) | ((with_reducible apply mul_r); decide) | ((with_reducible apply mul_l); decide) | ((with_reducible apply div_i); decide) | ((with_reducible apply in_R); decide) | ((fail_if_success (with_reducible apply mul_r)); (fail_if_success (with_reducible apply div_i)); (fail_if_success (with_reducible apply dm_int)); (fail_if_success (with_reducible apply in_R)); rfl) | (exact Nat.le_of_ble_eq_true rfl) | (simp [refsOf]; done) | (exact ⟨rfl, rfl, by decide⟩) | (exact ⟨rfl, rfl, rfl⟩) | ((with_reducible apply tgN_o); (focus rfl); (focus (first | assumption | trivial))))) | ((with_reducible apply Sm.vrP); (focus rfl)) | ((with_reducible apply Sm.vrO); (focus rfl)) | (with_reducible refine Sm.cn ?_) | (with_reducible refine Sm.op2 ?_) | (with_reducible refine Sm.argV ?_) | (with_reducible refine Sm.callE ?_) | (with_reducible refine Sm.cal1 ?_) | (with_reducible refine Sm.sq ?_) | (with_reducible refine Sm.asgS ?_) | (with_reducible refine Sm.asg ?_) | (with_reducible refine Sm.retS ?_) | (with_reducible refine Sm.ifS ?_) | (with_reducible refine Sm.argN ?_) | (with_reducible refine Sm.tst ?_) | (with_reducible refine Sm.tupE ?_) | (with_reducible refine Sm.lstE ?_) | (with_reducible refine Sm.isE ?_) | (with_reducible refine Sm.argR ?_) | (with_reducible refine Sm.tru ?_) | (with_reducible refine Sm.andT ?_) | (with_reducible refine Sm.orT ?_) | (with_reducible refine Sm.notT ?_) | (with_reducible refine Sm.andV ?_) | (with_reducible refine Sm.orV ?_) | (with_reducible refine Sm.notV ?_) | (with_reducible refine Sm.negV ?_) | (with_reducible refine Sm.ife ?_) | (with_reducible refine Sm.chn ?_) | (with_reducible refine Sm.callF ?_) | (with_reducible refine Sm.slE ?_) | (with_reducible refine Sm.ptN ?_) | (with_reducible refine Sm.ptS ?_) | (with_reducible refine Sm.revE ?_) | (with_reducible refine Sm.mth ?_) | (with_reducible refine Sm.ret ?_) | (with_reducible refine Sm.esc ?_) | (with_reducible refine Sm.itS ?_) | (with_reducible refine Sm.itR1 ?_) | (with_reducible refine Sm.itR2 ?_) | (with_reducible refine Sm.itE ?_) | (with_reducible refine Sm.itZ ?_) | (with_reducible refine Sm.lcE2 ?_) | (with_reducible refine Sm.pvF ?_) | (with_reducible refine Sm.pvT ?_) | (with_reducible refine Sm.asgO ?_) | (with_reducible refine Sm.exS ?_) | (with_reducible refine Sm.skip ?_) | (with_reducible refine Sm.par2 ?_) | (with_reducible refine Sm.par3 ?_) | (with_reducible refine Sm.forS ?_) | (with_reducible refine Sm.at_nx ?_) | (with_reducible refine Sm.at_rt ?_) | (with_reducible refine Sm.oP ?_) | (with_reducible refine Sm.oF ?_) | (with_reducible refine Sm.fP ?_) | (with_reducible refine Sm.fF ?_) | (with_reducible refine Sm.itZ2 ?_) | (with_reducible refine Sm.itZ3 ?_) | (with_reducible refine Sm.itEn ?_) | (with_reducible refine Sm.argX ?_) | (with_reducible refine Sm.repE ?_) | ((with_reducible apply Sm.augI); (focus rfl)) | ((with_reducible refine Sm.dicE ?_ ?_); (focus decide)) | (with_reducible refine Sm.lzE ?_) | (with_reducible refine Sm.itV ?_) | (with_reducible refine Sm.itR3 ?_) | (with_reducible refine Sm.itRv1 ?_) | (with_reducible refine Sm.itRv2 ?_) | ((with_reducible apply Sm.augS); (focus rfl)) | (with_reducible refine iteTT ?_) | (with_reducible refine iteT ?_) | (with_reducible refine iteF ?_) | ((with_reducible refine iteB1 ?_ ?_); (focus rfl)) | ((with_reducible refine iteB0 ?_ ?_); (focus rfl)))))
local macro_rules | `(tactic| walk_at "lw n") => `(tactic| (try dsimp only [ent, List.map, Nat.reduceAdd, Nat.reduceSub, List.length_cons, List.length_nil, List.replicate_succ, List.replicate_zero, List.cons_append, List.nil_append, putBack, setOwn, List.getElem?_cons_zero, List.getElem?_cons_succ, List.set_cons_zero, List.set_cons_succ, Sm.nf]))
local macro_rules | `(tactic| walk_at "lw v") => `(tactic| (try simp only [pb1, pb2, pb3, pb4]))
end Lw
-- F2
namespace Lw
open PySem PySem.Spec PyProof.Rows L2
local macro_rules | `(tactic| walk_at "lw e") => `(tactic| (repeat (first | (with_reducible apply Exists.intro) | ((with_reducible refine And.intro ?_ ?_); · (first | (with_reducible exact pw_7) | (with_reducible exact pw_6) | (with_reducible exact pw_15) | (with_reducible exact pw_18) | (with_reducible exact pw_19) | (with_reducible exact pw_30) | (with_reducible exact pw_40) | (with_reducible exact tix0) | (with_reducible exact tix1) | (with_reducible exact tix2) | ((with_reducible apply mul_r); decide) | ((with_reducible apply mul_l); decide) | ((with_reducible apply div_i); decide) | ((with_reducible apply in_R); decide) | ((fail_if_success (with_reducible apply mul_r)); (fail_if_success (with_reducible apply div_i)); (fail_if_success (with_reducible apply dm_int)); (fail_if_success (with_reducible apply in_R)); rfl) | (exact Nat.le_of_ble_eq_true rfl) | (simp [refsOf]; done) | (exact ⟨rfl, rfl, by decide⟩) | (exact ⟨rfl, rfl, rfl⟩) | ((with_reducible apply tgN_o); (focus rfl); (focus (first | assumption | trivial))))) | ((with_reducible apply Sm.vrP); (focus rfl)) | ((with_reducible apply Sm.vrO); (focus rfl)) | (with_reducible refine Sm.cn ?_) | (with_reducible refine Sm.op2 ?_) | (with_reducible refine Sm.argV ?_) | (with_reducible refine Sm.callE ?_) | (with_reducible refine Sm.cal1 ?_) | (with_reducible refine Sm.sq ?_) | (with_reducible refine Sm.asgS ?_) | (with_reducible refine Sm.asg ?_) | (with_reducible refine Sm.retS ?_) | (with_reducible refine Sm.ifS ?_) | (with_reducible refine Sm.argN ?_) | (with_reducible refine Sm.tst ?_) | (with_reducible refine Sm.tupE ?_) | (with_reducible refine Sm.lstE ?_) | (with_reducible refine Sm.isE ?_) | (with_reducible refine Sm.argR ?_) | (with_reducible refine Sm.tru ?_) | (with_reducible refine Sm.andT ?_) | (with_reducible refine Sm.orT ?_) | (with_reducible refine Sm.notT ?_) | (with_reducible refine Sm.andV ?_) | (with_reducible refine Sm.orV ?_) | (with_reducible refine Sm.notV ?_) | (with_reducible refine Sm.negV ?_) | (with_reducible refine Sm.ife ?_) | (with_reducible refine Sm.chn ?_) | (with_reducible refine Sm.callF ?_) | (with_reducible refine Sm.slE ?_) | (with_reducible refine Sm.ptN ?_) | (with_reducible refine Sm.ptS ?_) | (with_reducible refine Sm.revE ?_) | (with_reducible refine Sm.mth ?_) | (with_reducible refine Sm.ret ?_) | (with_reducible refine Sm.esc ?_) | (with_reducible refine Sm.itS ?_) | (with_reducible refine Sm.itR1 ?_) | (with_reducible refine Sm.itR2 ?_) | (with_reducible refine Sm.itE ?_) | (with_reducible refine Sm.itZ ?_) | (with_reducible refine Sm.lcE2 ?_) | (with_reducible refine Sm.pvF ?_) | (with_reducible refine Sm.pvT ?_) | (with_reducible refine Sm.asgO ?_) | (with_reducible refine Sm.exS ?_) | (with_reducible refine Sm.skip ?_) | (with_reducible refine Sm.par2 ?_) | (with_reducible refine Sm.par3 ?_) | (with_reducible refine Sm.forS ?_) | (with_reducible refine Sm.at_nx ?_) | (with_reducible refine Sm.at_rt ?_) | (with_reducible refine Sm.oP ?_) | (with_reducible refine Sm.oF ?_) | (with_reducible refine Sm.fP ?_) | (with_reducible refine Sm.fF ?_) | (with_reducible refine Sm.itZ2 ?_) | (with_reducible refine Sm.itZ3 ?_) | (with_reducible refine Sm.itEn ?_) | (with_reducible refine Sm.argX ?_) | (with_reducible refine Sm.repE ?_) | ((with_reducible apply Sm.augI); (focus rfl)) | ((with_reducible refine Sm.dicE ?_ ?_); (focus decide)) | (with_reducible refine Sm.lzE ?_) | (with_reducible refine Sm.itV ?_) | (with_reducible refine Sm.itR3 ?_) | (with_reducible refine Sm.itRv1 ?_) | (with_reducible refine Sm.itRv2 ?_) | ((with_reducible apply Sm.augS); (focus rfl)) | (with_reducible refine iteTT ?_) | (with_reducible refine iteT ?_) | (with_reducible refine iteF ?_) | ((with_reducible refine iteB1 ?_ ?_); (focus rfl)) | ((with_reducible refine iteB0 ?_ ?_); (focus rfl)))))
local macro_rules | `(tactic| walk_at "lw n") => `(tactic| (try dsimp only [ent, List.map, Nat.reduceAdd, Nat.reduceSub, List.length_cons, List.length_nil, List.replicate_succ, List.replicate_zero, List.cons_append, List.nil_append, putBack, setOwn, List.getElem?_cons_zero, List.getElem?_cons_succ, List.set_cons_zero, List.set_cons_succ, Sm.nf]))
local macro_rules | `(tactic| walk_at "lw v") => `(tactic| (try simp only [pb1, pb2, pb3, pb4]))
end Lw
-- F2
namespace Lw
open PySem PySem.Spec PyProof.Rows L2
local macro_rules | `(tactic| walk_at "lw e") => `(tactic| (repeat (first | (with_reducible apply Exists.intro) | ((with_reducible refine And.intro ?_ ?_); · (first | (with_reducible exact pw_7) | (with_reducible exact pw_6) | (with_reducible exact pw_15) | (with_reducible exact pw_18) | (with_reducible exact pw_19) | (with_reducible exact pw_30) | (with_reducible exact pw_40) | (with_reducible exact tix0) | (with_reducible exact tix1) | (with_reducible exact tix2) | ((with_reducible apply mul_r); decide) | ((with_reducible apply mul_l); decide) | ((with_reducible apply div_i); decide) | ((with_reducible apply in_R); decide) | ((fail_if_success (with_reducible apply mul_r)); (fail_if_success (with_reducible apply div_i)); (fail_if_success (with_reducible apply dm_int)); (fail_if_success (with_reducible apply in_R)); rfl) | (exact Nat.le_of_ble_eq_true rfl) | (simp [refsOf]; done) | (exact ⟨rfl, rfl, by decide⟩) | (exact ⟨rfl, rfl, rfl⟩) | ((with_reducible apply tgN_o); (focus rfl); (focus (first | assumption | trivial))))) | ((with_reducible apply Sm.vrP); (focus rfl)) | ((with_reducible apply Sm.vrO); (focus rfl)) | (with_reducible refine Sm.cn ?_) | (with_reducible refine Sm.op2 ?_) | (with_reducible refine Sm.argV ?_) | (with_reducible refine Sm.callE ?_) | (with_reducible refine Sm.cal1 ?_) | (with_reducible refine Sm.sq ?_) | (with_reducible refine Sm.asgS ?_) | (with_reducible refine Sm.asg ?_) | (with_reducible refine Sm.retS ?_) | (with_reducible refine Sm.ifS ?_) | (with_reducible refine Sm.argN ?_) | (with_reducible refine Sm.tst ?_) | (with_reducible refine Sm.tupE ?_) | (with_reducible refine Sm.lstE ?_) | (with_reducible refine Sm.isE ?_) | (with_reducible refine Sm.argR ?_) | (with_reducible refine Sm.tru ?_) | (with_reducible refine Sm.andT ?_) | (with_reducible refine Sm.orT ?_) | (with_reducible refine Sm.notT ?_) | (with_reducible refine Sm.andV ?_) | (with_reducible refine Sm.orV ?_) | (with_reducible refine Sm.notV ?_) | (with_reducible refine Sm.negV ?_) | (with_reducible refine Sm.ife ?_) | (with_reducible refine Sm.chn ?_) | (with_reducible refine Sm.callF ?_) | (with_reducible refine Sm.slE ?_) | (with_reducible refine Sm.ptN ?_) | (with_reducible refine Sm.ptS ?_) | (with_reducible refine Sm.revE ?_) | (with_reducible refine Sm.mth ?_) | (with_reducible refine Sm.ret ?_) | (with_reducible refine Sm.esc ?_) | (with_reducible refine Sm.itS ?_) | (with_reducible refine Sm.itR1 ?_) | (with_reducible refine Sm.itR2 ?_) | (with_reducible refine Sm.itE ?_) | (with_reducible refine Sm.itZ ?_) | (with_reducible refine Sm.lcE2 ?_) | (with_reducible refine Sm.pvF ?_) | (with_reducible refine Sm.pvT ?_) | (with_reducible refine Sm.asgO ?_) | (with_reducible refine Sm.exS ?_) | (with_reducible refine Sm.skip ?_) | (with_reducible refine Sm.par2 ?_) | (with_reducible refine Sm.par3 ?_) | (with_reducible refine Sm.forS ?_) | (with_reducible refine Sm.at_nx ?_) | (with_reducible refine Sm.at_rt ?_) | (with_reducible refine Sm.oP ?_) | (with_reducible refine Sm.oF ?_) | (with_reducible refine Sm.fP ?_) | (with_reducible refine Sm.fF ?_) | (with_reducible refine Sm.itZ2 ?_) | (with_reducible refine Sm.itZ3 ?_) | (with_reducible refine Sm.itEn ?_) | (with_reducible refine Sm.argX ?_) | (with_reducible refine Sm.repE ?_) | ((with_reducible apply Sm.augI); (focus rfl)) | ((with_reducible refine Sm.dicE ?_ ?_); (focus decide)) | (with_reducible refine Sm.lzE ?_) | (with_reducible refine Sm.itV ?_) | (with_reducible refine Sm.itR3 ?_) | (with_reducible refine Sm.itRv1 ?_) | (with_reducible refine Sm.itRv2 ?_) | ((with_reducible apply Sm.augS); (focus rfl)) | (with_reducible refine iteTT ?_) | (with_reducible refine iteT ?_) | (with_reducible refine iteF ?_) | ((with_reducible refine iteB1 ?_ ?_); (focus rfl)) | ((with_reducible refine iteB0 ?_ ?_); (focus rfl)))))
local macro_rules | `(tactic| walk_at "lw n") => `(tactic| (try dsimp only [ent, List.map, Nat.reduceAdd, Nat.reduceSub, List.length_cons, List.length_nil, List.replicate_succ, List.replicate_zero, List.cons_append, List.nil_append, putBack, setOwn, List.getElem?_cons_zero, List.getElem?_cons_succ, List.set_cons_zero, List.set_cons_succ, Sm.nf]))
local macro_rules | `(tactic| walk_at "lw v") => `(tactic| (try simp only [pb1, pb2, pb3, pb4]))
theorem pw_9 : gPowA (.int 10) (.int 9) = some (.pure (.int 1000000000)) := rfl
theorem pw_12 : gPowA (.int 10) (.int 12) = some (.pure (.int 1000000000000)) := rfl
theorem pw_17 : gPowA (.int 10) (.int 17) = some (.pure (.int 100000000000000000)) := rfl
theorem pw_20 : gPowA (.int 10) (.int 20) = some (.pure (.int 100000000000000000000)) := rfl
theorem pw_60 : gPowA (.int 10) (.int 60) = some (.pure (.int 1000000000000000000000000000000000000000000000000000000000000)) := rfl
def PoundI (g : Nat) (p : Int × Int × Int) : Prop := ∃ a b s : Int, p = (a * g, (a + b) * g, s * g) ∧ 0 ≤ a ∧ a < 4 ∧ 0 ≤ b ∧ b < 30 ∧ 1 ≤ s ∧ s < 5
theorem pounds_of {g : Nat} : ∀ {xs : List D}, (∀ x ∈ xs, Pound g x) → ∃ ps : List (Int × Int × Int), xs = ps.map pd ∧ ∀ p ∈ ps, PoundI g p
  | [], _ => ⟨[], rfl, fun p h => by cases h⟩
  | x :: xs, h => by
    obtain ⟨ps, rfl, hp⟩ := pounds_of (xs := xs) fun y hy => h y (by simp [hy])
    obtain ⟨a, b, s, rfl, h1, h2, h3, h4, h5, h6⟩ := h x (by simp)
    refine ⟨(a * g, (a + b) * g, s * g) :: ps, rfl, fun p hm => ?_⟩
    rcases List.mem_cons.1 hm with rfl | hm
    · exact ⟨a, b, s, rfl, h1, h2, h3, h4, h5, h6⟩
    · exact hp p hm
theorem pound_b {g : Nat} (hg : g ≤ 1000000000000000) {p : Int × Int × Int} (h : PoundI g p) : 0 ≤ p.1 ∧ p.1 ≤ p.2.1 ∧ p.2.1 ≤ 40000000000000000 := by
  obtain ⟨a, b, s, rfl, h1, h2, h3, h4, h5, h6⟩ := h
  have k1 : 0 ≤ a * g := Int.mul_nonneg h1 (by omega)
  have k2 : (a + b) * g = a * g + b * g := Int.add_mul _ _ _
  have k3 : 0 ≤ b * g := Int.mul_nonneg h3 (by omega)
  have k4 : (a + b) * g ≤ 40 * g := Int.mul_le_mul_of_nonneg_right (by omega) (by omega)
  refine ⟨k1, ?_, ?_⟩
  · show a * g ≤ (a + b) * g; omega
  · show (a + b) * g ≤ _; omega
end Lw
-- F2
-- F3
namespace Lw
open PySem PySem.Spec PyProof.Rows L2
local macro_rules | `(tactic| walk_at "lw e") => `(tactic| (repeat (first | (with_reducible apply Exists.intro) | ((with_reducible refine And.intro ?_ ?_); · (first | (with_reducible exact pw_9) | (with_reducible exact pw_12) | (with_reducible exact pw_17) | (with_reducible exact pw_20) | (with_reducible exact pw_60) | (with_reducible exact pw_7) | (with_reducible exact pw_6) | (with_reducible exact pw_15) | (with_reducible exact pw_18) | (with_reducible exact pw_19) | (with_reducible exact pw_30) | (with_reducible exact pw_40) | (with_reducible exact tix0) | (with_reducible exact tix1) | (with_reducible exact tix2) | ((with_reducible apply mul_r); decide) | ((with_reducible apply mul_l); decide) | ((with_reducible apply div_i); decide) | ((with_reducible apply in_R); decide) | ((fail_if_success (with_reducible apply mul_r)); (fail_if_success (with_reducible apply div_i)); (fail_if_success (with_reducible apply dm_int)); (fail_if_success (with_reducible apply in_R)); rfl) | (exact Nat.le_of_ble_eq_true rfl) | (simp [refsOf]; done) | (exact ⟨rfl, rfl, by decide⟩) | (exact ⟨rfl, rfl, rfl⟩) | ((with_reducible apply tgN_o); (focus rfl); (focus (first | assumption | trivial))))) | ((with_reducible apply Sm.vrP); (focus rfl)) | ((with_reducible apply Sm.vrO); (focus rfl)) | (with_reducible refine Sm.cn ?_) | (with_reducible refine Sm.op2 ?_) | (with_reducible refine Sm.argV ?_) | (with_reducible refine Sm.callE ?_) | (with_reducible refine Sm.cal1 ?_) | (with_reducible refine Sm.sq ?_) | (with_reducible refine Sm.asgS ?_) | (with_reducible refine Sm.asg ?_) | (with_reducible refine Sm.retS ?_) | (with_reducible refine Sm.ifS ?_) | (with_reducible refine Sm.argN ?_) | (with_reducible refine Sm.tst ?_) | (with_reducible refine Sm.tupE ?_) | (with_reducible refine Sm.lstE ?_) | (with_reducible refine Sm.isE ?_) | (with_reducible refine Sm.argR ?_) | (with_reducible refine Sm.tru ?_) | (with_reducible refine Sm.andT ?_) | (with_reducible refine Sm.orT ?_) | (with_reducible refine Sm.notT ?_) | (with_reducible refine Sm.andV ?_) | (with_reducible refine Sm.orV ?_) | (with_reducible refine Sm.notV ?_) | (with_reducible refine Sm.negV ?_) | (with_reducible refine Sm.ife ?_) | (with_reducible refine Sm.chn ?_) | (with_reducible refine Sm.callF ?_) | (with_reducible refine Sm.slE ?_) | (with_reducible refine Sm.ptN ?_) | (with_reducible refine Sm.ptS ?_) | (with_reducible refine Sm.revE ?_) | (with_reducible refine Sm.mth ?_) | (with_reducible refine Sm.ret ?_) | (with_reducible refine Sm.esc ?_) | (with_reducible refine Sm.itS ?_) | (with_reducible refine Sm.itR1 ?_) | (with_reducible refine Sm.itR2 ?_) | (with_reducible refine Sm.itE ?_) | (with_reducible refine Sm.itZ ?_) | (with_reducible refine Sm.lcE2 ?_) | (with_reducible refine Sm.pvF ?_) | (with_reducible refine Sm.pvT ?_) | (with_reducible refine Sm.asgO ?_) | (with_reducible refine Sm.exS ?_) | (with_reducible refine Sm.skip ?_) | (with_reducible refine Sm.par2 ?_) | (with_reducible refine Sm.par3 ?_) | (with_reducible refine Sm.forS ?_) | (with_reducible refine Sm.at_nx ?_) | (with_reducible refine Sm.at_rt ?_) | (with_reducible refine Sm.oP ?_) | (with_reducible refine Sm.oF ?_) | (with_reducible refine Sm.fP ?_) | (with_reducible refine Sm.fF ?_) | (with_reducible refine Sm.itZ2 ?_) | (with_reducible refine Sm.itZ3 ?_) | (with_reducible refine Sm.itEn ?_) | (with_reducible refine Sm.argX ?_) | (with_reducible refine Sm.repE ?_) | ((with_reducible apply Sm.augI); (focus rfl)) | ((with_reducible refine Sm.dicE ?_ ?_); (focus decide)) | (with_reducible refine Sm.lzE ?_) | (with_reducible refine Sm.itV ?_) | (with_reducible refine Sm.itR3 ?_) | (with_reducible refine Sm.itRv1 ?_) | (with_reducible refine Sm.itRv2 ?_) | ((with_reducible apply Sm.augS); (focus rfl)) | (with_reducible refine Sm.parL3 ?_) | (with_reducible refine iteTT ?_) | (with_reducible refine iteT ?_) | (with_reducible refine iteF ?_) | ((with_reducible refine iteB1 ?_ ?_); (focus rfl)) | ((with_reducible refine iteB0 ?_ ?_); (focus rfl)))))
local macro_rules | `(tactic| walk_at "lw n") => `(tactic| (try dsimp only [ent, List.map, Nat.reduceAdd, Nat.reduceSub, List.length_cons, List.length_nil, List.replicate_succ, List.replicate_zero, List.cons_append, List.nil_append, putBack, setOwn, List.getElem?_cons_zero, List.getElem?_cons_succ, List.set_cons_zero, List.set_cons_succ, Sm.nf]))
local macro_rules | `(tactic| walk_at "lw v") => `(tactic| (try simp only [pb1, pb2, pb3, pb4]))
/-! ### totals, great stairs on which nothing runs over -/
def tots (xs : List Int) : List Int := (List.range xs.length).map fun i => (xs.drop i).sum
theorem tots_len (xs : List Int) : (tots xs).length = xs.length := by unfold tots; rw [List.length_map, List.length_range]
theorem tots_get (xs : List Int) (i : Nat) : (tots xs)[i]? = if i < xs.length then some (xs.drop i).sum else none := by
  unfold tots
  rw [List.getElem?_map]
  by_cases h : i < xs.length
  · rw [List.getElem?_range h, if_pos h]; rfl
  · rw [List.getElem?_eq_none (by rw [List.length_range]; omega), if_neg h]; rfl
theorem sum_set : ∀ (xs : List Int) (k : Nat) (v : Int), k < xs.length → (xs.set k v).sum = xs.sum + (v - xs.getD k 0)
  | [], k, v, h => by simp at h
  | x :: xs, 0, v, _ => by simp; omega
  | x :: xs, k + 1, v, h => by
    rw [List.set_cons_succ, List.sum_cons, List.sum_cons, sum_set xs k v (by simpa using h)]
    simp only [List.getD_cons_succ]
    omega
theorem tots_add1 {ls : List Int} {c : Nat} {m : Int} (hc : c ≤ ls.length) : tots (add1 ls (c : Int) m) = addPre c m (tots ls) := by
  apply List.ext_getElem?
  intro a
  rw [addPre_get, tots_get, tots_get, add1_len]
  by_cases h : a < ls.length
  · rw [if_pos h, if_pos h]
    unfold add1
    by_cases h0 : (c : Int) > 0
    · rw [if_pos h0, Int.toNat_natCast]
      by_cases q : a < c
      · rw [if_pos q]
        have e : (ls.set (c - 1) (ls.getD (c - 1) 0 + m)).drop a = (ls.drop a).set (c - 1 - a) (ls.getD (c - 1) 0 + m) := by
          rw [List.drop_set, if_neg (by omega)]
        rw [e, sum_set _ _ _ (by rw [List.length_drop]; omega)]
        have e2 : (ls.drop a).getD (c - 1 - a) 0 = ls.getD (c - 1) 0 := by
          rw [List.getD_eq_getElem?_getD, List.getD_eq_getElem?_getD, List.getElem?_drop]
          congr 2
          omega
        rw [e2]
        simp only [Option.map_some]
        congr 1
        omega
      · rw [if_neg q]
        have e : (ls.set (c - 1) (ls.getD (c - 1) 0 + m)).drop a = ls.drop a := by
          rw [List.drop_set, if_pos (by omega)]
        rw [e]
    · rw [if_neg h0]
      rw [if_neg (by omega)]
  · rw [if_neg h, if_neg h]
    simp
theorem ov_flat : ∀ zs : List Pz, (∀ z ∈ zs, z.2 ≤ z.1.2.1) → ov zs = (zs.map (·.2), zs.map (fun _ => 0), 0)
  | [], _ => rfl
  | z :: zs, h => by
    have h1 := h z (by simp)
    have ih := ov_flat zs fun y hy => h y (by simp [hy])
    rw [ov, ih]
    have e : spill (z.2 + 0 - z.1.2.1) = 0 := by unfold spill; rw [if_neg (by omega)]
    dsimp only
    rw [e]
    simp
/-- the stair with the same locks and pounds so great -/
def greatS (F : Int) (ps : List (Int × Int × Int)) : List (Int × Int × Int) := ps.map fun p => (0, 2 * F, p.2.2)
theorem greatS_len (F : Int) (ps : List (Int × Int × Int)) : (greatS F ps).length = ps.length := List.length_map _
theorem great_sz (F : Int) (ps : List (Int × Int × Int)) {l : Nat} (h0 : 1 ≤ l) (h1 : l ≤ ps.length) : sz (greatS F ps) l = sz ps l := by
  have hlt : l - 1 < ps.length := by omega
  unfold sz pAt greatS
  rw [List.getD_eq_getElem?_getD, List.getElem?_map, List.getD_eq_getElem?_getD, List.getElem?_eq_getElem hlt]
  rfl
theorem great_chg (F : Int) {ps : List (Int × Int × Int)} {d : Dd} (h : d.On ps.length) : chg (greatS F ps) d = chg ps d := by
  obtain ⟨h0, h1⟩ := h
  cases d with
  | fill l => show ((l : Int), -sz (greatS F ps) l) = _; rw [great_sz F ps (l := l) h0 h1]; rfl
  | empty l => show ((l : Int) - 1, sz (greatS F ps) l) = _; rw [great_sz F ps (l := l) h0 h1]; rfl
  | raise l m => rfl
  | lower l m => rfl
theorem great_most {F : Int} {ps : List (Int × Int × Int)} {ls : List Int} (h : ∀ l ∈ ls, l ≤ 2 * F) : ∀ z ∈ (greatS F ps).zip ls, z.2 ≤ z.1.2.1 := by
  intro z hz
  have h1 := (List.of_mem_zip hz).1
  have h2 := (List.of_mem_zip hz).2
  unfold greatS at h1
  obtain ⟨p, _, e⟩ := List.mem_map.1 h1
  rw [← e]
  exact h _ h2
theorem zip_snd {F : Int} {ps : List (Int × Int × Int)} {ls : List Int} (h : ls.length = ps.length) : ((greatS F ps).zip ls).map (·.2) = ls := by
  have := List.map_snd_zip (l₁ := greatS F ps) (l₂ := ls) (by rw [greatS_len]; omega)
  exact this
/-- what stands in the midst behind so many deeds -/
structure Mid (F B : Int) (ps : List (Int × Int × Int)) (bs : List Bool) (ds : List Dd) (s : Gs) : Prop where
  len : s.1.length = ps.length
  bd : ∀ l ∈ s.1, F - B * ds.length ≤ l ∧ l ≤ F + B * ds.length
  tot : tots s.1 = ((tots (ps.map fun _ => F)).zip (sums ps ds)).map fun p => p.1 + p.2
  ch : s.2.1 = turns bs ds
  ran : s.2.2 = ps.map fun _ => 0
theorem add1_mem {ls : List Int} {p m l : Int} (h : l ∈ add1 ls p m) : l ∈ ls ∨ ∃ x ∈ ls, l = x + m := by
  unfold add1 at h
  split at h
  · rename_i hp
    by_cases hlt : p.toNat - 1 < ls.length
    · rcases List.mem_or_eq_of_mem_set h with h | h
      · exact .inl h
      · refine .inr ⟨ls.getD (p.toNat - 1) 0, ?_, h⟩
        rw [List.getD_eq_getElem?_getD, List.getElem?_eq_getElem hlt]
        exact List.getElem_mem hlt
    · rw [List.set_eq_of_length_le (by omega)] at h
      exact .inl h
  · exact .inl h
theorem zip_addPre (c : Nat) (m : Int) : ∀ (xs ys : List Int), addPre c m ((xs.zip ys).map fun p => p.1 + p.2) = (xs.zip (addPre c m ys)).map fun p => p.1 + p.2 := by
  induction c with
  | zero => intro xs ys; rfl
  | succ c ih =>
    intro xs ys
    cases xs with
    | nil => simp [addPre]
    | cons x xs =>
      cases ys with
      | nil => simp [addPre]
      | cons y ys =>
        rw [List.zip_cons_cons, List.map_cons, addPre, ih, addPre, List.zip_cons_cons, List.map_cons]
        congr 1
        dsimp only
        omega
theorem Mid.step {F B : Int} {ps : List (Int × Int × Int)} {bs : List Bool} {ds : List Dd} {d : Dd} {s : Gs} (h : Mid F B ps bs ds s) (ho : d.On ps.length) (hb : -B ≤ (chg ps d).2 ∧ (chg ps d).2 ≤ B) (hF : B * (ds.length + 1) ≤ F) : Mid F B ps bs (ds ++ [d]) (gst (greatS F ps) s d) := by
  have hc := chg_on (ps := ps) ho
  have ec : ((chg ps d).1.toNat : Int) = (chg ps d).1 := by omega
  have eB : B * ((ds ++ [d]).length : Nat) = B * ds.length + B := by
    rw [List.length_append, List.length_singleton]; push_cast; rw [Int.mul_add, Int.mul_one]
  have hB0 : 0 ≤ B := by omega
  have eB2 : B * ((ds.length : Int) + 1) = B * ds.length + B := by rw [Int.mul_add, Int.mul_one]
  have bd2 : ∀ l ∈ add1 s.1 (chg ps d).1 (chg ps d).2, F - B * ((ds ++ [d]).length : Nat) ≤ l ∧ l ≤ F + B * ((ds ++ [d]).length : Nat) := by
    intro l hm
    rw [eB]
    rcases add1_mem hm with hm | ⟨x, hx, rfl⟩
    · have := h.bd l hm; omega
    · have := h.bd x hx; omega
  have hmost : ∀ l ∈ add1 s.1 (chg ps d).1 (chg ps d).2, l ≤ 2 * F := fun l hm => by
    have := bd2 l hm
    omega
  have fl := ov_flat ((greatS F ps).zip (add1 s.1 (chg ps d).1 (chg ps d).2)) (great_most hmost)
  have ea : aft (greatS F ps) s.1 d = add1 s.1 (chg ps d).1 (chg ps d).2 := by
    unfold aft
    rw [great_chg F ho, fl]
    exact zip_snd (by rw [add1_len]; exact h.len)
  have es : spl (greatS F ps) s.1 d = ps.map fun _ => 0 := by
    unfold spl
    rw [great_chg F ho, fl]
    show List.map (fun _ => (0 : Int)) ((greatS F ps).zip (add1 s.1 (chg ps d).1 (chg ps d).2)) = _
    rw [List.map_const', List.map_const', List.length_zip, greatS_len, add1_len, h.len, Nat.min_self]
  refine ⟨?_, ?_, ?_, ?_, ?_⟩
  · show (aft (greatS F ps) s.1 d).length = _
    rw [ea, add1_len]; exact h.len
  · intro l hm
    rw [show (gst (greatS F ps) s d).1 = aft (greatS F ps) s.1 d from rfl, ea] at hm
    exact bd2 l hm
  · show tots (aft (greatS F ps) s.1 d) = _
    rw [ea, ← ec, tots_add1 (by rw [h.len]; omega), h.tot, zip_addPre, addPre_sums ps ds d _ ec.symm]
  · show turn s.2.1 d = _
    rw [h.ch]
    unfold turns
    rw [List.foldl_append]
    rfl
  · show ((s.2.2.zip (spl (greatS F ps) s.1 d)).map fun p => p.1 + p.2) = _
    rw [h.ran, es]
    generalize ps = qs
    induction qs with
    | nil => rfl
    | cons q qs ih => rw [List.map_cons, List.zip_cons_cons, List.map_cons, ih]; rfl
end Lw
-- F2
-- F3
namespace Lw
open PySem PySem.Spec PyProof.Rows L2
local macro_rules | `(tactic| walk_at "lw e") => `(tactic| (repeat (first | (with_reducible apply Exists.intro) | ((with_reducible refine And.intro ?_ ?_); · (first | (with_reducible exact pw_9) | (with_reducible exact pw_12) | (with_reducible exact pw_17) | (with_reducible exact pw_20) | (with_reducible exact pw_60) | (with_reducible exact pw_7) | (with_reducible exact pw_6) | (with_reducible exact pw_15) | (with_reducible exact pw_18) | (with_reducible exact pw_19) | (with_reducible exact pw_30) | (with_reducible exact pw_40) | (with_reducible exact tix0) | (with_reducible exact tix1) | (with_reducible exact tix2) | ((with_reducible apply mul_r); decide) | ((with_reducible apply mul_l); decide) | ((with_reducible apply div_i); decide) | ((with_reducible apply in_R); decide) | ((fail_if_success (with_reducible apply mul_r)); (fail_if_success (with_reducible apply div_i)); (fail_if_success (with_reducible apply dm_int)); (fail_if_success (with_reducible apply in_R)); rfl) | (exact Nat.le_of_ble_eq_true rfl) | (simp [refsOf]; done) | (exact ⟨rfl, rfl, by decide⟩) | (exact ⟨rfl, rfl, rfl⟩) | ((with_reducible apply tgN_o); (focus rfl); (focus (first | assumption | trivial))))) | ((with_reducible apply Sm.vrP); (focus rfl)) | ((with_reducible apply Sm.vrO); (focus rfl)) | (with_reducible refine Sm.cn ?_) | (with_reducible refine Sm.op2 ?_) | (with_reducible refine Sm.argV ?_) | (with_reducible refine Sm.callE ?_) | (with_reducible refine Sm.cal1 ?_) | (with_reducible refine Sm.sq ?_) | (with_reducible refine Sm.asgS ?_) | (with_reducible refine Sm.asg ?_) | (with_reducible refine Sm.retS ?_) | (with_reducible refine Sm.ifS ?_) | (with_reducible refine Sm.argN ?_) | (with_reducible refine Sm.tst ?_) | (with_reducible refine Sm.tupE ?_) | (with_reducible refine Sm.lstE ?_) | (with_reducible refine Sm.isE ?_) | (with_reducible refine Sm.argR ?_) | (with_reducible refine Sm.tru ?_) | (with_reducible refine Sm.andT ?_) | (with_reducible refine Sm.orT ?_) | (with_reducible refine Sm.notT ?_) | (with_reducible refine Sm.andV ?_) | (with_reducible refine Sm.orV ?_) | (with_reducible refine Sm.notV ?_) | (with_reducible refine Sm.negV ?_) | (with_reducible refine Sm.ife ?_) | (with_reducible refine Sm.chn ?_) | (with_reducible refine Sm.callF ?_) | (with_reducible refine Sm.slE ?_) | (with_reducible refine Sm.ptN ?_) | (with_reducible refine Sm.ptS ?_) | (with_reducible refine Sm.revE ?_) | (with_reducible refine Sm.mth ?_) | (with_reducible refine Sm.ret ?_) | (with_reducible refine Sm.esc ?_) | (with_reducible refine Sm.itS ?_) | (with_reducible refine Sm.itR1 ?_) | (with_reducible refine Sm.itR2 ?_) | (with_reducible refine Sm.itE ?_) | (with_reducible refine Sm.itZ ?_) | (with_reducible refine Sm.lcE2 ?_) | (with_reducible refine Sm.pvF ?_) | (with_reducible refine Sm.pvT ?_) | (with_reducible refine Sm.asgO ?_) | (with_reducible refine Sm.exS ?_) | (with_reducible refine Sm.skip ?_) | (with_reducible refine Sm.par2 ?_) | (with_reducible refine Sm.par3 ?_) | (with_reducible refine Sm.forS ?_) | (with_reducible refine Sm.at_nx ?_) | (with_reducible refine Sm.at_rt ?_) | (with_reducible refine Sm.oP ?_) | (with_reducible refine Sm.oF ?_) | (with_reducible refine Sm.fP ?_) | (with_reducible refine Sm.fF ?_) | (with_reducible refine Sm.itZ2 ?_) | (with_reducible refine Sm.itZ3 ?_) | (with_reducible refine Sm.itEn ?_) | (with_reducible refine Sm.argX ?_) | (with_reducible refine Sm.repE ?_) | ((with_reducible apply Sm.augI); (focus rfl)) | ((with_reducible refine Sm.dicE ?_ ?_); (focus decide)) | (with_reducible refine Sm.lzE ?_) | (with_reducible refine Sm.itV ?_) | (with_reducible refine Sm.itR3 ?_) | (with_reducible refine Sm.itRv1 ?_) | (with_reducible refine Sm.itRv2 ?_) | ((with_reducible apply Sm.augS); (focus rfl)) | (with_reducible refine Sm.parL3 ?_) | (with_reducible refine iteTT ?_) | (with_reducible refine iteT ?_) | (with_reducible refine iteF ?_) | ((with_reducible refine iteB1 ?_ ?_); (focus rfl)) | ((with_reducible refine iteB0 ?_ ?_); (focus rfl)))))
local macro_rules | `(tactic| walk_at "lw n") => `(tactic| (try dsimp only [ent, List.map, Nat.reduceAdd, Nat.reduceSub, List.length_cons, List.length_nil, List.replicate_succ, List.replicate_zero, List.cons_append, List.nil_append, putBack, setOwn, List.getElem?_cons_zero, List.getElem?_cons_succ, List.set_cons_zero, List.set_cons_succ, Sm.nf]))
local macro_rules | `(tactic| walk_at "lw v") => `(tactic| (try simp only [pb1, pb2, pb3, pb4]))
/-! ### running over, by the law's own loop -/
abbrev P3 := Int × Int × Int
end Lw
-- F2
-- F3
namespace Lw
open PySem PySem.Spec PyProof.Rows L2
local macro_rules | `(tactic| walk_at "lw e") => `(tactic| (repeat (first | (with_reducible apply Exists.intro) | ((with_reducible refine And.intro ?_ ?_); · (first | (with_reducible exact pw_9) | (with_reducible exact pw_12) | (with_reducible exact pw_17) | (with_reducible exact pw_20) | (with_reducible exact pw_60) | (with_reducible exact pw_7) | (with_reducible exact pw_6) | (with_reducible exact pw_15) | (with_reducible exact pw_18) | (with_reducible exact pw_19) | (with_reducible exact pw_30) | (with_reducible exact pw_40) | (with_reducible exact tix0) | (with_reducible exact tix1) | (with_reducible exact tix2) | ((with_reducible apply mul_r); decide) | ((with_reducible apply mul_l); decide) | ((with_reducible apply div_i); decide) | ((with_reducible apply in_R); decide) | ((fail_if_success (with_reducible apply mul_r)); (fail_if_success (with_reducible apply div_i)); (fail_if_success (with_reducible apply dm_int)); (fail_if_success (with_reducible apply in_R)); rfl) | (exact Nat.le_of_ble_eq_true rfl) | (simp [refsOf]; done) | (exact ⟨rfl, rfl, by decide⟩) | (exact ⟨rfl, rfl, rfl⟩) | ((with_reducible apply tgN_o); (focus rfl); (focus (first | assumption | trivial))))) | ((with_reducible apply Sm.vrP); (focus rfl)) | ((with_reducible apply Sm.vrO); (focus rfl)) | (with_reducible refine Sm.cn ?_) | (with_reducible refine Sm.op2 ?_) | (with_reducible refine Sm.argV ?_) | (with_reducible refine Sm.callE ?_) | (with_reducible refine Sm.cal1 ?_) | (with_reducible refine Sm.sq ?_) | (with_reducible refine Sm.asgS ?_) | (with_reducible refine Sm.asg ?_) | (with_reducible refine Sm.retS ?_) | (with_reducible refine Sm.ifS ?_) | (with_reducible refine Sm.argN ?_) | (with_reducible refine Sm.tst ?_) | (with_reducible refine Sm.tupE ?_) | (with_reducible refine Sm.lstE ?_) | (with_reducible refine Sm.isE ?_) | (with_reducible refine Sm.argR ?_) | (with_reducible refine Sm.tru ?_) | (with_reducible refine Sm.andT ?_) | (with_reducible refine Sm.orT ?_) | (with_reducible refine Sm.notT ?_) | (with_reducible refine Sm.andV ?_) | (with_reducible refine Sm.orV ?_) | (with_reducible refine Sm.notV ?_) | (with_reducible refine Sm.negV ?_) | (with_reducible refine Sm.ife ?_) | (with_reducible refine Sm.chn ?_) | (with_reducible refine Sm.callF ?_) | (with_reducible refine Sm.slE ?_) | (with_reducible refine Sm.ptN ?_) | (with_reducible refine Sm.ptS ?_) | (with_reducible refine Sm.revE ?_) | (with_reducible refine Sm.mth ?_) | (with_reducible refine Sm.ret ?_) | (with_reducible refine Sm.esc ?_) | (with_reducible refine Sm.itS ?_) | (with_reducible refine Sm.itR1 ?_) | (with_reducible refine Sm.itR2 ?_) | (with_reducible refine Sm.itE ?_) | (with_reducible refine Sm.itZ ?_) | (with_reducible refine Sm.lcE2 ?_) | (with_reducible refine Sm.pvF ?_) | (with_reducible refine Sm.pvT ?_) | (with_reducible refine Sm.asgO ?_) | (with_reducible refine Sm.exS ?_) | (with_reducible refine Sm.skip ?_) | (with_reducible refine Sm.par2 ?_) | (with_reducible refine Sm.par3 ?_) | (with_reducible refine Sm.forS ?_) | (with_reducible refine Sm.at_nx ?_) | (with_reducible refine Sm.at_rt ?_) | (with_reducible refine Sm.oP ?_) | (with_reducible refine Sm.oF ?_) | (with_reducible refine Sm.fP ?_) | (with_reducible refine Sm.fF ?_) | (with_reducible refine Sm.itZ2 ?_) | (with_reducible refine Sm.itZ3 ?_) | (with_reducible refine Sm.itEn ?_) | (with_reducible refine Sm.argX ?_) | (with_reducible refine Sm.repE ?_) | ((with_reducible apply Sm.augI); (focus rfl)) | ((with_reducible refine Sm.dicE ?_ ?_); (focus decide)) | (with_reducible refine Sm.lzE ?_) | (with_reducible refine Sm.itV ?_) | (with_reducible refine Sm.itR3 ?_) | (with_reducible refine Sm.itRv1 ?_) | (with_reducible refine Sm.itRv2 ?_) | ((with_reducible apply Sm.augS); (focus rfl)) | (with_reducible refine Sm.parL3 ?_) | (with_reducible refine iteTT ?_) | (with_reducible refine iteT ?_) | (with_reducible refine iteF ?_) | ((with_reducible refine iteB1 ?_ ?_); (focus rfl)) | ((with_reducible refine iteB0 ?_ ?_); (focus rfl)))))
local macro_rules | `(tactic| walk_at "lw n") => `(tactic| (try dsimp only [ent, List.map, Nat.reduceAdd, Nat.reduceSub, List.length_cons, List.length_nil, List.replicate_succ, List.replicate_zero, List.cons_append, List.nil_append, putBack, setOwn, List.getElem?_cons_zero, List.getElem?_cons_succ, List.set_cons_zero, List.set_cons_succ, Sm.nf]))
local macro_rules | `(tactic| walk_at "lw v") => `(tactic| (try simp only [pb1, pb2, pb3, pb4]))
/-! ### the law's own step -/
end Lw
-- F2
-- F3
namespace Lw
open PySem PySem.Spec PyProof.Rows L2
local macro_rules | `(tactic| walk_at "lw e") => `(tactic| (repeat (first | (with_reducible apply Exists.intro) | ((with_reducible refine And.intro ?_ ?_); · (first | (with_reducible exact pw_9) | (with_reducible exact pw_12) | (with_reducible exact pw_17) | (with_reducible exact pw_20) | (with_reducible exact pw_60) | (with_reducible exact pw_7) | (with_reducible exact pw_6) | (with_reducible exact pw_15) | (with_reducible exact pw_18) | (with_reducible exact pw_19) | (with_reducible exact pw_30) | (with_reducible exact pw_40) | (with_reducible exact tix0) | (with_reducible exact tix1) | (with_reducible exact tix2) | ((with_reducible apply mul_r); decide) | ((with_reducible apply mul_l); decide) | ((with_reducible apply div_i); decide) | ((with_reducible apply in_R); decide) | ((fail_if_success (with_reducible apply mul_r)); (fail_if_success (with_reducible apply div_i)); (fail_if_success (with_reducible apply dm_int)); (fail_if_success (with_reducible apply in_R)); rfl) | (exact Nat.le_of_ble_eq_true rfl) | (simp [refsOf]; done) | (exact ⟨rfl, rfl, by decide⟩) | (exact ⟨rfl, rfl, rfl⟩) | ((with_reducible apply tgN_o); (focus rfl); (focus (first | assumption | trivial))))) | ((with_reducible apply Sm.vrP); (focus rfl)) | ((with_reducible apply Sm.vrO); (focus rfl)) | (with_reducible refine Sm.cn ?_) | (with_reducible refine Sm.op2 ?_) | (with_reducible refine Sm.argV ?_) | (with_reducible refine Sm.callE ?_) | (with_reducible refine Sm.cal1 ?_) | (with_reducible refine Sm.sq ?_) | (with_reducible refine Sm.asgS ?_) | (with_reducible refine Sm.asg ?_) | (with_reducible refine Sm.retS ?_) | (with_reducible refine Sm.ifS ?_) | (with_reducible refine Sm.argN ?_) | (with_reducible refine Sm.tst ?_) | (with_reducible refine Sm.tupE ?_) | (with_reducible refine Sm.lstE ?_) | (with_reducible refine Sm.isE ?_) | (with_reducible refine Sm.argR ?_) | (with_reducible refine Sm.tru ?_) | (with_reducible refine Sm.andT ?_) | (with_reducible refine Sm.orT ?_) | (with_reducible refine Sm.notT ?_) | (with_reducible refine Sm.andV ?_) | (with_reducible refine Sm.orV ?_) | (with_reducible refine Sm.notV ?_) | (with_reducible refine Sm.negV ?_) | (with_reducible refine Sm.ife ?_) | (with_reducible refine Sm.chn ?_) | (with_reducible refine Sm.callF ?_) | (with_reducible refine Sm.slE ?_) | (with_reducible refine Sm.ptN ?_) | (with_reducible refine Sm.ptS ?_) | (with_reducible refine Sm.revE ?_) | (with_reducible refine Sm.mth ?_) | (with_reducible refine Sm.ret ?_) | (with_reducible refine Sm.esc ?_) | (with_reducible refine Sm.itS ?_) | (with_reducible refine Sm.itR1 ?_) | (with_reducible refine Sm.itR2 ?_) | (with_reducible refine Sm.itE ?_) | (with_reducible refine Sm.itZ ?_) | (with_reducible refine Sm.lcE2 ?_) | (with_reducible refine Sm.pvF ?_) | (with_reducible refine Sm.pvT ?_) | (with_reducible refine Sm.asgO ?_) | (with_reducible refine Sm.exS ?_) | (with_reducible refine Sm.skip ?_) | (with_reducible refine Sm.par2 ?_) | (with_reducible refine Sm.par3 ?_) | (with_reducible refine Sm.forS ?_) | (with_reducible refine Sm.at_nx ?_) | (with_reducible refine Sm.at_rt ?_) | (with_reducible refine Sm.oP ?_) | (with_reducible refine Sm.oF ?_) | (with_reducible refine Sm.fP ?_) | (with_reducible refine Sm.fF ?_) | (with_reducible refine Sm.itZ2 ?_) | (with_reducible refine Sm.itZ3 ?_) | (with_reducible refine Sm.itEn ?_) | (with_reducible refine Sm.argX ?_) | (with_reducible refine Sm.repE ?_) | ((with_reducible apply Sm.augI); (focus rfl)) | ((with_reducible refine Sm.dicE ?_ ?_); (focus decide)) | (with_reducible refine Sm.lzE ?_) | (with_reducible refine Sm.itV ?_) | (with_reducible refine Sm.itR3 ?_) | (with_reducible refine Sm.itRv1 ?_) | (with_reducible refine Sm.itRv2 ?_) | ((with_reducible apply Sm.augS); (focus rfl)) | (with_reducible refine Sm.parL3 ?_) | (with_reducible refine iteTT ?_) | (with_reducible refine iteT ?_) | (with_reducible refine iteF ?_) | ((with_reducible refine iteB1 ?_ ?_); (focus rfl)) | ((with_reducible refine iteB0 ?_ ?_); (focus rfl)))))
local macro_rules | `(tactic| walk_at "lw n") => `(tactic| (try dsimp only [ent, List.map, Nat.reduceAdd, Nat.reduceSub, List.length_cons, List.length_nil, List.replicate_succ, List.replicate_zero, List.cons_append, List.nil_append, putBack, setOwn, List.getElem?_cons_zero, List.getElem?_cons_succ, List.set_cons_zero, List.set_cons_succ, Sm.nf]))
local macro_rules | `(tactic| walk_at "lw v") => `(tactic| (try simp only [pb1, pb2, pb3, pb4]))
/-! ### the law's own walk -/
def okD (s : Gs) : D := .tuple [sD s.1 s.2.1, it s.2.2, .none]
def badD (s : Gs) (i : Nat) (w : Str) (a : Nat) : D := .tuple [sD s.1 s.2.1, it s.2.2, .tuple [.int i, .str w, .int a]]
def wk (ps : List P3) (loose : Bool) : Gs → List Dd → Nat → D
  | s, [], _ => okD s
  | s, d :: ds, i => if loose = false ∧ shut s.2.1 d = true then badD s i "shut" d.at
    else if loose = false ∧ dry ps s.1 d = true then badD s i "dry" d.at else wk ps loose (gst ps s d) ds (i + 1)
end Lw
-- F2
-- F3
namespace Lw
open PySem PySem.Spec PyProof.Rows L2
local macro_rules | `(tactic| walk_at "lw e") => `(tactic| (repeat (first | (with_reducible apply Exists.intro) | ((with_reducible refine And.intro ?_ ?_); · (first | (with_reducible exact pw_9) | (with_reducible exact pw_12) | (with_reducible exact pw_17) | (with_reducible exact pw_20) | (with_reducible exact pw_60) | (with_reducible exact pw_7) | (with_reducible exact pw_6) | (with_reducible exact pw_15) | (with_reducible exact pw_18) | (with_reducible exact pw_19) | (with_reducible exact pw_30) | (with_reducible exact pw_40) | (with_reducible exact tix0) | (with_reducible exact tix1) | (with_reducible exact tix2) | ((with_reducible apply mul_r); decide) | ((with_reducible apply mul_l); decide) | ((with_reducible apply div_i); decide) | ((with_reducible apply in_R); decide) | ((fail_if_success (with_reducible apply mul_r)); (fail_if_success (with_reducible apply div_i)); (fail_if_success (with_reducible apply dm_int)); (fail_if_success (with_reducible apply in_R)); rfl) | (exact Nat.le_of_ble_eq_true rfl) | (simp [refsOf]; done) | (exact ⟨rfl, rfl, by decide⟩) | (exact ⟨rfl, rfl, rfl⟩) | ((with_reducible apply tgN_o); (focus rfl); (focus (first | assumption | trivial))))) | ((with_reducible apply Sm.vrP); (focus rfl)) | ((with_reducible apply Sm.vrO); (focus rfl)) | (with_reducible refine Sm.cn ?_) | (with_reducible refine Sm.op2 ?_) | (with_reducible refine Sm.argV ?_) | (with_reducible refine Sm.callE ?_) | (with_reducible refine Sm.cal1 ?_) | (with_reducible refine Sm.sq ?_) | (with_reducible refine Sm.asgS ?_) | (with_reducible refine Sm.asg ?_) | (with_reducible refine Sm.retS ?_) | (with_reducible refine Sm.ifS ?_) | (with_reducible refine Sm.argN ?_) | (with_reducible refine Sm.tst ?_) | (with_reducible refine Sm.tupE ?_) | (with_reducible refine Sm.lstE ?_) | (with_reducible refine Sm.isE ?_) | (with_reducible refine Sm.argR ?_) | (with_reducible refine Sm.tru ?_) | (with_reducible refine Sm.andT ?_) | (with_reducible refine Sm.orT ?_) | (with_reducible refine Sm.notT ?_) | (with_reducible refine Sm.andV ?_) | (with_reducible refine Sm.orV ?_) | (with_reducible refine Sm.notV ?_) | (with_reducible refine Sm.negV ?_) | (with_reducible refine Sm.ife ?_) | (with_reducible refine Sm.chn ?_) | (with_reducible refine Sm.callF ?_) | (with_reducible refine Sm.slE ?_) | (with_reducible refine Sm.ptN ?_) | (with_reducible refine Sm.ptS ?_) | (with_reducible refine Sm.revE ?_) | (with_reducible refine Sm.mth ?_) | (with_reducible refine Sm.ret ?_) | (with_reducible refine Sm.esc ?_) | (with_reducible refine Sm.itS ?_) | (with_reducible refine Sm.itR1 ?_) | (with_reducible refine Sm.itR2 ?_) | (with_reducible refine Sm.itE ?_) | (with_reducible refine Sm.itZ ?_) | (with_reducible refine Sm.lcE2 ?_) | (with_reducible refine Sm.pvF ?_) | (with_reducible refine Sm.pvT ?_) | (with_reducible refine Sm.asgO ?_) | (with_reducible refine Sm.exS ?_) | (with_reducible refine Sm.skip ?_) | (with_reducible refine Sm.par2 ?_) | (with_reducible refine Sm.par3 ?_) | (with_reducible refine Sm.forS ?_) | (with_reducible refine Sm.at_nx ?_) | (with_reducible refine Sm.at_rt ?_) | (with_reducible refine Sm.oP ?_) | (with_reducible refine Sm.oF ?_) | (with_reducible refine Sm.fP ?_) | (with_reducible refine Sm.fF ?_) | (with_reducible refine Sm.itZ2 ?_) | (with_reducible refine Sm.itZ3 ?_) | (with_reducible refine Sm.itEn ?_) | (with_reducible refine Sm.argX ?_) | (with_reducible refine Sm.repE ?_) | ((with_reducible apply Sm.augI); (focus rfl)) | ((with_reducible refine Sm.dicE ?_ ?_); (focus decide)) | (with_reducible refine Sm.lzE ?_) | (with_reducible refine Sm.itV ?_) | (with_reducible refine Sm.itR3 ?_) | (with_reducible refine Sm.itRv1 ?_) | (with_reducible refine Sm.itRv2 ?_) | ((with_reducible apply Sm.augS); (focus rfl)) | (with_reducible refine Sm.parL3 ?_) | (with_reducible refine iteTT ?_) | (with_reducible refine iteT ?_) | (with_reducible refine iteF ?_) | ((with_reducible refine iteB1 ?_ ?_); (focus rfl)) | ((with_reducible refine iteB0 ?_ ?_); (focus rfl)))))
local macro_rules | `(tactic| walk_at "lw n") => `(tactic| (try dsimp only [ent, List.map, Nat.reduceAdd, Nat.reduceSub, List.length_cons, List.length_nil, List.replicate_succ, List.replicate_zero, List.cons_append, List.nil_append, putBack, setOwn, List.getElem?_cons_zero, List.getElem?_cons_succ, List.set_cons_zero, List.set_cons_succ, Sm.nf]))
local macro_rules | `(tactic| walk_at "lw v") => `(tactic| (try simp only [pb1, pb2, pb3, pb4]))
/-! ### tables -/
abbrev Tab := List (List Int)
def fmin : List Int → Int
  | [] => 0
  | x :: xs => xs.foldl min x
theorem foldl_min_cons (a b : Int) (l : List Int) : (b :: l).foldl min a = min a (l.foldl min b) := by
  induction l generalizing a b with
  | nil => rfl
  | cons c l ih =>
    rw [List.foldl_cons, ih (min a b) c, ih b c]
    omega
theorem fmin_cons {x : Int} {xs : List Int} (h : xs ≠ []) : fmin (x :: xs) = min x (fmin xs) := by
  cases xs with
  | nil => exact absurd rfl h
  | cons y ys => exact foldl_min_cons x y ys
def ev (row parts : List Int) : Int := fmin (List.zipWith (· + ·) row parts)
theorem ev_cons {a x : Int} {r xs : List Int} (h1 : r ≠ []) (h2 : xs ≠ []) : ev (a :: r) (x :: xs) = min (a + x) (ev r xs) := by
  unfold ev
  rw [List.zipWith_cons_cons, fmin_cons]
  cases r with
  | nil => exact absurd rfl h1
  | cons b r => cases xs with
    | nil => exact absurd rfl h2
    | cons y ys => simp
theorem ev_add (m : Int) : ∀ (r xs : List Int), r.length = xs.length → r ≠ [] → ev (r.map (· + m)) xs = ev r xs + m
  | [], _, _, h => absurd rfl h
  | [a], [x], _, _ => by show a + m + x = a + x + m; omega
  | a :: b :: r, x :: y :: xs, h, _ => by
    rw [List.map_cons, ev_cons (by simp) (by simp), ev_cons (by simp) (by simp), ev_add m (b :: r) (y :: xs) (by simpa using h) (by simp)]
    omega
theorem ev_addl (m : Int) (r xs : List Int) (h : r.length = xs.length) (h0 : r ≠ []) : ev (r.map (m + ·)) xs = m + ev r xs := by
  have e : r.map (m + ·) = r.map (· + m) := List.map_congr_left fun a _ => by show m + a = a + m; omega
  rw [e, ev_add m r xs h h0]
  omega
theorem ev_min (q : Int) (r : List Int) : ∀ (ab xs : List Int), r.length = xs.length → ab.length = xs.length → r ≠ [] → ev (List.zipWith (fun a b => min a (q + b)) r ab) xs = min (ev r xs) (q + ev ab xs) := by
  induction r with
  | nil => intro ab xs _ _ h; exact absurd rfl h
  | cons a r ih =>
    intro ab xs h1 h2 _
    obtain ⟨x, xs, rfl⟩ : ∃ x ys, xs = x :: ys := by cases xs with | nil => simp at h1 | cons x ys => exact ⟨x, ys, rfl⟩
    obtain ⟨b, ab, rfl⟩ : ∃ x ys, ab = x :: ys := by cases ab with | nil => simp at h2 | cons x ys => exact ⟨x, ys, rfl⟩
    have h1' : r.length = xs.length := by simpa using h1
    have h2' : ab.length = xs.length := by simpa using h2
    by_cases hr : r = []
    · subst hr
      have hx : xs = [] := List.length_eq_zero_iff.1 h1'.symm
      subst hx
      have hb : ab = [] := List.length_eq_zero_iff.1 h2'
      subst hb
      show min a (q + b) + x = min (a + x) (q + (b + x))
      omega
    · have hx : xs ≠ [] := fun e => hr (List.length_eq_zero_iff.1 (by rw [h1', e]; rfl))
      have hb : ab ≠ [] := fun e => hx (List.length_eq_zero_iff.1 (by rw [← h2', e]; rfl))
      have hz : List.zipWith (fun a b => min a (q + b)) r ab ≠ [] := fun e => by
        have := congrArg List.length e
        rw [List.length_zipWith, h1', h2', Nat.min_self] at this
        exact hx (List.length_eq_zero_iff.1 this)
      rw [List.zipWith_cons_cons, ev_cons hz hx, ev_cons hr hx, ev_cons hb hx, ih ab xs h1' h2' hr]
      omega
def ledT : Tab → List Int → List Int
  | [], _ => []
  | row :: rows, parts => ev row parts :: ledT rows parts.tail
def hd0 (t : Tab) : List Int := t.headD [0]
def Shp : Nat → Tab → Prop
  | 0, t => t = []
  | n + 1, t => ∃ row rows, t = row :: rows ∧ row.length = n + 2 ∧ Shp n rows
theorem Shp.len : ∀ {n : Nat} {t : Tab}, Shp n t → t.length = n
  | 0, _, h => by rw [show _ = [] from h]; rfl
  | n + 1, _, ⟨row, rows, e, _, h⟩ => by rw [e, List.length_cons, h.len]
theorem Shp.hd : ∀ {n : Nat} {t : Tab}, Shp n t → (hd0 t).length = n + 1
  | 0, _, h => by rw [show _ = [] from h]; rfl
  | n + 1, _, ⟨row, rows, e, h, _⟩ => by rw [e]; exact h
theorem ev_hd {n : Nat} {t : Tab} {T : List Int} (h : Shp n t) (hT : T.length = n) : ev (hd0 t) (T ++ [0]) = (ledT t (T ++ [0])).headD 0 := by
  cases n with
  | zero =>
    rw [show t = [] from h, List.length_eq_zero_iff.1 hT]
    rfl
  | succ n =>
    obtain ⟨row, rows, rfl, _, _⟩ := h
    rfl
def brimT : List P3 → Tab
  | [] => []
  | p :: ps => (0 :: (hd0 (brimT ps)).map (p.2.1 + ·)) :: brimT ps
theorem brim_shp : ∀ ps : List P3, Shp ps.length (brimT ps)
  | [] => rfl
  | p :: ps => ⟨_, _, rfl, by rw [List.length_cons, List.length_map, (brim_shp ps).hd], brim_shp ps⟩
def behT : List P3 → Tab → Nat → Int → Tab
  | p :: ps, row :: rows, c, m => (((row.map (· + if 1 ≤ c then m else 0)).headD 0) :: List.zipWith (fun a b => min a (p.2.1 + b)) (row.map (· + if 1 ≤ c then m else 0)).tail (hd0 (behT ps rows (c - 1) m))) :: behT ps rows (c - 1) m
  | _, _, _, _ => []
theorem beh_shp : ∀ {ps : List P3} {t : Tab} {c : Nat} {m : Int}, Shp ps.length t → Shp ps.length (behT ps t c m)
  | [], t, c, m, h => rfl
  | p :: ps, t, c, m, h => by
    obtain ⟨row, rows, rfl, h1, h2⟩ := h
    have ih := beh_shp (ps := ps) (c := c - 1) (m := m) h2
    refine ⟨_, _, rfl, ?_, ih⟩
    rw [List.length_cons, List.length_zipWith, List.length_tail, List.length_map, ih.hd, h1]
    omega
/-- running over, by totals -/
def ovT : List P3 → List Int → List Int
  | p :: ps, u :: us => min u (p.2.1 + (ovT ps us).headD 0) :: ovT ps us
  | _, _ => []
theorem ledT_brim : ∀ (ps : List P3) (T : List Int), T.length = ps.length → ledT (brimT ps) (T ++ [0]) = ovT ps T
  | [], T, h => by cases T <;> rfl
  | p :: ps, [], h => by simp at h
  | p :: ps, u :: us, h => by
    have hl : us.length = ps.length := by simpa using h
    have ih := ledT_brim ps us hl
    have sh := brim_shp ps
    rw [brimT, List.cons_append, ledT, ovT, List.tail_cons, ih]
    congr 1
    have hne : hd0 (brimT ps) ≠ [] := fun e => by have := sh.hd; rw [e] at this; simp at this
    rw [ev_cons (by simp [hne]) (by simp), ev_addl _ _ _ (by rw [sh.hd, List.length_append, hl]; rfl) hne, ev_hd sh hl, ih]
    omega
theorem ledT_beh : ∀ (ps : List P3) (t : Tab) (c : Nat) (m : Int) (T : List Int), Shp ps.length t → T.length = ps.length → ledT (behT ps t c m) (T ++ [0]) = ovT ps (addPre c m (ledT t (T ++ [0])))
  | [], t, c, m, T, h, hT => by
    have : t = [] := h
    subst this
    cases c <;> rfl
  | p :: ps, t, c, m, T, h, hT => by
    obtain ⟨row, rows, rfl, h1, h2⟩ := h
    cases T with
    | nil => simp at hT
    | cons x xs =>
    have hl : xs.length = ps.length := by simpa using hT
    have ih := ledT_beh ps rows (c - 1) m xs h2 hl
    have sh := beh_shp (ps := ps) (c := c - 1) (m := m) h2
    have hrow : row.length = (x :: (xs ++ [0])).length := by rw [h1, List.length_cons, List.length_append, hl]; rfl
    obtain ⟨k, hk⟩ : ∃ k, (if 1 ≤ c then m else 0) = k := ⟨_, rfl⟩
    have e1 : addPre c m (ledT (row :: rows) (x :: xs ++ [0])) = (ev row (x :: (xs ++ [0])) + k) :: addPre (c - 1) m (ledT rows (xs ++ [0])) := by
      rw [List.cons_append, ledT, List.tail_cons]
      cases c with
      | zero => rw [← hk]; simp [addPre]
      | succ c => rw [← hk, addPre]; simp
    rw [e1, behT, List.cons_append, ledT, List.tail_cons, ih, ovT, hk]
    congr 1
    cases row with
    | nil => simp at h1
    | cons a r =>
      have hr : r.length = ps.length + 1 := by simpa using h1
      have hrn : r ≠ [] := fun e => by rw [e] at hr; simp at hr
      have hab : (hd0 (behT ps rows (c - 1) m)).length = (xs ++ [0]).length := by rw [sh.hd, List.length_append, hl]; rfl
      have hrx : r.length = (xs ++ [0]).length := by rw [hr, List.length_append, hl]; rfl
      rw [List.map_cons, List.headD_cons, List.tail_cons]
      have hz : List.zipWith (fun a b => min a (p.2.1 + b)) (r.map (· + k)) (hd0 (behT ps rows (c - 1) m)) ≠ [] := fun e => by
        have := congrArg List.length e
        rw [List.length_zipWith, List.length_map, hab, hrx] at this
        simp at this
      rw [ev_cons hz (by simp), ev_min _ _ _ _ (by rw [List.length_map]; exact hrx) hab (by simpa using hrn), ev_add _ _ _ hrx hrn, ev_hd sh hl, ih, ev_cons hrn (by simp)]
      omega
theorem tots_cons (x : Int) (xs : List Int) : tots (x :: xs) = (x + xs.sum) :: tots xs := by
  unfold tots
  rw [List.length_cons, List.range_succ_eq_map, List.map_cons, List.map_map]
  simp
theorem tots_hd : ∀ xs : List Int, (tots xs).headD 0 = xs.sum
  | [] => rfl
  | x :: xs => by rw [tots_cons, List.headD_cons, List.sum_cons]
theorem ov_sum : ∀ zs : List Pz, (ov zs).1.sum + (ov zs).2.2 = (zs.map (·.2)).sum
  | [] => rfl
  | z :: zs => by
    have ih := ov_sum zs
    rw [ov, List.map_cons, List.sum_cons, List.sum_cons, ← ih]
    dsimp only
    omega
theorem tots_ov : ∀ (ps : List P3) (ls : List Int), ls.length = ps.length → tots (ov (ps.zip ls)).1 = ovT ps (tots ls)
  | [], [], _ => rfl
  | p :: ps, l :: ls, h => by
    have hl : ls.length = ps.length := by simpa using h
    have ih := tots_ov ps ls hl
    have hs := ov_sum (ps.zip ls)
    rw [List.map_snd_zip (by omega)] at hs
    have hh := tots_hd (ov (ps.zip ls)).1
    rw [List.zip_cons_cons, ov, tots_cons, tots_cons, ovT, ← ih, hh]
    congr 1
    dsimp only
    unfold spill
    split <;> omega
theorem tots_aft {ps : List P3} {ls : List Int} {d : Dd} (hl : ls.length = ps.length) (ho : d.On ps.length) : tots (aft ps ls d) = ovT ps (addPre (chg ps d).1.toNat (chg ps d).2 (tots ls)) := by
  have hc := chg_on (ps := ps) ho
  have ec : ((chg ps d).1.toNat : Int) = (chg ps d).1 := by omega
  unfold aft
  rw [tots_ov ps _ (by rw [add1_len]; exact hl)]
  congr 1
  conv => lhs; rw [← ec]
  exact tots_add1 (by omega)
def tabStep (ps : List P3) (t : Tab) (d : Dd) : Tab := behT ps t (chg ps d).1.toNat (chg ps d).2
def tabOf (ps : List P3) (ds : List Dd) : Tab := ds.foldl (tabStep ps) (brimT ps)
theorem tab_shp {ps : List P3} : ∀ (ds : List Dd) (t : Tab), Shp ps.length t → Shp ps.length (ds.foldl (tabStep ps) t)
  | [], t, h => h
  | d :: ds, t, h => tab_shp ds _ (beh_shp h)
theorem tabOf_shp (ps : List P3) (ds : List Dd) : Shp ps.length (tabOf ps ds) := tab_shp ds _ (brim_shp ps)
/-- levels behind deeds, leasts and chambers left aside -/
def lvs (ps : List P3) (ls : List Int) (ds : List Dd) : List Int := ds.foldl (aft ps) ls
theorem lvs_len {ps : List P3} : ∀ (ds : List Dd) {ls : List Int}, ls.length = ps.length → (lvs ps ls ds).length = ps.length
  | [], ls, h => h
  | d :: ds, ls, h => lvs_len ds (aft_len h).1
theorem led_along {ps : List P3} {T : List Int} (hT : T.length = ps.length) : ∀ (ds : List Dd) (t : Tab) (ls : List Int), Shp ps.length t → ls.length = ps.length → (∀ d ∈ ds, d.On ps.length) → ledT t (T ++ [0]) = tots ls → ledT (ds.foldl (tabStep ps) t) (T ++ [0]) = tots (lvs ps ls ds)
  | [], t, ls, _, _, _, h => h
  | d :: ds, t, ls, hs, hl, ho, h => by
    refine led_along hT ds (tabStep ps t d) (aft ps ls d) (beh_shp hs) (aft_len hl).1 (fun e m => ho e (by simp [m])) ?_
    unfold tabStep
    rw [ledT_beh ps t _ _ T hs hT, h, tots_aft hl (ho d (by simp))]
theorem led_tab {ps : List P3} {ls : List Int} {ds : List Dd} (hl : ls.length = ps.length) (ho : ∀ d ∈ ds, d.On ps.length) : ledT (tabOf ps ds) (tots ls ++ [0]) = tots (lvs ps (ov (ps.zip ls)).1 ds) := by
  have hT : (tots ls).length = ps.length := by rw [tots_len]; exact hl
  refine led_along hT ds _ _ (brim_shp ps) (by rw [(ov_len _).1, List.length_zip]; omega) ho ?_
  rw [ledT_brim ps _ hT, tots_ov ps ls hl]
end Lw
-- F2
-- F3
namespace Lw
open PySem PySem.Spec PyProof.Rows L2
local macro_rules | `(tactic| walk_at "lw e") => `(tactic| (repeat (first | (with_reducible apply Exists.intro) | ((with_reducible refine And.intro ?_ ?_); · (first | (with_reducible exact pw_9) | (with_reducible exact pw_12) | (with_reducible exact pw_17) | (with_reducible exact pw_20) | (with_reducible exact pw_60) | (with_reducible exact pw_7) | (with_reducible exact pw_6) | (with_reducible exact pw_15) | (with_reducible exact pw_18) | (with_reducible exact pw_19) | (with_reducible exact pw_30) | (with_reducible exact pw_40) | (with_reducible exact tix0) | (with_reducible exact tix1) | (with_reducible exact tix2) | ((with_reducible apply mul_r); decide) | ((with_reducible apply mul_l); decide) | ((with_reducible apply div_i); decide) | ((with_reducible apply in_R); decide) | ((fail_if_success (with_reducible apply mul_r)); (fail_if_success (with_reducible apply div_i)); (fail_if_success (with_reducible apply dm_int)); (fail_if_success (with_reducible apply in_R)); rfl) | (exact Nat.le_of_ble_eq_true rfl) | (simp [refsOf]; done) | (exact ⟨rfl, rfl, by decide⟩) | (exact ⟨rfl, rfl, rfl⟩) | ((with_reducible apply tgN_o); (focus rfl); (focus (first | assumption | trivial))))) | ((with_reducible apply Sm.vrP); (focus rfl)) | ((with_reducible apply Sm.vrO); (focus rfl)) | (with_reducible refine Sm.cn ?_) | (with_reducible refine Sm.op2 ?_) | (with_reducible refine Sm.argV ?_) | (with_reducible refine Sm.callE ?_) | (with_reducible refine Sm.cal1 ?_) | (with_reducible refine Sm.sq ?_) | (with_reducible refine Sm.asgS ?_) | (with_reducible refine Sm.asg ?_) | (with_reducible refine Sm.retS ?_) | (with_reducible refine Sm.ifS ?_) | (with_reducible refine Sm.argN ?_) | (with_reducible refine Sm.tst ?_) | (with_reducible refine Sm.tupE ?_) | (with_reducible refine Sm.lstE ?_) | (with_reducible refine Sm.isE ?_) | (with_reducible refine Sm.argR ?_) | (with_reducible refine Sm.tru ?_) | (with_reducible refine Sm.andT ?_) | (with_reducible refine Sm.orT ?_) | (with_reducible refine Sm.notT ?_) | (with_reducible refine Sm.andV ?_) | (with_reducible refine Sm.orV ?_) | (with_reducible refine Sm.notV ?_) | (with_reducible refine Sm.negV ?_) | (with_reducible refine Sm.ife ?_) | (with_reducible refine Sm.chn ?_) | (with_reducible refine Sm.callF ?_) | (with_reducible refine Sm.slE ?_) | (with_reducible refine Sm.ptN ?_) | (with_reducible refine Sm.ptS ?_) | (with_reducible refine Sm.revE ?_) | (with_reducible refine Sm.mth ?_) | (with_reducible refine Sm.ret ?_) | (with_reducible refine Sm.esc ?_) | (with_reducible refine Sm.itS ?_) | (with_reducible refine Sm.itR1 ?_) | (with_reducible refine Sm.itR2 ?_) | (with_reducible refine Sm.itE ?_) | (with_reducible refine Sm.itZ ?_) | (with_reducible refine Sm.lcE2 ?_) | (with_reducible refine Sm.pvF ?_) | (with_reducible refine Sm.pvT ?_) | (with_reducible refine Sm.asgO ?_) | (with_reducible refine Sm.exS ?_) | (with_reducible refine Sm.skip ?_) | (with_reducible refine Sm.par2 ?_) | (with_reducible refine Sm.par3 ?_) | (with_reducible refine Sm.forS ?_) | (with_reducible refine Sm.at_nx ?_) | (with_reducible refine Sm.at_rt ?_) | (with_reducible refine Sm.oP ?_) | (with_reducible refine Sm.oF ?_) | (with_reducible refine Sm.fP ?_) | (with_reducible refine Sm.fF ?_) | (with_reducible refine Sm.itZ2 ?_) | (with_reducible refine Sm.itZ3 ?_) | (with_reducible refine Sm.itEn ?_) | (with_reducible refine Sm.argX ?_) | (with_reducible refine Sm.repE ?_) | ((with_reducible apply Sm.augI); (focus rfl)) | ((with_reducible refine Sm.dicE ?_ ?_); (focus decide)) | (with_reducible refine Sm.lzE ?_) | (with_reducible refine Sm.itV ?_) | (with_reducible refine Sm.itR3 ?_) | (with_reducible refine Sm.itRv1 ?_) | (with_reducible refine Sm.itRv2 ?_) | ((with_reducible apply Sm.augS); (focus rfl)) | (with_reducible refine Sm.parL3 ?_) | (with_reducible refine iteTT ?_) | (with_reducible refine iteT ?_) | (with_reducible refine iteF ?_) | ((with_reducible refine iteB1 ?_ ?_); (focus rfl)) | ((with_reducible refine iteB0 ?_ ?_); (focus rfl)))))
local macro_rules | `(tactic| walk_at "lw n") => `(tactic| (try dsimp only [ent, List.map, Nat.reduceAdd, Nat.reduceSub, List.length_cons, List.length_nil, List.replicate_succ, List.replicate_zero, List.cons_append, List.nil_append, putBack, setOwn, List.getElem?_cons_zero, List.getElem?_cons_succ, List.set_cons_zero, List.set_cons_succ, Sm.nf]))
local macro_rules | `(tactic| walk_at "lw v") => `(tactic| (try simp only [pb1, pb2, pb3, pb4]))
def tabD (t : Tab) : D := .tuple (t.map it)
structure TabG (tv : D) (xs : List D) (t : Tab) : Prop where
  its : items tv = some xs
  len : xs.length = t.length
  ok : ∀ (i : Nat) x r, xs[i]? = some x → t[i]? = some r → Seq x r
theorem TabG.of (t : Tab) : TabG (tabD t) (t.map it) t := ⟨rfl, List.length_map _, fun i x r h1 h2 => by
  rw [List.getElem?_map, h2] at h1
  cases h1
  exact .inr rfl⟩
def plusD (k : Int) : D → D
  | .int m => .int (k + m)
  | d => d
def IBt (st : D) (ps : List P3) (i : Nat) (ς : En) : Prop := ∃ o3 : Option S, ς = [some (.pure st), some (.own false ((brimT (ps.drop (ps.length - i))).reverse.map it)), some (.pure (it (hd0 (brimT (ps.drop (ps.length - i)))))), o3, none] ∧ Fr o3
theorem brim_ok {st : D} {xs : List D} {ps : List P3} (hs : StairG st xs ps) (hp : ps.length ≤ 1000) : wpf m_p_brim_table [.pure st] (ValQ fun x => x = tabD (brimT ps)) := by
  have hsl : sizeLine = 16777216 := rfl
  obtain ⟨r, d, r1, r2, r3⟩ := rev_any hs.its
  have hxl := hs.len
  refine Sm.run ?_
  unfold g_p_brim_table
  walk_at "lw n"
  walk_at "lw e"
  refine ⟨r1, _, _, _, r2 _, r3, ?_⟩
  refine Sm.loopInv (IBt st ps) ⟨none, ?_, trivial⟩ ?_ ?_
  · rw [Nat.sub_zero, List.drop_length]; rfl
  · rintro i x ς hx ⟨o3, rfl, f3⟩
    have hi : i < ps.length := by have := (List.getElem?_eq_some_iff.mp hx).1; rw [List.length_reverse] at this; omega
    rw [List.getElem?_reverse (by omega)] at hx
    obtain ⟨k, hk⟩ : ∃ k, ps.length - 1 - i = k := ⟨_, rfl⟩
    rw [show xs.length - 1 - i = k by omega] at hx
    have hkl : k < ps.length := by omega
    have hpn := hs.ok k x _ hx (List.getElem?_eq_getElem hkl)
    have sh := brim_shp (ps.drop (k + 1))
    have hh := sh.hd
    rw [List.length_drop] at hh
    have ed : ps.drop k = ps[k] :: ps.drop (k + 1) := List.drop_eq_getElem_cons hkl
    rw [show ps.length - i = k + 1 by omega]
    refine ⟨_, tgN_o rfl f3, ?_⟩
    walk_at "lw n"
    walk_at "lw e"
    refine Sm.lcPure (plusD ps[k].2.1) (by rw [List.length_map]; omega) ?_ ?_
    · intro y hy
      obtain ⟨m, hm, rfl⟩ := List.mem_map.1 hy
      refine ⟨_, tgN_o rfl trivial, ?_⟩
      walk_at "lw n"
      walk_at "lw e"
      refine ⟨hpn.b, ?_⟩
      walk_at "lw e"
      first | rfl | exact ⟨rfl, rfl⟩
    have em : ((hd0 (brimT (ps.drop (k + 1)))).map PyData.int).map (plusD ps[k].2.1) = ((hd0 (brimT (ps.drop (k + 1)))).map (ps[k].2.1 + ·)).map PyData.int := by
      rw [List.map_map, List.map_map]; rfl
    rw [em]
    dsimp only [wipeE]
    walk_at "lw n"
    walk_at "lw e"
    refine ⟨catT_ok (by simp; omega), ?_⟩
    walk_at "lw e"
    walk_at "lw n"
    walk_at "lw e"
    refine ⟨app_ok (by rw [List.length_map, List.length_reverse, sh.len, List.length_drop]; omega), ?_⟩
    refine ⟨some (.pure x), ?_, trivial⟩
    rw [show ps.length - (i + 1) = k by omega, ed]
    have eb : brimT (ps[k] :: ps.drop (k + 1)) = (0 :: (hd0 (brimT (ps.drop (k + 1)))).map (ps[k].2.1 + ·)) :: brimT (ps.drop (k + 1)) := rfl
    rw [eb, List.reverse_cons, List.map_append]
    rfl
  · rintro ς ⟨o3, rfl, f3⟩
    rw [List.length_reverse, hxl, Nat.sub_self, List.drop_zero]
    walk_at "lw e"
    refine ⟨_, rfl, ?_⟩
    unfold tabD
    show PyData.tuple _ = PyData.tuple _
    rw [← List.map_reverse, List.reverse_reverse]
/-! ### table_behind -/
def mnD (q : Int) : D → D
  | .tuple [.int a, .int b] => .int (if q + b < a then q + b else a)
  | d => d
def adD (k : Int) : D → D
  | .int h => .int (h + k)
  | d => d
theorem mn_map (q : Int) : ∀ (xs ys : List Int), ((List.zip xs ys).map fun p => PyData.tuple [.int p.1, .int p.2]).map (mnD q) = (List.zipWith (fun a b => min a (q + b)) xs ys).map PyData.int
  | [], _ => rfl
  | _ :: _, [] => rfl
  | x :: xs, y :: ys => by
    rw [List.zip_cons_cons, List.map_cons, List.map_cons, mn_map q xs ys, List.zipWith_cons_cons, List.map_cons]
    congr 1
    show PyData.int (if q + y < x then q + y else x) = _
    congr 1
    omega
theorem Shp.dropS : ∀ {n : Nat} {t : Tab} (k : Nat), Shp n t → k ≤ n → Shp (n - k) (t.drop k)
  | n, t, 0, h, _ => h
  | 0, t, k + 1, h, hk => by omega
  | n + 1, t, k + 1, h, hk => by
    obtain ⟨row, rows, rfl, _, h2⟩ := h
    rw [List.drop_succ_cons, show n + 1 - (k + 1) = n - k by omega]
    exact Shp.dropS k h2 (by omega)
theorem Shp.row {n : Nat} {t : Tab} {k : Nat} (h : Shp n t) (hk : k < n) : ∃ a r, t.drop k = (a :: r) :: t.drop (k + 1) ∧ t[k]? = some (a :: r) ∧ r.length = n - k := by
  have hd := h.dropS k (by omega)
  rw [show n - k = (n - k - 1) + 1 by omega] at hd
  obtain ⟨row, rows, e, hl, _⟩ := hd
  have hlt : k < t.length := by rw [h.len]; exact hk
  rw [List.drop_eq_getElem_cons hlt] at e ⊢
  injection e with e1 e2
  cases row with
  | nil => simp at hl
  | cons a r => exact ⟨a, r, by rw [e1], by rw [List.getElem?_eq_getElem hlt, e1], by rw [List.length_cons] at hl; omega⟩
theorem lix0 {w : D} {r : List D} : gIx (.list (w :: r)) (.int 0) = some (.pure w) := at_list (xs := w :: r) (by decide) (by rw [List.length_cons]; omega)
def ITb (st tv dv : D) (ps : List P3) (t : Tab) (c : Nat) (m : Int) (i : Nat) (ς : En) : Prop := ∃ o7 o8 o9 o11 : Option S, ς = [some (.pure st), some (.pure tv), some (.pure dv), some (.pure (.int (c : Int))), some (.pure (.int m)), some (.own false ((behT (ps.drop (ps.length - i)) (t.drop (ps.length - i)) (c - (ps.length - i)) m).reverse.map it)), some (.pure (it (hd0 (behT (ps.drop (ps.length - i)) (t.drop (ps.length - i)) (c - (ps.length - i)) m)))), o7, o8, o9, none, o11, none] ∧ Fr o7 ∧ Fr o8 ∧ Fr o9 ∧ Fr o11
theorem rn2_ok {n : Nat} (h : n ≤ 1000) : gRn2 (.int 1) (.int ((n : Int) + 1)) = some (rngD 1 n).reverse := by
  show (if inR 1 = true ∧ inR ((n : Int) + 1) = true then some (rngD 1 ((n : Int) + 1 - 1).toNat).reverse else none) = _
  rw [if_pos ⟨in_R (by omega), in_R (by omega)⟩, show ((n : Int) + 1 - 1).toNat = n by omega]
theorem behind1_ok {st dv : D} {xs : List D} {ps : List P3} {t : Tab} {d : Dd} (hs : StairG st xs ps) (hd : Dt dv d) (ho : d.On ps.length) (hp : ps.length ≤ 1000) (ht : Shp ps.length t) : wpf m_p_table_behind [.pure st, .pure (tabD t), .pure dv] (ValQ fun x => x = tabD (tabStep ps t d)) := by
  have hsl : sizeLine = 16777216 := rfl
  have hc := chg_on (ps := ps) ho
  have ec : ((chg ps d).1.toNat : Int) = (chg ps d).1 := by omega
  unfold tabStep
  have hch := changeG hs hd ho
  rw [← ec] at hch
  generalize (chg ps d).1.toNat = c at hch ec
  generalize (chg ps d).2 = m at hch
  refine Sm.run ?_
  unfold g_p_table_behind
  walk_at "lw n"
  walk_at "lw e"
  (refine Sm.fmono (hch) fun r o h => ?_; obtain ⟨d, rfl, rfl⟩ := h; refine ⟨nref, ?_⟩; walk_at "lw v"; walk_at "lw e")
  walk_at "lw n"
  walk_at "lw e"
  refine ⟨hs.glen, Sm.cn ⟨_, _, _, rfl, rfl, rfl, _, _, rfl, _, rn2_ok hp, ?_⟩⟩
  refine Sm.loopInv (ITb st (tabD t) dv ps t c m) ⟨none, none, none, none, ?_, trivial, trivial, trivial, trivial⟩ ?_ ?_
  · rw [Nat.sub_zero, List.drop_length, show t.drop ps.length = [] by rw [← ht.len, List.drop_length]]; rfl
  · rintro i x ς hx ⟨o7, o8, o9, o11, rfl, f7, f8, f9, f11⟩
    have hi : i < ps.length := by have := (List.getElem?_eq_some_iff.mp hx).1; rw [List.length_reverse, rngD_len] at this; omega
    rw [List.getElem?_reverse (by rw [rngD_len]; omega), rngD_len, rngD_get _ _ _ (by omega)] at hx
    cases hx
    obtain ⟨k, hk⟩ : ∃ k, ps.length - 1 - i = k := ⟨_, rfl⟩
    rw [hk, show ps.length - i = k + 1 by omega]
    have hkl : k < ps.length := by omega
    have ekn : (1 : Int) + k - 1 = (k : Int) := by omega
    obtain ⟨a, r, ed, eg, hr⟩ := ht.row hkl
    have edp : ps.drop k = ps[k] :: ps.drop (k + 1) := List.drop_eq_getElem_cons hkl
    have ix1 : gIx (tabD t) (.int ((1 : Int) + k - 1)) = some (.pure (it (a :: r))) := by
      rw [ekn, ix_items (t := tabD t) rfl (by omega) (by rw [List.length_map, ht.len]; omega), Int.toNat_natCast, List.getD_eq_getElem?_getD, List.getElem?_map, eg]
      rfl
    obtain ⟨px, ix2, hpx⟩ := hs.ix (l := k + 1) (by omega) (by omega)
    have epx : pAt ps (k + 1 - 1) = ps[k] := by
      unfold pAt
      rw [Nat.add_sub_cancel, List.getD_eq_getElem?_getD, List.getElem?_eq_getElem hkl]
      rfl
    rw [epx] at hpx
    have ix2' : gIx st (.int ((1 : Int) + k - 1)) = some (.pure px) := by rw [← ix2]; congr 2; omega
    have sh := beh_shp (ps := ps.drop (k + 1)) (t := t.drop (k + 1)) (c := c - (k + 1)) (m := m) (by rw [List.length_drop]; exact ht.dropS (k + 1) (by omega))
    have shh := sh.hd
    rw [List.length_drop] at shh
    refine ⟨_, tgN_o rfl f7, ?_⟩
    walk_at "lw n"
    obtain ⟨q, hq⟩ : ∃ q : Int, (if 1 ≤ c - k then m else 0) = q := ⟨_, rfl⟩
    refine Sm.sq ?_
    refine Sm.asg (Sm.ife (Sm.tst (Sm.op2 (Sm.vrP rfl (Sm.vrP rfl ⟨_, _, _, rfl, rfl, rfl, _, rfl, ?_⟩)))))
    have hite : ∀ {A B : Prop}, (q = m → A) → (q = 0 → B) → if decide ((1 : Int) + k ≤ (c : Int)) = true then A else B := by
      intro A B hA hB
      by_cases h : (1 : Int) + k ≤ (c : Int)
      · refine iteDT h (hA ?_); rw [← hq, if_pos (by omega)]
      · refine iteDF h (hB ?_); rw [← hq, if_neg (by omega)]
    have rest : Sm.andThen (sq (asg (lcE (itS (op2 gIx (vr 1) (op2 gSubA (vr 7) (cn (.int 1))))) [10] (tgN 10) (ret true) (op2 gAddA (vr 10) (vr 8))) (tgN 9))
  (sq (asg (op2 gIx (op2 gIx (vr 0) (op2 gSubA (vr 7) (cn (.int 1)))) (cn (.int 1))) (tgN 11))
  (sq (asg (op2 gAddA (tupE (argV (op2 gIx (vr 9) (cn (.int 0))) argN)) (cal1 gTuple (lcE (itZ2 (slE (vr 9) (ptS (cn (.int 1))) ptN) (vr 6)) [10, 12] (tgT 2 (tgsC (tgN 10) (tgsC (tgN 12) tgsN))) (ret true) (op2 (g2I fun i j => if j < i then j else i) (vr 10) (op2 gAddA (vr 11) (vr 12)))))) (tgN 6))
  (exS (mth hApp (vr 5) (argV (vr 6) argN)))))) (fun o => match o with | .nx ς2 => ITb st (tabD t) dv ps t c m (i + 1) ς2 | .ct ς2 => ITb st (tabD t) dv ps t c m (i + 1) ς2 | .bk ς2 => Sm.andThen (retS (cal1 gTuple (cal1 gRev (vr 5)))) (Sm.outF 3 (ValQ fun x => x = tabD (behT ps t c m))) (.nx ς2) | .rt r ς2 => Sm.andThen (retS (cal1 gTuple (cal1 gRev (vr 5)))) (Sm.outF 3 (ValQ fun x => x = tabD (behT ps t c m))) (.rt r ς2))
        (.nx [some (.pure st), some (.pure (tabD t)), some (.pure dv), some (.pure (.int (c : Int))), some (.pure (.int m)), some (.own false ((behT (ps.drop (k + 1)) (t.drop (k + 1)) (c - (k + 1)) m).reverse.map it)), some (.pure (it (hd0 (behT (ps.drop (k + 1)) (t.drop (k + 1)) (c - (k + 1)) m)))), some (.pure (.int ((1 : Int) + k))), some (.pure (.int q)), o9, none, o11, none]) := by
      have fin : ITb st (tabD t) dv ps t c m (i + 1) [some (.pure st), some (.pure (tabD t)), some (.pure dv), some (.pure (.int (c : Int))), some (.pure (.int m)), some (.own false ((behT (ps.drop (k + 1)) (t.drop (k + 1)) (c - (k + 1)) m).reverse.map it ++ [.tuple ([.int (a + q)] ++ (List.zipWith (fun a b => min a (ps[k].2.1 + b)) (r.map (· + q)) (hd0 (behT (ps.drop (k + 1)) (t.drop (k + 1)) (c - (k + 1)) m))).map PyData.int)])), some (.pure (.tuple ([.int (a + q)] ++ (List.zipWith (fun a b => min a (ps[k].2.1 + b)) (r.map (· + q)) (hd0 (behT (ps.drop (k + 1)) (t.drop (k + 1)) (c - (k + 1)) m))).map PyData.int))), some (.pure (.int ((1 : Int) + k))), some (.pure (.int q)), some (.pure (.list (((a :: r).map (· + q)).map PyData.int))), none, some (.pure (.int ps[k].2.1)), none] := by
        refine ⟨some (.pure (.int ((1 : Int) + k))), some (.pure (.int q)), some (.pure (.list (((a :: r).map (· + q)).map PyData.int))), some (.pure (.int ps[k].2.1)), ?_, trivial, trivial, trivial, trivial⟩
        have eb : behT (ps.drop k) (t.drop k) (c - k) m = ((a + q) :: List.zipWith (fun a b => min a (ps[k].2.1 + b)) (r.map (· + q)) (hd0 (behT (ps.drop (k + 1)) (t.drop (k + 1)) (c - (k + 1)) m))) :: behT (ps.drop (k + 1)) (t.drop (k + 1)) (c - (k + 1)) m := by
          rw [edp, ed, behT, hq, show c - k - 1 = c - (k + 1) by omega]
          rfl
        rw [show ps.length - (i + 1) = k by omega, eb, List.reverse_cons, List.map_append]
        rfl
      have em : ((a :: r).map PyData.int).map (adD q) = ((a :: r).map (· + q)).map PyData.int := by rw [List.map_map, List.map_map]; rfl
      refine Sm.at_nx ?_
      walk_at "lw e"
      refine ⟨ix1, ?_⟩
      walk_at "lw e"
      refine Sm.lcPure (adD q) (by rw [List.length_map, List.length_cons]; omega) ?_ ?_
      · intro y hy
        obtain ⟨n, hn, rfl⟩ := List.mem_map.1 hy
        refine ⟨_, tgN_o rfl trivial, ?_⟩
        walk_at "lw n"
        walk_at "lw e"
        first | rfl | exact ⟨rfl, rfl⟩
      rw [em]
      dsimp only [wipeE]
      refine ⟨_, _, _, rfl, tgN_o rfl f9, ?_⟩
      walk_at "lw n"
      walk_at "lw e"
      refine ⟨ix2', ?_⟩
      walk_at "lw e"
      refine ⟨hpx.b, ?_⟩
      refine ⟨_, _, _, rfl, tgN_o rfl f11, ?_⟩
      walk_at "lw n"
      walk_at "lw e"
      refine ⟨lix0, ?_⟩
      walk_at "lw e"
      have ecut : cutD (PyData.int (a + q) :: (r.map (· + q)).map PyData.int) (some 1) none = (r.map (· + q)).map PyData.int := by
        rw [show (some (1 : Int)) = some ((1 : Nat) : Int) from rfl, cut_from]; rfl
      rw [ecut, zip_ints]
      refine Sm.lcPure (mnD ps[k].2.1) (by simp; omega) ?_ ?_
      · intro y hy
        obtain ⟨p, hm, rfl⟩ := List.mem_map.1 hy
        refine ⟨_, tgT2_o rfl trivial rfl trivial, ?_⟩
        walk_at "lw n"
        walk_at "lw e"
        first | rfl | exact ⟨rfl, rfl⟩
      rw [mn_map]
      dsimp only [wipeE]
      walk_at "lw n"
      walk_at "lw e"
      refine ⟨catT_ok (by simp; omega), ?_⟩
      walk_at "lw e"
      walk_at "lw n"
      walk_at "lw e"
      refine ⟨app_ok (by rw [List.length_map, List.length_reverse, sh.len, List.length_drop]; omega), ?_⟩
      exact fin
    refine hite (fun e => ?_) (fun e => ?_)
    · refine Sm.vrP rfl ⟨_, _, _, rfl, tgN_o rfl f8, ?_⟩
      rw [e] at rest
      exact rest
    · refine Sm.cn ⟨_, _, _, rfl, tgN_o rfl f8, ?_⟩
      rw [e] at rest
      exact rest
  · rintro ς ⟨o7, o8, o9, o11, rfl, f7, f8, f9, f11⟩
    rw [List.length_reverse, rngD_len, Nat.sub_self, List.drop_zero, List.drop_zero, Nat.sub_zero]
    walk_at "lw e"
    refine ⟨_, rfl, ?_⟩
    unfold tabD
    show PyData.tuple _ = PyData.tuple _
    rw [← List.map_reverse, List.reverse_reverse]
end Lw
-- F2
-- F3
namespace Lw
open PySem PySem.Spec PyProof.Rows L2
local macro_rules | `(tactic| walk_at "lw e") => `(tactic| (repeat (first | (with_reducible apply Exists.intro) | ((with_reducible refine And.intro ?_ ?_); · (first | (with_reducible exact pw_9) | (with_reducible exact pw_12) | (with_reducible exact pw_17) | (with_reducible exact pw_20) | (with_reducible exact pw_60) | (with_reducible exact pw_7) | (with_reducible exact pw_6) | (with_reducible exact pw_15) | (with_reducible exact pw_18) | (with_reducible exact pw_19) | (with_reducible exact pw_30) | (with_reducible exact pw_40) | (with_reducible exact tix0) | (with_reducible exact tix1) | (with_reducible exact tix2) | ((with_reducible apply mul_r); decide) | ((with_reducible apply mul_l); decide) | ((with_reducible apply div_i); decide) | ((with_reducible apply in_R); decide) | ((fail_if_success (with_reducible apply mul_r)); (fail_if_success (with_reducible apply div_i)); (fail_if_success (with_reducible apply dm_int)); (fail_if_success (with_reducible apply in_R)); rfl) | (exact Nat.le_of_ble_eq_true rfl) | (simp [refsOf]; done) | (exact ⟨rfl, rfl, by decide⟩) | (exact ⟨rfl, rfl, rfl⟩) | ((with_reducible apply tgN_o); (focus rfl); (focus (first | assumption | trivial))))) | ((with_reducible apply Sm.vrP); (focus rfl)) | ((with_reducible apply Sm.vrO); (focus rfl)) | (with_reducible refine Sm.cn ?_) | (with_reducible refine Sm.op2 ?_) | (with_reducible refine Sm.argV ?_) | (with_reducible refine Sm.callE ?_) | (with_reducible refine Sm.cal1 ?_) | (with_reducible refine Sm.sq ?_) | (with_reducible refine Sm.asgS ?_) | (with_reducible refine Sm.asg ?_) | (with_reducible refine Sm.retS ?_) | (with_reducible refine Sm.ifS ?_) | (with_reducible refine Sm.argN ?_) | (with_reducible refine Sm.tst ?_) | (with_reducible refine Sm.tupE ?_) | (with_reducible refine Sm.lstE ?_) | (with_reducible refine Sm.isE ?_) | (with_reducible refine Sm.argR ?_) | (with_reducible refine Sm.tru ?_) | (with_reducible refine Sm.andT ?_) | (with_reducible refine Sm.orT ?_) | (with_reducible refine Sm.notT ?_) | (with_reducible refine Sm.andV ?_) | (with_reducible refine Sm.orV ?_) | (with_reducible refine Sm.notV ?_) | (with_reducible refine Sm.negV ?_) | (with_reducible refine Sm.ife ?_) | (with_reducible refine Sm.chn ?_) | (with_reducible refine Sm.callF ?_) | (with_reducible refine Sm.slE ?_) | (with_reducible refine Sm.ptN ?_) | (with_reducible refine Sm.ptS ?_) | (with_reducible refine Sm.revE ?_) | (with_reducible refine Sm.mth ?_) | (with_reducible refine Sm.ret ?_) | (with_reducible refine Sm.esc ?_) | (with_reducible refine Sm.itS ?_) | (with_reducible refine Sm.itR1 ?_) | (with_reducible refine Sm.itR2 ?_) | (with_reducible refine Sm.itE ?_) | (with_reducible refine Sm.itZ ?_) | (with_reducible refine Sm.lcE2 ?_) | (with_reducible refine Sm.pvF ?_) | (with_reducible refine Sm.pvT ?_) | (with_reducible refine Sm.asgO ?_) | (with_reducible refine Sm.exS ?_) | (with_reducible refine Sm.skip ?_) | (with_reducible refine Sm.par2 ?_) | (with_reducible refine Sm.par3 ?_) | (with_reducible refine Sm.forS ?_) | (with_reducible refine Sm.at_nx ?_) | (with_reducible refine Sm.at_rt ?_) | (with_reducible refine Sm.oP ?_) | (with_reducible refine Sm.oF ?_) | (with_reducible refine Sm.fP ?_) | (with_reducible refine Sm.fF ?_) | (with_reducible refine Sm.itZ2 ?_) | (with_reducible refine Sm.itZ3 ?_) | (with_reducible refine Sm.itEn ?_) | (with_reducible refine Sm.argX ?_) | (with_reducible refine Sm.repE ?_) | ((with_reducible apply Sm.augI); (focus rfl)) | ((with_reducible refine Sm.dicE ?_ ?_); (focus decide)) | (with_reducible refine Sm.lzE ?_) | (with_reducible refine Sm.itV ?_) | (with_reducible refine Sm.itR3 ?_) | (with_reducible refine Sm.itRv1 ?_) | (with_reducible refine Sm.itRv2 ?_) | ((with_reducible apply Sm.augS); (focus rfl)) | (with_reducible refine Sm.parL3 ?_) | (with_reducible refine iteTT ?_) | (with_reducible refine iteT ?_) | (with_reducible refine iteF ?_) | ((with_reducible refine iteB1 ?_ ?_); (focus rfl)) | ((with_reducible refine iteB0 ?_ ?_); (focus rfl)))))
local macro_rules | `(tactic| walk_at "lw n") => `(tactic| (try dsimp only [ent, List.map, Nat.reduceAdd, Nat.reduceSub, List.length_cons, List.length_nil, List.replicate_succ, List.replicate_zero, List.cons_append, List.nil_append, putBack, setOwn, List.getElem?_cons_zero, List.getElem?_cons_succ, List.set_cons_zero, List.set_cons_succ, Sm.nf]))
local macro_rules | `(tactic| walk_at "lw v") => `(tactic| (try simp only [pb1, pb2, pb3, pb4]))
/-- the tables ahead of each deed, and behind the last -/
def along (ps : List P3) (ds : List Dd) : List Tab := (List.range (ds.length + 1)).map fun i => tabOf ps (ds.take i)
theorem tabOf_snoc {ps : List P3} {ds : List Dd} {i : Nat} {d : Dd} (h : ds[i]? = some d) : tabOf ps (ds.take (i + 1)) = tabStep ps (tabOf ps (ds.take i)) d := by
  unfold tabOf
  rw [List.take_add_one, h, List.foldl_append]
  rfl
def FreshQ (P : List D → Prop) (r : R) (_ : List S) : Prop := ∃ ds, r = .fresh ds ∧ P ds
def ITa (st t : D) (ps : List P3) (ds : List Dd) (i : Nat) (ς : En) : Prop := ∃ o4 : Option S, ς = [some (.pure st), some (.pure t), some (.pure (tabD (tabOf ps (ds.take i)))), some (.own false (((List.range (i + 1)).map fun j => tabOf ps (ds.take j)).map tabD)), o4] ∧ Fr o4
theorem along_ok {st t : D} {xs ts : List D} {ps : List P3} {ds : List Dd} (hs : StairG st xs ps) (ht : DeedsG t ts ds) (ho : ∀ d ∈ ds, d.On ps.length) (hp : ps.length ≤ 1000) (hl : ds.length ≤ 1000) : wpf m_p_tables_along [.pure st, .pure t] (FreshQ fun x => x = (along ps ds).map tabD) := by
  refine Sm.run ?_
  unfold g_p_tables_along
  walk_at "lw n"
  walk_at "lw e"
  (refine Sm.fmono (brim_ok hs hp) fun r o h => ?_; obtain ⟨d, rfl, rfl⟩ := h; refine ⟨nref, ?_⟩; walk_at "lw v"; walk_at "lw e")
  walk_at "lw n"
  walk_at "lw e"
  refine ⟨ht.its, ?_⟩
  refine Sm.loopInv (ITa st t ps ds) ⟨none, ?_, trivial⟩ ?_ ?_
  · rfl
  · rintro i x ς hx ⟨o4, rfl, f4⟩
    have hi : i < ds.length := by have := (List.getElem?_eq_some_iff.mp hx).1; have := ht.len; omega
    have hd := ht.ok i x _ hx (List.getElem?_eq_getElem hi)
    have hq : ds[i]? = some ds[i] := List.getElem?_eq_getElem hi
    have hm := List.getElem_mem hi
    refine ⟨_, tgN_o rfl f4, ?_⟩
    walk_at "lw n"
    walk_at "lw e"
    (refine Sm.fmono (behind1_ok hs hd (ho _ hm) hp (tabOf_shp ps (ds.take i))) fun r o h => ?_; obtain ⟨d, rfl, rfl⟩ := h; refine ⟨nref, ?_⟩; walk_at "lw v"; walk_at "lw e")
    walk_at "lw n"
    walk_at "lw e"
    refine ⟨app_ok (by simp; omega), ?_⟩
    refine ⟨some (.pure x), ?_, trivial⟩
    rw [← tabOf_snoc hq, List.range_succ (n := i + 1), List.map_append, List.map_append]
    rfl
  · rintro ς ⟨o4, rfl, f4⟩
    rw [ht.len, List.take_length]
    refine Sm.at_nx (Sm.retS (Sm.vrO rfl (Sm.oM rfl (Sm.fF ⟨_, rfl, rfl⟩))))
theorem last_ok {t : Tab} {ts : List Tab} (h : ts ≠ []) (e : ts.getLast h = t) : gIx (.list (ts.map tabD)) (.int (-1)) = some (.pure (tabD t)) := by
  have hl : 0 < ts.length := List.length_pos_iff.2 h
  have e1 : atI (ts.map tabD) (-1) = some (tabD t) := by
    unfold atI ixN
    rw [List.length_map, if_neg (by decide), if_pos (by omega)]
    show (ts.map tabD)[(_ : Int).toNat]? = _
    have e2 : (-1 + (ts.length : Int)).toNat = ts.length - 1 := by omega
    rw [e2, List.getElem?_map, List.getElem?_eq_getElem (by omega), ← e, List.getLast_eq_getElem]
    rfl
  show (atI (ts.map tabD) (-1)).map R.pure = _
  rw [e1]; rfl
theorem along_last (ps : List P3) (ds : List Dd) : ∃ h : along ps ds ≠ [], (along ps ds).getLast h = tabOf ps ds := by
  have hne : along ps ds ≠ [] := fun e => by have := congrArg List.length e; simp [along] at this
  refine ⟨hne, ?_⟩
  rw [List.getLast_eq_getElem]
  unfold along
  simp
theorem table_ok {st t : D} {xs ts : List D} {ps : List P3} {ds : List Dd} (hs : StairG st xs ps) (ht : DeedsG t ts ds) (ho : ∀ d ∈ ds, d.On ps.length) (hp : ps.length ≤ 1000) (hl : ds.length ≤ 1000) : wpf m_p_table_of [.pure st, .pure t] (ValQ fun x => x = tabD (tabOf ps ds)) := by
  obtain ⟨hne, e⟩ := along_last ps ds
  refine Sm.run ?_
  unfold g_p_table_of
  walk_at "lw n"
  walk_at "lw e"
  refine Sm.fmono (along_ok hs ht ho hp hl) fun r o h => ?_
  obtain ⟨z, rfl, rfl⟩ := h
  refine ⟨nfr, ?_⟩
  walk_at "lw v"
  walk_at "lw e"
  refine ⟨last_ok hne e, ?_⟩
  walk_at "lw e"
  exact ⟨_, rfl, rfl⟩
/-! ### led -/
def sumD : D → D
  | .tuple [.int a, .int b] => .int (a + b)
  | d => d
theorem sum_map : ∀ (xs ys : List Int), ((List.zip xs ys).map fun p => PyData.tuple [.int p.1, .int p.2]).map sumD = (List.zipWith (· + ·) xs ys).map PyData.int
  | [], _ => rfl
  | _ :: _, [] => rfl
  | x :: xs, y :: ys => by rw [List.zip_cons_cons, List.map_cons, List.map_cons, sum_map xs ys, List.zipWith_cons_cons, List.map_cons]; rfl
theorem fmin_ok {ns : List Int} (h : ns ≠ []) : gMinK (.list (ns.map PyData.int)) = some (.pure (.int (fmin ns))) := by
  cases ns with
  | nil => exact absurd rfl h
  | cons n ns => exact minK_ok (.inl rfl)
theorem ledT_get : ∀ (t : Tab) (parts : List Int) (i : Nat), (ledT t parts)[i]? = (t[i]?).map fun r => ev r (parts.drop i)
  | [], _, _ => by simp [ledT]
  | row :: rows, parts, 0 => by simp [ledT]
  | row :: rows, parts, i + 1 => by
    rw [ledT, List.getElem?_cons_succ, List.getElem?_cons_succ, ledT_get rows parts.tail i]
    congr 1
    funext r
    rw [List.drop_tail]
theorem led_ok {tv Tv : D} {xs : List D} {t : Tab} {T : List Int} (ht : TabG tv xs t) (hT : Seq Tv T) (hs : Shp T.length t) (hl : T.length ≤ 1000) : wpf m_p_led [.pure tv, .pure Tv] (ValQ fun x => x = it (ledT t (T ++ [0]))) := by
  have hsl : sizeLine = 16777216 := rfl
  have htl := hs.len
  have hxl := ht.len
  refine Sm.run ?_
  unfold g_p_led
  walk_at "lw n"
  walk_at "lw e"
  refine ⟨hT.items, ?_⟩
  walk_at "lw e"
  refine ⟨vals_avs rfl, by simp; omega, ?_⟩
  have ep : T.map PyData.int ++ [.int 0] = (T ++ [0]).map PyData.int := by rw [List.map_append]; rfl
  rw [ep]
  walk_at "lw e"
  walk_at "lw n"
  walk_at "lw e"
  refine ⟨ht.its, ?_⟩
  walk_at "lw e"
  let f : D → D := fun d => match d with | .tuple [.int i, _] => .int (ev (t.getD i.toNat []) ((T ++ [0]).drop i.toNat)) | d => d
  refine Sm.lcPure f (by rw [enumD_len]; omega) ?_ ?_
  · intro d hd
    obtain ⟨i, hi⟩ := List.mem_iff_getElem?.1 hd
    rw [enumD_get] at hi
    cases q : xs[i]? with
    | none => rw [q] at hi; cases hi
    | some x =>
      rw [q] at hi
      cases hi
      have hix : i < xs.length := (List.getElem?_eq_some_iff.mp q).1
      have hrow := ht.ok i x _ q (List.getElem?_eq_getElem (by omega))
      obtain ⟨a, r, e1, e2, e3⟩ := hs.row (k := i) (by omega)
      have er : t[i]'(by omega) = a :: r := by rw [List.getElem?_eq_getElem (by omega)] at e2; exact Option.some.inj e2
      rw [er] at hrow
      rw [Nat.zero_add]
      refine ⟨_, tgT2_o rfl trivial rfl trivial, ?_⟩
      walk_at "lw n"
      walk_at "lw e"
      refine ⟨hrow.items, rfl, ?_⟩
      walk_at "lw e"
      rw [cut_from, ← List.map_drop, zip_ints]
      refine Sm.lcPure sumD (by simp; omega) ?_ ?_
      · intro y hy
        obtain ⟨p, hm, rfl⟩ := List.mem_map.1 hy
        refine ⟨_, tgT2_o rfl trivial rfl trivial, ?_⟩
        walk_at "lw n"
        walk_at "lw e"
        first | rfl | exact ⟨rfl, rfl⟩
      rw [sum_map]
      have hne : List.zipWith (· + ·) (a :: r) ((T ++ [0]).drop i) ≠ [] := fun e => by
        have := congrArg List.length e
        simp at this
        omega
      refine ⟨_, _, rfl, fmin_ok hne, ?_⟩
      have ef : f (.tuple [.int (i : Int), x]) = .int (fmin (List.zipWith (· + ·) (a :: r) ((T ++ [0]).drop i))) := by
        show PyData.int (ev (t.getD (i : Int).toNat []) ((T ++ [0]).drop (i : Int).toNat)) = _
        rw [Int.toNat_natCast, List.getD_eq_getElem?_getD, e2]
        rfl
      rw [ef]
      first | rfl | exact ⟨rfl, rfl⟩ | exact ⟨_, rfl, rfl, rfl⟩
  · walk_at "lw e"
    refine ⟨_, rfl, ?_⟩
    show PyData.tuple _ = PyData.tuple _
    congr 1
    apply List.ext_getElem?
    intro i
    rw [List.getElem?_map, List.getElem?_map, enumD_get, ledT_get]
    by_cases h : i < t.length
    · rw [List.getElem?_eq_getElem (by omega : i < xs.length), List.getElem?_eq_getElem h]
      show some (f (.tuple [.int ((0 + i : Nat) : Int), xs[i]])) = _
      show some (PyData.int (ev (t.getD ((0 + i : Nat) : Int).toNat []) ((T ++ [0]).drop ((0 + i : Nat) : Int).toNat))) = _
      rw [Nat.zero_add, Int.toNat_natCast, List.getD_eq_getElem?_getD, List.getElem?_eq_getElem h]
      rfl
    · rw [List.getElem?_eq_none (by omega), List.getElem?_eq_none (by omega)]
      rfl
/-! ### is_table of a table -/
/-! ### totals and levels -/
theorem totals_ok {t : D} {xs : List Int} (ht : Seq t xs) (hl : xs.length ≤ 100) : wpf m_p_totals_of [.pure t] (ValQ fun d => d = it (tots xs)) := by
  obtain ⟨r, dd, h1, h2, h3⟩ := rev_any ht.items
  refine Sm.run ?_
  unfold g_p_totals_of
  walk_at "lw n"
  walk_at "lw e"
  refine ⟨h1, _, _, _, h2 _, h3, ?_⟩
  refine Sm.loopInv (fun i ς => ∃ o, ς = [some (.pure t), some (.own false ((tots (xs.drop (xs.length - i))).reverse.map PyData.int)), some (.pure (.int (xs.drop (xs.length - i)).sum)), o] ∧ Fr o ∧ i ≤ xs.length) ⟨none, ?_, trivial, Nat.zero_le _⟩ ?_ ?_
  · rw [Nat.sub_zero, List.drop_length]; rfl
  · rintro i d ς hd ⟨o, rfl, fo, hi⟩
    have hil : i < xs.length := by have := (List.getElem?_eq_some_iff.mp hd).1; simpa using this
    have hd' : d = .int (xs[xs.length - 1 - i]'(by omega)) := by
      rw [List.getElem?_reverse (by simpa using hil)] at hd
      rw [List.length_map, List.getElem?_map, List.getElem?_eq_getElem (by omega)] at hd
      exact (Option.some.inj hd).symm
    subst hd'
    refine ⟨_, tgN_o rfl fo, ?_⟩
    walk_at "lw n"
    walk_at "lw e"
    refine ⟨app_ok (by simp [tots_len]; omega), ?_⟩
    walk_at "lw n"
    have e1 : xs.drop (xs.length - (i + 1)) = xs[xs.length - 1 - i]'(by omega) :: xs.drop (xs.length - i) := by
      have : xs.length - (i + 1) = xs.length - 1 - i := by omega
      rw [this, List.drop_eq_getElem_cons (by omega)]
      congr 2
      omega
    refine ⟨some (.pure (.int (xs[xs.length - 1 - i]'(by omega)))), ?_, trivial, by omega⟩
    rw [e1, tots_cons]
    simp only [List.sum_cons, List.reverse_cons, List.map_append, List.map_cons, List.map_nil, List.map_reverse]
    rw [Int.add_comm]
  · rintro ς ⟨o, rfl, fo, hi⟩
    have en : (List.map PyData.int xs).reverse.length = xs.length := by simp
    rw [en, Nat.sub_self, List.drop_zero]
    walk_at "lw e"
    refine ⟨_, rfl, ?_⟩
    show PyData.tuple _ = PyData.tuple _
    rw [List.map_reverse, List.reverse_reverse]
def levs : List Int → List Int
  | [] => []
  | x :: xs => (x - xs.headD 0) :: levs xs
theorem levs_len : ∀ xs, (levs xs).length = xs.length
  | [] => rfl
  | x :: xs => by rw [levs, List.length_cons, List.length_cons, levs_len xs]
theorem levs_sum : ∀ xs, (levs xs).sum = xs.headD 0
  | [] => rfl
  | x :: xs => by rw [levs, List.sum_cons, levs_sum xs]; simp
theorem levs_tots : ∀ xs, levs (tots xs) = xs
  | [] => rfl
  | x :: xs => by rw [tots_cons, levs, tots_hd, levs_tots xs]; congr 1; omega
theorem tots_levs : ∀ xs, tots (levs xs) = xs
  | [] => rfl
  | x :: xs => by rw [levs, tots_cons, levs_sum, tots_levs xs]; congr 1; omega
theorem levs_zip : ∀ xs : List Int, (List.zip xs (xs.drop 1 ++ [0])).map (fun p => p.1 - p.2) = levs xs
  | [] => rfl
  | [x] => by simp [levs]
  | x :: y :: r => by
    have ih := levs_zip (y :: r)
    rw [levs]
    simp only [List.drop_succ_cons, List.drop_zero, List.cons_append, List.zip_cons_cons, List.map_cons, List.headD_cons] at ih ⊢
    rw [ih]
def subD : D → D
  | .tuple [.int a, .int b] => .int (a - b)
  | d => d
theorem levels_ok {t : D} {xs : List Int} (ht : Seq t xs) (hl : xs.length ≤ 100) : wpf m_p_levels_of [.pure t] (ValQ fun d => d = it (levs xs)) := by
  obtain ⟨r, dd, h1, h2, h3, h4, _⟩ := sl_from ht.items 1
  have hsl : sizeLine = 16777216 := rfl
  refine Sm.run ?_
  unfold g_p_levels_of
  walk_at "lw n"
  walk_at "lw e"
  refine ⟨h1, _, _, h2 _, _, h4, ?_⟩
  walk_at "lw e"
  refine ⟨vals_avs rfl, by simp; omega, ?_⟩
  walk_at "lw e"
  walk_at "lw n"
  walk_at "lw e"
  refine ⟨ht.items, rfl, ?_⟩
  walk_at "lw e"
  have ez : zipD (xs.map PyData.int) (List.drop 1 (xs.map PyData.int) ++ [.int 0]) = (List.zip xs (xs.drop 1 ++ [0])).map fun p => PyData.tuple [.int p.1, .int p.2] := by
    rw [← zip_ints, List.map_append, List.map_drop]; rfl
  rw [ez]
  refine Sm.lcPure subD (by simp; omega) ?_ ?_
  · intro d hd
    obtain ⟨p, hp, rfl⟩ := List.mem_map.1 hd
    refine ⟨_, tgT2_o rfl trivial rfl trivial, ?_⟩
    walk_at "lw n"
    walk_at "lw e"
    first | rfl | exact ⟨rfl, rfl⟩ | exact ⟨_, rfl, rfl, rfl⟩
  · walk_at "lw e"
    refine ⟨_, rfl, ?_⟩
    rw [List.map_map, ← levs_zip xs]
    show PyData.tuple _ = PyData.tuple _
    rw [List.map_map]
    rfl
end Lw
-- F2
-- F3
namespace Lw
open PySem PySem.Spec PyProof.Rows L2
local macro_rules | `(tactic| walk_at "lw e") => `(tactic| (repeat (first | (with_reducible apply Exists.intro) | ((with_reducible refine And.intro ?_ ?_); · (first | (with_reducible exact pw_9) | (with_reducible exact pw_12) | (with_reducible exact pw_17) | (with_reducible exact pw_20) | (with_reducible exact pw_60) | (with_reducible exact pw_7) | (with_reducible exact pw_6) | (with_reducible exact pw_15) | (with_reducible exact pw_18) | (with_reducible exact pw_19) | (with_reducible exact pw_30) | (with_reducible exact pw_40) | (with_reducible exact tix0) | (with_reducible exact tix1) | (with_reducible exact tix2) | ((with_reducible apply mul_r); decide) | ((with_reducible apply mul_l); decide) | ((with_reducible apply div_i); decide) | ((with_reducible apply in_R); decide) | ((fail_if_success (with_reducible apply mul_r)); (fail_if_success (with_reducible apply div_i)); (fail_if_success (with_reducible apply dm_int)); (fail_if_success (with_reducible apply in_R)); rfl) | (exact Nat.le_of_ble_eq_true rfl) | (simp [refsOf]; done) | (exact ⟨rfl, rfl, by decide⟩) | (exact ⟨rfl, rfl, rfl⟩) | ((with_reducible apply tgN_o); (focus rfl); (focus (first | assumption | trivial))))) | ((with_reducible apply Sm.vrP); (focus rfl)) | ((with_reducible apply Sm.vrO); (focus rfl)) | (with_reducible refine Sm.cn ?_) | (with_reducible refine Sm.op2 ?_) | (with_reducible refine Sm.argV ?_) | (with_reducible refine Sm.callE ?_) | (with_reducible refine Sm.cal1 ?_) | (with_reducible refine Sm.sq ?_) | (with_reducible refine Sm.asgS ?_) | (with_reducible refine Sm.asg ?_) | (with_reducible refine Sm.retS ?_) | (with_reducible refine Sm.ifS ?_) | (with_reducible refine Sm.argN ?_) | (with_reducible refine Sm.tst ?_) | (with_reducible refine Sm.tupE ?_) | (with_reducible refine Sm.lstE ?_) | (with_reducible refine Sm.isE ?_) | (with_reducible refine Sm.argR ?_) | (with_reducible refine Sm.tru ?_) | (with_reducible refine Sm.andT ?_) | (with_reducible refine Sm.orT ?_) | (with_reducible refine Sm.notT ?_) | (with_reducible refine Sm.andV ?_) | (with_reducible refine Sm.orV ?_) | (with_reducible refine Sm.notV ?_) | (with_reducible refine Sm.negV ?_) | (with_reducible refine Sm.ife ?_) | (with_reducible refine Sm.chn ?_) | (with_reducible refine Sm.callF ?_) | (with_reducible refine Sm.slE ?_) | (with_reducible refine Sm.ptN ?_) | (with_reducible refine Sm.ptS ?_) | (with_reducible refine Sm.revE ?_) | (with_reducible refine Sm.mth ?_) | (with_reducible refine Sm.ret ?_) | (with_reducible refine Sm.esc ?_) | (with_reducible refine Sm.itS ?_) | (with_reducible refine Sm.itR1 ?_) | (with_reducible refine Sm.itR2 ?_) | (with_reducible refine Sm.itE ?_) | (with_reducible refine Sm.itZ ?_) | (with_reducible refine Sm.lcE2 ?_) | (with_reducible refine Sm.pvF ?_) | (with_reducible refine Sm.pvT ?_) | (with_reducible refine Sm.asgO ?_) | (with_reducible refine Sm.exS ?_) | (with_reducible refine Sm.skip ?_) | (with_reducible refine Sm.par2 ?_) | (with_reducible refine Sm.par3 ?_) | (with_reducible refine Sm.forS ?_) | (with_reducible refine Sm.at_nx ?_) | (with_reducible refine Sm.at_rt ?_) | (with_reducible refine Sm.oP ?_) | (with_reducible refine Sm.oF ?_) | (with_reducible refine Sm.fP ?_) | (with_reducible refine Sm.fF ?_) | (with_reducible refine Sm.itZ2 ?_) | (with_reducible refine Sm.itZ3 ?_) | (with_reducible refine Sm.itEn ?_) | (with_reducible refine Sm.argX ?_) | (with_reducible refine Sm.repE ?_) | ((with_reducible apply Sm.augI); (focus rfl)) | ((with_reducible refine Sm.dicE ?_ ?_); (focus decide)) | (with_reducible refine Sm.lzE ?_) | (with_reducible refine Sm.itV ?_) | (with_reducible refine Sm.itR3 ?_) | (with_reducible refine Sm.itRv1 ?_) | (with_reducible refine Sm.itRv2 ?_) | ((with_reducible apply Sm.augS); (focus rfl)) | (with_reducible refine Sm.parL3 ?_) | (with_reducible refine iteTT ?_) | (with_reducible refine iteT ?_) | (with_reducible refine iteF ?_) | ((with_reducible refine iteB1 ?_ ?_); (focus rfl)) | ((with_reducible refine iteB0 ?_ ?_); (focus rfl)))))
local macro_rules | `(tactic| walk_at "lw n") => `(tactic| (try dsimp only [ent, List.map, Nat.reduceAdd, Nat.reduceSub, List.length_cons, List.length_nil, List.replicate_succ, List.replicate_zero, List.cons_append, List.nil_append, putBack, setOwn, List.getElem?_cons_zero, List.getElem?_cons_succ, List.set_cons_zero, List.set_cons_succ, Sm.nf]))
local macro_rules | `(tactic| walk_at "lw v") => `(tactic| (try simp only [pb1, pb2, pb3, pb4]))
/-! ### how great a table's numbers are -/
def TabB (L U : Int) (t : Tab) : Prop := ∀ row ∈ t, ∀ x ∈ row, L ≤ x ∧ x ≤ U
theorem hd0_bd {L U : Int} {t : Tab} (h : TabB L U t) (hL : L ≤ 0) (hU : 0 ≤ U) : ∀ x ∈ hd0 t, L ≤ x ∧ x ≤ U := by
  intro x hx
  cases t with
  | nil => rw [show hd0 [] = [0] from rfl] at hx; cases List.mem_singleton.1 hx; exact ⟨hL, hU⟩
  | cons row rows => exact h row (by simp) x hx
theorem brim_bd {M : Int} (hM : 0 ≤ M) : ∀ (ps : List P3), (∀ p ∈ ps, 0 ≤ p.2.1 ∧ p.2.1 ≤ M) → TabB 0 (M * ps.length) (brimT ps)
  | [], _ => fun row h => by cases h
  | p :: ps, h => by
    have ih := brim_bd hM ps fun q m => h q (by simp [m])
    have hp := h p (by simp)
    have e : M * ((p :: ps).length : Nat) = M * ps.length + M := by rw [List.length_cons]; push_cast; rw [Int.mul_add, Int.mul_one]
    have h0 : 0 ≤ M * (ps.length : Int) := Int.mul_nonneg hM (by omega)
    rw [e]
    intro row hr x hx
    rw [brimT] at hr
    rcases List.mem_cons.1 hr with rfl | hr
    · rcases List.mem_cons.1 hx with rfl | hx
      · omega
      · obtain ⟨y, hy, rfl⟩ := List.mem_map.1 hx
        have := hd0_bd ih (by omega) h0 y hy
        omega
    · have := ih row hr x hx
      omega
theorem beh_bd {L U C m : Int} (hL : L ≤ 0) (hU : 0 ≤ U) (hC : -C ≤ m ∧ m ≤ C) : ∀ (ps : List P3) (t : Tab) (c : Nat), (∀ p ∈ ps, 0 ≤ p.2.1) → TabB L U t → TabB (L - C) (U + C) (behT ps t c m)
  | [], t, c, _, _ => fun row h => by cases t <;> cases h
  | p :: ps, [], c, _, _ => fun row h => by cases h
  | p :: ps, row0 :: rows, c, hp, ht => by
    have ih := beh_bd hL hU hC ps rows (c - 1) (fun q m => hp q (by simp [m])) fun r hr => ht r (by simp [hr])
    have h0 := hp p (by simp)
    have hk : ∀ x ∈ row0.map (· + if 1 ≤ c then m else 0), L - C ≤ x ∧ x ≤ U + C := by
      intro x hx
      obtain ⟨y, hy, rfl⟩ := List.mem_map.1 hx
      have := ht row0 (by simp) y hy
      split <;> omega
    intro row hr x hx
    rw [behT] at hr
    rcases List.mem_cons.1 hr with rfl | hr
    · rcases List.mem_cons.1 hx with rfl | hx
      · cases q : row0.map (· + if 1 ≤ c then m else 0) with
        | nil => simp; omega
        | cons y ys => rw [List.headD_cons]; exact hk y (by rw [q]; simp)
      · obtain ⟨i, hi⟩ := List.mem_iff_getElem?.1 hx
        rw [List.getElem?_zipWith] at hi
        split at hi
        · rename_i a b ha hb
          cases hi
          have h1 := hk a (List.mem_of_mem_tail (List.mem_of_getElem? ha))
          have h2 := hd0_bd ih (by omega) (by omega) b (List.mem_of_getElem? hb)
          omega
        · cases hi
    · exact ih row hr x hx
theorem tab_bd {C : Int} {ps : List P3} (hC : 0 ≤ C) (hp : ∀ p ∈ ps, 0 ≤ p.2.1) : ∀ (ds : List Dd) (t : Tab) (L U : Int), L ≤ 0 → 0 ≤ U → (∀ d ∈ ds, -C ≤ (chg ps d).2 ∧ (chg ps d).2 ≤ C) → TabB L U t → TabB (L - C * ds.length) (U + C * ds.length) (ds.foldl (tabStep ps) t)
  | [], t, L, U, _, _, _, h => by simpa using h
  | d :: ds, t, L, U, hL, hU, hd, h => by
    have := tab_bd hC hp ds (tabStep ps t d) (L - C) (U + C) (by omega) (by omega) (fun e m => hd e (by simp [m])) (beh_bd hL hU (hd d (by simp)) ps t _ hp h)
    have e : C * ((d :: ds).length : Nat) = C * ds.length + C := by rw [List.length_cons]; push_cast; rw [Int.mul_add, Int.mul_one]
    rw [e]
    rw [show L - (C * ds.length + C) = L - C - C * ds.length by omega, show U + (C * ds.length + C) = U + C + C * ds.length by omega]
    exact this
theorem tabOf_bd {M C : Int} {ps : List P3} {ds : List Dd} (hM : 0 ≤ M) (hC : 0 ≤ C) (hp : ∀ p ∈ ps, 0 ≤ p.2.1 ∧ p.2.1 ≤ M) (hd : ∀ d ∈ ds, -C ≤ (chg ps d).2 ∧ (chg ps d).2 ≤ C) : TabB (-(C * ds.length)) (M * ps.length + C * ds.length) (tabOf ps ds) := by
  have := tab_bd hC (fun p m => (hp p m).1) ds (brimT ps) 0 (M * ps.length) (by omega) (Int.mul_nonneg hM (by omega)) hd (brim_bd hM ps hp)
  rw [Int.zero_sub] at this
  exact this
/-! ### a table is read off -/
theorem fmin_mem : ∀ {zs : List Int}, zs ≠ [] → fmin zs ∈ zs
  | [], h => absurd rfl h
  | z :: zs, _ => by
    rcases foldl_min_mem zs z with e | e
    · show zs.foldl min z ∈ _; rw [e]; simp
    · exact List.mem_cons_of_mem _ e
theorem fmin_le : ∀ {zs : List Int} {x : Int}, x ∈ zs → fmin zs ≤ x
  | z :: zs, x, h => by
    have := foldl_min_le zs z
    rcases List.mem_cons.1 h with rfl | h
    · exact this.1
    · exact this.2 x h
theorem fmin_pick {zs : List Int} {k : Nat} {z : Int} (h : zs[k]? = some z) (hz : ∀ x ∈ zs, z ≤ x) : fmin zs = z := by
  have hm := List.mem_of_getElem? h
  have h1 := fmin_le hm
  have h2 := hz _ (fmin_mem (fun e => by rw [e] at hm; cases hm))
  omega
end Lw
-- F2
-- F3
namespace Lw
open PySem PySem.Spec PyProof.Rows L2
local macro_rules | `(tactic| walk_at "lw e") => `(tactic| (repeat (first | (with_reducible apply Exists.intro) | ((with_reducible refine And.intro ?_ ?_); · (first | (with_reducible exact pw_9) | (with_reducible exact pw_12) | (with_reducible exact pw_17) | (with_reducible exact pw_20) | (with_reducible exact pw_60) | (with_reducible exact pw_7) | (with_reducible exact pw_6) | (with_reducible exact pw_15) | (with_reducible exact pw_18) | (with_reducible exact pw_19) | (with_reducible exact pw_30) | (with_reducible exact pw_40) | (with_reducible exact tix0) | (with_reducible exact tix1) | (with_reducible exact tix2) | ((with_reducible apply mul_r); decide) | ((with_reducible apply mul_l); decide) | ((with_reducible apply div_i); decide) | ((with_reducible apply in_R); decide) | ((fail_if_success (with_reducible apply mul_r)); (fail_if_success (with_reducible apply div_i)); (fail_if_success (with_reducible apply dm_int)); (fail_if_success (with_reducible apply in_R)); rfl) | (exact Nat.le_of_ble_eq_true rfl) | (simp [refsOf]; done) | (exact ⟨rfl, rfl, by decide⟩) | (exact ⟨rfl, rfl, rfl⟩) | ((with_reducible apply tgN_o); (focus rfl); (focus (first | assumption | trivial))))) | ((with_reducible apply Sm.vrP); (focus rfl)) | ((with_reducible apply Sm.vrO); (focus rfl)) | (with_reducible refine Sm.cn ?_) | (with_reducible refine Sm.op2 ?_) | (with_reducible refine Sm.argV ?_) | (with_reducible refine Sm.callE ?_) | (with_reducible refine Sm.cal1 ?_) | (with_reducible refine Sm.sq ?_) | (with_reducible refine Sm.asgS ?_) | (with_reducible refine Sm.asg ?_) | (with_reducible refine Sm.retS ?_) | (with_reducible refine Sm.ifS ?_) | (with_reducible refine Sm.argN ?_) | (with_reducible refine Sm.tst ?_) | (with_reducible refine Sm.tupE ?_) | (with_reducible refine Sm.lstE ?_) | (with_reducible refine Sm.isE ?_) | (with_reducible refine Sm.argR ?_) | (with_reducible refine Sm.tru ?_) | (with_reducible refine Sm.andT ?_) | (with_reducible refine Sm.orT ?_) | (with_reducible refine Sm.notT ?_) | (with_reducible refine Sm.andV ?_) | (with_reducible refine Sm.orV ?_) | (with_reducible refine Sm.notV ?_) | (with_reducible refine Sm.negV ?_) | (with_reducible refine Sm.ife ?_) | (with_reducible refine Sm.chn ?_) | (with_reducible refine Sm.callF ?_) | (with_reducible refine Sm.slE ?_) | (with_reducible refine Sm.ptN ?_) | (with_reducible refine Sm.ptS ?_) | (with_reducible refine Sm.revE ?_) | (with_reducible refine Sm.mth ?_) | (with_reducible refine Sm.ret ?_) | (with_reducible refine Sm.esc ?_) | (with_reducible refine Sm.itS ?_) | (with_reducible refine Sm.itR1 ?_) | (with_reducible refine Sm.itR2 ?_) | (with_reducible refine Sm.itE ?_) | (with_reducible refine Sm.itZ ?_) | (with_reducible refine Sm.lcE2 ?_) | (with_reducible refine Sm.pvF ?_) | (with_reducible refine Sm.pvT ?_) | (with_reducible refine Sm.asgO ?_) | (with_reducible refine Sm.exS ?_) | (with_reducible refine Sm.skip ?_) | (with_reducible refine Sm.par2 ?_) | (with_reducible refine Sm.par3 ?_) | (with_reducible refine Sm.forS ?_) | (with_reducible refine Sm.at_nx ?_) | (with_reducible refine Sm.at_rt ?_) | (with_reducible refine Sm.oP ?_) | (with_reducible refine Sm.oF ?_) | (with_reducible refine Sm.fP ?_) | (with_reducible refine Sm.fF ?_) | (with_reducible refine Sm.itZ2 ?_) | (with_reducible refine Sm.itZ3 ?_) | (with_reducible refine Sm.itEn ?_) | (with_reducible refine Sm.argX ?_) | (with_reducible refine Sm.repE ?_) | ((with_reducible apply Sm.augI); (focus rfl)) | ((with_reducible refine Sm.dicE ?_ ?_); (focus decide)) | (with_reducible refine Sm.lzE ?_) | (with_reducible refine Sm.itV ?_) | (with_reducible refine Sm.itR3 ?_) | (with_reducible refine Sm.itRv1 ?_) | (with_reducible refine Sm.itRv2 ?_) | ((with_reducible apply Sm.augS); (focus rfl)) | (with_reducible refine Sm.parL3 ?_) | (with_reducible refine iteTT ?_) | (with_reducible refine iteT ?_) | (with_reducible refine iteF ?_) | ((with_reducible refine iteB1 ?_ ?_); (focus rfl)) | ((with_reducible refine iteB0 ?_ ?_); (focus rfl)))))
local macro_rules | `(tactic| walk_at "lw n") => `(tactic| (try dsimp only [ent, List.map, Nat.reduceAdd, Nat.reduceSub, List.length_cons, List.length_nil, List.replicate_succ, List.replicate_zero, List.cons_append, List.nil_append, putBack, setOwn, List.getElem?_cons_zero, List.getElem?_cons_succ, List.set_cons_zero, List.set_cons_succ, Sm.nf]))
local macro_rules | `(tactic| walk_at "lw v") => `(tactic| (try simp only [pb1, pb2, pb3, pb4]))
/-! ### the law's own reading of a table -/
end Lw
-- F2
-- F3
namespace Lw
open PySem PySem.Spec PyProof.Rows L2
local macro_rules | `(tactic| walk_at "lw e") => `(tactic| (repeat (first | (with_reducible apply Exists.intro) | ((with_reducible refine And.intro ?_ ?_); · (first | (with_reducible exact pw_9) | (with_reducible exact pw_12) | (with_reducible exact pw_17) | (with_reducible exact pw_20) | (with_reducible exact pw_60) | (with_reducible exact pw_7) | (with_reducible exact pw_6) | (with_reducible exact pw_15) | (with_reducible exact pw_18) | (with_reducible exact pw_19) | (with_reducible exact pw_30) | (with_reducible exact pw_40) | (with_reducible exact tix0) | (with_reducible exact tix1) | (with_reducible exact tix2) | ((with_reducible apply mul_r); decide) | ((with_reducible apply mul_l); decide) | ((with_reducible apply div_i); decide) | ((with_reducible apply in_R); decide) | ((fail_if_success (with_reducible apply mul_r)); (fail_if_success (with_reducible apply div_i)); (fail_if_success (with_reducible apply dm_int)); (fail_if_success (with_reducible apply in_R)); rfl) | (exact Nat.le_of_ble_eq_true rfl) | (simp [refsOf]; done) | (exact ⟨rfl, rfl, by decide⟩) | (exact ⟨rfl, rfl, rfl⟩) | ((with_reducible apply tgN_o); (focus rfl); (focus (first | assumption | trivial))))) | ((with_reducible apply Sm.vrP); (focus rfl)) | ((with_reducible apply Sm.vrO); (focus rfl)) | (with_reducible refine Sm.cn ?_) | (with_reducible refine Sm.op2 ?_) | (with_reducible refine Sm.argV ?_) | (with_reducible refine Sm.callE ?_) | (with_reducible refine Sm.cal1 ?_) | (with_reducible refine Sm.sq ?_) | (with_reducible refine Sm.asgS ?_) | (with_reducible refine Sm.asg ?_) | (with_reducible refine Sm.retS ?_) | (with_reducible refine Sm.ifS ?_) | (with_reducible refine Sm.argN ?_) | (with_reducible refine Sm.tst ?_) | (with_reducible refine Sm.tupE ?_) | (with_reducible refine Sm.lstE ?_) | (with_reducible refine Sm.isE ?_) | (with_reducible refine Sm.argR ?_) | (with_reducible refine Sm.tru ?_) | (with_reducible refine Sm.andT ?_) | (with_reducible refine Sm.orT ?_) | (with_reducible refine Sm.notT ?_) | (with_reducible refine Sm.andV ?_) | (with_reducible refine Sm.orV ?_) | (with_reducible refine Sm.notV ?_) | (with_reducible refine Sm.negV ?_) | (with_reducible refine Sm.ife ?_) | (with_reducible refine Sm.chn ?_) | (with_reducible refine Sm.callF ?_) | (with_reducible refine Sm.slE ?_) | (with_reducible refine Sm.ptN ?_) | (with_reducible refine Sm.ptS ?_) | (with_reducible refine Sm.revE ?_) | (with_reducible refine Sm.mth ?_) | (with_reducible refine Sm.ret ?_) | (with_reducible refine Sm.esc ?_) | (with_reducible refine Sm.itS ?_) | (with_reducible refine Sm.itR1 ?_) | (with_reducible refine Sm.itR2 ?_) | (with_reducible refine Sm.itE ?_) | (with_reducible refine Sm.itZ ?_) | (with_reducible refine Sm.lcE2 ?_) | (with_reducible refine Sm.pvF ?_) | (with_reducible refine Sm.pvT ?_) | (with_reducible refine Sm.asgO ?_) | (with_reducible refine Sm.exS ?_) | (with_reducible refine Sm.skip ?_) | (with_reducible refine Sm.par2 ?_) | (with_reducible refine Sm.par3 ?_) | (with_reducible refine Sm.forS ?_) | (with_reducible refine Sm.at_nx ?_) | (with_reducible refine Sm.at_rt ?_) | (with_reducible refine Sm.oP ?_) | (with_reducible refine Sm.oF ?_) | (with_reducible refine Sm.fP ?_) | (with_reducible refine Sm.fF ?_) | (with_reducible refine Sm.itZ2 ?_) | (with_reducible refine Sm.itZ3 ?_) | (with_reducible refine Sm.itEn ?_) | (with_reducible refine Sm.argX ?_) | (with_reducible refine Sm.repE ?_) | ((with_reducible apply Sm.augI); (focus rfl)) | ((with_reducible refine Sm.dicE ?_ ?_); (focus decide)) | (with_reducible refine Sm.lzE ?_) | (with_reducible refine Sm.itV ?_) | (with_reducible refine Sm.itR3 ?_) | (with_reducible refine Sm.itRv1 ?_) | (with_reducible refine Sm.itRv2 ?_) | ((with_reducible apply Sm.augS); (focus rfl)) | (with_reducible refine Sm.parL3 ?_) | (with_reducible refine iteTT ?_) | (with_reducible refine iteT ?_) | (with_reducible refine iteF ?_) | ((with_reducible refine iteB1 ?_ ?_); (focus rfl)) | ((with_reducible refine iteB0 ?_ ?_); (focus rfl)))))
local macro_rules | `(tactic| walk_at "lw n") => `(tactic| (try dsimp only [ent, List.map, Nat.reduceAdd, Nat.reduceSub, List.length_cons, List.length_nil, List.replicate_succ, List.replicate_zero, List.cons_append, List.nil_append, putBack, setOwn, List.getElem?_cons_zero, List.getElem?_cons_succ, List.set_cons_zero, List.set_cons_succ, Sm.nf]))
local macro_rules | `(tactic| walk_at "lw v") => `(tactic| (try simp only [pb1, pb2, pb3, pb4]))
theorem deeds_gen (ds : List Dd) : DeedsG (.list (ds.map dd)) (ds.map dd) ds := ⟨rfl, List.length_map _, fun i x d h1 h2 => by
  rw [List.getElem?_map, h2] at h1
  cases h1
  exact Dt.of d⟩
/-- deeds whose numbers are small -/
def D9 (g : Nat) : Dd → Prop
  | .raise _ m => 1 ≤ m ∧ m ≤ 9 * g
  | .lower _ m => 1 ≤ m ∧ m ≤ 9 * g
  | _ => True
theorem D9_of {g : Nat} {d : Dd} (h : d.Sm g) : D9 g d := by
  cases d with
  | raise l m => have h : 1 ≤ m ∧ m ≤ 6 * g := h; exact ⟨h.1, by omega⟩
  | lower l m => have h : 1 ≤ m ∧ m ≤ 6 * g := h; exact ⟨h.1, by omega⟩
  | _ => trivial
theorem sz_b {g : Nat} (hg1 : 1 ≤ g) (hg : g ≤ 1000000000000000) {ps : List (Int × Int × Int)} (hp : ∀ p ∈ ps, PoundI g p) {l : Nat} (h0 : 1 ≤ l) (h1 : l ≤ ps.length) : 1 ≤ sz ps l ∧ sz ps l ≤ 10000000000000000 := by
  have hlt : l - 1 < ps.length := by omega
  have hm : pAt ps (l - 1) ∈ ps := by
    unfold pAt
    rw [List.getD_eq_getElem?_getD, List.getElem?_eq_getElem hlt]
    exact List.getElem_mem hlt
  obtain ⟨a, b, s, e, _, _, _, _, h5, h6⟩ := hp _ hm
  unfold sz
  rw [e]
  show 1 ≤ s * (g : Int) ∧ s * (g : Int) ≤ _
  have e1 : (1 : Int) * g ≤ s * g := Int.mul_le_mul_of_nonneg_right h5 (by omega)
  have e2 : s * g ≤ 5 * (g : Int) := Int.mul_le_mul_of_nonneg_right (by omega) (by omega)
  omega
theorem chg_b {g : Nat} (hg1 : 1 ≤ g) (hg : g ≤ 1000000000000000) {ps : List (Int × Int × Int)} (hp : ∀ p ∈ ps, PoundI g p) {d : Dd} (h : d.On ps.length ∧ D9 g d) : -10000000000000000 ≤ (chg ps d).2 ∧ (chg ps d).2 ≤ 10000000000000000 := by
  obtain ⟨⟨h1, h2⟩, h3⟩ := h
  cases d with
  | fill l => have := sz_b hg1 hg hp (l := l) h1 h2; show -10000000000000000 ≤ -sz ps l ∧ -sz ps l ≤ _; omega
  | empty l => have := sz_b hg1 hg hp (l := l) h1 h2; show -10000000000000000 ≤ sz ps l ∧ sz ps l ≤ _; omega
  | raise l m => have hm : 1 ≤ m ∧ m ≤ 9 * g := h3; show -10000000000000000 ≤ m ∧ m ≤ _; omega
  | lower l m => have hm : 1 ≤ m ∧ m ≤ 9 * g := h3; show -10000000000000000 ≤ -m ∧ -m ≤ _; omega
/-- deeds of a stair, at most so many -/
def LotN (N n g : Nat) (ds : List Dd) : Prop := ds.length ≤ N ∧ ∀ d ∈ ds, d.On n ∧ D9 g d
theorem tab_b {N g : Nat} (hN : N ≤ 40) (hg1 : 1 ≤ g) (hg : g ≤ 1000000000000000) {ps : List P3} (hl : ps.length ≤ 6) (hp : ∀ p ∈ ps, PoundI g p) {ds : List Dd} (h : LotN N ps.length g ds) : ∀ row ∈ tabOf ps ds, ∀ x ∈ row, x.natAbs ≤ 1000000000000000000 := by
  have hb := tabOf_bd (M := 40000000000000000) (C := 10000000000000000) (ps := ps) (ds := ds) (by omega) (by omega) (fun p m => by have := pound_b hg (hp p m); omega) (fun d m => chg_b hg1 hg hp (h.2 d m))
  have hds := h.1
  intro row hr x hx
  have := hb row hr x hx
  omega
theorem tab_fine {B w : Nat} {n : Nat} {t : Tab} (hs : Shp n t) (hn : n ≤ 6) (hw : B < 2 ^ w) (hb : ∀ row ∈ t, ∀ x ∈ row, x.natAbs ≤ B) : Fine B 2 (((w + 1) * 7 + 1) * 6) (tabD t) := by
  refine Fine.tup (fun x hx => ?_) (by rw [List.length_map, hs.len]; exact hn)
  obtain ⟨r, hr, rfl⟩ := List.mem_map.1 hx
  refine Fine.it (hb r hr) hw ?_
  obtain ⟨i, hi⟩ := List.mem_iff_getElem?.1 hr
  have hil : i < t.length := (List.getElem?_eq_some_iff.mp hi).1
  rw [hs.len] at hil
  obtain ⟨a, r', _, e2, e3⟩ := hs.row hil
  rw [hi] at e2
  cases e2
  rw [List.length_cons]
  omega
/-! ### the first numbers of a table's rows -/
def hds (t : Tab) : List Int := t.map fun r => r.headD 0
theorem hds_brim : ∀ ps : List P3, hds (brimT ps) = ps.map fun _ => 0
  | [] => rfl
  | p :: ps => by
    have ih := hds_brim ps
    unfold hds at ih ⊢
    rw [brimT, List.map_cons, List.map_cons, ih]
    rfl
theorem hds_beh : ∀ (ps : List P3) (t : Tab) (c : Nat) (m : Int), Shp ps.length t → hds (behT ps t c m) = addPre c m (hds t)
  | [], t, c, m, h => by
    have : t = [] := h
    subst this
    cases c <;> rfl
  | p :: ps, t, c, m, h => by
    obtain ⟨row, rows, rfl, h1, h2⟩ := h
    have ih := hds_beh ps rows (c - 1) m h2
    unfold hds at ih ⊢
    rw [behT, List.map_cons, ih, List.map_cons, List.headD_cons]
    cases row with
    | nil => simp at h1
    | cons a r =>
      cases c with
      | zero => simp [addPre]
      | succ c => simp [addPre]
theorem sums_nil (ps : List P3) : sums ps [] = ps.map fun _ => 0 := by
  unfold sums
  apply List.ext_getElem?
  intro i
  rw [List.getElem?_map, List.getElem?_map]
  by_cases h : i < ps.length
  · rw [List.getElem?_range h, List.getElem?_eq_getElem h]; rfl
  · rw [List.getElem?_eq_none (by rw [List.length_range]; omega), List.getElem?_eq_none (by omega)]; rfl
theorem hds_tab {ps : List P3} {ds : List Dd} (ho : ∀ d ∈ ds, d.On ps.length) : hds (tabOf ps ds) = sums ps ds := by
  have main : ∀ k, k ≤ ds.length → hds (tabOf ps (ds.take k)) = sums ps (ds.take k) := by
    intro k
    induction k with
    | zero => intro _; rw [List.take_zero, sums_nil]; exact hds_brim ps
    | succ k ih =>
      intro hk
      obtain ⟨d, hd⟩ : ∃ d, ds[k]? = some d := ⟨_, List.getElem?_eq_getElem (by omega)⟩
      have hc := chg_on (ps := ps) (ho d (List.mem_of_getElem? hd))
      have ec : (chg ps d).1 = ((chg ps d).1.toNat : Int) := by omega
      rw [tabOf_snoc hd]
      unfold tabStep
      rw [hds_beh ps _ _ _ (tabOf_shp ps _), ih (by omega), addPre_sums ps _ d _ ec, List.take_add_one, hd]
      rfl
  have := main ds.length (Nat.le_refl _)
  rwa [List.take_length] at this
/-- what a table leads to is not far off -/
theorem led_bd {t : Tab} {n A B : Nat} {T : List Int} (hs : Shp n t) (hT : T.length = n) (ht : ∀ row ∈ t, ∀ x ∈ row, x.natAbs ≤ A) (hB : ∀ x ∈ T, x.natAbs ≤ B) : ∀ x ∈ ledT t (T ++ [0]), x.natAbs ≤ A + B := by
  intro x hx
  obtain ⟨i, hi⟩ := List.mem_iff_getElem?.1 hx
  rw [ledT_get] at hi
  cases q : t[i]? with
  | none => rw [q] at hi; cases hi
  | some row =>
    rw [q] at hi
    have e : ev row ((T ++ [0]).drop i) = x := Option.some.inj hi
    have hil : i < t.length := (List.getElem?_eq_some_iff.mp q).1
    rw [hs.len] at hil
    obtain ⟨a, r', _, e2, e3⟩ := hs.row hil
    rw [q] at e2
    cases e2
    have hne : List.zipWith (· + ·) (a :: r') ((T ++ [0]).drop i) ≠ [] := fun e => by
      have := congrArg List.length e
      simp at this
      omega
    have hm := fmin_mem hne
    unfold ev at e
    rw [e] at hm
    obtain ⟨j, hj⟩ := List.mem_iff_getElem?.1 hm
    rw [List.getElem?_zipWith] at hj
    split at hj
    · rename_i u v hu hv
      cases hj
      have h1 := ht _ (List.mem_of_getElem? q) u (List.mem_of_getElem? hu)
      have h2 : v.natAbs ≤ B := by
        have := List.mem_of_mem_drop (List.mem_of_getElem? hv)
        rcases List.mem_append.1 this with h | h
        · exact hB v h
        · cases List.mem_singleton.1 h; simp
      omega
    · cases hj
theorem tots_bd {B : Nat} {xs : List Int} {n : Nat} (hn : xs.length ≤ n) (h : ∀ x ∈ xs, x.natAbs ≤ B) : ∀ x ∈ tots xs, x.natAbs ≤ n * B := by
  have hsum : ∀ ys : List Int, (∀ y ∈ ys, y.natAbs ≤ B) → ys.sum.natAbs ≤ ys.length * B := by
    intro ys hy
    induction ys with
    | nil => simp
    | cons y ys ih =>
      have h1 := hy y (by simp)
      have h2 := ih fun z hz => hy z (by simp [hz])
      rw [List.sum_cons, List.length_cons, Nat.add_mul]
      omega
  intro x hx
  unfold tots at hx
  obtain ⟨i, _, rfl⟩ := List.mem_map.1 hx
  have := hsum (xs.drop i) fun y hy => h y (List.mem_of_mem_drop hy)
  rw [List.length_drop] at this
  have : (xs.length - i) * B ≤ n * B := Nat.mul_le_mul_right _ (by omega)
  omega
/-! ### any levels -/
def pk4 (v : Int) : Int := if v = 0 then 4 else 60
end Lw
-- F2
-- F3
namespace Lw
open PySem PySem.Spec PyProof.Rows L2
local macro_rules | `(tactic| walk_at "lw e") => `(tactic| (repeat (first | (with_reducible apply Exists.intro) | ((with_reducible refine And.intro ?_ ?_); · (first | (with_reducible exact pw_9) | (with_reducible exact pw_12) | (with_reducible exact pw_17) | (with_reducible exact pw_20) | (with_reducible exact pw_60) | (with_reducible exact pw_7) | (with_reducible exact pw_6) | (with_reducible exact pw_15) | (with_reducible exact pw_18) | (with_reducible exact pw_19) | (with_reducible exact pw_30) | (with_reducible exact pw_40) | (with_reducible exact tix0) | (with_reducible exact tix1) | (with_reducible exact tix2) | ((with_reducible apply mul_r); decide) | ((with_reducible apply mul_l); decide) | ((with_reducible apply div_i); decide) | ((with_reducible apply in_R); decide) | ((fail_if_success (with_reducible apply mul_r)); (fail_if_success (with_reducible apply div_i)); (fail_if_success (with_reducible apply dm_int)); (fail_if_success (with_reducible apply in_R)); rfl) | (exact Nat.le_of_ble_eq_true rfl) | (simp [refsOf]; done) | (exact ⟨rfl, rfl, by decide⟩) | (exact ⟨rfl, rfl, rfl⟩) | ((with_reducible apply tgN_o); (focus rfl); (focus (first | assumption | trivial))))) | ((with_reducible apply Sm.vrP); (focus rfl)) | ((with_reducible apply Sm.vrO); (focus rfl)) | (with_reducible refine Sm.cn ?_) | (with_reducible refine Sm.op2 ?_) | (with_reducible refine Sm.argV ?_) | (with_reducible refine Sm.callE ?_) | (with_reducible refine Sm.cal1 ?_) | (with_reducible refine Sm.sq ?_) | (with_reducible refine Sm.asgS ?_) | (with_reducible refine Sm.asg ?_) | (with_reducible refine Sm.retS ?_) | (with_reducible refine Sm.ifS ?_) | (with_reducible refine Sm.argN ?_) | (with_reducible refine Sm.tst ?_) | (with_reducible refine Sm.tupE ?_) | (with_reducible refine Sm.lstE ?_) | (with_reducible refine Sm.isE ?_) | (with_reducible refine Sm.argR ?_) | (with_reducible refine Sm.tru ?_) | (with_reducible refine Sm.andT ?_) | (with_reducible refine Sm.orT ?_) | (with_reducible refine Sm.notT ?_) | (with_reducible refine Sm.andV ?_) | (with_reducible refine Sm.orV ?_) | (with_reducible refine Sm.notV ?_) | (with_reducible refine Sm.negV ?_) | (with_reducible refine Sm.ife ?_) | (with_reducible refine Sm.chn ?_) | (with_reducible refine Sm.callF ?_) | (with_reducible refine Sm.slE ?_) | (with_reducible refine Sm.ptN ?_) | (with_reducible refine Sm.ptS ?_) | (with_reducible refine Sm.revE ?_) | (with_reducible refine Sm.mth ?_) | (with_reducible refine Sm.ret ?_) | (with_reducible refine Sm.esc ?_) | (with_reducible refine Sm.itS ?_) | (with_reducible refine Sm.itR1 ?_) | (with_reducible refine Sm.itR2 ?_) | (with_reducible refine Sm.itE ?_) | (with_reducible refine Sm.itZ ?_) | (with_reducible refine Sm.lcE2 ?_) | (with_reducible refine Sm.pvF ?_) | (with_reducible refine Sm.pvT ?_) | (with_reducible refine Sm.asgO ?_) | (with_reducible refine Sm.exS ?_) | (with_reducible refine Sm.skip ?_) | (with_reducible refine Sm.par2 ?_) | (with_reducible refine Sm.par3 ?_) | (with_reducible refine Sm.forS ?_) | (with_reducible refine Sm.at_nx ?_) | (with_reducible refine Sm.at_rt ?_) | (with_reducible refine Sm.oP ?_) | (with_reducible refine Sm.oF ?_) | (with_reducible refine Sm.fP ?_) | (with_reducible refine Sm.fF ?_) | (with_reducible refine Sm.itZ2 ?_) | (with_reducible refine Sm.itZ3 ?_) | (with_reducible refine Sm.itEn ?_) | (with_reducible refine Sm.argX ?_) | (with_reducible refine Sm.repE ?_) | ((with_reducible apply Sm.augI); (focus rfl)) | ((with_reducible refine Sm.dicE ?_ ?_); (focus decide)) | (with_reducible refine Sm.lzE ?_) | (with_reducible refine Sm.itV ?_) | (with_reducible refine Sm.itR3 ?_) | (with_reducible refine Sm.itRv1 ?_) | (with_reducible refine Sm.itRv2 ?_) | ((with_reducible apply Sm.augS); (focus rfl)) | (with_reducible refine Sm.parL3 ?_) | (with_reducible refine iteTT ?_) | (with_reducible refine iteT ?_) | (with_reducible refine iteF ?_) | ((with_reducible refine iteB1 ?_ ?_); (focus rfl)) | ((with_reducible refine iteB0 ?_ ?_); (focus rfl)))))
local macro_rules | `(tactic| walk_at "lw n") => `(tactic| (try dsimp only [ent, List.map, Nat.reduceAdd, Nat.reduceSub, List.length_cons, List.length_nil, List.replicate_succ, List.replicate_zero, List.cons_append, List.nil_append, putBack, setOwn, List.getElem?_cons_zero, List.getElem?_cons_succ, List.set_cons_zero, List.set_cons_succ, Sm.nf]))
local macro_rules | `(tactic| walk_at "lw v") => `(tactic| (try simp only [pb1, pb2, pb3, pb4]))
/-! ### tables behind one another -/
def rowB (rows : Tab) (row : List Int) : List Int := (List.range row.length).map fun p => fmin ((List.range (p + 1)).map fun b => row.getD b 0 + (rows.getD b []).getD (p - b) 0)
theorem rowB_len (rows : Tab) (row : List Int) : (rowB rows row).length = row.length := by simp [rowB]
def compT : Tab → Tab → Tab
  | r :: rs, o :: os => rowB ((r :: rs) ++ [[0]]) o :: compT rs os
  | _, _ => []
theorem comp_shp : ∀ {n : Nat} {one other : Tab}, Shp n one → Shp n other → Shp n (compT one other)
  | 0, _, _, h1, h2 => by rw [show _ = [] from h1]; rfl
  | n + 1, _, _, ⟨r, rs, e1, l1, s1⟩, ⟨o, os, e2, l2, s2⟩ => by
    rw [e1, e2]
    exact ⟨_, _, rfl, by rw [rowB_len]; exact l2, comp_shp s1 s2⟩
theorem getD_some {xs : List Int} {i : Nat} (h : i < xs.length) : xs[i]? = some (xs.getD i 0) := by
  rw [List.getD_eq_getElem?_getD, List.getElem?_eq_getElem h]; rfl
/-- the least is one of them -/
theorem ev_att {row parts : List Int} (h : row.length = parts.length) (h0 : 0 < row.length) : ∃ q, q < row.length ∧ ev row parts = row.getD q 0 + parts.getD q 0 := by
  have hne : List.zipWith (· + ·) row parts ≠ [] := fun e => by have := congrArg List.length e; rw [List.length_zipWith, ← h, Nat.min_self, List.length_nil] at this; omega
  obtain ⟨q, hq⟩ := List.mem_iff_getElem?.1 (fmin_mem hne)
  rw [List.getElem?_zipWith] at hq
  have hl : q < row.length := by
    cases e : row[q]? with
    | none => rw [e] at hq; cases hq
    | some x => exact (List.getElem?_eq_some_iff.mp e).1
  rw [getD_some hl, getD_some (by omega)] at hq
  exact ⟨q, hl, (Option.some.inj hq).symm⟩
theorem ev_le {row parts : List Int} (h : row.length = parts.length) {q : Nat} (hq : q < row.length) : ev row parts ≤ row.getD q 0 + parts.getD q 0 := by
  refine fmin_le (List.mem_of_getElem? (i := q) ?_)
  rw [List.getElem?_zipWith, getD_some hq, getD_some (by omega)]
theorem drop_getD (xs : List Int) (b q : Nat) : (xs.drop b).getD q 0 = xs.getD (b + q) 0 := by
  rw [List.getD_eq_getElem?_getD, List.getElem?_drop, List.getD_eq_getElem?_getD]
/-- rows, each so long that it reaches to the last place -/
def Rws (m : Nat) (rows : Tab) : Prop := rows.length = m + 1 ∧ ∀ b, b ≤ m → (rows.getD b []).length = m + 1 - b
theorem Shp.rws {m : Nat} {t : Tab} (h : Shp m t) : Rws m (t ++ [[0]]) := by
  have hl := h.len
  refine ⟨by rw [List.length_append, hl]; rfl, fun b hb => ?_⟩
  by_cases hlt : b < m
  · obtain ⟨a, r, _, e2, e3⟩ := h.row hlt
    rw [List.getD_eq_getElem?_getD, List.getElem?_append_left (by omega), e2]
    show (a :: r).length = _
    rw [List.length_cons]
    omega
  · have : b = m := by omega
    subst this
    rw [List.getD_eq_getElem?_getD, List.getElem?_append_right (by omega), hl, Nat.sub_self]
    show 1 = _
    omega
theorem fmin_map_att {n : Nat} (f : Nat → Int) : ∃ b, b < n + 1 ∧ fmin ((List.range (n + 1)).map f) = f b := by
  have hne : (List.range (n + 1)).map f ≠ [] := fun e => by have := congrArg List.length e; simp at this
  obtain ⟨b, hb, e⟩ := List.mem_map.1 (fmin_mem hne)
  exact ⟨b, List.mem_range.1 hb, e.symm⟩
theorem fmin_map_le {n b : Nat} (f : Nat → Int) (h : b < n + 1) : fmin ((List.range (n + 1)).map f) ≤ f b := fmin_le (List.mem_map.2 ⟨b, List.mem_range.2 h, rfl⟩)
theorem rowB_get {rows : Tab} {row : List Int} {p : Nat} (h : p < row.length) : (rowB rows row).getD p 0 = fmin ((List.range (p + 1)).map fun b => row.getD b 0 + (rows.getD b []).getD (p - b) 0) := by
  unfold rowB
  rw [List.getD_eq_getElem?_getD, List.getElem?_map, List.getElem?_range h]
  rfl
theorem ev_comp {m : Nat} {rows : Tab} {row parts L : List Int} (hr : Rws m rows) (h1 : row.length = m + 1) (h2 : parts.length = m + 1) (h3 : L.length = m + 1) (hL : ∀ b, b ≤ m → L.getD b 0 = ev (rows.getD b []) (parts.drop b)) : ev (rowB rows row) parts = ev row L := by
  have l1 : (rowB rows row).length = parts.length := by rw [rowB_len]; omega
  have le1 : ev (rowB rows row) parts ≤ ev row L := by
    obtain ⟨b, hb, e1⟩ := ev_att (row := row) (parts := L) (by omega) (by omega)
    have hbl := hr.2 b (by omega)
    obtain ⟨q, hq, e2⟩ := ev_att (row := rows.getD b []) (parts := parts.drop b) (by rw [hbl, List.length_drop]; omega) (by omega)
    have e3 := ev_le l1 (q := b + q) (by rw [rowB_len]; omega)
    rw [rowB_get (by omega)] at e3
    have e4 := fmin_map_le (n := b + q) (b := b) (fun b' => row.getD b' 0 + (rows.getD b' []).getD (b + q - b') 0) (by omega)
    rw [show b + q - b = q by omega] at e4
    rw [e1, hL b (by omega), e2, drop_getD]
    omega
  have le2 : ev row L ≤ ev (rowB rows row) parts := by
    obtain ⟨p, hp, e1⟩ := ev_att l1 (by rw [rowB_len]; omega)
    rw [rowB_len] at hp
    rw [rowB_get hp] at e1
    obtain ⟨b, hb, e2⟩ := fmin_map_att (n := p) (fun b' => row.getD b' 0 + (rows.getD b' []).getD (p - b') 0)
    have hbl := hr.2 b (by omega)
    have e3 := ev_le (row := row) (parts := L) (by omega) (q := b) (by omega)
    have e4 := ev_le (row := rows.getD b []) (parts := parts.drop b) (by rw [hbl, List.length_drop]; omega) (q := p - b) (by omega)
    rw [drop_getD, show b + (p - b) = p by omega] at e4
    rw [hL b (by omega)] at e3
    omega
  omega
theorem ledT_len : ∀ (t : Tab) (parts : List Int), (ledT t parts).length = t.length
  | [], _ => rfl
  | r :: rs, parts => by rw [ledT, List.length_cons, List.length_cons, ledT_len rs]
theorem L_rows {m : Nat} {t : Tab} {T : List Int} (h : Shp m t) (hT : T.length = m) : ∀ b, b ≤ m → (ledT t (T ++ [0]) ++ [0]).getD b 0 = ev ((t ++ [[0]]).getD b []) ((T ++ [0]).drop b) := by
  intro b hb
  have hl := h.len
  by_cases hlt : b < m
  · rw [List.getD_eq_getElem?_getD, List.getElem?_append_left (by rw [ledT_len]; omega), ledT_get, List.getD_eq_getElem?_getD, List.getElem?_append_left (by omega), List.getElem?_eq_getElem (by omega : b < t.length)]
    rfl
  · have : b = m := by omega
    subst this
    rw [List.getD_eq_getElem?_getD, List.getElem?_append_right (by rw [ledT_len]; omega), ledT_len, hl, Nat.sub_self, List.getD_eq_getElem?_getD, List.getElem?_append_right (by omega), hl, Nat.sub_self]
    have : (T ++ [0]).drop b = [0] := by rw [List.drop_append, hT, Nat.sub_self, List.drop_eq_nil_of_le (by omega)]; rfl
    rw [this]
    rfl
theorem led_comp : ∀ {n : Nat} {one other : Tab} {T : List Int}, Shp n one → Shp n other → T.length = n → ledT (compT one other) (T ++ [0]) = ledT other (ledT one (T ++ [0]) ++ [0])
  | 0, _, _, T, h1, h2, hT => by
    rw [show _ = [] from h1, show _ = [] from h2]
    rfl
  | n + 1, one, other, T, h1, h2, hT => by
    obtain ⟨r, rs, e1, l1, s1⟩ := h1
    obtain ⟨o, os, e2, l2, s2⟩ := h2
    cases T with
    | nil => simp at hT
    | cons x xs =>
      have hx : xs.length = n := by simpa using hT
      have S1 : Shp (n + 1) (r :: rs) := ⟨r, rs, rfl, l1, s1⟩
      rw [e1, e2, compT, ledT, ledT]
      congr 1
      · exact ev_comp S1.rws l2 (by simp; omega) (by rw [List.length_append, ledT_len, S1.len]; rfl) (L_rows S1 hT)
      · rw [List.cons_append, List.tail_cons, led_comp s1 s2 hx, ledT, List.tail_cons, List.cons_append, List.tail_cons]
/-! ### so often -/
def iter {α : Type} (f : α → α) : Nat → α → α
  | 0, x => x
  | k + 1, x => iter f k (f x)
theorem iter_add {α : Type} (f : α → α) (a b : Nat) (x : α) : iter f (a + b) x = iter f b (iter f a x) := by
  induction a generalizing x with
  | zero => rw [Nat.zero_add]; rfl
  | succ a ih => rw [show a + 1 + b = (a + b) + 1 by omega]; exact ih (f x)
theorem iter_succ {α : Type} (f : α → α) (a : Nat) (x : α) : iter f (a + 1) x = f (iter f a x) := iter_add f a 1 x
def Led (t : Tab) (T : List Int) : List Int := ledT t (T ++ [0])
theorem iterLed_len {n : Nat} {t : Tab} (h : Shp n t) : ∀ (k : Nat) {T : List Int}, T.length = n → (iter (Led t) k T).length = n
  | 0, T, hT => hT
  | k + 1, T, hT => iterLed_len h k (by unfold Led; rw [ledT_len, h.len])
def dbl (t : Tab) : Nat → Tab
  | 0 => t
  | k + 1 => compT (dbl t k) (dbl t k)
theorem dbl_shp {n : Nat} {t : Tab} (h : Shp n t) : ∀ k, Shp n (dbl t k)
  | 0 => h
  | k + 1 => comp_shp (dbl_shp h k) (dbl_shp h k)
theorem dbl_led {n : Nat} {t : Tab} (h : Shp n t) : ∀ (k : Nat) {T : List Int}, T.length = n → Led (dbl t k) T = iter (Led t) (2 ^ k) T
  | 0, T, hT => rfl
  | k + 1, T, hT => by
    have hd := dbl_shp h k
    have hl : (Led (dbl t k) T).length = n := by unfold Led; rw [ledT_len, hd.len]
    rw [Nat.pow_succ, Nat.mul_two, iter_add, ← dbl_led h k hT, ← dbl_led h k hl]
    exact led_comp hd hd hT
/-- whether a bit is set -/
def bit (m i : Nat) : Bool := m / 2 ^ i % 2 != 0
theorem mod_succ (m i : Nat) : m % 2 ^ (i + 1) = m % 2 ^ i + (if bit m i = true then 2 ^ i else 0) := by
  rw [Nat.mod_pow_succ]
  congr 1
  unfold bit
  have h := Nat.mod_lt (m / 2 ^ i) (show 0 < 2 by omega)
  by_cases e : m / 2 ^ i % 2 = 0
  · rw [e]; simp
  · have : m / 2 ^ i % 2 = 1 := by omega
    rw [this]; simp
theorem bits_led {n : Nat} {t : Tab} (h : Shp n t) (m : Nat) {T : List Int} (hT : T.length = n) : ∀ i, (((List.range i).filter (bit m)).map (dbl t)).foldl (fun U s => Led s U) T = iter (Led t) (m % 2 ^ i) T
  | 0 => by rw [Nat.pow_zero, Nat.mod_one]; rfl
  | i + 1 => by
    have ih := bits_led h m hT i
    rw [List.range_succ, List.filter_append, List.map_append, List.foldl_append, ih, mod_succ]
    have hl := iterLed_len h (m % 2 ^ i) hT
    by_cases e : bit m i = true
    · rw [if_pos e, iter_add]
      simp only [List.filter_cons, e, if_true, List.filter_nil, List.map_cons, List.map_nil, List.foldl_cons, List.foldl_nil]
      exact dbl_led h i hl
    · rw [if_neg e]
      simp only [List.filter_cons, e, List.filter_nil, List.map_nil, List.foldl_nil]
      rfl
end Lw
-- F2
-- F3
namespace Lw
open PySem PySem.Spec PyProof.Rows L2
local macro_rules | `(tactic| walk_at "lw e") => `(tactic| (repeat (first | (with_reducible apply Exists.intro) | ((with_reducible refine And.intro ?_ ?_); · (first | (with_reducible exact pw_9) | (with_reducible exact pw_12) | (with_reducible exact pw_17) | (with_reducible exact pw_20) | (with_reducible exact pw_60) | (with_reducible exact pw_7) | (with_reducible exact pw_6) | (with_reducible exact pw_15) | (with_reducible exact pw_18) | (with_reducible exact pw_19) | (with_reducible exact pw_30) | (with_reducible exact pw_40) | (with_reducible exact tix0) | (with_reducible exact tix1) | (with_reducible exact tix2) | ((with_reducible apply mul_r); decide) | ((with_reducible apply mul_l); decide) | ((with_reducible apply div_i); decide) | ((with_reducible apply in_R); decide) | ((fail_if_success (with_reducible apply mul_r)); (fail_if_success (with_reducible apply div_i)); (fail_if_success (with_reducible apply dm_int)); (fail_if_success (with_reducible apply in_R)); rfl) | (exact Nat.le_of_ble_eq_true rfl) | (simp [refsOf]; done) | (exact ⟨rfl, rfl, by decide⟩) | (exact ⟨rfl, rfl, rfl⟩) | ((with_reducible apply tgN_o); (focus rfl); (focus (first | assumption | trivial))))) | ((with_reducible apply Sm.vrP); (focus rfl)) | ((with_reducible apply Sm.vrO); (focus rfl)) | (with_reducible refine Sm.cn ?_) | (with_reducible refine Sm.op2 ?_) | (with_reducible refine Sm.argV ?_) | (with_reducible refine Sm.callE ?_) | (with_reducible refine Sm.cal1 ?_) | (with_reducible refine Sm.sq ?_) | (with_reducible refine Sm.asgS ?_) | (with_reducible refine Sm.asg ?_) | (with_reducible refine Sm.retS ?_) | (with_reducible refine Sm.ifS ?_) | (with_reducible refine Sm.argN ?_) | (with_reducible refine Sm.tst ?_) | (with_reducible refine Sm.tupE ?_) | (with_reducible refine Sm.lstE ?_) | (with_reducible refine Sm.isE ?_) | (with_reducible refine Sm.argR ?_) | (with_reducible refine Sm.tru ?_) | (with_reducible refine Sm.andT ?_) | (with_reducible refine Sm.orT ?_) | (with_reducible refine Sm.notT ?_) | (with_reducible refine Sm.andV ?_) | (with_reducible refine Sm.orV ?_) | (with_reducible refine Sm.notV ?_) | (with_reducible refine Sm.negV ?_) | (with_reducible refine Sm.ife ?_) | (with_reducible refine Sm.chn ?_) | (with_reducible refine Sm.callF ?_) | (with_reducible refine Sm.slE ?_) | (with_reducible refine Sm.ptN ?_) | (with_reducible refine Sm.ptS ?_) | (with_reducible refine Sm.revE ?_) | (with_reducible refine Sm.mth ?_) | (with_reducible refine Sm.ret ?_) | (with_reducible refine Sm.esc ?_) | (with_reducible refine Sm.itS ?_) | (with_reducible refine Sm.itR1 ?_) | (with_reducible refine Sm.itR2 ?_) | (with_reducible refine Sm.itE ?_) | (with_reducible refine Sm.itZ ?_) | (with_reducible refine Sm.lcE2 ?_) | (with_reducible refine Sm.pvF ?_) | (with_reducible refine Sm.pvT ?_) | (with_reducible refine Sm.asgO ?_) | (with_reducible refine Sm.exS ?_) | (with_reducible refine Sm.skip ?_) | (with_reducible refine Sm.par2 ?_) | (with_reducible refine Sm.par3 ?_) | (with_reducible refine Sm.forS ?_) | (with_reducible refine Sm.at_nx ?_) | (with_reducible refine Sm.at_rt ?_) | (with_reducible refine Sm.oP ?_) | (with_reducible refine Sm.oF ?_) | (with_reducible refine Sm.fP ?_) | (with_reducible refine Sm.fF ?_) | (with_reducible refine Sm.itZ2 ?_) | (with_reducible refine Sm.itZ3 ?_) | (with_reducible refine Sm.itEn ?_) | (with_reducible refine Sm.argX ?_) | (with_reducible refine Sm.repE ?_) | ((with_reducible apply Sm.augI); (focus rfl)) | ((with_reducible refine Sm.dicE ?_ ?_); (focus decide)) | (with_reducible refine Sm.lzE ?_) | (with_reducible refine Sm.itV ?_) | (with_reducible refine Sm.itR3 ?_) | (with_reducible refine Sm.itRv1 ?_) | (with_reducible refine Sm.itRv2 ?_) | ((with_reducible apply Sm.augS); (focus rfl)) | (with_reducible refine Sm.parL3 ?_) | (with_reducible refine iteTT ?_) | (with_reducible refine iteT ?_) | (with_reducible refine iteF ?_) | ((with_reducible refine iteB1 ?_ ?_); (focus rfl)) | ((with_reducible refine iteB0 ?_ ?_); (focus rfl)))))
local macro_rules | `(tactic| walk_at "lw n") => `(tactic| (try dsimp only [ent, List.map, Nat.reduceAdd, Nat.reduceSub, List.length_cons, List.length_nil, List.replicate_succ, List.replicate_zero, List.cons_append, List.nil_append, putBack, setOwn, List.getElem?_cons_zero, List.getElem?_cons_succ, List.set_cons_zero, List.set_cons_succ, Sm.nf]))
local macro_rules | `(tactic| walk_at "lw v") => `(tactic| (try simp only [pb1, pb2, pb3, pb4]))
theorem seq_ix {t : D} {xs : List Int} (ht : Seq t xs) {i : Nat} (h : i < xs.length) : gIx t (.int (i : Int)) = some (.pure (.int (xs.getD i 0))) := by
  rw [ix_items ht.items (by omega) (by rw [List.length_map]; omega), Int.toNat_natCast, List.getD_eq_getElem?_getD, List.getElem?_map, List.getElem?_eq_getElem h, List.getD_eq_getElem?_getD, List.getElem?_eq_getElem h]
  rfl
theorem seq_len {t : D} {xs : List Int} (ht : Seq t xs) : gLen t = some (.pure (.int xs.length)) := by
  rcases ht with rfl | rfl
  · show some (R.pure (.int ((xs.map PyData.int).length : Nat))) = _; rw [List.length_map]
  · show some (R.pure (.int ((xs.map PyData.int).length : Nat))) = _; rw [List.length_map]
theorem TabG.ix {tv : D} {xs : List D} {t : Tab} (h : TabG tv xs t) {i : Nat} (hi : i < t.length) : ∃ x, gIx tv (.int (i : Int)) = some (.pure x) ∧ Seq x (t.getD i []) := by
  have hl := h.len
  refine ⟨xs.getD i .none, ?_, ?_⟩
  · rw [ix_items h.its (by omega) (by omega), Int.toNat_natCast]
  · refine h.ok i _ _ ?_ ?_
    · rw [List.getD_eq_getElem?_getD, List.getElem?_eq_getElem (by omega)]; rfl
    · rw [List.getD_eq_getElem?_getD, List.getElem?_eq_getElem hi]; rfl
def addAt (row : List Int) (rows : Tab) (p : Nat) : D → D
  | .int b => .int (row.getD b.toNat 0 + (rows.getD b.toNat []).getD (p - b.toNat) 0)
  | d => d
theorem addAt_map (row : List Int) (rows : Tab) (p : Nat) : (rngD 0 (p + 1)).map (addAt row rows p) = ((List.range (p + 1)).map fun b => row.getD b 0 + (rows.getD b []).getD (p - b) 0).map PyData.int := by
  rw [rng_map, List.map_map]
  refine List.map_congr_left fun b _ => ?_
  show PyData.int (row.getD (0 + (b : Int)).toNat 0 + (rows.getD (0 + (b : Int)).toNat []).getD (p - (0 + (b : Int)).toNat) 0) = _
  rw [Int.zero_add, Int.toNat_natCast]
  rfl
def rbAt (row : List Int) (rows : Tab) : D → D
  | .int p => .int ((rowB rows row).getD p.toNat 0)
  | d => d
theorem row_behind_ok {rv wv : D} {xs : List D} {rows : Tab} {row : List Int} (hr : TabG rv xs rows) (hw : Seq wv row) (hl : row.length ≤ 1000) (h1 : row.length ≤ rows.length) (h2 : ∀ b, b < row.length → row.length - b ≤ (rows.getD b []).length) : wpf m_p_row_behind [.pure rv, .pure wv] (ValQ fun x => x = it (rowB rows row)) := by
  have hsl : sizeLine = 16777216 := rfl
  refine Sm.run ?_
  unfold g_p_row_behind
  walk_at "lw n"
  walk_at "lw e"
  refine ⟨seq_len hw, ?_⟩
  walk_at "lw e"
  refine ⟨in_R (by omega), ?_⟩
  walk_at "lw e"
  rw [Int.toNat_natCast]
  refine Sm.lcPure (rbAt row rows) (by rw [rngD_len]; omega) ?_ ?_
  · intro y hy
    obtain ⟨p, hp0⟩ := List.mem_iff_getElem?.1 hy
    obtain ⟨hp, rfl⟩ := rng_at hp0
    refine ⟨_, tgN_o rfl trivial, ?_⟩
    walk_at "lw n"
    walk_at "lw e"
    refine ⟨in_R (by omega), ?_⟩
    walk_at "lw e"
    rw [show ((p : Int) + 1).toNat = p + 1 by omega]
    refine Sm.lcPure (addAt row rows p) (by rw [rngD_len]; omega) ?_ ?_
    · intro z hz
      obtain ⟨b, hb⟩ := List.mem_iff_getElem?.1 hz
      obtain ⟨hb, rfl⟩ := rng_at hb
      obtain ⟨x, i1, i2⟩ := hr.ix (i := b) (by omega)
      have h2b := h2 b (by omega)
      have epb : (p : Int) - (b : Int) = ((p - b : Nat) : Int) := by omega
      have i3 : gIx x (.int ((p : Int) - (b : Int))) = some (.pure (.int ((rows.getD b []).getD (p - b) 0))) := by
        rw [epb]; exact seq_ix i2 (by omega)
      refine ⟨_, tgN_o rfl trivial, ?_⟩
      walk_at "lw n"
      walk_at "lw e"
      refine ⟨seq_ix hw (by omega), ?_⟩
      walk_at "lw e"
      refine ⟨i1, ?_⟩
      walk_at "lw e"
      refine ⟨i3, ?_⟩
      walk_at "lw e"
      first | rfl | exact ⟨rfl, rfl⟩ | exact ⟨_, rfl, rfl, rfl⟩
    rw [addAt_map]
    have hne : ((List.range (p + 1)).map fun b => row.getD b 0 + (rows.getD b []).getD (p - b) 0) ≠ [] := fun e => by have := congrArg List.length e; simp at this
    refine ⟨_, _, rfl, fmin_ok hne, ?_⟩
    have ef : rbAt row rows (.int (p : Int)) = .int (fmin ((List.range (p + 1)).map fun b => row.getD b 0 + (rows.getD b []).getD (p - b) 0)) := by
      show PyData.int ((rowB rows row).getD (p : Int).toNat 0) = _
      rw [Int.toNat_natCast, rowB_get hp]
    rw [ef]
    first | rfl | exact ⟨rfl, rfl⟩ | exact ⟨_, rfl, rfl, rfl⟩
  · walk_at "lw e"
    refine ⟨_, rfl, ?_⟩
    unfold it
    congr 1
    rw [rng_map]
    apply List.ext_getElem?
    intro i
    rw [List.getElem?_map, List.getElem?_map]
    by_cases h : i < row.length
    · rw [List.getElem?_range h, getD_some (xs := rowB rows row) (by rw [rowB_len]; exact h)]
      show some (PyData.int ((rowB rows row).getD (0 + (i : Int)).toNat 0)) = _
      rw [Int.zero_add, Int.toNat_natCast]
      rfl
    · rw [List.getElem?_eq_none (by rw [List.length_range]; omega), List.getElem?_eq_none (by rw [rowB_len]; omega)]
      rfl
theorem comp_get : ∀ {n : Nat} {one other : Tab} (i : Nat), Shp n one → Shp n other → (compT one other)[i]? = (other[i]?).map fun o => rowB ((one ++ [[0]]).drop i) o
  | 0, _, _, i, h1, h2 => by rw [show _ = [] from h1, show _ = [] from h2]; simp [compT]
  | n + 1, _, _, i, ⟨r, rs, e1, l1, s1⟩, ⟨o, os, e2, l2, s2⟩ => by
    rw [e1, e2, compT]
    cases i with
    | zero => rfl
    | succ i => rw [List.getElem?_cons_succ, List.getElem?_cons_succ, comp_get i s1 s2, List.cons_append, List.drop_succ_cons]
def rowAt (one other : Tab) : D → D
  | .tuple [.int i, _] => it (rowB ((one ++ [[0]]).drop i.toNat) (other.getD i.toNat []))
  | d => d
theorem behind_ok {ov1 tv : D} {xs ys : List D} {n : Nat} {one other : Tab} (h1 : TabG ov1 xs one) (h2 : TabG tv ys other) (s1 : Shp n one) (s2 : Shp n other) (hn : n ≤ 100) : wpf m_p_behind [.pure ov1, .pure tv] (ValQ fun x => x = tabD (compT one other)) := by
  have hsl : sizeLine = 16777216 := rfl
  have l1 := s1.len
  have l2 := s2.len
  have x1 := h1.len
  have y1 := h2.len
  have rws := s1.rws
  refine Sm.run ?_
  unfold g_p_behind
  walk_at "lw n"
  walk_at "lw e"
  refine ⟨h1.its, ?_⟩
  walk_at "lw e"
  refine ⟨vals_avs rfl, by simp; omega, ?_⟩
  walk_at "lw e"
  walk_at "lw n"
  walk_at "lw e"
  refine ⟨h2.its, ?_⟩
  walk_at "lw e"
  refine Sm.lcPure (rowAt one other) (by rw [enumD_len]; omega) ?_ ?_
  · intro d hd
    obtain ⟨i, hi⟩ := List.mem_iff_getElem?.1 hd
    rw [enumD_get] at hi
    cases q : ys[i]? with
    | none => rw [q] at hi; cases hi
    | some y =>
      rw [q] at hi
      cases hi
      have hil : i < ys.length := (List.getElem?_eq_some_iff.mp q).1
      have hy := h2.ok i y _ q (List.getElem?_eq_getElem (by omega))
      obtain ⟨a, r, _, e2, e3⟩ := s2.row (k := i) (by omega)
      have er : other[i]'(by omega) = a :: r := by rw [List.getElem?_eq_getElem (by omega)] at e2; exact Option.some.inj e2
      rw [er] at hy
      have hd2 : TabG (.list ((xs ++ [PyData.tuple [.int 0]]).drop i)) ((xs ++ [PyData.tuple [.int 0]]).drop i) ((one ++ [[0]]).drop i) := by
        refine ⟨rfl, by simp; omega, fun j x r h3 h4 => ?_⟩
        rw [List.getElem?_drop] at h3 h4
        by_cases hj : i + j < xs.length
        · rw [List.getElem?_append_left hj] at h3
          rw [List.getElem?_append_left (by omega)] at h4
          exact h1.ok _ x r h3 h4
        · rw [List.getElem?_append_right (by omega)] at h3 h4
          rw [x1] at h3
          cases k : i + j - one.length with
          | zero => rw [k] at h3 h4; cases h3; cases h4; exact .inr rfl
          | succ k' => rw [k] at h3; cases h3
      have hrb := row_behind_ok (row := a :: r) hd2 hy (by rw [List.length_cons]; omega) (by simp; omega) (fun b hb => by
        rw [List.length_cons] at hb ⊢
        have := rws.2 (i + b) (by omega)
        rw [List.getD_eq_getElem?_getD, List.getElem?_drop, ← List.getD_eq_getElem?_getD]
        omega)
      rw [Nat.zero_add]
      refine ⟨_, tgT2_o rfl trivial rfl trivial, ?_⟩
      walk_at "lw n"
      walk_at "lw e"
      rw [cut_from]
      (refine Sm.fmono (hrb) fun r o h => ?_; obtain ⟨d, rfl, rfl⟩ := h; refine ⟨nref, ?_⟩; walk_at "lw v"; walk_at "lw e")
      have ef : rowAt one other (.tuple [.int (i : Int), y]) = it (rowB ((one ++ [[0]]).drop i) (a :: r)) := by
        show it (rowB ((one ++ [[0]]).drop (i : Int).toNat) (other.getD (i : Int).toNat [])) = _
        rw [Int.toNat_natCast, List.getD_eq_getElem?_getD, e2]
        rfl
      rw [ef]
      first | rfl | exact ⟨rfl, rfl⟩ | exact ⟨rfl, rfl, rfl⟩ | exact ⟨_, rfl, rfl, rfl⟩
  · walk_at "lw e"
    refine ⟨_, rfl, ?_⟩
    unfold tabD
    congr 1
    apply List.ext_getElem?
    intro i
    rw [List.getElem?_map, List.getElem?_map, enumD_get, comp_get i s1 s2]
    by_cases h : i < other.length
    · rw [List.getElem?_eq_getElem (by omega : i < ys.length), List.getElem?_eq_getElem h]
      show some (it (rowB ((one ++ [[0]]).drop ((0 + i : Nat) : Int).toNat) (other.getD ((0 + i : Nat) : Int).toNat []))) = _
      rw [Nat.zero_add, Int.toNat_natCast, List.getD_eq_getElem?_getD, List.getElem?_eq_getElem h]
      rfl
    · rw [List.getElem?_eq_none (by omega), List.getElem?_eq_none (by omega)]
      rfl
end Lw
-- F2
-- F3
namespace Lw
open PySem PySem.Spec PyProof.Rows L2
local macro_rules | `(tactic| walk_at "lw e") => `(tactic| (repeat (first | (with_reducible apply Exists.intro) | ((with_reducible refine And.intro ?_ ?_); · (first | (with_reducible exact pw_9) | (with_reducible exact pw_12) | (with_reducible exact pw_17) | (with_reducible exact pw_20) | (with_reducible exact pw_60) | (with_reducible exact pw_7) | (with_reducible exact pw_6) | (with_reducible exact pw_15) | (with_reducible exact pw_18) | (with_reducible exact pw_19) | (with_reducible exact pw_30) | (with_reducible exact pw_40) | (with_reducible exact tix0) | (with_reducible exact tix1) | (with_reducible exact tix2) | ((with_reducible apply mul_r); decide) | ((with_reducible apply mul_l); decide) | ((with_reducible apply div_i); decide) | ((with_reducible apply in_R); decide) | ((fail_if_success (with_reducible apply mul_r)); (fail_if_success (with_reducible apply div_i)); (fail_if_success (with_reducible apply dm_int)); (fail_if_success (with_reducible apply in_R)); rfl) | (exact Nat.le_of_ble_eq_true rfl) | (simp [refsOf]; done) | (exact ⟨rfl, rfl, by decide⟩) | (exact ⟨rfl, rfl, rfl⟩) | ((with_reducible apply tgN_o); (focus rfl); (focus (first | assumption | trivial))))) | ((with_reducible apply Sm.vrP); (focus rfl)) | ((with_reducible apply Sm.vrO); (focus rfl)) | (with_reducible refine Sm.cn ?_) | (with_reducible refine Sm.op2 ?_) | (with_reducible refine Sm.argV ?_) | (with_reducible refine Sm.callE ?_) | (with_reducible refine Sm.cal1 ?_) | (with_reducible refine Sm.sq ?_) | (with_reducible refine Sm.asgS ?_) | (with_reducible refine Sm.asg ?_) | (with_reducible refine Sm.retS ?_) | (with_reducible refine Sm.ifS ?_) | (with_reducible refine Sm.argN ?_) | (with_reducible refine Sm.tst ?_) | (with_reducible refine Sm.tupE ?_) | (with_reducible refine Sm.lstE ?_) | (with_reducible refine Sm.isE ?_) | (with_reducible refine Sm.argR ?_) | (with_reducible refine Sm.tru ?_) | (with_reducible refine Sm.andT ?_) | (with_reducible refine Sm.orT ?_) | (with_reducible refine Sm.notT ?_) | (with_reducible refine Sm.andV ?_) | (with_reducible refine Sm.orV ?_) | (with_reducible refine Sm.notV ?_) | (with_reducible refine Sm.negV ?_) | (with_reducible refine Sm.ife ?_) | (with_reducible refine Sm.chn ?_) | (with_reducible refine Sm.callF ?_) | (with_reducible refine Sm.slE ?_) | (with_reducible refine Sm.ptN ?_) | (with_reducible refine Sm.ptS ?_) | (with_reducible refine Sm.revE ?_) | (with_reducible refine Sm.mth ?_) | (with_reducible refine Sm.ret ?_) | (with_reducible refine Sm.esc ?_) | (with_reducible refine Sm.itS ?_) | (with_reducible refine Sm.itR1 ?_) | (with_reducible refine Sm.itR2 ?_) | (with_reducible refine Sm.itE ?_) | (with_reducible refine Sm.itZ ?_) | (with_reducible refine Sm.lcE2 ?_) | (with_reducible refine Sm.pvF ?_) | (with_reducible refine Sm.pvT ?_) | (with_reducible refine Sm.asgO ?_) | (with_reducible refine Sm.exS ?_) | (with_reducible refine Sm.skip ?_) | (with_reducible refine Sm.par2 ?_) | (with_reducible refine Sm.par3 ?_) | (with_reducible refine Sm.forS ?_) | (with_reducible refine Sm.at_nx ?_) | (with_reducible refine Sm.at_rt ?_) | (with_reducible refine Sm.oP ?_) | (with_reducible refine Sm.oF ?_) | (with_reducible refine Sm.fP ?_) | (with_reducible refine Sm.fF ?_) | (with_reducible refine Sm.itZ2 ?_) | (with_reducible refine Sm.itZ3 ?_) | (with_reducible refine Sm.itEn ?_) | (with_reducible refine Sm.argX ?_) | (with_reducible refine Sm.repE ?_) | ((with_reducible apply Sm.augI); (focus rfl)) | ((with_reducible refine Sm.dicE ?_ ?_); (focus decide)) | (with_reducible refine Sm.lzE ?_) | (with_reducible refine Sm.itV ?_) | (with_reducible refine Sm.itR3 ?_) | (with_reducible refine Sm.itRv1 ?_) | (with_reducible refine Sm.itRv2 ?_) | ((with_reducible apply Sm.augS); (focus rfl)) | (with_reducible refine Sm.parL3 ?_) | (with_reducible refine iteTT ?_) | (with_reducible refine iteT ?_) | (with_reducible refine iteF ?_) | ((with_reducible refine iteB1 ?_ ?_); (focus rfl)) | ((with_reducible refine iteB0 ?_ ?_); (focus rfl)))))
local macro_rules | `(tactic| walk_at "lw n") => `(tactic| (try dsimp only [ent, List.map, Nat.reduceAdd, Nat.reduceSub, List.length_cons, List.length_nil, List.replicate_succ, List.replicate_zero, List.cons_append, List.nil_append, putBack, setOwn, List.getElem?_cons_zero, List.getElem?_cons_succ, List.set_cons_zero, List.set_cons_succ, Sm.nf]))
local macro_rules | `(tactic| walk_at "lw v") => `(tactic| (try simp only [pb1, pb2, pb3, pb4]))
/-- how many doubles are wanted -/
def dn (m : Nat) : Nat := Builtin.Int.intBits (m : Int) - 1 + 1
theorem lt_dn (m : Nat) : m < 2 ^ dn m := by
  unfold dn Builtin.Int.intBits
  by_cases h : m = 0
  · subst h; decide
  · rw [if_neg (by simpa using h), Int.natAbs_natCast, Nat.add_sub_cancel]
    exact Nat.lt_log2_self
theorem dn_le {m k : Nat} (h : m < 2 ^ k) (hk : 1 ≤ k) : dn m ≤ k ∧ Builtin.Int.intBits (m : Int) ≤ k := by
  unfold dn Builtin.Int.intBits
  by_cases h0 : m = 0
  · subst h0; rw [if_pos (by rfl)]; omega
  · rw [if_neg (by simpa using h0), Int.natAbs_natCast]
    have := (Nat.log2_lt h0).2 h
    omega
theorem tup_rows {tv : D} {xs : List D} {t : Tab} (h : TabG tv xs t) : ∀ x ∈ xs, ∃ r, Seq x r ∧ gTuple x = some (.pure (it r)) := by
  intro x hx
  obtain ⟨i, hi⟩ := List.mem_iff_getElem?.1 hx
  have hil : i < xs.length := (List.getElem?_eq_some_iff.mp hi).1
  have := h.ok i x _ hi (List.getElem?_eq_getElem (by have := h.len; omega))
  exact ⟨_, this, by rcases this with rfl | rfl <;> rfl⟩
def tupD : D → D
  | .list xs => .tuple xs
  | d => d
theorem tup_map {tv : D} {xs : List D} {t : Tab} (h : TabG tv xs t) : xs.map tupD = t.map it := by
  apply List.ext_getElem?
  intro i
  rw [List.getElem?_map, List.getElem?_map]
  have hl := h.len
  by_cases hi : i < xs.length
  · have := h.ok i _ _ (List.getElem?_eq_getElem hi) (List.getElem?_eq_getElem (by omega))
    rw [List.getElem?_eq_getElem hi, List.getElem?_eq_getElem (by omega)]
    show some (tupD xs[i]) = some (it t[i])
    congr 1
    rcases this with e | e <;> rw [e] <;> rfl
  · rw [List.getElem?_eq_none (by omega), List.getElem?_eq_none (by omega)]; rfl
def dbls (t : Tab) (k : Nat) : List D := ((List.range k).map (dbl t)).map tabD
def IDb (tv : D) (m : Nat) (t : Tab) (i : Nat) (ς : En) : Prop := ∃ o5 : Option S, ς = [some (.pure tv), some (.pure (.int (m : Int))), some (.pure (tabD (dbl t i))), none, some (.own false (dbls t (i + 1))), o5] ∧ Fr o5
theorem doubles_ok {tv : D} {xs : List D} {t : Tab} {n m : Nat} (h : TabG tv xs t) (hs : Shp n t) (hn : n ≤ 100) (hm : m < 2 ^ 200) : wpf m_p_doubles_of [.pure tv, .pure (.int (m : Int))] (FreshQ fun x => x = dbls t (dn m)) := by
  have hsl : sizeLine = 16777216 := rfl
  have hb := dn_le hm (by decide)
  have hxl := h.len
  have htl := hs.len
  refine Sm.run ?_
  unfold g_p_doubles_of
  walk_at "lw n"
  walk_at "lw e"
  refine ⟨h.its, ?_⟩
  walk_at "lw e"
  refine Sm.lcPure tupD (by omega) ?_ ?_
  · intro x hx
    obtain ⟨r, sr, gr⟩ := tup_rows h x hx
    refine ⟨_, tgN_o rfl trivial, ?_⟩
    walk_at "lw n"
    refine Sm.cal1 (Sm.vrP rfl ⟨_, _, rfl, gr, ?_⟩)
    have ef : tupD x = it r := by rcases sr with rfl | rfl <;> rfl
    rw [ef]
    first | rfl | exact ⟨rfl, rfl⟩ | exact ⟨_, rfl, rfl, rfl⟩
  rw [tup_map h]
  dsimp only [wipeE]
  walk_at "lw n"
  walk_at "lw e"
  walk_at "lw n"
  walk_at "lw e"
  refine ⟨in_R (by omega), ?_⟩
  have el : (((Builtin.Int.intBits (m : Int) : Nat) : Int) - 1).toNat = Builtin.Int.intBits (m : Int) - 1 := by omega
  refine Sm.loopInv (IDb tv m t) ⟨none, rfl, trivial⟩ ?_ ?_
  · rintro i x ς hx ⟨o5, rfl, f5⟩
    have hi : i < 200 := by have := (List.getElem?_eq_some_iff.mp hx).1; rw [rngD_len] at this; omega
    have hd := dbl_shp hs i
    refine ⟨_, tgN_o rfl f5, ?_⟩
    walk_at "lw n"
    walk_at "lw e"
    (refine Sm.fmono (behind_ok (TabG.of (dbl t i)) (TabG.of (dbl t i)) hd hd hn) fun r o h => ?_; obtain ⟨d, rfl, rfl⟩ := h; refine ⟨nref, ?_⟩; walk_at "lw v"; walk_at "lw e")
    walk_at "lw n"
    walk_at "lw e"
    refine ⟨app_ok (by unfold dbls; simp; omega), ?_⟩
    refine ⟨some (.pure x), ?_, trivial⟩
    unfold dbls
    rw [List.range_succ (n := i + 1), List.map_append, List.map_append]
    rfl
  · rintro ς ⟨o5, rfl, f5⟩
    rw [rngD_len, el]
    refine Sm.at_nx (Sm.retS (Sm.vrO rfl (Sm.oM rfl (Sm.fF ⟨_, rfl, rfl⟩))))
def bitD (m : Nat) : D → Bool
  | .tuple [.int i, _] => bit m i.toNat
  | _ => false
def sndD : D → D
  | .tuple [_, x] => x
  | d => d
theorem enum_rng (f : Nat → D) (k : Nat) : enumD 0 ((List.range k).map f) = (List.range k).map fun (i : Nat) => PyData.tuple [.int (i : Int), f i] := by
  apply List.ext_getElem?
  intro i
  rw [enumD_get, List.getElem?_map, List.getElem?_map]
  by_cases h : i < k
  · rw [List.getElem?_range h, Nat.zero_add]; rfl
  · rw [List.getElem?_eq_none (by rw [List.length_range]; omega)]; rfl
theorem in_ok' {t : Tab} {m k : Nat} (hk : k ≤ 1000) : wpf m_p_doubles_in [.pure (.list (dbls t k)), .pure (.int (m : Int))] (FreshQ fun x => x = ((((List.range k).filter (bit m)).map (dbl t)).map tabD)) := by
  have hsl : sizeLine = 16777216 := rfl
  refine Sm.run ?_
  unfold g_p_doubles_in
  walk_at "lw n"
  walk_at "lw e"
  have ee : enumD 0 (dbls t k) = (List.range k).map fun (i : Nat) => PyData.tuple [.int (i : Int), tabD (dbl t i)] := by
    unfold dbls
    rw [List.map_map]
    exact enum_rng (tabD ∘ dbl t) k
  rw [ee]
  refine Sm.lcFil (bitD m) sndD (by simp; omega) ?_ ?_
  · intro d hd
    obtain ⟨i, hi, rfl⟩ := List.mem_map.1 hd
    have hi := List.mem_range.1 hi
    have e1 : ((m : Int) / 2 ^ i) = ((m / 2 ^ i : Nat) : Int) := by push_cast; rfl
    refine ⟨_, tgT2_o rfl trivial rfl trivial, ?_⟩
    walk_at "lw n"
    have hg : gAnd (.int ((m : Int) / 2 ^ i)) (.int 1) = some (.pure (.int ((m / 2 ^ i % 2 : Nat) : Int))) := by rw [e1]; exact and1_ok
    refine Sm.tru (Sm.op2 (Sm.op2 (Sm.vrP rfl (Sm.vrP rfl ⟨_, _, _, rfl, rfl, shr_ok, Sm.cn ⟨_, _, _, rfl, rfl, hg, _, _, rfl, rfl, ?_, rfl, rfl, fun _ => ?_⟩⟩))))
    · show (((m / 2 ^ i % 2 : Nat) : Int) != 0) = bit m (i : Int).toNat
      rw [Int.toNat_natCast]
      unfold bit
      cases q : m / 2 ^ i % 2 with
      | zero => rfl
      | succ j =>
        rw [bne_iff_ne.2 (by omega), bne_iff_ne.2 (by omega)]
    · walk_at "lw e"
      first | rfl | exact ⟨rfl, rfl⟩ | exact ⟨rfl, rfl, rfl⟩ | exact ⟨_, rfl, rfl, rfl⟩
  · refine Sm.oF (Sm.fF ⟨_, rfl, ?_⟩)
    rw [List.filter_map, List.map_map, List.map_map]
    rfl
def ILo (dv Tv : D) (m : Nat) (ts : List Tab) (T : List Int) (i : Nat) (ς : En) : Prop := ∃ o4 : Option S, ς = [some (.pure dv), some (.pure Tv), some (.pure (.int (m : Int))), some (.pure (it ((ts.take i).foldl (fun U s => Led s U) T))), o4] ∧ Fr o4
theorem led_often_ok {Tv : D} {t : Tab} {T : List Int} {m k : Nat} (hT : Seq Tv T) (hs : Shp T.length t) (hn : T.length ≤ 100) (hk : k ≤ 1000) (hm : m < 2 ^ k) : wpf m_p_led_often [.pure (.list (dbls t k)), .pure Tv, .pure (.int (m : Int))] (ValQ fun x => x = it (iter (Led t) m T)) := by
  have g1 : gTuple Tv = some (.pure (it T)) := by rcases hT with rfl | rfl <;> rfl
  refine Sm.run ?_
  unfold g_p_led_often
  walk_at "lw n"
  walk_at "lw e"
  refine ⟨g1, ?_⟩
  walk_at "lw e"
  walk_at "lw n"
  walk_at "lw e"
  refine Sm.fmono (in_ok' hk) fun r o h => ?_
  obtain ⟨z, rfl, rfl⟩ := h
  refine ⟨nfr, ?_⟩
  walk_at "lw v"
  walk_at "lw e"
  refine Sm.loopInv (ILo (.list (dbls t k)) Tv m (((List.range k).filter (bit m)).map (dbl t)) T) ⟨none, rfl, trivial⟩ ?_ ?_
  · rintro i x ς hx ⟨o4, rfl, f4⟩
    rw [List.getElem?_map] at hx
    cases q : (((List.range k).filter (bit m)).map (dbl t))[i]? with
    | none => rw [q] at hx; cases hx
    | some s =>
      rw [q] at hx
      cases hx
      have hall : ∀ (ts : List Tab) (U : List Int), (∀ s ∈ ts, Shp T.length s) → U.length = T.length → (ts.foldl (fun U s => Led s U) U).length = T.length := by
        intro ts
        induction ts with
        | nil => intro U _ h; exact h
        | cons s ts ih =>
          intro U hts hU
          refine ih _ (fun s hs => hts s (by simp [hs])) ?_
          show (ledT s (U ++ [0])).length = _
          rw [ledT_len, (hts s (by simp)).len]
      have hsh : ∀ s ∈ ((List.range k).filter (bit m)).map (dbl t), Shp T.length s := fun s hs' => by
        obtain ⟨j, _, rfl⟩ := List.mem_map.1 hs'
        exact dbl_shp hs j
      have hUl := hall ((((List.range k).filter (bit m)).map (dbl t)).take i) T (fun s m => hsh s (List.mem_of_mem_take m)) rfl
      have hss := hsh s (List.mem_of_getElem? q)
      refine ⟨_, tgN_o rfl f4, ?_⟩
      walk_at "lw n"
      walk_at "lw e"
      (refine Sm.fmono (led_ok (TabG.of s) (.inr rfl) (by rw [hUl]; exact hss) (by omega)) fun r o h => ?_; obtain ⟨d, rfl, rfl⟩ := h; refine ⟨nref, ?_⟩; walk_at "lw v"; walk_at "lw e")
      walk_at "lw n"
      refine ⟨some (.pure (tabD s)), ?_, trivial⟩
      rw [List.take_add_one, q, List.foldl_append]
      rfl
  · rintro ς ⟨o4, rfl, f4⟩
    rw [List.length_map, List.take_length, bits_led hs m rfl k, Nat.mod_eq_of_lt hm]
    walk_at "lw e"
    exact ⟨_, rfl, rfl⟩
theorem far_totals_ok {st lv dv : D} {xs ts : List D} {ps : List P3} {ls : List Int} {ds : List Dd} {m : Nat} (hs : StairG st xs ps) (hv : Seq lv ls) (hd : DeedsG dv ts ds) (ho : ∀ d ∈ ds, d.On ps.length) (hp : ps.length ≤ 100) (hl : ls.length = ps.length) (hdl : ds.length ≤ 1000) (hm : m < 2 ^ 200) :
    wpf m_p_far_totals [.pure st, .pure lv, .pure dv, .pure (.int (m : Int))] (ValQ fun x => x = it (iter (Led (tabOf ps ds)) m (tots ls))) := by
  have sp := tabOf_shp ps ds
  have tl : (tots ls).length = ps.length := by rw [tots_len]; exact hl
  refine Sm.run ?_
  unfold g_p_far_totals
  walk_at "lw n"
  walk_at "lw e"
  (refine Sm.fmono (table_ok hs hd ho (by omega) hdl) fun r o h => ?_; obtain ⟨d, rfl, rfl⟩ := h; refine ⟨nref, ?_⟩; walk_at "lw v"; walk_at "lw e")
  refine Sm.fmono (doubles_ok (TabG.of (tabOf ps ds)) sp hp hm) fun r o h => ?_
  obtain ⟨z, rfl, rfl⟩ := h
  refine ⟨nfr, ?_⟩
  walk_at "lw v"
  walk_at "lw e"
  (refine Sm.fmono (totals_ok hv (by omega)) fun r o h => ?_; obtain ⟨d, rfl, rfl⟩ := h; refine ⟨nref, ?_⟩; walk_at "lw v"; walk_at "lw e")
  (refine Sm.fmono (led_often_ok (T := tots ls) (.inr rfl) (by rw [tl]; exact sp) (by omega) (Nat.le_trans (dn_le hm (by decide)).1 (by decide)) (lt_dn m)) fun r o h => ?_; obtain ⟨d, rfl, rfl⟩ := h; refine ⟨nref, ?_⟩; walk_at "lw v"; walk_at "lw e")
  exact ⟨_, rfl, rfl⟩
theorem far_levels_ok {st lv dv : D} {xs ts : List D} {ps : List P3} {ls : List Int} {ds : List Dd} {m : Nat} (hs : StairG st xs ps) (hv : Seq lv ls) (hd : DeedsG dv ts ds) (ho : ∀ d ∈ ds, d.On ps.length) (hp : ps.length ≤ 100) (hl : ls.length = ps.length) (hdl : ds.length ≤ 1000) (hm : m < 2 ^ 200) :
    wpf m_p_far_levels [.pure st, .pure lv, .pure dv, .pure (.int (m : Int))] (ValQ fun x => x = it (levs (iter (Led (tabOf ps ds)) m (tots ls)))) := by
  have sp := tabOf_shp ps ds
  have tl : (tots ls).length = ps.length := by rw [tots_len]; exact hl
  have il := iterLed_len sp m tl
  refine Sm.run ?_
  unfold g_p_far_levels
  walk_at "lw n"
  walk_at "lw e"
  (refine Sm.fmono (far_totals_ok hs hv hd ho hp hl hdl hm) fun r o h => ?_; obtain ⟨d, rfl, rfl⟩ := h; refine ⟨nref, ?_⟩; walk_at "lw v"; walk_at "lw e")
  (refine Sm.fmono (levels_ok (xs := iter (Led (tabOf ps ds)) m (tots ls)) (.inr rfl) (by omega)) fun r o h => ?_; obtain ⟨d, rfl, rfl⟩ := h; refine ⟨nref, ?_⟩; walk_at "lw v"; walk_at "lw e")
  exact ⟨_, rfl, rfl⟩
end Lw
-- F2
-- F3
namespace Lw
open PySem PySem.Spec PyProof.Rows L2
local macro_rules | `(tactic| walk_at "lw e") => `(tactic| (repeat (first | (with_reducible apply Exists.intro) | ((with_reducible refine And.intro ?_ ?_); · (first | (with_reducible exact pw_9) | (with_reducible exact pw_12) | (with_reducible exact pw_17) | (with_reducible exact pw_20) | (with_reducible exact pw_60) | (with_reducible exact pw_7) | (with_reducible exact pw_6) | (with_reducible exact pw_15) | (with_reducible exact pw_18) | (with_reducible exact pw_19) | (with_reducible exact pw_30) | (with_reducible exact pw_40) | (with_reducible exact tix0) | (with_reducible exact tix1) | (with_reducible exact tix2) | ((with_reducible apply mul_r); decide) | ((with_reducible apply mul_l); decide) | ((with_reducible apply div_i); decide) | ((with_reducible apply in_R); decide) | ((fail_if_success (with_reducible apply mul_r)); (fail_if_success (with_reducible apply div_i)); (fail_if_success (with_reducible apply dm_int)); (fail_if_success (with_reducible apply in_R)); rfl) | (exact Nat.le_of_ble_eq_true rfl) | (simp [refsOf]; done) | (exact ⟨rfl, rfl, by decide⟩) | (exact ⟨rfl, rfl, rfl⟩) | ((with_reducible apply tgN_o); (focus rfl); (focus (first | assumption | trivial))))) | ((with_reducible apply Sm.vrP); (focus rfl)) | ((with_reducible apply Sm.vrO); (focus rfl)) | (with_reducible refine Sm.cn ?_) | (with_reducible refine Sm.op2 ?_) | (with_reducible refine Sm.argV ?_) | (with_reducible refine Sm.callE ?_) | (with_reducible refine Sm.cal1 ?_) | (with_reducible refine Sm.sq ?_) | (with_reducible refine Sm.asgS ?_) | (with_reducible refine Sm.asg ?_) | (with_reducible refine Sm.retS ?_) | (with_reducible refine Sm.ifS ?_) | (with_reducible refine Sm.argN ?_) | (with_reducible refine Sm.tst ?_) | (with_reducible refine Sm.tupE ?_) | (with_reducible refine Sm.lstE ?_) | (with_reducible refine Sm.isE ?_) | (with_reducible refine Sm.argR ?_) | (with_reducible refine Sm.tru ?_) | (with_reducible refine Sm.andT ?_) | (with_reducible refine Sm.orT ?_) | (with_reducible refine Sm.notT ?_) | (with_reducible refine Sm.andV ?_) | (with_reducible refine Sm.orV ?_) | (with_reducible refine Sm.notV ?_) | (with_reducible refine Sm.negV ?_) | (with_reducible refine Sm.ife ?_) | (with_reducible refine Sm.chn ?_) | (with_reducible refine Sm.callF ?_) | (with_reducible refine Sm.slE ?_) | (with_reducible refine Sm.ptN ?_) | (with_reducible refine Sm.ptS ?_) | (with_reducible refine Sm.revE ?_) | (with_reducible refine Sm.mth ?_) | (with_reducible refine Sm.ret ?_) | (with_reducible refine Sm.esc ?_) | (with_reducible refine Sm.itS ?_) | (with_reducible refine Sm.itR1 ?_) | (with_reducible refine Sm.itR2 ?_) | (with_reducible refine Sm.itE ?_) | (with_reducible refine Sm.itZ ?_) | (with_reducible refine Sm.lcE2 ?_) | (with_reducible refine Sm.pvF ?_) | (with_reducible refine Sm.pvT ?_) | (with_reducible refine Sm.asgO ?_) | (with_reducible refine Sm.exS ?_) | (with_reducible refine Sm.skip ?_) | (with_reducible refine Sm.par2 ?_) | (with_reducible refine Sm.par3 ?_) | (with_reducible refine Sm.forS ?_) | (with_reducible refine Sm.at_nx ?_) | (with_reducible refine Sm.at_rt ?_) | (with_reducible refine Sm.oP ?_) | (with_reducible refine Sm.oF ?_) | (with_reducible refine Sm.fP ?_) | (with_reducible refine Sm.fF ?_) | (with_reducible refine Sm.itZ2 ?_) | (with_reducible refine Sm.itZ3 ?_) | (with_reducible refine Sm.itEn ?_) | (with_reducible refine Sm.argX ?_) | (with_reducible refine Sm.repE ?_) | ((with_reducible apply Sm.augI); (focus rfl)) | ((with_reducible refine Sm.dicE ?_ ?_); (focus decide)) | (with_reducible refine Sm.lzE ?_) | (with_reducible refine Sm.itV ?_) | (with_reducible refine Sm.itR3 ?_) | (with_reducible refine Sm.itRv1 ?_) | (with_reducible refine Sm.itRv2 ?_) | ((with_reducible apply Sm.augS); (focus rfl)) | (with_reducible refine Sm.parL3 ?_) | (with_reducible refine iteTT ?_) | (with_reducible refine iteT ?_) | (with_reducible refine iteF ?_) | ((with_reducible refine iteB1 ?_ ?_); (focus rfl)) | ((with_reducible refine iteB0 ?_ ?_); (focus rfl)))))
local macro_rules | `(tactic| walk_at "lw n") => `(tactic| (try dsimp only [ent, List.map, Nat.reduceAdd, Nat.reduceSub, List.length_cons, List.length_nil, List.replicate_succ, List.replicate_zero, List.cons_append, List.nil_append, putBack, setOwn, List.getElem?_cons_zero, List.getElem?_cons_succ, List.set_cons_zero, List.set_cons_succ, Sm.nf]))
local macro_rules | `(tactic| walk_at "lw v") => `(tactic| (try simp only [pb1, pb2, pb3, pb4]))
/-! ### levels none above its most -/
def Below (ps : List P3) (ls : List Int) : Prop := ls.length = ps.length ∧ ∀ z ∈ ps.zip ls, z.2 ≤ z.1.2.1
theorem Below.ov {ps : List P3} {ls : List Int} (h : Below ps ls) : (ov (ps.zip ls)).1 = ls := by
  rw [ov_flat _ h.2]
  exact List.map_snd_zip (by rw [h.1]; exact Nat.le_refl _)
theorem ov_most : ∀ (ps : List P3) (ls : List Int), ls.length = ps.length → Below ps (ov (ps.zip ls)).1
  | [], [], _ => ⟨rfl, fun z h => by cases h⟩
  | p :: ps, l :: ls, h => by
    have ih := ov_most ps ls (by simpa using h)
    rw [List.zip_cons_cons, ov]
    refine ⟨by rw [List.length_cons, List.length_cons, ih.1], fun z hz => ?_⟩
    rw [List.zip_cons_cons] at hz
    rcases List.mem_cons.1 hz with rfl | hz
    · dsimp only
      unfold spill
      split <;> omega
    · exact ih.2 z hz
theorem aft_below {ps : List P3} {ls : List Int} {d : Dd} (hl : ls.length = ps.length) : Below ps (aft ps ls d) := ov_most ps _ (by rw [add1_len]; exact hl)
theorem lvs_below {ps : List P3} : ∀ (ds : List Dd) {ls : List Int}, Below ps ls → Below ps (lvs ps ls ds)
  | [], ls, h => h
  | d :: ds, ls, h => lvs_below ds (aft_below h.1)
theorem Led_lvs {ps : List P3} {ls : List Int} {ds : List Dd} (h : Below ps ls) (ho : ∀ d ∈ ds, d.On ps.length) : Led (tabOf ps ds) (tots ls) = tots (lvs ps ls ds) := by
  have := led_tab h.1 ho
  rw [h.ov] at this
  exact this
def rnd (ps : List P3) (ds : List Dd) (ls : List Int) : List Int := lvs ps ls ds
theorem iter_below {ps : List P3} {ds : List Dd} : ∀ (m : Nat) {ls : List Int}, Below ps ls → Below ps (iter (rnd ps ds) m ls)
  | 0, ls, h => h
  | m + 1, ls, h => iter_below m (lvs_below ds h)
theorem iter_led {ps : List P3} {ds : List Dd} (ho : ∀ d ∈ ds, d.On ps.length) : ∀ (m : Nat) {ls : List Int}, Below ps ls → iter (Led (tabOf ps ds)) m (tots ls) = tots (iter (rnd ps ds) m ls)
  | 0, ls, h => rfl
  | m + 1, ls, h => by
    show iter (Led (tabOf ps ds)) m (Led (tabOf ps ds) (tots ls)) = tots (iter (rnd ps ds) m (rnd ps ds ls))
    rw [Led_lvs h ho]
    exact iter_led ho m (lvs_below ds h)
/-! ### what ran over, by totals -/
theorem addPre_getD {c : Nat} {m : Int} {xs : List Int} {j : Nat} (h : j < xs.length) : (addPre c m xs).getD j 0 = xs.getD j 0 + if j < c then m else 0 := by
  rw [List.getD_eq_getElem?_getD, addPre_get, List.getD_eq_getElem?_getD, List.getElem?_eq_getElem h]
  split <;> simp
end Lw
-- F2
-- F3
namespace Lw
open PySem PySem.Spec PyProof.Rows L2
local macro_rules | `(tactic| walk_at "lw e") => `(tactic| (repeat (first | (with_reducible apply Exists.intro) | ((with_reducible refine And.intro ?_ ?_); · (first | (with_reducible exact pw_9) | (with_reducible exact pw_12) | (with_reducible exact pw_17) | (with_reducible exact pw_20) | (with_reducible exact pw_60) | (with_reducible exact pw_7) | (with_reducible exact pw_6) | (with_reducible exact pw_15) | (with_reducible exact pw_18) | (with_reducible exact pw_19) | (with_reducible exact pw_30) | (with_reducible exact pw_40) | (with_reducible exact tix0) | (with_reducible exact tix1) | (with_reducible exact tix2) | ((with_reducible apply mul_r); decide) | ((with_reducible apply mul_l); decide) | ((with_reducible apply div_i); decide) | ((with_reducible apply in_R); decide) | ((fail_if_success (with_reducible apply mul_r)); (fail_if_success (with_reducible apply div_i)); (fail_if_success (with_reducible apply dm_int)); (fail_if_success (with_reducible apply in_R)); rfl) | (exact Nat.le_of_ble_eq_true rfl) | (simp [refsOf]; done) | (exact ⟨rfl, rfl, by decide⟩) | (exact ⟨rfl, rfl, rfl⟩) | ((with_reducible apply tgN_o); (focus rfl); (focus (first | assumption | trivial))))) | ((with_reducible apply Sm.vrP); (focus rfl)) | ((with_reducible apply Sm.vrO); (focus rfl)) | (with_reducible refine Sm.cn ?_) | (with_reducible refine Sm.op2 ?_) | (with_reducible refine Sm.argV ?_) | (with_reducible refine Sm.callE ?_) | (with_reducible refine Sm.cal1 ?_) | (with_reducible refine Sm.sq ?_) | (with_reducible refine Sm.asgS ?_) | (with_reducible refine Sm.asg ?_) | (with_reducible refine Sm.retS ?_) | (with_reducible refine Sm.ifS ?_) | (with_reducible refine Sm.argN ?_) | (with_reducible refine Sm.tst ?_) | (with_reducible refine Sm.tupE ?_) | (with_reducible refine Sm.lstE ?_) | (with_reducible refine Sm.isE ?_) | (with_reducible refine Sm.argR ?_) | (with_reducible refine Sm.tru ?_) | (with_reducible refine Sm.andT ?_) | (with_reducible refine Sm.orT ?_) | (with_reducible refine Sm.notT ?_) | (with_reducible refine Sm.andV ?_) | (with_reducible refine Sm.orV ?_) | (with_reducible refine Sm.notV ?_) | (with_reducible refine Sm.negV ?_) | (with_reducible refine Sm.ife ?_) | (with_reducible refine Sm.chn ?_) | (with_reducible refine Sm.callF ?_) | (with_reducible refine Sm.slE ?_) | (with_reducible refine Sm.ptN ?_) | (with_reducible refine Sm.ptS ?_) | (with_reducible refine Sm.revE ?_) | (with_reducible refine Sm.mth ?_) | (with_reducible refine Sm.ret ?_) | (with_reducible refine Sm.esc ?_) | (with_reducible refine Sm.itS ?_) | (with_reducible refine Sm.itR1 ?_) | (with_reducible refine Sm.itR2 ?_) | (with_reducible refine Sm.itE ?_) | (with_reducible refine Sm.itZ ?_) | (with_reducible refine Sm.lcE2 ?_) | (with_reducible refine Sm.pvF ?_) | (with_reducible refine Sm.pvT ?_) | (with_reducible refine Sm.asgO ?_) | (with_reducible refine Sm.exS ?_) | (with_reducible refine Sm.skip ?_) | (with_reducible refine Sm.par2 ?_) | (with_reducible refine Sm.par3 ?_) | (with_reducible refine Sm.forS ?_) | (with_reducible refine Sm.at_nx ?_) | (with_reducible refine Sm.at_rt ?_) | (with_reducible refine Sm.oP ?_) | (with_reducible refine Sm.oF ?_) | (with_reducible refine Sm.fP ?_) | (with_reducible refine Sm.fF ?_) | (with_reducible refine Sm.itZ2 ?_) | (with_reducible refine Sm.itZ3 ?_) | (with_reducible refine Sm.itEn ?_) | (with_reducible refine Sm.argX ?_) | (with_reducible refine Sm.repE ?_) | ((with_reducible apply Sm.augI); (focus rfl)) | ((with_reducible refine Sm.dicE ?_ ?_); (focus decide)) | (with_reducible refine Sm.lzE ?_) | (with_reducible refine Sm.itV ?_) | (with_reducible refine Sm.itR3 ?_) | (with_reducible refine Sm.itRv1 ?_) | (with_reducible refine Sm.itRv2 ?_) | ((with_reducible apply Sm.augS); (focus rfl)) | (with_reducible refine Sm.parL3 ?_) | (with_reducible refine iteTT ?_) | (with_reducible refine iteT ?_) | (with_reducible refine iteF ?_) | ((with_reducible refine iteB1 ?_ ?_); (focus rfl)) | ((with_reducible refine iteB0 ?_ ?_); (focus rfl)))))
local macro_rules | `(tactic| walk_at "lw n") => `(tactic| (try dsimp only [ent, List.map, Nat.reduceAdd, Nat.reduceSub, List.length_cons, List.length_nil, List.replicate_succ, List.replicate_zero, List.cons_append, List.nil_append, putBack, setOwn, List.getElem?_cons_zero, List.getElem?_cons_succ, List.set_cons_zero, List.set_cons_succ, Sm.nf]))
local macro_rules | `(tactic| walk_at "lw v") => `(tactic| (try simp only [pb1, pb2, pb3, pb4]))
theorem iter_bd {n A B : Nat} {t : Tab} (hs : Shp n t) (ht : ∀ row ∈ t, ∀ x ∈ row, x.natAbs ≤ A) : ∀ (m : Nat) {T : List Int}, T.length = n → (∀ x ∈ T, x.natAbs ≤ B) → ∀ x ∈ iter (Led t) m T, x.natAbs ≤ B + m * A
  | 0, T, _, hT => fun x hx => by have := hT x hx; omega
  | m + 1, T, hl, hT => by
    rw [iter_succ]
    have ih := iter_bd hs ht m hl hT
    have := led_bd hs (iterLed_len hs m hl) ht ih
    intro x hx
    have h2 := this x hx
    rw [Nat.add_mul, Nat.one_mul]
    omega
theorem levs_bd {B : Nat} : ∀ {xs : List Int}, (∀ x ∈ xs, x.natAbs ≤ B) → ∀ y ∈ levs xs, y.natAbs ≤ 2 * B
  | [], _, y, hy => by cases hy
  | x :: xs, h, y, hy => by
    have h1 := h x (by simp)
    have h3 := levs_bd (xs := xs) fun y hy => h y (by simp [hy])
    rcases List.mem_cons.1 hy with rfl | hy
    · cases xs with
      | nil => simp; omega
      | cons z r => have := h z (by simp); simp only [List.headD_cons]; omega
    · exact h3 y hy
/-! ### levels drawn below the most -/
def FlatP (ps : List P3) (ns : List Int) : Prop := ∀ (i : Nat) n, ns[i]? = some n → ∃ p, ps[i]? = some p ∧ n ≤ p.2.1 ∧ n.natAbs ≤ 200000000000000000
theorem FlatP.below {ps : List P3} {ns : List Int} (h : FlatP ps ns) (hl : ns.length = ps.length) : Below ps ns ∧ ∀ n ∈ ns, n.natAbs ≤ 200000000000000000 := by
  refine ⟨⟨hl, fun z hz => ?_⟩, fun n hn => ?_⟩
  · obtain ⟨i, hi⟩ := List.mem_iff_getElem?.1 hz
    obtain ⟨h1, h2⟩ := List.getElem?_zip_eq_some.1 hi
    obtain ⟨p, hp, hle, _⟩ := h i _ h2
    rw [h1] at hp
    cases hp
    exact hle
  · obtain ⟨i, hi⟩ := List.mem_iff_getElem?.1 hn
    obtain ⟨p, _, _, hb⟩ := h i n hi
    exact hb
theorem FlatP.snoc {ps : List P3} {ns : List Int} {n : Int} {p : P3} (h : FlatP ps ns) (hp : ps[ns.length]? = some p) (h1 : n ≤ p.2.1) (h2 : n.natAbs ≤ 200000000000000000) : FlatP ps (ns ++ [n]) := by
  intro i m hi
  by_cases q : i < ns.length
  · rw [List.getElem?_append_left q] at hi
    exact h i m hi
  · rw [List.getElem?_append_right (by omega)] at hi
    have : i = ns.length := by have := (List.getElem?_eq_some_iff.mp hi).1; simp at this; omega
    subst this
    simp at hi
    subst hi
    exact ⟨p, hp, h1, h2⟩
end Lw
-- F2
-- F3
namespace Lw
open PySem PySem.Spec PyProof.Rows L2
local macro_rules | `(tactic| walk_at "lw e") => `(tactic| (repeat (first | (with_reducible apply Exists.intro) | ((with_reducible refine And.intro ?_ ?_); · (first | (with_reducible exact pw_9) | (with_reducible exact pw_12) | (with_reducible exact pw_17) | (with_reducible exact pw_20) | (with_reducible exact pw_60) | (with_reducible exact pw_7) | (with_reducible exact pw_6) | (with_reducible exact pw_15) | (with_reducible exact pw_18) | (with_reducible exact pw_19) | (with_reducible exact pw_30) | (with_reducible exact pw_40) | (with_reducible exact tix0) | (with_reducible exact tix1) | (with_reducible exact tix2) | ((with_reducible apply mul_r); decide) | ((with_reducible apply mul_l); decide) | ((with_reducible apply div_i); decide) | ((with_reducible apply in_R); decide) | ((fail_if_success (with_reducible apply mul_r)); (fail_if_success (with_reducible apply div_i)); (fail_if_success (with_reducible apply dm_int)); (fail_if_success (with_reducible apply in_R)); rfl) | (exact Nat.le_of_ble_eq_true rfl) | (simp [refsOf]; done) | (exact ⟨rfl, rfl, by decide⟩) | (exact ⟨rfl, rfl, rfl⟩) | ((with_reducible apply tgN_o); (focus rfl); (focus (first | assumption | trivial))))) | ((with_reducible apply Sm.vrP); (focus rfl)) | ((with_reducible apply Sm.vrO); (focus rfl)) | (with_reducible refine Sm.cn ?_) | (with_reducible refine Sm.op2 ?_) | (with_reducible refine Sm.argV ?_) | (with_reducible refine Sm.callE ?_) | (with_reducible refine Sm.cal1 ?_) | (with_reducible refine Sm.sq ?_) | (with_reducible refine Sm.asgS ?_) | (with_reducible refine Sm.asg ?_) | (with_reducible refine Sm.retS ?_) | (with_reducible refine Sm.ifS ?_) | (with_reducible refine Sm.argN ?_) | (with_reducible refine Sm.tst ?_) | (with_reducible refine Sm.tupE ?_) | (with_reducible refine Sm.lstE ?_) | (with_reducible refine Sm.isE ?_) | (with_reducible refine Sm.argR ?_) | (with_reducible refine Sm.tru ?_) | (with_reducible refine Sm.andT ?_) | (with_reducible refine Sm.orT ?_) | (with_reducible refine Sm.notT ?_) | (with_reducible refine Sm.andV ?_) | (with_reducible refine Sm.orV ?_) | (with_reducible refine Sm.notV ?_) | (with_reducible refine Sm.negV ?_) | (with_reducible refine Sm.ife ?_) | (with_reducible refine Sm.chn ?_) | (with_reducible refine Sm.callF ?_) | (with_reducible refine Sm.slE ?_) | (with_reducible refine Sm.ptN ?_) | (with_reducible refine Sm.ptS ?_) | (with_reducible refine Sm.revE ?_) | (with_reducible refine Sm.mth ?_) | (with_reducible refine Sm.ret ?_) | (with_reducible refine Sm.esc ?_) | (with_reducible refine Sm.itS ?_) | (with_reducible refine Sm.itR1 ?_) | (with_reducible refine Sm.itR2 ?_) | (with_reducible refine Sm.itE ?_) | (with_reducible refine Sm.itZ ?_) | (with_reducible refine Sm.lcE2 ?_) | (with_reducible refine Sm.pvF ?_) | (with_reducible refine Sm.pvT ?_) | (with_reducible refine Sm.asgO ?_) | (with_reducible refine Sm.exS ?_) | (with_reducible refine Sm.skip ?_) | (with_reducible refine Sm.par2 ?_) | (with_reducible refine Sm.par3 ?_) | (with_reducible refine Sm.forS ?_) | (with_reducible refine Sm.at_nx ?_) | (with_reducible refine Sm.at_rt ?_) | (with_reducible refine Sm.oP ?_) | (with_reducible refine Sm.oF ?_) | (with_reducible refine Sm.fP ?_) | (with_reducible refine Sm.fF ?_) | (with_reducible refine Sm.itZ2 ?_) | (with_reducible refine Sm.itZ3 ?_) | (with_reducible refine Sm.itEn ?_) | (with_reducible refine Sm.argX ?_) | (with_reducible refine Sm.repE ?_) | ((with_reducible apply Sm.augI); (focus rfl)) | ((with_reducible refine Sm.dicE ?_ ?_); (focus decide)) | (with_reducible refine Sm.lzE ?_) | (with_reducible refine Sm.itV ?_) | (with_reducible refine Sm.itR3 ?_) | (with_reducible refine Sm.itRv1 ?_) | (with_reducible refine Sm.itRv2 ?_) | ((with_reducible apply Sm.augS); (focus rfl)) | (with_reducible refine Sm.parL3 ?_) | (with_reducible refine iteTT ?_) | (with_reducible refine iteT ?_) | (with_reducible refine iteF ?_) | ((with_reducible refine iteB1 ?_ ?_); (focus rfl)) | ((with_reducible refine iteB0 ?_ ?_); (focus rfl)))))
local macro_rules | `(tactic| walk_at "lw n") => `(tactic| (try dsimp only [ent, List.map, Nat.reduceAdd, Nat.reduceSub, List.length_cons, List.length_nil, List.replicate_succ, List.replicate_zero, List.cons_append, List.nil_append, putBack, setOwn, List.getElem?_cons_zero, List.getElem?_cons_succ, List.set_cons_zero, List.set_cons_succ, Sm.nf]))
local macro_rules | `(tactic| walk_at "lw v") => `(tactic| (try simp only [pb1, pb2, pb3, pb4]))
theorem pw_4 : gPowA (.int 10) (.int 4) = some (.pure (.int 10000)) := rfl
theorem pw_11 : gPowA (.int 10) (.int 11) = some (.pure (.int 100000000000)) := rfl
theorem pw_13 : gPowA (.int 10) (.int 13) = some (.pure (.int 10000000000000)) := rfl
theorem pw_14 : gPowA (.int 10) (.int 14) = some (.pure (.int 100000000000000)) := rfl
theorem pw_16 : gPowA (.int 10) (.int 16) = some (.pure (.int 10000000000000000)) := rfl
theorem pb5 {a b c d e : D} {o : List S} {ς : En} : putBack [.val a, .val b, .val c, .val d, .val e] o ς = ς := pbv fun _ => pb4
theorem pb6 {a b c d e f : D} {o : List S} {ς : En} : putBack [.val a, .val b, .val c, .val d, .val e, .val f] o ς = ς := pbv fun _ => pb5
theorem cut_toN (ds : List D) (i : Nat) : cutD ds none (some (i : Int)) = ds.take i := by
  unfold cutD
  rw [show HT.sIx ds.length ds.length (some (i : Int)) = min i ds.length from HT.sIx_nat _ _ i, show HT.sIx ds.length 0 none = 0 from rfl, List.drop_zero, Nat.sub_zero]
  by_cases h : i ≤ ds.length
  · rw [Nat.min_eq_left h]
  · rw [Nat.min_eq_right (by omega), List.take_of_length_le (Nat.le_refl _), List.take_of_length_le (by omega)]
theorem DeedsG.take {t d : D} {ts : List D} {ds : List Dd} (h : DeedsG t ts ds) {i : Nat} (hi : items d = some (ts.take i)) : DeedsG d (ts.take i) (ds.take i) := by
  have hl := h.len
  refine ⟨hi, by rw [List.length_take, List.length_take, hl], fun j x e h1 h2 => ?_⟩
  by_cases hj : j < i
  · rw [List.getElem?_take_of_lt hj] at h1 h2
    exact h.ok j x e h1 h2
  · rw [List.getElem?_take_eq_none (by omega)] at h1
    cases h1
/-! ### a stair, a round, levels below the most -/
structure Rnd (g : Nat) (ps : List P3) (ds : List Dd) (ns : List Int) : Prop where
  g1 : 1 ≤ g
  g2 : g ≤ 1000000000000000
  x1 : 1 ≤ ps.length
  x2 : ps.length ≤ 6
  hp : ∀ p ∈ ps, PoundI g p
  hd : LotN 40 ps.length g ds
  hb : Below ps ns
  nb : ∀ n ∈ ns, n.natAbs ≤ 200000000000000000
section
variable {g : Nat} {ps : List P3} {ds : List Dd} {ns : List Int}
theorem Rnd.on (e : Rnd g ps ds ns) : ∀ d ∈ ds, d.On ps.length := fun d m => (e.hd.2 d m).1
theorem Rnd.len (e : Rnd g ps ds ns) (m : Nat) : (iter (rnd ps ds) m ns).length = ps.length := (iter_below m e.hb).1
theorem Rnd.take (e : Rnd g ps ds ns) (k : Nat) : LotN 40 ps.length g (ds.take k) := ⟨by have := e.hd.1; rw [List.length_take]; omega, fun d m => e.hd.2 d (List.mem_of_mem_take m)⟩
end
end Lw
-- F2
-- F3
-- F4
namespace Lw
open PySem PySem.Spec PyProof.Rows L2
local macro_rules | `(tactic| walk_at "lw e") => `(tactic| (repeat (first | (with_reducible apply Exists.intro) | ((with_reducible refine And.intro ?_ ?_); · (first | (with_reducible exact pw_9) | (with_reducible exact pw_12) | (with_reducible exact pw_17) | (with_reducible exact pw_20) | (with_reducible exact pw_60) | (with_reducible exact pw_4) | (with_reducible exact pw_11) | (with_reducible exact pw_13) | (with_reducible exact pw_14) | (with_reducible exact pw_16) | (with_reducible exact pw_7) | (with_reducible exact pw_6) | (with_reducible exact pw_15) | (with_reducible exact pw_18) | (with_reducible exact pw_19) | (with_reducible exact pw_30) | (with_reducible exact pw_40) | (with_reducible exact tix0) | (with_reducible exact tix1) | (with_reducible exact tix2) | ((with_reducible apply mul_r); decide) | ((with_reducible apply mul_l); decide) | ((with_reducible apply div_i); decide) | ((with_reducible apply in_R); decide) | ((fail_if_success (with_reducible apply mul_r)); (fail_if_success (with_reducible apply div_i)); (fail_if_success (with_reducible apply dm_int)); (fail_if_success (with_reducible apply in_R)); rfl) | (exact Nat.le_of_ble_eq_true rfl) | (simp [refsOf]; done) | (exact ⟨rfl, rfl, by decide⟩) | (exact ⟨rfl, rfl, rfl⟩) | ((with_reducible apply tgN_o); (focus rfl); (focus (first | assumption | trivial))))) | ((with_reducible apply Sm.vrP); (focus rfl)) | ((with_reducible apply Sm.vrO); (focus rfl)) | (with_reducible refine Sm.cn ?_) | (with_reducible refine Sm.op2 ?_) | (with_reducible refine Sm.argV ?_) | (with_reducible refine Sm.callE ?_) | (with_reducible refine Sm.cal1 ?_) | (with_reducible refine Sm.sq ?_) | (with_reducible refine Sm.asgS ?_) | (with_reducible refine Sm.asg ?_) | (with_reducible refine Sm.retS ?_) | (with_reducible refine Sm.ifS ?_) | (with_reducible refine Sm.argN ?_) | (with_reducible refine Sm.tst ?_) | (with_reducible refine Sm.tupE ?_) | (with_reducible refine Sm.lstE ?_) | (with_reducible refine Sm.isE ?_) | (with_reducible refine Sm.argR ?_) | (with_reducible refine Sm.tru ?_) | (with_reducible refine Sm.andT ?_) | (with_reducible refine Sm.orT ?_) | (with_reducible refine Sm.notT ?_) | (with_reducible refine Sm.andV ?_) | (with_reducible refine Sm.orV ?_) | (with_reducible refine Sm.notV ?_) | (with_reducible refine Sm.negV ?_) | (with_reducible refine Sm.ife ?_) | (with_reducible refine Sm.chn ?_) | (with_reducible refine Sm.callF ?_) | (with_reducible refine Sm.slE ?_) | (with_reducible refine Sm.ptN ?_) | (with_reducible refine Sm.ptS ?_) | (with_reducible refine Sm.revE ?_) | (with_reducible refine Sm.mth ?_) | (with_reducible refine Sm.ret ?_) | (with_reducible refine Sm.esc ?_) | (with_reducible refine Sm.itS ?_) | (with_reducible refine Sm.itR1 ?_) | (with_reducible refine Sm.itR2 ?_) | (with_reducible refine Sm.itE ?_) | (with_reducible refine Sm.itZ ?_) | (with_reducible refine Sm.lcE2 ?_) | (with_reducible refine Sm.pvF ?_) | (with_reducible refine Sm.pvT ?_) | (with_reducible refine Sm.asgO ?_) | (with_reducible refine Sm.exS ?_) | (with_reducible refine Sm.skip ?_) | (with_reducible refine Sm.par2 ?_) | (with_reducible refine Sm.par3 ?_) | (with_reducible refine Sm.forS ?_) | (with_reducible refine Sm.at_nx ?_) | (with_reducible refine Sm.at_rt ?_) | (with_reducible refine Sm.oP ?_) | (with_reducible refine Sm.oF ?_) | (with_reducible refine Sm.fP ?_) | (with_reducible refine Sm.fF ?_) | (with_reducible refine Sm.itZ2 ?_) | (with_reducible refine Sm.itZ3 ?_) | (with_reducible refine Sm.itEn ?_) | (with_reducible refine Sm.argX ?_) | (with_reducible refine Sm.repE ?_) | ((with_reducible apply Sm.augI); (focus rfl)) | ((with_reducible refine Sm.dicE ?_ ?_); (focus decide)) | (with_reducible refine Sm.lzE ?_) | (with_reducible refine Sm.itV ?_) | (with_reducible refine Sm.itR3 ?_) | (with_reducible refine Sm.itRv1 ?_) | (with_reducible refine Sm.itRv2 ?_) | ((with_reducible apply Sm.augS); (focus rfl)) | (with_reducible refine Sm.parL3 ?_) | (with_reducible refine iteTT ?_) | (with_reducible refine iteT ?_) | (with_reducible refine iteF ?_) | ((with_reducible refine iteB1 ?_ ?_); (focus rfl)) | ((with_reducible refine iteB0 ?_ ?_); (focus rfl)))))
local macro_rules | `(tactic| walk_at "lw n") => `(tactic| (try dsimp only [ent, List.map, Nat.reduceAdd, Nat.reduceSub, List.length_cons, List.length_nil, List.replicate_succ, List.replicate_zero, List.cons_append, List.nil_append, putBack, setOwn, List.getElem?_cons_zero, List.getElem?_cons_succ, List.set_cons_zero, List.set_cons_succ, Sm.nf]))
local macro_rules | `(tactic| walk_at "lw v") => `(tactic| (try simp only [pb1, pb2, pb3, pb4, pb5, pb6]))
end Lw
-- F2
-- F3
namespace Lw
open PySem PySem.Spec PyProof.Rows L2
local macro_rules | `(tactic| walk_at "lw e") => `(tactic| (repeat (first | (with_reducible apply Exists.intro) | ((with_reducible refine And.intro ?_ ?_); · (first | (with_reducible exact pw_9) | (with_reducible exact pw_12) | (with_reducible exact pw_17) | (with_reducible exact pw_20) | (with_reducible exact pw_60) | (with_reducible exact pw_7) | (with_reducible exact pw_6) | (with_reducible exact pw_15) | (with_reducible exact pw_18) | (with_reducible exact pw_19) | (with_reducible exact pw_30) | (with_reducible exact pw_40) | (with_reducible exact tix0) | (with_reducible exact tix1) | (with_reducible exact tix2) | ((with_reducible apply mul_r); decide) | ((with_reducible apply mul_l); decide) | ((with_reducible apply div_i); decide) | ((with_reducible apply in_R); decide) | ((fail_if_success (with_reducible apply mul_r)); (fail_if_success (with_reducible apply div_i)); (fail_if_success (with_reducible apply dm_int)); (fail_if_success (with_reducible apply in_R)); rfl) | (exact Nat.le_of_ble_eq_true rfl) | (simp [refsOf]; done) | (exact ⟨rfl, rfl, by decide⟩) | (exact ⟨rfl, rfl, rfl⟩) | ((with_reducible apply tgN_o); (focus rfl); (focus (first | assumption | trivial))))) | ((with_reducible apply Sm.vrP); (focus rfl)) | ((with_reducible apply Sm.vrO); (focus rfl)) | (with_reducible refine Sm.cn ?_) | (with_reducible refine Sm.op2 ?_) | (with_reducible refine Sm.argV ?_) | (with_reducible refine Sm.callE ?_) | (with_reducible refine Sm.cal1 ?_) | (with_reducible refine Sm.sq ?_) | (with_reducible refine Sm.asgS ?_) | (with_reducible refine Sm.asg ?_) | (with_reducible refine Sm.retS ?_) | (with_reducible refine Sm.ifS ?_) | (with_reducible refine Sm.argN ?_) | (with_reducible refine Sm.tst ?_) | (with_reducible refine Sm.tupE ?_) | (with_reducible refine Sm.lstE ?_) | (with_reducible refine Sm.isE ?_) | (with_reducible refine Sm.argR ?_) | (with_reducible refine Sm.tru ?_) | (with_reducible refine Sm.andT ?_) | (with_reducible refine Sm.orT ?_) | (with_reducible refine Sm.notT ?_) | (with_reducible refine Sm.andV ?_) | (with_reducible refine Sm.orV ?_) | (with_reducible refine Sm.notV ?_) | (with_reducible refine Sm.negV ?_) | (with_reducible refine Sm.ife ?_) | (with_reducible refine Sm.chn ?_) | (with_reducible refine Sm.callF ?_) | (with_reducible refine Sm.slE ?_) | (with_reducible refine Sm.ptN ?_) | (with_reducible refine Sm.ptS ?_) | (with_reducible refine Sm.revE ?_) | (with_reducible refine Sm.mth ?_) | (with_reducible refine Sm.ret ?_) | (with_reducible refine Sm.esc ?_) | (with_reducible refine Sm.itS ?_) | (with_reducible refine Sm.itR1 ?_) | (with_reducible refine Sm.itR2 ?_) | (with_reducible refine Sm.itE ?_) | (with_reducible refine Sm.itZ ?_) | (with_reducible refine Sm.lcE2 ?_) | (with_reducible refine Sm.pvF ?_) | (with_reducible refine Sm.pvT ?_) | (with_reducible refine Sm.asgO ?_) | (with_reducible refine Sm.exS ?_) | (with_reducible refine Sm.skip ?_) | (with_reducible refine Sm.par2 ?_) | (with_reducible refine Sm.par3 ?_) | (with_reducible refine Sm.forS ?_) | (with_reducible refine Sm.at_nx ?_) | (with_reducible refine Sm.at_rt ?_) | (with_reducible refine Sm.oP ?_) | (with_reducible refine Sm.oF ?_) | (with_reducible refine Sm.fP ?_) | (with_reducible refine Sm.fF ?_) | (with_reducible refine Sm.itZ2 ?_) | (with_reducible refine Sm.itZ3 ?_) | (with_reducible refine Sm.itEn ?_) | (with_reducible refine Sm.argX ?_) | (with_reducible refine Sm.repE ?_) | ((with_reducible apply Sm.augI); (focus rfl)) | ((with_reducible refine Sm.dicE ?_ ?_); (focus decide)) | (with_reducible refine Sm.lzE ?_) | (with_reducible refine Sm.itV ?_) | (with_reducible refine Sm.itR3 ?_) | (with_reducible refine Sm.itRv1 ?_) | (with_reducible refine Sm.itRv2 ?_) | ((with_reducible apply Sm.augS); (focus rfl)) | (with_reducible refine Sm.parL3 ?_) | (with_reducible refine iteTT ?_) | (with_reducible refine iteT ?_) | (with_reducible refine iteF ?_) | ((with_reducible refine iteB1 ?_ ?_); (focus rfl)) | ((with_reducible refine iteB0 ?_ ?_); (focus rfl)))))
local macro_rules | `(tactic| walk_at "lw n") => `(tactic| (try dsimp only [ent, List.map, Nat.reduceAdd, Nat.reduceSub, List.length_cons, List.length_nil, List.replicate_succ, List.replicate_zero, List.cons_append, List.nil_append, putBack, setOwn, List.getElem?_cons_zero, List.getElem?_cons_succ, List.set_cons_zero, List.set_cons_succ, Sm.nf]))
local macro_rules | `(tactic| walk_at "lw v") => `(tactic| (try simp only [pb1, pb2, pb3, pb4]))
def TpF (F : Int) (n p : Nat) : List Int := (List.range n).map fun a => if a = p then -F else F
theorem TpF_len (F : Int) (n p : Nat) : (TpF F n p).length = n := by simp [TpF]
theorem partsF_at {F : Int} {n p i : Nat} (h : i < n) : (TpF F n p ++ [0])[i]? = some (if i = p then -F else F) := by
  rw [List.getElem?_append_left (by rw [TpF_len]; exact h)]
  unfold TpF
  rw [List.getElem?_map, List.getElem?_range h]
  rfl
theorem partsF_end {F : Int} {n p : Nat} : (TpF F n p ++ [0])[n]? = some 0 := by
  rw [List.getElem?_append_right (by rw [TpF_len]; omega), TpF_len, Nat.sub_self]
  rfl
theorem evF_read {F : Int} {B : Nat} (hF : 4 * (B : Int) < F) {n p a : Nat} {row : List Int} {x : Int} (hp : p ≤ n) (ha : a ≤ p) (hr : row.length = n + 1 - a) (hb : ∀ y ∈ row, y.natAbs ≤ B) (hx : row[p - a]? = some x) : ev row ((TpF F n p ++ [0]).drop a) + (if p < n then F else 0) = x := by
  have hxb := hb x (List.mem_of_getElem? hx)
  have key : ∀ y ∈ List.zipWith (· + ·) row ((TpF F n p ++ [0]).drop a), x - (if p < n then F else 0) ≤ y := by
    intro y hy
    obtain ⟨i, hi⟩ := List.mem_iff_getElem?.1 hy
    rw [List.getElem?_zipWith] at hi
    split at hi
    · rename_i u v hu hv
      cases hi
      have hub := hb u (List.mem_of_getElem? hu)
      have hil : i < row.length := (List.getElem?_eq_some_iff.mp hu).1
      rw [List.getElem?_drop] at hv
      by_cases h1 : a + i < n
      · rw [partsF_at h1] at hv
        cases hv
        by_cases h2 : a + i = p
        · have : p - a = i := by omega
          rw [this] at hx
          rw [hx] at hu
          cases hu
          rw [if_pos h2, if_pos (by omega)]
          omega
        · rw [if_neg h2]
          split <;> omega
      · have e : a + i = n := by omega
        rw [e, partsF_end] at hv
        cases hv
        by_cases h2 : p < n
        · rw [if_pos h2]; omega
        · rw [if_neg h2]
          have : p - a = i := by omega
          rw [this] at hx
          rw [hx] at hu
          cases hu
          omega
    · cases hi
  have hget : (List.zipWith (· + ·) row ((TpF F n p ++ [0]).drop a))[p - a]? = some (x - (if p < n then F else 0)) := by
    rw [List.getElem?_zipWith, hx, List.getElem?_drop, show a + (p - a) = p by omega]
    by_cases h : p < n
    · rw [partsF_at h, if_pos rfl, if_pos h]
      rfl
    · rw [show p = n by omega, partsF_end, if_neg (by omega)]
      simp
  unfold ev
  rw [fmin_pick hget key]
  omega
theorem led_get : ∀ (t : Tab) (parts : List Int) (a : Nat), (ledT t parts)[a]? = (t[a]?).map fun r => ev r (parts.drop a)
  | [], _, _ => rfl
  | row :: rows, parts, 0 => rfl
  | row :: rows, parts, a + 1 => by
    show (ledT rows parts.tail)[a]? = _
    rw [led_get rows parts.tail a]
    simp
theorem Shp.rowl : ∀ {n : Nat} {t : Tab}, Shp n t → ∀ {a : Nat} {r : List Int}, t[a]? = some r → r.length = n + 1 - a ∧ a < n
  | 0, _, h, a, r, e => by rw [show _ = [] from h] at e; cases e
  | n + 1, _, ⟨row, rows, e0, h1, h2⟩, 0, r, e => by
    rw [e0] at e
    cases e
    omega
  | n + 1, _, ⟨row, rows, e0, h1, h2⟩, a + 1, r, e => by
    rw [e0] at e
    have := h2.rowl (a := a) e
    omega
theorem tab_bdd (t : Tab) : ∃ B : Nat, ∀ row ∈ t, ∀ x ∈ row, x.natAbs ≤ B := by
  have hr : ∀ r : List Int, ∃ B : Nat, ∀ x ∈ r, x.natAbs ≤ B := by
    intro r
    induction r with
    | nil => exact ⟨0, by simp⟩
    | cons x r ih =>
      obtain ⟨B, hB⟩ := ih
      refine ⟨B + x.natAbs, ?_⟩
      intro y hy
      rcases List.mem_cons.1 hy with rfl | hy
      · omega
      · have := hB y hy; omega
  induction t with
  | nil => exact ⟨0, by simp⟩
  | cons r t ih =>
    obtain ⟨B, hB⟩ := ih
    obtain ⟨C, hC⟩ := hr r
    refine ⟨B + C, ?_⟩
    intro row hrow x hx
    rcases List.mem_cons.1 hrow with rfl | h
    · have := hC x hx; omega
    · have := hB row h x hx; omega
theorem tab_uniq {n : Nat} {t u : Tab} (ht : Shp n t) (hu : Shp n u) (h : ∀ T : List Int, T.length = n → Led t T = Led u T) : t = u := by
  obtain ⟨B, hB⟩ := tab_bdd t
  obtain ⟨C, hC⟩ := tab_bdd u
  refine List.ext_getElem? fun a => ?_
  cases e1 : t[a]? with
  | none =>
    have h1 := List.getElem?_eq_none_iff.1 e1
    rw [ht.len] at h1
    rw [List.getElem?_eq_none_iff.2 (by rw [hu.len]; exact h1)]
  | some r =>
    have ⟨hrl, han⟩ := ht.rowl e1
    have h2 : a < u.length := by rw [hu.len]; exact han
    have e2 : u[a]? = some (u[a]) := List.getElem?_eq_getElem h2
    rw [e2]
    have ⟨hsl, _⟩ := hu.rowl e2
    congr 1
    refine List.ext_getElem? fun j => ?_
    by_cases hj : j < n + 1 - a
    · have e3 : r[j]? = some (r[j]'(by omega)) := List.getElem?_eq_getElem (by omega)
      have e4 : (u[a])[j]? = some ((u[a])[j]'(by omega)) := List.getElem?_eq_getElem (by omega)
      have hT := h (TpF (4 * (B + C) + 1) n (a + j)) (TpF_len _ _ _)
      have g : (Led t (TpF (4 * (B + C) + 1) n (a + j)))[a]? = (Led u (TpF (4 * (B + C) + 1) n (a + j)))[a]? := by rw [hT]
      unfold Led at g
      rw [led_get, led_get, e1, e2] at g
      have g' : ev r (List.drop a (TpF (4 * (B + C) + 1) n (a + j) ++ [0])) = ev (u[a]) (List.drop a (TpF (4 * (B + C) + 1) n (a + j) ++ [0])) := Option.some.inj g
      have k1 := evF_read (F := 4 * (B + C) + 1) (B := B + C) (by omega) (n := n) (p := a + j) (a := a) (by omega) (by omega) hrl (fun y hy => by have := hB r (List.mem_of_getElem? e1) y hy; omega) (by rw [show a + j - a = j by omega]; exact e3)
      have k2 := evF_read (F := 4 * (B + C) + 1) (B := B + C) (by omega) (n := n) (p := a + j) (a := a) (by omega) (by omega) hsl (fun y hy => by have := hC _ (List.mem_of_getElem? e2) y hy; omega) (by rw [show a + j - a = j by omega]; exact e4)
      rw [e3, e4, ← k1, ← k2, g']
    · rw [List.getElem?_eq_none_iff.2 (by omega), List.getElem?_eq_none_iff.2 (by omega)]
/-- u is t, m times (m at least 1) -/
def Pow (n : Nat) (t : Tab) (m : Nat) (u : Tab) : Prop := Shp n u ∧ ∀ T : List Int, T.length = n → Led u T = iter (Led t) m T
theorem Pow.uniq {n m : Nat} {t u v : Tab} (h : Pow n t m u) (h' : Pow n t m v) : u = v := tab_uniq h.1 h'.1 fun T hT => by rw [h.2 T hT, h'.2 T hT]
end Lw
-- F2
-- F3
namespace Lw
open PySem PySem.Spec PyProof.Rows L2
local macro_rules | `(tactic| walk_at "lw e") => `(tactic| (repeat (first | (with_reducible apply Exists.intro) | ((with_reducible refine And.intro ?_ ?_); · (first | (with_reducible exact pw_9) | (with_reducible exact pw_12) | (with_reducible exact pw_17) | (with_reducible exact pw_20) | (with_reducible exact pw_60) | (with_reducible exact pw_7) | (with_reducible exact pw_6) | (with_reducible exact pw_15) | (with_reducible exact pw_18) | (with_reducible exact pw_19) | (with_reducible exact pw_30) | (with_reducible exact pw_40) | (with_reducible exact tix0) | (with_reducible exact tix1) | (with_reducible exact tix2) | ((with_reducible apply mul_r); decide) | ((with_reducible apply mul_l); decide) | ((with_reducible apply div_i); decide) | ((with_reducible apply in_R); decide) | ((fail_if_success (with_reducible apply mul_r)); (fail_if_success (with_reducible apply div_i)); (fail_if_success (with_reducible apply dm_int)); (fail_if_success (with_reducible apply in_R)); rfl) | (exact Nat.le_of_ble_eq_true rfl) | (simp [refsOf]; done) | (exact ⟨rfl, rfl, by decide⟩) | (exact ⟨rfl, rfl, rfl⟩) | ((with_reducible apply tgN_o); (focus rfl); (focus (first | assumption | trivial))))) | ((with_reducible apply Sm.vrP); (focus rfl)) | ((with_reducible apply Sm.vrO); (focus rfl)) | (with_reducible refine Sm.cn ?_) | (with_reducible refine Sm.op2 ?_) | (with_reducible refine Sm.argV ?_) | (with_reducible refine Sm.callE ?_) | (with_reducible refine Sm.cal1 ?_) | (with_reducible refine Sm.sq ?_) | (with_reducible refine Sm.asgS ?_) | (with_reducible refine Sm.asg ?_) | (with_reducible refine Sm.retS ?_) | (with_reducible refine Sm.ifS ?_) | (with_reducible refine Sm.argN ?_) | (with_reducible refine Sm.tst ?_) | (with_reducible refine Sm.tupE ?_) | (with_reducible refine Sm.lstE ?_) | (with_reducible refine Sm.isE ?_) | (with_reducible refine Sm.argR ?_) | (with_reducible refine Sm.tru ?_) | (with_reducible refine Sm.andT ?_) | (with_reducible refine Sm.orT ?_) | (with_reducible refine Sm.notT ?_) | (with_reducible refine Sm.andV ?_) | (with_reducible refine Sm.orV ?_) | (with_reducible refine Sm.notV ?_) | (with_reducible refine Sm.negV ?_) | (with_reducible refine Sm.ife ?_) | (with_reducible refine Sm.chn ?_) | (with_reducible refine Sm.callF ?_) | (with_reducible refine Sm.slE ?_) | (with_reducible refine Sm.ptN ?_) | (with_reducible refine Sm.ptS ?_) | (with_reducible refine Sm.revE ?_) | (with_reducible refine Sm.mth ?_) | (with_reducible refine Sm.ret ?_) | (with_reducible refine Sm.esc ?_) | (with_reducible refine Sm.itS ?_) | (with_reducible refine Sm.itR1 ?_) | (with_reducible refine Sm.itR2 ?_) | (with_reducible refine Sm.itE ?_) | (with_reducible refine Sm.itZ ?_) | (with_reducible refine Sm.lcE2 ?_) | (with_reducible refine Sm.pvF ?_) | (with_reducible refine Sm.pvT ?_) | (with_reducible refine Sm.asgO ?_) | (with_reducible refine Sm.exS ?_) | (with_reducible refine Sm.skip ?_) | (with_reducible refine Sm.par2 ?_) | (with_reducible refine Sm.par3 ?_) | (with_reducible refine Sm.forS ?_) | (with_reducible refine Sm.at_nx ?_) | (with_reducible refine Sm.at_rt ?_) | (with_reducible refine Sm.oP ?_) | (with_reducible refine Sm.oF ?_) | (with_reducible refine Sm.fP ?_) | (with_reducible refine Sm.fF ?_) | (with_reducible refine Sm.itZ2 ?_) | (with_reducible refine Sm.itZ3 ?_) | (with_reducible refine Sm.itEn ?_) | (with_reducible refine Sm.argX ?_) | (with_reducible refine Sm.repE ?_) | ((with_reducible apply Sm.augI); (focus rfl)) | ((with_reducible refine Sm.dicE ?_ ?_); (focus decide)) | (with_reducible refine Sm.lzE ?_) | (with_reducible refine Sm.itV ?_) | (with_reducible refine Sm.itR3 ?_) | (with_reducible refine Sm.itRv1 ?_) | (with_reducible refine Sm.itRv2 ?_) | ((with_reducible apply Sm.augS); (focus rfl)) | (with_reducible refine Sm.parL3 ?_) | (with_reducible refine iteTT ?_) | (with_reducible refine iteT ?_) | (with_reducible refine iteF ?_) | ((with_reducible refine iteB1 ?_ ?_); (focus rfl)) | ((with_reducible refine iteB0 ?_ ?_); (focus rfl)))))
local macro_rules | `(tactic| walk_at "lw n") => `(tactic| (try dsimp only [ent, List.map, Nat.reduceAdd, Nat.reduceSub, List.length_cons, List.length_nil, List.replicate_succ, List.replicate_zero, List.cons_append, List.nil_append, putBack, setOwn, List.getElem?_cons_zero, List.getElem?_cons_succ, List.set_cons_zero, List.set_cons_succ, Sm.nf]))
local macro_rules | `(tactic| walk_at "lw v") => `(tactic| (try simp only [pb1, pb2, pb3, pb4]))
def bl (m : Nat) : List Nat := (List.range (dn m)).filter (bit m)
end Lw
-- F2
-- F3
namespace Lw
open PySem PySem.Spec PyProof.Rows L2
local macro_rules | `(tactic| walk_at "lw e") => `(tactic| (repeat (first | (with_reducible apply Exists.intro) | ((with_reducible refine And.intro ?_ ?_); · (first | (with_reducible exact pw_9) | (with_reducible exact pw_12) | (with_reducible exact pw_17) | (with_reducible exact pw_20) | (with_reducible exact pw_60) | (with_reducible exact pw_7) | (with_reducible exact pw_6) | (with_reducible exact pw_15) | (with_reducible exact pw_18) | (with_reducible exact pw_19) | (with_reducible exact pw_30) | (with_reducible exact pw_40) | (with_reducible exact tix0) | (with_reducible exact tix1) | (with_reducible exact tix2) | ((with_reducible apply mul_r); decide) | ((with_reducible apply mul_l); decide) | ((with_reducible apply div_i); decide) | ((with_reducible apply in_R); decide) | ((fail_if_success (with_reducible apply mul_r)); (fail_if_success (with_reducible apply div_i)); (fail_if_success (with_reducible apply dm_int)); (fail_if_success (with_reducible apply in_R)); rfl) | (exact Nat.le_of_ble_eq_true rfl) | (simp [refsOf]; done) | (exact ⟨rfl, rfl, by decide⟩) | (exact ⟨rfl, rfl, rfl⟩) | ((with_reducible apply tgN_o); (focus rfl); (focus (first | assumption | trivial))))) | ((with_reducible apply Sm.vrP); (focus rfl)) | ((with_reducible apply Sm.vrO); (focus rfl)) | (with_reducible refine Sm.cn ?_) | (with_reducible refine Sm.op2 ?_) | (with_reducible refine Sm.argV ?_) | (with_reducible refine Sm.callE ?_) | (with_reducible refine Sm.cal1 ?_) | (with_reducible refine Sm.sq ?_) | (with_reducible refine Sm.asgS ?_) | (with_reducible refine Sm.asg ?_) | (with_reducible refine Sm.retS ?_) | (with_reducible refine Sm.ifS ?_) | (with_reducible refine Sm.argN ?_) | (with_reducible refine Sm.tst ?_) | (with_reducible refine Sm.tupE ?_) | (with_reducible refine Sm.lstE ?_) | (with_reducible refine Sm.isE ?_) | (with_reducible refine Sm.argR ?_) | (with_reducible refine Sm.tru ?_) | (with_reducible refine Sm.andT ?_) | (with_reducible refine Sm.orT ?_) | (with_reducible refine Sm.notT ?_) | (with_reducible refine Sm.andV ?_) | (with_reducible refine Sm.orV ?_) | (with_reducible refine Sm.notV ?_) | (with_reducible refine Sm.negV ?_) | (with_reducible refine Sm.ife ?_) | (with_reducible refine Sm.chn ?_) | (with_reducible refine Sm.callF ?_) | (with_reducible refine Sm.slE ?_) | (with_reducible refine Sm.ptN ?_) | (with_reducible refine Sm.ptS ?_) | (with_reducible refine Sm.revE ?_) | (with_reducible refine Sm.mth ?_) | (with_reducible refine Sm.ret ?_) | (with_reducible refine Sm.esc ?_) | (with_reducible refine Sm.itS ?_) | (with_reducible refine Sm.itR1 ?_) | (with_reducible refine Sm.itR2 ?_) | (with_reducible refine Sm.itE ?_) | (with_reducible refine Sm.itZ ?_) | (with_reducible refine Sm.lcE2 ?_) | (with_reducible refine Sm.pvF ?_) | (with_reducible refine Sm.pvT ?_) | (with_reducible refine Sm.asgO ?_) | (with_reducible refine Sm.exS ?_) | (with_reducible refine Sm.skip ?_) | (with_reducible refine Sm.par2 ?_) | (with_reducible refine Sm.par3 ?_) | (with_reducible refine Sm.forS ?_) | (with_reducible refine Sm.at_nx ?_) | (with_reducible refine Sm.at_rt ?_) | (with_reducible refine Sm.oP ?_) | (with_reducible refine Sm.oF ?_) | (with_reducible refine Sm.fP ?_) | (with_reducible refine Sm.fF ?_) | (with_reducible refine Sm.itZ2 ?_) | (with_reducible refine Sm.itZ3 ?_) | (with_reducible refine Sm.itEn ?_) | (with_reducible refine Sm.argX ?_) | (with_reducible refine Sm.repE ?_) | ((with_reducible apply Sm.augI); (focus rfl)) | ((with_reducible refine Sm.dicE ?_ ?_); (focus decide)) | (with_reducible refine Sm.lzE ?_) | (with_reducible refine Sm.itV ?_) | (with_reducible refine Sm.itR3 ?_) | (with_reducible refine Sm.itRv1 ?_) | (with_reducible refine Sm.itRv2 ?_) | ((with_reducible apply Sm.augS); (focus rfl)) | (with_reducible refine Sm.parL3 ?_) | (with_reducible refine iteTT ?_) | (with_reducible refine iteT ?_) | (with_reducible refine iteF ?_) | ((with_reducible refine iteB1 ?_ ?_); (focus rfl)) | ((with_reducible refine iteB0 ?_ ?_); (focus rfl)))))
local macro_rules | `(tactic| walk_at "lw n") => `(tactic| (try dsimp only [ent, List.map, Nat.reduceAdd, Nat.reduceSub, List.length_cons, List.length_nil, List.replicate_succ, List.replicate_zero, List.cons_append, List.nil_append, putBack, setOwn, List.getElem?_cons_zero, List.getElem?_cons_succ, List.set_cons_zero, List.set_cons_succ, Sm.nf]))
local macro_rules | `(tactic| walk_at "lw v") => `(tactic| (try simp only [pb1, pb2, pb3, pb4]))
end Lw
-- F2
-- F3
namespace Lw
open PySem PySem.Spec PyProof.Rows L2
local macro_rules | `(tactic| walk_at "lw e") => `(tactic| (repeat (first | (with_reducible apply Exists.intro) | ((with_reducible refine And.intro ?_ ?_); · (first | (with_reducible exact pw_9) | (with_reducible exact pw_12) | (with_reducible exact pw_17) | (with_reducible exact pw_20) | (with_reducible exact pw_60) | (with_reducible exact pw_7) | (with_reducible exact pw_6) | (with_reducible exact pw_15) | (with_reducible exact pw_18) | (with_reducible exact pw_19) | (with_reducible exact pw_30) | (with_reducible exact pw_40) | (with_reducible exact tix0) | (with_reducible exact tix1) | (with_reducible exact tix2) | ((with_reducible apply mul_r); decide) | ((with_reducible apply mul_l); decide) | ((with_reducible apply div_i); decide) | ((with_reducible apply in_R); decide) | ((fail_if_success (with_reducible apply mul_r)); (fail_if_success (with_reducible apply div_i)); (fail_if_success (with_reducible apply dm_int)); (fail_if_success (with_reducible apply in_R)); rfl) | (exact Nat.le_of_ble_eq_true rfl) | (simp [refsOf]; done) | (exact ⟨rfl, rfl, by decide⟩) | (exact ⟨rfl, rfl, rfl⟩) | ((with_reducible apply tgN_o); (focus rfl); (focus (first | assumption | trivial))))) | ((with_reducible apply Sm.vrP); (focus rfl)) | ((with_reducible apply Sm.vrO); (focus rfl)) | (with_reducible refine Sm.cn ?_) | (with_reducible refine Sm.op2 ?_) | (with_reducible refine Sm.argV ?_) | (with_reducible refine Sm.callE ?_) | (with_reducible refine Sm.cal1 ?_) | (with_reducible refine Sm.sq ?_) | (with_reducible refine Sm.asgS ?_) | (with_reducible refine Sm.asg ?_) | (with_reducible refine Sm.retS ?_) | (with_reducible refine Sm.ifS ?_) | (with_reducible refine Sm.argN ?_) | (with_reducible refine Sm.tst ?_) | (with_reducible refine Sm.tupE ?_) | (with_reducible refine Sm.lstE ?_) | (with_reducible refine Sm.isE ?_) | (with_reducible refine Sm.argR ?_) | (with_reducible refine Sm.tru ?_) | (with_reducible refine Sm.andT ?_) | (with_reducible refine Sm.orT ?_) | (with_reducible refine Sm.notT ?_) | (with_reducible refine Sm.andV ?_) | (with_reducible refine Sm.orV ?_) | (with_reducible refine Sm.notV ?_) | (with_reducible refine Sm.negV ?_) | (with_reducible refine Sm.ife ?_) | (with_reducible refine Sm.chn ?_) | (with_reducible refine Sm.callF ?_) | (with_reducible refine Sm.slE ?_) | (with_reducible refine Sm.ptN ?_) | (with_reducible refine Sm.ptS ?_) | (with_reducible refine Sm.revE ?_) | (with_reducible refine Sm.mth ?_) | (with_reducible refine Sm.ret ?_) | (with_reducible refine Sm.esc ?_) | (with_reducible refine Sm.itS ?_) | (with_reducible refine Sm.itR1 ?_) | (with_reducible refine Sm.itR2 ?_) | (with_reducible refine Sm.itE ?_) | (with_reducible refine Sm.itZ ?_) | (with_reducible refine Sm.lcE2 ?_) | (with_reducible refine Sm.pvF ?_) | (with_reducible refine Sm.pvT ?_) | (with_reducible refine Sm.asgO ?_) | (with_reducible refine Sm.exS ?_) | (with_reducible refine Sm.skip ?_) | (with_reducible refine Sm.par2 ?_) | (with_reducible refine Sm.par3 ?_) | (with_reducible refine Sm.forS ?_) | (with_reducible refine Sm.at_nx ?_) | (with_reducible refine Sm.at_rt ?_) | (with_reducible refine Sm.oP ?_) | (with_reducible refine Sm.oF ?_) | (with_reducible refine Sm.fP ?_) | (with_reducible refine Sm.fF ?_) | (with_reducible refine Sm.itZ2 ?_) | (with_reducible refine Sm.itZ3 ?_) | (with_reducible refine Sm.itEn ?_) | (with_reducible refine Sm.argX ?_) | (with_reducible refine Sm.repE ?_) | ((with_reducible apply Sm.augI); (focus rfl)) | ((with_reducible refine Sm.dicE ?_ ?_); (focus decide)) | (with_reducible refine Sm.lzE ?_) | (with_reducible refine Sm.itV ?_) | (with_reducible refine Sm.itR3 ?_) | (with_reducible refine Sm.itRv1 ?_) | (with_reducible refine Sm.itRv2 ?_) | ((with_reducible apply Sm.augS); (focus rfl)) | (with_reducible refine Sm.parL3 ?_) | (with_reducible refine iteTT ?_) | (with_reducible refine iteT ?_) | (with_reducible refine iteF ?_) | ((with_reducible refine iteB1 ?_ ?_); (focus rfl)) | ((with_reducible refine iteB0 ?_ ?_); (focus rfl)))))
local macro_rules | `(tactic| walk_at "lw n") => `(tactic| (try dsimp only [ent, List.map, Nat.reduceAdd, Nat.reduceSub, List.length_cons, List.length_nil, List.replicate_succ, List.replicate_zero, List.cons_append, List.nil_append, putBack, setOwn, List.getElem?_cons_zero, List.getElem?_cons_succ, List.set_cons_zero, List.set_cons_succ, Sm.nf]))
local macro_rules | `(tactic| walk_at "lw v") => `(tactic| (try simp only [pb1, pb2, pb3, pb4]))
end Lw
-- F2
-- F3
namespace Lw
open PySem PySem.Spec PyProof.Rows L2
local macro_rules | `(tactic| walk_at "lw e") => `(tactic| (repeat (first | (with_reducible apply Exists.intro) | ((with_reducible refine And.intro ?_ ?_); · (first | (with_reducible exact pw_9) | (with_reducible exact pw_12) | (with_reducible exact pw_17) | (with_reducible exact pw_20) | (with_reducible exact pw_60) | (with_reducible exact pw_7) | (with_reducible exact pw_6) | (with_reducible exact pw_15) | (with_reducible exact pw_18) | (with_reducible exact pw_19) | (with_reducible exact pw_30) | (with_reducible exact pw_40) | (with_reducible exact tix0) | (with_reducible exact tix1) | (with_reducible exact tix2) | ((with_reducible apply mul_r); decide) | ((with_reducible apply mul_l); decide) | ((with_reducible apply div_i); decide) | ((with_reducible apply in_R); decide) | ((fail_if_success (with_reducible apply mul_r)); (fail_if_success (with_reducible apply div_i)); (fail_if_success (with_reducible apply dm_int)); (fail_if_success (with_reducible apply in_R)); rfl) | (exact Nat.le_of_ble_eq_true rfl) | (simp [refsOf]; done) | (exact ⟨rfl, rfl, by decide⟩) | (exact ⟨rfl, rfl, rfl⟩) | ((with_reducible apply tgN_o); (focus rfl); (focus (first | assumption | trivial))))) | ((with_reducible apply Sm.vrP); (focus rfl)) | ((with_reducible apply Sm.vrO); (focus rfl)) | (with_reducible refine Sm.cn ?_) | (with_reducible refine Sm.op2 ?_) | (with_reducible refine Sm.argV ?_) | (with_reducible refine Sm.callE ?_) | (with_reducible refine Sm.cal1 ?_) | (with_reducible refine Sm.sq ?_) | (with_reducible refine Sm.asgS ?_) | (with_reducible refine Sm.asg ?_) | (with_reducible refine Sm.retS ?_) | (with_reducible refine Sm.ifS ?_) | (with_reducible refine Sm.argN ?_) | (with_reducible refine Sm.tst ?_) | (with_reducible refine Sm.tupE ?_) | (with_reducible refine Sm.lstE ?_) | (with_reducible refine Sm.isE ?_) | (with_reducible refine Sm.argR ?_) | (with_reducible refine Sm.tru ?_) | (with_reducible refine Sm.andT ?_) | (with_reducible refine Sm.orT ?_) | (with_reducible refine Sm.notT ?_) | (with_reducible refine Sm.andV ?_) | (with_reducible refine Sm.orV ?_) | (with_reducible refine Sm.notV ?_) | (with_reducible refine Sm.negV ?_) | (with_reducible refine Sm.ife ?_) | (with_reducible refine Sm.chn ?_) | (with_reducible refine Sm.callF ?_) | (with_reducible refine Sm.slE ?_) | (with_reducible refine Sm.ptN ?_) | (with_reducible refine Sm.ptS ?_) | (with_reducible refine Sm.revE ?_) | (with_reducible refine Sm.mth ?_) | (with_reducible refine Sm.ret ?_) | (with_reducible refine Sm.esc ?_) | (with_reducible refine Sm.itS ?_) | (with_reducible refine Sm.itR1 ?_) | (with_reducible refine Sm.itR2 ?_) | (with_reducible refine Sm.itE ?_) | (with_reducible refine Sm.itZ ?_) | (with_reducible refine Sm.lcE2 ?_) | (with_reducible refine Sm.pvF ?_) | (with_reducible refine Sm.pvT ?_) | (with_reducible refine Sm.asgO ?_) | (with_reducible refine Sm.exS ?_) | (with_reducible refine Sm.skip ?_) | (with_reducible refine Sm.par2 ?_) | (with_reducible refine Sm.par3 ?_) | (with_reducible refine Sm.forS ?_) | (with_reducible refine Sm.at_nx ?_) | (with_reducible refine Sm.at_rt ?_) | (with_reducible refine Sm.oP ?_) | (with_reducible refine Sm.oF ?_) | (with_reducible refine Sm.fP ?_) | (with_reducible refine Sm.fF ?_) | (with_reducible refine Sm.itZ2 ?_) | (with_reducible refine Sm.itZ3 ?_) | (with_reducible refine Sm.itEn ?_) | (with_reducible refine Sm.argX ?_) | (with_reducible refine Sm.repE ?_) | ((with_reducible apply Sm.augI); (focus rfl)) | ((with_reducible refine Sm.dicE ?_ ?_); (focus decide)) | (with_reducible refine Sm.lzE ?_) | (with_reducible refine Sm.itV ?_) | (with_reducible refine Sm.itR3 ?_) | (with_reducible refine Sm.itRv1 ?_) | (with_reducible refine Sm.itRv2 ?_) | ((with_reducible apply Sm.augS); (focus rfl)) | (with_reducible refine Sm.parL3 ?_) | (with_reducible refine iteTT ?_) | (with_reducible refine iteT ?_) | (with_reducible refine iteF ?_) | ((with_reducible refine iteB1 ?_ ?_); (focus rfl)) | ((with_reducible refine iteB0 ?_ ?_); (focus rfl)))))
local macro_rules | `(tactic| walk_at "lw n") => `(tactic| (try dsimp only [ent, List.map, Nat.reduceAdd, Nat.reduceSub, List.length_cons, List.length_nil, List.replicate_succ, List.replicate_zero, List.cons_append, List.nil_append, putBack, setOwn, List.getElem?_cons_zero, List.getElem?_cons_succ, List.set_cons_zero, List.set_cons_succ, Sm.nf]))
local macro_rules | `(tactic| walk_at "lw v") => `(tactic| (try simp only [pb1, pb2, pb3, pb4]))
/-- the deed as the upper part of a cut stair knows it -/
def Dd.dn (c : Nat) : Dd → Dd
  | .fill l => .fill (l - c)
  | .empty l => .empty (l - c)
  | .raise l m => .raise (l - c) m
  | .lower l m => .lower (l - c) m
end Lw
-- F2
-- F3
-- F4
namespace Lw
open PySem PySem.Spec PyProof.Rows L2
local macro_rules | `(tactic| walk_at "lw e") => `(tactic| (repeat (first | (with_reducible apply Exists.intro) | ((with_reducible refine And.intro ?_ ?_); · (first | (with_reducible exact pw_9) | (with_reducible exact pw_12) | (with_reducible exact pw_17) | (with_reducible exact pw_20) | (with_reducible exact pw_60) | (with_reducible exact pw_4) | (with_reducible exact pw_11) | (with_reducible exact pw_13) | (with_reducible exact pw_14) | (with_reducible exact pw_16) | (with_reducible exact pw_7) | (with_reducible exact pw_6) | (with_reducible exact pw_15) | (with_reducible exact pw_18) | (with_reducible exact pw_19) | (with_reducible exact pw_30) | (with_reducible exact pw_40) | (with_reducible exact tix0) | (with_reducible exact tix1) | (with_reducible exact tix2) | ((with_reducible apply mul_r); decide) | ((with_reducible apply mul_l); decide) | ((with_reducible apply div_i); decide) | ((with_reducible apply in_R); decide) | ((fail_if_success (with_reducible apply mul_r)); (fail_if_success (with_reducible apply div_i)); (fail_if_success (with_reducible apply dm_int)); (fail_if_success (with_reducible apply in_R)); rfl) | (exact Nat.le_of_ble_eq_true rfl) | (simp [refsOf]; done) | (exact ⟨rfl, rfl, by decide⟩) | (exact ⟨rfl, rfl, rfl⟩) | ((with_reducible apply tgN_o); (focus rfl); (focus (first | assumption | trivial))))) | ((with_reducible apply Sm.vrP); (focus rfl)) | ((with_reducible apply Sm.vrO); (focus rfl)) | (with_reducible refine Sm.cn ?_) | (with_reducible refine Sm.op2 ?_) | (with_reducible refine Sm.argV ?_) | (with_reducible refine Sm.callE ?_) | (with_reducible refine Sm.cal1 ?_) | (with_reducible refine Sm.sq ?_) | (with_reducible refine Sm.asgS ?_) | (with_reducible refine Sm.asg ?_) | (with_reducible refine Sm.retS ?_) | (with_reducible refine Sm.ifS ?_) | (with_reducible refine Sm.argN ?_) | (with_reducible refine Sm.tst ?_) | (with_reducible refine Sm.tupE ?_) | (with_reducible refine Sm.lstE ?_) | (with_reducible refine Sm.isE ?_) | (with_reducible refine Sm.argR ?_) | (with_reducible refine Sm.tru ?_) | (with_reducible refine Sm.andT ?_) | (with_reducible refine Sm.orT ?_) | (with_reducible refine Sm.notT ?_) | (with_reducible refine Sm.andV ?_) | (with_reducible refine Sm.orV ?_) | (with_reducible refine Sm.notV ?_) | (with_reducible refine Sm.negV ?_) | (with_reducible refine Sm.ife ?_) | (with_reducible refine Sm.chn ?_) | (with_reducible refine Sm.callF ?_) | (with_reducible refine Sm.slE ?_) | (with_reducible refine Sm.ptN ?_) | (with_reducible refine Sm.ptS ?_) | (with_reducible refine Sm.revE ?_) | (with_reducible refine Sm.mth ?_) | (with_reducible refine Sm.ret ?_) | (with_reducible refine Sm.esc ?_) | (with_reducible refine Sm.itS ?_) | (with_reducible refine Sm.itR1 ?_) | (with_reducible refine Sm.itR2 ?_) | (with_reducible refine Sm.itE ?_) | (with_reducible refine Sm.itZ ?_) | (with_reducible refine Sm.lcE2 ?_) | (with_reducible refine Sm.pvF ?_) | (with_reducible refine Sm.pvT ?_) | (with_reducible refine Sm.asgO ?_) | (with_reducible refine Sm.exS ?_) | (with_reducible refine Sm.skip ?_) | (with_reducible refine Sm.par2 ?_) | (with_reducible refine Sm.par3 ?_) | (with_reducible refine Sm.forS ?_) | (with_reducible refine Sm.at_nx ?_) | (with_reducible refine Sm.at_rt ?_) | (with_reducible refine Sm.oP ?_) | (with_reducible refine Sm.oF ?_) | (with_reducible refine Sm.fP ?_) | (with_reducible refine Sm.fF ?_) | (with_reducible refine Sm.itZ2 ?_) | (with_reducible refine Sm.itZ3 ?_) | (with_reducible refine Sm.itEn ?_) | (with_reducible refine Sm.argX ?_) | (with_reducible refine Sm.repE ?_) | ((with_reducible apply Sm.augI); (focus rfl)) | ((with_reducible refine Sm.dicE ?_ ?_); (focus decide)) | (with_reducible refine Sm.lzE ?_) | (with_reducible refine Sm.itV ?_) | (with_reducible refine Sm.itR3 ?_) | (with_reducible refine Sm.itRv1 ?_) | (with_reducible refine Sm.itRv2 ?_) | ((with_reducible apply Sm.augS); (focus rfl)) | (with_reducible refine Sm.parL3 ?_) | (with_reducible refine iteTT ?_) | (with_reducible refine iteT ?_) | (with_reducible refine iteF ?_) | ((with_reducible refine iteB1 ?_ ?_); (focus rfl)) | ((with_reducible refine iteB0 ?_ ?_); (focus rfl)))))
local macro_rules | `(tactic| walk_at "lw n") => `(tactic| (try dsimp only [ent, List.map, Nat.reduceAdd, Nat.reduceSub, List.length_cons, List.length_nil, List.replicate_succ, List.replicate_zero, List.cons_append, List.nil_append, putBack, setOwn, List.getElem?_cons_zero, List.getElem?_cons_succ, List.set_cons_zero, List.set_cons_succ, Sm.nf]))
local macro_rules | `(tactic| walk_at "lw v") => `(tactic| (try simp only [pb1, pb2, pb3, pb4, pb5, pb6]))
/-- levels from the least to the most -/
def Within (ps : List P3) (ls : List Int) : Prop := Below ps ls ∧ ∀ z ∈ ps.zip ls, z.1.1 ≤ z.2
theorem Within.len {ps : List P3} {ls : List Int} (h : Within ps ls) : ls.length = ps.length := h.1.1
theorem zip_ix {α β : Type} {xs : List α} {ys : List β} {z : α × β} (h : z ∈ xs.zip ys) : ∃ i : Nat, xs[i]? = some z.1 ∧ ys[i]? = some z.2 := by
  obtain ⟨i, hi⟩ := List.mem_iff_getElem?.1 h
  exact ⟨i, List.getElem?_zip_eq_some.1 hi⟩
theorem Within.at {ps : List P3} {ls : List Int} (h : Within ps ls) {i : Nat} {p : P3} {l : Int} (h1 : ps[i]? = some p) (h2 : ls[i]? = some l) : p.1 ≤ l ∧ l ≤ p.2.1 := by
  have hm : (p, l) ∈ ps.zip ls := List.mem_of_getElem? (List.getElem?_zip_eq_some (z := (p, l)).2 ⟨h1, h2⟩)
  exact ⟨h.2 _ hm, h.1.2 _ hm⟩
theorem Within.bd {g : Nat} (hg : g ≤ 1000000000000000) {ps : List P3} {ls : List Int} (h : Within ps ls) (hp : ∀ p ∈ ps, PoundI g p) : ∀ l ∈ ls, 0 ≤ l ∧ l ≤ 40000000000000000 := by
  intro l hm
  obtain ⟨i, hi⟩ := List.mem_iff_getElem?.1 hm
  have hl : i < ps.length := by have := (List.getElem?_eq_some_iff.mp hi).1; have := h.len; omega
  have := h.at (List.getElem?_eq_getElem hl) hi
  have := pound_b hg (hp _ (List.getElem_mem hl))
  omega
theorem down_on {ps : List P3} (hz : ∀ l : Nat, 1 ≤ l → l ≤ ps.length → 1 ≤ sz ps l) {d : Dd} (ho : d.On ps.length) : Down ps d := by
  intro h
  obtain ⟨h0, h1⟩ := ho
  cases d with
  | fill l => have h0 : 1 ≤ l := h0; show (1 : Int) ≤ (l : Int); omega
  | empty l => have := hz l h0 h1; have h : sz ps l < 0 := h; omega
  | raise l m => have h0 : 1 ≤ l := h0; show (1 : Int) ≤ (l : Int); omega
  | lower l m => have h0 : 1 ≤ l := h0; show (1 : Int) ≤ (l : Int); omega
theorem down_pi {g : Nat} (hg1 : 1 ≤ g) (hg : g ≤ 1000000000000000) {ps : List P3} (hp : ∀ p ∈ ps, PoundI g p) {d : Dd} (ho : d.On ps.length) : Down ps d := down_on (fun l h0 h1 => (sz_b hg1 hg hp h0 h1).1) ho
end Lw
-- F2
-- F3
-- F4
namespace Lw
open PySem PySem.Spec PyProof.Rows L2
local macro_rules | `(tactic| walk_at "lw e") => `(tactic| (repeat (first | (with_reducible apply Exists.intro) | ((with_reducible refine And.intro ?_ ?_); · (first | (with_reducible exact pw_9) | (with_reducible exact pw_12) | (with_reducible exact pw_17) | (with_reducible exact pw_20) | (with_reducible exact pw_60) | (with_reducible exact pw_4) | (with_reducible exact pw_11) | (with_reducible exact pw_13) | (with_reducible exact pw_14) | (with_reducible exact pw_16) | (with_reducible exact pw_7) | (with_reducible exact pw_6) | (with_reducible exact pw_15) | (with_reducible exact pw_18) | (with_reducible exact pw_19) | (with_reducible exact pw_30) | (with_reducible exact pw_40) | (with_reducible exact tix0) | (with_reducible exact tix1) | (with_reducible exact tix2) | ((with_reducible apply mul_r); decide) | ((with_reducible apply mul_l); decide) | ((with_reducible apply div_i); decide) | ((with_reducible apply in_R); decide) | ((fail_if_success (with_reducible apply mul_r)); (fail_if_success (with_reducible apply div_i)); (fail_if_success (with_reducible apply dm_int)); (fail_if_success (with_reducible apply in_R)); rfl) | (exact Nat.le_of_ble_eq_true rfl) | (simp [refsOf]; done) | (exact ⟨rfl, rfl, by decide⟩) | (exact ⟨rfl, rfl, rfl⟩) | ((with_reducible apply tgN_o); (focus rfl); (focus (first | assumption | trivial))))) | ((with_reducible apply Sm.vrP); (focus rfl)) | ((with_reducible apply Sm.vrO); (focus rfl)) | (with_reducible refine Sm.cn ?_) | (with_reducible refine Sm.op2 ?_) | (with_reducible refine Sm.argV ?_) | (with_reducible refine Sm.callE ?_) | (with_reducible refine Sm.cal1 ?_) | (with_reducible refine Sm.sq ?_) | (with_reducible refine Sm.asgS ?_) | (with_reducible refine Sm.asg ?_) | (with_reducible refine Sm.retS ?_) | (with_reducible refine Sm.ifS ?_) | (with_reducible refine Sm.argN ?_) | (with_reducible refine Sm.tst ?_) | (with_reducible refine Sm.tupE ?_) | (with_reducible refine Sm.lstE ?_) | (with_reducible refine Sm.isE ?_) | (with_reducible refine Sm.argR ?_) | (with_reducible refine Sm.tru ?_) | (with_reducible refine Sm.andT ?_) | (with_reducible refine Sm.orT ?_) | (with_reducible refine Sm.notT ?_) | (with_reducible refine Sm.andV ?_) | (with_reducible refine Sm.orV ?_) | (with_reducible refine Sm.notV ?_) | (with_reducible refine Sm.negV ?_) | (with_reducible refine Sm.ife ?_) | (with_reducible refine Sm.chn ?_) | (with_reducible refine Sm.callF ?_) | (with_reducible refine Sm.slE ?_) | (with_reducible refine Sm.ptN ?_) | (with_reducible refine Sm.ptS ?_) | (with_reducible refine Sm.revE ?_) | (with_reducible refine Sm.mth ?_) | (with_reducible refine Sm.ret ?_) | (with_reducible refine Sm.esc ?_) | (with_reducible refine Sm.itS ?_) | (with_reducible refine Sm.itR1 ?_) | (with_reducible refine Sm.itR2 ?_) | (with_reducible refine Sm.itE ?_) | (with_reducible refine Sm.itZ ?_) | (with_reducible refine Sm.lcE2 ?_) | (with_reducible refine Sm.pvF ?_) | (with_reducible refine Sm.pvT ?_) | (with_reducible refine Sm.asgO ?_) | (with_reducible refine Sm.exS ?_) | (with_reducible refine Sm.skip ?_) | (with_reducible refine Sm.par2 ?_) | (with_reducible refine Sm.par3 ?_) | (with_reducible refine Sm.forS ?_) | (with_reducible refine Sm.at_nx ?_) | (with_reducible refine Sm.at_rt ?_) | (with_reducible refine Sm.oP ?_) | (with_reducible refine Sm.oF ?_) | (with_reducible refine Sm.fP ?_) | (with_reducible refine Sm.fF ?_) | (with_reducible refine Sm.itZ2 ?_) | (with_reducible refine Sm.itZ3 ?_) | (with_reducible refine Sm.itEn ?_) | (with_reducible refine Sm.argX ?_) | (with_reducible refine Sm.repE ?_) | ((with_reducible apply Sm.augI); (focus rfl)) | ((with_reducible refine Sm.dicE ?_ ?_); (focus decide)) | (with_reducible refine Sm.lzE ?_) | (with_reducible refine Sm.itV ?_) | (with_reducible refine Sm.itR3 ?_) | (with_reducible refine Sm.itRv1 ?_) | (with_reducible refine Sm.itRv2 ?_) | ((with_reducible apply Sm.augS); (focus rfl)) | (with_reducible refine Sm.parL3 ?_) | (with_reducible refine iteTT ?_) | (with_reducible refine iteT ?_) | (with_reducible refine iteF ?_) | ((with_reducible refine iteB1 ?_ ?_); (focus rfl)) | ((with_reducible refine iteB0 ?_ ?_); (focus rfl)))))
local macro_rules | `(tactic| walk_at "lw n") => `(tactic| (try dsimp only [ent, List.map, Nat.reduceAdd, Nat.reduceSub, List.length_cons, List.length_nil, List.replicate_succ, List.replicate_zero, List.cons_append, List.nil_append, putBack, setOwn, List.getElem?_cons_zero, List.getElem?_cons_succ, List.set_cons_zero, List.set_cons_succ, Sm.nf]))
local macro_rules | `(tactic| walk_at "lw v") => `(tactic| (try simp only [pb1, pb2, pb3, pb4, pb5, pb6]))
/-! ### raises -/
theorem ovT_hd_le {b : Int} (hb : 0 ≤ b) : ∀ (ps : List P3) (T : List Int) (c : Nat), (ovT ps (addPre c b T)).headD 0 ≤ (ovT ps T).headD 0 + b
  | [], T, c => by
    have e : ∀ U : List Int, ovT [] U = [] := fun U => by cases U <;> rfl
    rw [e, e]; show (0 : Int) ≤ 0 + b; omega
  | p :: ps, [], c => by cases c <;> (show (0 : Int) ≤ 0 + b; omega)
  | p :: ps, t :: T, 0 => by show (ovT (p :: ps) (t :: T)).headD 0 ≤ _; omega
  | p :: ps, t :: T, c + 1 => by
    have ih := ovT_hd_le hb ps T c
    show min (t + b) (p.2.1 + (ovT ps (addPre c b T)).headD 0) ≤ min t (p.2.1 + (ovT ps T).headD 0) + b
    omega
theorem ovT_add {b : Int} (hb : 0 ≤ b) : ∀ (ps : List P3) (T : List Int) (c : Nat), ovT ps (addPre c b (ovT ps T)) = ovT ps (addPre c b T)
  | [], T, c => by
    have e : ∀ U : List Int, ovT [] U = [] := fun U => by cases U <;> rfl
    rw [e, e]
  | p :: ps, [], c => by cases c <;> rfl
  | p :: ps, t :: T, 0 => by
    have ih := ovT_add hb ps T 0
    have ih : ovT ps (ovT ps T) = ovT ps T := ih
    show min (min t (p.2.1 + (ovT ps T).headD 0)) (p.2.1 + (ovT ps (ovT ps T)).headD 0) :: ovT ps (ovT ps T) = min t (p.2.1 + (ovT ps T).headD 0) :: ovT ps T
    rw [ih]
    congr 1
    omega
  | p :: ps, t :: T, c + 1 => by
    have ih := ovT_add hb ps T c
    have hl := ovT_hd_le hb ps T c
    show min (min t (p.2.1 + (ovT ps T).headD 0) + b) (p.2.1 + (ovT ps (addPre c b (ovT ps T))).headD 0) :: ovT ps (addPre c b (ovT ps T)) = min (t + b) (p.2.1 + (ovT ps (addPre c b T)).headD 0) :: ovT ps (addPre c b T)
    rw [ih]
    congr 1
    omega
theorem addPre_comm (a b : Int) (c d : Nat) (T : List Int) : addPre c a (addPre d b T) = addPre d b (addPre c a T) := by
  apply List.ext_getElem?
  intro i
  rw [addPre_get, addPre_get, addPre_get, addPre_get]
  split <;> split <;> cases T[i]? <;> simp <;> omega
theorem tots_inj {xs ys : List Int} (h : tots xs = tots ys) : xs = ys := by rw [← levs_tots xs, h, levs_tots]
/-- a raise of no less than nothing -/
def Dd.Rain (n : Nat) : Dd → Prop
  | .raise l m => 1 ≤ l ∧ l ≤ n ∧ 0 ≤ m
  | _ => False
theorem Dd.Rain.on {n : Nat} {d : Dd} (h : d.Rain n) : d.On n := by
  cases d with
  | raise l m => exact ⟨h.1, h.2.1⟩
  | _ => exact h.elim
theorem tots_rain {ps : List P3} {ls : List Int} {l : Nat} {m : Int} (hl : ls.length = ps.length) (h : (Dd.raise l m).Rain ps.length) : tots (aft ps ls (.raise l m)) = ovT ps (addPre l m (tots ls)) := by
  rw [tots_aft hl h.on]
  rfl
theorem rain_comm {ps : List P3} {ls : List Int} {d e : Dd} (hl : ls.length = ps.length) (hd : d.Rain ps.length) (he : e.Rain ps.length) : aft ps (aft ps ls d) e = aft ps (aft ps ls e) d := by
  apply tots_inj
  cases d with
  | raise l m =>
    cases e with
    | raise k n =>
      rw [tots_rain (aft_len hl).1 he, tots_rain hl hd, tots_rain (aft_len hl).1 hd, tots_rain hl he, ovT_add he.2.2, ovT_add hd.2.2, addPre_comm]
    | _ => exact he.elim
  | _ => exact hd.elim
theorem rain_perm {ps : List P3} {ds es : List Dd} (h : ds.Perm es) : ∀ (ls : List Int), ls.length = ps.length → (∀ d ∈ ds, d.Rain ps.length) → lvs ps ls ds = lvs ps ls es := by
  induction h with
  | nil => intro ls _ _; rfl
  | cons d _ ih => intro ls hl hr; exact ih (aft ps ls d) (aft_len hl).1 fun e m => hr e (by simp [m])
  | swap d e t =>
    intro ls hl hr
    show lvs ps (aft ps (aft ps ls e) d) t = lvs ps (aft ps (aft ps ls d) e) t
    rw [rain_comm hl (hr e (by simp)) (hr d (by simp))]
  | trans h1 h2 ih1 ih2 =>
    intro ls hl hr
    rw [ih1 ls hl hr, ih2 ls hl fun d m => hr d (h1.mem_iff.2 m)]
/-! ### lowering: nothing runs over -/
/-! ### all numbers so many times as great -/
end Lw
-- F2
-- F3
-- F4
namespace Lw
open PySem PySem.Spec PyProof.Rows L2
local macro_rules | `(tactic| walk_at "lw e") => `(tactic| (repeat (first | (with_reducible apply Exists.intro) | ((with_reducible refine And.intro ?_ ?_); · (first | (with_reducible exact pw_9) | (with_reducible exact pw_12) | (with_reducible exact pw_17) | (with_reducible exact pw_20) | (with_reducible exact pw_60) | (with_reducible exact pw_4) | (with_reducible exact pw_11) | (with_reducible exact pw_13) | (with_reducible exact pw_14) | (with_reducible exact pw_16) | (with_reducible exact pw_7) | (with_reducible exact pw_6) | (with_reducible exact pw_15) | (with_reducible exact pw_18) | (with_reducible exact pw_19) | (with_reducible exact pw_30) | (with_reducible exact pw_40) | (with_reducible exact tix0) | (with_reducible exact tix1) | (with_reducible exact tix2) | ((with_reducible apply mul_r); decide) | ((with_reducible apply mul_l); decide) | ((with_reducible apply div_i); decide) | ((with_reducible apply in_R); decide) | ((fail_if_success (with_reducible apply mul_r)); (fail_if_success (with_reducible apply div_i)); (fail_if_success (with_reducible apply dm_int)); (fail_if_success (with_reducible apply in_R)); rfl) | (exact Nat.le_of_ble_eq_true rfl) | (simp [refsOf]; done) | (exact ⟨rfl, rfl, by decide⟩) | (exact ⟨rfl, rfl, rfl⟩) | ((with_reducible apply tgN_o); (focus rfl); (focus (first | assumption | trivial))))) | ((with_reducible apply Sm.vrP); (focus rfl)) | ((with_reducible apply Sm.vrO); (focus rfl)) | (with_reducible refine Sm.cn ?_) | (with_reducible refine Sm.op2 ?_) | (with_reducible refine Sm.argV ?_) | (with_reducible refine Sm.callE ?_) | (with_reducible refine Sm.cal1 ?_) | (with_reducible refine Sm.sq ?_) | (with_reducible refine Sm.asgS ?_) | (with_reducible refine Sm.asg ?_) | (with_reducible refine Sm.retS ?_) | (with_reducible refine Sm.ifS ?_) | (with_reducible refine Sm.argN ?_) | (with_reducible refine Sm.tst ?_) | (with_reducible refine Sm.tupE ?_) | (with_reducible refine Sm.lstE ?_) | (with_reducible refine Sm.isE ?_) | (with_reducible refine Sm.argR ?_) | (with_reducible refine Sm.tru ?_) | (with_reducible refine Sm.andT ?_) | (with_reducible refine Sm.orT ?_) | (with_reducible refine Sm.notT ?_) | (with_reducible refine Sm.andV ?_) | (with_reducible refine Sm.orV ?_) | (with_reducible refine Sm.notV ?_) | (with_reducible refine Sm.negV ?_) | (with_reducible refine Sm.ife ?_) | (with_reducible refine Sm.chn ?_) | (with_reducible refine Sm.callF ?_) | (with_reducible refine Sm.slE ?_) | (with_reducible refine Sm.ptN ?_) | (with_reducible refine Sm.ptS ?_) | (with_reducible refine Sm.revE ?_) | (with_reducible refine Sm.mth ?_) | (with_reducible refine Sm.ret ?_) | (with_reducible refine Sm.esc ?_) | (with_reducible refine Sm.itS ?_) | (with_reducible refine Sm.itR1 ?_) | (with_reducible refine Sm.itR2 ?_) | (with_reducible refine Sm.itE ?_) | (with_reducible refine Sm.itZ ?_) | (with_reducible refine Sm.lcE2 ?_) | (with_reducible refine Sm.pvF ?_) | (with_reducible refine Sm.pvT ?_) | (with_reducible refine Sm.asgO ?_) | (with_reducible refine Sm.exS ?_) | (with_reducible refine Sm.skip ?_) | (with_reducible refine Sm.par2 ?_) | (with_reducible refine Sm.par3 ?_) | (with_reducible refine Sm.forS ?_) | (with_reducible refine Sm.at_nx ?_) | (with_reducible refine Sm.at_rt ?_) | (with_reducible refine Sm.oP ?_) | (with_reducible refine Sm.oF ?_) | (with_reducible refine Sm.fP ?_) | (with_reducible refine Sm.fF ?_) | (with_reducible refine Sm.itZ2 ?_) | (with_reducible refine Sm.itZ3 ?_) | (with_reducible refine Sm.itEn ?_) | (with_reducible refine Sm.argX ?_) | (with_reducible refine Sm.repE ?_) | ((with_reducible apply Sm.augI); (focus rfl)) | ((with_reducible refine Sm.dicE ?_ ?_); (focus decide)) | (with_reducible refine Sm.lzE ?_) | (with_reducible refine Sm.itV ?_) | (with_reducible refine Sm.itR3 ?_) | (with_reducible refine Sm.itRv1 ?_) | (with_reducible refine Sm.itRv2 ?_) | ((with_reducible apply Sm.augS); (focus rfl)) | (with_reducible refine Sm.parL3 ?_) | (with_reducible refine iteTT ?_) | (with_reducible refine iteT ?_) | (with_reducible refine iteF ?_) | ((with_reducible refine iteB1 ?_ ?_); (focus rfl)) | ((with_reducible refine iteB0 ?_ ?_); (focus rfl)))))
local macro_rules | `(tactic| walk_at "lw n") => `(tactic| (try dsimp only [ent, List.map, Nat.reduceAdd, Nat.reduceSub, List.length_cons, List.length_nil, List.replicate_succ, List.replicate_zero, List.cons_append, List.nil_append, putBack, setOwn, List.getElem?_cons_zero, List.getElem?_cons_succ, List.set_cons_zero, List.set_cons_succ, Sm.nf]))
local macro_rules | `(tactic| walk_at "lw v") => `(tactic| (try simp only [pb1, pb2, pb3, pb4, pb5, pb6]))
theorem ch_fine {bs : List Bool} (h : bs.length ≤ 6) : Fine 1000000000000000000 1 ((60 + 1) * 6) (.tuple (bs.map chD)) := by
  refine Fine.tup (fun x hx => ?_) (by rw [List.length_map]; exact h)
  obtain ⟨b, _, rfl⟩ := List.mem_map.1 hx
  cases b
  · exact ⟨lfb_fnb (strOk_str "low"), by decide⟩
  · exact ⟨lfb_fnb (strOk_str "high"), by decide⟩
theorem found_fine {ls rs : List Int} {bs : List Bool} (hl : ls.length ≤ 6) (hr : rs.length ≤ 6) (hb : bs.length ≤ 6) (h1 : ∀ x ∈ ls, x.natAbs ≤ 1000000000000000000) (h2 : ∀ x ∈ rs, x.natAbs ≤ 1000000000000000000) : Fine 1000000000000000000 3 ((((60 + 1) * 6 + 1) * 2 + 1) * 2) (.tuple [sD ls bs, it rs]) := by
  have f1 : Fine 1000000000000000000 1 ((60 + 1) * 6) (it ls) := Fine.it h1 (by decide) hl
  have f2 : Fine 1000000000000000000 1 ((60 + 1) * 6) (it rs) := Fine.it h2 (by decide) hr
  have f3 : Fine 1000000000000000000 2 (((60 + 1) * 6 + 1) * 2) (sD ls bs) := by
    refine Fine.tup (fun x hx => ?_) (by simp)
    simp only [List.mem_cons, List.not_mem_nil, or_false] at hx
    rcases hx with rfl | rfl
    · exact f1
    · exact ch_fine hb
  refine Fine.tup (fun x hx => ?_) (by simp)
  simp only [List.mem_cons, List.not_mem_nil, or_false] at hx
  rcases hx with rfl | rfl
  · exact f3
  · exact ⟨fn_mono (Nat.le_refl _) 1 2 _ (by decide) f2.1, Nat.le_trans f2.2 (by decide)⟩
theorem fine_eq {B e w : Nat} {d : D} (h : Fine B e w d) (hB : B < 10 ^ 90) (he : e ≤ 64) : gEq d d = some (.pure (.bool true)) := by
  have := fn_shaped h.1 hB he
  rw [eq_ok this this, SeqAt.eqv_refl d (fn_facts hB e d h.1).1]
theorem perm_erase {α : Type} (d : α) : ∀ (l : List α) (i : Nat), i < l.length → (l.getD i d :: l.eraseIdx i).Perm l
  | [], i, h => by simp at h
  | x :: l, 0, _ => List.Perm.refl _
  | x :: l, i + 1, h => by
    have ih := perm_erase d l i (by simpa using h)
    show (l.getD i d :: x :: l.eraseIdx i).Perm (x :: l)
    exact (List.Perm.swap x (l.getD i d) (l.eraseIdx i)).trans (ih.cons x)
theorem map_getD {α : Type} (f : α → D) (a : α) (l : List α) {i : Nat} (h : i < l.length) : (l.map f).getD i .none = f (l.getD i a) := by
  rw [List.getD_eq_getElem?_getD, List.getElem?_map, List.getD_eq_getElem?_getD, List.getElem?_eq_getElem h]
  rfl
theorem map_erase {α : Type} (f : α → D) : ∀ (l : List α) (i : Nat), (l.map f).eraseIdx i = (l.eraseIdx i).map f
  | [], i => by simp
  | x :: l, 0 => rfl
  | x :: l, i + 1 => by
    show f x :: (l.map f).eraseIdx i = f x :: (l.eraseIdx i).map f
    rw [map_erase f l i]
/-- a stair of drawn pounds, levels within, chambers -/
structure Sb (g : Nat) (ps : List P3) (ls : List Int) (bs : List Bool) : Prop where
  g1 : 1 ≤ g
  g2 : g ≤ 1000000000000000
  x1 : 1 ≤ ps.length
  x2 : ps.length ≤ 6
  hp : ∀ p ∈ ps, PoundI g p
  w : Within ps ls
  bl : bs.length = ps.length
section
variable {g : Nat} {ps : List P3} {ls : List Int} {bs : List Bool}
theorem Sb.st (e : Sb g ps ls bs) : StairG (.tuple (ps.map pd)) (ps.map pd) ps := Stair.gen (.inl rfl)
theorem Sb.dn (e : Sb g ps ls bs) {d : Dd} (ho : d.On ps.length) : Down ps d := down_pi e.g1 e.g2 e.hp ho
theorem Sb.done (e : Sb g ps ls bs) {d : Dd} (ho : d.On ps.length) (hlet : Let ps ls bs d) : wpf m_p_done [.pure (.tuple (ps.map pd)), .pure (sD ls bs), .pure (dd d)] (ValQ fun x => x = .tuple [sD (aft ps ls d) (turn bs d), it (spl ps ls d)]) := doneG e.st (sD_stand ls bs) (Dt.of d) ho (e.dn ho) (by have := e.x2; omega) e.w.len e.bl hlet
theorem Sb.fin (e : Sb g ps ls bs) {rs : List Int} (hr : rs.length ≤ 6) (h2 : ∀ x ∈ rs, x.natAbs ≤ 1000000000000000000) : Fine 1000000000000000000 3 ((((60 + 1) * 6 + 1) * 2 + 1) * 2) (.tuple [sD ls bs, it rs]) := by
  have hb := e.w.bd e.g2 e.hp
  have := e.x2
  exact found_fine (by rw [e.w.len]; omega) hr (by rw [e.bl]; omega) (fun x m => by have := hb x m; omega) h2
end
end Lw
-- F2
-- F3
-- F4
namespace Lw
open PySem PySem.Spec PyProof.Rows L2
local macro_rules | `(tactic| walk_at "lw e") => `(tactic| (repeat (first | (with_reducible apply Exists.intro) | ((with_reducible refine And.intro ?_ ?_); · (first | (with_reducible exact pw_9) | (with_reducible exact pw_12) | (with_reducible exact pw_17) | (with_reducible exact pw_20) | (with_reducible exact pw_60) | (with_reducible exact pw_4) | (with_reducible exact pw_11) | (with_reducible exact pw_13) | (with_reducible exact pw_14) | (with_reducible exact pw_16) | (with_reducible exact pw_7) | (with_reducible exact pw_6) | (with_reducible exact pw_15) | (with_reducible exact pw_18) | (with_reducible exact pw_19) | (with_reducible exact pw_30) | (with_reducible exact pw_40) | (with_reducible exact tix0) | (with_reducible exact tix1) | (with_reducible exact tix2) | ((with_reducible apply mul_r); decide) | ((with_reducible apply mul_l); decide) | ((with_reducible apply div_i); decide) | ((with_reducible apply in_R); decide) | ((fail_if_success (with_reducible apply mul_r)); (fail_if_success (with_reducible apply div_i)); (fail_if_success (with_reducible apply dm_int)); (fail_if_success (with_reducible apply in_R)); rfl) | (exact Nat.le_of_ble_eq_true rfl) | (simp [refsOf]; done) | (exact ⟨rfl, rfl, by decide⟩) | (exact ⟨rfl, rfl, rfl⟩) | ((with_reducible apply tgN_o); (focus rfl); (focus (first | assumption | trivial))))) | ((with_reducible apply Sm.vrP); (focus rfl)) | ((with_reducible apply Sm.vrO); (focus rfl)) | (with_reducible refine Sm.cn ?_) | (with_reducible refine Sm.op2 ?_) | (with_reducible refine Sm.argV ?_) | (with_reducible refine Sm.callE ?_) | (with_reducible refine Sm.cal1 ?_) | (with_reducible refine Sm.sq ?_) | (with_reducible refine Sm.asgS ?_) | (with_reducible refine Sm.asg ?_) | (with_reducible refine Sm.retS ?_) | (with_reducible refine Sm.ifS ?_) | (with_reducible refine Sm.argN ?_) | (with_reducible refine Sm.tst ?_) | (with_reducible refine Sm.tupE ?_) | (with_reducible refine Sm.lstE ?_) | (with_reducible refine Sm.isE ?_) | (with_reducible refine Sm.argR ?_) | (with_reducible refine Sm.tru ?_) | (with_reducible refine Sm.andT ?_) | (with_reducible refine Sm.orT ?_) | (with_reducible refine Sm.notT ?_) | (with_reducible refine Sm.andV ?_) | (with_reducible refine Sm.orV ?_) | (with_reducible refine Sm.notV ?_) | (with_reducible refine Sm.negV ?_) | (with_reducible refine Sm.ife ?_) | (with_reducible refine Sm.chn ?_) | (with_reducible refine Sm.callF ?_) | (with_reducible refine Sm.slE ?_) | (with_reducible refine Sm.ptN ?_) | (with_reducible refine Sm.ptS ?_) | (with_reducible refine Sm.revE ?_) | (with_reducible refine Sm.mth ?_) | (with_reducible refine Sm.ret ?_) | (with_reducible refine Sm.esc ?_) | (with_reducible refine Sm.itS ?_) | (with_reducible refine Sm.itR1 ?_) | (with_reducible refine Sm.itR2 ?_) | (with_reducible refine Sm.itE ?_) | (with_reducible refine Sm.itZ ?_) | (with_reducible refine Sm.lcE2 ?_) | (with_reducible refine Sm.pvF ?_) | (with_reducible refine Sm.pvT ?_) | (with_reducible refine Sm.asgO ?_) | (with_reducible refine Sm.exS ?_) | (with_reducible refine Sm.skip ?_) | (with_reducible refine Sm.par2 ?_) | (with_reducible refine Sm.par3 ?_) | (with_reducible refine Sm.forS ?_) | (with_reducible refine Sm.at_nx ?_) | (with_reducible refine Sm.at_rt ?_) | (with_reducible refine Sm.oP ?_) | (with_reducible refine Sm.oF ?_) | (with_reducible refine Sm.fP ?_) | (with_reducible refine Sm.fF ?_) | (with_reducible refine Sm.itZ2 ?_) | (with_reducible refine Sm.itZ3 ?_) | (with_reducible refine Sm.itEn ?_) | (with_reducible refine Sm.argX ?_) | (with_reducible refine Sm.repE ?_) | ((with_reducible apply Sm.augI); (focus rfl)) | ((with_reducible refine Sm.dicE ?_ ?_); (focus decide)) | (with_reducible refine Sm.lzE ?_) | (with_reducible refine Sm.itV ?_) | (with_reducible refine Sm.itR3 ?_) | (with_reducible refine Sm.itRv1 ?_) | (with_reducible refine Sm.itRv2 ?_) | ((with_reducible apply Sm.augS); (focus rfl)) | (with_reducible refine Sm.parL3 ?_) | (with_reducible refine iteTT ?_) | (with_reducible refine iteT ?_) | (with_reducible refine iteF ?_) | ((with_reducible refine iteB1 ?_ ?_); (focus rfl)) | ((with_reducible refine iteB0 ?_ ?_); (focus rfl)))))
local macro_rules | `(tactic| walk_at "lw n") => `(tactic| (try dsimp only [ent, List.map, Nat.reduceAdd, Nat.reduceSub, List.length_cons, List.length_nil, List.replicate_succ, List.replicate_zero, List.cons_append, List.nil_append, putBack, setOwn, List.getElem?_cons_zero, List.getElem?_cons_succ, List.set_cons_zero, List.set_cons_succ, Sm.nf]))
local macro_rules | `(tactic| walk_at "lw v") => `(tactic| (try simp only [pb1, pb2, pb3, pb4, pb5, pb6]))
def lc2Q (vs : List Nat) (tg : Tg) (tt : M Bool) (fi1 : M (List D)) (vs1 : List Nat) (tg1 : Tg) (tt1 : M Bool) (fe : M R) (ds : List D) (ς : En) (Q : List D → En → Prop) : Prop := ∃ acc ς2, lcLoop2 vs tg tt fi1 vs1 tg1 tt1 fe ds [] ς = some (acc, ς2) ∧ Q acc ς2
theorem Sm.lc2E {ς : En} {fi fi1 : M (List D)} {vs vs1 : List Nat} {tg tg1 : Tg} {tt tt1 : M Bool} {fe : M R} {Q : R → En → Prop}
    (h : wp fi ς fun ds ς1 => freeAll ς1 vs = true ∧ lc2Q vs tg tt fi1 vs1 tg1 tt1 fe ds (wipeE ς1 vs) fun acc ς2 => Q (.fresh acc) ς2) : wp (Lw.lc2E fi vs tg tt fi1 vs1 tg1 tt1 fe) ς Q := by
  obtain ⟨ds, ς1, e, hf, acc, ς2, e2, q⟩ := h
  refine ⟨_, ς2, ?_, q⟩
  unfold Lw.lc2E
  simp only [e, e2]
  rw [if_pos hf]
theorem lcLoop_pure {ς : En} {vs : List Nat} {tg : Tg} {fe : M R} (f : D → D) : ∀ (ds acc : List D), acc.length + ds.length ≤ sizeLine → (∀ d ∈ ds, ∃ ς1, tg d ς = some ς1 ∧ wp fe ς1 fun r ς2 => ∃ ς3, toD r ς2 = some (f d, ς3) ∧ freeAll ς3 vs = true ∧ wipeE ς3 vs = ς) → lcLoop vs tg (Lw.ret true) fe ds acc ς = some (acc ++ ds.map f, ς)
  | [], acc, _, _ => by rw [lcLoop, List.map_nil, List.append_nil]
  | d :: ds, acc, hl, hs => by
    obtain ⟨ς1, e1, r, ς2, e2, ς3, e3, hf, hw⟩ := hs d (by simp)
    rw [List.length_cons] at hl
    rw [lcLoop]
    have ee : Lw.esc fe ς1 = some (f d, ς3) := by unfold Lw.esc Lw.bd; rw [e2]; exact e3
    simp only [e1, Lw.ret, ee]
    rw [if_pos ⟨hf, by omega⟩, hw, lcLoop_pure f ds (acc ++ [f d]) (by rw [List.length_append, List.length_singleton]; omega) fun x m => hs x (by simp [m])]
    simp
theorem Sm.lc2Pure {ς : En} {vs vs1 : List Nat} {tg tg1 : Tg} {fi1 : M (List D)} {fe : M R} {ds : List D} {Q : List D → En → Prop} (F : D → List D) (hlen : (ds.flatMap F).length ≤ sizeLine)
    (hs : ∀ d ∈ ds, ∃ ς1, tg d ς = some ς1 ∧ wp fi1 ς1 fun ds1 ς2 => freeAll ς2 vs1 = true ∧ ∃ f : D → D, F d = ds1.map f ∧ (∀ x ∈ ds1, ∃ ς4, tg1 x (wipeE ς2 vs1) = some ς4 ∧ wp fe ς4 fun r ς5 => ∃ ς6, toD r ς5 = some (f x, ς6) ∧ freeAll ς6 vs1 = true ∧ wipeE ς6 vs1 = wipeE ς2 vs1) ∧ freeAll (wipeE ς2 vs1) vs = true ∧ wipeE (wipeE ς2 vs1) vs = ς)
    (hd : Q (ds.flatMap F) ς) : lc2Q vs tg (Lw.ret true) fi1 vs1 tg1 (Lw.ret true) fe ds ς Q := by
  have main : ∀ (ds acc : List D), acc.length + (ds.flatMap F).length ≤ sizeLine → (∀ d ∈ ds, ∃ ς1, tg d ς = some ς1 ∧ wp fi1 ς1 fun ds1 ς2 => freeAll ς2 vs1 = true ∧ ∃ f : D → D, F d = ds1.map f ∧ (∀ x ∈ ds1, ∃ ς4, tg1 x (wipeE ς2 vs1) = some ς4 ∧ wp fe ς4 fun r ς5 => ∃ ς6, toD r ς5 = some (f x, ς6) ∧ freeAll ς6 vs1 = true ∧ wipeE ς6 vs1 = wipeE ς2 vs1) ∧ freeAll (wipeE ς2 vs1) vs = true ∧ wipeE (wipeE ς2 vs1) vs = ς) → lcLoop2 vs tg (Lw.ret true) fi1 vs1 tg1 (Lw.ret true) fe ds acc ς = some (acc ++ ds.flatMap F, ς) := by
    intro ds
    induction ds with
    | nil => intro acc _ _; rw [lcLoop2, List.flatMap_nil, List.append_nil]
    | cons d ds ih =>
      intro acc hl hs
      obtain ⟨ς1, e1, ds1, ς2, e2, hf, f, eF, hx, hf2, hw⟩ := hs d (by simp)
      rw [List.flatMap_cons, List.length_append, eF, List.length_map] at hl
      have e3 := lcLoop_pure (ς := wipeE ς2 vs1) (vs := vs1) (tg := tg1) (fe := fe) f ds1 acc (by omega) hx
      rw [lcLoop2]
      have et : (Lw.ret true : M Bool) ς1 = some (true, ς1) := rfl
      simp only [e1, et, e2]
      rw [if_pos hf]
      simp only [e3]
      rw [if_pos hf2, hw, ih (acc ++ ds1.map f) (by rw [List.length_append, List.length_map]; omega) fun x m => hs x (by simp [m]), List.flatMap_cons, eF, List.append_assoc]
  exact ⟨_, _, main ds [] (by rw [List.length_nil, Nat.zero_add]; exact hlen) hs, by rw [List.nil_append]; exact hd⟩
/-! ### tables side by side -/
theorem eqvAll_ints : ∀ xs ys : List Int, PyData.eqvAll (xs.map PyData.int) (ys.map PyData.int) = decide (xs = ys)
  | [], [] => rfl
  | [], y :: ys => rfl
  | x :: xs, [] => rfl
  | x :: xs, y :: ys => by
    rw [List.map_cons, List.map_cons, PyData.eqvAll, eqvAll_ints xs ys, eqv_int]
    by_cases h1 : x = y <;> by_cases h2 : xs = ys <;> simp [h1, h2]
theorem eqv_it (xs ys : List Int) : PyData.eqv (it xs) (it ys) = decide (xs = ys) := eqvAll_ints xs ys
theorem eqvAll_its : ∀ t u : Tab, PyData.eqvAll (t.map it) (u.map it) = decide (t = u)
  | [], [] => rfl
  | [], y :: ys => rfl
  | x :: xs, [] => rfl
  | x :: xs, y :: ys => by
    rw [List.map_cons, List.map_cons, PyData.eqvAll, eqvAll_its xs ys, eqv_it]
    by_cases h1 : x = y <;> by_cases h2 : xs = ys <;> simp [h1, h2]
theorem eqv_tab (t u : Tab) : PyData.eqv (tabD t) (tabD u) = decide (t = u) := eqvAll_its t u
theorem eq_tab {B e w : Nat} {t u : Tab} (ht : Fine B e w (tabD t)) (hu : Fine B e w (tabD u)) (hB : B < 10 ^ 90) (he : e ≤ 64) : gEq (tabD t) (tabD u) = some (.pure (.bool (decide (t = u)))) := by
  rw [eq_ok (fn_shaped ht.1 hB he) (fn_shaped hu.1 hB he), eqv_tab]
theorem alike_ok {st one other : D} {xs as bs : List D} {ps : List P3} {a b : List Dd} (hs : StairG st xs ps) (ha : DeedsG one as a) (hb : DeedsG other bs b) (oa : ∀ d ∈ a, d.On ps.length) (ob : ∀ d ∈ b, d.On ps.length) (hp : ps.length ≤ 1000) (la : a.length ≤ 1000) (lb : b.length ≤ 1000) {B e w : Nat} (fa : Fine B e w (tabD (tabOf ps a))) (fb : Fine B e w (tabD (tabOf ps b))) (hB : B < 10 ^ 90) (he : e ≤ 64) : wpf m_p_alike [.pure st, .pure one, .pure other] (ValQ fun x => x = .bool (decide (tabOf ps a = tabOf ps b))) := by
  refine Sm.run ?_
  unfold g_p_alike
  walk_at "lw n"
  walk_at "lw e"
  (refine Sm.fmono (table_ok hs ha oa hp la) fun r o h => ?_; obtain ⟨d, rfl, rfl⟩ := h; refine ⟨nref, ?_⟩; walk_at "lw v"; walk_at "lw e")
  (refine Sm.fmono (table_ok hs hb ob hp lb) fun r o h => ?_; obtain ⟨d, rfl, rfl⟩ := h; refine ⟨nref, ?_⟩; walk_at "lw v"; walk_at "lw e")
  refine ⟨eq_tab fa fb hB he, ?_⟩
  walk_at "lw e"
  exact ⟨_, rfl, rfl⟩
/-- number by number, whether the one is no less -/
def geL (t u : Tab) : List Bool := (t.zip u).flatMap fun p => (p.1.zip p.2).map fun q => decide (q.1 ≥ q.2)
theorem all_bools (bs : List Bool) : gAll (.list (bs.map PyData.bool)) = some (.pure (.bool (bs.all id))) := by
  unfold gAll
  simp only [bools_mk]
def geD : D → D
  | .tuple [.int x, .int y] => .bool (decide (x ≥ y))
  | d => d
theorem ge_map (xs ys : List Int) : (zipD (xs.map PyData.int) (ys.map PyData.int)).map geD = ((xs.zip ys).map fun q => decide (q.1 ≥ q.2)).map PyData.bool := by
  rw [zip_ints, List.map_map, List.map_map]
  rfl
def itsD : D → List D
  | .tuple xs => xs
  | _ => []
def geF : D → List D
  | .tuple [r, s] => (zipD (itsD r) (itsD s)).map geD
  | _ => []
theorem zipD_its : ∀ t u : Tab, zipD (t.map it) (u.map it) = (t.zip u).map fun p => PyData.tuple [it p.1, it p.2]
  | [], u => by cases u <;> rfl
  | x :: t, [] => rfl
  | x :: t, y :: u => by
    rw [List.map_cons, List.map_cons, zipD, zipD_its t u]
    rfl
theorem geF_all (t u : Tab) : (zipD (t.map it) (u.map it)).flatMap geF = (geL t u).map PyData.bool := by
  rw [zipD_its]
  unfold geL
  induction t.zip u with
  | nil => rfl
  | cons p l ih =>
    rw [List.map_cons, List.flatMap_cons, List.flatMap_cons, List.map_append, ih]
    congr 1
    exact ge_map p.1 p.2
theorem flat_len {α β : Type} (f : α → List β) (k : Nat) : ∀ l : List α, (∀ x ∈ l, (f x).length ≤ k) → (l.flatMap f).length ≤ l.length * k
  | [], _ => by simp
  | x :: l, h => by
    have := flat_len f k l fun y m => h y (by simp [m])
    have h0 := h x (by simp)
    rw [List.flatMap_cons, List.length_append, List.length_cons, Nat.add_mul]
    omega
theorem geL_len {n : Nat} {t u : Tab} (ht : Shp n t) : (geL t u).length ≤ n * (n + 1) := by
  unfold geL
  have hz : (t.zip u).length ≤ n := by rw [List.length_zip, ht.len]; omega
  refine Nat.le_trans (flat_len _ (n + 1) _ fun p m => ?_) (Nat.mul_le_mul_right _ hz)
  rw [List.length_map, List.length_zip]
  obtain ⟨i, h1, h2⟩ := zip_ix m
  have := (ht.rowl h1).1
  omega
theorem noless_ok {st one other : D} {xs as bs : List D} {ps : List P3} {a b : List Dd} (hs : StairG st xs ps) (ha : DeedsG one as a) (hb : DeedsG other bs b) (oa : ∀ d ∈ a, d.On ps.length) (ob : ∀ d ∈ b, d.On ps.length) (hp : ps.length ≤ 100) (la : a.length ≤ 1000) (lb : b.length ≤ 1000) : wpf m_p_no_less [.pure st, .pure one, .pure other] (ValQ fun x => x = .bool ((geL (tabOf ps a) (tabOf ps b)).all id)) := by
  have hsl : sizeLine = 16777216 := rfl
  have s1 := tabOf_shp ps a
  have hgl := geL_len (u := tabOf ps b) s1
  have hm : ps.length * (ps.length + 1) ≤ 100 * 101 := Nat.mul_le_mul hp (by omega)
  refine Sm.run ?_
  unfold g_p_no_less
  walk_at "lw n"
  walk_at "lw e"
  (refine Sm.fmono (table_ok hs ha oa (by omega) la) fun r o h => ?_; obtain ⟨d, rfl, rfl⟩ := h; refine ⟨nref, ?_⟩; walk_at "lw v"; walk_at "lw e")
  (refine Sm.fmono (table_ok hs hb ob (by omega) lb) fun r o h => ?_; obtain ⟨d, rfl, rfl⟩ := h; refine ⟨nref, ?_⟩; walk_at "lw v"; walk_at "lw e")
  refine ⟨by rw [zipD_len, List.length_map, s1.len]; omega, ?_⟩
  walk_at "lw e"
  walk_at "lw n"
  refine Sm.lc2E ?_
  walk_at "lw e"
  refine Sm.lc2Pure geF (by rw [geF_all, List.length_map]; omega) ?_ ?_
  · intro d hd
    rw [zipD_its] at hd
    obtain ⟨⟨r, s⟩, hm, rfl⟩ := List.mem_map.1 hd
    refine ⟨_, tgT2_o rfl trivial rfl trivial, ?_⟩
    walk_at "lw n"
    walk_at "lw e"
    refine ⟨?_, rfl, rfl⟩
    intro x hx
    obtain ⟨i, hi⟩ := List.mem_iff_getElem?.1 hx
    rw [zip_ints] at hx
    obtain ⟨⟨y, z⟩, _, rfl⟩ := List.mem_map.1 hx
    refine ⟨_, tgT2_o rfl trivial rfl trivial, ?_⟩
    walk_at "lw n"
    walk_at "lw e"
    first | rfl | exact ⟨rfl, rfl⟩ | exact ⟨_, rfl, rfl, rfl⟩
  dsimp only [wipeE]
  rw [geF_all]
  walk_at "lw n"
  walk_at "lw e"
  rw [all_bools]
  walk_at "lw e"
  exact ⟨_, rfl, rfl⟩
end Lw
-- F2
-- F3
-- F4
namespace Lw
open PySem PySem.Spec PyProof.Rows L2
local macro_rules | `(tactic| walk_at "lw e") => `(tactic| (repeat (first | (with_reducible apply Exists.intro) | ((with_reducible refine And.intro ?_ ?_); · (first | (with_reducible exact pw_9) | (with_reducible exact pw_12) | (with_reducible exact pw_17) | (with_reducible exact pw_20) | (with_reducible exact pw_60) | (with_reducible exact pw_4) | (with_reducible exact pw_11) | (with_reducible exact pw_13) | (with_reducible exact pw_14) | (with_reducible exact pw_16) | (with_reducible exact pw_7) | (with_reducible exact pw_6) | (with_reducible exact pw_15) | (with_reducible exact pw_18) | (with_reducible exact pw_19) | (with_reducible exact pw_30) | (with_reducible exact pw_40) | (with_reducible exact tix0) | (with_reducible exact tix1) | (with_reducible exact tix2) | ((with_reducible apply mul_r); decide) | ((with_reducible apply mul_l); decide) | ((with_reducible apply div_i); decide) | ((with_reducible apply in_R); decide) | ((fail_if_success (with_reducible apply mul_r)); (fail_if_success (with_reducible apply div_i)); (fail_if_success (with_reducible apply dm_int)); (fail_if_success (with_reducible apply in_R)); rfl) | (exact Nat.le_of_ble_eq_true rfl) | (simp [refsOf]; done) | (exact ⟨rfl, rfl, by decide⟩) | (exact ⟨rfl, rfl, rfl⟩) | ((with_reducible apply tgN_o); (focus rfl); (focus (first | assumption | trivial))))) | ((with_reducible apply Sm.vrP); (focus rfl)) | ((with_reducible apply Sm.vrO); (focus rfl)) | (with_reducible refine Sm.cn ?_) | (with_reducible refine Sm.op2 ?_) | (with_reducible refine Sm.argV ?_) | (with_reducible refine Sm.callE ?_) | (with_reducible refine Sm.cal1 ?_) | (with_reducible refine Sm.sq ?_) | (with_reducible refine Sm.asgS ?_) | (with_reducible refine Sm.asg ?_) | (with_reducible refine Sm.retS ?_) | (with_reducible refine Sm.ifS ?_) | (with_reducible refine Sm.argN ?_) | (with_reducible refine Sm.tst ?_) | (with_reducible refine Sm.tupE ?_) | (with_reducible refine Sm.lstE ?_) | (with_reducible refine Sm.isE ?_) | (with_reducible refine Sm.argR ?_) | (with_reducible refine Sm.tru ?_) | (with_reducible refine Sm.andT ?_) | (with_reducible refine Sm.orT ?_) | (with_reducible refine Sm.notT ?_) | (with_reducible refine Sm.andV ?_) | (with_reducible refine Sm.orV ?_) | (with_reducible refine Sm.notV ?_) | (with_reducible refine Sm.negV ?_) | (with_reducible refine Sm.ife ?_) | (with_reducible refine Sm.chn ?_) | (with_reducible refine Sm.callF ?_) | (with_reducible refine Sm.slE ?_) | (with_reducible refine Sm.ptN ?_) | (with_reducible refine Sm.ptS ?_) | (with_reducible refine Sm.revE ?_) | (with_reducible refine Sm.mth ?_) | (with_reducible refine Sm.ret ?_) | (with_reducible refine Sm.esc ?_) | (with_reducible refine Sm.itS ?_) | (with_reducible refine Sm.itR1 ?_) | (with_reducible refine Sm.itR2 ?_) | (with_reducible refine Sm.itE ?_) | (with_reducible refine Sm.itZ ?_) | (with_reducible refine Sm.lcE2 ?_) | (with_reducible refine Sm.pvF ?_) | (with_reducible refine Sm.pvT ?_) | (with_reducible refine Sm.asgO ?_) | (with_reducible refine Sm.exS ?_) | (with_reducible refine Sm.skip ?_) | (with_reducible refine Sm.par2 ?_) | (with_reducible refine Sm.par3 ?_) | (with_reducible refine Sm.forS ?_) | (with_reducible refine Sm.at_nx ?_) | (with_reducible refine Sm.at_rt ?_) | (with_reducible refine Sm.oP ?_) | (with_reducible refine Sm.oF ?_) | (with_reducible refine Sm.fP ?_) | (with_reducible refine Sm.fF ?_) | (with_reducible refine Sm.itZ2 ?_) | (with_reducible refine Sm.itZ3 ?_) | (with_reducible refine Sm.itEn ?_) | (with_reducible refine Sm.argX ?_) | (with_reducible refine Sm.repE ?_) | ((with_reducible apply Sm.augI); (focus rfl)) | ((with_reducible refine Sm.dicE ?_ ?_); (focus decide)) | (with_reducible refine Sm.lzE ?_) | (with_reducible refine Sm.itV ?_) | (with_reducible refine Sm.itR3 ?_) | (with_reducible refine Sm.itRv1 ?_) | (with_reducible refine Sm.itRv2 ?_) | ((with_reducible apply Sm.augS); (focus rfl)) | (with_reducible refine Sm.parL3 ?_) | (with_reducible refine iteTT ?_) | (with_reducible refine iteT ?_) | (with_reducible refine iteF ?_) | ((with_reducible refine iteB1 ?_ ?_); (focus rfl)) | ((with_reducible refine iteB0 ?_ ?_); (focus rfl)))))
local macro_rules | `(tactic| walk_at "lw n") => `(tactic| (try dsimp only [ent, List.map, Nat.reduceAdd, Nat.reduceSub, List.length_cons, List.length_nil, List.replicate_succ, List.replicate_zero, List.cons_append, List.nil_append, putBack, setOwn, List.getElem?_cons_zero, List.getElem?_cons_succ, List.set_cons_zero, List.set_cons_succ, Sm.nf]))
local macro_rules | `(tactic| walk_at "lw v") => `(tactic| (try simp only [pb1, pb2, pb3, pb4, pb5, pb6]))
/-- no total is less -/
def Ge (T U : List Int) : Prop := T.length = U.length ∧ ∀ j : Nat, U.getD j 0 ≤ T.getD j 0
theorem Ge.refl (T : List Int) : Ge T T := ⟨rfl, fun _ => Int.le_refl _⟩
theorem Ge.trans {T U V : List Int} (h : Ge T U) (k : Ge U V) : Ge T V := ⟨h.1.trans k.1, fun j => Int.le_trans (k.2 j) (h.2 j)⟩
theorem Ge.cons {t u : Int} {T U : List Int} (h : u ≤ t) (k : Ge T U) : Ge (t :: T) (u :: U) := ⟨by rw [List.length_cons, List.length_cons, k.1], fun j => by
  cases j with
  | zero => exact h
  | succ j => exact k.2 j⟩
theorem Ge.tail {t u : Int} {T U : List Int} (h : Ge (t :: T) (u :: U)) : u ≤ t ∧ Ge T U := ⟨h.2 0, by have := h.1; simpa using this, fun j => h.2 (j + 1)⟩
theorem Ge.head {T U : List Int} (h : Ge T U) : U.headD 0 ≤ T.headD 0 := by
  cases T with
  | nil =>
    cases U with
    | nil => exact Int.le_refl _
    | cons u U => have := h.1; simp at this
  | cons t T =>
    cases U with
    | nil => have := h.1; simp at this
    | cons u U => exact h.tail.1
theorem ovT_mono : ∀ (ps : List P3) (T U : List Int), Ge T U → Ge (ovT ps T) (ovT ps U)
  | [], T, U, h => by
    have e : ∀ U : List Int, ovT [] U = [] := fun U => by cases U <;> rfl
    rw [e, e]; exact Ge.refl _
  | p :: ps, [], [], h => Ge.refl _
  | p :: ps, [], u :: U, h => by have := h.1; simp at this
  | p :: ps, t :: T, [], h => by have := h.1; simp at this
  | p :: ps, t :: T, u :: U, h => by
    obtain ⟨h1, h2⟩ := h.tail
    have ih := ovT_mono ps T U h2
    have hh := ih.head
    refine Ge.cons ?_ ih
    omega
theorem addPre_mono {T U : List Int} (h : Ge T U) (c : Nat) (m : Int) : Ge (addPre c m T) (addPre c m U) := by
  refine ⟨by rw [addPre_len, addPre_len]; exact h.1, fun j => ?_⟩
  by_cases hj : j < T.length
  · rw [addPre_getD hj, addPre_getD (by rw [← h.1]; exact hj)]
    have := h.2 j
    omega
  · rw [List.getD_eq_getElem?_getD, List.getElem?_eq_none (by rw [addPre_len, ← h.1]; omega), List.getD_eq_getElem?_getD, List.getElem?_eq_none (by rw [addPre_len]; omega)]
    exact Int.le_refl _
theorem addPre_up {c : Nat} {m : Int} (hm : 0 ≤ m) (T : List Int) : Ge (addPre c m T) T := by
  refine ⟨addPre_len _ _ _, fun j => ?_⟩
  by_cases hj : j < T.length
  · rw [addPre_getD hj]
    split <;> omega
  · rw [List.getD_eq_getElem?_getD, List.getElem?_eq_none (by omega), List.getD_eq_getElem?_getD, List.getElem?_eq_none (by rw [addPre_len]; omega)]
    exact Int.le_refl _
theorem addPre_down {c : Nat} {m : Int} (hm : m ≤ 0) (T : List Int) : Ge T (addPre c m T) := by
  refine ⟨(addPre_len _ _ _).symm, fun j => ?_⟩
  by_cases hj : j < T.length
  · rw [addPre_getD hj]
    split <;> omega
  · rw [List.getD_eq_getElem?_getD, List.getElem?_eq_none (by rw [addPre_len]; omega), List.getD_eq_getElem?_getD, List.getElem?_eq_none (by omega)]
    exact Int.le_refl _
theorem ovT_le : ∀ (ps : List P3) (T : List Int), T.length = ps.length → Ge T (ovT ps T)
  | [], T, h => by cases T with | nil => exact Ge.refl _ | cons t T => simp at h
  | p :: ps, [], h => by simp at h
  | p :: ps, t :: T, h => by
    refine Ge.cons ?_ (ovT_le ps T (by simpa using h))
    omega
theorem below_ovT {ps : List P3} {L : List Int} (h : Below ps L) : ovT ps (tots L) = tots L := by
  rw [← tots_ov ps L h.1, h.ov]
theorem aft_mono {ps : List P3} {L M : List Int} {d : Dd} (hl : L.length = ps.length) (hm : M.length = ps.length) (ho : d.On ps.length) (h : Ge (tots L) (tots M)) : Ge (tots (aft ps L d)) (tots (aft ps M d)) := by
  rw [tots_aft hl ho, tots_aft hm ho]
  exact ovT_mono _ _ _ (addPre_mono h _ _)
theorem lvs_mono {ps : List P3} : ∀ (ds : List Dd) {L M : List Int}, L.length = ps.length → M.length = ps.length → (∀ d ∈ ds, d.On ps.length) → Ge (tots L) (tots M) → Ge (tots (lvs ps L ds)) (tots (lvs ps M ds))
  | [], _, _, _, _, _, h => h
  | d :: ds, L, M, hl, hm, ho, h => lvs_mono ds (aft_len hl).1 (aft_len hm).1 (fun e m => ho e (by simp [m])) (aft_mono hl hm (ho d (by simp)) h)
theorem lvs_app (ps : List P3) (L : List Int) (a b : List Dd) : lvs ps L (a ++ b) = lvs ps (lvs ps L a) b := by
  unfold lvs
  rw [List.foldl_append]
/-! ### rains -/
def addAll : List Dd → List Int → List Int
  | [], T => T
  | .raise l m :: rs, T => addAll rs (addPre l m T)
  | _ :: rs, T => addAll rs T
theorem addAll_ov {ps : List P3} : ∀ (rs : List Dd) (T : List Int), (∀ d ∈ rs, d.Rain ps.length) → ovT ps (addAll rs (ovT ps T)) = ovT ps (addAll rs T)
  | [], T, _ => ovT_add (b := 0) (by decide) ps T 0
  | d :: rs, T, h => by
    have ih := fun U => addAll_ov rs U fun e m => h e (by simp [m])
    have hd := h d (by simp)
    cases d with
    | raise l m =>
      show ovT ps (addAll rs (addPre l m (ovT ps T))) = ovT ps (addAll rs (addPre l m T))
      rw [← ih (addPre l m (ovT ps T)), ovT_add hd.2.2, ih]
    | _ => exact hd.elim
theorem rains_tots {ps : List P3} : ∀ (rs : List Dd) {L : List Int}, Below ps L → (∀ d ∈ rs, d.Rain ps.length) → tots (lvs ps L rs) = ovT ps (addAll rs (tots L))
  | [], L, hb, _ => (below_ovT hb).symm
  | d :: rs, L, hb, h => by
    have hd := h d (by simp)
    cases d with
    | raise l m =>
      show tots (lvs ps (aft ps L (.raise l m)) rs) = ovT ps (addAll rs (addPre l m (tots L)))
      rw [rains_tots rs (aft_below hb.1) (fun e m => h e (by simp [m])), tots_rain hb.1 hd, addAll_ov rs _ fun e m => h e (by simp [m])]
    | _ => exact hd.elim
theorem addAll_len : ∀ (rs : List Dd) (T : List Int), (addAll rs T).length = T.length
  | [], T => rfl
  | .raise l m :: rs, T => by show (addAll rs (addPre l m T)).length = _; rw [addAll_len rs, addPre_len]
  | .lower l m :: rs, T => addAll_len rs T
  | .fill l :: rs, T => addAll_len rs T
  | .empty l :: rs, T => addAll_len rs T
theorem addAll_comm (c : Nat) (k : Int) : ∀ (rs : List Dd) (T : List Int), addAll rs (addPre c k T) = addPre c k (addAll rs T)
  | [], T => rfl
  | .raise l m :: rs, T => by show addAll rs (addPre l m (addPre c k T)) = _; rw [addPre_comm, addAll_comm c k rs]; rfl
  | .lower l m :: rs, T => addAll_comm c k rs T
  | .fill l :: rs, T => addAll_comm c k rs T
  | .empty l :: rs, T => addAll_comm c k rs T
/-- what rains add at a place -/
def rnAt (j : Nat) : List Dd → Int
  | [] => 0
  | .raise l m :: rs => (if j < l then m else 0) + rnAt j rs
  | _ :: rs => rnAt j rs
theorem addAll_at {j : Nat} : ∀ (rs : List Dd) (T : List Int), j < T.length → (addAll rs T).getD j 0 = T.getD j 0 + rnAt j rs
  | [], T, _ => by show T.getD j 0 = T.getD j 0 + 0; omega
  | .raise l m :: rs, T, h => by
    show (addAll rs (addPre l m T)).getD j 0 = T.getD j 0 + ((if j < l then m else 0) + rnAt j rs)
    rw [addAll_at rs _ (by rw [addPre_len]; exact h), addPre_getD h]
    omega
  | .lower l m :: rs, T, h => addAll_at rs T h
  | .fill l :: rs, T, h => addAll_at rs T h
  | .empty l :: rs, T, h => addAll_at rs T h
theorem rains_same {ps : List P3} {rs qs : List Dd} {L : List Int} (hb : Below ps L) (hr : ∀ d ∈ rs, d.Rain ps.length) (hq : ∀ d ∈ qs, d.Rain ps.length) (h : ∀ j, j < ps.length → rnAt j rs = rnAt j qs) : lvs ps L rs = lvs ps L qs := by
  apply tots_inj
  rw [rains_tots rs hb hr, rains_tots qs hb hq]
  congr 1
  apply List.ext_getElem?
  intro j
  have tl : (tots L).length = ps.length := by rw [tots_len]; exact hb.1
  by_cases hj : j < ps.length
  · rw [getD_some (by rw [addAll_len]; omega), getD_some (xs := addAll qs (tots L)) (by rw [addAll_len]; omega), addAll_at _ _ (by omega), addAll_at _ _ (by omega), h j hj]
  · rw [List.getElem?_eq_none (by rw [addAll_len]; omega), List.getElem?_eq_none (by rw [addAll_len]; omega)]
theorem rains_up {ps : List P3} {rs : List Dd} {L : List Int} (hb : Below ps L) (hr : ∀ d ∈ rs, d.Rain ps.length) : Ge (tots (lvs ps L rs)) (tots L) := by
  have : ∀ (rs : List Dd) (T : List Int), (∀ d ∈ rs, d.Rain ps.length) → Ge (addAll rs T) T := by
    intro rs
    induction rs with
    | nil => intro T _; exact Ge.refl _
    | cons d rs ih =>
      intro T h
      have hd := h d (by simp)
      cases d with
      | raise l m => exact (ih (addPre l m T) fun e m => h e (by simp [m])).trans (addPre_up hd.2.2 T)
      | _ => exact hd.elim
  rw [rains_tots rs hb hr]
  have k := ovT_mono ps _ _ (this rs (tots L) hr)
  rw [below_ovT hb] at k
  exact k
theorem lower_down {ps : List P3} {L : List Int} {l : Nat} {m : Int} (hb : Below ps L) (h1 : 1 ≤ l) (h2 : l ≤ ps.length) (hm : 0 ≤ m) : Ge (tots L) (tots (aft ps L (.lower l m))) := by
  rw [tots_aft (d := .lower l m) hb.1 ⟨h1, h2⟩]
  have tl : (tots L).length = ps.length := by rw [tots_len]; exact hb.1
  exact (addPre_down (by show -m ≤ 0; omega) (tots L)).trans (ovT_le ps _ (by rw [addPre_len]; exact tl))
theorem low_rain {ps : List P3} {rs : List Dd} {L : List Int} {l : Nat} {m : Int} (hb : Below ps L) (h1 : 1 ≤ l) (h2 : l ≤ ps.length) (hm : 0 ≤ m) (hr : ∀ d ∈ rs, d.Rain ps.length) : Ge (tots (lvs ps (aft ps L (.lower l m)) rs)) (tots (aft ps (lvs ps L rs) (.lower l m))) := by
  have ho : (Dd.lower l m).On ps.length := ⟨h1, h2⟩
  have tl : (tots L).length = ps.length := by rw [tots_len]; exact hb.1
  have hl2 : (lvs ps L rs).length = ps.length := lvs_len rs hb.1
  rw [rains_tots rs (aft_below hb.1) hr, tots_aft hb.1 ho, addAll_ov rs _ hr, tots_aft hl2 ho, rains_tots rs hb hr, addAll_comm]
  exact ovT_mono _ _ _ (addPre_mono (ovT_le ps _ (by rw [addAll_len]; exact tl)) _ _)
/-! ### tables by what they do -/
theorem tab_same {ps : List P3} {a b : List Dd} (oa : ∀ d ∈ a, d.On ps.length) (ob : ∀ d ∈ b, d.On ps.length) (h : ∀ L, Below ps L → lvs ps L a = lvs ps L b) : tabOf ps a = tabOf ps b := by
  refine tab_uniq (tabOf_shp ps a) (tabOf_shp ps b) fun T hT => ?_
  have hl : (levs T).length = ps.length := by rw [levs_len]; exact hT
  have e1 := led_tab (ps := ps) (ls := levs T) (ds := a) hl oa
  have e2 := led_tab (ps := ps) (ls := levs T) (ds := b) hl ob
  rw [tots_levs] at e1 e2
  unfold Led
  rw [e1, e2, h _ (ov_most ps _ hl)]
theorem Led_ge {ps : List P3} {a b : List Dd} (oa : ∀ d ∈ a, d.On ps.length) (ob : ∀ d ∈ b, d.On ps.length) (h : ∀ L, Below ps L → Ge (tots (lvs ps L a)) (tots (lvs ps L b))) {T : List Int} (hT : T.length = ps.length) : Ge (Led (tabOf ps a) T) (Led (tabOf ps b) T) := by
  have hl : (levs T).length = ps.length := by rw [levs_len]; exact hT
  have e1 := led_tab (ps := ps) (ls := levs T) (ds := a) hl oa
  have e2 := led_tab (ps := ps) (ls := levs T) (ds := b) hl ob
  rw [tots_levs] at e1 e2
  unfold Led
  rw [e1, e2]
  exact h _ (ov_most ps _ hl)
theorem tab_ge {n : Nat} {t u : Tab} (ht : Shp n t) (hu : Shp n u) (h : ∀ T : List Int, T.length = n → Ge (Led t T) (Led u T)) : (geL t u).all id = true := by
  rw [List.all_eq_true]
  intro x hx
  unfold geL at hx
  obtain ⟨⟨r, s⟩, hm, hx⟩ := List.mem_flatMap.1 hx
  obtain ⟨⟨y, z⟩, hm2, rfl⟩ := List.mem_map.1 hx
  obtain ⟨a, ra, sa⟩ := zip_ix hm
  obtain ⟨k, ry, sz⟩ := zip_ix hm2
  have ra : t[a]? = some r := ra
  have sa : u[a]? = some s := sa
  have ry : r[k]? = some y := ry
  have sz : s[k]? = some z := sz
  obtain ⟨lr, la⟩ := ht.rowl ra
  obtain ⟨ls, _⟩ := hu.rowl sa
  obtain ⟨B1, hB1⟩ := tab_bdd t
  obtain ⟨B2, hB2⟩ := tab_bdd u
  have hk : k < r.length := (List.getElem?_eq_some_iff.mp ry).1
  have q1 := evF_read (F := 4 * ((B1 + B2 : Nat) : Int) + 1) (B := B1 + B2) (by omega) (n := n) (p := a + k) (a := a) (row := r) (x := y) (by omega) (by omega) (by omega) (fun w hw => by have := hB1 r (List.mem_of_getElem? ra) w hw; omega) (by rw [Nat.add_sub_cancel_left]; exact ry)
  have q2 := evF_read (F := 4 * ((B1 + B2 : Nat) : Int) + 1) (B := B1 + B2) (by omega) (n := n) (p := a + k) (a := a) (row := s) (x := z) (by omega) (by omega) (by omega) (fun w hw => by have := hB2 s (List.mem_of_getElem? sa) w hw; omega) (by rw [Nat.add_sub_cancel_left]; exact sz)
  have g := (h (TpF (4 * ((B1 + B2 : Nat) : Int) + 1) n (a + k)) (TpF_len _ _ _)).2 a
  unfold Led at g
  rw [List.getD_eq_getElem?_getD, led_get, sa, List.getD_eq_getElem?_getD, led_get, ra] at g
  have g : ev s ((TpF (4 * ((B1 + B2 : Nat) : Int) + 1) n (a + k) ++ [0]).drop a) ≤ ev r ((TpF (4 * ((B1 + B2 : Nat) : Int) + 1) n (a + k) ++ [0]).drop a) := g
  show decide (y ≥ z) = true
  exact decide_eq_true (by omega)
theorem tab_notge {ps : List P3} {a b : List Dd} (oa : ∀ d ∈ a, d.On ps.length) (ob : ∀ d ∈ b, d.On ps.length) (hp : 1 ≤ ps.length) (h : sumAt ps a 1 < sumAt ps b 1) : (geL (tabOf ps a) (tabOf ps b)).all id = false := by
  have h1 := hds_tab (ps := ps) oa
  have h2 := hds_tab (ps := ps) ob
  have s1 := tabOf_shp ps a
  have s2 := tabOf_shp ps b
  obtain ⟨x, r, _, e1, _⟩ := s1.row (k := 0) hp
  obtain ⟨y, s, _, e2, _⟩ := s2.row (k := 0) hp
  have hx : x = sumAt ps a 1 := by
    have q := congrArg (·[0]?) h1
    unfold hds sums at q
    simp only [List.getElem?_map, e1, List.getElem?_range hp] at q
    exact Option.some.inj q
  have hy : y = sumAt ps b 1 := by
    have q := congrArg (·[0]?) h2
    unfold hds sums at q
    simp only [List.getElem?_map, e2, List.getElem?_range hp] at q
    exact Option.some.inj q
  have t1 : tabOf ps a = (x :: r) :: (tabOf ps a).drop 1 := by
    cases q : tabOf ps a with
    | nil => rw [q] at e1; cases e1
    | cons c d => rw [q] at e1; cases e1; rfl
  have t2 : tabOf ps b = (y :: s) :: (tabOf ps b).drop 1 := by
    cases q : tabOf ps b with
    | nil => rw [q] at e2; cases e2
    | cons c d => rw [q] at e2; cases e2; rfl
  rw [t1, t2]
  unfold geL
  rw [List.zip_cons_cons, List.flatMap_cons, List.zip_cons_cons, List.map_cons, List.cons_append, List.all_cons]
  show (decide (x ≥ y) && _) = false
  rw [decide_eq_false (by omega), Bool.false_and]
/-- far on -/
theorem iter_ge {ps : List P3} {a b : List Dd} (oa : ∀ d ∈ a, d.On ps.length) (ob : ∀ d ∈ b, d.On ps.length) (h : ∀ L, Below ps L → Ge (tots (lvs ps L a)) (tots (lvs ps L b))) : ∀ (m : Nat) {L M : List Int}, Below ps L → Below ps M → Ge (tots L) (tots M) → Ge (tots (iter (rnd ps a) m L)) (tots (iter (rnd ps b) m M))
  | 0, _, _, _, _, g => g
  | m + 1, L, M, hl, hm, g => iter_ge oa ob h m (lvs_below a hl) (lvs_below b hm) ((h L hl).trans (lvs_mono b hl.1 hm.1 ob g))
end Lw
namespace K77
open PySem PySem.Spec PyProof.Rows L2 Lw
def g_l_joined : MS :=
  (sq (asg (lstE argN) (tgN 2))
  (sq (forS (itR2 (cn (.int 1)) (op2 gAddA (vr 1) (cn (.int 1)))) (tgN 3) (sq (asg (cal1 gSumK (lcE (itS (vr 0)) [5] (tgN 5) (tst (op2 gEq (op2 gIx (vr 5) (cn (.int 1))) (vr 3))) (op2 gIx (vr 5) (cn (.int 2))))) (tgN 4))
  (asg (op2 gAddA (vr 2) (op2 gMulV (lstE (argV (tupE (argV (cn (.str "raise")) (argV (vr 3) (argV (vr 4) argN)))) argN)) (cal1 gInt (op2 gGt (vr 4) (cn (.int 0)))))) (tgN 2))))
  (retS (vr 2))))
def m_l_joined : Fsem := runFn g_l_joined 6
def g_l_stirred : MS :=
  (sq (par2 2 3 true true (cal1 gList (vr 1)) (lstE argN))
  (sq (forS (itR1 (cal1 gLen (vr 1))) (tgN 4) (exS (mth hApp (vr 3) (argV (mth hPopAt (vr 2) (argV (callE (m_l_take 4) (argR (vr 0) (argV (cal1 gLen (vr 2)) argN))) argN)) argN))))
  (retS (vr 3))))
def m_l_stirred : Fsem := runFn g_l_stirred 5
def g_l_far_right : MS :=
  (sq (asg (cal1 gTuple (lcE (itS (vr 1)) [7, 8, 9] (tgT 3 (tgsC (tgN 7) (tgsC (tgN 8) (tgsC (tgN 9) tgsN)))) (ret true) (op2 gSubA (vr 8) (op2 gMulA (vr 2) (callE (m_l_take 4) (argR (vr 0) (argV (op2 gIx (lstE (argV (cn (.int 3)) (argV (cn (.int 50)) argN))) (callE (m_l_take 4) (argR (vr 0) (argV (cn (.int 2)) argN)))) argN))))))) (tgN 6))
  (sq (asg (callE (m_l_take 4) (argR (vr 0) (argV (op2 gIx (lstE (argV (cn (.int 40)) (argV (op2 gPowA (cn (.int 10)) (cn (.int 18))) argN))) (callE (m_l_take 4) (argR (vr 0) (argV (cn (.int 2)) argN)))) argN))) (tgN 10))
  (sq (asg (lcE (itS (tupE (argV (vr 3) (argV (vr 4) argN)))) [12] (tgN 12) (ret true) (callE m_p_far_levels (argV (vr 1) (argV (vr 6) (argV (vr 12) (argV (vr 10) argN)))))) (tgN 11))
  (sq (ifS (tru (vr 5)) (retS (op2 gEq (op2 gIx (vr 11) (cn (.int 0))) (op2 gIx (vr 11) (cn (.int 1))))) skip)
  (retS (cal1 gAll (lcE (itZ2 (callE m_p_totals_of (argV (op2 gIx (vr 11) (cn (.int 0))) argN)) (callE m_p_totals_of (argV (op2 gIx (vr 11) (cn (.int 1))) argN))) [13, 14] (tgT 2 (tgsC (tgN 13) (tgsC (tgN 14) tgsN))) (ret true) (op2 gGe (vr 13) (vr 14)))))))))
def m_l_far_right : Fsem := runFn g_l_far_right 15
def g_l_right : MS :=
  (sq (asg (callE m_l_great (argR (vr 0) argN)) (tgN 1))
  (sq (asg (callE m_l_stair (argR (vr 0) (argV (cn (.int 6)) (argV (vr 1) argN)))) (tgN 2))
  (sq (asg (tupE (argV (cal1 gLen (vr 2)) (argV (op2 gIx (callE m_l_lap (argR (vr 0) (argV (cal1 gLen (vr 2)) (argV (cn (.int 8)) (argV (vr 1) argN))))) (cn (.int 0))) argN))) (tgT 2 (tgsC (tgN 3) (tgsC (tgN 4) tgsN))))
  (sq (asg (lcE (itR1 (op2 gAddA (cn (.int 1)) (callE (m_l_take 4) (argR (vr 0) (argV (cn (.int 5)) argN))))) [6] (tgN 6) (ret true) (tupE (argV (cn (.str "raise")) (argV (op2 gAddA (cn (.int 1)) (callE (m_l_take 4) (argR (vr 0) (argV (vr 3) argN)))) (argV (op2 gMulA (vr 1) (op2 gAddA (cn (.int 1)) (callE (m_l_take 4) (argR (vr 0) (argV (cn (.int 9)) argN))))) argN))))) (tgN 5))
  (sq (asg (callE (m_l_take 4) (argR (vr 0) (argV (op2 gAddA (cal1 gLen (vr 4)) (cn (.int 1))) argN))) (tgN 7))
  (sq (asg (op2 gAddA (op2 gAddA (slE (vr 4) ptN (ptS (vr 7))) (vr 5)) (slE (vr 4) (ptS (vr 7)) ptN)) (tgN 8))
  (sq (asg (op2 gAddA (op2 gAddA (slE (vr 4) ptN (ptS (vr 7))) (callE m_l_stirred (argR (vr 0) (argV (vr 5) argN)))) (slE (vr 4) (ptS (vr 7)) ptN)) (tgN 9))
  (sq (asg (op2 gAddA (op2 gAddA (slE (vr 4) ptN (ptS (vr 7))) (callE m_l_joined (argV (vr 5) (argV (vr 3) argN)))) (slE (vr 4) (ptS (vr 7)) ptN)) (tgN 10))
  (sq (ifS (orT (tst (op2 gIsNotB (callE m_p_alike (argV (vr 2) (argV (vr 8) (argV (vr 9) argN)))) (cn (.bool true)))) (tst (op2 gIsNotB (callE m_p_alike (argV (vr 2) (argV (vr 10) (argV (vr 9) argN)))) (cn (.bool true))))) (retS (cn (.bool false))) skip)
  (sq (ifS (orT (notT (tru (callE m_l_far_right (argR (vr 0) (argV (vr 2) (argV (vr 1) (argV (vr 8) (argV (vr 10) (argV (cn (.bool true)) argN))))))))) (notT (tru (callE m_l_far_right (argR (vr 0) (argV (vr 2) (argV (vr 1) (argV (vr 8) (argV (vr 4) (argV (cn (.bool false)) argN)))))))))) (retS (cn (.bool false))) skip)
  (sq (ifS (orT (tst (op2 gIsNotB (callE m_p_no_less (argV (vr 2) (argV (vr 8) (argV (vr 4) argN)))) (cn (.bool true)))) (tst (op2 gIsNotB (callE m_p_no_less (argV (vr 2) (argV (vr 4) (argV (vr 8) argN)))) (cn (.bool false))))) (retS (cn (.bool false))) skip)
  (sq (asg (tupE (argV (cn (.str "lower")) (argV (op2 gAddA (cn (.int 1)) (callE (m_l_take 4) (argR (vr 0) (argV (vr 3) argN)))) (argV (op2 gMulA (vr 1) (op2 gAddA (cn (.int 1)) (callE (m_l_take 4) (argR (vr 0) (argV (cn (.int 9)) argN))))) argN)))) (tgN 11))
  (sq (asg (op2 gAddA (op2 gAddA (slE (vr 4) ptN (ptS (vr 7))) (lstE (argV (vr 11) argN))) (slE (vr 4) (ptS (vr 7)) ptN)) (tgN 12))
  (sq (asg (op2 gAddA (op2 gAddA (op2 gAddA (slE (vr 4) ptN (ptS (vr 7))) (lstE (argV (vr 11) argN))) (vr 5)) (slE (vr 4) (ptS (vr 7)) ptN)) (tgN 13))
  (sq (asg (op2 gAddA (op2 gAddA (op2 gAddA (slE (vr 4) ptN (ptS (vr 7))) (vr 5)) (lstE (argV (vr 11) argN))) (slE (vr 4) (ptS (vr 7)) ptN)) (tgN 14))
  (sq (ifS (orT (tst (op2 gIsNotB (callE m_p_no_less (argV (vr 2) (argV (vr 4) (argV (vr 12) argN)))) (cn (.bool true)))) (tst (op2 gIsNotB (callE m_p_no_less (argV (vr 2) (argV (vr 13) (argV (vr 14) argN)))) (cn (.bool true))))) (retS (cn (.bool false))) skip)
  (retS (andV (callE m_l_far_right (argR (vr 0) (argV (vr 2) (argV (vr 1) (argV (vr 4) (argV (vr 12) (argV (cn (.bool false)) argN))))))) (callE m_l_far_right (argR (vr 0) (argV (vr 2) (argV (vr 1) (argV (vr 13) (argV (vr 14) (argV (cn (.bool false)) argN)))))))))))))))))))))))))
def m_l_right : Fsem := runFn g_l_right 15
def g_p_law : MS :=
  (sq (asg (callE m_l_folded (argV (vr 0) (argV (cn (.int 3)) argN))) (tgN 1))
  (retS (cal1 gAll (lcE (itR1 (op2 (g2I fun i j => if j > i then j else i) (cn (.int 2)) (cal1 gLen (vr 1)))) [2] (tgN 2) (ret true) (callF m_l_right (callE m_l_box (argV (vr 1) (argV (vr 2) argN))))))))
def m_p_law : Fsem := runFn g_p_law 3
end K77
-- F2
-- F3
-- F4
namespace K77
open PySem PySem.Spec PyProof.Rows L2 Lw
local macro_rules | `(tactic| walk_at "lw e") => `(tactic| (repeat (first | (with_reducible apply Exists.intro) | ((with_reducible refine And.intro ?_ ?_); · (first | (with_reducible exact pw_9) | (with_reducible exact pw_12) | (with_reducible exact pw_17) | (with_reducible exact pw_20) | (with_reducible exact pw_60) | (with_reducible exact pw_4) | (with_reducible exact pw_11) | (with_reducible exact pw_13) | (with_reducible exact pw_14) | (with_reducible exact pw_16) | (with_reducible exact pw_7) | (with_reducible exact pw_6) | (with_reducible exact pw_15) | (with_reducible exact pw_18) | (with_reducible exact pw_19) | (with_reducible exact pw_30) | (with_reducible exact pw_40) | (with_reducible exact tix0) | (with_reducible exact tix1) | (with_reducible exact tix2) | ((with_reducible apply mul_r); decide) | ((with_reducible apply mul_l); decide) | ((with_reducible apply div_i); decide) | ((with_reducible apply in_R); decide) | ((fail_if_success (with_reducible apply mul_r)); (fail_if_success (with_reducible apply div_i)); (fail_if_success (with_reducible apply dm_int)); (fail_if_success (with_reducible apply in_R)); rfl) | (exact Nat.le_of_ble_eq_true rfl) | (simp [refsOf]; done) | (exact ⟨rfl, rfl, by decide⟩) | (exact ⟨rfl, rfl, rfl⟩) | ((with_reducible apply tgN_o); (focus rfl); (focus (first | assumption | trivial))))) | ((with_reducible apply Sm.vrP); (focus rfl)) | ((with_reducible apply Sm.vrO); (focus rfl)) | (with_reducible refine Sm.cn ?_) | (with_reducible refine Sm.op2 ?_) | (with_reducible refine Sm.argV ?_) | (with_reducible refine Sm.callE ?_) | (with_reducible refine Sm.cal1 ?_) | (with_reducible refine Sm.sq ?_) | (with_reducible refine Sm.asgS ?_) | (with_reducible refine Sm.asg ?_) | (with_reducible refine Sm.retS ?_) | (with_reducible refine Sm.ifS ?_) | (with_reducible refine Sm.argN ?_) | (with_reducible refine Sm.tst ?_) | (with_reducible refine Sm.tupE ?_) | (with_reducible refine Sm.lstE ?_) | (with_reducible refine Sm.isE ?_) | (with_reducible refine Sm.argR ?_) | (with_reducible refine Sm.tru ?_) | (with_reducible refine Sm.andT ?_) | (with_reducible refine Sm.orT ?_) | (with_reducible refine Sm.notT ?_) | (with_reducible refine Sm.andV ?_) | (with_reducible refine Sm.orV ?_) | (with_reducible refine Sm.notV ?_) | (with_reducible refine Sm.negV ?_) | (with_reducible refine Sm.ife ?_) | (with_reducible refine Sm.chn ?_) | (with_reducible refine Sm.callF ?_) | (with_reducible refine Sm.slE ?_) | (with_reducible refine Sm.ptN ?_) | (with_reducible refine Sm.ptS ?_) | (with_reducible refine Sm.revE ?_) | (with_reducible refine Sm.mth ?_) | (with_reducible refine Sm.ret ?_) | (with_reducible refine Sm.esc ?_) | (with_reducible refine Sm.itS ?_) | (with_reducible refine Sm.itR1 ?_) | (with_reducible refine Sm.itR2 ?_) | (with_reducible refine Sm.itE ?_) | (with_reducible refine Sm.itZ ?_) | (with_reducible refine Sm.lcE2 ?_) | (with_reducible refine Sm.pvF ?_) | (with_reducible refine Sm.pvT ?_) | (with_reducible refine Sm.asgO ?_) | (with_reducible refine Sm.exS ?_) | (with_reducible refine Sm.skip ?_) | (with_reducible refine Sm.par2 ?_) | (with_reducible refine Sm.par3 ?_) | (with_reducible refine Sm.forS ?_) | (with_reducible refine Sm.at_nx ?_) | (with_reducible refine Sm.at_rt ?_) | (with_reducible refine Sm.oP ?_) | (with_reducible refine Sm.oF ?_) | (with_reducible refine Sm.fP ?_) | (with_reducible refine Sm.fF ?_) | (with_reducible refine Sm.itZ2 ?_) | (with_reducible refine Sm.itZ3 ?_) | (with_reducible refine Sm.itEn ?_) | (with_reducible refine Sm.argX ?_) | (with_reducible refine Sm.repE ?_) | ((with_reducible apply Sm.augI); (focus rfl)) | ((with_reducible refine Sm.dicE ?_ ?_); (focus decide)) | (with_reducible refine Sm.lzE ?_) | (with_reducible refine Sm.itV ?_) | (with_reducible refine Sm.itR3 ?_) | (with_reducible refine Sm.itRv1 ?_) | (with_reducible refine Sm.itRv2 ?_) | ((with_reducible apply Sm.augS); (focus rfl)) | (with_reducible refine Sm.parL3 ?_) | (with_reducible refine iteTT ?_) | (with_reducible refine iteT ?_) | (with_reducible refine iteF ?_) | ((with_reducible refine iteB1 ?_ ?_); (focus rfl)) | ((with_reducible refine iteB0 ?_ ?_); (focus rfl)))))
local macro_rules | `(tactic| walk_at "lw n") => `(tactic| (try dsimp only [ent, List.map, Nat.reduceAdd, Nat.reduceSub, List.length_cons, List.length_nil, List.replicate_succ, List.replicate_zero, List.cons_append, List.nil_append, putBack, setOwn, List.getElem?_cons_zero, List.getElem?_cons_succ, List.set_cons_zero, List.set_cons_succ, Sm.nf]))
local macro_rules | `(tactic| walk_at "lw v") => `(tactic| (try simp only [pb1, pb2, pb3, pb4, pb5, pb6]))
/-- a raise by no more than so much -/
def RainB (n g : Nat) (d : Dd) : Prop := ∃ (l : Nat) (m : Int), d = .raise l m ∧ 1 ≤ l ∧ l ≤ n ∧ 1 ≤ m ∧ m ≤ 9 * g
theorem RainB.rain {n g : Nat} {d : Dd} (h : RainB n g d) : d.Rain n := by
  obtain ⟨l, m, rfl, h1, h2, h3, h4⟩ := h
  exact ⟨h1, h2, by omega⟩
theorem RainB.d9 {n g : Nat} {d : Dd} (h : RainB n g d) : d.On n ∧ D9 g d := by
  obtain ⟨l, m, rfl, h1, h2, h3, h4⟩ := h
  exact ⟨⟨h1, h2⟩, h3, h4⟩
def FrQ (c : Nat) (rs : List Dd) (rest : List S) (r : R) (outs : List S) : Prop := ∃ (qs : List Dd) (b' : List D), r = .fresh (qs.map dd) ∧ qs.Perm rs ∧ Box c b' ∧ outs = .own true b' :: rest
theorem stirred_ok {c : Nat} {b : List D} {rs : List Dd} (hl : rs.length ≤ 20) (hb : Box (c + 16 * 20) b) : wpf m_l_stirred [.own true b, .pure (.list (rs.map dd))] (FrQ c rs [.pure (.list (rs.map dd))]) := by
  refine Sm.run ?_
  unfold g_l_stirred
  walk_at "lw n"
  walk_at "lw e"
  walk_at "lw n"
  walk_at "lw e"
  rw [List.length_map]
  refine ⟨in_R (by omega), ?_⟩
  refine Sm.loopInv (fun j ς => ∃ b' lf ot x4, ς = [some (.own true b'), some (.pure (.list (rs.map dd))), some (.own false (lf.map dd)), some (.own false (ot.map dd)), x4] ∧ lf.length + j = rs.length ∧ (ot ++ lf).Perm rs ∧ Box (c + 16 * lf.length) b' ∧ Fr x4) ⟨b, rs, [], none, rfl, rfl, List.Perm.refl _, hb.less (by omega), trivial⟩ ?_ ?_
  · rintro j d ς hx ⟨b', lf, ot, x4, rfl, l1, hp, hb', f4⟩
    obtain ⟨hj, rfl⟩ := rng_at hx
    have hj : j < rs.length := by simpa using hj
    have hpl := hp.length_eq
    rw [List.length_append] at hpl
    refine ⟨_, tgN_o rfl f4, ?_⟩
    walk_at "lw n"
    walk_at "lw e"
    rw [List.length_map]
    refine Sm.fmono (take4 (c := c + 16 * (lf.length - 1)) (Box.less hb' (by omega)) (by omega) (by omega)) fun r o h => ?_
    obtain ⟨v, b5, rfl, l5, u5, h5, rfl⟩ := h
    refine ⟨nref, ?_⟩
    obtain ⟨d0, ws2, rfl⟩ : ∃ d0 w2, lf = d0 :: w2 := by
      cases lf with
      | nil => rw [List.length_nil] at l1; omega
      | cons d0 w2 => exact ⟨d0, w2, rfl⟩
    walk_at "lw n"
    walk_at "lw e"
    refine ⟨pop_ok (ds := (d0 :: ws2).map dd) l5 (by rw [List.length_map]; exact u5) (by rw [List.length_map]; omega), ?_⟩
    rw [map_getD dd d0 (d0 :: ws2) (by omega), map_erase]
    walk_at "lw e"
    refine ⟨app_ok (by rw [List.length_map]; omega), ?_⟩
    have ea : ot.map dd ++ [dd ((d0 :: ws2).getD v.toNat d0)] = (ot ++ [(d0 :: ws2).getD v.toNat d0]).map dd := by rw [List.map_append]; rfl
    rw [ea]
    have hpe := perm_erase d0 (d0 :: ws2) v.toNat (by omega)
    have hle : ((d0 :: ws2).eraseIdx v.toNat).length = (d0 :: ws2).length - 1 := by rw [List.length_eraseIdx, if_pos (by omega)]
    refine ⟨b5, (d0 :: ws2).eraseIdx v.toNat, ot ++ [(d0 :: ws2).getD v.toNat d0], _, rfl, ?_, ?_, ?_, trivial⟩
    · rw [hle]; omega
    · rw [List.append_assoc]
      exact (hpe.append_left ot).trans hp
    · rw [hle]; exact h5
  · rintro ς ⟨b', lf, ot, x4, rfl, l1, hp, hb', f4⟩
    have e : (rngD 0 (rs.length : Int).toNat).length = rs.length := rngD_len _ _
    rw [e] at l1
    have hlf : lf = [] := List.eq_nil_of_length_eq_zero (by omega)
    subst hlf
    rw [List.append_nil] at hp
    walk_at "lw e"
    exact .inl ⟨_, rfl, nfr, ot, b', rfl, hp, hb'.less (by omega), rfl⟩
/-! ### joined -/
def much (p : Nat) : List Dd → Int
  | [] => 0
  | .raise l m :: rs => (if l = p then m else 0) + much p rs
  | _ :: rs => much p rs
def jn (rs : List Dd) : Nat → List Dd
  | 0 => []
  | k + 1 => jn rs k ++ if 0 < much (k + 1) rs then [.raise (k + 1) (much (k + 1) rs)] else []
theorem much_nn {n g : Nat} {p : Nat} : ∀ {rs : List Dd}, (∀ d ∈ rs, RainB n g d) → 0 ≤ much p rs
  | [], _ => Int.le_refl _
  | d :: rs, h => by
    have ih := much_nn (p := p) (rs := rs) fun e m => h e (by simp [m])
    obtain ⟨l, m, rfl, h1, h2, h3, h4⟩ := h d (by simp)
    show 0 ≤ (if l = p then m else 0) + much p rs
    split <;> omega
theorem jn_rain {n g : Nat} {rs : List Dd} (h : ∀ d ∈ rs, RainB n g d) : ∀ k : Nat, k ≤ n → ∀ d ∈ jn rs k, d.Rain n
  | 0, _, d, m => by cases m
  | k + 1, hk, d, m => by
    rcases List.mem_append.1 m with m | m
    · exact jn_rain h k (by omega) d m
    · split at m
      · rw [List.mem_singleton.1 m]
        exact ⟨by omega, hk, much_nn h⟩
      · cases m
theorem jn_len (rs : List Dd) : ∀ k : Nat, (jn rs k).length ≤ k
  | 0 => Nat.le_refl _
  | k + 1 => by
    have := jn_len rs k
    show (jn rs k ++ _).length ≤ _
    rw [List.length_append]
    split <;> simp <;> omega
theorem rnAt_app (j : Nat) : ∀ a b : List Dd, rnAt j (a ++ b) = rnAt j a + rnAt j b
  | [], b => by show rnAt j b = 0 + rnAt j b; omega
  | .raise l m :: a, b => by
    show (if j < l then m else 0) + rnAt j (a ++ b) = (if j < l then m else 0) + rnAt j a + rnAt j b
    rw [rnAt_app j a b]; omega
  | .lower l m :: a, b => rnAt_app j a b
  | .fill l :: a, b => rnAt_app j a b
  | .empty l :: a, b => rnAt_app j a b
def rnTo (j k : Nat) : List Dd → Int
  | [] => 0
  | .raise l m :: rs => (if j < l ∧ l ≤ k then m else 0) + rnTo j k rs
  | _ :: rs => rnTo j k rs
theorem rnTo_step {n g : Nat} (j k : Nat) : ∀ {rs : List Dd}, (∀ d ∈ rs, RainB n g d) → rnTo j (k + 1) rs = rnTo j k rs + if j < k + 1 then much (k + 1) rs else 0
  | [], _ => by show (0 : Int) = 0 + if j < k + 1 then 0 else 0; split <;> rfl
  | d :: rs, h => by
    have ih := rnTo_step j k (rs := rs) fun e m => h e (by simp [m])
    obtain ⟨l, m, rfl, h1, h2, h3, h4⟩ := h d (by simp)
    show (if j < l ∧ l ≤ k + 1 then m else 0) + rnTo j (k + 1) rs = (if j < l ∧ l ≤ k then m else 0) + rnTo j k rs + if j < k + 1 then ((if l = k + 1 then m else 0) + much (k + 1) rs) else 0
    rw [ih]
    by_cases q1 : j < k + 1
    · rw [if_pos q1, if_pos q1]
      by_cases q2 : l = k + 1
      · rw [if_pos (by omega), if_neg (by omega), if_pos q2]; omega
      · by_cases q3 : j < l ∧ l ≤ k
        · rw [if_pos (by omega), if_pos q3, if_neg q2]; omega
        · rw [if_neg (by omega), if_neg q3, if_neg q2]; omega
    · rw [if_neg q1, if_neg q1]
      by_cases q3 : j < l ∧ l ≤ k
      · omega
      · rw [if_neg (by omega), if_neg q3]; omega
theorem rnTo_zero {n g : Nat} (j : Nat) : ∀ {rs : List Dd}, (∀ d ∈ rs, RainB n g d) → rnTo j 0 rs = 0
  | [], _ => rfl
  | d :: rs, h => by
    have ih := rnTo_zero j (rs := rs) fun e m => h e (by simp [m])
    obtain ⟨l, m, rfl, h1, h2, h3, h4⟩ := h d (by simp)
    show (if j < l ∧ l ≤ 0 then m else 0) + rnTo j 0 rs = 0
    rw [ih, if_neg (by omega)]; rfl
theorem rnTo_all {n g : Nat} (j : Nat) : ∀ {rs : List Dd}, (∀ d ∈ rs, RainB n g d) → rnTo j n rs = rnAt j rs
  | [], _ => rfl
  | d :: rs, h => by
    have ih := rnTo_all j (rs := rs) fun e m => h e (by simp [m])
    obtain ⟨l, m, rfl, h1, h2, h3, h4⟩ := h d (by simp)
    show (if j < l ∧ l ≤ n then m else 0) + rnTo j n rs = (if j < l then m else 0) + rnAt j rs
    rw [ih]
    by_cases q : j < l
    · rw [if_pos ⟨q, h2⟩, if_pos q]
    · rw [if_neg (fun z => q z.1), if_neg q]
theorem jn_at {n g : Nat} {rs : List Dd} (h : ∀ d ∈ rs, RainB n g d) (j : Nat) : ∀ k : Nat, rnAt j (jn rs k) = rnTo j k rs
  | 0 => by rw [rnTo_zero j h]; rfl
  | k + 1 => by
    have mn := much_nn (p := k + 1) h
    rw [rnTo_step j k h, ← jn_at h j k]
    show rnAt j (jn rs k ++ _) = _
    rw [rnAt_app]
    congr 1
    by_cases q : 0 < much (k + 1) rs
    · rw [if_pos q]
      show (if j < k + 1 then much (k + 1) rs else 0) + 0 = _
      omega
    · rw [if_neg q]
      have : much (k + 1) rs = 0 := by omega
      rw [this]
      show (0 : Int) = _
      split <;> rfl
def at1 (p : Nat) : D → Bool
  | .tuple [_, .int l, _] => decide (l = (p : Int))
  | _ => false
def thd : D → D
  | .tuple [_, _, m] => m
  | d => d
theorem much_sum {n g : Nat} (p : Nat) : ∀ {rs : List Dd}, (∀ d ∈ rs, RainB n g d) → ∃ ms : List Int, ((rs.map dd).filter (at1 p)).map thd = ms.map PyData.int ∧ ms.sum = much p rs
  | [], _ => ⟨[], rfl, rfl⟩
  | d :: rs, h => by
    obtain ⟨ms, e1, e2⟩ := much_sum p (rs := rs) fun e m => h e (by simp [m])
    obtain ⟨l, m, rfl, h1, h2, h3, h4⟩ := h d (by simp)
    by_cases q : l = p
    · refine ⟨m :: ms, ?_, ?_⟩
      · rw [List.map_cons, List.filter_cons_of_pos (by show decide ((l : Int) = (p : Int)) = true; exact decide_eq_true (by omega)), List.map_cons, e1]
        rfl
      · show (m :: ms).sum = (if l = p then m else 0) + much p rs
        rw [List.sum_cons, e2, if_pos q]
    · refine ⟨ms, ?_, ?_⟩
      · rw [List.map_cons, List.filter_cons_of_neg (by show ¬ decide ((l : Int) = (p : Int)) = true; rw [decide_eq_false (by omega)]; decide), e1]
      · show ms.sum = (if l = p then m else 0) + much p rs
        rw [e2, if_neg q]; omega
theorem joined_ok {n g : Nat} {rs : List Dd} (hn : n ≤ 6) (hl : rs.length ≤ 20) (h : ∀ d ∈ rs, RainB n g d) : wpf m_l_joined [.pure (.list (rs.map dd)), .pure (.int n)] (ValQ fun x => x = .list ((jn rs n).map dd)) := by
  have hsl : sizeLine = 16777216 := rfl
  refine Sm.run ?_
  unfold g_l_joined
  walk_at "lw n"
  walk_at "lw e"
  refine ⟨in_R (by omega), ?_⟩
  rw [show (((n : Int) + 1 - 1).toNat) = n by omega]
  refine Sm.loopInv (fun j ς => ∃ x3 x4, ς = [some (.pure (.list (rs.map dd))), some (.pure (.int n)), some (.pure (.list ((jn rs j).map dd))), x3, x4, none] ∧ Fr x3 ∧ Fr x4) ⟨none, none, rfl, trivial, trivial⟩ ?_ ?_
  · rintro j d ς hx ⟨x3, x4, rfl, f3, f4⟩
    have hj : j < n := by have := (List.getElem?_eq_some_iff.mp hx).1; rw [rngD_len] at this; exact this
    rw [rngD_get n 1 j hj] at hx
    cases hx
    obtain ⟨ms, e1, e2⟩ := much_sum (j + 1) h
    have jl := jn_len rs j
    refine ⟨_, tgN_o rfl f3, ?_⟩
    rw [show (1 : Int) + (j : Int) = ((j + 1 : Nat) : Int) by omega]
    walk_at "lw n"
    walk_at "lw e"
    refine Sm.lcFil (at1 (j + 1)) thd (by rw [List.length_map]; omega) ?_ ?_
    · intro d hd
      obtain ⟨d0, m0, rfl⟩ := List.mem_map.1 hd
      obtain ⟨l, m, rfl, h1, h2, h3, h4⟩ := h d0 m0
      refine ⟨_, tgN_o rfl trivial, ?_⟩
      walk_at "lw n"
      walk_at "lw e"
      intro _
      walk_at "lw e"
      first | rfl | exact ⟨rfl, rfl⟩ | exact ⟨_, rfl, rfl, rfl⟩
    rw [e1]
    dsimp only [wipeE]
    walk_at "lw n"
    walk_at "lw e"
    refine ⟨sumK_ok (.inl rfl), ?_⟩
    rw [e2]
    refine ⟨_, _, _, rfl, tgN_o rfl f4, Sm.at_nx ?_⟩
    walk_at "lw n"
    by_cases q : 0 < much (j + 1) rs
    · have hmul : gMulV (.list [.tuple [.str "raise", .int ((j + 1 : Nat) : Int), .int (much (j + 1) rs)]]) (.int (if decide (0 < much (j + 1) rs) = true then 1 else 0)) = some (.fresh [dd (.raise (j + 1) (much (j + 1) rs))]) := by
        rw [if_pos (decide_eq_true q)]; exact repL_ok (n := 1) (by simp)
      walk_at "lw e"
      refine ⟨hmul, ?_⟩
      walk_at "lw e"
      refine ⟨catL_ok (by rw [List.length_map, List.length_singleton]; omega), ?_⟩
      have ea : (jn rs j).map dd ++ [dd (Dd.raise (j + 1) (much (j + 1) rs))] = (jn rs (j + 1)).map dd := by
        show _ = (jn rs j ++ _).map dd
        rw [if_pos q, List.map_append]
        rfl
      rw [ea]
      refine ⟨_, _, _, rfl, rfl, ?_⟩
      exact ⟨_, _, rfl, trivial, trivial⟩
    · have hmul : gMulV (.list [.tuple [.str "raise", .int ((j + 1 : Nat) : Int), .int (much (j + 1) rs)]]) (.int (if decide (0 < much (j + 1) rs) = true then 1 else 0)) = some (.fresh []) := by
        rw [if_neg (by rw [decide_eq_false q]; decide)]; exact repL_ok (n := 0) (by simp)
      walk_at "lw e"
      refine ⟨hmul, ?_⟩
      walk_at "lw e"
      refine ⟨catL_ok (by rw [List.length_map, List.length_nil]; omega), ?_⟩
      have ea : (jn rs j).map dd ++ [] = (jn rs (j + 1)).map dd := by
        show _ = (jn rs j ++ _).map dd
        rw [if_neg q, List.map_append]
        rfl
      rw [ea]
      refine ⟨_, _, _, rfl, rfl, ?_⟩
      exact ⟨_, _, rfl, trivial, trivial⟩
  · rintro ς ⟨x3, x4, rfl, f3, f4⟩
    rw [rngD_len]
    walk_at "lw e"
    exact ⟨_, rfl, rfl⟩
end K77
-- F2
-- F3
-- F4
namespace K77
open PySem PySem.Spec PyProof.Rows L2 Lw
local macro_rules | `(tactic| walk_at "lw e") => `(tactic| (repeat (first | (with_reducible apply Exists.intro) | ((with_reducible refine And.intro ?_ ?_); · (first | (with_reducible exact pw_9) | (with_reducible exact pw_12) | (with_reducible exact pw_17) | (with_reducible exact pw_20) | (with_reducible exact pw_60) | (with_reducible exact pw_4) | (with_reducible exact pw_11) | (with_reducible exact pw_13) | (with_reducible exact pw_14) | (with_reducible exact pw_16) | (with_reducible exact pw_7) | (with_reducible exact pw_6) | (with_reducible exact pw_15) | (with_reducible exact pw_18) | (with_reducible exact pw_19) | (with_reducible exact pw_30) | (with_reducible exact pw_40) | (with_reducible exact tix0) | (with_reducible exact tix1) | (with_reducible exact tix2) | ((with_reducible apply mul_r); decide) | ((with_reducible apply mul_l); decide) | ((with_reducible apply div_i); decide) | ((with_reducible apply in_R); decide) | ((fail_if_success (with_reducible apply mul_r)); (fail_if_success (with_reducible apply div_i)); (fail_if_success (with_reducible apply dm_int)); (fail_if_success (with_reducible apply in_R)); rfl) | (exact Nat.le_of_ble_eq_true rfl) | (simp [refsOf]; done) | (exact ⟨rfl, rfl, by decide⟩) | (exact ⟨rfl, rfl, rfl⟩) | ((with_reducible apply tgN_o); (focus rfl); (focus (first | assumption | trivial))))) | ((with_reducible apply Sm.vrP); (focus rfl)) | ((with_reducible apply Sm.vrO); (focus rfl)) | (with_reducible refine Sm.cn ?_) | (with_reducible refine Sm.op2 ?_) | (with_reducible refine Sm.argV ?_) | (with_reducible refine Sm.callE ?_) | (with_reducible refine Sm.cal1 ?_) | (with_reducible refine Sm.sq ?_) | (with_reducible refine Sm.asgS ?_) | (with_reducible refine Sm.asg ?_) | (with_reducible refine Sm.retS ?_) | (with_reducible refine Sm.ifS ?_) | (with_reducible refine Sm.argN ?_) | (with_reducible refine Sm.tst ?_) | (with_reducible refine Sm.tupE ?_) | (with_reducible refine Sm.lstE ?_) | (with_reducible refine Sm.isE ?_) | (with_reducible refine Sm.argR ?_) | (with_reducible refine Sm.tru ?_) | (with_reducible refine Sm.andT ?_) | (with_reducible refine Sm.orT ?_) | (with_reducible refine Sm.notT ?_) | (with_reducible refine Sm.andV ?_) | (with_reducible refine Sm.orV ?_) | (with_reducible refine Sm.notV ?_) | (with_reducible refine Sm.negV ?_) | (with_reducible refine Sm.ife ?_) | (with_reducible refine Sm.chn ?_) | (with_reducible refine Sm.callF ?_) | (with_reducible refine Sm.slE ?_) | (with_reducible refine Sm.ptN ?_) | (with_reducible refine Sm.ptS ?_) | (with_reducible refine Sm.revE ?_) | (with_reducible refine Sm.mth ?_) | (with_reducible refine Sm.ret ?_) | (with_reducible refine Sm.esc ?_) | (with_reducible refine Sm.itS ?_) | (with_reducible refine Sm.itR1 ?_) | (with_reducible refine Sm.itR2 ?_) | (with_reducible refine Sm.itE ?_) | (with_reducible refine Sm.itZ ?_) | (with_reducible refine Sm.lcE2 ?_) | (with_reducible refine Sm.pvF ?_) | (with_reducible refine Sm.pvT ?_) | (with_reducible refine Sm.asgO ?_) | (with_reducible refine Sm.exS ?_) | (with_reducible refine Sm.skip ?_) | (with_reducible refine Sm.par2 ?_) | (with_reducible refine Sm.par3 ?_) | (with_reducible refine Sm.forS ?_) | (with_reducible refine Sm.at_nx ?_) | (with_reducible refine Sm.at_rt ?_) | (with_reducible refine Sm.oP ?_) | (with_reducible refine Sm.oF ?_) | (with_reducible refine Sm.fP ?_) | (with_reducible refine Sm.fF ?_) | (with_reducible refine Sm.itZ2 ?_) | (with_reducible refine Sm.itZ3 ?_) | (with_reducible refine Sm.itEn ?_) | (with_reducible refine Sm.argX ?_) | (with_reducible refine Sm.repE ?_) | ((with_reducible apply Sm.augI); (focus rfl)) | ((with_reducible refine Sm.dicE ?_ ?_); (focus decide)) | (with_reducible refine Sm.lzE ?_) | (with_reducible refine Sm.itV ?_) | (with_reducible refine Sm.itR3 ?_) | (with_reducible refine Sm.itRv1 ?_) | (with_reducible refine Sm.itRv2 ?_) | ((with_reducible apply Sm.augS); (focus rfl)) | (with_reducible refine Sm.parL3 ?_) | (with_reducible refine iteTT ?_) | (with_reducible refine iteT ?_) | (with_reducible refine iteF ?_) | ((with_reducible refine iteB1 ?_ ?_); (focus rfl)) | ((with_reducible refine iteB0 ?_ ?_); (focus rfl)))))
local macro_rules | `(tactic| walk_at "lw n") => `(tactic| (try dsimp only [ent, List.map, Nat.reduceAdd, Nat.reduceSub, List.length_cons, List.length_nil, List.replicate_succ, List.replicate_zero, List.cons_append, List.nil_append, putBack, setOwn, List.getElem?_cons_zero, List.getElem?_cons_succ, List.set_cons_zero, List.set_cons_succ, Sm.nf]))
local macro_rules | `(tactic| walk_at "lw v") => `(tactic| (try simp only [pb1, pb2, pb3, pb4, pb5, pb6]))
def tailF : MS :=
  (sq (ifS (tru (vr 5)) (retS (op2 gEq (op2 gIx (vr 11) (cn (.int 0))) (op2 gIx (vr 11) (cn (.int 1))))) skip)
  (retS (cal1 gAll (lcE (itZ2 (callE m_p_totals_of (argV (op2 gIx (vr 11) (cn (.int 0))) argN)) (callE m_p_totals_of (argV (op2 gIx (vr 11) (cn (.int 1))) argN))) [13, 14] (tgT 2 (tgsC (tgN 13) (tgsC (tgN 14) tgsN))) (ret true) (op2 gGe (vr 13) (vr 14))))))
def midF : MS :=
  (sq (asg (callE (m_l_take 4) (argR (vr 0) (argV (op2 gIx (lstE (argV (cn (.int 40)) (argV (op2 gPowA (cn (.int 10)) (cn (.int 18))) argN))) (callE (m_l_take 4) (argR (vr 0) (argV (cn (.int 2)) argN)))) argN))) (tgN 10))
  (sq (asg (lcE (itS (tupE (argV (vr 3) (argV (vr 4) argN)))) [12] (tgN 12) (ret true) (callE m_p_far_levels (argV (vr 1) (argV (vr 6) (argV (vr 12) (argV (vr 10) argN)))))) (tgN 11))
  (sq (ifS (tru (vr 5)) (retS (op2 gEq (op2 gIx (vr 11) (cn (.int 0))) (op2 gIx (vr 11) (cn (.int 1))))) skip)
  (retS (cal1 gAll (lcE (itZ2 (callE m_p_totals_of (argV (op2 gIx (vr 11) (cn (.int 0))) argN)) (callE m_p_totals_of (argV (op2 gIx (vr 11) (cn (.int 1))) argN))) [13, 14] (tgT 2 (tgsC (tgN 13) (tgsC (tgN 14) tgsN))) (ret true) (op2 gGe (vr 13) (vr 14))))))))
def pk350 (v : Int) : Int := if v = 0 then 3 else 50
theorem pick350 {v : Int} (h0 : 0 ≤ v) (h1 : v < 2) : gIx (.list [.int 3, .int 50]) (.int v) = some (.pure (.int (pk350 v))) := by
  have : v = 0 ∨ v = 1 := by omega
  rcases this with rfl | rfl <;> rfl
theorem pk350_b (v : Int) : 1 ≤ pk350 v ∧ pk350 v ≤ 50 := by unfold pk350; split <;> decide
def pk4 (v : Int) : Int := if v = 0 then 40 else 1000000000000000000
theorem pick4 {v : Int} (h0 : 0 ≤ v) (h1 : v < 2) : gIx (.list [.int 40, .int 1000000000000000000]) (.int v) = some (.pure (.int (pk4 v))) := by
  have : v = 0 ∨ v = 1 := by omega
  rcases this with rfl | rfl <;> rfl
theorem pk4_b (v : Int) : 1 ≤ pk4 v ∧ pk4 v ≤ 1000000000000000000 := by unfold pk4; split <;> decide
theorem flat_step50 {g : Nat} (hg : g ≤ 1000000000000000) {p : P3} (hp : PoundI g p) {v : Int} (h0 : 0 ≤ v) (h1 : v < 50) : p.2.1 - g * v ≤ p.2.1 ∧ (p.2.1 - g * v).natAbs ≤ 200000000000000000 := by
  have := pound_b hg hp
  have k0 : 0 ≤ (g : Int) * v := Int.mul_nonneg (by omega) h0
  have k1 : (g : Int) * v ≤ g * 50 := Int.mul_le_mul_of_nonneg_left (by omega) (by omega)
  omega
def fl (ps : List P3) (ds : List Dd) (ns : List Int) (m : Nat) : List Int := iter (rnd ps ds) m ns
def stF (b : List D) (g : Nat) (ps : List P3) (x y : D) (s5 : Option S) (ns : List Int) (o10 o11 : Option S) : En := [some (.own true b), some (.pure (.tuple (ps.map pd))), some (.pure (.int g)), some (.pure x), some (.pure y), s5, some (.pure (it ns)), none, none, none, o10, o11, none, none, none]
structure Fl (g : Nat) (ps : List P3) (a b : List Dd) : Prop where
  g1 : 1 ≤ g
  g2 : g ≤ 1000000000000000
  x1 : 1 ≤ ps.length
  x2 : ps.length ≤ 6
  hp : ∀ p ∈ ps, PoundI g p
  oa : ∀ d ∈ a, d.On ps.length
  ob : ∀ d ∈ b, d.On ps.length
  la : a.length ≤ 100
  lb : b.length ≤ 100
theorem midF_ok {c g : Nat} {ps : List P3} {a b : List Dd} {bx : List D} {ns : List Int} {s5 : Option S} {Q : Out → Prop} (e : Fl g ps a b) (hn : Below ps ns) (hb : Box (c + 32) bx)
    (hQ : ∀ b' m, m ≤ 1000000000000000000 → Box c b' → wps tailF (stF b' g ps (.list (a.map dd)) (.list (b.map dd)) s5 ns (some (.pure (.int (m : Nat)))) (some (.pure (.list [it (fl ps a ns m), it (fl ps b ns m)])))) Q) : wps midF (stF bx g ps (.list (a.map dd)) (.list (b.map dd)) s5 ns none none) Q := by
  have h6 := e.x2
  have hsl : sizeLine = 16777216 := rfl
  unfold midF stF
  change wps (sq _ (sq _ tailF)) _ _
  walk_at "lw e"
  (refine Sm.fmono (take4 (c := c + 16) (Box.less hb (by omega)) (by omega) (by omega)) fun r o h => ?_; obtain ⟨v1, b1, rfl, l1, u1, h1, rfl⟩ := h; refine ⟨nref, ?_⟩; walk_at "lw n"; walk_at "lw e")
  refine ⟨pick4 l1 u1, ?_⟩
  have k4 := pk4_b v1
  walk_at "lw e"
  refine Sm.fmono (take4 (c := c) (Box.less h1 (by omega)) (by omega) (by omega)) fun r o h => ?_
  obtain ⟨v, b2, rfl, l2, u2, hb2, rfl⟩ := h
  refine ⟨nref, ?_⟩
  obtain ⟨m, rfl⟩ : ∃ m : Nat, v = (m : Int) := ⟨v.toNat, by omega⟩
  have hm : m ≤ 1000000000000000000 := by omega
  have hm2 : m < 2 ^ 200 := Nat.lt_of_le_of_lt hm (by decide)
  have f1 := far_levels_ok (m := m) (Stair.gen (st := .tuple (ps.map pd)) (ps := ps) (.inl rfl)) (lv := it ns) (.inr rfl) (deeds_gen a) e.oa (by omega) hn.1 (by have := e.la; omega) hm2
  have f2 := far_levels_ok (m := m) (Stair.gen (st := .tuple (ps.map pd)) (ps := ps) (.inl rfl)) (lv := it ns) (.inr rfl) (deeds_gen b) e.ob (by omega) hn.1 (by have := e.lb; omega) hm2
  rw [iter_led e.oa m hn, levs_tots] at f1
  rw [iter_led e.ob m hn, levs_tots] at f2
  walk_at "lw n"
  refine ⟨_, _, _, rfl, rfl, Sm.at_nx ?_⟩
  walk_at "lw n"
  walk_at "lw e"
  refine Sm.lcInv (fun j acc ς => acc = [it (fl ps a ns m), it (fl ps b ns m)].take j ∧ ς = stF b2 g ps (.list (a.map dd)) (.list (b.map dd)) s5 ns (some (.pure (.int (m : Nat)))) none) ⟨rfl, rfl⟩ (by show 2 ≤ 16777216; omega) ?_ ?_
  · rintro j d acc ς hd hj ⟨rfl, rfl⟩
    have hj2 : j = 0 ∨ j = 1 := by have := (List.getElem?_eq_some_iff.mp hd).1; simp at this; omega
    rcases hj2 with rfl | rfl
    · cases hd
      refine ⟨_, tgN_o rfl trivial, ?_⟩
      walk_at "lw n"
      walk_at "lw e"
      (refine Sm.fmono (f1) fun r o h => ?_; obtain ⟨d, rfl, rfl⟩ := h; refine ⟨nref, ?_⟩; walk_at "lw v"; walk_at "lw e")
      first | rfl | exact ⟨rfl, rfl⟩
    · cases hd
      refine ⟨_, tgN_o rfl trivial, ?_⟩
      walk_at "lw n"
      walk_at "lw e"
      (refine Sm.fmono (f2) fun r o h => ?_; obtain ⟨d, rfl, rfl⟩ := h; refine ⟨nref, ?_⟩; walk_at "lw v"; walk_at "lw e")
      first | rfl | exact ⟨rfl, rfl⟩
  · rintro acc ς hacc ⟨rfl, rfl⟩
    unfold stF
    refine ⟨_, _, _, rfl, tgN_o rfl trivial, Sm.at_nx ?_⟩
    walk_at "lw n"
    exact hQ b2 m hm hb2
def IFf (c g : Nat) (ps : List P3) (a b : List Dd) (x5 : D) (j : Nat) (acc : List D) (ς : En) : Prop := ∃ (bs : List D) (ns : List Int), ς = [some (.own true bs), some (.pure (.tuple (ps.map pd))), some (.pure (.int g)), some (.pure (.list (a.map dd))), some (.pure (.list (b.map dd))), some (.pure x5), none, none, none, none, none, none, none, none, none] ∧ acc = ns.map PyData.int ∧ ns.length = j ∧ FlatP ps ns ∧ Box (c + 32 + 32 * (7 - j)) bs
theorem far_pre {c g : Nat} {ps : List P3} {a b : List Dd} {bx : List D} {x5 : D} {Q : R → List S → Prop} (e : Fl g ps a b) (hb : Box (c + 300) bx)
    (hQ : ∀ b' ns m, Below ps ns → (∀ n ∈ ns, n.natAbs ≤ 200000000000000000) → m ≤ 1000000000000000000 → Box c b' → wps tailF (stF b' g ps (.list (a.map dd)) (.list (b.map dd)) (some (.pure x5)) ns (some (.pure (.int (m : Nat)))) (some (.pure (.list [it (fl ps a ns m), it (fl ps b ns m)])))) (Sm.outF 6 Q)) : wpf m_l_far_right [.own true bx, .pure (.tuple (ps.map pd)), .pure (.int g), .pure (.list (a.map dd)), .pure (.list (b.map dd)), .pure x5] Q := by
  have h6 := e.x2
  have g1 := e.g1
  have g2 := e.g2
  have hsl : sizeLine = 16777216 := rfl
  refine Sm.run ?_
  unfold g_l_far_right
  change wps (sq _ midF) _ _
  walk_at "lw n"
  walk_at "lw e"
  refine Sm.lcInv (IFf c g ps a b x5) ⟨bx, [], rfl, rfl, rfl, (fun i n h => by cases h), hb.less (by omega)⟩ (by rw [List.length_map]; omega) ?_ ?_
  · rintro j d acc ς hd hj ⟨bs, ns, rfl, rfl, hn, hR, hb2⟩
    have hjl : j < 6 := by have := (List.getElem?_eq_some_iff.mp hd).1; rw [List.length_map] at this; omega
    rw [List.getElem?_map] at hd
    cases q : ps[j]? with
    | none => rw [q] at hd; cases hd
    | some p =>
      rw [q] at hd
      cases hd
      refine ⟨_, tgT3_o rfl trivial rfl trivial rfl trivial, ?_⟩
      walk_at "lw n"
      walk_at "lw e"
      (refine Sm.fmono (take4 (c := c + 32 + 32 * (7 - j) - 16) (Box.less hb2 (by omega)) (by omega) (by omega)) fun r o h => ?_; obtain ⟨v5, b5, rfl, l5, u5, h5, rfl⟩ := h; refine ⟨nref, ?_⟩; walk_at "lw n"; walk_at "lw e")
      refine ⟨pick350 l5 u5, ?_⟩
      have k4 := pk350_b v5
      walk_at "lw e"
      (refine Sm.fmono (take4 (c := c + 32 + 32 * (7 - (j + 1))) (Box.less h5 (by omega)) (by omega) (by omega)) fun r o h => ?_; obtain ⟨v6, b6, rfl, l6, u6, h6, rfl⟩ := h; refine ⟨nref, ?_⟩; walk_at "lw n"; walk_at "lw e")
      refine ⟨mul_l (by omega), ?_⟩
      walk_at "lw e"
      have fs := flat_step50 g2 (e.hp p (List.mem_of_getElem? q)) (v := v6) l6 (by omega)
      exact ⟨b6, ns ++ [p.2.1 - g * v6], rfl, by simp, by simp [hn], hR.snoc (by rw [hn]; exact q) fs.1 fs.2, h6⟩
  · rintro acc ς hacc ⟨b5, ns, rfl, rfl, hn, hR, h5⟩
    rw [List.length_map] at hn
    obtain ⟨hbl, nb⟩ := hR.below hn
    walk_at "lw e"
    walk_at "lw n"
    exact midF_ok e hbl (h5.less (by omega)) fun b' m hm hb' => hQ b' ns m hbl nb hm hb'
def B6 (c : Nat) (r : List S) : R → List S → Prop := DrawQ c (fun d => d = .bool true) r
theorem far_same {c g : Nat} {ps : List P3} {a b : List Dd} {bx : List D} (e : Fl g ps a b) (ht : tabOf ps a = tabOf ps b) (tb : ∀ row ∈ tabOf ps a, ∀ x ∈ row, x.natAbs ≤ 1000000000000000000) (hb : Box (c + 300) bx) : wpf m_l_far_right [.own true bx, .pure (.tuple (ps.map pd)), .pure (.int g), .pure (.list (a.map dd)), .pure (.list (b.map dd)), .pure (.bool true)] (B6 c [.pure (.tuple (ps.map pd)), .pure (.int g), .pure (.list (a.map dd)), .pure (.list (b.map dd)), .pure (.bool true)]) := by
  have h6 := e.x2
  refine far_pre e hb fun b' ns m hn nb hm hb' => ?_
  have eq : fl ps b ns m = fl ps a ns m := by
    unfold fl
    apply tots_inj
    rw [← iter_led e.oa m hn, ← iter_led e.ob m hn, ht]
  have tl : (tots ns).length = ps.length := by rw [tots_len]; exact hn.1
  have bd := iter_bd (B := 2000000000000000000) (tabOf_shp ps a) tb m tl (fun x hx => Nat.le_trans (tots_bd (n := 6) (by rw [hn.1]; exact h6) nb x hx) (by omega))
  rw [iter_led e.oa m hn] at bd
  have h2 := levs_bd bd
  rw [levs_tots] at h2
  have hmm : m * 1000000000000000000 ≤ 1000000000000000000 * 1000000000000000000 := Nat.mul_le_mul_right _ hm
  have fin : Fine 10000000000000000000000000000000000000000 1 ((140 + 1) * 6) (it (fl ps a ns m)) := Fine.it (fun y hy => by have := h2 y hy; omega) (by decide) (by unfold fl; rw [(iter_below m hn).1]; exact h6)
  rw [eq]
  unfold tailF stF
  walk_at "lw e"
  refine ⟨fine_eq fin (by decide) (by decide), ?_⟩
  walk_at "lw e"
  exact ⟨_, b', rfl, rfl, hb', rfl⟩
theorem far_ge {c g : Nat} {ps : List P3} {a b : List Dd} {bx : List D} (e : Fl g ps a b) (ht : ∀ L, Below ps L → Ge (tots (lvs ps L a)) (tots (lvs ps L b))) (hb : Box (c + 300) bx) : wpf m_l_far_right [.own true bx, .pure (.tuple (ps.map pd)), .pure (.int g), .pure (.list (a.map dd)), .pure (.list (b.map dd)), .pure (.bool false)] (B6 c [.pure (.tuple (ps.map pd)), .pure (.int g), .pure (.list (a.map dd)), .pure (.list (b.map dd)), .pure (.bool false)]) := by
  have h6 := e.x2
  have hsl : sizeLine = 16777216 := rfl
  refine far_pre e hb fun b' ns m hn nb hm hb' => ?_
  have ge : Ge (tots (fl ps a ns m)) (tots (fl ps b ns m)) := iter_ge e.oa e.ob ht m hn hn (Ge.refl _)
  have l1 : (fl ps a ns m).length = ps.length := (iter_below m hn).1
  have l2 : (fl ps b ns m).length = ps.length := (iter_below m hn).1
  have t1 := totals_ok (t := it (fl ps a ns m)) (.inr rfl) (by omega)
  have t2 := totals_ok (t := it (fl ps b ns m)) (.inr rfl) (by omega)
  unfold tailF stF
  walk_at "lw e"
  (refine Sm.fmono (t1) fun r o h => ?_; obtain ⟨d, rfl, rfl⟩ := h; refine ⟨nref, ?_⟩; walk_at "lw v"; walk_at "lw e")
  (refine Sm.fmono (t2) fun r o h => ?_; obtain ⟨d, rfl, rfl⟩ := h; refine ⟨nref, ?_⟩; walk_at "lw v"; walk_at "lw e")
  refine Sm.lcPure (fun _ => .bool true) (by rw [zipD_len, List.length_map, List.length_map, tots_len, tots_len]; omega) ?_ ?_
  · intro x hx
    rw [zip_ints] at hx
    obtain ⟨⟨y, z⟩, hm2, rfl⟩ := List.mem_map.1 hx
    obtain ⟨i, q1, q2⟩ := zip_ix hm2
    have q1 : (tots (fl ps a ns m))[i]? = some y := q1
    have q2 : (tots (fl ps b ns m))[i]? = some z := q2
    have hyz : y ≥ z := by
      have := ge.2 i
      rw [List.getD_eq_getElem?_getD, q2, List.getD_eq_getElem?_getD, q1] at this
      exact this
    refine ⟨_, tgT2_o rfl trivial rfl trivial, ?_⟩
    walk_at "lw n"
    walk_at "lw e"
    refine ⟨?_, ?_⟩
    · show some (PyData.bool (decide (z ≤ y)), _) = _
      rw [decide_eq_true hyz]
    · exact ⟨rfl, rfl⟩
  dsimp only [wipeE]
  walk_at "lw n"
  walk_at "lw e"
  rw [all_mk (p := fun _ => true)]
  walk_at "lw e"
  exact ⟨_, b', rfl, by rw [List.all_eq_true.2 (fun _ _ => rfl)], hb', rfl⟩
end K77
-- F2
-- F3
-- F4
namespace K77
open PySem PySem.Spec PyProof.Rows L2 Lw
local macro_rules | `(tactic| walk_at "lw e") => `(tactic| (repeat (first | (with_reducible apply Exists.intro) | ((with_reducible refine And.intro ?_ ?_); · (first | (with_reducible exact pw_9) | (with_reducible exact pw_12) | (with_reducible exact pw_17) | (with_reducible exact pw_20) | (with_reducible exact pw_60) | (with_reducible exact pw_4) | (with_reducible exact pw_11) | (with_reducible exact pw_13) | (with_reducible exact pw_14) | (with_reducible exact pw_16) | (with_reducible exact pw_7) | (with_reducible exact pw_6) | (with_reducible exact pw_15) | (with_reducible exact pw_18) | (with_reducible exact pw_19) | (with_reducible exact pw_30) | (with_reducible exact pw_40) | (with_reducible exact tix0) | (with_reducible exact tix1) | (with_reducible exact tix2) | ((with_reducible apply mul_r); decide) | ((with_reducible apply mul_l); decide) | ((with_reducible apply div_i); decide) | ((with_reducible apply in_R); decide) | ((fail_if_success (with_reducible apply mul_r)); (fail_if_success (with_reducible apply div_i)); (fail_if_success (with_reducible apply dm_int)); (fail_if_success (with_reducible apply in_R)); rfl) | (exact Nat.le_of_ble_eq_true rfl) | (simp [refsOf]; done) | (exact ⟨rfl, rfl, by decide⟩) | (exact ⟨rfl, rfl, rfl⟩) | ((with_reducible apply tgN_o); (focus rfl); (focus (first | assumption | trivial))))) | ((with_reducible apply Sm.vrP); (focus rfl)) | ((with_reducible apply Sm.vrO); (focus rfl)) | (with_reducible refine Sm.cn ?_) | (with_reducible refine Sm.op2 ?_) | (with_reducible refine Sm.argV ?_) | (with_reducible refine Sm.callE ?_) | (with_reducible refine Sm.cal1 ?_) | (with_reducible refine Sm.sq ?_) | (with_reducible refine Sm.asgS ?_) | (with_reducible refine Sm.asg ?_) | (with_reducible refine Sm.retS ?_) | (with_reducible refine Sm.ifS ?_) | (with_reducible refine Sm.argN ?_) | (with_reducible refine Sm.tst ?_) | (with_reducible refine Sm.tupE ?_) | (with_reducible refine Sm.lstE ?_) | (with_reducible refine Sm.isE ?_) | (with_reducible refine Sm.argR ?_) | (with_reducible refine Sm.tru ?_) | (with_reducible refine Sm.andT ?_) | (with_reducible refine Sm.orT ?_) | (with_reducible refine Sm.notT ?_) | (with_reducible refine Sm.andV ?_) | (with_reducible refine Sm.orV ?_) | (with_reducible refine Sm.notV ?_) | (with_reducible refine Sm.negV ?_) | (with_reducible refine Sm.ife ?_) | (with_reducible refine Sm.chn ?_) | (with_reducible refine Sm.callF ?_) | (with_reducible refine Sm.slE ?_) | (with_reducible refine Sm.ptN ?_) | (with_reducible refine Sm.ptS ?_) | (with_reducible refine Sm.revE ?_) | (with_reducible refine Sm.mth ?_) | (with_reducible refine Sm.ret ?_) | (with_reducible refine Sm.esc ?_) | (with_reducible refine Sm.itS ?_) | (with_reducible refine Sm.itR1 ?_) | (with_reducible refine Sm.itR2 ?_) | (with_reducible refine Sm.itE ?_) | (with_reducible refine Sm.itZ ?_) | (with_reducible refine Sm.lcE2 ?_) | (with_reducible refine Sm.pvF ?_) | (with_reducible refine Sm.pvT ?_) | (with_reducible refine Sm.asgO ?_) | (with_reducible refine Sm.exS ?_) | (with_reducible refine Sm.skip ?_) | (with_reducible refine Sm.par2 ?_) | (with_reducible refine Sm.par3 ?_) | (with_reducible refine Sm.forS ?_) | (with_reducible refine Sm.at_nx ?_) | (with_reducible refine Sm.at_rt ?_) | (with_reducible refine Sm.oP ?_) | (with_reducible refine Sm.oF ?_) | (with_reducible refine Sm.fP ?_) | (with_reducible refine Sm.fF ?_) | (with_reducible refine Sm.itZ2 ?_) | (with_reducible refine Sm.itZ3 ?_) | (with_reducible refine Sm.itEn ?_) | (with_reducible refine Sm.argX ?_) | (with_reducible refine Sm.repE ?_) | ((with_reducible apply Sm.augI); (focus rfl)) | ((with_reducible refine Sm.dicE ?_ ?_); (focus decide)) | (with_reducible refine Sm.lzE ?_) | (with_reducible refine Sm.itV ?_) | (with_reducible refine Sm.itR3 ?_) | (with_reducible refine Sm.itRv1 ?_) | (with_reducible refine Sm.itRv2 ?_) | ((with_reducible apply Sm.augS); (focus rfl)) | (with_reducible refine Sm.parL3 ?_) | (with_reducible refine iteTT ?_) | (with_reducible refine iteT ?_) | (with_reducible refine iteF ?_) | ((with_reducible refine iteB1 ?_ ?_); (focus rfl)) | ((with_reducible refine iteB0 ?_ ?_); (focus rfl)))))
local macro_rules | `(tactic| walk_at "lw n") => `(tactic| (try dsimp only [ent, List.map, Nat.reduceAdd, Nat.reduceSub, List.length_cons, List.length_nil, List.replicate_succ, List.replicate_zero, List.cons_append, List.nil_append, putBack, setOwn, List.getElem?_cons_zero, List.getElem?_cons_succ, List.set_cons_zero, List.set_cons_succ, Sm.nf]))
local macro_rules | `(tactic| walk_at "lw v") => `(tactic| (try simp only [pb1, pb2, pb3, pb4, pb5, pb6]))
def r5 : MS :=
  (sq (asg (op2 gAddA (op2 gAddA (slE (vr 4) ptN (ptS (vr 7))) (vr 5)) (slE (vr 4) (ptS (vr 7)) ptN)) (tgN 8))
  (sq (asg (op2 gAddA (op2 gAddA (slE (vr 4) ptN (ptS (vr 7))) (callE m_l_stirred (argR (vr 0) (argV (vr 5) argN)))) (slE (vr 4) (ptS (vr 7)) ptN)) (tgN 9))
  (sq (asg (op2 gAddA (op2 gAddA (slE (vr 4) ptN (ptS (vr 7))) (callE m_l_joined (argV (vr 5) (argV (vr 3) argN)))) (slE (vr 4) (ptS (vr 7)) ptN)) (tgN 10))
  (sq (ifS (orT (tst (op2 gIsNotB (callE m_p_alike (argV (vr 2) (argV (vr 8) (argV (vr 9) argN)))) (cn (.bool true)))) (tst (op2 gIsNotB (callE m_p_alike (argV (vr 2) (argV (vr 10) (argV (vr 9) argN)))) (cn (.bool true))))) (retS (cn (.bool false))) skip)
  (sq (ifS (orT (notT (tru (callE m_l_far_right (argR (vr 0) (argV (vr 2) (argV (vr 1) (argV (vr 8) (argV (vr 10) (argV (cn (.bool true)) argN))))))))) (notT (tru (callE m_l_far_right (argR (vr 0) (argV (vr 2) (argV (vr 1) (argV (vr 8) (argV (vr 4) (argV (cn (.bool false)) argN)))))))))) (retS (cn (.bool false))) skip)
  (sq (ifS (orT (tst (op2 gIsNotB (callE m_p_no_less (argV (vr 2) (argV (vr 8) (argV (vr 4) argN)))) (cn (.bool true)))) (tst (op2 gIsNotB (callE m_p_no_less (argV (vr 2) (argV (vr 4) (argV (vr 8) argN)))) (cn (.bool false))))) (retS (cn (.bool false))) skip)
  (sq (asg (tupE (argV (cn (.str "lower")) (argV (op2 gAddA (cn (.int 1)) (callE (m_l_take 4) (argR (vr 0) (argV (vr 3) argN)))) (argV (op2 gMulA (vr 1) (op2 gAddA (cn (.int 1)) (callE (m_l_take 4) (argR (vr 0) (argV (cn (.int 9)) argN))))) argN)))) (tgN 11))
  (sq (asg (op2 gAddA (op2 gAddA (slE (vr 4) ptN (ptS (vr 7))) (lstE (argV (vr 11) argN))) (slE (vr 4) (ptS (vr 7)) ptN)) (tgN 12))
  (sq (asg (op2 gAddA (op2 gAddA (op2 gAddA (slE (vr 4) ptN (ptS (vr 7))) (lstE (argV (vr 11) argN))) (vr 5)) (slE (vr 4) (ptS (vr 7)) ptN)) (tgN 13))
  (sq (asg (op2 gAddA (op2 gAddA (op2 gAddA (slE (vr 4) ptN (ptS (vr 7))) (vr 5)) (lstE (argV (vr 11) argN))) (slE (vr 4) (ptS (vr 7)) ptN)) (tgN 14))
  (sq (ifS (orT (tst (op2 gIsNotB (callE m_p_no_less (argV (vr 2) (argV (vr 4) (argV (vr 12) argN)))) (cn (.bool true)))) (tst (op2 gIsNotB (callE m_p_no_less (argV (vr 2) (argV (vr 13) (argV (vr 14) argN)))) (cn (.bool true))))) (retS (cn (.bool false))) skip)
  (retS (andV (callE m_l_far_right (argR (vr 0) (argV (vr 2) (argV (vr 1) (argV (vr 4) (argV (vr 12) (argV (cn (.bool false)) argN))))))) (callE m_l_far_right (argR (vr 0) (argV (vr 2) (argV (vr 1) (argV (vr 13) (argV (vr 14) (argV (cn (.bool false)) argN))))))))))))))))))))
def r8 : MS :=
  (sq (ifS (orT (tst (op2 gIsNotB (callE m_p_alike (argV (vr 2) (argV (vr 8) (argV (vr 9) argN)))) (cn (.bool true)))) (tst (op2 gIsNotB (callE m_p_alike (argV (vr 2) (argV (vr 10) (argV (vr 9) argN)))) (cn (.bool true))))) (retS (cn (.bool false))) skip)
  (sq (ifS (orT (notT (tru (callE m_l_far_right (argR (vr 0) (argV (vr 2) (argV (vr 1) (argV (vr 8) (argV (vr 10) (argV (cn (.bool true)) argN))))))))) (notT (tru (callE m_l_far_right (argR (vr 0) (argV (vr 2) (argV (vr 1) (argV (vr 8) (argV (vr 4) (argV (cn (.bool false)) argN)))))))))) (retS (cn (.bool false))) skip)
  (sq (ifS (orT (tst (op2 gIsNotB (callE m_p_no_less (argV (vr 2) (argV (vr 8) (argV (vr 4) argN)))) (cn (.bool true)))) (tst (op2 gIsNotB (callE m_p_no_less (argV (vr 2) (argV (vr 4) (argV (vr 8) argN)))) (cn (.bool false))))) (retS (cn (.bool false))) skip)
  (sq (asg (tupE (argV (cn (.str "lower")) (argV (op2 gAddA (cn (.int 1)) (callE (m_l_take 4) (argR (vr 0) (argV (vr 3) argN)))) (argV (op2 gMulA (vr 1) (op2 gAddA (cn (.int 1)) (callE (m_l_take 4) (argR (vr 0) (argV (cn (.int 9)) argN))))) argN)))) (tgN 11))
  (sq (asg (op2 gAddA (op2 gAddA (slE (vr 4) ptN (ptS (vr 7))) (lstE (argV (vr 11) argN))) (slE (vr 4) (ptS (vr 7)) ptN)) (tgN 12))
  (sq (asg (op2 gAddA (op2 gAddA (op2 gAddA (slE (vr 4) ptN (ptS (vr 7))) (lstE (argV (vr 11) argN))) (vr 5)) (slE (vr 4) (ptS (vr 7)) ptN)) (tgN 13))
  (sq (asg (op2 gAddA (op2 gAddA (op2 gAddA (slE (vr 4) ptN (ptS (vr 7))) (vr 5)) (lstE (argV (vr 11) argN))) (slE (vr 4) (ptS (vr 7)) ptN)) (tgN 14))
  (sq (ifS (orT (tst (op2 gIsNotB (callE m_p_no_less (argV (vr 2) (argV (vr 4) (argV (vr 12) argN)))) (cn (.bool true)))) (tst (op2 gIsNotB (callE m_p_no_less (argV (vr 2) (argV (vr 13) (argV (vr 14) argN)))) (cn (.bool true))))) (retS (cn (.bool false))) skip)
  (retS (andV (callE m_l_far_right (argR (vr 0) (argV (vr 2) (argV (vr 1) (argV (vr 4) (argV (vr 12) (argV (cn (.bool false)) argN))))))) (callE m_l_far_right (argR (vr 0) (argV (vr 2) (argV (vr 1) (argV (vr 13) (argV (vr 14) (argV (cn (.bool false)) argN)))))))))))))))))
def r11 : MS :=
  (sq (asg (tupE (argV (cn (.str "lower")) (argV (op2 gAddA (cn (.int 1)) (callE (m_l_take 4) (argR (vr 0) (argV (vr 3) argN)))) (argV (op2 gMulA (vr 1) (op2 gAddA (cn (.int 1)) (callE (m_l_take 4) (argR (vr 0) (argV (cn (.int 9)) argN))))) argN)))) (tgN 11))
  (sq (asg (op2 gAddA (op2 gAddA (slE (vr 4) ptN (ptS (vr 7))) (lstE (argV (vr 11) argN))) (slE (vr 4) (ptS (vr 7)) ptN)) (tgN 12))
  (sq (asg (op2 gAddA (op2 gAddA (op2 gAddA (slE (vr 4) ptN (ptS (vr 7))) (lstE (argV (vr 11) argN))) (vr 5)) (slE (vr 4) (ptS (vr 7)) ptN)) (tgN 13))
  (sq (asg (op2 gAddA (op2 gAddA (op2 gAddA (slE (vr 4) ptN (ptS (vr 7))) (vr 5)) (lstE (argV (vr 11) argN))) (slE (vr 4) (ptS (vr 7)) ptN)) (tgN 14))
  (sq (ifS (orT (tst (op2 gIsNotB (callE m_p_no_less (argV (vr 2) (argV (vr 4) (argV (vr 12) argN)))) (cn (.bool true)))) (tst (op2 gIsNotB (callE m_p_no_less (argV (vr 2) (argV (vr 13) (argV (vr 14) argN)))) (cn (.bool true))))) (retS (cn (.bool false))) skip)
  (retS (andV (callE m_l_far_right (argR (vr 0) (argV (vr 2) (argV (vr 1) (argV (vr 4) (argV (vr 12) (argV (cn (.bool false)) argN))))))) (callE m_l_far_right (argR (vr 0) (argV (vr 2) (argV (vr 1) (argV (vr 13) (argV (vr 14) (argV (cn (.bool false)) argN))))))))))))))
def r15 : MS :=
  (sq (ifS (orT (tst (op2 gIsNotB (callE m_p_no_less (argV (vr 2) (argV (vr 4) (argV (vr 12) argN)))) (cn (.bool true)))) (tst (op2 gIsNotB (callE m_p_no_less (argV (vr 2) (argV (vr 13) (argV (vr 14) argN)))) (cn (.bool true))))) (retS (cn (.bool false))) skip)
  (retS (andV (callE m_l_far_right (argR (vr 0) (argV (vr 2) (argV (vr 1) (argV (vr 4) (argV (vr 12) (argV (cn (.bool false)) argN))))))) (callE m_l_far_right (argR (vr 0) (argV (vr 2) (argV (vr 1) (argV (vr 13) (argV (vr 14) (argV (cn (.bool false)) argN))))))))))
structure Al (g : Nat) (ps : List P3) (x y rs : List Dd) : Prop where
  g1 : 1 ≤ g
  g2 : g ≤ 1000000000000000
  x1 : 1 ≤ ps.length
  x2 : ps.length ≤ 6
  hp : ∀ p ∈ ps, PoundI g p
  hx : LotN 14 ps.length g x
  hy : LotN 14 ps.length g y
  lxy : x.length + y.length ≤ 14
  hr : ∀ d ∈ rs, RainB ps.length g d
  r1 : 1 ≤ rs.length
  r5 : rs.length ≤ 5
section
variable {g : Nat} {ps : List P3} {x y rs : List Dd}
theorem Al.rain (e : Al g ps x y rs) : ∀ d ∈ rs, d.Rain ps.length := fun d m => (e.hr d m).rain
theorem Al.on3 (e : Al g ps x y rs) {ds : List Dd} (h : ∀ d ∈ ds, d.On ps.length) : ∀ d ∈ x ++ ds ++ y, d.On ps.length := by
  intro d m
  rcases List.mem_append.1 m with m | m
  · rcases List.mem_append.1 m with m | m
    · exact (e.hx.2 d m).1
    · exact h d m
  · exact (e.hy.2 d m).1
theorem Al.onL (e : Al g ps x y rs) : ∀ d ∈ x ++ y, d.On ps.length := by
  intro d m
  rcases List.mem_append.1 m with m | m
  · exact (e.hx.2 d m).1
  · exact (e.hy.2 d m).1
theorem Al.fl (e : Al g ps x y rs) {a b : List Dd} (oa : ∀ d ∈ a, d.On ps.length) (ob : ∀ d ∈ b, d.On ps.length) (la : a.length ≤ 100) (lb : b.length ≤ 100) : Fl g ps a b := ⟨e.g1, e.g2, e.x1, e.x2, e.hp, oa, ob, la, lb⟩
theorem Al.lot (e : Al g ps x y rs) : LotN 40 ps.length g (x ++ rs ++ y) := ⟨by have := e.lxy; have := e.r5; rw [List.length_append, List.length_append]; omega, fun d m => by
  rcases List.mem_append.1 m with m | m
  · rcases List.mem_append.1 m with m | m
    · exact e.hx.2 d m
    · exact (e.hr d m).d9
  · exact e.hy.2 d m⟩
theorem Al.tb (e : Al g ps x y rs) : ∀ row ∈ tabOf ps (x ++ rs ++ y), ∀ z ∈ row, z.natAbs ≤ 1000000000000000000 := tab_b (Nat.le_refl _) e.g1 e.g2 e.x2 e.hp e.lot
theorem Al.fine (e : Al g ps x y rs) : Fine 1000000000000000000 2 (((60 + 1) * 7 + 1) * 6) (tabD (tabOf ps (x ++ rs ++ y))) := tab_fine (tabOf_shp ps _) e.x2 (by decide) e.tb
theorem three (ps : List P3) (L : List Int) (a b c : List Dd) : lvs ps L (a ++ b ++ c) = lvs ps (lvs ps (lvs ps L a) b) c := by rw [lvs_app, lvs_app]
theorem Al.perm (e : Al g ps x y rs) {qs : List Dd} (h : qs.Perm rs) : tabOf ps (x ++ rs ++ y) = tabOf ps (x ++ qs ++ y) := by
  refine tab_same (e.on3 fun d m => (e.rain d m).on) (e.on3 fun d m => (e.rain d (h.mem_iff.1 m)).on) fun L hL => ?_
  rw [three, three, rain_perm h _ (lvs_len x hL.1) fun d m => e.rain d (h.mem_iff.1 m)]
theorem Al.join (e : Al g ps x y rs) : tabOf ps (x ++ jn rs ps.length ++ y) = tabOf ps (x ++ rs ++ y) := by
  have jr := jn_rain e.hr ps.length (Nat.le_refl _)
  refine tab_same (e.on3 fun d m => (jr d m).on) (e.on3 fun d m => (e.rain d m).on) fun L hL => ?_
  rw [three, three, rains_same (lvs_below x hL) jr e.rain fun j _ => by rw [jn_at e.hr, rnTo_all j e.hr]]
theorem Al.ge1 (e : Al g ps x y rs) : ∀ L, Below ps L → Ge (tots (lvs ps L (x ++ rs ++ y))) (tots (lvs ps L (x ++ y))) := by
  intro L hL
  rw [three, lvs_app]
  have hb := lvs_below x hL
  exact lvs_mono y (lvs_len rs hb.1) hb.1 (fun d m => (e.hy.2 d m).1) (rains_up hb e.rain)
theorem sum_pos {n : Nat} {rs : List Dd} (h : ∀ d ∈ rs, RainB n g d) : (rs.length : Int) ≤ sumAt ps rs 1 := by
  induction rs with
  | nil => exact Int.le_refl _
  | cons d rs ih =>
    have ih := ih fun e m => h e (by simp [m])
    obtain ⟨l, m, rfl, h1, h2, h3, h4⟩ := h d (by simp)
    show ((rs.length + 1 : Nat) : Int) ≤ addTo ps 1 (.raise l m) + sumAt ps rs 1
    have : addTo ps 1 (.raise l m) = m := by
      unfold addTo
      exact if_pos (by show (l : Int) ≥ 1; omega)
    omega
theorem Al.not (e : Al g ps x y rs) : (geL (tabOf ps (x ++ y)) (tabOf ps (x ++ rs ++ y))).all id = false := by
  refine tab_notge e.onL (e.on3 fun d m => (e.rain d m).on) e.x1 ?_
  have := sum_pos (ps := ps) e.hr
  have := e.r1
  rw [sumAt_app, sumAt_app, sumAt_app]
  omega
theorem Al.ge2 (e : Al g ps x y rs) {l : Nat} {m : Int} (h1 : 1 ≤ l) (h2 : l ≤ ps.length) (hm : 0 ≤ m) : ∀ L, Below ps L → Ge (tots (lvs ps L (x ++ y))) (tots (lvs ps L (x ++ [.lower l m] ++ y))) := by
  intro L hL
  rw [three, lvs_app]
  have hb := lvs_below x hL
  exact lvs_mono y hb.1 (aft_len hb.1).1 (fun d m => (e.hy.2 d m).1) (lower_down hb h1 h2 hm)
theorem Al.ge3 (e : Al g ps x y rs) {l : Nat} {m : Int} (h1 : 1 ≤ l) (h2 : l ≤ ps.length) (hm : 0 ≤ m) : ∀ L, Below ps L → Ge (tots (lvs ps L (x ++ [.lower l m] ++ rs ++ y))) (tots (lvs ps L (x ++ rs ++ [.lower l m] ++ y))) := by
  intro L hL
  rw [three, three, lvs_app, lvs_app]
  have hb := lvs_below x hL
  exact lvs_mono y (lvs_len rs (aft_len hb.1).1) (aft_len (lvs_len rs hb.1)).1 (fun d m => (e.hy.2 d m).1) (low_rain hb h1 h2 hm e.rain)
theorem no_ge (e : Al g ps x y rs) {a b : List Dd} (oa : ∀ d ∈ a, d.On ps.length) (ob : ∀ d ∈ b, d.On ps.length) (la : a.length ≤ 100) (lb : b.length ≤ 100) (h : ∀ L, Below ps L → Ge (tots (lvs ps L a)) (tots (lvs ps L b))) : wpf m_p_no_less [.pure (.tuple (ps.map pd)), .pure (.list (a.map dd)), .pure (.list (b.map dd))] (ValQ fun x => x = .bool true) := by
  have k := noless_ok (Stair.gen (st := .tuple (ps.map pd)) (ps := ps) (.inl rfl)) (deeds_gen a) (deeds_gen b) oa ob (by have := e.x2; omega) (by omega) (by omega)
  rw [tab_ge (tabOf_shp ps a) (tabOf_shp ps b) fun T hT => Led_ge oa ob h hT] at k
  exact k
end
def st7 (b : List D) (g : Nat) (ps : List P3) (x y rs : List Dd) (o8 o9 o10 o11 o12 o13 o14 : Option S) : En := [some (.own true b), some (.pure (.int g)), some (.pure (.tuple (ps.map pd))), some (.pure (.int ps.length)), some (.pure (.list ((x ++ y).map dd))), some (.pure (.list (rs.map dd))), none, some (.pure (.int x.length)), o8, o9, o10, o11, o12, o13, o14]
def L (ds : List Dd) : Option S := some (.pure (.list (ds.map dd)))
theorem r15_ok {g : Nat} {ps : List P3} {x y rs : List Dd} {b : List D} {l : Nat} {m : Int} {s8 s9 s10 s11 : Option S} (e : Al g ps x y rs) (h1 : 1 ≤ l) (h2 : l ≤ ps.length) (hm : 0 ≤ m) (hb : Box 1000 b) : wps r15 (st7 b g ps x y rs s8 s9 s10 s11 (L (x ++ [.lower l m] ++ y)) (L (x ++ [.lower l m] ++ rs ++ y)) (L (x ++ rs ++ [.lower l m] ++ y))) (Sm.outF 1 TrueQ) := by
  have hl := e.lxy
  have hr5 := e.r5
  have od : ∀ d ∈ [Dd.lower l m], d.On ps.length := fun d md => by rw [List.mem_singleton.1 md]; exact ⟨h1, h2⟩
  have o2 := e.on3 od
  have o3 : ∀ d ∈ x ++ [Dd.lower l m] ++ rs ++ y, d.On ps.length := by
    rw [List.append_assoc x]
    exact e.on3 fun d md => by
      rcases List.mem_append.1 md with md | md
      · exact od d md
      · exact (e.rain d md).on
  have o4 : ∀ d ∈ x ++ rs ++ [Dd.lower l m] ++ y, d.On ps.length := by
    rw [List.append_assoc x]
    exact e.on3 fun d md => by
      rcases List.mem_append.1 md with md | md
      · exact (e.rain d md).on
      · exact od d md
  have n0 : (x ++ y).length ≤ 100 := by rw [List.length_append]; omega
  have n1 : (x ++ [Dd.lower l m] ++ y).length ≤ 100 := by simp; omega
  have n2 : (x ++ [Dd.lower l m] ++ rs ++ y).length ≤ 100 := by simp; omega
  have n3 : (x ++ rs ++ [Dd.lower l m] ++ y).length ≤ 100 := by simp; omega
  have k1 := no_ge e e.onL o2 n0 n1 (e.ge2 h1 h2 hm)
  have k2 := no_ge e o3 o4 n2 n3 (e.ge3 h1 h2 hm)
  have f1 := far_ge (c := 500) (e.fl e.onL o2 n0 n1) (e.ge2 h1 h2 hm) (hb.less (by omega))
  unfold r15 st7 L
  walk_at "lw e"
  (refine Sm.fmono (k1) fun r o h => ?_; obtain ⟨d, rfl, rfl⟩ := h; refine ⟨nref, ?_⟩; walk_at "lw v"; walk_at "lw e")
  (refine Sm.fmono (k2) fun r o h => ?_; obtain ⟨d, rfl, rfl⟩ := h; refine ⟨nref, ?_⟩; walk_at "lw v"; walk_at "lw e")
  refine Sm.fmono f1 fun r o h => ?_
  obtain ⟨d, b2, rfl, rfl, hb2, rfl⟩ := h
  refine ⟨nref, ?_⟩
  have f2 := far_ge (c := 0) (e.fl o3 o4 n2 n3) (e.ge3 h1 h2 hm) (hb2.less (by omega))
  walk_at "lw n"
  walk_at "lw e"
  refine Sm.fmono f2 fun r o h => ?_
  obtain ⟨d, b3, rfl, rfl, hb3, rfl⟩ := h
  refine ⟨nref, ?_⟩
  walk_at "lw n"
  walk_at "lw e"
  exact ⟨_, rfl, rfl⟩
end K77
-- F2
-- F3
-- F4
namespace K77
open PySem PySem.Spec PyProof.Rows L2 Lw
local macro_rules | `(tactic| walk_at "lw e") => `(tactic| (repeat (first | (with_reducible apply Exists.intro) | ((with_reducible refine And.intro ?_ ?_); · (first | (with_reducible exact pw_9) | (with_reducible exact pw_12) | (with_reducible exact pw_17) | (with_reducible exact pw_20) | (with_reducible exact pw_60) | (with_reducible exact pw_4) | (with_reducible exact pw_11) | (with_reducible exact pw_13) | (with_reducible exact pw_14) | (with_reducible exact pw_16) | (with_reducible exact pw_7) | (with_reducible exact pw_6) | (with_reducible exact pw_15) | (with_reducible exact pw_18) | (with_reducible exact pw_19) | (with_reducible exact pw_30) | (with_reducible exact pw_40) | (with_reducible exact tix0) | (with_reducible exact tix1) | (with_reducible exact tix2) | ((with_reducible apply mul_r); decide) | ((with_reducible apply mul_l); decide) | ((with_reducible apply div_i); decide) | ((with_reducible apply in_R); decide) | ((fail_if_success (with_reducible apply mul_r)); (fail_if_success (with_reducible apply div_i)); (fail_if_success (with_reducible apply dm_int)); (fail_if_success (with_reducible apply in_R)); rfl) | (exact Nat.le_of_ble_eq_true rfl) | (simp [refsOf]; done) | (exact ⟨rfl, rfl, by decide⟩) | (exact ⟨rfl, rfl, rfl⟩) | ((with_reducible apply tgN_o); (focus rfl); (focus (first | assumption | trivial))))) | ((with_reducible apply Sm.vrP); (focus rfl)) | ((with_reducible apply Sm.vrO); (focus rfl)) | (with_reducible refine Sm.cn ?_) | (with_reducible refine Sm.op2 ?_) | (with_reducible refine Sm.argV ?_) | (with_reducible refine Sm.callE ?_) | (with_reducible refine Sm.cal1 ?_) | (with_reducible refine Sm.sq ?_) | (with_reducible refine Sm.asgS ?_) | (with_reducible refine Sm.asg ?_) | (with_reducible refine Sm.retS ?_) | (with_reducible refine Sm.ifS ?_) | (with_reducible refine Sm.argN ?_) | (with_reducible refine Sm.tst ?_) | (with_reducible refine Sm.tupE ?_) | (with_reducible refine Sm.lstE ?_) | (with_reducible refine Sm.isE ?_) | (with_reducible refine Sm.argR ?_) | (with_reducible refine Sm.tru ?_) | (with_reducible refine Sm.andT ?_) | (with_reducible refine Sm.orT ?_) | (with_reducible refine Sm.notT ?_) | (with_reducible refine Sm.andV ?_) | (with_reducible refine Sm.orV ?_) | (with_reducible refine Sm.notV ?_) | (with_reducible refine Sm.negV ?_) | (with_reducible refine Sm.ife ?_) | (with_reducible refine Sm.chn ?_) | (with_reducible refine Sm.callF ?_) | (with_reducible refine Sm.slE ?_) | (with_reducible refine Sm.ptN ?_) | (with_reducible refine Sm.ptS ?_) | (with_reducible refine Sm.revE ?_) | (with_reducible refine Sm.mth ?_) | (with_reducible refine Sm.ret ?_) | (with_reducible refine Sm.esc ?_) | (with_reducible refine Sm.itS ?_) | (with_reducible refine Sm.itR1 ?_) | (with_reducible refine Sm.itR2 ?_) | (with_reducible refine Sm.itE ?_) | (with_reducible refine Sm.itZ ?_) | (with_reducible refine Sm.lcE2 ?_) | (with_reducible refine Sm.pvF ?_) | (with_reducible refine Sm.pvT ?_) | (with_reducible refine Sm.asgO ?_) | (with_reducible refine Sm.exS ?_) | (with_reducible refine Sm.skip ?_) | (with_reducible refine Sm.par2 ?_) | (with_reducible refine Sm.par3 ?_) | (with_reducible refine Sm.forS ?_) | (with_reducible refine Sm.at_nx ?_) | (with_reducible refine Sm.at_rt ?_) | (with_reducible refine Sm.oP ?_) | (with_reducible refine Sm.oF ?_) | (with_reducible refine Sm.fP ?_) | (with_reducible refine Sm.fF ?_) | (with_reducible refine Sm.itZ2 ?_) | (with_reducible refine Sm.itZ3 ?_) | (with_reducible refine Sm.itEn ?_) | (with_reducible refine Sm.argX ?_) | (with_reducible refine Sm.repE ?_) | ((with_reducible apply Sm.augI); (focus rfl)) | ((with_reducible refine Sm.dicE ?_ ?_); (focus decide)) | (with_reducible refine Sm.lzE ?_) | (with_reducible refine Sm.itV ?_) | (with_reducible refine Sm.itR3 ?_) | (with_reducible refine Sm.itRv1 ?_) | (with_reducible refine Sm.itRv2 ?_) | ((with_reducible apply Sm.augS); (focus rfl)) | (with_reducible refine Sm.parL3 ?_) | (with_reducible refine iteTT ?_) | (with_reducible refine iteT ?_) | (with_reducible refine iteF ?_) | ((with_reducible refine iteB1 ?_ ?_); (focus rfl)) | ((with_reducible refine iteB0 ?_ ?_); (focus rfl)))))
local macro_rules | `(tactic| walk_at "lw n") => `(tactic| (try dsimp only [ent, List.map, Nat.reduceAdd, Nat.reduceSub, List.length_cons, List.length_nil, List.replicate_succ, List.replicate_zero, List.cons_append, List.nil_append, putBack, setOwn, List.getElem?_cons_zero, List.getElem?_cons_succ, List.set_cons_zero, List.set_cons_succ, Sm.nf]))
local macro_rules | `(tactic| walk_at "lw v") => `(tactic| (try simp only [pb1, pb2, pb3, pb4, pb5, pb6]))
theorem cutX (x y : List Dd) : cutD ((x ++ y).map dd) none (some (x.length : Int)) = x.map dd := by rw [cut_toN, ← List.map_take, List.take_left]
theorem cutY (x y : List Dd) : cutD ((x ++ y).map dd) (some (x.length : Int)) none = y.map dd := by rw [cut_from, ← List.map_drop, List.drop_left]
theorem catD {a b : List Dd} (h : a.length + b.length ≤ 1000) : gAddA (.list (a.map dd)) (.list (b.map dd)) = some (.fresh ((a ++ b).map dd)) := by
  rw [List.map_append]
  exact catL_ok (by rw [List.length_map, List.length_map]; omega)
theorem r11_ok {g : Nat} {ps : List P3} {x y rs : List Dd} {b : List D} {s8 s9 s10 : Option S} (e : Al g ps x y rs) (hb : Box 2000 b) : wps r11 (st7 b g ps x y rs s8 s9 s10 none none none none) (Sm.outF 1 TrueQ) := by
  have hl := e.lxy
  have hr5 := e.r5
  have h6 := e.x2
  have hx1 := e.x1
  have g1 := e.g1
  have g2 := e.g2
  unfold r11 st7
  change wps (sq _ (sq _ (sq _ (sq _ r15)))) _ _
  walk_at "lw e"
  refine Sm.fmono (take4 (c := 1900) (Box.less hb (by omega)) (by omega) (by omega)) fun r o h => ?_
  obtain ⟨v, b2, rfl, l2, u2, hb2, rfl⟩ := h
  refine ⟨nref, ?_⟩
  obtain ⟨l, hlv⟩ : ∃ l : Nat, 1 + v = (l : Int) := ⟨(1 + v).toNat, by omega⟩
  walk_at "lw n"
  walk_at "lw e"
  walk_at "lw n"
  rw [hlv]
  refine Sm.fmono (take4 (c := 1800) (Box.less hb2 (by omega)) (by omega) (by omega)) fun r o h => ?_
  obtain ⟨w, b3, rfl, l3, u3, hb3, rfl⟩ := h
  refine ⟨nref, ?_⟩
  have k0 : 1 * 1 ≤ (g : Int) * (1 + w) := Int.mul_le_mul (by omega) (by omega) (by omega) (by omega)
  generalize hm : (g : Int) * (1 + w) = m at k0
  walk_at "lw n"
  walk_at "lw e"
  refine ⟨mul_l (by omega), ?_⟩
  walk_at "lw n"
  rw [hm]
  walk_at "lw e"
  walk_at "lw n"
  walk_at "lw e"
  rw [cutX]
  have ed : [PyData.tuple [.str "lower", .int (l : Int), .int m]] = [Dd.lower l m].map dd := rfl
  rw [ed]
  refine ⟨catD (by rw [List.length_singleton]; omega), ?_⟩
  walk_at "lw e"
  rw [cutY]
  refine ⟨catD (by simp; omega), ?_⟩
  walk_at "lw e"
  walk_at "lw n"
  walk_at "lw e"
  rw [cutX]
  refine ⟨catD (a := x) (b := [Dd.lower l m]) (by rw [List.length_singleton]; omega), ?_⟩
  walk_at "lw e"
  refine ⟨catD (by simp; omega), ?_⟩
  walk_at "lw e"
  rw [cutY]
  refine ⟨catD (by simp; omega), ?_⟩
  walk_at "lw e"
  walk_at "lw n"
  walk_at "lw e"
  rw [cutX]
  refine ⟨catD (by omega), ?_⟩
  walk_at "lw e"
  refine ⟨catD (b := [Dd.lower l m]) (by simp; omega), ?_⟩
  walk_at "lw e"
  rw [cutY]
  refine ⟨catD (by simp; omega), ?_⟩
  walk_at "lw e"
  walk_at "lw n"
  exact r15_ok e (by omega) (by omega) (by omega) (hb3.less (by omega))
theorem r8_ok {g : Nat} {ps : List P3} {x y rs qs : List Dd} {b : List D} (e : Al g ps x y rs) (hq : qs.Perm rs) (hb : Box 3000 b) : wps r8 (st7 b g ps x y rs (L (x ++ rs ++ y)) (L (x ++ qs ++ y)) (L (x ++ jn rs ps.length ++ y)) none none none none) (Sm.outF 1 TrueQ) := by
  have hl := e.lxy
  have hr5 := e.r5
  have h6 := e.x2
  have hql := hq.length_eq
  have hjl := jn_len rs ps.length
  have hs := Stair.gen (st := .tuple (ps.map pd)) (ps := ps) (.inl rfl)
  have o1 := e.on3 fun d m => (e.rain d m).on
  have o2 := e.on3 (ds := qs) fun d m => (e.rain d (hq.mem_iff.1 m)).on
  have o3 := e.on3 (ds := jn rs ps.length) fun d m => (jn_rain e.hr ps.length (Nat.le_refl _) d m).on
  have n0 : (x ++ y).length ≤ 100 := by rw [List.length_append]; omega
  have n1 : (x ++ rs ++ y).length ≤ 100 := by simp; omega
  have n2 : (x ++ qs ++ y).length ≤ 100 := by simp; omega
  have n3 : (x ++ jn rs ps.length ++ y).length ≤ 100 := by simp; omega
  have tp := e.perm hq
  have tj := e.join
  have fq : Fine 1000000000000000000 2 (((60 + 1) * 7 + 1) * 6) (tabD (tabOf ps (x ++ qs ++ y))) := by rw [← tp]; exact e.fine
  have fj : Fine 1000000000000000000 2 (((60 + 1) * 7 + 1) * 6) (tabD (tabOf ps (x ++ jn rs ps.length ++ y))) := by rw [tj]; exact e.fine
  have a1 := alike_ok hs (deeds_gen (x ++ rs ++ y)) (deeds_gen (x ++ qs ++ y)) o1 o2 (by omega) (by omega) (by omega) e.fine fq (by decide) (by decide)
  have a2 := alike_ok hs (deeds_gen (x ++ jn rs ps.length ++ y)) (deeds_gen (x ++ qs ++ y)) o3 o2 (by omega) (by omega) (by omega) fj fq (by decide) (by decide)
  rw [decide_eq_true tp] at a1
  rw [decide_eq_true (tj.trans tp)] at a2
  have f1 := far_same (c := 2600) (e.fl o1 o3 n1 n3) tj.symm e.tb (hb.less (by omega))
  have k1 := no_ge e o1 e.onL n1 n0 e.ge1
  have k2 := noless_ok hs (deeds_gen (x ++ y)) (deeds_gen (x ++ rs ++ y)) e.onL o1 (by omega) (by omega) (by omega)
  rw [e.not] at k2
  unfold r8
  change wps (sq _ (sq _ (sq _ r11))) _ _
  unfold st7 L
  walk_at "lw e"
  (refine Sm.fmono (a1) fun r o h => ?_; obtain ⟨d, rfl, rfl⟩ := h; refine ⟨nref, ?_⟩; walk_at "lw v"; walk_at "lw e")
  (refine Sm.fmono (a2) fun r o h => ?_; obtain ⟨d, rfl, rfl⟩ := h; refine ⟨nref, ?_⟩; walk_at "lw v"; walk_at "lw e")
  refine Sm.fmono f1 fun r o h => ?_
  obtain ⟨d, b2, rfl, rfl, hb2, rfl⟩ := h
  refine ⟨nref, ?_⟩
  have f2 := far_ge (c := 2200) (e.fl o1 e.onL n1 n0) e.ge1 (hb2.less (by omega))
  walk_at "lw n"
  walk_at "lw e"
  refine Sm.fmono f2 fun r o h => ?_
  obtain ⟨d, b3, rfl, rfl, hb3, rfl⟩ := h
  refine ⟨nref, ?_⟩
  walk_at "lw n"
  walk_at "lw e"
  (refine Sm.fmono (k1) fun r o h => ?_; obtain ⟨d, rfl, rfl⟩ := h; refine ⟨nref, ?_⟩; walk_at "lw v"; walk_at "lw e")
  (refine Sm.fmono (k2) fun r o h => ?_; obtain ⟨d, rfl, rfl⟩ := h; refine ⟨nref, ?_⟩; walk_at "lw v"; walk_at "lw e")
  exact r11_ok e (hb3.less (by omega))
theorem r5_ok {g : Nat} {ps : List P3} {x y rs : List Dd} {b : List D} (e : Al g ps x y rs) (hb : Box 5000 b) : wps r5 (st7 b g ps x y rs none none none none none none none) (Sm.outF 1 TrueQ) := by
  have hl := e.lxy
  have hr5 := e.r5
  have h6 := e.x2
  have hjl := jn_len rs ps.length
  unfold r5
  change wps (sq _ (sq _ (sq _ r8))) _ _
  unfold st7
  walk_at "lw e"
  rw [cutX]
  refine ⟨catD (by omega), ?_⟩
  walk_at "lw e"
  rw [cutY]
  refine ⟨catD (by simp; omega), ?_⟩
  walk_at "lw e"
  walk_at "lw n"
  walk_at "lw e"
  rw [cutX]
  refine Sm.fmono (stirred_ok (c := 4000) (rs := rs) (by omega) (hb.less (by omega))) fun r o h => ?_
  obtain ⟨qs, b2, rfl, hq, hb2, rfl⟩ := h
  have hql := hq.length_eq
  refine ⟨nfr, ?_⟩
  walk_at "lw n"
  walk_at "lw e"
  refine ⟨catD (a := x) (b := qs) (by omega), ?_⟩
  walk_at "lw e"
  rw [cutY]
  refine ⟨catD (by simp; omega), ?_⟩
  walk_at "lw e"
  walk_at "lw n"
  walk_at "lw e"
  rw [cutX]
  (refine Sm.fmono (joined_ok h6 (by omega) e.hr) fun r o h => ?_; obtain ⟨d, rfl, rfl⟩ := h; refine ⟨nref, ?_⟩; walk_at "lw v"; walk_at "lw e")
  refine ⟨catD (by omega), ?_⟩
  walk_at "lw e"
  rw [cutY]
  refine ⟨catD (by simp; omega), ?_⟩
  walk_at "lw e"
  walk_at "lw n"
  exact r8_ok e hq (hb2.less (by omega))
def IRn (c g : Nat) (ps : List P3) (s1 s2 s4 : Option S) (j : Nat) (acc : List D) (ς : En) : Prop := ∃ (b : List D) (ds : List Dd), ς = [some (.own true b), s1, s2, some (.pure (.int ps.length)), s4, none, none, none, none, none, none, none, none, none, none] ∧ acc = ds.map dd ∧ ds.length = j ∧ (∀ d ∈ ds, RainB ps.length g d) ∧ Box (c + 32 * (6 - j)) b
theorem right_ok {ds : List D} (hb : Box 1000000 ds) : wpf m_l_right [.own true ds] TrueQ := by
  have hsl : sizeLine = 16777216 := rfl
  refine Sm.run ?_
  unfold g_l_right
  change wps (sq _ (sq _ (sq _ (sq _ (sq _ r5))))) _ _
  walk_at "lw n"
  walk_at "lw e"
  refine Sm.fmono (great_ok (c := 50000) (hb.less (by omega))) fun r o h => ?_
  obtain ⟨d, b1, rfl, ⟨g, rfl, g1, g2⟩, h1, rfl⟩ := h
  refine ⟨nref, ?_⟩
  walk_at "lw n"
  walk_at "lw e"
  refine Sm.fmono (stair_ok (c := 40000) (cap := 6) (g := g) (by decide) (by decide) g2 (h1.less (by omega))) fun r o h => ?_
  obtain ⟨d, b2, rfl, ⟨xs, rfl, x1, x2, hp0⟩, h2, rfl⟩ := h
  obtain ⟨ps, rfl, hp⟩ := pounds_of hp0
  rw [List.length_map] at x1 x2
  refine ⟨nref, ?_⟩
  walk_at "lw n"
  walk_at "lw e"
  rw [List.length_map]
  refine Sm.fmono (lap2_ok (c := 30000) (cap := 8) x1 x2 (by decide) g2 g1 (h2.less (by omega))) fun r o h => ?_
  obtain ⟨d, b3, rfl, ⟨es, cs, rfl, l1, on1, cl, rn⟩, h3, rfl⟩ := h
  refine ⟨nref, ?_⟩
  walk_at "lw n"
  walk_at "lw e"
  walk_at "lw n"
  walk_at "lw e"
  refine Sm.fmono (take4 (c := 20000) (Box.less h3 (by omega)) (by omega) (by omega)) fun r o h => ?_
  obtain ⟨v, b4, rfl, l4, u4, h4, rfl⟩ := h
  refine ⟨nref, ?_⟩
  obtain ⟨k, hk⟩ : ∃ k : Nat, 1 + v = (k : Int) := ⟨(1 + v).toNat, by omega⟩
  walk_at "lw n"
  refine ⟨_, _, _, rfl, rfl, rfl, ?_⟩
  walk_at "lw n"
  rw [hk]
  refine ⟨_, rfl, in_R (by omega), ?_⟩
  refine ⟨rfl, ?_⟩
  dsimp only [wipeE]
  walk_at "lw n"
  refine Sm.lcInv (IRn 19000 g ps (some (.pure (.int g))) (some (.pure (.tuple (ps.map pd)))) (some (.pure (.list (es.map dd))))) ⟨b4, [], rfl, rfl, rfl, (fun d m => by cases m), h4.less (by omega)⟩ (by rw [rngD_len]; omega) ?_ ?_
  · rintro j d acc ς hd hj ⟨b, ds, rfl, rfl, hn, hR, hb2⟩
    have hjl : j < 5 := by have := (List.getElem?_eq_some_iff.mp hd).1; rw [rngD_len] at this; omega
    refine ⟨_, tgN_o rfl trivial, ?_⟩
    walk_at "lw n"
    walk_at "lw e"
    (refine Sm.fmono (take4 (c := 19000 + 32 * (6 - j) - 16) (Box.less hb2 (by omega)) (by omega) (by omega)) fun r o h => ?_; obtain ⟨v1, b1, rfl, l1, u1, h1, rfl⟩ := h; refine ⟨nref, ?_⟩; walk_at "lw n"; walk_at "lw e")
    (refine Sm.fmono (take4 (c := 19000 + 32 * (6 - (j + 1))) (Box.less h1 (by omega)) (by omega) (by omega)) fun r o h => ?_; obtain ⟨v2, b2, rfl, l2, u2, h2, rfl⟩ := h; refine ⟨nref, ?_⟩; walk_at "lw n"; walk_at "lw e")
    refine ⟨mul_l (by omega), ?_⟩
    obtain ⟨l, hl⟩ : ∃ l : Nat, 1 + v1 = (l : Int) := ⟨(1 + v1).toNat, by omega⟩
    have k0 : 1 * 1 ≤ (g : Int) * (1 + v2) := Int.mul_le_mul (by omega) (by omega) (by omega) (by omega)
    have k1 : (g : Int) * (1 + v2) ≤ g * 9 := Int.mul_le_mul_of_nonneg_left (by omega) (by omega)
    walk_at "lw e"
    rw [hl]
    exact ⟨b2, ds ++ [.raise l (g * (1 + v2))], rfl, by simp; rfl, by simp [hn], (fun d m => by
      rcases List.mem_append.1 m with m | m
      · exact hR d m
      · rw [List.mem_singleton.1 m]
        exact ⟨l, _, rfl, by omega, by omega, by omega, by omega⟩), h2⟩
  · rintro acc ς hacc ⟨b, rs, rfl, rfl, hn, hR, hb2⟩
    rw [rngD_len] at hn hb2
    have hn : rs.length = k := by rw [hn, Int.toNat_natCast]
    refine ⟨_, _, _, rfl, tgN_o rfl trivial, Sm.at_nx ?_⟩
    walk_at "lw n"
    walk_at "lw e"
    rw [List.length_map]
    refine Sm.fmono (take4 (c := 18000) (Box.less hb2 (by omega)) (by omega) (by omega)) fun r o h => ?_
    obtain ⟨w, b5, rfl, l5, u5, h5, rfl⟩ := h
    refine ⟨nref, ?_⟩
    obtain ⟨c, rfl⟩ : ∃ c : Nat, w = (c : Int) := ⟨w.toNat, by omega⟩
    obtain ⟨x, y, rfl, hx⟩ : ∃ x y, es = x ++ y ∧ x.length = c := ⟨es.take c, es.drop c, (List.take_append_drop c es).symm, by rw [List.length_take]; omega⟩
    subst hx
    rw [List.length_append] at l1
    have e : Al g ps x y rs := ⟨g1, g2, x1, x2, hp, ⟨by omega, fun d m => ⟨(on1 d (List.mem_append_left _ m)).1, D9_of (on1 d (List.mem_append_left _ m)).2⟩⟩, ⟨by omega, fun d m => ⟨(on1 d (List.mem_append_right _ m)).1, D9_of (on1 d (List.mem_append_right _ m)).2⟩⟩, by omega, hR, by omega, by omega⟩
    walk_at "lw n"
    refine ⟨_, _, _, rfl, tgN_o rfl trivial, Sm.at_nx ?_⟩
    walk_at "lw n"
    exact r5_ok e (h5.less (by omega))
end K77
namespace K77
open PySem PySem.Spec PyProof.Rows L2 Lw
theorem sem_law (ns : List Int) (hl : ns.length ≤ 63) (_hb : ∀ z ∈ ns, Builtin.Int.intBits z ≤ 1048576) : ∃ outs, m_p_law [.pure (.list (ns.map PyData.int))] = some (.pure (.bool true), outs) :=
  wpf_law (law_ok2 (right := m_l_right) (k := 3) (by decide) (by decide) (fun _ h => right_ok h) ns hl)
end K77
namespace K77
open PySem PySem.Spec PyProof.Rows L2 Lw
def topS (i : Nat) : Stmt := PySem.Challenge.pw_liftwater_k77_whole_rains_in_any_order.main.body.getD i (.Pass ⟨0, 0, 0, 0⟩)
abbrev s_p_change_of : Stmt := topS 4
theorem sc_p_change_of : FnScope ["stair", "deed", "word", "place"] ["stair", "deed"] (defScope s_p_change_of) := ⟨rfl, rfl, rfl, by decide +kernel, rfl, by decide +kernel, by decide +kernel⟩
abbrev s_p_led : Stmt := topS 6
theorem sc_p_led : FnScope ["table", "totals", "parts", "more", "total", "at", "row"] ["table", "totals"] (defScope s_p_led) := ⟨rfl, rfl, rfl, by decide +kernel, rfl, by decide +kernel, by decide +kernel⟩
abbrev s_p_table_of : Stmt := topS 7
theorem sc_p_table_of : FnScope ["stair", "deeds"] ["stair", "deeds"] (defScope s_p_table_of) := ⟨rfl, rfl, rfl, by decide +kernel, rfl, by decide +kernel, by decide +kernel⟩
abbrev s_p_tables_along : Stmt := topS 8
theorem sc_p_tables_along : FnScope ["stair", "deeds", "table", "along", "deed"] ["stair", "deeds"] (defScope s_p_tables_along) := ⟨rfl, rfl, rfl, by decide +kernel, rfl, by decide +kernel, by decide +kernel⟩
abbrev s_p_brim_table : Stmt := topS 9
theorem sc_p_brim_table : FnScope ["stair", "rows", "above", "pound", "more"] ["stair"] (defScope s_p_brim_table) := ⟨rfl, rfl, rfl, by decide +kernel, rfl, by decide +kernel, by decide +kernel⟩
abbrev s_p_table_behind : Stmt := topS 10
theorem sc_p_table_behind : FnScope ["stair", "table", "deed", "changed", "more", "rows", "above", "pound", "added", "row", "number", "brim", "rest"] ["stair", "table", "deed"] (defScope s_p_table_behind) := ⟨rfl, rfl, rfl, by decide +kernel, rfl, by decide +kernel, by decide +kernel⟩
abbrev s_p_behind : Stmt := topS 11
theorem sc_p_behind : FnScope ["one", "other", "rows", "at", "row"] ["one", "other"] (defScope s_p_behind) := ⟨rfl, rfl, rfl, by decide +kernel, rfl, by decide +kernel, by decide +kernel⟩
abbrev s_p_row_behind : Stmt := topS 12
theorem sc_p_row_behind : FnScope ["rows", "row", "between", "place"] ["rows", "row"] (defScope s_p_row_behind) := ⟨rfl, rfl, rfl, by decide +kernel, rfl, by decide +kernel, by decide +kernel⟩
abbrev s_p_doubles_of : Stmt := topS 13
theorem sc_p_doubles_of : FnScope ["table", "most", "double", "row", "doubles", "step"] ["table", "most"] (defScope s_p_doubles_of) := ⟨rfl, rfl, rfl, by decide +kernel, rfl, by decide +kernel, by decide +kernel⟩
abbrev s_p_doubles_in : Stmt := topS 14
theorem sc_p_doubles_in : FnScope ["doubles", "many", "at", "double"] ["doubles", "many"] (defScope s_p_doubles_in) := ⟨rfl, rfl, rfl, by decide +kernel, rfl, by decide +kernel, by decide +kernel⟩
abbrev s_p_led_often : Stmt := topS 15
theorem sc_p_led_often : FnScope ["doubles", "totals", "many", "totals_now", "double"] ["doubles", "totals", "many"] (defScope s_p_led_often) := ⟨rfl, rfl, rfl, by decide +kernel, rfl, by decide +kernel, by decide +kernel⟩
abbrev s_p_totals_of : Stmt := topS 17
theorem sc_p_totals_of : FnScope ["levels", "totals", "above", "level"] ["levels"] (defScope s_p_totals_of) := ⟨rfl, rfl, rfl, by decide +kernel, rfl, by decide +kernel, by decide +kernel⟩
abbrev s_p_levels_of : Stmt := topS 18
theorem sc_p_levels_of : FnScope ["totals", "above", "total", "rest"] ["totals"] (defScope s_p_levels_of) := ⟨rfl, rfl, rfl, by decide +kernel, rfl, by decide +kernel, by decide +kernel⟩
abbrev s_p_alike : Stmt := topS 20
theorem sc_p_alike : FnScope ["stair", "one", "other"] ["stair", "one", "other"] (defScope s_p_alike) := ⟨rfl, rfl, rfl, by decide +kernel, rfl, by decide +kernel, by decide +kernel⟩
abbrev s_p_no_less : Stmt := topS 21
theorem sc_p_no_less : FnScope ["stair", "one", "other", "pairs", "row", "beside", "more", "less"] ["stair", "one", "other"] (defScope s_p_no_less) := ⟨rfl, rfl, rfl, by decide +kernel, rfl, by decide +kernel, by decide +kernel⟩
abbrev s_p_far_levels : Stmt := topS 23
theorem sc_p_far_levels : FnScope ["stair", "levels", "deeds", "many"] ["stair", "levels", "deeds", "many"] (defScope s_p_far_levels) := ⟨rfl, rfl, rfl, by decide +kernel, rfl, by decide +kernel, by decide +kernel⟩
abbrev s_p_far_totals : Stmt := topS 24
theorem sc_p_far_totals : FnScope ["stair", "levels", "deeds", "many"] ["stair", "levels", "deeds", "many"] (defScope s_p_far_totals) := ⟨rfl, rfl, rfl, by decide +kernel, rfl, by decide +kernel, by decide +kernel⟩
abbrev s_l_box : Stmt := topS 26
theorem sc_l_box : FnScope ["_law_script", "_law_k", "_law_cell"] ["_law_script", "_law_k"] (defScope s_l_box) := ⟨rfl, rfl, rfl, by decide +kernel, rfl, by decide +kernel, by decide +kernel⟩
abbrev s_l_take : Stmt := topS 27
theorem sc_l_take : FnScope ["_law_box_here", "_law_size", "_law_found", "_law_step", "_law_once", "_law_twice"] ["_law_box_here", "_law_size"] (defScope s_l_take) := ⟨rfl, rfl, rfl, by decide +kernel, rfl, by decide +kernel, by decide +kernel⟩
abbrev s_l_folded : Stmt := topS 28
theorem sc_l_folded : FnScope ["_law_script", "_law_size", "_law_cells", "_law_k", "_law_cell"] ["_law_script", "_law_size"] (defScope s_l_folded) := ⟨rfl, rfl, rfl, by decide +kernel, rfl, by decide +kernel, by decide +kernel⟩
abbrev s_l_same : Stmt := topS 29
theorem sc_l_same : FnScope ["_law_found", "_law_due", "_law_one", "_law_other"] ["_law_found", "_law_due"] (defScope s_l_same) := ⟨rfl, rfl, rfl, by decide +kernel, rfl, by decide +kernel, by decide +kernel⟩
abbrev s_l_stair : Stmt := topS 30
theorem sc_l_stair : FnScope ["_law_box_here", "_law_cap", "_law_by", "_law_found", "_law_pound", "_law_least", "_law_wide", "_law_size"] ["_law_box_here", "_law_cap", "_law_by"] (defScope s_l_stair) := ⟨rfl, rfl, rfl, by decide +kernel, rfl, by decide +kernel, by decide +kernel⟩
abbrev s_l_great : Stmt := topS 31
theorem sc_l_great : FnScope ["_law_box_here"] ["_law_box_here"] (defScope s_l_great) := ⟨rfl, rfl, rfl, by decide +kernel, rfl, by decide +kernel, by decide +kernel⟩
abbrev s_l_lap : Stmt := topS 32
theorem sc_l_lap : FnScope ["_law_box_here", "_law_many", "_law_cap", "_law_by", "_law_first", "_law_lock", "_law_now", "_law_lot", "_law_turn", "_law_way", "_law_at"] ["_law_box_here", "_law_many", "_law_cap", "_law_by"] (defScope s_l_lap) := ⟨rfl, rfl, rfl, by decide +kernel, rfl, by decide +kernel, by decide +kernel⟩
abbrev s_l_joined : Stmt := topS 33
theorem sc_l_joined : FnScope ["_law_rains", "_law_many", "_law_found", "_law_pound", "_law_much", "_law_deed"] ["_law_rains", "_law_many"] (defScope s_l_joined) := ⟨rfl, rfl, rfl, by decide +kernel, rfl, by decide +kernel, by decide +kernel⟩
abbrev s_l_stirred : Stmt := topS 34
theorem sc_l_stirred : FnScope ["_law_box_here", "_law_rains", "_law_left", "_law_found", "_law_turn"] ["_law_box_here", "_law_rains"] (defScope s_l_stirred) := ⟨rfl, rfl, rfl, by decide +kernel, rfl, by decide +kernel, by decide +kernel⟩
abbrev s_l_far_right : Stmt := topS 35
theorem sc_l_far_right : FnScope ["_law_box_here", "_law_stair_here", "_law_by", "_law_one", "_law_other", "_law_same_here", "_law_flat", "_law_least", "_law_most", "_law_size", "_law_much", "_law_both", "_law_lap_here", "_law_total", "_law_its"] ["_law_box_here", "_law_stair_here", "_law_by", "_law_one", "_law_other", "_law_same_here"] (defScope s_l_far_right) := ⟨rfl, rfl, rfl, by decide +kernel, rfl, by decide +kernel, by decide +kernel⟩
abbrev s_l_right : Stmt := topS 36
theorem sc_l_right : FnScope ["_law_box_here", "_law_by", "_law_stair_here", "_law_many", "_law_lap_here", "_law_rains", "_law_turn", "_law_at", "_law_one", "_law_mixed", "_law_once", "_law_drain", "_law_less", "_law_later", "_law_first"] ["_law_box_here"] (defScope s_l_right) := ⟨rfl, rfl, rfl, by decide +kernel, rfl, by decide +kernel, by decide +kernel⟩
abbrev s_p_law : Stmt := topS 37
theorem sc_p_law : FnScope ["_law_script", "_law_cells", "_law_k"] ["_law_script"] (defScope s_p_law) := ⟨rfl, rfl, rfl, by decide +kernel, rfl, by decide +kernel, by decide +kernel⟩
section
variable {P : Program} {w : World} {K : PySem.W.Frag} {mg : Str → Option Value} {base : Heap} {f : Addr}
theorem b_p_change_of {t_FILL : Tok} (c_FILL : mg "FILL" = some (.str "fill" t_FILL)) {t_EMPTY : Tok} (c_EMPTY : mg "EMPTY" = some (.str "empty" t_EMPTY)) {t_RAISE : Tok} (c_RAISE : mg "RAISE" = some (.str "raise" t_RAISE)) : ∀ (cdv : Value) (A : Around) (outer : List Env) (s : Shared) (H : Hp) (E : XK), A.guards = some [] → Room 0 (A.deeper (envOfC "change_of" (defScope s_p_change_of) s.heap.objs.size f cdv)) →
    PSsd (cxOf CX0 P w K mg base ["stair", "deed", "word", "place"] "change_of" (defScope s_p_change_of) f cdv A outer s H E).nox (defBody s_p_change_of) g_p_change_of := by
  intro cdv A outer s H E hgd hr
  unfold g_p_change_of
  exact (s_cons (s_par2 (d_ix (d_var 1 (pv 1)) d_int) (d_ix (d_var 1 (pv 1)) d_int) (fun t h => ps_par (i := 2) (j := 3) rfl sc_p_change_of.nd rfl rfl (by decide) rfl rfl h (by rfl)))
  (s_cons (s_if (d_tstC (op_eq.or (op_eqD hr.units)) (fun _ => Op2.or op2_eqS op2_eq) (d_var 2 (pv 2)) (d_gstr (pe_glob (by rfl) c_FILL ⟨_, rfl⟩)) (nomark _)) (s_one (s_ret (d_tup (a_val (d_var 3 (pv 3)) (a_val (d_neg (d_ix (d_ix (d_var 0 (pv 0)) (d_subA (d_var 3 (pv 3)) d_int)) d_int)) a_nil))))) s_nil)
  (s_cons (s_if (d_tstC (op_eq.or (op_eqD hr.units)) (fun _ => Op2.or op2_eqS op2_eq) (d_var 2 (pv 2)) (d_gstr (pe_glob (by rfl) c_EMPTY ⟨_, rfl⟩)) (nomark _)) (s_one (s_ret (d_tup (a_val (d_subA (d_var 3 (pv 3)) d_int) (a_val (d_ix (d_ix (d_var 0 (pv 0)) (d_subA (d_var 3 (pv 3)) d_int)) d_int) a_nil))))) s_nil)
  (s_cons (s_if (d_tstC (op_eq.or (op_eqD hr.units)) (fun _ => Op2.or op2_eqS op2_eq) (d_var 2 (pv 2)) (d_gstr (pe_glob (by rfl) c_RAISE ⟨_, rfl⟩)) (nomark _)) (s_one (s_ret (d_tup (a_val (d_var 3 (pv 3)) (a_val (d_ix (d_var 1 (pv 1)) d_int) a_nil))))) s_nil)
  (s_one (s_ret (d_tup (a_val (d_var 3 (pv 3)) (a_val (d_neg (d_ix (d_var 1 (pv 1)) d_int)) a_nil)))))))))
theorem b_p_led (n_enumerate : mg "enumerate" = none) (n_min : mg "min" = none) (n_tuple : mg "tuple" = none) (n_zip : mg "zip" = none) : ∀ (cdv : Value) (A : Around) (outer : List Env) (s : Shared) (H : Hp) (E : XK), A.guards = some [] → Room 0 (A.deeper (envOfC "led" (defScope s_p_led) s.heap.objs.size f cdv)) →
    PSsd (cxOf CX0 P w K mg base ["table", "totals", "parts", "more", "total", "at", "row"] "led" (defScope s_p_led) f cdv A outer s H E).nox (defBody s_p_led) g_p_led := by
  intro cdv A outer s H E hgd hr
  unfold g_p_led
  exact (s_cons (s_asg (d_lst (a_star (d_var 1 (pv 1)) (a_val d_int a_nil))) (g_name (pg_name (i := 2) sc_p_led.nd rfl (by first | exact Or.inl rfl | exact Or.inr rfl))))
  (s_one (s_ret (d_tuple (by rfl) n_tuple (d_lc (own := [("at", 5), ("row", 6)]) rfl sc_p_led.nd (i_enumK (by rfl) n_enumerate (d_var 0 (pv 0))) (blkOk_by (N := ["table", "totals", "parts", "more", "total", "at", "row"]) (sc := defScope s_p_led) (own := [("at", 5), ("row", 6)]) (by decide +kernel)) (fun _ _ _ _ _ => (g_tup (PG.or (pg_tup rfl (PGsd.ex (gs_cons (g_name (pg_name (i := 5) sc_p_led.nd rfl (by first | exact Or.inl rfl | exact Or.inr rfl))) (gs_cons (g_name (pg_name (i := 6) sc_p_led.nd rfl (by first | exact Or.inl rfl | exact Or.inr rfl))) gs_nil (pgs_cons (PGd.ex (g_name (pg_name (i := 6) sc_p_led.nd rfl (by first | exact Or.inl rfl | exact Or.inr rfl)))) (PGsd.ex gs_nil))) (pgs_cons (PGd.ex (g_name (pg_name (i := 5) sc_p_led.nd rfl (by first | exact Or.inl rfl | exact Or.inr rfl)))) (PGsd.ex (gs_cons (g_name (pg_name (i := 6) sc_p_led.nd rfl (by first | exact Or.inl rfl | exact Or.inr rfl))) gs_nil (pgs_cons (PGd.ex (g_name (pg_name (i := 6) sc_p_led.nd rfl (by first | exact Or.inl rfl | exact Or.inr rfl)))) (PGsd.ex gs_nil)))))))) (pg_lst rfl (PGsd.ex (gs_cons (g_name (pg_name (i := 5) sc_p_led.nd rfl (by first | exact Or.inl rfl | exact Or.inr rfl))) (gs_cons (g_name (pg_name (i := 6) sc_p_led.nd rfl (by first | exact Or.inl rfl | exact Or.inr rfl))) gs_nil (pgs_cons (PGd.ex (g_name (pg_name (i := 6) sc_p_led.nd rfl (by first | exact Or.inl rfl | exact Or.inr rfl)))) (PGsd.ex gs_nil))) (pgs_cons (PGd.ex (g_name (pg_name (i := 5) sc_p_led.nd rfl (by first | exact Or.inl rfl | exact Or.inr rfl)))) (PGsd.ex (gs_cons (g_name (pg_name (i := 6) sc_p_led.nd rfl (by first | exact Or.inl rfl | exact Or.inr rfl))) gs_nil (pgs_cons (PGd.ex (g_name (pg_name (i := 6) sc_p_led.nd rfl (by first | exact Or.inl rfl | exact Or.inr rfl)))) (PGsd.ex gs_nil))))))))))) (fun _ _ _ _ _ => ts_nil) (fun _ _ _ _ _ => (d_minK rfl (units1 hr) (by rfl) n_min (d_lc (own := [("more", 3), ("total", 4)]) rfl sc_p_led.nd (i_zip2 (by rfl) n_zip (d_var 6 (pv 6)) (d_sl (d_var 2 (pv 2)) (o_some (d_var 5 (pv 5))) o_none)) (blkOk_n (N := ["table", "totals", "parts", "more", "total", "at", "row"]) (own := [("more", 3), ("total", 4)]) (by decide +kernel)) (fun _ _ _ _ _ => (g_tup (PG.or (pg_tup rfl (PGsd.ex (gs_cons (g_name (pg_name (i := 3) sc_p_led.nd rfl (by first | exact Or.inl rfl | exact Or.inr rfl))) (gs_cons (g_name (pg_name (i := 4) sc_p_led.nd rfl (by first | exact Or.inl rfl | exact Or.inr rfl))) gs_nil (pgs_cons (PGd.ex (g_name (pg_name (i := 4) sc_p_led.nd rfl (by first | exact Or.inl rfl | exact Or.inr rfl)))) (PGsd.ex gs_nil))) (pgs_cons (PGd.ex (g_name (pg_name (i := 3) sc_p_led.nd rfl (by first | exact Or.inl rfl | exact Or.inr rfl)))) (PGsd.ex (gs_cons (g_name (pg_name (i := 4) sc_p_led.nd rfl (by first | exact Or.inl rfl | exact Or.inr rfl))) gs_nil (pgs_cons (PGd.ex (g_name (pg_name (i := 4) sc_p_led.nd rfl (by first | exact Or.inl rfl | exact Or.inr rfl)))) (PGsd.ex gs_nil)))))))) (pg_lst rfl (PGsd.ex (gs_cons (g_name (pg_name (i := 3) sc_p_led.nd rfl (by first | exact Or.inl rfl | exact Or.inr rfl))) (gs_cons (g_name (pg_name (i := 4) sc_p_led.nd rfl (by first | exact Or.inl rfl | exact Or.inr rfl))) gs_nil (pgs_cons (PGd.ex (g_name (pg_name (i := 4) sc_p_led.nd rfl (by first | exact Or.inl rfl | exact Or.inr rfl)))) (PGsd.ex gs_nil))) (pgs_cons (PGd.ex (g_name (pg_name (i := 3) sc_p_led.nd rfl (by first | exact Or.inl rfl | exact Or.inr rfl)))) (PGsd.ex (gs_cons (g_name (pg_name (i := 4) sc_p_led.nd rfl (by first | exact Or.inl rfl | exact Or.inr rfl))) gs_nil (pgs_cons (PGd.ex (g_name (pg_name (i := 4) sc_p_led.nd rfl (by first | exact Or.inl rfl | exact Or.inr rfl)))) (PGsd.ex gs_nil))))))))))) (fun _ _ _ _ _ => ts_nil) (fun _ _ _ _ _ => (d_addA (d_var 3 (pv 3)) (d_var 4 (pv 4))))))))))))
theorem b_p_table_of (f_p_tables_along : Fo P w K mg base "tables_along" ["stair", "deeds"] m_p_tables_along 3) : ∀ (cdv : Value) (A : Around) (outer : List Env) (s : Shared) (H : Hp) (E : XK), A.guards = some [] → Room 3 (A.deeper (envOfC "table_of" (defScope s_p_table_of) s.heap.objs.size f cdv)) →
    PSsd (cxOf CX0 P w K mg base ["stair", "deeds"] "table_of" (defScope s_p_table_of) f cdv A outer s H E).nox (defBody s_p_table_of) g_p_table_of := by
  intro cdv A outer s H E hgd hr
  unfold g_p_table_of
  exact (s_one (s_ret (d_ix (Fo.call f_p_tables_along hgd hr (by decide) (by rfl) rfl (a_val (d_var 0 (pv 0)) (a_val (d_var 1 (pv 1)) a_nil)) (argV_len (argV_len (fun _ _ _ h => argN_len h)))) (d_neg d_int))))
theorem b_p_tables_along (f_p_brim_table : Fo P w K mg base "brim_table" ["stair"] m_p_brim_table 1) (f_p_table_behind : Fo P w K mg base "table_behind" ["stair", "table", "deed"] m_p_table_behind 2) : ∀ (cdv : Value) (A : Around) (outer : List Env) (s : Shared) (H : Hp) (E : XK), A.guards = some [] → Room 2 (A.deeper (envOfC "tables_along" (defScope s_p_tables_along) s.heap.objs.size f cdv)) →
    PSsd (cxOf CX0 P w K mg base ["stair", "deeds", "table", "along", "deed"] "tables_along" (defScope s_p_tables_along) f cdv A outer s H E).nox (defBody s_p_tables_along) g_p_tables_along := by
  intro cdv A outer s H E hgd hr
  unfold g_p_tables_along
  exact (s_cons (s_asg (Fo.call f_p_brim_table hgd hr (by decide) (by rfl) rfl (a_val (d_var 0 (pv 0)) a_nil) (argV_len (fun _ _ _ h => argN_len h))) (g_name (pg_name (i := 2) sc_p_tables_along.nd rfl (by first | exact Or.inl rfl | exact Or.inr rfl))))
  (s_cons (s_asgO (d_lst (a_val (d_var 2 (pv 2)) a_nil)) (fun te h => ps_set (i := 3) sc_p_tables_along.nd rfl (by first | exact Or.inl rfl | exact Or.inr rfl) h))
  (s_cons (s_for PassesOwn.never rfl (i_seq (d_var 1 (pv 1))) (g_name (pg_name (i := 4) sc_p_tables_along.nd rfl (by first | exact Or.inl rfl | exact Or.inr rfl))) (s_cons (s_asg (Fo.call f_p_table_behind hgd hr (by decide) (by rfl) rfl (a_val (d_var 0 (pv 0)) (a_val (d_var 2 (pv 2)) (a_val (d_var 4 (pv 4)) a_nil))) (argV_len (argV_len (argV_len (fun _ _ _ h => argN_len h))))) (g_name (pg_name (i := 2) sc_p_tables_along.nd rfl (by first | exact Or.inl rfl | exact Or.inr rfl))))
  (s_one (s_expr (d_mth m_append (d_var 3 (pv 3)) (a_val (d_var 2 (pv 2)) a_nil) (fun to t h1 h2 => pe_bm PySem.F.plainAttrs_list PySem.F.slot_list_append PySem.F.type_list_append mt_append h1 h2))))))
  (s_one (s_ret (d_var 3 (pv 3)))))))
theorem b_p_brim_table (n_tuple : mg "tuple" = none) : ∀ (cdv : Value) (A : Around) (outer : List Env) (s : Shared) (H : Hp) (E : XK), A.guards = some [] → Room 0 (A.deeper (envOfC "brim_table" (defScope s_p_brim_table) s.heap.objs.size f cdv)) →
    PSsd (cxOf CX0 P w K mg base ["stair", "rows", "above", "pound", "more"] "brim_table" (defScope s_p_brim_table) f cdv A outer s H E).nox (defBody s_p_brim_table) g_p_brim_table := by
  intro cdv A outer s H E hgd hr
  unfold g_p_brim_table
  exact (s_cons (s_asgO (d_lst a_nil) (fun te h => ps_set (i := 1) sc_p_brim_table.nd rfl (by first | exact Or.inl rfl | exact Or.inr rfl) h))
  (s_cons (s_asg (d_tup (a_val d_int a_nil)) (g_name (pg_name (i := 2) sc_p_brim_table.nd rfl (by first | exact Or.inl rfl | exact Or.inr rfl))))
  (s_cons (s_for PassesOwn.never rfl (i_seq (d_revA (d_var 0 (pv 0)))) (g_name (pg_name (i := 3) sc_p_brim_table.nd rfl (by first | exact Or.inl rfl | exact Or.inr rfl))) (s_cons (s_asg (d_addA (d_tup (a_val d_int a_nil)) (d_tuple (by rfl) n_tuple (d_lc (own := [("more", 4)]) rfl sc_p_brim_table.nd (i_seq (d_var 2 (pv 2))) (blkOk_by (N := ["stair", "rows", "above", "pound", "more"]) (sc := defScope s_p_brim_table) (own := [("more", 4)]) (by decide +kernel)) (fun _ _ _ _ _ => (g_name (pg_name (i := 4) sc_p_brim_table.nd rfl (by first | exact Or.inl rfl | exact Or.inr rfl)))) (fun _ _ _ _ _ => ts_nil) (fun _ _ _ _ _ => (d_addA (d_ix (d_var 3 (pv 3)) d_int) (d_var 4 (pv 4))))))) (g_name (pg_name (i := 2) sc_p_brim_table.nd rfl (by first | exact Or.inl rfl | exact Or.inr rfl))))
  (s_one (s_expr (d_mth m_append (d_var 1 (pv 1)) (a_val (d_var 2 (pv 2)) a_nil) (fun to t h1 h2 => pe_bm PySem.F.plainAttrs_list PySem.F.slot_list_append PySem.F.type_list_append mt_append h1 h2))))))
  (s_one (s_ret (d_tuple (by rfl) n_tuple (d_revA (d_var 1 (pv 1)))))))))
theorem b_p_table_behind (n_len : mg "len" = none) (n_min : mg "min" = none) (n_range : mg "range" = none) (n_reversed : mg "reversed" = none) (n_tuple : mg "tuple" = none) (n_zip : mg "zip" = none) (f_p_change_of : Fo P w K mg base "change_of" ["stair", "deed"] m_p_change_of 1) : ∀ (cdv : Value) (A : Around) (outer : List Env) (s : Shared) (H : Hp) (E : XK), A.guards = some [] → Room 1 (A.deeper (envOfC "table_behind" (defScope s_p_table_behind) s.heap.objs.size f cdv)) →
    PSsd (cxOf CX0 P w K mg base ["stair", "table", "deed", "changed", "more", "rows", "above", "pound", "added", "row", "number", "brim", "rest"] "table_behind" (defScope s_p_table_behind) f cdv A outer s H E).nox (defBody s_p_table_behind) g_p_table_behind := by
  intro cdv A outer s H E hgd hr
  unfold g_p_table_behind
  exact (s_cons (s_asg (Fo.call f_p_change_of hgd hr (by decide) (by rfl) rfl (a_val (d_var 0 (pv 0)) (a_val (d_var 2 (pv 2)) a_nil)) (argV_len (argV_len (fun _ _ _ h => argN_len h)))) (g_tup (PG.or (pg_tup rfl (PGsd.ex (gs_cons (g_name (pg_name (i := 3) sc_p_table_behind.nd rfl (by first | exact Or.inl rfl | exact Or.inr rfl))) (gs_cons (g_name (pg_name (i := 4) sc_p_table_behind.nd rfl (by first | exact Or.inl rfl | exact Or.inr rfl))) gs_nil (pgs_cons (PGd.ex (g_name (pg_name (i := 4) sc_p_table_behind.nd rfl (by first | exact Or.inl rfl | exact Or.inr rfl)))) (PGsd.ex gs_nil))) (pgs_cons (PGd.ex (g_name (pg_name (i := 3) sc_p_table_behind.nd rfl (by first | exact Or.inl rfl | exact Or.inr rfl)))) (PGsd.ex (gs_cons (g_name (pg_name (i := 4) sc_p_table_behind.nd rfl (by first | exact Or.inl rfl | exact Or.inr rfl))) gs_nil (pgs_cons (PGd.ex (g_name (pg_name (i := 4) sc_p_table_behind.nd rfl (by first | exact Or.inl rfl | exact Or.inr rfl)))) (PGsd.ex gs_nil)))))))) (pg_lst rfl (PGsd.ex (gs_cons (g_name (pg_name (i := 3) sc_p_table_behind.nd rfl (by first | exact Or.inl rfl | exact Or.inr rfl))) (gs_cons (g_name (pg_name (i := 4) sc_p_table_behind.nd rfl (by first | exact Or.inl rfl | exact Or.inr rfl))) gs_nil (pgs_cons (PGd.ex (g_name (pg_name (i := 4) sc_p_table_behind.nd rfl (by first | exact Or.inl rfl | exact Or.inr rfl)))) (PGsd.ex gs_nil))) (pgs_cons (PGd.ex (g_name (pg_name (i := 3) sc_p_table_behind.nd rfl (by first | exact Or.inl rfl | exact Or.inr rfl)))) (PGsd.ex (gs_cons (g_name (pg_name (i := 4) sc_p_table_behind.nd rfl (by first | exact Or.inl rfl | exact Or.inr rfl))) gs_nil (pgs_cons (PGd.ex (g_name (pg_name (i := 4) sc_p_table_behind.nd rfl (by first | exact Or.inl rfl | exact Or.inr rfl)))) (PGsd.ex gs_nil)))))))))))
  (s_cons (s_asgO (d_lst a_nil) (fun te h => ps_set (i := 5) sc_p_table_behind.nd rfl (by first | exact Or.inl rfl | exact Or.inr rfl) h))
  (s_cons (s_asg (d_tup (a_val d_int a_nil)) (g_name (pg_name (i := 6) sc_p_table_behind.nd rfl (by first | exact Or.inl rfl | exact Or.inr rfl))))
  (s_cons (s_for PassesOwn.never rfl (i_revR2 (by rfl) n_reversed (by rfl) n_range d_int (d_addA (d_len (by rfl) n_len (d_var 0 (pv 0))) d_int)) (g_name (pg_name (i := 7) sc_p_table_behind.nd rfl (by first | exact Or.inl rfl | exact Or.inr rfl))) (s_cons (s_asg (d_ife (d_tstC op_le (fun _ => o_le) (d_var 7 (pv 7)) (d_var 3 (pv 3)) (nomark _)) (d_var 4 (pv 4)) d_int) (g_name (pg_name (i := 8) sc_p_table_behind.nd rfl (by first | exact Or.inl rfl | exact Or.inr rfl))))
  (s_cons (s_asgL (ps_setLc (i := 9) (own := [("number", 10)]) rfl sc_p_table_behind.nd rfl rfl (sw_true rfl rfl rfl (by decide +kernel)) (PId.ex (i_seq (d_ix (d_var 1 (pv 1)) (d_subA (d_var 7 (pv 7)) d_int)))) (blkOk_by (N := ["stair", "table", "deed", "changed", "more", "rows", "above", "pound", "added", "row", "number", "brim", "rest"]) (sc := defScope s_p_table_behind) (own := [("number", 10)]) (by decide +kernel)) (fun _ _ _ _ _ => PGd.ex (g_name (pg_name (i := 10) sc_p_table_behind.nd rfl (by first | exact Or.inl rfl | exact Or.inr rfl)))) (fun _ _ _ _ _ => ts_nil) (fun _ _ _ _ _ => PDd.ex (d_esc (d_addA (d_var 10 (pv 10)) (d_var 8 (pv 8)))))) (fun F => t_lc F))
  (s_cons (s_asg (d_ix (d_ix (d_var 0 (pv 0)) (d_subA (d_var 7 (pv 7)) d_int)) d_int) (g_name (pg_name (i := 11) sc_p_table_behind.nd rfl (by first | exact Or.inl rfl | exact Or.inr rfl))))
  (s_cons (s_asg (d_addA (d_tup (a_val (d_ix (d_var 9 (pv 9)) d_int) a_nil)) (d_tuple (by rfl) n_tuple (d_lc (own := [("number", 10), ("rest", 12)]) rfl sc_p_table_behind.nd (i_zip2 (by rfl) n_zip (d_sl (d_var 9 (pv 9)) (o_some d_int) o_none) (d_var 6 (pv 6))) (blkOk_by (N := ["stair", "table", "deed", "changed", "more", "rows", "above", "pound", "added", "row", "number", "brim", "rest"]) (sc := defScope s_p_table_behind) (own := [("number", 10), ("rest", 12)]) (by decide +kernel)) (fun _ _ _ _ _ => (g_tup (PG.or (pg_tup rfl (PGsd.ex (gs_cons (g_name (pg_name (i := 10) sc_p_table_behind.nd rfl (by first | exact Or.inl rfl | exact Or.inr rfl))) (gs_cons (g_name (pg_name (i := 12) sc_p_table_behind.nd rfl (by first | exact Or.inl rfl | exact Or.inr rfl))) gs_nil (pgs_cons (PGd.ex (g_name (pg_name (i := 12) sc_p_table_behind.nd rfl (by first | exact Or.inl rfl | exact Or.inr rfl)))) (PGsd.ex gs_nil))) (pgs_cons (PGd.ex (g_name (pg_name (i := 10) sc_p_table_behind.nd rfl (by first | exact Or.inl rfl | exact Or.inr rfl)))) (PGsd.ex (gs_cons (g_name (pg_name (i := 12) sc_p_table_behind.nd rfl (by first | exact Or.inl rfl | exact Or.inr rfl))) gs_nil (pgs_cons (PGd.ex (g_name (pg_name (i := 12) sc_p_table_behind.nd rfl (by first | exact Or.inl rfl | exact Or.inr rfl)))) (PGsd.ex gs_nil)))))))) (pg_lst rfl (PGsd.ex (gs_cons (g_name (pg_name (i := 10) sc_p_table_behind.nd rfl (by first | exact Or.inl rfl | exact Or.inr rfl))) (gs_cons (g_name (pg_name (i := 12) sc_p_table_behind.nd rfl (by first | exact Or.inl rfl | exact Or.inr rfl))) gs_nil (pgs_cons (PGd.ex (g_name (pg_name (i := 12) sc_p_table_behind.nd rfl (by first | exact Or.inl rfl | exact Or.inr rfl)))) (PGsd.ex gs_nil))) (pgs_cons (PGd.ex (g_name (pg_name (i := 10) sc_p_table_behind.nd rfl (by first | exact Or.inl rfl | exact Or.inr rfl)))) (PGsd.ex (gs_cons (g_name (pg_name (i := 12) sc_p_table_behind.nd rfl (by first | exact Or.inl rfl | exact Or.inr rfl))) gs_nil (pgs_cons (PGd.ex (g_name (pg_name (i := 12) sc_p_table_behind.nd rfl (by first | exact Or.inl rfl | exact Or.inr rfl)))) (PGsd.ex gs_nil))))))))))) (fun _ _ _ _ _ => ts_nil) (fun _ _ _ _ _ => (d_min2 rfl (by rfl) n_min (d_var 10 (pv 10)) (d_addA (d_var 11 (pv 11)) (d_var 12 (pv 12)))))))) (g_name (pg_name (i := 6) sc_p_table_behind.nd rfl (by first | exact Or.inl rfl | exact Or.inr rfl))))
  (s_one (s_expr (d_mth m_append (d_var 5 (pv 5)) (a_val (d_var 6 (pv 6)) a_nil) (fun to t h1 h2 => pe_bm PySem.F.plainAttrs_list PySem.F.slot_list_append PySem.F.type_list_append mt_append h1 h2)))))))))
  (s_one (s_ret (d_tuple (by rfl) n_tuple (d_revA (d_var 5 (pv 5))))))))))
theorem b_p_behind (n_enumerate : mg "enumerate" = none) (n_tuple : mg "tuple" = none) (f_p_row_behind : Fo P w K mg base "row_behind" ["rows", "row"] m_p_row_behind 1) : ∀ (cdv : Value) (A : Around) (outer : List Env) (s : Shared) (H : Hp) (E : XK), A.guards = some [] → Room 1 (A.deeper (envOfC "behind" (defScope s_p_behind) s.heap.objs.size f cdv)) →
    PSsd (cxOf CX0 P w K mg base ["one", "other", "rows", "at", "row"] "behind" (defScope s_p_behind) f cdv A outer s H E).nox (defBody s_p_behind) g_p_behind := by
  intro cdv A outer s H E hgd hr
  unfold g_p_behind
  exact (s_cons (s_asg (d_lst (a_star (d_var 0 (pv 0)) (a_val (d_tup (a_val d_int a_nil)) a_nil))) (g_name (pg_name (i := 2) sc_p_behind.nd rfl (by first | exact Or.inl rfl | exact Or.inr rfl))))
  (s_one (s_ret (d_tuple (by rfl) n_tuple (d_lc (own := [("at", 3), ("row", 4)]) rfl sc_p_behind.nd (i_enumK (by rfl) n_enumerate (d_var 1 (pv 1))) (blkOk_by (N := ["one", "other", "rows", "at", "row"]) (sc := defScope s_p_behind) (own := [("at", 3), ("row", 4)]) (by decide +kernel)) (fun _ _ _ _ _ => (g_tup (PG.or (pg_tup rfl (PGsd.ex (gs_cons (g_name (pg_name (i := 3) sc_p_behind.nd rfl (by first | exact Or.inl rfl | exact Or.inr rfl))) (gs_cons (g_name (pg_name (i := 4) sc_p_behind.nd rfl (by first | exact Or.inl rfl | exact Or.inr rfl))) gs_nil (pgs_cons (PGd.ex (g_name (pg_name (i := 4) sc_p_behind.nd rfl (by first | exact Or.inl rfl | exact Or.inr rfl)))) (PGsd.ex gs_nil))) (pgs_cons (PGd.ex (g_name (pg_name (i := 3) sc_p_behind.nd rfl (by first | exact Or.inl rfl | exact Or.inr rfl)))) (PGsd.ex (gs_cons (g_name (pg_name (i := 4) sc_p_behind.nd rfl (by first | exact Or.inl rfl | exact Or.inr rfl))) gs_nil (pgs_cons (PGd.ex (g_name (pg_name (i := 4) sc_p_behind.nd rfl (by first | exact Or.inl rfl | exact Or.inr rfl)))) (PGsd.ex gs_nil)))))))) (pg_lst rfl (PGsd.ex (gs_cons (g_name (pg_name (i := 3) sc_p_behind.nd rfl (by first | exact Or.inl rfl | exact Or.inr rfl))) (gs_cons (g_name (pg_name (i := 4) sc_p_behind.nd rfl (by first | exact Or.inl rfl | exact Or.inr rfl))) gs_nil (pgs_cons (PGd.ex (g_name (pg_name (i := 4) sc_p_behind.nd rfl (by first | exact Or.inl rfl | exact Or.inr rfl)))) (PGsd.ex gs_nil))) (pgs_cons (PGd.ex (g_name (pg_name (i := 3) sc_p_behind.nd rfl (by first | exact Or.inl rfl | exact Or.inr rfl)))) (PGsd.ex (gs_cons (g_name (pg_name (i := 4) sc_p_behind.nd rfl (by first | exact Or.inl rfl | exact Or.inr rfl))) gs_nil (pgs_cons (PGd.ex (g_name (pg_name (i := 4) sc_p_behind.nd rfl (by first | exact Or.inl rfl | exact Or.inr rfl)))) (PGsd.ex gs_nil))))))))))) (fun _ _ _ _ _ => ts_nil) (fun _ _ _ _ _ => (Fo.call f_p_row_behind hgd hr (by decide) (by rfl) rfl (a_val (d_sl (d_var 2 (pv 2)) (o_some (d_var 3 (pv 3))) o_none) (a_val (d_var 4 (pv 4)) a_nil)) (argV_len (argV_len (fun _ _ _ h => argN_len h))))))))))
theorem b_p_row_behind (n_len : mg "len" = none) (n_min : mg "min" = none) (n_range : mg "range" = none) (n_tuple : mg "tuple" = none) : ∀ (cdv : Value) (A : Around) (outer : List Env) (s : Shared) (H : Hp) (E : XK), A.guards = some [] → Room 0 (A.deeper (envOfC "row_behind" (defScope s_p_row_behind) s.heap.objs.size f cdv)) →
    PSsd (cxOf CX0 P w K mg base ["rows", "row", "between", "place"] "row_behind" (defScope s_p_row_behind) f cdv A outer s H E).nox (defBody s_p_row_behind) g_p_row_behind := by
  intro cdv A outer s H E hgd hr
  unfold g_p_row_behind
  exact (s_one (s_ret (d_tuple (by rfl) n_tuple (d_lc (own := [("place", 3)]) rfl sc_p_row_behind.nd (i_rng1 (by rfl) n_range (d_len (by rfl) n_len (d_var 1 (pv 1)))) (blkOk_by (N := ["rows", "row", "between", "place"]) (sc := defScope s_p_row_behind) (own := [("place", 3)]) (by decide +kernel)) (fun _ _ _ _ _ => (g_name (pg_name (i := 3) sc_p_row_behind.nd rfl (by first | exact Or.inl rfl | exact Or.inr rfl)))) (fun _ _ _ _ _ => ts_nil) (fun _ _ _ _ _ => (d_minK rfl (units1 hr) (by rfl) n_min (d_lc (own := [("between", 2)]) rfl sc_p_row_behind.nd (i_rng1 (by rfl) n_range (d_addA (d_var 3 (pv 3)) d_int)) (blkOk_n (N := ["rows", "row", "between", "place"]) (own := [("between", 2)]) (by decide +kernel)) (fun _ _ _ _ _ => (g_name (pg_name (i := 2) sc_p_row_behind.nd rfl (by first | exact Or.inl rfl | exact Or.inr rfl)))) (fun _ _ _ _ _ => ts_nil) (fun _ _ _ _ _ => (d_addA (d_ix (d_var 1 (pv 1)) (d_var 2 (pv 2))) (d_ix (d_ix (d_var 0 (pv 0)) (d_var 2 (pv 2))) (d_subA (d_var 3 (pv 3)) (d_var 2 (pv 2)))))))))))))
theorem b_p_doubles_of (n_range : mg "range" = none) (n_tuple : mg "tuple" = none) (f_p_behind : Fo P w K mg base "behind" ["one", "other"] m_p_behind 2) : ∀ (cdv : Value) (A : Around) (outer : List Env) (s : Shared) (H : Hp) (E : XK), A.guards = some [] → Room 2 (A.deeper (envOfC "doubles_of" (defScope s_p_doubles_of) s.heap.objs.size f cdv)) →
    PSsd (cxOf CX0 P w K mg base ["table", "most", "double", "row", "doubles", "step"] "doubles_of" (defScope s_p_doubles_of) f cdv A outer s H E).nox (defBody s_p_doubles_of) g_p_doubles_of := by
  intro cdv A outer s H E hgd hr
  unfold g_p_doubles_of
  exact (s_cons (s_asg (d_tuple (by rfl) n_tuple (d_lc (own := [("row", 3)]) rfl sc_p_doubles_of.nd (i_seq (d_var 0 (pv 0))) (blkOk_by (N := ["table", "most", "double", "row", "doubles", "step"]) (sc := defScope s_p_doubles_of) (own := [("row", 3)]) (by decide +kernel)) (fun _ _ _ _ _ => (g_name (pg_name (i := 3) sc_p_doubles_of.nd rfl (by first | exact Or.inl rfl | exact Or.inr rfl)))) (fun _ _ _ _ _ => ts_nil) (fun _ _ _ _ _ => (d_tuple (by rfl) n_tuple (d_var 3 (pv 3)))))) (g_name (pg_name (i := 2) sc_p_doubles_of.nd rfl (by first | exact Or.inl rfl | exact Or.inr rfl))))
  (s_cons (s_asgO (d_lst (a_val (d_var 2 (pv 2)) a_nil)) (fun te h => ps_set (i := 4) sc_p_doubles_of.nd rfl (by first | exact Or.inl rfl | exact Or.inr rfl) h))
  (s_cons (s_for PassesOwn.never rfl (i_rng1 (by rfl) n_range (d_subA (d_bits (d_var 1 (pv 1))) d_int)) (g_name (pg_name (i := 5) sc_p_doubles_of.nd rfl (by first | exact Or.inl rfl | exact Or.inr rfl))) (s_cons (s_asg (Fo.call f_p_behind hgd hr (by decide) (by rfl) rfl (a_val (d_var 2 (pv 2)) (a_val (d_var 2 (pv 2)) a_nil)) (argV_len (argV_len (fun _ _ _ h => argN_len h)))) (g_name (pg_name (i := 2) sc_p_doubles_of.nd rfl (by first | exact Or.inl rfl | exact Or.inr rfl))))
  (s_one (s_expr (d_mth m_append (d_var 4 (pv 4)) (a_val (d_var 2 (pv 2)) a_nil) (fun to t h1 h2 => pe_bm PySem.F.plainAttrs_list PySem.F.slot_list_append PySem.F.type_list_append mt_append h1 h2))))))
  (s_one (s_ret (d_var 4 (pv 4)))))))
theorem b_p_doubles_in (n_enumerate : mg "enumerate" = none) : ∀ (cdv : Value) (A : Around) (outer : List Env) (s : Shared) (H : Hp) (E : XK), A.guards = some [] → Room 0 (A.deeper (envOfC "doubles_in" (defScope s_p_doubles_in) s.heap.objs.size f cdv)) →
    PSsd (cxOf CX0 P w K mg base ["doubles", "many", "at", "double"] "doubles_in" (defScope s_p_doubles_in) f cdv A outer s H E).nox (defBody s_p_doubles_in) g_p_doubles_in := by
  intro cdv A outer s H E hgd hr
  unfold g_p_doubles_in
  exact (s_one (s_ret (d_lc (own := [("at", 2), ("double", 3)]) rfl sc_p_doubles_in.nd (i_enumK (by rfl) n_enumerate (d_var 0 (pv 0))) (blkOk_by (N := ["doubles", "many", "at", "double"]) (sc := defScope s_p_doubles_in) (own := [("at", 2), ("double", 3)]) (by decide +kernel)) (fun _ _ _ _ _ => (g_tup (PG.or (pg_tup rfl (PGsd.ex (gs_cons (g_name (pg_name (i := 2) sc_p_doubles_in.nd rfl (by first | exact Or.inl rfl | exact Or.inr rfl))) (gs_cons (g_name (pg_name (i := 3) sc_p_doubles_in.nd rfl (by first | exact Or.inl rfl | exact Or.inr rfl))) gs_nil (pgs_cons (PGd.ex (g_name (pg_name (i := 3) sc_p_doubles_in.nd rfl (by first | exact Or.inl rfl | exact Or.inr rfl)))) (PGsd.ex gs_nil))) (pgs_cons (PGd.ex (g_name (pg_name (i := 2) sc_p_doubles_in.nd rfl (by first | exact Or.inl rfl | exact Or.inr rfl)))) (PGsd.ex (gs_cons (g_name (pg_name (i := 3) sc_p_doubles_in.nd rfl (by first | exact Or.inl rfl | exact Or.inr rfl))) gs_nil (pgs_cons (PGd.ex (g_name (pg_name (i := 3) sc_p_doubles_in.nd rfl (by first | exact Or.inl rfl | exact Or.inr rfl)))) (PGsd.ex gs_nil)))))))) (pg_lst rfl (PGsd.ex (gs_cons (g_name (pg_name (i := 2) sc_p_doubles_in.nd rfl (by first | exact Or.inl rfl | exact Or.inr rfl))) (gs_cons (g_name (pg_name (i := 3) sc_p_doubles_in.nd rfl (by first | exact Or.inl rfl | exact Or.inr rfl))) gs_nil (pgs_cons (PGd.ex (g_name (pg_name (i := 3) sc_p_doubles_in.nd rfl (by first | exact Or.inl rfl | exact Or.inr rfl)))) (PGsd.ex gs_nil))) (pgs_cons (PGd.ex (g_name (pg_name (i := 2) sc_p_doubles_in.nd rfl (by first | exact Or.inl rfl | exact Or.inr rfl)))) (PGsd.ex (gs_cons (g_name (pg_name (i := 3) sc_p_doubles_in.nd rfl (by first | exact Or.inl rfl | exact Or.inr rfl))) gs_nil (pgs_cons (PGd.ex (g_name (pg_name (i := 3) sc_p_doubles_in.nd rfl (by first | exact Or.inl rfl | exact Or.inr rfl)))) (PGsd.ex gs_nil))))))))))) (fun _ _ _ _ _ => (ts_one (d_tru (d_bitand (d_shr (d_var 1 (pv 1)) (d_var 2 (pv 2))) d_int)))) (fun _ _ _ _ _ => (d_var 3 (pv 3))))))
theorem b_p_led_often (n_tuple : mg "tuple" = none) (f_p_led : Fo P w K mg base "led" ["table", "totals"] m_p_led 1) (f_p_doubles_in : Fo P w K mg base "doubles_in" ["doubles", "many"] m_p_doubles_in 1) : ∀ (cdv : Value) (A : Around) (outer : List Env) (s : Shared) (H : Hp) (E : XK), A.guards = some [] → Room 1 (A.deeper (envOfC "led_often" (defScope s_p_led_often) s.heap.objs.size f cdv)) →
    PSsd (cxOf CX0 P w K mg base ["doubles", "totals", "many", "totals_now", "double"] "led_often" (defScope s_p_led_often) f cdv A outer s H E).nox (defBody s_p_led_often) g_p_led_often := by
  intro cdv A outer s H E hgd hr
  unfold g_p_led_often
  exact (s_cons (s_asg (d_tuple (by rfl) n_tuple (d_var 1 (pv 1))) (g_name (pg_name (i := 3) sc_p_led_often.nd rfl (by first | exact Or.inl rfl | exact Or.inr rfl))))
  (s_cons (s_for PassesOwn.never rfl (i_seq (Fo.call f_p_doubles_in hgd hr (by decide) (by rfl) rfl (a_val (d_var 0 (pv 0)) (a_val (d_var 2 (pv 2)) a_nil)) (argV_len (argV_len (fun _ _ _ h => argN_len h))))) (g_name (pg_name (i := 4) sc_p_led_often.nd rfl (by first | exact Or.inl rfl | exact Or.inr rfl))) (s_one (s_asg (Fo.call f_p_led hgd hr (by decide) (by rfl) rfl (a_val (d_var 4 (pv 4)) (a_val (d_var 3 (pv 3)) a_nil)) (argV_len (argV_len (fun _ _ _ h => argN_len h)))) (g_name (pg_name (i := 3) sc_p_led_often.nd rfl (by first | exact Or.inl rfl | exact Or.inr rfl))))))
  (s_one (s_ret (d_var 3 (pv 3))))))
theorem b_p_totals_of (n_tuple : mg "tuple" = none) : ∀ (cdv : Value) (A : Around) (outer : List Env) (s : Shared) (H : Hp) (E : XK), A.guards = some [] → Room 0 (A.deeper (envOfC "totals_of" (defScope s_p_totals_of) s.heap.objs.size f cdv)) →
    PSsd (cxOf CX0 P w K mg base ["levels", "totals", "above", "level"] "totals_of" (defScope s_p_totals_of) f cdv A outer s H E).nox (defBody s_p_totals_of) g_p_totals_of := by
  intro cdv A outer s H E hgd hr
  unfold g_p_totals_of
  exact (s_cons (s_asgO (d_lst a_nil) (fun te h => ps_set (i := 1) sc_p_totals_of.nd rfl (by first | exact Or.inl rfl | exact Or.inr rfl) h))
  (s_cons (s_asg d_int (g_name (pg_name (i := 2) sc_p_totals_of.nd rfl (by first | exact Or.inl rfl | exact Or.inr rfl))))
  (s_cons (s_for PassesOwn.never rfl (i_seq (d_revA (d_var 0 (pv 0)))) (g_name (pg_name (i := 3) sc_p_totals_of.nd rfl (by first | exact Or.inl rfl | exact Or.inr rfl))) (s_cons (s_augI (d_var 3 (pv 3)) (fun te h => ps_aug (i := 2) sc_p_totals_of.nd rfl (by first | exact Or.inl rfl | exact Or.inr rfl) h ip_add))
  (s_one (s_expr (d_mth m_append (d_var 1 (pv 1)) (a_val (d_var 2 (pv 2)) a_nil) (fun to t h1 h2 => pe_bm PySem.F.plainAttrs_list PySem.F.slot_list_append PySem.F.type_list_append mt_append h1 h2))))))
  (s_one (s_ret (d_tuple (by rfl) n_tuple (d_revA (d_var 1 (pv 1)))))))))
theorem b_p_levels_of (n_tuple : mg "tuple" = none) (n_zip : mg "zip" = none) : ∀ (cdv : Value) (A : Around) (outer : List Env) (s : Shared) (H : Hp) (E : XK), A.guards = some [] → Room 0 (A.deeper (envOfC "levels_of" (defScope s_p_levels_of) s.heap.objs.size f cdv)) →
    PSsd (cxOf CX0 P w K mg base ["totals", "above", "total", "rest"] "levels_of" (defScope s_p_levels_of) f cdv A outer s H E).nox (defBody s_p_levels_of) g_p_levels_of := by
  intro cdv A outer s H E hgd hr
  unfold g_p_levels_of
  exact (s_cons (s_asg (d_lst (a_star (d_sl (d_var 0 (pv 0)) (o_some d_int) o_none) (a_val d_int a_nil))) (g_name (pg_name (i := 1) sc_p_levels_of.nd rfl (by first | exact Or.inl rfl | exact Or.inr rfl))))
  (s_one (s_ret (d_tuple (by rfl) n_tuple (d_lc (own := [("total", 2), ("rest", 3)]) rfl sc_p_levels_of.nd (i_zip2 (by rfl) n_zip (d_var 0 (pv 0)) (d_var 1 (pv 1))) (blkOk_by (N := ["totals", "above", "total", "rest"]) (sc := defScope s_p_levels_of) (own := [("total", 2), ("rest", 3)]) (by decide +kernel)) (fun _ _ _ _ _ => (g_tup (PG.or (pg_tup rfl (PGsd.ex (gs_cons (g_name (pg_name (i := 2) sc_p_levels_of.nd rfl (by first | exact Or.inl rfl | exact Or.inr rfl))) (gs_cons (g_name (pg_name (i := 3) sc_p_levels_of.nd rfl (by first | exact Or.inl rfl | exact Or.inr rfl))) gs_nil (pgs_cons (PGd.ex (g_name (pg_name (i := 3) sc_p_levels_of.nd rfl (by first | exact Or.inl rfl | exact Or.inr rfl)))) (PGsd.ex gs_nil))) (pgs_cons (PGd.ex (g_name (pg_name (i := 2) sc_p_levels_of.nd rfl (by first | exact Or.inl rfl | exact Or.inr rfl)))) (PGsd.ex (gs_cons (g_name (pg_name (i := 3) sc_p_levels_of.nd rfl (by first | exact Or.inl rfl | exact Or.inr rfl))) gs_nil (pgs_cons (PGd.ex (g_name (pg_name (i := 3) sc_p_levels_of.nd rfl (by first | exact Or.inl rfl | exact Or.inr rfl)))) (PGsd.ex gs_nil)))))))) (pg_lst rfl (PGsd.ex (gs_cons (g_name (pg_name (i := 2) sc_p_levels_of.nd rfl (by first | exact Or.inl rfl | exact Or.inr rfl))) (gs_cons (g_name (pg_name (i := 3) sc_p_levels_of.nd rfl (by first | exact Or.inl rfl | exact Or.inr rfl))) gs_nil (pgs_cons (PGd.ex (g_name (pg_name (i := 3) sc_p_levels_of.nd rfl (by first | exact Or.inl rfl | exact Or.inr rfl)))) (PGsd.ex gs_nil))) (pgs_cons (PGd.ex (g_name (pg_name (i := 2) sc_p_levels_of.nd rfl (by first | exact Or.inl rfl | exact Or.inr rfl)))) (PGsd.ex (gs_cons (g_name (pg_name (i := 3) sc_p_levels_of.nd rfl (by first | exact Or.inl rfl | exact Or.inr rfl))) gs_nil (pgs_cons (PGd.ex (g_name (pg_name (i := 3) sc_p_levels_of.nd rfl (by first | exact Or.inl rfl | exact Or.inr rfl)))) (PGsd.ex gs_nil))))))))))) (fun _ _ _ _ _ => ts_nil) (fun _ _ _ _ _ => (d_subA (d_var 2 (pv 2)) (d_var 3 (pv 3)))))))))
theorem b_p_alike (f_p_table_of : Fo P w K mg base "table_of" ["stair", "deeds"] m_p_table_of 4) : ∀ (cdv : Value) (A : Around) (outer : List Env) (s : Shared) (H : Hp) (E : XK), A.guards = some [] → Room 4 (A.deeper (envOfC "alike" (defScope s_p_alike) s.heap.objs.size f cdv)) →
    PSsd (cxOf CX0 P w K mg base ["stair", "one", "other"] "alike" (defScope s_p_alike) f cdv A outer s H E).nox (defBody s_p_alike) g_p_alike := by
  intro cdv A outer s H E hgd hr
  unfold g_p_alike
  exact (s_one (s_ret (d_cmp (op_eq.or (op_eqD hr.units)) (fun _ => Op2.or op2_eqS op2_eq) (Fo.call f_p_table_of hgd hr (by decide) (by rfl) rfl (a_val (d_var 0 (pv 0)) (a_val (d_var 1 (pv 1)) a_nil)) (argV_len (argV_len (fun _ _ _ h => argN_len h)))) (Fo.call f_p_table_of hgd hr (by decide) (by rfl) rfl (a_val (d_var 0 (pv 0)) (a_val (d_var 2 (pv 2)) a_nil)) (argV_len (argV_len (fun _ _ _ h => argN_len h)))) (nomark _))))
theorem b_p_no_less (n_all : mg "all" = none) (n_list : mg "list" = none) (n_zip : mg "zip" = none) (f_p_table_of : Fo P w K mg base "table_of" ["stair", "deeds"] m_p_table_of 4) : ∀ (cdv : Value) (A : Around) (outer : List Env) (s : Shared) (H : Hp) (E : XK), A.guards = some [] → Room 4 (A.deeper (envOfC "no_less" (defScope s_p_no_less) s.heap.objs.size f cdv)) →
    PSsd (cxOf CX0 P w K mg base ["stair", "one", "other", "pairs", "row", "beside", "more", "less"] "no_less" (defScope s_p_no_less) f cdv A outer s H E).nox (defBody s_p_no_less) g_p_no_less := by
  intro cdv A outer s H E hgd hr
  unfold g_p_no_less
  exact (s_cons (s_asg (d_lz rfl (by rfl) n_list (by rfl) n_zip (Fo.call f_p_table_of hgd hr (by decide) (by rfl) rfl (a_val (d_var 0 (pv 0)) (a_val (d_var 1 (pv 1)) a_nil)) (argV_len (argV_len (fun _ _ _ h => argN_len h)))) (Fo.call f_p_table_of hgd hr (by decide) (by rfl) rfl (a_val (d_var 0 (pv 0)) (a_val (d_var 2 (pv 2)) a_nil)) (argV_len (argV_len (fun _ _ _ h => argN_len h))))) (g_name (pg_name (i := 3) sc_p_no_less.nd rfl (by first | exact Or.inl rfl | exact Or.inr rfl))))
  (s_one (s_ret (d_all rfl (by rfl) n_all (d_lc2 (own := [("row", 4), ("beside", 5), ("more", 6), ("less", 7)]) (vs1 := [6, 7]) rfl sc_p_no_less.nd (i_seq (d_var 3 (pv 3))) (blkOk_by (N := ["stair", "one", "other", "pairs", "row", "beside", "more", "less"]) (sc := defScope s_p_no_less) (own := [("row", 4), ("beside", 5), ("more", 6), ("less", 7)]) (by decide +kernel)) (by decide) (fun _ _ _ _ _ => g_wide (vs := [4, 5]) (g_tup (PG.or (pg_tup rfl (PGsd.ex (gs_cons (g_name (pg_name (i := 4) sc_p_no_less.nd rfl (by first | exact Or.inl rfl | exact Or.inr rfl))) (gs_cons (g_name (pg_name (i := 5) sc_p_no_less.nd rfl (by first | exact Or.inl rfl | exact Or.inr rfl))) gs_nil (pgs_cons (PGd.ex (g_name (pg_name (i := 5) sc_p_no_less.nd rfl (by first | exact Or.inl rfl | exact Or.inr rfl)))) (PGsd.ex gs_nil))) (pgs_cons (PGd.ex (g_name (pg_name (i := 4) sc_p_no_less.nd rfl (by first | exact Or.inl rfl | exact Or.inr rfl)))) (PGsd.ex (gs_cons (g_name (pg_name (i := 5) sc_p_no_less.nd rfl (by first | exact Or.inl rfl | exact Or.inr rfl))) gs_nil (pgs_cons (PGd.ex (g_name (pg_name (i := 5) sc_p_no_less.nd rfl (by first | exact Or.inl rfl | exact Or.inr rfl)))) (PGsd.ex gs_nil)))))))) (pg_lst rfl (PGsd.ex (gs_cons (g_name (pg_name (i := 4) sc_p_no_less.nd rfl (by first | exact Or.inl rfl | exact Or.inr rfl))) (gs_cons (g_name (pg_name (i := 5) sc_p_no_less.nd rfl (by first | exact Or.inl rfl | exact Or.inr rfl))) gs_nil (pgs_cons (PGd.ex (g_name (pg_name (i := 5) sc_p_no_less.nd rfl (by first | exact Or.inl rfl | exact Or.inr rfl)))) (PGsd.ex gs_nil))) (pgs_cons (PGd.ex (g_name (pg_name (i := 4) sc_p_no_less.nd rfl (by first | exact Or.inl rfl | exact Or.inr rfl)))) (PGsd.ex (gs_cons (g_name (pg_name (i := 5) sc_p_no_less.nd rfl (by first | exact Or.inl rfl | exact Or.inr rfl))) gs_nil (pgs_cons (PGd.ex (g_name (pg_name (i := 5) sc_p_no_less.nd rfl (by first | exact Or.inl rfl | exact Or.inr rfl)))) (PGsd.ex gs_nil)))))))))) (by decide)) (fun _ _ _ _ _ => ts_nil) (fun _ _ _ _ _ => (i_zip2 (by rfl) n_zip (d_var 4 (pv 4)) (d_var 5 (pv 5)))) (fun _ _ _ _ _ => (g_tup (PG.or (pg_tup rfl (PGsd.ex (gs_cons (g_name (pg_name (i := 6) sc_p_no_less.nd rfl (by first | exact Or.inl rfl | exact Or.inr rfl))) (gs_cons (g_name (pg_name (i := 7) sc_p_no_less.nd rfl (by first | exact Or.inl rfl | exact Or.inr rfl))) gs_nil (pgs_cons (PGd.ex (g_name (pg_name (i := 7) sc_p_no_less.nd rfl (by first | exact Or.inl rfl | exact Or.inr rfl)))) (PGsd.ex gs_nil))) (pgs_cons (PGd.ex (g_name (pg_name (i := 6) sc_p_no_less.nd rfl (by first | exact Or.inl rfl | exact Or.inr rfl)))) (PGsd.ex (gs_cons (g_name (pg_name (i := 7) sc_p_no_less.nd rfl (by first | exact Or.inl rfl | exact Or.inr rfl))) gs_nil (pgs_cons (PGd.ex (g_name (pg_name (i := 7) sc_p_no_less.nd rfl (by first | exact Or.inl rfl | exact Or.inr rfl)))) (PGsd.ex gs_nil)))))))) (pg_lst rfl (PGsd.ex (gs_cons (g_name (pg_name (i := 6) sc_p_no_less.nd rfl (by first | exact Or.inl rfl | exact Or.inr rfl))) (gs_cons (g_name (pg_name (i := 7) sc_p_no_less.nd rfl (by first | exact Or.inl rfl | exact Or.inr rfl))) gs_nil (pgs_cons (PGd.ex (g_name (pg_name (i := 7) sc_p_no_less.nd rfl (by first | exact Or.inl rfl | exact Or.inr rfl)))) (PGsd.ex gs_nil))) (pgs_cons (PGd.ex (g_name (pg_name (i := 6) sc_p_no_less.nd rfl (by first | exact Or.inl rfl | exact Or.inr rfl)))) (PGsd.ex (gs_cons (g_name (pg_name (i := 7) sc_p_no_less.nd rfl (by first | exact Or.inl rfl | exact Or.inr rfl))) gs_nil (pgs_cons (PGd.ex (g_name (pg_name (i := 7) sc_p_no_less.nd rfl (by first | exact Or.inl rfl | exact Or.inr rfl)))) (PGsd.ex gs_nil))))))))))) (fun _ _ _ _ _ => ts_nil) (fun _ _ _ _ _ => (d_cmp op_ge (fun _ => o_ge) (d_var 6 (pv 6)) (d_var 7 (pv 7)) (nomark _))))))))
theorem b_p_far_levels (f_p_levels_of : Fo P w K mg base "levels_of" ["totals"] m_p_levels_of 1) (f_p_far_totals : Fo P w K mg base "far_totals" ["stair", "levels", "deeds", "many"] m_p_far_totals 5) : ∀ (cdv : Value) (A : Around) (outer : List Env) (s : Shared) (H : Hp) (E : XK), A.guards = some [] → Room 5 (A.deeper (envOfC "far_levels" (defScope s_p_far_levels) s.heap.objs.size f cdv)) →
    PSsd (cxOf CX0 P w K mg base ["stair", "levels", "deeds", "many"] "far_levels" (defScope s_p_far_levels) f cdv A outer s H E).nox (defBody s_p_far_levels) g_p_far_levels := by
  intro cdv A outer s H E hgd hr
  unfold g_p_far_levels
  exact (s_one (s_ret (Fo.call f_p_levels_of hgd hr (by decide) (by rfl) rfl (a_val (Fo.call f_p_far_totals hgd hr (by decide) (by rfl) rfl (a_val (d_var 0 (pv 0)) (a_val (d_var 1 (pv 1)) (a_val (d_var 2 (pv 2)) (a_val (d_var 3 (pv 3)) a_nil)))) (argV_len (argV_len (argV_len (argV_len (fun _ _ _ h => argN_len h)))))) a_nil) (argV_len (fun _ _ _ h => argN_len h)))))
theorem b_p_far_totals (f_p_table_of : Fo P w K mg base "table_of" ["stair", "deeds"] m_p_table_of 4) (f_p_doubles_of : Fo P w K mg base "doubles_of" ["table", "most"] m_p_doubles_of 3) (f_p_led_often : Fo P w K mg base "led_often" ["doubles", "totals", "many"] m_p_led_often 2) (f_p_totals_of : Fo P w K mg base "totals_of" ["levels"] m_p_totals_of 1) : ∀ (cdv : Value) (A : Around) (outer : List Env) (s : Shared) (H : Hp) (E : XK), A.guards = some [] → Room 4 (A.deeper (envOfC "far_totals" (defScope s_p_far_totals) s.heap.objs.size f cdv)) →
    PSsd (cxOf CX0 P w K mg base ["stair", "levels", "deeds", "many"] "far_totals" (defScope s_p_far_totals) f cdv A outer s H E).nox (defBody s_p_far_totals) g_p_far_totals := by
  intro cdv A outer s H E hgd hr
  unfold g_p_far_totals
  exact (s_one (s_ret (Fo.call f_p_led_often hgd hr (by decide) (by rfl) rfl (a_val (Fo.call f_p_doubles_of hgd hr (by decide) (by rfl) rfl (a_val (Fo.call f_p_table_of hgd hr (by decide) (by rfl) rfl (a_val (d_var 0 (pv 0)) (a_val (d_var 2 (pv 2)) a_nil)) (argV_len (argV_len (fun _ _ _ h => argN_len h)))) (a_val (d_var 3 (pv 3)) a_nil)) (argV_len (argV_len (fun _ _ _ h => argN_len h)))) (a_val (Fo.call f_p_totals_of hgd hr (by decide) (by rfl) rfl (a_val (d_var 1 (pv 1)) a_nil) (argV_len (fun _ _ _ h => argN_len h))) (a_val (d_var 3 (pv 3)) a_nil))) (argV_len (argV_len (argV_len (fun _ _ _ h => argN_len h)))))))
theorem b_l_box (n_abs : mg "abs" = none) (n_int : mg "int" = none) (n_len : mg "len" = none) : ∀ (cdv : Value) (A : Around) (outer : List Env) (s : Shared) (H : Hp) (E : XK), A.guards = some [] → Room 0 (A.deeper (envOfC "_law_box" (defScope s_l_box) s.heap.objs.size f cdv)) →
    PSsd (cxOf CX0 P w K mg base ["_law_script", "_law_k", "_law_cell"] "_law_box" (defScope s_l_box) f cdv A outer s H E).nox (defBody s_l_box) g_l_box := by
  intro cdv A outer s H E hgd hr
  unfold g_l_box
  exact (s_cons (s_asg (d_ife (d_tstC op_lt (fun _ => o_lt) (d_var 1 (pv 1)) (d_len (by rfl) n_len (d_var 0 (pv 0))) (nomark _)) (d_ix (d_var 0 (pv 0)) (d_var 1 (pv 1))) d_int) (g_name (pg_name (i := 2) sc_l_box.nd rfl (by first | exact Or.inl rfl | exact Or.inr rfl))))
  (s_one (s_ret (d_lst (a_val (d_mulA (d_abs (by rfl) n_abs (d_var 2 (pv 2))) (d_toInt (by rfl) n_int (d_cmp op_ge (fun _ => o_ge) (d_abs (by rfl) n_abs (d_var 2 (pv 2))) (d_powA d_int d_int) (nomark _)))) (a_val (d_modA (d_mulA (d_addA (d_addA (d_modA (d_var 2 (pv 2)) d_int) (d_mulA d_int (d_var 1 (pv 1)))) d_int) d_int) d_int) (a_val d_int a_nil)))))))
theorem b_l_take (n_divmod : mg "divmod" = none) {n : Nat} {self : Fsem} (f_l_take : Fo P w K mg base "_law_take" ["_law_box_here", "_law_size"] self (0 + n)) : ∀ (cdv : Value) (A : Around) (outer : List Env) (s : Shared) (H : Hp) (E : XK), A.guards = some [] → Room (0 + n) (A.deeper (envOfC "_law_take" (defScope s_l_take) s.heap.objs.size f cdv)) →
    PSsd (cxOf CX0 P w K mg base ["_law_box_here", "_law_size", "_law_found", "_law_step", "_law_once", "_law_twice"] "_law_take" (defScope s_l_take) f cdv A outer s H E).nox (defBody s_l_take) (g_l_take self) := by
  intro cdv A outer s H E hgd hr
  unfold g_l_take
  exact (s_cons (s_if (d_tstC op_gt (fun _ => o_gt) (d_ix (d_var 0 (pv 0)) d_int) d_int (nomark _)) (s_cons (s_asg (d_divmod (by rfl) n_divmod (d_ix (d_var 0 (pv 0)) d_int) (d_var 1 (pv 1))) (g_tup (PG.or (pg_tup rfl (PGsd.ex (gs_cons (g_sub (pg_sub (PEd.ex (d_var 0 (pv 0))) (PEd.ex (d_sub d_int)) set_list)) (gs_cons (g_name (pg_name (i := 2) sc_l_take.nd rfl (by first | exact Or.inl rfl | exact Or.inr rfl))) gs_nil (pgs_cons (PGd.ex (g_name (pg_name (i := 2) sc_l_take.nd rfl (by first | exact Or.inl rfl | exact Or.inr rfl)))) (PGsd.ex gs_nil))) (pgs_cons (PGd.ex (g_sub (pg_sub (PEd.ex (d_var 0 (pv 0))) (PEd.ex (d_sub d_int)) set_list))) (PGsd.ex (gs_cons (g_name (pg_name (i := 2) sc_l_take.nd rfl (by first | exact Or.inl rfl | exact Or.inr rfl))) gs_nil (pgs_cons (PGd.ex (g_name (pg_name (i := 2) sc_l_take.nd rfl (by first | exact Or.inl rfl | exact Or.inr rfl)))) (PGsd.ex gs_nil)))))))) (pg_lst rfl (PGsd.ex (gs_cons (g_sub (pg_sub (PEd.ex (d_var 0 (pv 0))) (PEd.ex (d_sub d_int)) set_list)) (gs_cons (g_name (pg_name (i := 2) sc_l_take.nd rfl (by first | exact Or.inl rfl | exact Or.inr rfl))) gs_nil (pgs_cons (PGd.ex (g_name (pg_name (i := 2) sc_l_take.nd rfl (by first | exact Or.inl rfl | exact Or.inr rfl)))) (PGsd.ex gs_nil))) (pgs_cons (PGd.ex (g_sub (pg_sub (PEd.ex (d_var 0 (pv 0))) (PEd.ex (d_sub d_int)) set_list))) (PGsd.ex (gs_cons (g_name (pg_name (i := 2) sc_l_take.nd rfl (by first | exact Or.inl rfl | exact Or.inr rfl))) gs_nil (pgs_cons (PGd.ex (g_name (pg_name (i := 2) sc_l_take.nd rfl (by first | exact Or.inl rfl | exact Or.inr rfl)))) (PGsd.ex gs_nil)))))))))))
  (s_one (s_ret (d_var 2 (pv 2))))) s_nil)
  (s_cons (s_if (d_tstC op_gt (fun _ => o_gt) (d_var 1 (pv 1)) (d_powA d_int d_int) (nomark _)) (s_one (s_ret (d_modA (d_addA (Fo.call f_l_take hgd hr (by omega) (by rfl) rfl (a_ref (d_var 0 (pv 0)) (a_val (d_powA d_int d_int) a_nil)) (argR_len (argV_len (fun _ _ _ h => argN_len h)))) (d_mulA (d_powA d_int d_int) (Fo.call f_l_take hgd hr (by omega) (by rfl) rfl (a_ref (d_var 0 (pv 0)) (a_val (d_addA (d_divA (d_subA (d_var 1 (pv 1)) d_int) (d_powA d_int d_int)) d_int) a_nil)) (argR_len (argV_len (fun _ _ _ h => argN_len h)))))) (d_var 1 (pv 1))))) s_nil)
  (s_cons (s_asg (d_addA (d_ix (d_var 0 (pv 0)) d_int) d_int) (g_sub (pg_sub (PEd.ex (d_var 0 (pv 0))) (PEd.ex (d_sub d_int)) set_list)))
  (s_cons (s_asg (d_addA d_int (d_mulA (d_ix (d_var 0 (pv 0)) d_int) (d_ix (d_var 0 (pv 0)) d_int))) (g_name (pg_name (i := 3) sc_l_take.nd rfl (by first | exact Or.inl rfl | exact Or.inr rfl))))
  (s_cons (s_asg (d_modA (d_mulA (d_addA (d_ix (d_var 0 (pv 0)) d_int) (d_mulA d_int (d_ix (d_var 0 (pv 0)) d_int))) (d_var 3 (pv 3))) d_int) (g_name (pg_name (i := 4) sc_l_take.nd rfl (by first | exact Or.inl rfl | exact Or.inr rfl))))
  (s_cons (s_asg (d_modA (d_addA (d_mulA (d_var 4 (pv 4)) (d_addA (d_modA (d_var 4 (pv 4)) d_int) d_int)) (d_ix (d_var 0 (pv 0)) d_int)) d_int) (g_name (pg_name (i := 5) sc_l_take.nd rfl (by first | exact Or.inl rfl | exact Or.inr rfl))))
  (s_one (s_ret (d_modA (d_divA (d_modA (d_mulA (d_var 5 (pv 5)) (d_addA (d_modA (d_var 5 (pv 5)) d_int) d_int)) d_int) d_int) (d_var 1 (pv 1)))))))))))
theorem b_l_folded (n_enumerate : mg "enumerate" = none) (n_list : mg "list" = none) : ∀ (cdv : Value) (A : Around) (outer : List Env) (s : Shared) (H : Hp) (E : XK), A.guards = some [] → Room 0 (A.deeper (envOfC "_law_folded" (defScope s_l_folded) s.heap.objs.size f cdv)) →
    PSsd (cxOf CX0 P w K mg base ["_law_script", "_law_size", "_law_cells", "_law_k", "_law_cell"] "_law_folded" (defScope s_l_folded) f cdv A outer s H E).nox (defBody s_l_folded) g_l_folded := by
  intro cdv A outer s H E hgd hr
  unfold g_l_folded
  exact (s_cons (s_asgO (d_list (by rfl) n_list (d_sl (d_var 0 (pv 0)) o_none (o_some (d_var 1 (pv 1))))) (fun te h => ps_set (i := 2) sc_l_folded.nd rfl (by first | exact Or.inl rfl | exact Or.inr rfl) h))
  (s_cons (s_for PassesOwn.never rfl (i_enum (by rfl) n_enumerate (d_sl (d_var 0 (pv 0)) (o_some (d_var 1 (pv 1))) (o_some d_int))) (g_tup (PG.or (pg_tup rfl (PGsd.ex (gs_cons (g_name (pg_name (i := 3) sc_l_folded.nd rfl (by first | exact Or.inl rfl | exact Or.inr rfl))) (gs_cons (g_name (pg_name (i := 4) sc_l_folded.nd rfl (by first | exact Or.inl rfl | exact Or.inr rfl))) gs_nil (pgs_cons (PGd.ex (g_name (pg_name (i := 4) sc_l_folded.nd rfl (by first | exact Or.inl rfl | exact Or.inr rfl)))) (PGsd.ex gs_nil))) (pgs_cons (PGd.ex (g_name (pg_name (i := 3) sc_l_folded.nd rfl (by first | exact Or.inl rfl | exact Or.inr rfl)))) (PGsd.ex (gs_cons (g_name (pg_name (i := 4) sc_l_folded.nd rfl (by first | exact Or.inl rfl | exact Or.inr rfl))) gs_nil (pgs_cons (PGd.ex (g_name (pg_name (i := 4) sc_l_folded.nd rfl (by first | exact Or.inl rfl | exact Or.inr rfl)))) (PGsd.ex gs_nil)))))))) (pg_lst rfl (PGsd.ex (gs_cons (g_name (pg_name (i := 3) sc_l_folded.nd rfl (by first | exact Or.inl rfl | exact Or.inr rfl))) (gs_cons (g_name (pg_name (i := 4) sc_l_folded.nd rfl (by first | exact Or.inl rfl | exact Or.inr rfl))) gs_nil (pgs_cons (PGd.ex (g_name (pg_name (i := 4) sc_l_folded.nd rfl (by first | exact Or.inl rfl | exact Or.inr rfl)))) (PGsd.ex gs_nil))) (pgs_cons (PGd.ex (g_name (pg_name (i := 3) sc_l_folded.nd rfl (by first | exact Or.inl rfl | exact Or.inr rfl)))) (PGsd.ex (gs_cons (g_name (pg_name (i := 4) sc_l_folded.nd rfl (by first | exact Or.inl rfl | exact Or.inr rfl))) gs_nil (pgs_cons (PGd.ex (g_name (pg_name (i := 4) sc_l_folded.nd rfl (by first | exact Or.inl rfl | exact Or.inr rfl)))) (PGsd.ex gs_nil)))))))))) (s_one (s_asg (d_addA (d_ix (d_var 2 (pv 2)) (d_modA (d_var 3 (pv 3)) (d_var 1 (pv 1)))) (d_mulA (d_var 4 (pv 4)) (d_addA (d_var 3 (pv 3)) d_int))) (g_sub (pg_sub (PEd.ex (d_var 2 (pv 2))) (PEd.ex (d_sub (d_modA (d_var 3 (pv 3)) (d_var 1 (pv 1))))) set_list)))))
  (s_one (s_ret (d_var 2 (pv 2))))))
theorem b_l_same (n_all : mg "all" = none) (n_bool : mg "bool" = none) (n_int : mg "int" = none) (n_isinstance : mg "isinstance" = none) (n_len : mg "len" = none) (n_list : mg "list" = none) (n_str : mg "str" = none) (n_tuple : mg "tuple" = none) (n_zip : mg "zip" = none) {n : Nat} {self : Fsem} (f_l_same : Fo P w K mg base "_law_same" ["_law_found", "_law_due"] self (0 + n)) : ∀ (cdv : Value) (A : Around) (outer : List Env) (s : Shared) (H : Hp) (E : XK), A.guards = some [] → Room (0 + n) (A.deeper (envOfC "_law_same" (defScope s_l_same) s.heap.objs.size f cdv)) →
    PSsd (cxOf CX0 P w K mg base ["_law_found", "_law_due", "_law_one", "_law_other"] "_law_same" (defScope s_l_same) f cdv A outer s H E).nox (defBody s_l_same) (g_l_same self) := by
  intro cdv A outer s H E hgd hr
  unfold g_l_same
  exact (s_cons (s_if (d_tru (d_isiN [.list, .tuple] (by rfl) n_isinstance (d_var 1 (pv 1)) (ty_cons .list (pe_bltn (by rfl) n_list (by decide +kernel) rfl) (ty_cons .tuple (pe_bltn (by rfl) n_tuple (by decide +kernel) rfl) ty_nil)))) (s_cons (s_if (PWd.pt (w_or (d_tstC (op_ne.or (op_neD hr.units)) (fun _ => Op2.or op2_neS op2_ne) (d_isi1 .list (by rfl) n_isinstance (d_var 0 (pv 0)) (pe_bltn (by rfl) n_list (by decide +kernel) rfl)) (d_isi1 .list (by rfl) n_isinstance (d_var 1 (pv 1)) (pe_bltn (by rfl) n_list (by decide +kernel) rfl)) (nomark _)) (w_or1 (d_tstC (op_ne.or (op_neD hr.units)) (fun _ => Op2.or op2_neS op2_ne) (d_isi1 .tuple (by rfl) n_isinstance (d_var 0 (pv 0)) (pe_bltn (by rfl) n_tuple (by decide +kernel) rfl)) (d_isi1 .tuple (by rfl) n_isinstance (d_var 1 (pv 1)) (pe_bltn (by rfl) n_tuple (by decide +kernel) rfl)) (nomark _))))) (s_one (s_ret d_bl)) s_nil)
  (s_one (s_ret (d_and (d_cmp (op_eq.or (op_eqD hr.units)) (fun _ => Op2.or op2_eqS op2_eq) (d_len (by rfl) n_len (d_var 0 (pv 0))) (d_len (by rfl) n_len (d_var 1 (pv 1))) (nomark _)) (d_one (d_all rfl (by rfl) n_all (d_lc (own := [("_law_one", 2), ("_law_other", 3)]) rfl sc_l_same.nd (i_zip (by rfl) n_zip (d_var 0 (pv 0)) (d_var 1 (pv 1))) (blkOk_by (N := ["_law_found", "_law_due", "_law_one", "_law_other"]) (sc := defScope s_l_same) (own := [("_law_one", 2), ("_law_other", 3)]) (by decide +kernel)) (fun _ _ _ _ _ => (g_tup (PG.or (pg_tup rfl (PGsd.ex (gs_cons (g_name (pg_name (i := 2) sc_l_same.nd rfl (by first | exact Or.inl rfl | exact Or.inr rfl))) (gs_cons (g_name (pg_name (i := 3) sc_l_same.nd rfl (by first | exact Or.inl rfl | exact Or.inr rfl))) gs_nil (pgs_cons (PGd.ex (g_name (pg_name (i := 3) sc_l_same.nd rfl (by first | exact Or.inl rfl | exact Or.inr rfl)))) (PGsd.ex gs_nil))) (pgs_cons (PGd.ex (g_name (pg_name (i := 2) sc_l_same.nd rfl (by first | exact Or.inl rfl | exact Or.inr rfl)))) (PGsd.ex (gs_cons (g_name (pg_name (i := 3) sc_l_same.nd rfl (by first | exact Or.inl rfl | exact Or.inr rfl))) gs_nil (pgs_cons (PGd.ex (g_name (pg_name (i := 3) sc_l_same.nd rfl (by first | exact Or.inl rfl | exact Or.inr rfl)))) (PGsd.ex gs_nil)))))))) (pg_lst rfl (PGsd.ex (gs_cons (g_name (pg_name (i := 2) sc_l_same.nd rfl (by first | exact Or.inl rfl | exact Or.inr rfl))) (gs_cons (g_name (pg_name (i := 3) sc_l_same.nd rfl (by first | exact Or.inl rfl | exact Or.inr rfl))) gs_nil (pgs_cons (PGd.ex (g_name (pg_name (i := 3) sc_l_same.nd rfl (by first | exact Or.inl rfl | exact Or.inr rfl)))) (PGsd.ex gs_nil))) (pgs_cons (PGd.ex (g_name (pg_name (i := 2) sc_l_same.nd rfl (by first | exact Or.inl rfl | exact Or.inr rfl)))) (PGsd.ex (gs_cons (g_name (pg_name (i := 3) sc_l_same.nd rfl (by first | exact Or.inl rfl | exact Or.inr rfl))) gs_nil (pgs_cons (PGd.ex (g_name (pg_name (i := 3) sc_l_same.nd rfl (by first | exact Or.inl rfl | exact Or.inr rfl)))) (PGsd.ex gs_nil))))))))))) (fun _ _ _ _ _ => ts_nil) (fun _ _ _ _ _ => (Fo.call f_l_same hgd hr (by omega) (by rfl) rfl (a_val (d_var 2 (pv 2)) (a_val (d_var 3 (pv 3)) a_nil)) (argV_len (argV_len (fun _ _ _ h => argN_len h)))))))))))) s_nil)
  (s_cons (s_if (PWd.pt (w_or (d_tstC op_isN (fun _ => op2_is) (d_var 1 (pv 1)) d_non (nomark _)) (w_or1 (d_tru (d_isi1 .str (by rfl) n_isinstance (d_var 1 (pv 1)) (pe_bltn (by rfl) n_str (by decide +kernel) rfl)))))) (s_one (s_ret (d_and (d_cmp (op_eq.or (op_eqD hr.units)) (fun _ => Op2.or op2_eqS op2_eq) (d_var 0 (pv 0)) (d_var 1 (pv 1)) (nomark _)) (d_one (d_cmp (op_eq.or (op_eqD hr.units)) (fun _ => Op2.or op2_eqS op2_eq) (d_isi1 .str (by rfl) n_isinstance (d_var 0 (pv 0)) (pe_bltn (by rfl) n_str (by decide +kernel) rfl)) (d_isi1 .str (by rfl) n_isinstance (d_var 1 (pv 1)) (pe_bltn (by rfl) n_str (by decide +kernel) rfl)) (nomark _)))))) s_nil)
  (s_one (s_ret (d_and (d_isi1 .int (by rfl) n_isinstance (d_var 0 (pv 0)) (pe_bltn (by rfl) n_int (by decide +kernel) rfl)) (d_and (d_cmp (op_eq.or (op_eqD hr.units)) (fun _ => Op2.or op2_eqS op2_eq) (d_isi1 .bool (by rfl) n_isinstance (d_var 0 (pv 0)) (pe_bltn (by rfl) n_bool (by decide +kernel) rfl)) (d_isi1 .bool (by rfl) n_isinstance (d_var 1 (pv 1)) (pe_bltn (by rfl) n_bool (by decide +kernel) rfl)) (nomark _)) (d_one (d_cmp (op_eq.or (op_eqD hr.units)) (fun _ => Op2.or op2_eqS op2_eq) (d_var 0 (pv 0)) (d_var 1 (pv 1)) (nomark _)))))))))
theorem b_l_stair (n_range : mg "range" = none) (n_tuple : mg "tuple" = none) (f_l_take : Fo P w K mg base "_law_take" ["_law_box_here", "_law_size"] (m_l_take 4) 4) : ∀ (cdv : Value) (A : Around) (outer : List Env) (s : Shared) (H : Hp) (E : XK), A.guards = some [] → Room 4 (A.deeper (envOfC "_law_stair" (defScope s_l_stair) s.heap.objs.size f cdv)) →
    PSsd (cxOf CX0 P w K mg base ["_law_box_here", "_law_cap", "_law_by", "_law_found", "_law_pound", "_law_least", "_law_wide", "_law_size"] "_law_stair" (defScope s_l_stair) f cdv A outer s H E).nox (defBody s_l_stair) g_l_stair := by
  intro cdv A outer s H E hgd hr
  unfold g_l_stair
  exact (s_cons (s_asgO (d_lst a_nil) (fun te h => ps_set (i := 3) sc_l_stair.nd rfl (by first | exact Or.inl rfl | exact Or.inr rfl) h))
  (s_cons (s_for PassesOwn.never rfl (i_rng1 (by rfl) n_range (d_addA d_int (Fo.call f_l_take hgd hr (by decide) (by rfl) rfl (a_ref (d_var 0 (pv 0)) (a_val (d_var 1 (pv 1)) a_nil)) (argR_len (argV_len (fun _ _ _ h => argN_len h)))))) (g_name (pg_name (i := 4) sc_l_stair.nd rfl (by first | exact Or.inl rfl | exact Or.inr rfl))) (s_cons (s_par3 (Fo.call f_l_take hgd hr (by decide) (by rfl) rfl (a_ref (d_var 0 (pv 0)) (a_val d_int a_nil)) (argR_len (argV_len (fun _ _ _ h => argN_len h)))) (Fo.call f_l_take hgd hr (by decide) (by rfl) rfl (a_ref (d_var 0 (pv 0)) (a_val (d_ix (d_lst (a_val d_int (a_val d_int (a_val d_int a_nil)))) (Fo.call f_l_take hgd hr (by decide) (by rfl) rfl (a_ref (d_var 0 (pv 0)) (a_val d_int a_nil)) (argR_len (argV_len (fun _ _ _ h => argN_len h))))) a_nil)) (argR_len (argV_len (fun _ _ _ h => argN_len h)))) (d_addA d_int (Fo.call f_l_take hgd hr (by decide) (by rfl) rfl (a_ref (d_var 0 (pv 0)) (a_val d_int a_nil)) (argR_len (argV_len (fun _ _ _ h => argN_len h))))) (fun t h => ps_par3 (i := 5) (j := 6) (l := 7) rfl sc_l_stair.nd rfl rfl rfl (by decide) (by decide) (by decide) rfl rfl rfl h (by rfl)))
  (s_one (s_expr (d_mth m_append (d_var 3 (pv 3)) (a_val (d_tup (a_val (d_mulA (d_var 5 (pv 5)) (d_var 2 (pv 2))) (a_val (d_mulA (d_addA (d_var 5 (pv 5)) (d_var 6 (pv 6))) (d_var 2 (pv 2))) (a_val (d_mulA (d_var 7 (pv 7)) (d_var 2 (pv 2))) a_nil)))) a_nil) (fun to t h1 h2 => pe_bm PySem.F.plainAttrs_list PySem.F.slot_list_append PySem.F.type_list_append mt_append h1 h2))))))
  (s_one (s_ret (d_tuple (by rfl) n_tuple (d_var 3 (pv 3)))))))
theorem b_l_great (f_l_take : Fo P w K mg base "_law_take" ["_law_box_here", "_law_size"] (m_l_take 4) 4) : ∀ (cdv : Value) (A : Around) (outer : List Env) (s : Shared) (H : Hp) (E : XK), A.guards = some [] → Room 4 (A.deeper (envOfC "_law_great" (defScope s_l_great) s.heap.objs.size f cdv)) →
    PSsd (cxOf CX0 P w K mg base ["_law_box_here"] "_law_great" (defScope s_l_great) f cdv A outer s H E).nox (defBody s_l_great) g_l_great := by
  intro cdv A outer s H E hgd hr
  unfold g_l_great
  exact (s_one (s_ret (d_ix (d_lst (a_val d_int (a_val d_int (a_val d_int (a_val (d_powA d_int d_int) (a_val (d_powA d_int d_int) a_nil)))))) (Fo.call f_l_take hgd hr (by decide) (by rfl) rfl (a_ref (d_var 0 (pv 0)) (a_val d_int a_nil)) (argR_len (argV_len (fun _ _ _ h => argN_len h)))))))
theorem b_l_lap (n_list : mg "list" = none) (n_range : mg "range" = none) (n_tuple : mg "tuple" = none) (f_l_take : Fo P w K mg base "_law_take" ["_law_box_here", "_law_size"] (m_l_take 4) 4) : ∀ (cdv : Value) (A : Around) (outer : List Env) (s : Shared) (H : Hp) (E : XK), A.guards = some [] → Room 4 (A.deeper (envOfC "_law_lap" (defScope s_l_lap) s.heap.objs.size f cdv)) →
    PSsd (cxOf CX0 P w K mg base ["_law_box_here", "_law_many", "_law_cap", "_law_by", "_law_first", "_law_lock", "_law_now", "_law_lot", "_law_turn", "_law_way", "_law_at"] "_law_lap" (defScope s_l_lap) f cdv A outer s H E).nox (defBody s_l_lap) g_l_lap := by
  intro cdv A outer s H E hgd hr
  unfold g_l_lap
  exact (s_cons (s_asgL (ps_setLc (i := 4) (own := [("_law_lock", 5)]) rfl sc_l_lap.nd rfl rfl (sw_true rfl rfl rfl (by decide +kernel)) (PId.ex (i_rng1 (by rfl) n_range (d_var 1 (pv 1)))) (blkOk_by (N := ["_law_box_here", "_law_many", "_law_cap", "_law_by", "_law_first", "_law_lock", "_law_now", "_law_lot", "_law_turn", "_law_way", "_law_at"]) (sc := defScope s_l_lap) (own := [("_law_lock", 5)]) (by decide +kernel)) (fun _ _ _ _ _ => PGd.ex (g_name (pg_name (i := 5) sc_l_lap.nd rfl (by first | exact Or.inl rfl | exact Or.inr rfl)))) (fun _ _ _ _ _ => ts_nil) (fun _ _ _ _ _ => PDd.ex (d_esc (Fo.call f_l_take hgd hr (by decide) (by rfl) rfl (a_ref (d_var 0 (pv 0)) (a_val d_int a_nil)) (argR_len (argV_len (fun _ _ _ h => argN_len h))))))) (fun F => t_lc F))
  (s_cons (s_par2 (d_list (by rfl) n_list (d_var 4 (pv 4))) (d_lst a_nil) (fun t h => ps_par (i := 6) (j := 7) rfl sc_l_lap.nd rfl rfl (by decide) rfl rfl h (by rfl)))
  (s_cons (s_for PassesOwn.never rfl (i_rng1 (by rfl) n_range (Fo.call f_l_take hgd hr (by decide) (by rfl) rfl (a_ref (d_var 0 (pv 0)) (a_val (d_addA (d_var 2 (pv 2)) d_int) a_nil)) (argR_len (argV_len (fun _ _ _ h => argN_len h))))) (g_name (pg_name (i := 8) sc_l_lap.nd rfl (by first | exact Or.inl rfl | exact Or.inr rfl))) (s_cons (s_par2 (Fo.call f_l_take hgd hr (by decide) (by rfl) rfl (a_ref (d_var 0 (pv 0)) (a_val d_int a_nil)) (argR_len (argV_len (fun _ _ _ h => argN_len h)))) (Fo.call f_l_take hgd hr (by decide) (by rfl) rfl (a_ref (d_var 0 (pv 0)) (a_val (d_var 1 (pv 1)) a_nil)) (argR_len (argV_len (fun _ _ _ h => argN_len h)))) (fun t h => ps_par (i := 9) (j := 10) rfl sc_l_lap.nd rfl rfl (by decide) rfl rfl h (by rfl)))
  (s_one (s_if (d_tstC op_lt (fun _ => o_lt) (d_var 9 (pv 9)) d_int (nomark _)) (s_cons (s_expr (d_mth m_append (d_var 7 (pv 7)) (a_val (d_tup (a_val (d_ix (d_lst (a_val d_str (a_val d_str a_nil))) (d_ix (d_var 6 (pv 6)) (d_var 10 (pv 10)))) (a_val (d_addA (d_var 10 (pv 10)) d_int) a_nil))) a_nil) (fun to t h1 h2 => pe_bm PySem.F.plainAttrs_list PySem.F.slot_list_append PySem.F.type_list_append mt_append h1 h2)))
  (s_one (s_asg (d_subA d_int (d_ix (d_var 6 (pv 6)) (d_var 10 (pv 10)))) (g_sub (pg_sub (PEd.ex (d_var 6 (pv 6))) (PEd.ex (d_sub (d_var 10 (pv 10)))) set_list))))) (s_one (s_expr (d_mth m_append (d_var 7 (pv 7)) (a_val (d_tup (a_val (d_ix (d_lst (a_val d_str (a_val d_str (a_val d_str a_nil)))) (d_subA (d_var 9 (pv 9)) d_int)) (a_val (d_addA (d_var 10 (pv 10)) d_int) (a_val (d_mulA (d_var 3 (pv 3)) (d_addA d_int (Fo.call f_l_take hgd hr (by decide) (by rfl) rfl (a_ref (d_var 0 (pv 0)) (a_val d_int a_nil)) (argR_len (argV_len (fun _ _ _ h => argN_len h)))))) a_nil)))) a_nil) (fun to t h1 h2 => pe_bm PySem.F.plainAttrs_list PySem.F.slot_list_append PySem.F.type_list_append mt_append h1 h2))))))))
  (s_cons (s_for PassesOwn.never rfl (i_rng1 (by rfl) n_range (d_var 1 (pv 1))) (g_name (pg_name (i := 10) sc_l_lap.nd rfl (by first | exact Or.inl rfl | exact Or.inr rfl))) (s_one (s_if (d_tstC (op_ne.or (op_neD hr.units)) (fun _ => Op2.or op2_neS op2_ne) (d_ix (d_var 6 (pv 6)) (d_var 10 (pv 10))) (d_ix (d_var 4 (pv 4)) (d_var 10 (pv 10))) (nomark _)) (s_one (s_expr (d_mth m_append (d_var 7 (pv 7)) (a_val (d_tup (a_val (d_ix (d_lst (a_val d_str (a_val d_str a_nil))) (d_ix (d_var 6 (pv 6)) (d_var 10 (pv 10)))) (a_val (d_addA (d_var 10 (pv 10)) d_int) a_nil))) a_nil) (fun to t h1 h2 => pe_bm PySem.F.plainAttrs_list PySem.F.slot_list_append PySem.F.type_list_append mt_append h1 h2)))) s_nil)))
  (s_one (s_ret (d_tup (a_val (d_var 7 (pv 7)) (a_val (d_tuple (by rfl) n_tuple (d_lc (own := [("_law_way", 9)]) rfl sc_l_lap.nd (i_seq (d_var 4 (pv 4))) (blkOk_by (N := ["_law_box_here", "_law_many", "_law_cap", "_law_by", "_law_first", "_law_lock", "_law_now", "_law_lot", "_law_turn", "_law_way", "_law_at"]) (sc := defScope s_l_lap) (own := [("_law_way", 9)]) (by decide +kernel)) (fun _ _ _ _ _ => (g_name (pg_name (i := 9) sc_l_lap.nd rfl (by first | exact Or.inl rfl | exact Or.inr rfl)))) (fun _ _ _ _ _ => ts_nil) (fun _ _ _ _ _ => (d_ix (d_lst (a_val d_str (a_val d_str a_nil))) (d_var 9 (pv 9)))))) a_nil)))))))))
theorem b_l_joined (n_int : mg "int" = none) (n_range : mg "range" = none) (n_sum : mg "sum" = none) : ∀ (cdv : Value) (A : Around) (outer : List Env) (s : Shared) (H : Hp) (E : XK), A.guards = some [] → Room 0 (A.deeper (envOfC "_law_joined" (defScope s_l_joined) s.heap.objs.size f cdv)) →
    PSsd (cxOf CX0 P w K mg base ["_law_rains", "_law_many", "_law_found", "_law_pound", "_law_much", "_law_deed"] "_law_joined" (defScope s_l_joined) f cdv A outer s H E).nox (defBody s_l_joined) g_l_joined := by
  intro cdv A outer s H E hgd hr
  unfold g_l_joined
  exact (s_cons (s_asg (d_lst a_nil) (g_name (pg_name (i := 2) sc_l_joined.nd rfl (by first | exact Or.inl rfl | exact Or.inr rfl))))
  (s_cons (s_for PassesOwn.never rfl (i_rng2 (by rfl) n_range d_int (d_addA (d_var 1 (pv 1)) d_int) (fun t h => pi_range2 (by rfl) n_range h)) (g_name (pg_name (i := 3) sc_l_joined.nd rfl (by first | exact Or.inl rfl | exact Or.inr rfl))) (s_cons (s_asg (d_sumK rfl (by rfl) n_sum (d_lc (own := [("_law_deed", 5)]) rfl sc_l_joined.nd (i_seq (d_var 0 (pv 0))) (blkOk_by (N := ["_law_rains", "_law_many", "_law_found", "_law_pound", "_law_much", "_law_deed"]) (sc := defScope s_l_joined) (own := [("_law_deed", 5)]) (by decide +kernel)) (fun _ _ _ _ _ => (g_name (pg_name (i := 5) sc_l_joined.nd rfl (by first | exact Or.inl rfl | exact Or.inr rfl)))) (fun _ _ _ _ _ => (ts_one (d_tstC (op_eq.or (op_eqD hr.units)) (fun _ => Op2.or op2_eqS op2_eq) (d_ix (d_var 5 (pv 5)) d_int) (d_var 3 (pv 3)) (nomark _)))) (fun _ _ _ _ _ => (d_ix (d_var 5 (pv 5)) d_int)))) (g_name (pg_name (i := 4) sc_l_joined.nd rfl (by first | exact Or.inl rfl | exact Or.inr rfl))))
  (s_one (s_asg (d_addA (d_var 2 (pv 2)) (d_mulV (d_lst (a_val (d_tup (a_val d_str (a_val (d_var 3 (pv 3)) (a_val (d_var 4 (pv 4)) a_nil)))) a_nil)) (d_toInt (by rfl) n_int (d_cmp op_gt (fun _ => o_gt) (d_var 4 (pv 4)) d_int (nomark _))))) (g_name (pg_name (i := 2) sc_l_joined.nd rfl (by first | exact Or.inl rfl | exact Or.inr rfl)))))))
  (s_one (s_ret (d_var 2 (pv 2))))))
theorem b_l_stirred (n_len : mg "len" = none) (n_list : mg "list" = none) (n_range : mg "range" = none) (f_l_take : Fo P w K mg base "_law_take" ["_law_box_here", "_law_size"] (m_l_take 4) 4) : ∀ (cdv : Value) (A : Around) (outer : List Env) (s : Shared) (H : Hp) (E : XK), A.guards = some [] → Room 4 (A.deeper (envOfC "_law_stirred" (defScope s_l_stirred) s.heap.objs.size f cdv)) →
    PSsd (cxOf CX0 P w K mg base ["_law_box_here", "_law_rains", "_law_left", "_law_found", "_law_turn"] "_law_stirred" (defScope s_l_stirred) f cdv A outer s H E).nox (defBody s_l_stirred) g_l_stirred := by
  intro cdv A outer s H E hgd hr
  unfold g_l_stirred
  exact (s_cons (s_par2 (d_list (by rfl) n_list (d_var 1 (pv 1))) (d_lst a_nil) (fun t h => ps_par (i := 2) (j := 3) rfl sc_l_stirred.nd rfl rfl (by decide) rfl rfl h (by rfl)))
  (s_cons (s_for PassesOwn.never rfl (i_rng1 (by rfl) n_range (d_len (by rfl) n_len (d_var 1 (pv 1)))) (g_name (pg_name (i := 4) sc_l_stirred.nd rfl (by first | exact Or.inl rfl | exact Or.inr rfl))) (s_one (s_expr (d_mth m_append (d_var 3 (pv 3)) (a_val (d_mth m_popAt (d_var 2 (pv 2)) (a_val (Fo.call f_l_take hgd hr (by decide) (by rfl) rfl (a_ref (d_var 0 (pv 0)) (a_val (d_len (by rfl) n_len (d_var 2 (pv 2))) a_nil)) (argR_len (argV_len (fun _ _ _ h => argN_len h)))) a_nil) (fun to t h1 h2 => pe_bm PySem.F.plainAttrs_list PySem.F.slot_list_pop PySem.F.type_list_pop mt_popAt h1 h2)) a_nil) (fun to t h1 h2 => pe_bm PySem.F.plainAttrs_list PySem.F.slot_list_append PySem.F.type_list_append mt_append h1 h2)))))
  (s_one (s_ret (d_var 3 (pv 3))))))
theorem b_l_far_right (n_all : mg "all" = none) (n_tuple : mg "tuple" = none) (n_zip : mg "zip" = none) (f_p_totals_of : Fo P w K mg base "totals_of" ["levels"] m_p_totals_of 1) (f_p_far_levels : Fo P w K mg base "far_levels" ["stair", "levels", "deeds", "many"] m_p_far_levels 6) (f_l_take : Fo P w K mg base "_law_take" ["_law_box_here", "_law_size"] (m_l_take 4) 4) : ∀ (cdv : Value) (A : Around) (outer : List Env) (s : Shared) (H : Hp) (E : XK), A.guards = some [] → Room 6 (A.deeper (envOfC "_law_far_right" (defScope s_l_far_right) s.heap.objs.size f cdv)) →
    PSsd (cxOf CX0 P w K mg base ["_law_box_here", "_law_stair_here", "_law_by", "_law_one", "_law_other", "_law_same_here", "_law_flat", "_law_least", "_law_most", "_law_size", "_law_much", "_law_both", "_law_lap_here", "_law_total", "_law_its"] "_law_far_right" (defScope s_l_far_right) f cdv A outer s H E).nox (defBody s_l_far_right) g_l_far_right := by
  intro cdv A outer s H E hgd hr
  unfold g_l_far_right
  exact (s_cons (s_asg (d_tuple (by rfl) n_tuple (d_lc (own := [("_law_least", 7), ("_law_most", 8), ("_law_size", 9)]) rfl sc_l_far_right.nd (i_seq (d_var 1 (pv 1))) (blkOk_by (N := ["_law_box_here", "_law_stair_here", "_law_by", "_law_one", "_law_other", "_law_same_here", "_law_flat", "_law_least", "_law_most", "_law_size", "_law_much", "_law_both", "_law_lap_here", "_law_total", "_law_its"]) (sc := defScope s_l_far_right) (own := [("_law_least", 7), ("_law_most", 8), ("_law_size", 9)]) (by decide +kernel)) (fun _ _ _ _ _ => (g_tup (PG.or (pg_tup rfl (PGsd.ex (gs_cons (g_name (pg_name (i := 7) sc_l_far_right.nd rfl (by first | exact Or.inl rfl | exact Or.inr rfl))) (gs_cons (g_name (pg_name (i := 8) sc_l_far_right.nd rfl (by first | exact Or.inl rfl | exact Or.inr rfl))) (gs_cons (g_name (pg_name (i := 9) sc_l_far_right.nd rfl (by first | exact Or.inl rfl | exact Or.inr rfl))) gs_nil (pgs_cons (PGd.ex (g_name (pg_name (i := 9) sc_l_far_right.nd rfl (by first | exact Or.inl rfl | exact Or.inr rfl)))) (PGsd.ex gs_nil))) (pgs_cons (PGd.ex (g_name (pg_name (i := 8) sc_l_far_right.nd rfl (by first | exact Or.inl rfl | exact Or.inr rfl)))) (PGsd.ex (gs_cons (g_name (pg_name (i := 9) sc_l_far_right.nd rfl (by first | exact Or.inl rfl | exact Or.inr rfl))) gs_nil (pgs_cons (PGd.ex (g_name (pg_name (i := 9) sc_l_far_right.nd rfl (by first | exact Or.inl rfl | exact Or.inr rfl)))) (PGsd.ex gs_nil)))))) (pgs_cons (PGd.ex (g_name (pg_name (i := 7) sc_l_far_right.nd rfl (by first | exact Or.inl rfl | exact Or.inr rfl)))) (PGsd.ex (gs_cons (g_name (pg_name (i := 8) sc_l_far_right.nd rfl (by first | exact Or.inl rfl | exact Or.inr rfl))) (gs_cons (g_name (pg_name (i := 9) sc_l_far_right.nd rfl (by first | exact Or.inl rfl | exact Or.inr rfl))) gs_nil (pgs_cons (PGd.ex (g_name (pg_name (i := 9) sc_l_far_right.nd rfl (by first | exact Or.inl rfl | exact Or.inr rfl)))) (PGsd.ex gs_nil))) (pgs_cons (PGd.ex (g_name (pg_name (i := 8) sc_l_far_right.nd rfl (by first | exact Or.inl rfl | exact Or.inr rfl)))) (PGsd.ex (gs_cons (g_name (pg_name (i := 9) sc_l_far_right.nd rfl (by first | exact Or.inl rfl | exact Or.inr rfl))) gs_nil (pgs_cons (PGd.ex (g_name (pg_name (i := 9) sc_l_far_right.nd rfl (by first | exact Or.inl rfl | exact Or.inr rfl)))) (PGsd.ex gs_nil))))))))))) (pg_lst rfl (PGsd.ex (gs_cons (g_name (pg_name (i := 7) sc_l_far_right.nd rfl (by first | exact Or.inl rfl | exact Or.inr rfl))) (gs_cons (g_name (pg_name (i := 8) sc_l_far_right.nd rfl (by first | exact Or.inl rfl | exact Or.inr rfl))) (gs_cons (g_name (pg_name (i := 9) sc_l_far_right.nd rfl (by first | exact Or.inl rfl | exact Or.inr rfl))) gs_nil (pgs_cons (PGd.ex (g_name (pg_name (i := 9) sc_l_far_right.nd rfl (by first | exact Or.inl rfl | exact Or.inr rfl)))) (PGsd.ex gs_nil))) (pgs_cons (PGd.ex (g_name (pg_name (i := 8) sc_l_far_right.nd rfl (by first | exact Or.inl rfl | exact Or.inr rfl)))) (PGsd.ex (gs_cons (g_name (pg_name (i := 9) sc_l_far_right.nd rfl (by first | exact Or.inl rfl | exact Or.inr rfl))) gs_nil (pgs_cons (PGd.ex (g_name (pg_name (i := 9) sc_l_far_right.nd rfl (by first | exact Or.inl rfl | exact Or.inr rfl)))) (PGsd.ex gs_nil)))))) (pgs_cons (PGd.ex (g_name (pg_name (i := 7) sc_l_far_right.nd rfl (by first | exact Or.inl rfl | exact Or.inr rfl)))) (PGsd.ex (gs_cons (g_name (pg_name (i := 8) sc_l_far_right.nd rfl (by first | exact Or.inl rfl | exact Or.inr rfl))) (gs_cons (g_name (pg_name (i := 9) sc_l_far_right.nd rfl (by first | exact Or.inl rfl | exact Or.inr rfl))) gs_nil (pgs_cons (PGd.ex (g_name (pg_name (i := 9) sc_l_far_right.nd rfl (by first | exact Or.inl rfl | exact Or.inr rfl)))) (PGsd.ex gs_nil))) (pgs_cons (PGd.ex (g_name (pg_name (i := 8) sc_l_far_right.nd rfl (by first | exact Or.inl rfl | exact Or.inr rfl)))) (PGsd.ex (gs_cons (g_name (pg_name (i := 9) sc_l_far_right.nd rfl (by first | exact Or.inl rfl | exact Or.inr rfl))) gs_nil (pgs_cons (PGd.ex (g_name (pg_name (i := 9) sc_l_far_right.nd rfl (by first | exact Or.inl rfl | exact Or.inr rfl)))) (PGsd.ex gs_nil)))))))))))))) (fun _ _ _ _ _ => ts_nil) (fun _ _ _ _ _ => (d_subA (d_var 8 (pv 8)) (d_mulA (d_var 2 (pv 2)) (Fo.call f_l_take hgd hr (by decide) (by rfl) rfl (a_ref (d_var 0 (pv 0)) (a_val (d_ix (d_lst (a_val d_int (a_val d_int a_nil))) (Fo.call f_l_take hgd hr (by decide) (by rfl) rfl (a_ref (d_var 0 (pv 0)) (a_val d_int a_nil)) (argR_len (argV_len (fun _ _ _ h => argN_len h))))) a_nil)) (argR_len (argV_len (fun _ _ _ h => argN_len h))))))))) (g_name (pg_name (i := 6) sc_l_far_right.nd rfl (by first | exact Or.inl rfl | exact Or.inr rfl))))
  (s_cons (s_asg (Fo.call f_l_take hgd hr (by decide) (by rfl) rfl (a_ref (d_var 0 (pv 0)) (a_val (d_ix (d_lst (a_val d_int (a_val (d_powA d_int d_int) a_nil))) (Fo.call f_l_take hgd hr (by decide) (by rfl) rfl (a_ref (d_var 0 (pv 0)) (a_val d_int a_nil)) (argR_len (argV_len (fun _ _ _ h => argN_len h))))) a_nil)) (argR_len (argV_len (fun _ _ _ h => argN_len h)))) (g_name (pg_name (i := 10) sc_l_far_right.nd rfl (by first | exact Or.inl rfl | exact Or.inr rfl))))
  (s_cons (s_asgL (ps_setLc (i := 11) (own := [("_law_lap_here", 12)]) rfl sc_l_far_right.nd rfl rfl (sw_true rfl rfl rfl (by decide +kernel)) (PId.ex (i_seq (d_tup (a_val (d_var 3 (pv 3)) (a_val (d_var 4 (pv 4)) a_nil))))) (blkOk_by (N := ["_law_box_here", "_law_stair_here", "_law_by", "_law_one", "_law_other", "_law_same_here", "_law_flat", "_law_least", "_law_most", "_law_size", "_law_much", "_law_both", "_law_lap_here", "_law_total", "_law_its"]) (sc := defScope s_l_far_right) (own := [("_law_lap_here", 12)]) (by decide +kernel)) (fun _ _ _ _ _ => PGd.ex (g_name (pg_name (i := 12) sc_l_far_right.nd rfl (by first | exact Or.inl rfl | exact Or.inr rfl)))) (fun _ _ _ _ _ => ts_nil) (fun _ _ _ _ _ => PDd.ex (d_esc (Fo.call f_p_far_levels hgd hr (by decide) (by rfl) rfl (a_val (d_var 1 (pv 1)) (a_val (d_var 6 (pv 6)) (a_val (d_var 12 (pv 12)) (a_val (d_var 10 (pv 10)) a_nil)))) (argV_len (argV_len (argV_len (argV_len (fun _ _ _ h => argN_len h))))))))) (fun F => t_lc F))
  (s_cons (s_if (d_tru (d_var 5 (pv 5))) (s_one (s_ret (d_cmp (op_eq.or (op_eqD hr.units)) (fun _ => Op2.or op2_eqS op2_eq) (d_ix (d_var 11 (pv 11)) d_int) (d_ix (d_var 11 (pv 11)) d_int) (nomark _)))) s_nil)
  (s_one (s_ret (d_all rfl (by rfl) n_all (d_lc (own := [("_law_total", 13), ("_law_its", 14)]) rfl sc_l_far_right.nd (i_zip2 (by rfl) n_zip (Fo.call f_p_totals_of hgd hr (by decide) (by rfl) rfl (a_val (d_ix (d_var 11 (pv 11)) d_int) a_nil) (argV_len (fun _ _ _ h => argN_len h))) (Fo.call f_p_totals_of hgd hr (by decide) (by rfl) rfl (a_val (d_ix (d_var 11 (pv 11)) d_int) a_nil) (argV_len (fun _ _ _ h => argN_len h)))) (blkOk_by (N := ["_law_box_here", "_law_stair_here", "_law_by", "_law_one", "_law_other", "_law_same_here", "_law_flat", "_law_least", "_law_most", "_law_size", "_law_much", "_law_both", "_law_lap_here", "_law_total", "_law_its"]) (sc := defScope s_l_far_right) (own := [("_law_total", 13), ("_law_its", 14)]) (by decide +kernel)) (fun _ _ _ _ _ => (g_tup (PG.or (pg_tup rfl (PGsd.ex (gs_cons (g_name (pg_name (i := 13) sc_l_far_right.nd rfl (by first | exact Or.inl rfl | exact Or.inr rfl))) (gs_cons (g_name (pg_name (i := 14) sc_l_far_right.nd rfl (by first | exact Or.inl rfl | exact Or.inr rfl))) gs_nil (pgs_cons (PGd.ex (g_name (pg_name (i := 14) sc_l_far_right.nd rfl (by first | exact Or.inl rfl | exact Or.inr rfl)))) (PGsd.ex gs_nil))) (pgs_cons (PGd.ex (g_name (pg_name (i := 13) sc_l_far_right.nd rfl (by first | exact Or.inl rfl | exact Or.inr rfl)))) (PGsd.ex (gs_cons (g_name (pg_name (i := 14) sc_l_far_right.nd rfl (by first | exact Or.inl rfl | exact Or.inr rfl))) gs_nil (pgs_cons (PGd.ex (g_name (pg_name (i := 14) sc_l_far_right.nd rfl (by first | exact Or.inl rfl | exact Or.inr rfl)))) (PGsd.ex gs_nil)))))))) (pg_lst rfl (PGsd.ex (gs_cons (g_name (pg_name (i := 13) sc_l_far_right.nd rfl (by first | exact Or.inl rfl | exact Or.inr rfl))) (gs_cons (g_name (pg_name (i := 14) sc_l_far_right.nd rfl (by first | exact Or.inl rfl | exact Or.inr rfl))) gs_nil (pgs_cons (PGd.ex (g_name (pg_name (i := 14) sc_l_far_right.nd rfl (by first | exact Or.inl rfl | exact Or.inr rfl)))) (PGsd.ex gs_nil))) (pgs_cons (PGd.ex (g_name (pg_name (i := 13) sc_l_far_right.nd rfl (by first | exact Or.inl rfl | exact Or.inr rfl)))) (PGsd.ex (gs_cons (g_name (pg_name (i := 14) sc_l_far_right.nd rfl (by first | exact Or.inl rfl | exact Or.inr rfl))) gs_nil (pgs_cons (PGd.ex (g_name (pg_name (i := 14) sc_l_far_right.nd rfl (by first | exact Or.inl rfl | exact Or.inr rfl)))) (PGsd.ex gs_nil))))))))))) (fun _ _ _ _ _ => ts_nil) (fun _ _ _ _ _ => (d_cmp op_ge (fun _ => o_ge) (d_var 13 (pv 13)) (d_var 14 (pv 14)) (nomark _)))))))))))
theorem b_l_right (n_len : mg "len" = none) (n_range : mg "range" = none) (f_p_alike : Fo P w K mg base "alike" ["stair", "one", "other"] m_p_alike 5) (f_p_no_less : Fo P w K mg base "no_less" ["stair", "one", "other"] m_p_no_less 5) (f_l_take : Fo P w K mg base "_law_take" ["_law_box_here", "_law_size"] (m_l_take 4) 4) (f_l_stair : Fo P w K mg base "_law_stair" ["_law_box_here", "_law_cap", "_law_by"] m_l_stair 5) (f_l_great : Fo P w K mg base "_law_great" ["_law_box_here"] m_l_great 5) (f_l_lap : Fo P w K mg base "_law_lap" ["_law_box_here", "_law_many", "_law_cap", "_law_by"] m_l_lap 5) (f_l_joined : Fo P w K mg base "_law_joined" ["_law_rains", "_law_many"] m_l_joined 1) (f_l_stirred : Fo P w K mg base "_law_stirred" ["_law_box_here", "_law_rains"] m_l_stirred 5) (f_l_far_right : Fo P w K mg base "_law_far_right" ["_law_box_here", "_law_stair_here", "_law_by", "_law_one", "_law_other", "_law_same_here"] m_l_far_right 7) : ∀ (cdv : Value) (A : Around) (outer : List Env) (s : Shared) (H : Hp) (E : XK), A.guards = some [] → Room 7 (A.deeper (envOfC "_law_right" (defScope s_l_right) s.heap.objs.size f cdv)) →
    PSsd (cxOf CX0 P w K mg base ["_law_box_here", "_law_by", "_law_stair_here", "_law_many", "_law_lap_here", "_law_rains", "_law_turn", "_law_at", "_law_one", "_law_mixed", "_law_once", "_law_drain", "_law_less", "_law_later", "_law_first"] "_law_right" (defScope s_l_right) f cdv A outer s H E).nox (defBody s_l_right) g_l_right := by
  intro cdv A outer s H E hgd hr
  unfold g_l_right
  exact (s_cons (s_asg (Fo.call f_l_great hgd hr (by decide) (by rfl) rfl (a_ref (d_var 0 (pv 0)) a_nil) (argR_len (fun _ _ _ h => argN_len h))) (g_name (pg_name (i := 1) sc_l_right.nd rfl (by first | exact Or.inl rfl | exact Or.inr rfl))))
  (s_cons (s_asg (Fo.call f_l_stair hgd hr (by decide) (by rfl) rfl (a_ref (d_var 0 (pv 0)) (a_val d_int (a_val (d_var 1 (pv 1)) a_nil))) (argR_len (argV_len (argV_len (fun _ _ _ h => argN_len h))))) (g_name (pg_name (i := 2) sc_l_right.nd rfl (by first | exact Or.inl rfl | exact Or.inr rfl))))
  (s_cons (s_asg (d_tup (a_val (d_len (by rfl) n_len (d_var 2 (pv 2))) (a_val (d_ix (Fo.call f_l_lap hgd hr (by decide) (by rfl) rfl (a_ref (d_var 0 (pv 0)) (a_val (d_len (by rfl) n_len (d_var 2 (pv 2))) (a_val d_int (a_val (d_var 1 (pv 1)) a_nil)))) (argR_len (argV_len (argV_len (argV_len (fun _ _ _ h => argN_len h)))))) d_int) a_nil))) (g_tup (PG.or (pg_tup rfl (PGsd.ex (gs_cons (g_name (pg_name (i := 3) sc_l_right.nd rfl (by first | exact Or.inl rfl | exact Or.inr rfl))) (gs_cons (g_name (pg_name (i := 4) sc_l_right.nd rfl (by first | exact Or.inl rfl | exact Or.inr rfl))) gs_nil (pgs_cons (PGd.ex (g_name (pg_name (i := 4) sc_l_right.nd rfl (by first | exact Or.inl rfl | exact Or.inr rfl)))) (PGsd.ex gs_nil))) (pgs_cons (PGd.ex (g_name (pg_name (i := 3) sc_l_right.nd rfl (by first | exact Or.inl rfl | exact Or.inr rfl)))) (PGsd.ex (gs_cons (g_name (pg_name (i := 4) sc_l_right.nd rfl (by first | exact Or.inl rfl | exact Or.inr rfl))) gs_nil (pgs_cons (PGd.ex (g_name (pg_name (i := 4) sc_l_right.nd rfl (by first | exact Or.inl rfl | exact Or.inr rfl)))) (PGsd.ex gs_nil)))))))) (pg_lst rfl (PGsd.ex (gs_cons (g_name (pg_name (i := 3) sc_l_right.nd rfl (by first | exact Or.inl rfl | exact Or.inr rfl))) (gs_cons (g_name (pg_name (i := 4) sc_l_right.nd rfl (by first | exact Or.inl rfl | exact Or.inr rfl))) gs_nil (pgs_cons (PGd.ex (g_name (pg_name (i := 4) sc_l_right.nd rfl (by first | exact Or.inl rfl | exact Or.inr rfl)))) (PGsd.ex gs_nil))) (pgs_cons (PGd.ex (g_name (pg_name (i := 3) sc_l_right.nd rfl (by first | exact Or.inl rfl | exact Or.inr rfl)))) (PGsd.ex (gs_cons (g_name (pg_name (i := 4) sc_l_right.nd rfl (by first | exact Or.inl rfl | exact Or.inr rfl))) gs_nil (pgs_cons (PGd.ex (g_name (pg_name (i := 4) sc_l_right.nd rfl (by first | exact Or.inl rfl | exact Or.inr rfl)))) (PGsd.ex gs_nil)))))))))))
  (s_cons (s_asgL (ps_setLc (i := 5) (own := [("_law_turn", 6)]) rfl sc_l_right.nd rfl rfl (sw_true rfl rfl rfl (by decide +kernel)) (PId.ex (i_rng1 (by rfl) n_range (d_addA d_int (Fo.call f_l_take hgd hr (by decide) (by rfl) rfl (a_ref (d_var 0 (pv 0)) (a_val d_int a_nil)) (argR_len (argV_len (fun _ _ _ h => argN_len h))))))) (blkOk_by (N := ["_law_box_here", "_law_by", "_law_stair_here", "_law_many", "_law_lap_here", "_law_rains", "_law_turn", "_law_at", "_law_one", "_law_mixed", "_law_once", "_law_drain", "_law_less", "_law_later", "_law_first"]) (sc := defScope s_l_right) (own := [("_law_turn", 6)]) (by decide +kernel)) (fun _ _ _ _ _ => PGd.ex (g_name (pg_name (i := 6) sc_l_right.nd rfl (by first | exact Or.inl rfl | exact Or.inr rfl)))) (fun _ _ _ _ _ => ts_nil) (fun _ _ _ _ _ => PDd.ex (d_esc (d_tup (a_val d_str (a_val (d_addA d_int (Fo.call f_l_take hgd hr (by decide) (by rfl) rfl (a_ref (d_var 0 (pv 0)) (a_val (d_var 3 (pv 3)) a_nil)) (argR_len (argV_len (fun _ _ _ h => argN_len h))))) (a_val (d_mulA (d_var 1 (pv 1)) (d_addA d_int (Fo.call f_l_take hgd hr (by decide) (by rfl) rfl (a_ref (d_var 0 (pv 0)) (a_val d_int a_nil)) (argR_len (argV_len (fun _ _ _ h => argN_len h)))))) a_nil))))))) (fun F => t_lc F))
  (s_cons (s_asg (Fo.call f_l_take hgd hr (by decide) (by rfl) rfl (a_ref (d_var 0 (pv 0)) (a_val (d_addA (d_len (by rfl) n_len (d_var 4 (pv 4))) d_int) a_nil)) (argR_len (argV_len (fun _ _ _ h => argN_len h)))) (g_name (pg_name (i := 7) sc_l_right.nd rfl (by first | exact Or.inl rfl | exact Or.inr rfl))))
  (s_cons (s_asg (d_addA (d_addA (d_sl (d_var 4 (pv 4)) o_none (o_some (d_var 7 (pv 7)))) (d_var 5 (pv 5))) (d_sl (d_var 4 (pv 4)) (o_some (d_var 7 (pv 7))) o_none)) (g_name (pg_name (i := 8) sc_l_right.nd rfl (by first | exact Or.inl rfl | exact Or.inr rfl))))
  (s_cons (s_asg (d_addA (d_addA (d_sl (d_var 4 (pv 4)) o_none (o_some (d_var 7 (pv 7)))) (Fo.call f_l_stirred hgd hr (by decide) (by rfl) rfl (a_ref (d_var 0 (pv 0)) (a_val (d_var 5 (pv 5)) a_nil)) (argR_len (argV_len (fun _ _ _ h => argN_len h))))) (d_sl (d_var 4 (pv 4)) (o_some (d_var 7 (pv 7))) o_none)) (g_name (pg_name (i := 9) sc_l_right.nd rfl (by first | exact Or.inl rfl | exact Or.inr rfl))))
  (s_cons (s_asg (d_addA (d_addA (d_sl (d_var 4 (pv 4)) o_none (o_some (d_var 7 (pv 7)))) (Fo.call f_l_joined hgd hr (by decide) (by rfl) rfl (a_val (d_var 5 (pv 5)) (a_val (d_var 3 (pv 3)) a_nil)) (argV_len (argV_len (fun _ _ _ h => argN_len h))))) (d_sl (d_var 4 (pv 4)) (o_some (d_var 7 (pv 7))) o_none)) (g_name (pg_name (i := 10) sc_l_right.nd rfl (by first | exact Or.inl rfl | exact Or.inr rfl))))
  (s_cons (s_if (PWd.pt (w_or (d_tstC op_isnot_bl (fun _ => op2_isNotB) (Fo.call f_p_alike hgd hr (by decide) (by rfl) rfl (a_val (d_var 2 (pv 2)) (a_val (d_var 8 (pv 8)) (a_val (d_var 9 (pv 9)) a_nil))) (argV_len (argV_len (argV_len (fun _ _ _ h => argN_len h))))) d_bl (nomark _)) (w_or1 (d_tstC op_isnot_bl (fun _ => op2_isNotB) (Fo.call f_p_alike hgd hr (by decide) (by rfl) rfl (a_val (d_var 2 (pv 2)) (a_val (d_var 10 (pv 10)) (a_val (d_var 9 (pv 9)) a_nil))) (argV_len (argV_len (argV_len (fun _ _ _ h => argN_len h))))) d_bl (nomark _))))) (s_one (s_ret d_bl)) s_nil)
  (s_cons (s_if (PWd.pt (w_or (d_notT (d_tru (Fo.call f_l_far_right hgd hr (by decide) (by rfl) rfl (a_ref (d_var 0 (pv 0)) (a_val (d_var 2 (pv 2)) (a_val (d_var 1 (pv 1)) (a_val (d_var 8 (pv 8)) (a_val (d_var 10 (pv 10)) (a_val d_bl a_nil)))))) (argR_len (argV_len (argV_len (argV_len (argV_len (argV_len (fun _ _ _ h => argN_len h)))))))))) (w_or1 (d_notT (d_tru (Fo.call f_l_far_right hgd hr (by decide) (by rfl) rfl (a_ref (d_var 0 (pv 0)) (a_val (d_var 2 (pv 2)) (a_val (d_var 1 (pv 1)) (a_val (d_var 8 (pv 8)) (a_val (d_var 4 (pv 4)) (a_val d_bl a_nil)))))) (argR_len (argV_len (argV_len (argV_len (argV_len (argV_len (fun _ _ _ h => argN_len h))))))))))))) (s_one (s_ret d_bl)) s_nil)
  (s_cons (s_if (PWd.pt (w_or (d_tstC op_isnot_bl (fun _ => op2_isNotB) (Fo.call f_p_no_less hgd hr (by decide) (by rfl) rfl (a_val (d_var 2 (pv 2)) (a_val (d_var 8 (pv 8)) (a_val (d_var 4 (pv 4)) a_nil))) (argV_len (argV_len (argV_len (fun _ _ _ h => argN_len h))))) d_bl (nomark _)) (w_or1 (d_tstC op_isnot_bl (fun _ => op2_isNotB) (Fo.call f_p_no_less hgd hr (by decide) (by rfl) rfl (a_val (d_var 2 (pv 2)) (a_val (d_var 4 (pv 4)) (a_val (d_var 8 (pv 8)) a_nil))) (argV_len (argV_len (argV_len (fun _ _ _ h => argN_len h))))) d_bl (nomark _))))) (s_one (s_ret d_bl)) s_nil)
  (s_cons (s_asg (d_tup (a_val d_str (a_val (d_addA d_int (Fo.call f_l_take hgd hr (by decide) (by rfl) rfl (a_ref (d_var 0 (pv 0)) (a_val (d_var 3 (pv 3)) a_nil)) (argR_len (argV_len (fun _ _ _ h => argN_len h))))) (a_val (d_mulA (d_var 1 (pv 1)) (d_addA d_int (Fo.call f_l_take hgd hr (by decide) (by rfl) rfl (a_ref (d_var 0 (pv 0)) (a_val d_int a_nil)) (argR_len (argV_len (fun _ _ _ h => argN_len h)))))) a_nil)))) (g_name (pg_name (i := 11) sc_l_right.nd rfl (by first | exact Or.inl rfl | exact Or.inr rfl))))
  (s_cons (s_asg (d_addA (d_addA (d_sl (d_var 4 (pv 4)) o_none (o_some (d_var 7 (pv 7)))) (d_lst (a_val (d_var 11 (pv 11)) a_nil))) (d_sl (d_var 4 (pv 4)) (o_some (d_var 7 (pv 7))) o_none)) (g_name (pg_name (i := 12) sc_l_right.nd rfl (by first | exact Or.inl rfl | exact Or.inr rfl))))
  (s_cons (s_asg (d_addA (d_addA (d_addA (d_sl (d_var 4 (pv 4)) o_none (o_some (d_var 7 (pv 7)))) (d_lst (a_val (d_var 11 (pv 11)) a_nil))) (d_var 5 (pv 5))) (d_sl (d_var 4 (pv 4)) (o_some (d_var 7 (pv 7))) o_none)) (g_name (pg_name (i := 13) sc_l_right.nd rfl (by first | exact Or.inl rfl | exact Or.inr rfl))))
  (s_cons (s_asg (d_addA (d_addA (d_addA (d_sl (d_var 4 (pv 4)) o_none (o_some (d_var 7 (pv 7)))) (d_var 5 (pv 5))) (d_lst (a_val (d_var 11 (pv 11)) a_nil))) (d_sl (d_var 4 (pv 4)) (o_some (d_var 7 (pv 7))) o_none)) (g_name (pg_name (i := 14) sc_l_right.nd rfl (by first | exact Or.inl rfl | exact Or.inr rfl))))
  (s_cons (s_if (PWd.pt (w_or (d_tstC op_isnot_bl (fun _ => op2_isNotB) (Fo.call f_p_no_less hgd hr (by decide) (by rfl) rfl (a_val (d_var 2 (pv 2)) (a_val (d_var 4 (pv 4)) (a_val (d_var 12 (pv 12)) a_nil))) (argV_len (argV_len (argV_len (fun _ _ _ h => argN_len h))))) d_bl (nomark _)) (w_or1 (d_tstC op_isnot_bl (fun _ => op2_isNotB) (Fo.call f_p_no_less hgd hr (by decide) (by rfl) rfl (a_val (d_var 2 (pv 2)) (a_val (d_var 13 (pv 13)) (a_val (d_var 14 (pv 14)) a_nil))) (argV_len (argV_len (argV_len (fun _ _ _ h => argN_len h))))) d_bl (nomark _))))) (s_one (s_ret d_bl)) s_nil)
  (s_one (s_ret (d_and (Fo.call f_l_far_right hgd hr (by decide) (by rfl) rfl (a_ref (d_var 0 (pv 0)) (a_val (d_var 2 (pv 2)) (a_val (d_var 1 (pv 1)) (a_val (d_var 4 (pv 4)) (a_val (d_var 12 (pv 12)) (a_val d_bl a_nil)))))) (argR_len (argV_len (argV_len (argV_len (argV_len (argV_len (fun _ _ _ h => argN_len h)))))))) (d_one (Fo.call f_l_far_right hgd hr (by decide) (by rfl) rfl (a_ref (d_var 0 (pv 0)) (a_val (d_var 2 (pv 2)) (a_val (d_var 1 (pv 1)) (a_val (d_var 13 (pv 13)) (a_val (d_var 14 (pv 14)) (a_val d_bl a_nil)))))) (argR_len (argV_len (argV_len (argV_len (argV_len (argV_len (fun _ _ _ h => argN_len h))))))))))))))))))))))))))))
theorem b_p_law (n_all : mg "all" = none) (n_len : mg "len" = none) (n_max : mg "max" = none) (n_range : mg "range" = none) (f_l_box : Fo P w K mg base "_law_box" ["_law_script", "_law_k"] m_l_box 1) (f_l_folded : Fo P w K mg base "_law_folded" ["_law_script", "_law_size"] m_l_folded 1) (f_l_right : Fo P w K mg base "_law_right" ["_law_box_here"] m_l_right 8) : ∀ (cdv : Value) (A : Around) (outer : List Env) (s : Shared) (H : Hp) (E : XK), A.guards = some [] → Room 8 (A.deeper (envOfC "law" (defScope s_p_law) s.heap.objs.size f cdv)) →
    PSsd (cxOf CX0 P w K mg base ["_law_script", "_law_cells", "_law_k"] "law" (defScope s_p_law) f cdv A outer s H E).nox (defBody s_p_law) g_p_law := by
  intro cdv A outer s H E hgd hr
  unfold g_p_law
  exact (s_cons (s_asg (Fo.call f_l_folded hgd hr (by decide) (by rfl) rfl (a_val (d_var 0 (pv 0)) (a_val d_int a_nil)) (argV_len (argV_len (fun _ _ _ h => argN_len h)))) (g_name (pg_name (i := 1) sc_p_law.nd rfl (by first | exact Or.inl rfl | exact Or.inr rfl))))
  (s_one (s_ret (d_all rfl (by rfl) n_all (d_lc (own := [("_law_k", 2)]) rfl sc_p_law.nd (i_rng1 (by rfl) n_range (d_max2 rfl (by rfl) n_max d_int (d_len (by rfl) n_len (d_var 1 (pv 1))))) (blkOk_by (N := ["_law_script", "_law_cells", "_law_k"]) (sc := defScope s_p_law) (own := [("_law_k", 2)]) (by decide +kernel)) (fun _ _ _ _ _ => (g_name (pg_name (i := 2) sc_p_law.nd rfl (by first | exact Or.inl rfl | exact Or.inr rfl)))) (fun _ _ _ _ _ => ts_nil) (fun _ _ _ _ _ => (Fo.call1 f_l_right hgd hr (by decide) (by rfl) rfl (Fo.call f_l_box hgd hr (by decide) (by rfl) rfl (a_val (d_var 1 (pv 1)) (a_val (d_var 2 (pv 2)) a_nil)) (argV_len (argV_len (fun _ _ _ h => argN_len h)))))))))))
end
end K77
namespace K77
open PySem PySem.Spec PyProof.Rows L2 Lw
def dd_p_change_of : He.DefD := ⟨("change_of", none), "change_of", "change_of", defArgs s_p_change_of, defBody s_p_change_of, defScope s_p_change_of, [], []⟩
def dd_p_led : He.DefD := ⟨("led", none), "led", "led", defArgs s_p_led, defBody s_p_led, defScope s_p_led, [], []⟩
def dd_p_table_of : He.DefD := ⟨("table_of", none), "table_of", "table_of", defArgs s_p_table_of, defBody s_p_table_of, defScope s_p_table_of, [], []⟩
def dd_p_tables_along : He.DefD := ⟨("tables_along", none), "tables_along", "tables_along", defArgs s_p_tables_along, defBody s_p_tables_along, defScope s_p_tables_along, [], []⟩
def dd_p_brim_table : He.DefD := ⟨("brim_table", none), "brim_table", "brim_table", defArgs s_p_brim_table, defBody s_p_brim_table, defScope s_p_brim_table, [], []⟩
def dd_p_table_behind : He.DefD := ⟨("table_behind", none), "table_behind", "table_behind", defArgs s_p_table_behind, defBody s_p_table_behind, defScope s_p_table_behind, [], []⟩
def dd_p_behind : He.DefD := ⟨("behind", none), "behind", "behind", defArgs s_p_behind, defBody s_p_behind, defScope s_p_behind, [], []⟩
def dd_p_row_behind : He.DefD := ⟨("row_behind", none), "row_behind", "row_behind", defArgs s_p_row_behind, defBody s_p_row_behind, defScope s_p_row_behind, [], []⟩
def dd_p_doubles_of : He.DefD := ⟨("doubles_of", none), "doubles_of", "doubles_of", defArgs s_p_doubles_of, defBody s_p_doubles_of, defScope s_p_doubles_of, [], []⟩
def dd_p_doubles_in : He.DefD := ⟨("doubles_in", none), "doubles_in", "doubles_in", defArgs s_p_doubles_in, defBody s_p_doubles_in, defScope s_p_doubles_in, [], []⟩
def dd_p_led_often : He.DefD := ⟨("led_often", none), "led_often", "led_often", defArgs s_p_led_often, defBody s_p_led_often, defScope s_p_led_often, [], []⟩
def dd_p_totals_of : He.DefD := ⟨("totals_of", none), "totals_of", "totals_of", defArgs s_p_totals_of, defBody s_p_totals_of, defScope s_p_totals_of, [], []⟩
def dd_p_levels_of : He.DefD := ⟨("levels_of", none), "levels_of", "levels_of", defArgs s_p_levels_of, defBody s_p_levels_of, defScope s_p_levels_of, [], []⟩
def dd_p_alike : He.DefD := ⟨("alike", none), "alike", "alike", defArgs s_p_alike, defBody s_p_alike, defScope s_p_alike, [], []⟩
def dd_p_no_less : He.DefD := ⟨("no_less", none), "no_less", "no_less", defArgs s_p_no_less, defBody s_p_no_less, defScope s_p_no_less, [], []⟩
def dd_p_far_levels : He.DefD := ⟨("far_levels", none), "far_levels", "far_levels", defArgs s_p_far_levels, defBody s_p_far_levels, defScope s_p_far_levels, [], []⟩
def dd_p_far_totals : He.DefD := ⟨("far_totals", none), "far_totals", "far_totals", defArgs s_p_far_totals, defBody s_p_far_totals, defScope s_p_far_totals, [], []⟩
def dd_l_box : He.DefD := ⟨("_law_box", none), "_law_box", "_law_box", defArgs s_l_box, defBody s_l_box, defScope s_l_box, [], []⟩
def dd_l_take : He.DefD := ⟨("_law_take", none), "_law_take", "_law_take", defArgs s_l_take, defBody s_l_take, defScope s_l_take, [], []⟩
def dd_l_folded : He.DefD := ⟨("_law_folded", none), "_law_folded", "_law_folded", defArgs s_l_folded, defBody s_l_folded, defScope s_l_folded, [], []⟩
def dd_l_same : He.DefD := ⟨("_law_same", none), "_law_same", "_law_same", defArgs s_l_same, defBody s_l_same, defScope s_l_same, [], []⟩
def dd_l_stair : He.DefD := ⟨("_law_stair", none), "_law_stair", "_law_stair", defArgs s_l_stair, defBody s_l_stair, defScope s_l_stair, [], []⟩
def dd_l_great : He.DefD := ⟨("_law_great", none), "_law_great", "_law_great", defArgs s_l_great, defBody s_l_great, defScope s_l_great, [], []⟩
def dd_l_lap : He.DefD := ⟨("_law_lap", none), "_law_lap", "_law_lap", defArgs s_l_lap, defBody s_l_lap, defScope s_l_lap, [], []⟩
def dd_l_joined : He.DefD := ⟨("_law_joined", none), "_law_joined", "_law_joined", defArgs s_l_joined, defBody s_l_joined, defScope s_l_joined, [], []⟩
def dd_l_stirred : He.DefD := ⟨("_law_stirred", none), "_law_stirred", "_law_stirred", defArgs s_l_stirred, defBody s_l_stirred, defScope s_l_stirred, [], []⟩
def dd_l_far_right : He.DefD := ⟨("_law_far_right", none), "_law_far_right", "_law_far_right", defArgs s_l_far_right, defBody s_l_far_right, defScope s_l_far_right, [], []⟩
def dd_l_right : He.DefD := ⟨("_law_right", none), "_law_right", "_law_right", defArgs s_l_right, defBody s_l_right, defScope s_l_right, [], []⟩
def dd_p_law : He.DefD := ⟨("law", none), "law", "law", defArgs s_p_law, defBody s_p_law, defScope s_p_law, [], []⟩
def fn : List He.DefD := [dd_p_change_of, dd_p_led, dd_p_table_of, dd_p_tables_along, dd_p_brim_table, dd_p_table_behind, dd_p_behind, dd_p_row_behind, dd_p_doubles_of, dd_p_doubles_in, dd_p_led_often, dd_p_totals_of, dd_p_levels_of, dd_p_alike, dd_p_no_less, dd_p_far_levels, dd_p_far_totals, dd_l_box, dd_l_take, dd_l_folded, dd_l_same, dd_l_stair, dd_l_great, dd_l_lap, dd_l_joined, dd_l_stirred, dd_l_far_right, dd_l_right, dd_p_law]
def fa : List He.Fa := [.glo "change_of", .glo "led", .glo "table_of", .glo "tables_along", .glo "brim_table", .glo "table_behind", .glo "behind", .glo "row_behind", .glo "doubles_of", .glo "doubles_in", .glo "led_often", .glo "totals_of", .glo "levels_of", .glo "alike", .glo "no_less", .glo "far_levels", .glo "far_totals", .glo "_law_box", .glo "_law_take", .glo "_law_folded", .glo "_law_same", .glo "_law_stair", .glo "_law_great", .glo "_law_lap", .glo "_law_joined", .glo "_law_stirred", .glo "_law_far_right", .glo "_law_right", .glo "law", .free "abs", .free "all", .free "bool", .free "divmod", .free "enumerate", .free "int", .free "isinstance", .free "len", .free "list", .free "max", .free "min", .free "range", .free "reversed", .free "str", .free "sum", .free "tuple", .free "zip", .str "FILL" "fill", .str "EMPTY" "empty", .str "RAISE" "raise"]
abbrev R : PySem.W.OpenRow := PySem.W.OpenLaw.row PySem.Challenge.rw_liftwater_k77_whole_rains_in_any_order
abbrev hk : PySem.W.Hook := He.hookD 4 fa fn
def ob (s : PySem.W.SharedT) : He.AlD := He.obsDG 4 fa fn (HandSHeadRun.getT s)
theorem ob_eq (s : PySem.W.SharedT) : ob s = hk.obs s.abs := He.obsDG_eq (HandSHeadRun.getT_eq s)
def loose : List Str := (["FILL", "EMPTY", "RAISE", "change_of", "led", "table_of", "tables_along", "brim_table", "table_behind", "behind", "row_behind", "doubles_of", "doubles_in", "led_often", "totals_of", "levels_of", "alike", "no_less", "far_levels", "far_totals", "_law_box", "_law_take", "_law_folded", "_law_same", "_law_stair", "_law_great", "_law_lap", "_law_joined", "_law_stirred", "_law_far_right"] : List Str) ++ (["_law_right"] : List Str)
set_option maxHeartbeats 0 in
theorem run (w : World) : HandSHeadRun.RunEq R (PySem.W.view R.prog [37]) hk ob 4000 loose w := by
  intro os
  kernel_rfl
set_option maxHeartbeats 0 in
theorem facts {P : Program} {w : World} {K : PySem.W.Frag} {h : Heap} {mg : Str → Option Value} {f : Addr} (X : K.In h) (G : h.Ns mainGlobals mg) (hfa : mg ("law" : Str) = some (.ref f)) (c : He.SaysD fa fn K) :
    ∃ fd : FuncData, (∀ (s : Shared) (v : Value), BindsTo s fd ⟨[v], []⟩ [("_law_script", v)]) ∧ ∀ base : Heap, K.In base → base.Ns mainGlobals mg → FnG P w K mg base CX0 9 f fd ["_law_script"] (spF K 1 m_p_law) := by
  obtain ⟨fd_p_change_of, F_p_change_of⟩ := c.def_ 0 (d := dd_p_change_of) rfl
  obtain ⟨fd_p_led, F_p_led⟩ := c.def_ 1 (d := dd_p_led) rfl
  obtain ⟨fd_p_table_of, F_p_table_of⟩ := c.def_ 2 (d := dd_p_table_of) rfl
  obtain ⟨fd_p_tables_along, F_p_tables_along⟩ := c.def_ 3 (d := dd_p_tables_along) rfl
  obtain ⟨fd_p_brim_table, F_p_brim_table⟩ := c.def_ 4 (d := dd_p_brim_table) rfl
  obtain ⟨fd_p_table_behind, F_p_table_behind⟩ := c.def_ 5 (d := dd_p_table_behind) rfl
  obtain ⟨fd_p_behind, F_p_behind⟩ := c.def_ 6 (d := dd_p_behind) rfl
  obtain ⟨fd_p_row_behind, F_p_row_behind⟩ := c.def_ 7 (d := dd_p_row_behind) rfl
  obtain ⟨fd_p_doubles_of, F_p_doubles_of⟩ := c.def_ 8 (d := dd_p_doubles_of) rfl
  obtain ⟨fd_p_doubles_in, F_p_doubles_in⟩ := c.def_ 9 (d := dd_p_doubles_in) rfl
  obtain ⟨fd_p_led_often, F_p_led_often⟩ := c.def_ 10 (d := dd_p_led_often) rfl
  obtain ⟨fd_p_totals_of, F_p_totals_of⟩ := c.def_ 11 (d := dd_p_totals_of) rfl
  obtain ⟨fd_p_levels_of, F_p_levels_of⟩ := c.def_ 12 (d := dd_p_levels_of) rfl
  obtain ⟨fd_p_alike, F_p_alike⟩ := c.def_ 13 (d := dd_p_alike) rfl
  obtain ⟨fd_p_no_less, F_p_no_less⟩ := c.def_ 14 (d := dd_p_no_less) rfl
  obtain ⟨fd_p_far_levels, F_p_far_levels⟩ := c.def_ 15 (d := dd_p_far_levels) rfl
  obtain ⟨fd_p_far_totals, F_p_far_totals⟩ := c.def_ 16 (d := dd_p_far_totals) rfl
  obtain ⟨fd_l_box, F_l_box⟩ := c.def_ 17 (d := dd_l_box) rfl
  obtain ⟨fd_l_take, F_l_take⟩ := c.def_ 18 (d := dd_l_take) rfl
  obtain ⟨fd_l_folded, F_l_folded⟩ := c.def_ 19 (d := dd_l_folded) rfl
  obtain ⟨fd_l_same, F_l_same⟩ := c.def_ 20 (d := dd_l_same) rfl
  obtain ⟨fd_l_stair, F_l_stair⟩ := c.def_ 21 (d := dd_l_stair) rfl
  obtain ⟨fd_l_great, F_l_great⟩ := c.def_ 22 (d := dd_l_great) rfl
  obtain ⟨fd_l_lap, F_l_lap⟩ := c.def_ 23 (d := dd_l_lap) rfl
  obtain ⟨fd_l_joined, F_l_joined⟩ := c.def_ 24 (d := dd_l_joined) rfl
  obtain ⟨fd_l_stirred, F_l_stirred⟩ := c.def_ 25 (d := dd_l_stirred) rfl
  obtain ⟨fd_l_far_right, F_l_far_right⟩ := c.def_ 26 (d := dd_l_far_right) rfl
  obtain ⟨fd_l_right, F_l_right⟩ := c.def_ 27 (d := dd_l_right) rfl
  obtain ⟨fd_p_law, F_p_law⟩ := c.def_ 28 (d := dd_p_law) rfl
  have n_abs := He.free_ok X G (c.fact 29 (f := .free "abs") rfl)
  have n_all := He.free_ok X G (c.fact 30 (f := .free "all") rfl)
  have n_bool := He.free_ok X G (c.fact 31 (f := .free "bool") rfl)
  have n_divmod := He.free_ok X G (c.fact 32 (f := .free "divmod") rfl)
  have n_enumerate := He.free_ok X G (c.fact 33 (f := .free "enumerate") rfl)
  have n_int := He.free_ok X G (c.fact 34 (f := .free "int") rfl)
  have n_isinstance := He.free_ok X G (c.fact 35 (f := .free "isinstance") rfl)
  have n_len := He.free_ok X G (c.fact 36 (f := .free "len") rfl)
  have n_list := He.free_ok X G (c.fact 37 (f := .free "list") rfl)
  have n_max := He.free_ok X G (c.fact 38 (f := .free "max") rfl)
  have n_min := He.free_ok X G (c.fact 39 (f := .free "min") rfl)
  have n_range := He.free_ok X G (c.fact 40 (f := .free "range") rfl)
  have n_reversed := He.free_ok X G (c.fact 41 (f := .free "reversed") rfl)
  have n_str := He.free_ok X G (c.fact 42 (f := .free "str") rfl)
  have n_sum := He.free_ok X G (c.fact 43 (f := .free "sum") rfl)
  have n_tuple := He.free_ok X G (c.fact 44 (f := .free "tuple") rfl)
  have n_zip := He.free_ok X G (c.fact 45 (f := .free "zip") rfl)
  obtain ⟨t_FILL, c_FILL⟩ := He.str_ok X G (c.fact 46 rfl)
  obtain ⟨t_EMPTY, c_EMPTY⟩ := He.str_ok X G (c.fact 47 rfl)
  obtain ⟨t_RAISE, c_RAISE⟩ := He.str_ok X G (c.fact 48 rfl)
  have bi_p_change_of : Binds K fd_p_change_of ["stair", "deed"] [] := F_p_change_of.bindsN fun _ _ _ _ _ _ us hl => match us, hl with | [_, _], _ => rfl
  have g_p_change_of := He.glo_ok X G (c.fact 0 (f := .glo "change_of") rfl)
  have bi_p_led : Binds K fd_p_led ["table", "totals"] [] := F_p_led.bindsN fun _ _ _ _ _ _ us hl => match us, hl with | [_, _], _ => rfl
  have g_p_led := He.glo_ok X G (c.fact 1 (f := .glo "led") rfl)
  have bi_p_table_of : Binds K fd_p_table_of ["stair", "deeds"] [] := F_p_table_of.bindsN fun _ _ _ _ _ _ us hl => match us, hl with | [_, _], _ => rfl
  have g_p_table_of := He.glo_ok X G (c.fact 2 (f := .glo "table_of") rfl)
  have bi_p_tables_along : Binds K fd_p_tables_along ["stair", "deeds"] [] := F_p_tables_along.bindsN fun _ _ _ _ _ _ us hl => match us, hl with | [_, _], _ => rfl
  have g_p_tables_along := He.glo_ok X G (c.fact 3 (f := .glo "tables_along") rfl)
  have bi_p_brim_table : Binds K fd_p_brim_table ["stair"] [] := F_p_brim_table.bindsN fun _ _ _ _ _ _ us hl => match us, hl with | [_], _ => rfl
  have g_p_brim_table := He.glo_ok X G (c.fact 4 (f := .glo "brim_table") rfl)
  have bi_p_table_behind : Binds K fd_p_table_behind ["stair", "table", "deed"] [] := F_p_table_behind.bindsN fun _ _ _ _ _ _ us hl => match us, hl with | [_, _, _], _ => rfl
  have g_p_table_behind := He.glo_ok X G (c.fact 5 (f := .glo "table_behind") rfl)
  have bi_p_behind : Binds K fd_p_behind ["one", "other"] [] := F_p_behind.bindsN fun _ _ _ _ _ _ us hl => match us, hl with | [_, _], _ => rfl
  have g_p_behind := He.glo_ok X G (c.fact 6 (f := .glo "behind") rfl)
  have bi_p_row_behind : Binds K fd_p_row_behind ["rows", "row"] [] := F_p_row_behind.bindsN fun _ _ _ _ _ _ us hl => match us, hl with | [_, _], _ => rfl
  have g_p_row_behind := He.glo_ok X G (c.fact 7 (f := .glo "row_behind") rfl)
  have bi_p_doubles_of : Binds K fd_p_doubles_of ["table", "most"] [] := F_p_doubles_of.bindsN fun _ _ _ _ _ _ us hl => match us, hl with | [_, _], _ => rfl
  have g_p_doubles_of := He.glo_ok X G (c.fact 8 (f := .glo "doubles_of") rfl)
  have bi_p_doubles_in : Binds K fd_p_doubles_in ["doubles", "many"] [] := F_p_doubles_in.bindsN fun _ _ _ _ _ _ us hl => match us, hl with | [_, _], _ => rfl
  have g_p_doubles_in := He.glo_ok X G (c.fact 9 (f := .glo "doubles_in") rfl)
  have bi_p_led_often : Binds K fd_p_led_often ["doubles", "totals", "many"] [] := F_p_led_often.bindsN fun _ _ _ _ _ _ us hl => match us, hl with | [_, _, _], _ => rfl
  have g_p_led_often := He.glo_ok X G (c.fact 10 (f := .glo "led_often") rfl)
  have bi_p_totals_of : Binds K fd_p_totals_of ["levels"] [] := F_p_totals_of.bindsN fun _ _ _ _ _ _ us hl => match us, hl with | [_], _ => rfl
  have g_p_totals_of := He.glo_ok X G (c.fact 11 (f := .glo "totals_of") rfl)
  have bi_p_levels_of : Binds K fd_p_levels_of ["totals"] [] := F_p_levels_of.bindsN fun _ _ _ _ _ _ us hl => match us, hl with | [_], _ => rfl
  have g_p_levels_of := He.glo_ok X G (c.fact 12 (f := .glo "levels_of") rfl)
  have bi_p_alike : Binds K fd_p_alike ["stair", "one", "other"] [] := F_p_alike.bindsN fun _ _ _ _ _ _ us hl => match us, hl with | [_, _, _], _ => rfl
  have g_p_alike := He.glo_ok X G (c.fact 13 (f := .glo "alike") rfl)
  have bi_p_no_less : Binds K fd_p_no_less ["stair", "one", "other"] [] := F_p_no_less.bindsN fun _ _ _ _ _ _ us hl => match us, hl with | [_, _, _], _ => rfl
  have g_p_no_less := He.glo_ok X G (c.fact 14 (f := .glo "no_less") rfl)
  have bi_p_far_levels : Binds K fd_p_far_levels ["stair", "levels", "deeds", "many"] [] := F_p_far_levels.bindsN fun _ _ _ _ _ _ us hl => match us, hl with | [_, _, _, _], _ => rfl
  have g_p_far_levels := He.glo_ok X G (c.fact 15 (f := .glo "far_levels") rfl)
  have bi_p_far_totals : Binds K fd_p_far_totals ["stair", "levels", "deeds", "many"] [] := F_p_far_totals.bindsN fun _ _ _ _ _ _ us hl => match us, hl with | [_, _, _, _], _ => rfl
  have g_p_far_totals := He.glo_ok X G (c.fact 16 (f := .glo "far_totals") rfl)
  have bi_l_box : Binds K fd_l_box ["_law_script", "_law_k"] [] := F_l_box.bindsN fun _ _ _ _ _ _ us hl => match us, hl with | [_, _], _ => rfl
  have g_l_box := He.glo_ok X G (c.fact 17 (f := .glo "_law_box") rfl)
  have bi_l_take : Binds K fd_l_take ["_law_box_here", "_law_size"] [] := F_l_take.bindsN fun _ _ _ _ _ _ us hl => match us, hl with | [_, _], _ => rfl
  have g_l_take := He.glo_ok X G (c.fact 18 (f := .glo "_law_take") rfl)
  have bi_l_folded : Binds K fd_l_folded ["_law_script", "_law_size"] [] := F_l_folded.bindsN fun _ _ _ _ _ _ us hl => match us, hl with | [_, _], _ => rfl
  have g_l_folded := He.glo_ok X G (c.fact 19 (f := .glo "_law_folded") rfl)
  have bi_l_same : Binds K fd_l_same ["_law_found", "_law_due"] [] := F_l_same.bindsN fun _ _ _ _ _ _ us hl => match us, hl with | [_, _], _ => rfl
  have g_l_same := He.glo_ok X G (c.fact 20 (f := .glo "_law_same") rfl)
  have bi_l_stair : Binds K fd_l_stair ["_law_box_here", "_law_cap", "_law_by"] [] := F_l_stair.bindsN fun _ _ _ _ _ _ us hl => match us, hl with | [_, _, _], _ => rfl
  have g_l_stair := He.glo_ok X G (c.fact 21 (f := .glo "_law_stair") rfl)
  have bi_l_great : Binds K fd_l_great ["_law_box_here"] [] := F_l_great.bindsN fun _ _ _ _ _ _ us hl => match us, hl with | [_], _ => rfl
  have g_l_great := He.glo_ok X G (c.fact 22 (f := .glo "_law_great") rfl)
  have bi_l_lap : Binds K fd_l_lap ["_law_box_here", "_law_many", "_law_cap", "_law_by"] [] := F_l_lap.bindsN fun _ _ _ _ _ _ us hl => match us, hl with | [_, _, _, _], _ => rfl
  have g_l_lap := He.glo_ok X G (c.fact 23 (f := .glo "_law_lap") rfl)
  have bi_l_joined : Binds K fd_l_joined ["_law_rains", "_law_many"] [] := F_l_joined.bindsN fun _ _ _ _ _ _ us hl => match us, hl with | [_, _], _ => rfl
  have g_l_joined := He.glo_ok X G (c.fact 24 (f := .glo "_law_joined") rfl)
  have bi_l_stirred : Binds K fd_l_stirred ["_law_box_here", "_law_rains"] [] := F_l_stirred.bindsN fun _ _ _ _ _ _ us hl => match us, hl with | [_, _], _ => rfl
  have g_l_stirred := He.glo_ok X G (c.fact 25 (f := .glo "_law_stirred") rfl)
  have bi_l_far_right : Binds K fd_l_far_right ["_law_box_here", "_law_stair_here", "_law_by", "_law_one", "_law_other", "_law_same_here"] [] := F_l_far_right.bindsN fun _ _ _ _ _ _ us hl => match us, hl with | [_, _, _, _, _, _], _ => rfl
  have g_l_far_right := He.glo_ok X G (c.fact 26 (f := .glo "_law_far_right") rfl)
  have bi_l_right : Binds K fd_l_right ["_law_box_here"] [] := F_l_right.bindsN fun _ _ _ _ _ _ us hl => match us, hl with | [_], _ => rfl
  have g_l_right := He.glo_ok X G (c.fact 27 (f := .glo "_law_right") rfl)
  have bi_p_law : Binds K fd_p_law ["_law_script"] [] := F_p_law.bindsN fun _ _ _ _ _ _ us hl => match us, hl with | [_], _ => rfl
  have g_p_law := He.glo_ok X G (c.fact 28 (f := .glo "law") rfl)
  have e := hfa.symm.trans g_p_law
  cases e
  refine ⟨fd_p_law, fun s v => F_p_law.bindsA (ps := ["_law_script"]) (fun _ _ _ _ _ _ us hl => match us, hl with | [_], _ => rfl) s [v] rfl, fun base _ _ => ?_⟩
  have f_p_change_of : Fo P w K mg base "change_of" ["stair", "deed"] m_p_change_of 1 := FunD.mkG F_p_change_of sc_p_change_of (b_p_change_of c_FILL c_EMPTY c_RAISE) g_p_change_of bi_p_change_of
  have f_p_led : Fo P w K mg base "led" ["table", "totals"] m_p_led 1 := FunD.mkG F_p_led sc_p_led (b_p_led n_enumerate n_min n_tuple n_zip) g_p_led bi_p_led
  have f_p_brim_table : Fo P w K mg base "brim_table" ["stair"] m_p_brim_table 1 := FunD.mkG F_p_brim_table sc_p_brim_table (b_p_brim_table n_tuple) g_p_brim_table bi_p_brim_table
  have f_p_row_behind : Fo P w K mg base "row_behind" ["rows", "row"] m_p_row_behind 1 := FunD.mkG F_p_row_behind sc_p_row_behind (b_p_row_behind n_len n_min n_range n_tuple) g_p_row_behind bi_p_row_behind
  have f_p_doubles_in : Fo P w K mg base "doubles_in" ["doubles", "many"] m_p_doubles_in 1 := FunD.mkG F_p_doubles_in sc_p_doubles_in (b_p_doubles_in n_enumerate) g_p_doubles_in bi_p_doubles_in
  have f_p_totals_of : Fo P w K mg base "totals_of" ["levels"] m_p_totals_of 1 := FunD.mkG F_p_totals_of sc_p_totals_of (b_p_totals_of n_tuple) g_p_totals_of bi_p_totals_of
  have f_p_levels_of : Fo P w K mg base "levels_of" ["totals"] m_p_levels_of 1 := FunD.mkG F_p_levels_of sc_p_levels_of (b_p_levels_of n_tuple n_zip) g_p_levels_of bi_p_levels_of
  have f_l_box : Fo P w K mg base "_law_box" ["_law_script", "_law_k"] m_l_box 1 := FunD.mkG F_l_box sc_l_box (b_l_box n_abs n_int n_len) g_l_box bi_l_box
  have f_l_folded : Fo P w K mg base "_law_folded" ["_law_script", "_law_size"] m_l_folded 1 := FunD.mkG F_l_folded sc_l_folded (b_l_folded n_enumerate n_list) g_l_folded bi_l_folded
  have f_l_joined : Fo P w K mg base "_law_joined" ["_law_rains", "_law_many"] m_l_joined 1 := FunD.mkG F_l_joined sc_l_joined (b_l_joined n_int n_range n_sum) g_l_joined bi_l_joined
  have f_p_table_behind : Fo P w K mg base "table_behind" ["stair", "table", "deed"] m_p_table_behind 2 := FunD.mkG F_p_table_behind sc_p_table_behind (b_p_table_behind n_len n_min n_range n_reversed n_tuple n_zip f_p_change_of) g_p_table_behind bi_p_table_behind
  have f_p_behind : Fo P w K mg base "behind" ["one", "other"] m_p_behind 2 := FunD.mkG F_p_behind sc_p_behind (b_p_behind n_enumerate n_tuple f_p_row_behind) g_p_behind bi_p_behind
  have f_p_led_often : Fo P w K mg base "led_often" ["doubles", "totals", "many"] m_p_led_often 2 := FunD.mkG F_p_led_often sc_p_led_often (b_p_led_often n_tuple f_p_led f_p_doubles_in) g_p_led_often bi_p_led_often
  have f_p_tables_along : Fo P w K mg base "tables_along" ["stair", "deeds"] m_p_tables_along 3 := FunD.mkG F_p_tables_along sc_p_tables_along (b_p_tables_along f_p_brim_table f_p_table_behind) g_p_tables_along bi_p_tables_along
  have f_p_doubles_of : Fo P w K mg base "doubles_of" ["table", "most"] m_p_doubles_of 3 := FunD.mkG F_p_doubles_of sc_p_doubles_of (b_p_doubles_of n_range n_tuple f_p_behind) g_p_doubles_of bi_p_doubles_of
  have f_p_table_of : Fo P w K mg base "table_of" ["stair", "deeds"] m_p_table_of 4 := FunD.mkG F_p_table_of sc_p_table_of (b_p_table_of f_p_tables_along) g_p_table_of bi_p_table_of
  have f_l_take : ∀ n : Nat, Fo P w K mg base "_law_take" ["_law_box_here", "_law_size"] (m_l_take n) (0 + n) := by
    intro n
    induction n with
    | zero => exact fo_none g_l_take F_l_take.kp bi_l_take
    | succ n ih => exact FunD.mkG F_l_take sc_l_take (b_l_take n_divmod ih) g_l_take bi_l_take
  replace f_l_take := f_l_take 4
  have f_p_alike : Fo P w K mg base "alike" ["stair", "one", "other"] m_p_alike 5 := FunD.mkG F_p_alike sc_p_alike (b_p_alike f_p_table_of) g_p_alike bi_p_alike
  have f_p_no_less : Fo P w K mg base "no_less" ["stair", "one", "other"] m_p_no_less 5 := FunD.mkG F_p_no_less sc_p_no_less (b_p_no_less n_all n_list n_zip f_p_table_of) g_p_no_less bi_p_no_less
  have f_p_far_totals : Fo P w K mg base "far_totals" ["stair", "levels", "deeds", "many"] m_p_far_totals 5 := FunD.mkG F_p_far_totals sc_p_far_totals (b_p_far_totals f_p_table_of f_p_doubles_of f_p_led_often f_p_totals_of) g_p_far_totals bi_p_far_totals
  have f_l_stair : Fo P w K mg base "_law_stair" ["_law_box_here", "_law_cap", "_law_by"] m_l_stair 5 := FunD.mkG F_l_stair sc_l_stair (b_l_stair n_range n_tuple f_l_take) g_l_stair bi_l_stair
  have f_l_great : Fo P w K mg base "_law_great" ["_law_box_here"] m_l_great 5 := FunD.mkG F_l_great sc_l_great (b_l_great f_l_take) g_l_great bi_l_great
  have f_l_lap : Fo P w K mg base "_law_lap" ["_law_box_here", "_law_many", "_law_cap", "_law_by"] m_l_lap 5 := FunD.mkG F_l_lap sc_l_lap (b_l_lap n_list n_range n_tuple f_l_take) g_l_lap bi_l_lap
  have f_l_stirred : Fo P w K mg base "_law_stirred" ["_law_box_here", "_law_rains"] m_l_stirred 5 := FunD.mkG F_l_stirred sc_l_stirred (b_l_stirred n_len n_list n_range f_l_take) g_l_stirred bi_l_stirred
  have f_p_far_levels : Fo P w K mg base "far_levels" ["stair", "levels", "deeds", "many"] m_p_far_levels 6 := FunD.mkG F_p_far_levels sc_p_far_levels (b_p_far_levels f_p_levels_of f_p_far_totals) g_p_far_levels bi_p_far_levels
  have f_l_far_right : Fo P w K mg base "_law_far_right" ["_law_box_here", "_law_stair_here", "_law_by", "_law_one", "_law_other", "_law_same_here"] m_l_far_right 7 := FunD.mkG F_l_far_right sc_l_far_right (b_l_far_right n_all n_tuple n_zip f_p_totals_of f_p_far_levels f_l_take) g_l_far_right bi_l_far_right
  have f_l_right : Fo P w K mg base "_law_right" ["_law_box_here"] m_l_right 8 := FunD.mkG F_l_right sc_l_right (b_l_right n_len n_range f_p_alike f_p_no_less f_l_take f_l_stair f_l_great f_l_lap f_l_joined f_l_stirred f_l_far_right) g_l_right bi_l_right
  have f_l_same : ∀ n : Nat, Fo P w K mg base "_law_same" ["_law_found", "_law_due"] (m_l_same n) (0 + n) := by
    intro n
    induction n with
    | zero => exact fo_none g_l_same F_l_same.kp bi_l_same
    | succ n ih => exact FunD.mkG F_l_same sc_l_same (b_l_same n_all n_bool n_int n_isinstance n_len n_list n_str n_tuple n_zip ih) g_l_same bi_l_same
  replace f_l_same := f_l_same 10
  exact FunD.mkFn F_p_law sc_p_law (b_p_law n_all n_len n_max n_range f_l_box f_l_folded f_l_right)
end K77
open PySem PySem.W PySem.Calls PyProof.Rows
set_option maxRecDepth 100000 in
set_option maxHeartbeats 0 in
theorem PySem.Challenge.cw_liftwater_k77_whole_rains_in_any_order_holds : PySem.Challenge.rw_liftwater_k77_whole_rains_in_any_order.Holds := by
  w_on; o_law
  refine HandSHeadRun.head_any (r := OpenLaw.row PySem.Challenge.rw_liftwater_k77_whole_rains_in_any_order) (q := view (OpenLaw.row PySem.Challenge.rw_liftwater_k77_whole_rains_in_any_order).prog [37]) (H := K77.hk) (ob := K77.ob) (M := 4000) (loose := K77.loose) (d := HandSHeadRun.topDef (OpenLaw.row PySem.Challenge.rw_liftwater_k77_whole_rains_in_any_order).prog 37) (kwd := []) K77.ob_eq
    (by kernel_rfl) (fun s => by kernel_rfl) K77.run (by kernel_rfl) (by kernel_rfl) (by kernel_rfl) (by rfl) (by first | assumption | decide +kernel) (by decide +kernel) ⟨rfl, rfl, rfl, rfl, rfl, by decide +kernel⟩ ?hw ?hc
  case hw => w_witness2
  case hc =>
    refine Lw.walk_GE (l := PySem.Challenge.rw_liftwater_k77_whole_rains_in_any_order) (n := 63) (k := 9) (x := "_law_script") rfl (by decide) (by kernel_rfl) ⟨rfl, by decide, by decide⟩ ?F
    intro w mg fa h Y G hmg0
    obtain ⟨K, KX, c⟩ := Y
    have hmg : mg ("law" : PySem.Str) = some (.ref fa) := by
      have e : (HandSHeadRun.topDef (OpenLaw.row PySem.Challenge.rw_liftwater_k77_whole_rains_in_any_order).prog 37).name = ("law" : PySem.Str) := by kernel_rfl
      rw [← e]
      exact hmg0
    obtain ⟨fd, hb, hF⟩ := K77.facts (P := (PySem.Challenge.rw_liftwater_k77_whole_rains_in_any_order).prog) (w := w) KX G hmg c
    exact ⟨K, fd, _, KX, hb, fun H a ns hl hbits hS => Lw.law_sp (K77.sem_law ns hl hbits) hS, hF⟩
