import PyProof.Rows.All
import HandS.ForMost
import HandS.ForExc
import HandS.IsInst
import HandS.WideBits
import HandS.TupAny
import HandS.TupMul
import HandS.Zip
import HandS.Rev
import HandS.Style
import HandS.Flow
import HandS.Conv
import HandS.EndBits
import PyProof.Rows.IntBool
import PyProof.ReprRoads
import HandS.TryOnly
import HandS.RevRange
import HandS.Head0
import HandS.More
import HandS.Head1
import HandS.Head2
import HandS.HeadEnd
import HandS.HeadHook1
import HandS.HeadHook2
import HandS.Defaults
import KE.GoesNew
import KE.DataMinMax
import KE.KTupSum
import KE.KRevSl
import HandS.Star
import KE.KDictZip
import HandS.TupLe
import KE.DataFind
import HandS.SortKw
import HandS.Small
import HandS.ListItems
import HandS.Strs
import HandS.SetFor
import HandS.ExcInit
import HandS.ExcField
import KE.KExcInit
import KE.KTryMore
import KE.KExcIs
import HandS.Sort
import PyProof.RangeIter
import PyProof.SumAny
import HandS.Dict
import PyProof.ReprLen
import KE.DatumOrd
import PySem.Challenge.RW_liftwater_k46_turns_with_no_boat
set_option Elab.async false
set_option linter.all false
set_option maxRecDepth 100000
set_option maxHeartbeats 4000000
namespace Lw
open PySem PySem.Spec PyProof.Rows L2
/-! ### what a head is asked: defs, facts, and closed looks of one's own -/
def nmA0 (K : PySem.W.Frag) (nm : Str) : Addr := match PySem.W.nsIn K mainGlobals nm with
  | some (some (.ref a)) => a
  | _ => 0
inductive Cn where
  | own (nm : Str)
  | ty (n : String)
def Cn.u (K : PySem.W.Frag) : Cn → Value
  | .own nm => .ref (nmA0 K nm)
  | .ty n => .type n
def Cn.v (K : PySem.W.Frag) : Cn → V
  | .own nm => .ref (nmA0 K nm)
  | .ty n => .ty n
def obsX (fa : List He.Fa) (fn : List He.DefD) (xs : List (PySem.W.Frag → Bool)) (K : PySem.W.Frag) : He.AlD := ((He.obsD fa fn K).1 && xs.all fun f => f K, (He.obsD fa fn K).2)
def SaysX (fa : List He.Fa) (fn : List He.DefD) (xs : List (PySem.W.Frag → Bool)) (K : PySem.W.Frag) : Prop := obsX fa fn xs K = He.valD fn
end Lw
namespace K46
open PySem PySem.Spec PyProof.Rows L2
def topS (i : Nat) : Stmt := PySem.Challenge.pw_liftwater_k46_turns_with_no_boat.main.body.getD i (.Pass ⟨0, 0, 0, 0⟩)
abbrev s_p_bare_turns : Stmt := topS 2
abbrev s_l_box : Stmt := topS 4
abbrev s_l_take : Stmt := topS 5
abbrev s_l_folded : Stmt := topS 6
abbrev s_l_cells : Stmt := topS 7
abbrev s_l_of : Stmt := topS 8
abbrev s_l_same : Stmt := topS 9
abbrev s_l_table : Stmt := topS 10
abbrev s_l_right : Stmt := topS 11
abbrev s_p_law : Stmt := topS 12
end K46
namespace K46h
open PySem PySem.Spec PyProof.Rows L2 Lw K46
def dd_p_bare_turns : He.DefD := ⟨("bare_turns", none), "bare_turns", "bare_turns", defArgs s_p_bare_turns, defBody s_p_bare_turns, defScope s_p_bare_turns, [], []⟩
def dd_l_box : He.DefD := ⟨("_law_box", none), "_law_box", "_law_box", defArgs s_l_box, defBody s_l_box, defScope s_l_box, [], []⟩
def dd_l_take : He.DefD := ⟨("_law_take", none), "_law_take", "_law_take", defArgs s_l_take, defBody s_l_take, defScope s_l_take, [], []⟩
def dd_l_folded : He.DefD := ⟨("_law_folded", none), "_law_folded", "_law_folded", defArgs s_l_folded, defBody s_l_folded, defScope s_l_folded, [], []⟩
def dd_l_cells : He.DefD := ⟨("_law_cells", none), "_law_cells", "_law_cells", defArgs s_l_cells, defBody s_l_cells, defScope s_l_cells, [], []⟩
def dd_l_of : He.DefD := ⟨("_law_of", none), "_law_of", "_law_of", defArgs s_l_of, defBody s_l_of, defScope s_l_of, [], []⟩
def dd_l_same : He.DefD := ⟨("_law_same", none), "_law_same", "_law_same", defArgs s_l_same, defBody s_l_same, defScope s_l_same, [], []⟩
def dd_l_table : He.DefD := ⟨("_law_table", none), "_law_table", "_law_table", defArgs s_l_table, defBody s_l_table, defScope s_l_table, [], []⟩
def dd_l_right : He.DefD := ⟨("_law_right", none), "_law_right", "_law_right", defArgs s_l_right, defBody s_l_right, defScope s_l_right, [], []⟩
def dd_p_law : He.DefD := ⟨("law", none), "law", "law", defArgs s_p_law, defBody s_p_law, defScope s_p_law, [], []⟩
def fn : List He.DefD := [dd_p_bare_turns, dd_l_box, dd_l_take, dd_l_folded, dd_l_cells, dd_l_of, dd_l_same, dd_l_table, dd_l_right, dd_p_law]
def fa : List He.Fa := [.glo "bare_turns", .glo "_law_box", .glo "_law_take", .glo "_law_folded", .glo "_law_cells", .glo "_law_of", .glo "_law_same", .glo "_law_table", .glo "_law_right", .glo "law", .free "abs", .free "all", .free "bool", .free "divmod", .free "enumerate", .free "int", .free "isinstance", .free "len", .free "list", .free "min", .free "range", .free "str", .free "tuple", .free "zip", .str "LOW" "low"]
abbrev R : PySem.W.OpenRow := PySem.W.OpenLaw.row PySem.Challenge.rw_liftwater_k46_turns_with_no_boat
abbrev hk : PySem.W.Hook := He.hookD 4 fa fn
def ob (s : PySem.W.SharedT) : He.AlD := He.obsDG 4 fa fn (HandSHeadRun.getT s)
theorem ob_eq (s : PySem.W.SharedT) : ob s = hk.obs s.abs := He.obsDG_eq (HandSHeadRun.getT_eq s)
def loose : List Str := (["LOW", "bare_turns", "_law_box", "_law_take", "_law_folded", "_law_cells", "_law_of", "_law_same", "_law_table", "_law_right"] : List Str)
set_option maxHeartbeats 0 in
theorem run (w : World) : HandSHeadRun.RunEq R (PySem.W.view R.prog [12]) hk ob 4000 loose w := by
  intro os
  kernel_rfl
end K46h
namespace Lw
open PySem PySem.Spec PyProof.Rows L2
/-! ### data -/
abbrev D := PyData
theorem same_seqT {K : PySem.W.Frag} {H H' : Hp} {a : Addr} {xs : List V} (e : Same H H') (h : SqT K H a xs) : SqT K H' a xs := by
  rcases h with (h | ⟨o, h⟩) | h
  · exact .inl (.inl (e _ _ h))
  · exact .inl (.inr ⟨o, e _ _ h⟩)
  · exact .inr h
section
variable {K : PySem.W.Frag} {H H' : Hp}
mutual
theorem dp_same (e : Same H H') : ∀ {v : V} {d : D}, Dp K H v d → Dp K H' v d
  | _, _, .non => .non
  | _, _, .bl b => .bl b
  | _, _, .int i => .int i
  | _, _, .str x => .str x
  | _, _, .lst h hs => .lst (e.seq h) (dpa_same e hs)
  | _, _, .tup h hs => .tup (same_seqT e h) (dpa_same e hs)
theorem dpa_same (e : Same H H') : ∀ {vs : List V} {ds : List D}, DpAll K H vs ds → DpAll K H' vs ds
  | _, _, .nil => .nil
  | _, _, .cons h hs => .cons (dp_same e h) (dpa_same e hs)
end
theorem dpa_len : ∀ {vs : List V} {ds : List D}, DpAll K H vs ds → vs.length = ds.length
  | _, _, .nil => rfl
  | _, _, .cons _ hs => by rw [List.length_cons, List.length_cons, dpa_len hs]
theorem dpa_app : ∀ {vs ws : List V} {ds es : List D}, DpAll K H vs ds → DpAll K H ws es → DpAll K H (vs ++ ws) (ds ++ es)
  | _, _, _, _, .nil, k => k
  | _, _, _, _, .cons h hs, k => .cons h (dpa_app hs k)
theorem dpa_get : ∀ {vs : List V} {ds : List D} {i : Nat} {d : D}, DpAll K H vs ds → ds[i]? = some d → ∃ v, vs[i]? = some v ∧ Dp K H v d
  | _, _, _, _, .nil, e => by simp at e
  | _, _, 0, _, .cons h _, e => by simp at e; subst e; exact ⟨_, rfl, h⟩
  | _, _, i + 1, d, .cons _ hs, e => by
    obtain ⟨v, h1, h2⟩ := dpa_get (i := i) (d := d) hs (by simpa using e)
    exact ⟨v, by simpa using h1, h2⟩
theorem dpa_set {v : V} {d : D} (h : Dp K H v d) : ∀ {vs : List V} {ds : List D} (i : Nat), DpAll K H vs ds → DpAll K H (vs.set i v) (ds.set i d)
  | _, _, _, .nil => .nil
  | _, _, 0, .cons _ t => .cons h t
  | _, _, i + 1, .cons q t => .cons q (dpa_set h i t)
theorem dpa_take : ∀ {vs : List V} {ds : List D} (n : Nat), DpAll K H vs ds → DpAll K H (vs.take n) (ds.take n)
  | _, _, 0, _ => .nil
  | _, _, _ + 1, .nil => .nil
  | _, _, n + 1, .cons r t => .cons r (dpa_take n t)
theorem dpa_drop : ∀ {vs : List V} {ds : List D} (n : Nat), DpAll K H vs ds → DpAll K H (vs.drop n) (ds.drop n)
  | _, _, 0, r => r
  | _, _, _ + 1, .nil => .nil
  | _, _, n + 1, .cons _ t => dpa_drop n t
theorem dpa_rep : ∀ (n : Nat) {vs : List V} {ds : List D}, DpAll K H vs ds → DpAll K H (List.replicate n vs).flatten (List.replicate n ds).flatten
  | 0, _, _, _ => .nil
  | n + 1, _, _, h => by
    rw [List.replicate_succ, List.replicate_succ, List.flatten_cons, List.flatten_cons]
    exact dpa_app h (dpa_rep n h)
theorem dp_none {v : V} (h : Dp K H v .none) : v = .non := by cases h; rfl
theorem dp_bool {v : V} {b : Bool} (h : Dp K H v (.bool b)) : v = .bl b := by cases h; rfl
theorem dp_int {v : V} {i : Int} (h : Dp K H v (.int i)) : v = .int i := by cases h; rfl
theorem dp_str {v : V} {x : Str} (h : Dp K H v (.str x)) : v = .str x := by cases h; rfl
theorem dp_list {v : V} {ds : List D} (h : Dp K H v (.list ds)) : ∃ a vs, v = .ref a ∧ SqL K H a vs ∧ DpAll K H vs ds := by
  cases h with | lst h hs => exact ⟨_, _, rfl, h, hs⟩
theorem dp_tuple {v : V} {ds : List D} (h : Dp K H v (.tuple ds)) : ∃ a vs, v = .ref a ∧ SqT K H a vs ∧ DpAll K H vs ds := by
  cases h with | tup h hs => exact ⟨_, _, rfl, h, hs⟩
theorem dpa_ints : ∀ {ns : List Int}, DpAll K H (ns.map V.int) (ns.map PyData.int)
  | [] => .nil
  | n :: ns => .cons (.int n) dpa_ints
theorem dpa_bools_inv : ∀ {vs : List V} {ns : List Bool}, DpAll K H vs (ns.map PyData.bool) → vs = ns.map V.bl
  | _, [], .nil => rfl
  | _, n :: ns, .cons h t => by rw [dp_bool h, dpa_bools_inv t]; rfl
end
/-! ### the state: slots that hold data, or a list of their own -/
/-- values that are no data: an exception of the program's own, by its class's name and what it keeps; a dict -/
inductive XD where
  | exc (nm : Str) (d : D)
  | dct (kvs : List (D × D))
  | odc (kvs : List (D × D))
/-- an exception's object, its class at C, its dict at dd -/
def ExT (a C dd : Addr) : HO := .ext fun h => ∃ (oe : Obj) (vs : Array Value), h.get? a = some oe ∧ oe.cls = .ref C ∧ oe.dict = some dd ∧ oe.data = .fields vs
def keyD : L2.Key → D
  | .inl i => .int i
  | .inr s => .str s
/-- where the program's name stands for an object -/
def nmAt (K : PySem.W.Frag) (nm : Str) : Addr := match PySem.W.nsIn K mainGlobals nm with
  | some (some (.ref a)) => a
  | _ => 0
/-- a dict's content, keys of one kind; ahead of it, which kind -/
def DcAt (K : PySem.W.Frag) (G : Hp) (o : HO) (kvs : List (D × D)) : Prop := (∃ (es : List (L2.Key × V)) (ks : List (D × D)), o = .dK es ∧ kvs = (.bool false, .none) :: ks ∧ Paired (fun e p => keyD e.1 = p.1 ∧ Dp K G e.2 p.2) es ks) ∨
      ∃ (es : List (List L2.Key × V)) (ks : List (D × D)), o = .dT es ∧ kvs = (.bool true, .none) :: ks ∧ Paired (fun e p => PyData.tuple (e.1.map keyD) = p.1 ∧ Dp K G e.2 p.2) es ks
def Xp (K : PySem.W.Frag) (G : Hp) (v : V) : XD → Prop
  | .exc nm d => ∃ (a dd : Addr) (u : V), v = .ref a ∧ G a = some (ExT a (nmAt K nm) dd) ∧ G dd = some (.xd [(("what" : Str), u)]) ∧ Dp K G u d
  | .dct kvs => ∃ a o, v = .ref a ∧ G a = some o ∧ DcAt K G o kvs
  | .odc _ => True
theorem paired_imp {α β : Type} {r r' : α → β → Prop} (h : ∀ x y, r x y → r' x y) : ∀ {xs : List α} {ys : List β}, Paired r xs ys → Paired r' xs ys
  | _, _, .nil => .nil
  | _, _, .cons a b => .cons (h _ _ a) (paired_imp h b)
theorem dc_same {K : PySem.W.Frag} {H H' : Hp} (s : Same H H') {o : HO} {kvs : List (D × D)} (h : DcAt K H o kvs) : DcAt K H' o kvs := by
  rcases h with ⟨es, ks, h1, h0, h2⟩ | ⟨es, ks, h1, h0, h2⟩
  · exact .inl ⟨es, ks, h1, h0, paired_imp (fun _ _ z => ⟨z.1, dp_same s z.2⟩) h2⟩
  · exact .inr ⟨es, ks, h1, h0, paired_imp (fun _ _ z => ⟨z.1, dp_same s z.2⟩) h2⟩
theorem DcAt.lst {K : PySem.W.Frag} {G : Hp} {xs : List V} {kvs : List (D × D)} : ¬ DcAt K G (.lst xs) kvs := fun h => by
  rcases h with ⟨es, ks, h1, _⟩ | ⟨es, ks, h1, _⟩ <;> cases h1
theorem xp_same {K : PySem.W.Frag} {H H' : Hp} (s : Same H H') {v : V} {x : XD} (h : Xp K H v x) : Xp K H' v x := by
  cases x with
  | exc nm d =>
    obtain ⟨a, dd, u, e, h1, h2, h3⟩ := h
    exact ⟨a, dd, u, e, s _ _ h1, s _ _ h2, dp_same s h3⟩
  | dct kvs =>
    obtain ⟨a, o, e, h1, h⟩ := h
    exact ⟨a, o, e, s _ _ h1, dc_same s h⟩
  | odc kvs => trivial
inductive S where
  | pure (d : D)
  | own (par : Bool) (ds : List D)
  | vx (x : XD)
abbrev En := List (Option S)
abbrev M (α : Type) := En → Option (α × En)
/-- an own dict at slot i -/
def Od (K : PySem.W.Frag) (H0 : Hp) (σ : L2.St) (G H : Hp) (i : Nat) (kvs : List (D × D)) : Prop := ∃ a o, σ[i]? = some (some (.ref a)) ∧ H a = some o ∧ DcAt K G o kvs ∧ G a = none ∧ H0 a = none
theorem Od.keep {K : PySem.W.Frag} {H0 : Hp} {σ σ' : L2.St} {G G' H H' : Hp} {i : Nat} {kvs : List (D × D)} (h : Od K H0 σ G H i kvs) (hs : σ'[i]? = σ[i]?) (s : Same G G') (hh : ∀ a o, H a = some o → (∀ xs, o ≠ .lst xs) → G a = none → H' a = some o ∧ G' a = none) : Od K H0 σ' G' H' i kvs := by
  obtain ⟨a, o, h1, h2, h3, h4, h5⟩ := h
  obtain ⟨k1, k2⟩ := hh a o h2 (fun xs z => by subst z; exact DcAt.lst h3) h4
  exact ⟨a, o, by rw [hs]; exact h1, k1, dc_same s h3, k2, h5⟩
/-- what stood at a def's entry: the slots of lists of the caller's own, the heaps -/
structure Fx where
  A : Nat → Option Addr
  G0 : Hp
  H0 : Hp
structure Rel (K : PySem.W.Frag) (F : Fx) (ς : En) (G : Hp) (σ : L2.St) (H : Hp) : Prop where
  len : σ.length = ς.length
  sub : Same G H
  g0 : Same F.G0 G
  pu : ∀ (i : Nat) d, ς[i]? = some (some (.pure d)) → ∃ v, σ[i]? = some (some v) ∧ Dp K G v d
  ow : ∀ (i : Nat) b ds, ς[i]? = some (some (.own b ds)) → ∃ a vs, σ[i]? = some (some (.ref a)) ∧ H a = some (.lst vs) ∧ G a = none ∧ DpAll K G vs ds ∧ (b = true → F.A i = some a) ∧ (b = false → F.H0 a = none)
  ap : ∀ (i j : Nat) b c ds es a, ς[i]? = some (some (.own b ds)) → ς[j]? = some (some (.own c es)) → σ[i]? = some (some (.ref a)) → σ[j]? = some (some (.ref a)) → i = j
  par : ∀ i a, F.A i = some a → ∃ ds, ς[i]? = some (some (.own true ds))
  fr : ∀ a o, F.H0 a = some o → (∀ i, F.A i ≠ some a) → H a = some o
  nw : ∀ a, G a ≠ none → F.G0 a ≠ none ∨ F.H0 a = none
  vx : ∀ (i : Nat) x, ς[i]? = some (some (.vx x)) → ∃ v, σ[i]? = some (some v) ∧ Xp K G v x
  od : ∀ (i : Nat) kvs, ς[i]? = some (some (.vx (.odc kvs))) → Od K F.H0 σ G H i kvs
  oa : ∀ (i j : Nat) kvs kws a, ς[i]? = some (some (.vx (.odc kvs))) → ς[j]? = some (some (.vx (.odc kws))) → σ[i]? = some (some (.ref a)) → σ[j]? = some (some (.ref a)) → i = j
/-- what an expression gives -/
inductive R where
  | pure (d : D)
  | ref (i : Nat)
  | fresh (ds : List D)
  | vx (x : XD)
def RepR (K : PySem.W.Frag) (F : Fx) (ς : En) (G : Hp) (σ : L2.St) (H : Hp) : R → V → Prop
  | .pure d, v => Dp K G v d
  | .ref i, v => σ[i]? = some (some v)
  | .vx x, v => (∀ kvs, x ≠ .odc kvs) ∧ Xp K G v x
  | .fresh ds, v => ∃ a vs, v = .ref a ∧ H a = some (.lst vs) ∧ G a = none ∧ DpAll K G vs ds ∧ F.H0 a = none ∧ ∀ (i : Nat) b es, ς[i]? = some (some (.own b es)) → σ[i]? ≠ some (some (.ref a))
section
variable {K : PySem.W.Frag} {F : Fx} {ς : En} {G H : Hp} {σ : L2.St}
theorem same_upd {H : Hp} {p : Addr} {o : HO} (h : H p = none) : Same H (upd H p o) := fun b x e => by
  rw [upd_ne (ne_of_none e h)]; exact e
theorem same_upd2 {G H : Hp} {p : Addr} {o : HO} (h : Same G H) : Same (upd G p o) (upd H p o) := fun b x e => by
  by_cases hb : b = p
  · subst hb; rw [upd_same] at e ⊢; exact e
  · rw [upd_ne hb] at e ⊢; exact h _ _ e
theorem Rel.own_in (r : Rel K F ς G σ H) {i : Nat} {a : Addr} (h : F.A i = some a) : σ[i]? = some (some (.ref a)) ∧ ∃ vs, H a = some (.lst vs) := by
  obtain ⟨ds, e⟩ := r.par i a h
  obtain ⟨a', vs, e1, e2, _, _, e5, _⟩ := r.ow i true ds e
  have := e5 rfl
  rw [h] at this; cases this
  exact ⟨e1, vs, e2⟩
theorem Rel.new (r : Rel K F ς G σ H) {p : Addr} (h : H p = none) : F.H0 p = none := by
  cases q : F.H0 p with
  | none => rfl
  | some o =>
    by_cases hp : ∃ i, F.A i = some p
    · obtain ⟨i, hi⟩ := hp
      obtain ⟨_, vs, e⟩ := r.own_in hi
      rw [e] at h; cases h
    · have := r.fr p o q (fun i e => hp ⟨i, e⟩)
      rw [this] at h; cases h
theorem Rel.gnone (r : Rel K F ς G σ H) {p : Addr} (h : H p = none) : G p = none := r.sub.free h
/-- a new object, a datum from now on -/
theorem Rel.lay (r : Rel K F ς G σ H) {p : Addr} {o : HO} (h : H p = none) : Rel K F ς (upd G p o) σ (upd H p o) where
  len := r.len
  sub := same_upd2 r.sub
  g0 := r.g0.trans (same_upd (r.gnone h))
  pu := fun i d e => by
    obtain ⟨v, e1, e2⟩ := r.pu i d e
    exact ⟨v, e1, dp_same (same_upd (r.gnone h)) e2⟩
  ow := fun i b ds e => by
    obtain ⟨a, vs, e1, e2, e3, e4, e5⟩ := r.ow i b ds e
    have ne := ne_of_none e2 h
    exact ⟨a, vs, e1, by rw [upd_ne ne]; exact e2, by rw [upd_ne ne]; exact e3, dpa_same (same_upd (r.gnone h)) e4, e5⟩
  ap := r.ap
  par := r.par
  fr := fun a o' e na => by
    have := r.fr a o' e na
    rw [upd_ne (ne_of_none this h)]; exact this
  nw := fun a e => by
    by_cases ha : a = p
    · subst ha; exact .inr (r.new h)
    · rw [upd_ne ha] at e; exact r.nw a e
  vx := fun i x e => by
    obtain ⟨v, e1, e2⟩ := r.vx i x e
    exact ⟨v, e1, xp_same (same_upd (r.gnone h)) e2⟩
  od := fun i kvs e => (r.od i kvs e).keep rfl (same_upd (r.gnone h)) fun a o' e1 _ e2 => by
    have ne := ne_of_none e1 h
    exact ⟨by rw [upd_ne ne]; exact e1, by rw [upd_ne ne]; exact e2⟩
  oa := r.oa
/-- a new list, nobody's yet -/
theorem Rel.layF (r : Rel K F ς G σ H) {p : Addr} {o : HO} (h : H p = none) : Rel K F ς G σ (upd H p o) where
  len := r.len
  sub := r.sub.trans (same_upd h)
  g0 := r.g0
  pu := r.pu
  ow := fun i b ds e => by
    obtain ⟨a, vs, e1, e2, e3, e4, e5⟩ := r.ow i b ds e
    have ne := ne_of_none e2 h
    exact ⟨a, vs, e1, by rw [upd_ne ne]; exact e2, e3, e4, e5⟩
  ap := r.ap
  par := r.par
  fr := fun a o' e na => by
    have := r.fr a o' e na
    rw [upd_ne (ne_of_none this h)]; exact this
  nw := r.nw
  vx := r.vx
  od := fun i kvs e => (r.od i kvs e).keep rfl (Same.refl _) fun a o' e1 _ e2 => by
    have ne := ne_of_none e1 h
    exact ⟨by rw [upd_ne ne]; exact e1, e2⟩
  oa := r.oa
theorem Rel.repF (r : Rel K F ς G σ H) {p : Addr} {vs : List V} {ds : List D} (h : H p = none) (hd : DpAll K G vs ds) : RepR K F ς G σ (upd H p (.lst vs)) (.fresh ds) (.ref p) :=
  ⟨p, vs, rfl, upd_same, r.gnone h, hd, r.new h, fun i b es e q => by
    obtain ⟨a, ws, e1, e2, _⟩ := r.ow i b es e
    rw [q] at e1; cases e1
    rw [e2] at h; cases h⟩
theorem Rel.layD (r : Rel K F ς G σ H) {p : Addr} {vs : List V} {ds : List D} (h : H p = none) (hd : DpAll K G vs ds) : Dp K (upd G p (.tup vs)) (.ref p) (.tuple ds) :=
  .tup (.inl (.inl upd_same)) (dpa_same (same_upd (r.gnone h)) hd)
/-- freezing a list that is nobody's -/
theorem Rel.frzF (r : Rel K F ς G σ H) {v : V} {ds : List D} (h : RepR K F ς G σ H (.fresh ds) v) : ∃ G', Rel K F ς G' σ H ∧ Same G G' ∧ Dp K G' v (.list ds) := by
  obtain ⟨a, vs, rfl, h1, h2, h3, h4, h5⟩ := h
  refine ⟨upd G a (.lst vs), ⟨r.len, ?_, r.g0.trans (same_upd h2), ?_, ?_, r.ap, r.par, r.fr, ?_, fun i x e => by
    obtain ⟨v, e1, e2⟩ := r.vx i x e
    exact ⟨v, e1, xp_same (same_upd h2) e2⟩, fun i kvs e => (r.od i kvs e).keep rfl (same_upd h2) fun c o e1 nl e2 => by
    have ne : c ≠ a := fun z => by subst z; rw [h1] at e1; cases e1; exact nl _ rfl
    exact ⟨e1, by rw [upd_ne ne]; exact e2⟩, r.oa⟩, same_upd h2, .lst (.inl (.inl upd_same)) (dpa_same (same_upd h2) h3)⟩
  · intro b x e
    by_cases hb : b = a
    · subst hb; rw [upd_same] at e; rw [h1, e]
    · rw [upd_ne hb] at e; exact r.sub _ _ e
  · intro i d e
    obtain ⟨v, e1, e2⟩ := r.pu i d e
    exact ⟨v, e1, dp_same (same_upd h2) e2⟩
  · intro i b es e
    obtain ⟨c, ws, e1, e2, e3, e4, e5⟩ := r.ow i b es e
    have ne : c ≠ a := fun z => by subst z; exact h5 i b es e e1
    exact ⟨c, ws, e1, e2, by rw [upd_ne ne]; exact e3, dpa_same (same_upd h2) e4, e5⟩
  · intro c e
    by_cases hc : c = a
    · subst hc; exact .inr h4
    · rw [upd_ne hc] at e; exact r.nw c e
theorem get_set {α : Type} {l : List α} {i j : Nat} {x y : α} (h : (l.set i x)[j]? = some y) : (i = j ∧ x = y) ∨ (i ≠ j ∧ l[j]? = some y) := by
  by_cases e : i = j
  · subst e
    by_cases hl : i < l.length
    · rw [List.getElem?_set_self hl] at h; exact .inl ⟨rfl, Option.some.inj h⟩
    · rw [List.getElem?_eq_none (by rw [List.length_set]; omega)] at h; cases h
  · rw [List.getElem?_set_ne e] at h; exact .inr ⟨e, h⟩
def free (ς : En) (i : Nat) : Bool := match ς[i]? with
  | some (some (.own true _)) => false
  | some _ => true
  | none => false
theorem free_lt {i : Nat} (h : free ς i = true) : i < ς.length := by
  unfold free at h
  by_cases hl : i < ς.length
  · exact hl
  · rw [List.getElem?_eq_none (by omega)] at h; cases h
theorem free_no {i : Nat} {ds : List D} (h : free ς i = true) : ς[i]? ≠ some (some (.own true ds)) := fun e => by
  unfold free at h; rw [e] at h; cases h
/-- a slot takes a datum -/
theorem Rel.setP (r : Rel K F ς G σ H) {i : Nat} {v : V} {d : D} (hf : free ς i = true) (h : Dp K G v d) : Rel K F (ς.set i (some (.pure d))) G (σ.set i (some v)) H where
  len := by rw [List.length_set, List.length_set, r.len]
  sub := r.sub
  g0 := r.g0
  pu := fun j e q => by
    have hl : i < σ.length := by rw [r.len]; exact free_lt hf
    replace q := get_set q; rcases q with ⟨rfl, q⟩ | ⟨n, q⟩
    · cases q; exact ⟨v, List.getElem?_set_self hl, h⟩
    · rw [List.getElem?_set_ne n]; exact r.pu j e q
  ow := fun j b ds q => by
    replace q := get_set q; rcases q with ⟨rfl, q⟩ | ⟨n, q⟩
    · cases q
    · rw [List.getElem?_set_ne n]; exact r.ow j b ds q
  ap := fun j k b c ds es a q1 q2 q3 q4 => by
    replace q1 := get_set q1; rcases q1 with ⟨rfl, q1⟩ | ⟨n, q1⟩
    · cases q1
    replace q2 := get_set q2; rcases q2 with ⟨rfl, q2⟩ | ⟨m, q2⟩
    · cases q2
    rw [List.getElem?_set_ne n] at q3
    rw [List.getElem?_set_ne m] at q4
    exact r.ap j k b c ds es a q1 q2 q3 q4
  par := fun j a q => by
    obtain ⟨ds, e⟩ := r.par j a q
    have n : i ≠ j := fun z => by subst z; exact free_no hf e
    exact ⟨ds, by rw [List.getElem?_set_ne n]; exact e⟩
  fr := r.fr
  nw := r.nw
  vx := fun j x q => by
    replace q := get_set q; rcases q with ⟨rfl, q⟩ | ⟨n, q⟩
    · cases q
    · rw [List.getElem?_set_ne n]; exact r.vx j x q
  od := fun j kvs q => by
    replace q := get_set q; rcases q with ⟨rfl, q⟩ | ⟨n, q⟩
    · cases q
    · exact (r.od j kvs q).keep (List.getElem?_set_ne n) (Same.refl _) fun a o e1 _ e2 => ⟨e1, e2⟩
  oa := fun j k kvs kws a q1 q2 q3 q4 => by
    replace q1 := get_set q1; rcases q1 with ⟨rfl, q1⟩ | ⟨n, q1⟩
    · cases q1
    replace q2 := get_set q2; rcases q2 with ⟨rfl, q2⟩ | ⟨m, q2⟩
    · cases q2
    rw [List.getElem?_set_ne n] at q3
    rw [List.getElem?_set_ne m] at q4
    exact r.oa j k kvs kws a q1 q2 q3 q4
/-- a slot takes a new list as its own -/
theorem Rel.setO (r : Rel K F ς G σ H) {i : Nat} {v : V} {ds : List D} (hf : free ς i = true) (h : RepR K F ς G σ H (.fresh ds) v) : Rel K F (ς.set i (some (.own false ds))) G (σ.set i (some v)) H := by
  obtain ⟨a, vs, rfl, h1, h2, h3, h4, h5⟩ := h
  have hl : i < σ.length := by rw [r.len]; exact free_lt hf
  refine ⟨by rw [List.length_set, List.length_set, r.len], r.sub, r.g0, ?_, ?_, ?_, ?_, r.fr, r.nw, fun j x q => by
    replace q := get_set q; rcases q with ⟨rfl, q⟩ | ⟨n, q⟩
    · cases q
    · rw [List.getElem?_set_ne n]; exact r.vx j x q, fun j kvs q => by
    replace q := get_set q; rcases q with ⟨rfl, q⟩ | ⟨n, q⟩
    · cases q
    · exact (r.od j kvs q).keep (List.getElem?_set_ne n) (Same.refl _) fun a o e1 _ e2 => ⟨e1, e2⟩, fun j k kvs kws a q1 q2 q3 q4 => by
    replace q1 := get_set q1; rcases q1 with ⟨rfl, q1⟩ | ⟨n, q1⟩
    · cases q1
    replace q2 := get_set q2; rcases q2 with ⟨rfl, q2⟩ | ⟨m, q2⟩
    · cases q2
    rw [List.getElem?_set_ne n] at q3
    rw [List.getElem?_set_ne m] at q4
    exact r.oa j k kvs kws a q1 q2 q3 q4⟩
  · intro j e q
    replace q := get_set q; rcases q with ⟨rfl, q⟩ | ⟨n, q⟩
    · cases q
    · rw [List.getElem?_set_ne n]; exact r.pu j e q
  · intro j b es q
    replace q := get_set q; rcases q with ⟨rfl, q⟩ | ⟨n, q⟩
    · cases q
      exact ⟨a, vs, List.getElem?_set_self hl, h1, h2, h3, (fun z => by cases z), fun _ => h4⟩
    · rw [List.getElem?_set_ne n]; exact r.ow j b es q
  · intro j k b c es fs a' q1 q2 q3 q4
    replace q1 := get_set q1; rcases q1 with ⟨rfl, q1⟩ | ⟨n, q1⟩
    · replace q2 := get_set q2; rcases q2 with ⟨rfl, q2⟩ | ⟨m, q2⟩
      · rfl
      · rw [List.getElem?_set_self hl] at q3; cases q3
        rw [List.getElem?_set_ne m] at q4
        exact absurd q4 (h5 k c fs q2)
    · replace q2 := get_set q2; rcases q2 with ⟨rfl, q2⟩ | ⟨m, q2⟩
      · rw [List.getElem?_set_self hl] at q4; cases q4
        rw [List.getElem?_set_ne n] at q3
        exact absurd q3 (h5 j b es q1)
      · rw [List.getElem?_set_ne n] at q3
        rw [List.getElem?_set_ne m] at q4
        exact r.ap j k b c es fs a' q1 q2 q3 q4
  · intro j a' q
    obtain ⟨es, e⟩ := r.par j a' q
    have n : i ≠ j := fun z => by subst z; exact free_no hf e
    exact ⟨es, by rw [List.getElem?_set_ne n]; exact e⟩
/-- a slot is forgotten -/
theorem Rel.setN (r : Rel K F ς G σ H) {i : Nat} {o : Option V} (hf : free ς i = true) : Rel K F (ς.set i none) G (σ.set i o) H where
  len := by rw [List.length_set, List.length_set, r.len]
  sub := r.sub
  g0 := r.g0
  pu := fun j e q => by
    replace q := get_set q; rcases q with ⟨rfl, q⟩ | ⟨n, q⟩
    · cases q
    · rw [List.getElem?_set_ne n]; exact r.pu j e q
  ow := fun j b ds q => by
    replace q := get_set q; rcases q with ⟨rfl, q⟩ | ⟨n, q⟩
    · cases q
    · rw [List.getElem?_set_ne n]; exact r.ow j b ds q
  ap := fun j k b c ds es a q1 q2 q3 q4 => by
    replace q1 := get_set q1; rcases q1 with ⟨rfl, q1⟩ | ⟨n, q1⟩
    · cases q1
    replace q2 := get_set q2; rcases q2 with ⟨rfl, q2⟩ | ⟨m, q2⟩
    · cases q2
    rw [List.getElem?_set_ne n] at q3
    rw [List.getElem?_set_ne m] at q4
    exact r.ap j k b c ds es a q1 q2 q3 q4
  par := fun j a q => by
    obtain ⟨ds, e⟩ := r.par j a q
    have n : i ≠ j := fun z => by subst z; exact free_no hf e
    exact ⟨ds, by rw [List.getElem?_set_ne n]; exact e⟩
  fr := r.fr
  nw := r.nw
  vx := fun j x q => by
    replace q := get_set q; rcases q with ⟨rfl, q⟩ | ⟨n, q⟩
    · cases q
    · rw [List.getElem?_set_ne n]; exact r.vx j x q
  od := fun j kvs q => by
    replace q := get_set q; rcases q with ⟨rfl, q⟩ | ⟨n, q⟩
    · cases q
    · exact (r.od j kvs q).keep (List.getElem?_set_ne n) (Same.refl _) fun a o e1 _ e2 => ⟨e1, e2⟩
  oa := fun j k kvs kws a q1 q2 q3 q4 => by
    replace q1 := get_set q1; rcases q1 with ⟨rfl, q1⟩ | ⟨n, q1⟩
    · cases q1
    replace q2 := get_set q2; rcases q2 with ⟨rfl, q2⟩ | ⟨m, q2⟩
    · cases q2
    rw [List.getElem?_set_ne n] at q3
    rw [List.getElem?_set_ne m] at q4
    exact r.oa j k kvs kws a q1 q2 q3 q4
/-- an own list is changed -/
theorem Rel.mut (r : Rel K F ς G σ H) {i : Nat} {b : Bool} {ds : List D} {a : Addr} {ws : List V} {es : List D} (hi : ς[i]? = some (some (.own b ds))) (ha : σ[i]? = some (some (.ref a))) (h : DpAll K G ws es) :
    Rel K F (ς.set i (some (.own b es))) G σ (upd H a (.lst ws)) := by
  obtain ⟨a', vs, e1, e2, e3, e4, e5, e6⟩ := r.ow i b ds hi
  rw [ha] at e1; cases e1
  have il : i < ς.length := (List.getElem?_eq_some_iff.mp hi).1
  refine ⟨by rw [List.length_set, r.len], ?_, r.g0, ?_, ?_, ?_, ?_, ?_, r.nw, fun j x q => by
    replace q := get_set q; rcases q with ⟨rfl, q⟩ | ⟨n, q⟩
    · cases q
    · exact r.vx j x q, fun j kvs q => by
    replace q := get_set q; rcases q with ⟨rfl, q⟩ | ⟨n, q⟩
    · cases q
    · exact (r.od j kvs q).keep rfl (Same.refl _) fun c o k1 nl k2 => by
        have ne : c ≠ a := fun z => by subst z; rw [e2] at k1; cases k1; exact nl _ rfl
        exact ⟨by rw [upd_ne ne]; exact k1, k2⟩, fun j k kvs kws x q1 q2 q3 q4 => by
    replace q1 := get_set q1; rcases q1 with ⟨rfl, q1⟩ | ⟨n, q1⟩
    · cases q1
    replace q2 := get_set q2; rcases q2 with ⟨rfl, q2⟩ | ⟨m, q2⟩
    · cases q2
    exact r.oa j k kvs kws x q1 q2 q3 q4⟩
  · intro c o q
    have : c ≠ a := ne_of_none q e3
    rw [upd_ne this]; exact r.sub _ _ q
  · intro j d q
    replace q := get_set q; rcases q with ⟨rfl, q⟩ | ⟨n, q⟩
    · cases q
    · exact r.pu j d q
  · intro j c fs q
    replace q := get_set q; rcases q with ⟨rfl, q⟩ | ⟨n, q⟩
    · cases q
      exact ⟨a, ws, ha, upd_same, e3, h, e5, e6⟩
    · obtain ⟨x, xs, f1, f2, f3, f4, f5⟩ := r.ow j c fs q
      have ne : x ≠ a := fun z => by subst z; exact n (r.ap i j b c ds fs x hi q ha f1)
      exact ⟨x, xs, f1, by rw [upd_ne ne]; exact f2, f3, f4, f5⟩
  · intro j k c d fs gs x q1 q2 q3 q4
    replace q1 := get_set q1; rcases q1 with ⟨rfl, q1⟩ | ⟨n, q1⟩
    · replace q2 := get_set q2; rcases q2 with ⟨rfl, q2⟩ | ⟨m, q2⟩
      · rfl
      · exact r.ap i k b d ds gs x hi q2 q3 q4
    · replace q2 := get_set q2; rcases q2 with ⟨rfl, q2⟩ | ⟨m, q2⟩
      · exact r.ap j i c b fs ds x q1 hi q3 q4
      · exact r.ap j k c d fs gs x q1 q2 q3 q4
  · intro j x q
    by_cases e : i = j
    · subst e
      obtain ⟨fs, q2⟩ := r.par i x q
      rw [hi] at q2
      cases q2
      exact ⟨es, List.getElem?_set_self il⟩
    · rw [List.getElem?_set_ne e]; exact r.par j x q
  · intro x o q na
    have hx := r.fr x o q na
    have ne : x ≠ a := fun z => by
      subst z
      cases b with
      | true => exact na i (e5 rfl)
      | false => rw [e6 rfl] at q; cases q
    rw [upd_ne ne]; exact hx
/-- an own list becomes a datum -/
theorem Rel.frzO (r : Rel K F ς G σ H) {i : Nat} {ds : List D} (hi : ς[i]? = some (some (.own false ds))) :
    ∃ G' v, Rel K F (ς.set i (some (.pure (.list ds)))) G' σ H ∧ Same G G' ∧ σ[i]? = some (some v) ∧ Dp K G' v (.list ds) := by
  obtain ⟨a, vs, e1, e2, e3, e4, e5, e6⟩ := r.ow i false ds hi
  have hdp : Dp K (upd G a (.lst vs)) (.ref a) (.list ds) := .lst (.inl (.inl upd_same)) (dpa_same (same_upd e3) e4)
  refine ⟨upd G a (.lst vs), .ref a, ⟨by rw [List.length_set, r.len], ?_, r.g0.trans (same_upd e3), ?_, ?_, ?_, ?_, r.fr, ?_, fun j x q => by
    replace q := get_set q; rcases q with ⟨rfl, q⟩ | ⟨n, q⟩
    · cases q
    · obtain ⟨u, f1, f2⟩ := r.vx j x q
      exact ⟨u, f1, xp_same (same_upd e3) f2⟩, fun j kvs q => by
    replace q := get_set q; rcases q with ⟨rfl, q⟩ | ⟨n, q⟩
    · cases q
    · exact (r.od j kvs q).keep rfl (same_upd e3) fun c o k1 nl k2 => by
        have ne : c ≠ a := fun z => by subst z; rw [e2] at k1; cases k1; exact nl _ rfl
        exact ⟨k1, by rw [upd_ne ne]; exact k2⟩, fun j k kvs kws x q1 q2 q3 q4 => by
    replace q1 := get_set q1; rcases q1 with ⟨rfl, q1⟩ | ⟨n, q1⟩
    · cases q1
    replace q2 := get_set q2; rcases q2 with ⟨rfl, q2⟩ | ⟨m, q2⟩
    · cases q2
    exact r.oa j k kvs kws x q1 q2 q3 q4⟩, same_upd e3, e1, hdp⟩
  · intro b x e
    by_cases hb : b = a
    · subst hb; rw [upd_same] at e; rw [e2, e]
    · rw [upd_ne hb] at e; exact r.sub _ _ e
  · intro j d q
    replace q := get_set q; rcases q with ⟨rfl, q⟩ | ⟨n, q⟩
    · cases q; exact ⟨_, e1, hdp⟩
    · obtain ⟨v, f1, f2⟩ := r.pu j d q
      exact ⟨v, f1, dp_same (same_upd e3) f2⟩
  · intro j c fs q
    replace q := get_set q; rcases q with ⟨rfl, q⟩ | ⟨n, q⟩
    · cases q
    · obtain ⟨x, xs, f1, f2, f3, f4, f5⟩ := r.ow j c fs q
      have ne : x ≠ a := fun z => by subst z; exact n (r.ap i j false c ds fs x hi q e1 f1)
      exact ⟨x, xs, f1, f2, by rw [upd_ne ne]; exact f3, dpa_same (same_upd e3) f4, f5⟩
  · intro j k c d fs gs x q1 q2 q3 q4
    replace q1 := get_set q1; rcases q1 with ⟨rfl, q1⟩ | ⟨n, q1⟩
    · cases q1
    · replace q2 := get_set q2; rcases q2 with ⟨rfl, q2⟩ | ⟨m, q2⟩
      · cases q2
      · exact r.ap j k c d fs gs x q1 q2 q3 q4
  · intro j x q
    obtain ⟨fs, q2⟩ := r.par j x q
    have n : i ≠ j := fun z => by subst z; rw [hi] at q2; cases q2
    exact ⟨fs, by rw [List.getElem?_set_ne n]; exact q2⟩
  · intro c e
    by_cases hc : c = a
    · subst hc; exact .inr (e6 rfl)
    · rw [upd_ne hc] at e; exact r.nw c e
/-- a slot takes a value that is no datum -/
theorem Rel.setX (r : Rel K F ς G σ H) {i : Nat} {v : V} {x : XD} (hf : free ς i = true) (h : Xp K G v x) (hx : ∀ kvs, x ≠ .odc kvs) : Rel K F (ς.set i (some (.vx x))) G (σ.set i (some v)) H := by
  have r1 := r.setN (o := some v) hf
  have hl : i < σ.length := by rw [r.len]; exact free_lt hf
  have old : ∀ (j : Nat) (s : S), (∀ y, s ≠ .vx y) → (ς.set i (some (.vx x)))[j]? = some (some s) → (ς.set i none)[j]? = some (some s) := fun j s ns q => by
    replace q := get_set q; rcases q with ⟨rfl, q⟩ | ⟨n, q⟩
    · cases q; exact absurd rfl (ns x)
    · rw [List.getElem?_set_ne n]; exact q
  have no1 : ∀ d y, S.pure d ≠ .vx y := fun d y z => by cases z
  have no2 : ∀ b ds y, S.own b ds ≠ .vx y := fun b ds y z => by cases z
  refine ⟨by rw [List.length_set, List.length_set, r.len], r.sub, r.g0, fun j d q => r1.pu j d (old j _ (no1 d) q), fun j b ds q => r1.ow j b ds (old j _ (no2 b ds) q), fun j k b c ds es a q1 q2 => r1.ap j k b c ds es a (old j _ (no2 b ds) q1) (old k _ (no2 c es) q2), fun j a q => ?_, r.fr, r.nw, fun j y q => ?_, fun j kvs q => ?_, fun j k kvs kws a q1 q2 q3 q4 => ?_⟩
  · obtain ⟨ds, e⟩ := r.par j a q
    have n : i ≠ j := fun z => by subst z; exact free_no hf e
    exact ⟨ds, by rw [List.getElem?_set_ne n]; exact e⟩
  · replace q := get_set q; rcases q with ⟨rfl, q⟩ | ⟨n, q⟩
    · cases q; exact ⟨v, List.getElem?_set_self hl, h⟩
    · rw [List.getElem?_set_ne n]; exact r.vx j y q
  · replace q := get_set q; rcases q with ⟨rfl, q⟩ | ⟨n, q⟩
    · cases q; exact absurd rfl (hx kvs)
    · exact (r.od j kvs q).keep (List.getElem?_set_ne n) (Same.refl _) fun a o e1 _ e2 => ⟨e1, e2⟩
  · replace q1 := get_set q1; rcases q1 with ⟨rfl, q1⟩ | ⟨n, q1⟩
    · cases q1; exact absurd rfl (hx kvs)
    replace q2 := get_set q2; rcases q2 with ⟨rfl, q2⟩ | ⟨m, q2⟩
    · cases q2; exact absurd rfl (hx kws)
    rw [List.getElem?_set_ne n] at q3
    rw [List.getElem?_set_ne m] at q4
    exact r.oa j k kvs kws a q1 q2 q3 q4
/-- a slot takes a new dict as its own -/
theorem Rel.setD (r : Rel K F ς G σ H) {i : Nat} {a : Addr} {o : HO} {kvs : List (D × D)} (hf : free ς i = true) (h1 : H a = some o) (h2 : DcAt K G o kvs) (h3 : G a = none) (h4 : F.H0 a = none) (h5 : ∀ (j : Nat) kws, ς[j]? = some (some (.vx (.odc kws))) → σ[j]? ≠ some (some (.ref a))) :
    Rel K F (ς.set i (some (.vx (.odc kvs)))) G (σ.set i (some (.ref a))) H := by
  have r1 := r.setN (o := some (.ref a)) hf
  have hl : i < σ.length := by rw [r.len]; exact free_lt hf
  have old : ∀ (j : Nat) (s : S), (∀ y, s ≠ .vx y) → (ς.set i (some (.vx (.odc kvs))))[j]? = some (some s) → (ς.set i none)[j]? = some (some s) := fun j s ns q => by
    replace q := get_set q; rcases q with ⟨rfl, q⟩ | ⟨n, q⟩
    · cases q; exact absurd rfl (ns _)
    · rw [List.getElem?_set_ne n]; exact q
  have no1 : ∀ d y, S.pure d ≠ .vx y := fun d y z => by cases z
  have no2 : ∀ b ds y, S.own b ds ≠ .vx y := fun b ds y z => by cases z
  refine ⟨by rw [List.length_set, List.length_set, r.len], r.sub, r.g0, fun j d q => r1.pu j d (old j _ (no1 d) q), fun j b ds q => r1.ow j b ds (old j _ (no2 b ds) q), fun j k b c ds es a q1 q2 => r1.ap j k b c ds es a (old j _ (no2 b ds) q1) (old k _ (no2 c es) q2), fun j a q => ?_, r.fr, r.nw, fun j y q => ?_, fun j kws q => ?_, fun j k kws kxs c q1 q2 q3 q4 => ?_⟩
  · obtain ⟨ds, e⟩ := r.par j a q
    have n : i ≠ j := fun z => by subst z; exact free_no hf e
    exact ⟨ds, by rw [List.getElem?_set_ne n]; exact e⟩
  · replace q := get_set q; rcases q with ⟨rfl, q⟩ | ⟨n, q⟩
    · cases q; exact ⟨_, List.getElem?_set_self hl, trivial⟩
    · rw [List.getElem?_set_ne n]; exact r.vx j y q
  · replace q := get_set q; rcases q with ⟨rfl, q⟩ | ⟨n, q⟩
    · cases q; exact ⟨a, o, List.getElem?_set_self hl, h1, h2, h3, h4⟩
    · exact (r.od j kws q).keep (List.getElem?_set_ne n) (Same.refl _) fun a o e1 _ e2 => ⟨e1, e2⟩
  · replace q1 := get_set q1; rcases q1 with ⟨rfl, q1⟩ | ⟨n, q1⟩
    · replace q2 := get_set q2; rcases q2 with ⟨rfl, q2⟩ | ⟨m, q2⟩
      · rfl
      · rw [List.getElem?_set_self hl] at q3; cases q3
        rw [List.getElem?_set_ne m] at q4
        exact absurd q4 (h5 k kxs q2)
    · replace q2 := get_set q2; rcases q2 with ⟨rfl, q2⟩ | ⟨m, q2⟩
      · rw [List.getElem?_set_self hl] at q4; cases q4
        rw [List.getElem?_set_ne n] at q3
        exact absurd q3 (h5 j kws q1)
      · rw [List.getElem?_set_ne n] at q3
        rw [List.getElem?_set_ne m] at q4
        exact r.oa j k kws kxs c q1 q2 q3 q4
/-- an own dict is changed -/
theorem Rel.mutD (r : Rel K F ς G σ H) {i : Nat} {a : Addr} {o' : HO} {kvs kws : List (D × D)} (hi : ς[i]? = some (some (.vx (.odc kvs)))) (ha : σ[i]? = some (some (.ref a))) (h : DcAt K G o' kws) :
    Rel K F (ς.set i (some (.vx (.odc kws)))) G σ (upd H a o') := by
  obtain ⟨a', o, e1, e2, e3, e4, e5⟩ := r.od i kvs hi
  rw [ha] at e1; cases e1
  have il : i < ς.length := (List.getElem?_eq_some_iff.mp hi).1
  refine ⟨by rw [List.length_set, r.len], ?_, r.g0, ?_, ?_, ?_, ?_, ?_, r.nw, fun j x q => ?_, fun j kxs q => ?_, fun j k kxs kys c q1 q2 q3 q4 => ?_⟩
  · intro c o q
    have : c ≠ a := ne_of_none q e4
    rw [upd_ne this]; exact r.sub _ _ q
  · intro j d q
    replace q := get_set q; rcases q with ⟨rfl, q⟩ | ⟨n, q⟩
    · cases q
    · exact r.pu j d q
  · intro j c fs q
    replace q := get_set q; rcases q with ⟨rfl, q⟩ | ⟨n, q⟩
    · cases q
    · obtain ⟨x, xs, f1, f2, f3, f4, f5⟩ := r.ow j c fs q
      have ne : x ≠ a := fun z => by subst z; rw [e2] at f2; cases f2; exact DcAt.lst e3
      exact ⟨x, xs, f1, by rw [upd_ne ne]; exact f2, f3, f4, f5⟩
  · intro j k c d fs gs x q1 q2 q3 q4
    replace q1 := get_set q1; rcases q1 with ⟨rfl, q1⟩ | ⟨n, q1⟩
    · cases q1
    replace q2 := get_set q2; rcases q2 with ⟨rfl, q2⟩ | ⟨m, q2⟩
    · cases q2
    exact r.ap j k c d fs gs x q1 q2 q3 q4
  · intro j x q
    obtain ⟨fs, q2⟩ := r.par j x q
    have n : i ≠ j := fun z => by subst z; rw [hi] at q2; cases q2
    exact ⟨fs, by rw [List.getElem?_set_ne n]; exact q2⟩
  · intro x o q na
    have hx := r.fr x o q na
    have ne : x ≠ a := fun z => by subst z; rw [e5] at q; cases q
    rw [upd_ne ne]; exact hx
  · replace q := get_set q; rcases q with ⟨rfl, q⟩ | ⟨n, q⟩
    · cases q; exact ⟨_, ha, trivial⟩
    · exact r.vx j x q
  · replace q := get_set q; rcases q with ⟨rfl, q⟩ | ⟨n, q⟩
    · cases q; exact ⟨a, o', ha, upd_same, h, e4, e5⟩
    · obtain ⟨b, ob, f1, f2, f3, f4, f5⟩ := r.od j kxs q
      have ne : b ≠ a := fun z => by subst z; exact n (r.oa i j kvs kxs b hi q ha f1)
      exact ⟨b, ob, f1, by rw [upd_ne ne]; exact f2, f3, f4, f5⟩
  · replace q1 := get_set q1; rcases q1 with ⟨rfl, q1⟩ | ⟨n, q1⟩
    · replace q2 := get_set q2; rcases q2 with ⟨rfl, q2⟩ | ⟨m, q2⟩
      · rfl
      · exact r.oa i k kvs kys c hi q2 q3 q4
    · replace q2 := get_set q2; rcases q2 with ⟨rfl, q2⟩ | ⟨m, q2⟩
      · exact r.oa j i kxs kvs c q1 hi q3 q4
      · exact r.oa j k kxs kys c q1 q2 q3 q4
/-- an own dict is frozen -/
theorem Rel.frzD (r : Rel K F ς G σ H) {i : Nat} {kvs : List (D × D)} (hi : ς[i]? = some (some (.vx (.odc kvs)))) :
    ∃ G' a, Rel K F (ς.set i (some (.vx (.dct kvs)))) G' σ H ∧ Same G G' ∧ σ[i]? = some (some (.ref a)) ∧ Xp K G' (.ref a) (.dct kvs) := by
  obtain ⟨a, o, e1, e2, e3, e4, e5⟩ := r.od i kvs hi
  have hxp : Xp K (upd G a o) (.ref a) (.dct kvs) := ⟨a, o, rfl, upd_same, dc_same (same_upd e4) e3⟩
  refine ⟨upd G a o, a, ⟨by rw [List.length_set, r.len], ?_, r.g0.trans (same_upd e4), ?_, ?_, ?_, ?_, r.fr, ?_, fun j x q => ?_, fun j kws q => ?_, fun j k kxs kys c q1 q2 q3 q4 => ?_⟩, same_upd e4, e1, hxp⟩
  · intro b x e
    by_cases hb : b = a
    · subst hb; rw [upd_same] at e; rw [e2, e]
    · rw [upd_ne hb] at e; exact r.sub _ _ e
  · intro j d q
    replace q := get_set q; rcases q with ⟨rfl, q⟩ | ⟨n, q⟩
    · cases q
    · obtain ⟨v, f1, f2⟩ := r.pu j d q
      exact ⟨v, f1, dp_same (same_upd e4) f2⟩
  · intro j c fs q
    replace q := get_set q; rcases q with ⟨rfl, q⟩ | ⟨n, q⟩
    · cases q
    · obtain ⟨x, xs, f1, f2, f3, f4, f5⟩ := r.ow j c fs q
      have ne : x ≠ a := fun z => by subst z; rw [e2] at f2; cases f2; exact DcAt.lst e3
      exact ⟨x, xs, f1, f2, by rw [upd_ne ne]; exact f3, dpa_same (same_upd e4) f4, f5⟩
  · intro j k c d fs gs x q1 q2 q3 q4
    replace q1 := get_set q1; rcases q1 with ⟨rfl, q1⟩ | ⟨n, q1⟩
    · cases q1
    replace q2 := get_set q2; rcases q2 with ⟨rfl, q2⟩ | ⟨m, q2⟩
    · cases q2
    exact r.ap j k c d fs gs x q1 q2 q3 q4
  · intro j x q
    obtain ⟨fs, q2⟩ := r.par j x q
    have n : i ≠ j := fun z => by subst z; rw [hi] at q2; cases q2
    exact ⟨fs, by rw [List.getElem?_set_ne n]; exact q2⟩
  · intro c e
    by_cases hc : c = a
    · subst hc; exact .inr e5
    · rw [upd_ne hc] at e; exact r.nw c e
  · replace q := get_set q; rcases q with ⟨rfl, q⟩ | ⟨n, q⟩
    · cases q; exact ⟨_, e1, hxp⟩
    · obtain ⟨u, f1, f2⟩ := r.vx j x q
      exact ⟨u, f1, xp_same (same_upd e4) f2⟩
  · replace q := get_set q; rcases q with ⟨rfl, q⟩ | ⟨n, q⟩
    · cases q
    · obtain ⟨b, ob, f1, f2, f3, f4, f5⟩ := r.od j kws q
      have ne : b ≠ a := fun z => by subst z; exact n (r.oa i j kvs kws b hi q e1 f1)
      exact ⟨b, ob, f1, f2, dc_same (same_upd e4) f3, by rw [upd_ne ne]; exact f4, f5⟩
  · replace q1 := get_set q1; rcases q1 with ⟨rfl, q1⟩ | ⟨n, q1⟩
    · cases q1
    replace q2 := get_set q2; rcases q2 with ⟨rfl, q2⟩ | ⟨m, q2⟩
    · cases q2
    exact r.oa j k kxs kys c q1 q2 q3 q4
end
/-! ### readings -/
def toD : R → M D
  | .pure d => fun ς => some (d, ς)
  | .fresh ds => fun ς => some (.list ds, ς)
  | .ref i => fun ς => match ς[i]? with
    | some (some (.own false ds)) => some (.list ds, ς.set i (some (.pure (.list ds))))
    | some (some (.pure d)) => some (d, ς)
    | _ => none
  | .vx _ => fun _ => none
def rdD : R → En → Option D
  | .vx _, _ => none
  | .pure d, _ => some d
  | .fresh ds, _ => some (.list ds)
  | .ref i, ς => match ς[i]? with
    | some (some (.own _ ds)) => some (.list ds)
    | some (some (.pure d)) => some d
    | _ => none
/-- what may be read at v: a datum, or a list whose items are data -/
def RdV (K : PySem.W.Frag) (G H : Hp) (v : V) (d : D) : Prop :=
  Dp K G v d ∨ ∃ a vs ds, v = .ref a ∧ d = .list ds ∧ H a = some (.lst vs) ∧ DpAll K G vs ds
section
variable {K : PySem.W.Frag} {F : Fx} {ς ς' : En} {G H : Hp} {σ : L2.St}
theorem toD_ok (r : Rel K F ς G σ H) {x : R} {v : V} {d : D} (h : RepR K F ς G σ H x v) (e : toD x ς = some (d, ς')) : ∃ G', Rel K F ς' G' σ H ∧ Same G G' ∧ Dp K G' v d := by
  cases x with
  | pure d' => cases e; exact ⟨G, r, Same.refl _, h⟩
  | vx x => cases e
  | fresh ds => cases e; exact r.frzF h
  | ref i =>
    unfold toD at e
    simp only at e
    split at e
    · rename_i ds q
      cases e
      obtain ⟨G', w, h1, h2, h3, h4⟩ := r.frzO q
      rw [show σ[i]? = some (some v) from h] at h3
      cases h3
      exact ⟨G', h1, h2, h4⟩
    · rename_i d' q
      cases e
      obtain ⟨w, h1, h2⟩ := r.pu i _ q
      rw [show σ[i]? = some (some v) from h] at h1
      cases h1
      exact ⟨G, r, Same.refl _, h2⟩
    · cases e
theorem rdD_ok (r : Rel K F ς G σ H) {x : R} {v : V} {d : D} (h : RepR K F ς G σ H x v) (e : rdD x ς = some d) : RdV K G H v d := by
  cases x with
  | pure d' => cases e; exact .inl h
  | fresh ds =>
    cases e
    obtain ⟨a, vs, rfl, h1, h2, h3, _⟩ := h
    exact .inr ⟨a, vs, ds, rfl, rfl, h1, h3⟩
  | vx x => cases e
  | ref i =>
    unfold rdD at e
    simp only at e
    split at e
    · rename_i b ds q
      cases e
      obtain ⟨a, vs, e1, e2, e3, e4, _⟩ := r.ow i _ _ q
      rw [show σ[i]? = some (some v) from h] at e1
      cases e1
      exact .inr ⟨a, vs, ds, rfl, rfl, e2, e4⟩
    · rename_i d' q
      cases e
      obtain ⟨w, h1, h2⟩ := r.pu i _ q
      rw [show σ[i]? = some (some v) from h] at h1
      cases h1
      exact .inl h2
    · cases e
theorem RdV.dp (r : Same G H) {v : V} {d : D} (h : RdV K G H v d) : Dp K H v d := by
  rcases h with h | ⟨a, vs, ds, rfl, rfl, h1, h2⟩
  · exact dp_same r h
  · exact .lst (.inl (.inl h1)) (dpa_same r h2)
theorem RdV.list (r : Same G H) {v : V} {ds : List D} (h : RdV K G H v (.list ds)) : ∃ a vs, v = .ref a ∧ SqL K H a vs ∧ DpAll K G vs ds := by
  rcases h with h | ⟨a, vs, ds', rfl, e, h1, h2⟩
  · obtain ⟨a, vs, rfl, h1, h2⟩ := dp_list h
    exact ⟨a, vs, rfl, r.seq h1, h2⟩
  · cases e; exact ⟨a, vs, rfl, .inl (.inl h1), h2⟩
theorem RdV.tuple (r : Same G H) {v : V} {ds : List D} (h : RdV K G H v (.tuple ds)) : ∃ a vs, v = .ref a ∧ SqT K H a vs ∧ DpAll K G vs ds := by
  rcases h with h | ⟨a, vs, ds', rfl, e, h1, h2⟩
  · obtain ⟨a, vs, rfl, h1, h2⟩ := dp_tuple h
    exact ⟨a, vs, rfl, same_seqT r h1, h2⟩
  · cases e
theorem RdV.int {v : V} {i : Int} (h : RdV K G H v (.int i)) : v = .int i := by
  rcases h with h | ⟨a, vs, ds', rfl, e, h1, h2⟩
  · exact dp_int h
  · cases e
theorem RdV.str {v : V} {i : Str} (h : RdV K G H v (.str i)) : v = .str i := by
  rcases h with h | ⟨a, vs, ds', rfl, e, h1, h2⟩
  · exact dp_str h
  · cases e
theorem RdV.bool {v : V} {i : Bool} (h : RdV K G H v (.bool i)) : v = .bl i := by
  rcases h with h | ⟨a, vs, ds', rfl, e, h1, h2⟩
  · exact dp_bool h
  · cases e
theorem RdV.none {v : V} (h : RdV K G H v .none) : v = .non := by
  rcases h with h | ⟨a, vs, ds', rfl, e, h1, h2⟩
  · exact dp_none h
  · cases e
/-- what stays readable while data grow: a datum, or a slot -/
theorem rep_keep {G' H' : Hp} {x : R} {v : V} (h : RepR K F ς G σ H x v) (hx : ∀ ds, x ≠ .fresh ds) (e : Same G G') : RepR K F ς' G' σ H' x v := by
  cases x with
  | pure d => exact dp_same e h
  | ref i => exact h
  | fresh ds => exact absurd rfl (hx ds)
  | vx x => exact ⟨h.1, xp_same e h.2⟩
end
end Lw
namespace Lw
open PySem PySem.Spec PyProof.Rows L2
/-! ### programs over the state -/
def ret {α : Type} (a : α) : M α := fun ς => some (a, ς)
def bd {α β : Type} (f : M α) (g : α → M β) : M β := fun ς => match f ς with
  | some (a, ς') => g a ς'
  | none => none
def lift {α : Type} (o : Option α) : M α := fun ς => match o with
  | some a => some (a, ς)
  | none => none
def rd (r : R) : M D := fun ς => match rdD r ς with
  | some d => some (d, ς)
  | none => none
def sub (f : M R) : M R := bd f fun r => match r with
  | .fresh ds => ret (.pure (.list ds))
  | r => ret r
def esc (f : M R) : M D := bd f toD
theorem bd_some {α β : Type} {f : M α} {g : α → M β} {ς : En} {x : β × En} (h : bd f g ς = some x) : ∃ a ς1, f ς = some (a, ς1) ∧ g a ς1 = some x := by
  unfold bd at h
  split at h
  · rename_i a ς1 e; exact ⟨a, ς1, e, h⟩
  · cases h
theorem lift_some {α : Type} {o : Option α} {ς ς' : En} {x : α} (h : lift o ς = some (x, ς')) : o = some x ∧ ς' = ς := by
  unfold lift at h
  split at h
  · cases h; exact ⟨rfl, rfl⟩
  · cases h
theorem rd_some {r : R} {ς ς' : En} {x : D} (h : rd r ς = some (x, ς')) : rdD r ς = some x ∧ ς' = ς := by
  unfold rd at h
  split at h
  · rename_i d e; cases h; exact ⟨e, rfl⟩
  · cases h
theorem sub_nf {f : M R} {ς ς' : En} {r : R} (h : sub f ς = some (r, ς')) : ∀ ds, r ≠ .fresh ds := by
  obtain ⟨a, ς1, _, h⟩ := bd_some h
  intro ds e
  subst e
  cases a <;> cases h
/-! ### readings by such programs -/
section
variable (K : PySem.W.Frag) (F : Fx)
def tEv (f : M R) : TE := fun σ H Q => ∃ ς G, Rel K F ς G σ H ∧ ∃ r ς', f ς = some (r, ς') ∧ ∀ v H' G', Rel K F ς' G' σ H' → Same G G' → RepR K F ς' G' σ H' r v → Q v H'
def tEvD (f : M D) : TE := fun σ H Q => ∃ ς G, Rel K F ς G σ H ∧ ∃ d ς', f ς = some (d, ς') ∧ ∀ v H' G', Rel K F ς' G' σ H' → Same G G' → Dp K G' v d → Q v H'
def tEvT (f : M Bool) : TT := fun σ H Q => ∃ ς G, Rel K F ς G σ H ∧ ∃ b ς', f ς = some (b, ς') ∧ ∀ H' G', Rel K F ς' G' σ H' → Same G G' → Q b H'
inductive Ar where
  | val (d : D)
  | ref (i : Nat)
def RepAr (G : Hp) (σ : L2.St) : Ar → V → Prop
  | .val d, v => Dp K G v d
  | .ref i, v => σ[i]? = some (some v)
def tEvA (f : M (List Ar)) : TA := fun σ H Q => ∃ ς G, Rel K F ς G σ H ∧ ∃ as ς', f ς = some (as, ς') ∧ ∀ vs H' G', Rel K F ς' G' σ H' → Same G G' → Paired (RepAr K G' σ) as vs → Q vs H'
end
theorem _root_.L2.PE.mono {X : Cx} {e : Expr} {t t' : TE} (h : PE X e t) (k : ∀ σ H Q, t' σ H Q → t σ H Q) : PE X e t' := ⟨fun pins s σ H Q I hw => h.run pins s σ H Q I (k σ H Q hw)⟩
theorem _root_.L2.PT.mono {X : Cx} {e : Expr} {t t' : TT} (h : PT X e t) (k : ∀ σ H Q, t' σ H Q → t σ H Q) : PT X e t' := ⟨fun pins s σ H Q I hw => h.run pins s σ H Q I (k σ H Q hw)⟩
theorem _root_.L2.PW.mono {X : Cx} {e : Expr} {t t' : TT} (h : PW X e t) (k : ∀ σ H Q, t' σ H Q → t σ H Q) : PW X e t' := ⟨fun w pins s σ H Q I hw => h.run w pins s σ H Q I (k σ H Q hw)⟩
theorem _root_.L2.PA.mono {X : Cx} {e : List Expr} {t t' : TA} (h : PA X e t) (k : ∀ σ H Q, t' σ H Q → t σ H Q) : PA X e t' := ⟨fun p pins s σ H Q I hw => h.run p pins s σ H Q I (k σ H Q hw)⟩
theorem _root_.L2.PS.mono {X : Cx} {e : Stmt} {t t' : TS} (h : PS X e t) (k : ∀ D σ H, t' D σ H → t D σ H) : PS X e t' := ⟨fun pins s σ H D I hw => h.run pins s σ H D I (k D σ H hw)⟩
theorem _root_.L2.PSs.mono {X : Cx} {e : List Stmt} {t t' : TS} (h : PSs X e t) (k : ∀ D σ H, t' D σ H → t D σ H) : PSs X e t' := ⟨fun pins s σ H D I hw => h.run pins s σ H D I (k D σ H hw)⟩
abbrev PEd (X : Cx) (e : Expr) (f : M R) : Prop := ∀ F : Fx, PE X e (tEv X.K F f)
abbrev PDd (X : Cx) (e : Expr) (f : M D) : Prop := ∀ F : Fx, PE X e (tEvD X.K F f)
abbrev PTd (X : Cx) (e : Expr) (f : M Bool) : Prop := ∀ F : Fx, PT X e (tEvT X.K F f)
abbrev PWd (X : Cx) (e : Expr) (f : M Bool) : Prop := ∀ F : Fx, PW X e (tEvT X.K F f)
abbrev PAd (X : Cx) (es : List Expr) (f : M (List Ar)) : Prop := ∀ F : Fx, PA X es (tEvA X.K F f)
section
variable {X : Cx} {F : Fx} {a b c e : Expr} {es : List Expr} {fa fb fc f : M R} {pos : Pos}
def vr (i : Nat) : M R := fun ς => match ς[i]? with
  | some (some (.pure d)) => some (.pure d, ς)
  | some (some (.own _ _)) => some (.ref i, ς)
  | some (some (.vx _)) => some (.ref i, ς)
  | _ => none
theorem d_var (i : Nat) {x : Str} (h : PE X (.Name x pos) (tVar i)) : PEd X (.Name x pos) (vr i) := fun F => h.mono fun σ H Q hq => by
  obtain ⟨ς, G, rl, r, ς', e, k⟩ := hq
  unfold vr at e
  split at e
  · rename_i d q
    cases e
    obtain ⟨v, h1, h2⟩ := rl.pu i d q
    exact ⟨v, h1, k v H G rl (Same.refl _) h2⟩
  · rename_i b ds q
    cases e
    obtain ⟨a, vs, h1, _⟩ := rl.ow i b ds q
    exact ⟨_, h1, k _ H G rl (Same.refl _) h1⟩
  · rename_i x q
    cases e
    obtain ⟨v, h1, h2⟩ := rl.vx i _ q
    exact ⟨v, h1, k v H G rl (Same.refl _) h1⟩
  · cases e
def cn (d : D) : M R := ret (.pure d)
theorem d_cn {v : V} {d : D} (h : PE X e (tC v)) (hd : ∀ G, Dp X.K G v d) : PEd X e (cn d) := fun F => h.mono fun σ H Q hq => by
  obtain ⟨ς, G, rl, r, ς', e, k⟩ := hq
  cases e
  exact k v H G rl (Same.refl _) (hd G)
theorem d_int {i : Int} {j : Nat} : PEd X (.Constant (.int i) j pos) (cn (.int i)) := d_cn pe_int fun _ => .int i
theorem d_str {x : Str} {j : Nat} : PEd X (.Constant (.str x) j pos) (cn (.str x)) := d_cn pe_str fun _ => .str x
theorem d_bl {x : Bool} {j : Nat} : PEd X (.Constant (.bool x) j pos) (cn (.bool x)) := d_cn pe_bl fun _ => .bl x
theorem d_non {j : Nat} : PEd X (.Constant .none j pos) (cn .none) := d_cn pe_non fun _ => .non
theorem d_gstr {x : Str} {z : Str} (h : PE X (.Name x pos) (tC (.str z))) : PEd X (.Name x pos) (cn (.str z)) := d_cn h fun _ => .str z
theorem d_sub (h : PEd X e f) : PEd X e (sub f) := fun F => (h F).mono fun σ H Q hq => by
  obtain ⟨ς, G, rl, r, ς', e, k⟩ := hq
  obtain ⟨r1, ς1, e1, e2⟩ := bd_some e
  refine ⟨ς, G, rl, r1, ς1, e1, fun v H' G' rl' s rep => ?_⟩
  cases r1 with
  | pure d => cases e2; exact k v H' G' rl' s rep
  | ref i => cases e2; exact k v H' G' rl' s rep
  | vx x => cases e2; exact k v H' G' rl' s rep
  | fresh ds =>
    cases e2
    obtain ⟨G2, rl2, s2, dp⟩ := rl'.frzF rep
    exact k v H' G2 rl2 (s.trans s2) dp
theorem d_esc (h : PEd X e f) : PDd X e (esc f) := fun F => (h F).mono fun σ H Q hq => by
  obtain ⟨ς, G, rl, d, ς', e, k⟩ := hq
  obtain ⟨r1, ς1, e1, e2⟩ := bd_some e
  refine ⟨ς, G, rl, r1, ς1, e1, fun v H' G' rl' s rep => ?_⟩
  obtain ⟨G2, rl2, s2, dp⟩ := toD_ok rl' rep e2
  exact k v H' G2 rl2 (s.trans s2) dp
/-! ### operators on data -/
structure Op2 (X : Cx) (F : Fx) (r2 : R2) (g : D → D → Option R) : Prop where
  run : ∀ (ς : En) (G : Hp) (σ : L2.St) (H : Hp) (x y : V) (dx dy : D) (r : R) (Q : VK), Rel X.K F ς G σ H → RdV X.K G H x dx → RdV X.K G H y dy → g dx dy = some r →
    (∀ v H' G', Rel X.K F ς G' σ H' → Same G G' → RepR X.K F ς G' σ H' r v → Q v H') → r2 x y H Q
def op2 (g : D → D → Option R) (fa fb : M R) : M R := bd (sub fa) fun a => bd (sub fb) fun b => bd (rd a) fun x => bd (rd b) fun y => lift (g x y)
theorem t_op2 {r2 : R2} {g : D → D → Option R} (o : Op2 X F r2 g) : ∀ σ H Q, tEv X.K F (op2 g fa fb) σ H Q → tOp r2 (tEv X.K F (sub fa)) (tEv X.K F (sub fb)) σ H Q := fun σ H Q hq => by
  obtain ⟨ς, G, rl, r, ς', e, k⟩ := hq
  obtain ⟨a, ς1, e1, q1⟩ := bd_some e
  obtain ⟨b, ς2, e2, q2⟩ := bd_some q1
  obtain ⟨x, ς3, e3', q3⟩ := bd_some q2
  obtain ⟨e3, rfl⟩ := rd_some e3'
  obtain ⟨y, ς4, e4', q4⟩ := bd_some q3
  obtain ⟨e4, rfl⟩ := rd_some e4'
  obtain ⟨e5, rfl⟩ := lift_some q4
  refine ⟨ς, G, rl, a, ς1, e1, fun v H1 G1 rl1 s1 rep1 => ⟨ς1, G1, rl1, b, ς', e2, fun w H2 G2 rl2 s2 rep2 => ?_⟩⟩
  have rep1' : RepR X.K F ς' G2 σ H2 a v := rep_keep rep1 (sub_nf e1) s2
  exact o.run ς' G2 σ H2 v w x y r Q rl2 (rdD_ok rl2 rep1' e3) (rdD_ok rl2 rep2 e4) e5 fun u H' G' rl' s rep => k u H' G' rl' (s1.trans (s2.trans s)) rep
theorem d_op {op : Operator} {r2 : R2} {g : D → D → Option R} (ho : OpR X (binaryOp op) r2) (o : ∀ F, Op2 X F r2 g) (ha : PEd X a fa) (hb : PEd X b fb) : PEd X (.BinOp a op b pos) (op2 g fa fb) :=
  fun F => PE.mono (pe_op ho (d_sub ha F) (d_sub hb F)) (t_op2 (o F))
theorem d_cmp {op : CmpOp} {r2 : R2} {g : D → D → Option R} (ho : OpR X (compareOp op) r2) (o : ∀ F, Op2 X F r2 g) (ha : PEd X a fa) (hb : PEd X b fb) (hm : behindInMarks op b = false) : PEd X (.Compare a [op] [b] pos) (op2 g fa fb) :=
  fun F => PE.mono (pe_cmpR ho (d_sub ha F) (d_sub hb F) hm) (t_op2 (o F))
/-- ints -/
def gI (C : Int → Int → Bool) (h : Int → Int → D) : D → D → Option R
  | .int i, .int j => if C i j then some (.pure (h i j)) else none
  | _, _ => none
def gI0 (h : Int → Int → D) : D → D → Option R
  | .int i, .int j => some (.pure (h i j))
  | _, _ => none
theorem op2_I {C : Int → Int → Prop} {c : Int → Int → Bool} {g : Int → Int → V} {h : Int → Int → D} (hc : ∀ i j, c i j = true → C i j) (hg : ∀ i j G, Dp X.K G (g i j) (h i j)) : Op2 X F (rI C g) (gI c h) := ⟨fun ς G σ H x y dx dy r Q rl hx hy e k => by
  cases dx with
  | int i =>
    cases dy with
    | int j =>
      replace e : (if c i j = true then some (R.pure (h i j)) else none) = some r := e
      by_cases q : c i j = true
      · rw [if_pos q] at e
        cases e
        exact ⟨i, j, hx.int, hy.int, hc i j q, k _ H G rl (Same.refl _) (hg i j G)⟩
      · rw [if_neg q] at e; cases e
    | _ => cases e
  | _ => cases e⟩
theorem op2_I0 {g : Int → Int → V} {h : Int → Int → D} (hg : ∀ i j G, Dp X.K G (g i j) (h i j)) : Op2 X F (rI0 g) (gI0 h) := ⟨fun ς G σ H x y dx dy r Q rl hx hy e k => by
  cases dx with
  | int i =>
    cases dy with
    | int j =>
      cases e
      exact ⟨i, j, hx.int, hy.int, k _ H G rl (Same.refl _) (hg i j G)⟩
    | _ => cases e
  | _ => cases e⟩
def orG (g g' : D → D → Option R) (x y : D) : Option R := match g x y with
  | some z => some z
  | none => g' x y
theorem Op2.or {r r' : R2} {g g' : D → D → Option R} (h : Op2 X F r g) (h' : Op2 X F r' g') : Op2 X F (fun x y H Q => r x y H Q ∨ r' x y H Q) (orG g g') := ⟨fun ς G σ H x y dx dy r Q rl hx hy e k => by
  unfold orG at e
  split at e
  · rename_i z q
    cases e
    exact .inl (h.run ς G σ H x y dx dy _ Q rl hx hy q k)
  · exact .inr (h'.run ς G σ H x y dx dy _ Q rl hx hy e k)⟩
theorem op2_sub : Op2 X F (rI0 fun i j => .int (i - j)) (gI0 fun i j => .int (i - j)) := op2_I0 fun _ _ _ => .int _
theorem op2_lt : Op2 X F (rI0 fun i j => .bl (decide (i < j))) (gI0 fun i j => .bool (decide (i < j))) := op2_I0 fun _ _ _ => .bl _
theorem op2_le : Op2 X F (rI0 fun i j => .bl (decide (i ≤ j))) (gI0 fun i j => .bool (decide (i ≤ j))) := op2_I0 fun _ _ _ => .bl _
theorem op2_gt : Op2 X F (rI0 fun i j => .bl (decide (j < i))) (gI0 fun i j => .bool (decide (j < i))) := op2_I0 fun _ _ _ => .bl _
theorem op2_ge : Op2 X F (rI0 fun i j => .bl (decide (j ≤ i))) (gI0 fun i j => .bool (decide (j ≤ i))) := op2_I0 fun _ _ _ => .bl _
def cMul (i j : Int) : Bool := (decide (-(2 ^ 64) < i) && decide (i < 2 ^ 64)) || (decide (-(2 ^ 64) < j) && decide (j < 2 ^ 64))
theorem op2_mulI : Op2 X F (rI CMul fun i j => .int (i * j)) (gI cMul fun i j => .int (i * j)) := op2_I (fun i j h => by
  unfold cMul at h
  simp only [Bool.or_eq_true, Bool.and_eq_true, decide_eq_true_eq] at h
  exact h) fun _ _ _ => .int _
def cDiv (_ j : Int) : Bool := decide (0 < j) && decide (j < 2 ^ 200)
theorem op2_fdiv : Op2 X F (rI CDivW fun i j => .int (i / j)) (gI cDiv fun i j => .int (i / j)) := op2_I (fun i j h => by
  unfold cDiv at h
  simp only [Bool.and_eq_true, decide_eq_true_eq] at h
  refine wide_div (b := 200) h.1 ?_ (by decide) (by decide)
  have h2 : j.toNat < 2 ^ 200 := by
    have := Int.toNat_lt (n := 2 ^ 200) (by omega : 0 ≤ j)
    rw [this]
    exact_mod_cast h.2
  omega) fun _ _ _ => .int _
theorem op2_mod : Op2 X F (rI (fun _ j => 0 < j) fun i j => .int (i % j)) (gI (fun _ j => decide (0 < j)) fun i j => .int (i % j)) := op2_I (fun i j h => of_decide_eq_true h) fun _ _ _ => .int _
def cPow (i j : Int) : Bool := decide (0 ≤ j) && decide (j ≤ 1000000) && decide (i.natAbs < 2 ^ 64)
theorem op2_pow : Op2 X F (rI CPow fun i j => .int (i ^ j.toNat)) (gI cPow fun i j => .int (i ^ j.toNat)) := op2_I (fun i j h => by
  unfold cPow at h
  simp only [Bool.and_eq_true, decide_eq_true_eq] at h
  exact ⟨h.1.1, h.1.2, h.2⟩) fun _ _ _ => .int _
end
end Lw
namespace Lw
open PySem PySem.Spec PyProof.Rows L2
section
variable {X : Cx} {F : Fx} {a b c e : Expr} {es : List Expr} {fa fb fc f : M R} {pos : Pos}
/-! ### + on texts, lists, tuples -/
def rCatL (K : PySem.W.Frag) : R2 := fun x y H Q => ∃ l b xs zs, x = .ref l ∧ y = .ref b ∧ SqL K H l xs ∧ SqL K H b zs ∧ xs.length + zs.length ≤ sizeLine ∧ ∀ p, H p = none → Q (.ref p) (upd H p (.lst (xs ++ zs)))
theorem op_catL : OpR X (binaryOp .Add) (rCatL X.K) := by
  intro pins s σ H x y v u Q I rx ry h
  obtain ⟨l, b, xs, zs, rfl, rfl, hH, hB, hz, q⟩ := h
  cases rx
  cases ry
  obtain ⟨its, r, pl, _⟩ := I.list hH
  obtain ⟨its2, r2, pl2, _⟩ := I.list hB
  obtain ⟨⟨cls, dd, data, sl⟩, ho, hc, n, hd⟩ := pl.isList
  obtain ⟨⟨cls2, dd2, data2, sl2⟩, ho2, hc2, n2, hd2⟩ := pl2.isList
  simp only at hc hd hc2 hd2
  subst hc hd hc2 hd2
  have e : its.toArray ++ its2.toArray = (its ++ its2).toArray := by simp
  have hl := r.length
  have hl2 := r2.length
  refine concat_meets ⟨_, ho, rfl⟩ ⟨_, ho2, rfl⟩ noFill_list_add seq_list_add PySem.F.slot_list_add PySem.F.entry_list_add (PySem.F.args_list_add_2 _ _) (list_addW l b its.toArray its2.toArray n n2 dd dd2 sl sl2 (by rw [List.size_toArray, List.size_toArray]; omega)) ⟨ho, ho2, ?_⟩
  rw [e]
  exact ⟨.ref _, _, I.lnew (t' := s.toks) (r.append r2) (by rw [List.length_append]; omega), rfl, q _ I.fresh⟩
def gStr : D → D → Option R
  | .str x, .str y => if x.length + y.length ≤ sizeLine then some (.pure (.str (x ++ y))) else none
  | _, _ => none
theorem op2_str : Op2 X F (fun x y H Q => ∃ i j, x = .str i ∧ y = .str j ∧ i.length + j.length ≤ sizeLine ∧ Q (.str (i ++ j)) H) gStr := ⟨fun ς G σ H x y dx dy r Q rl hx hy e k => by
  cases dx with
  | str i =>
    cases dy with
    | str j =>
      replace e : (if i.length + j.length ≤ sizeLine then some (R.pure (.str (i ++ j))) else none) = some r := e
      by_cases q : i.length + j.length ≤ sizeLine
      · rw [if_pos q] at e
        cases e
        exact ⟨i, j, hx.str, hy.str, q, k _ H G rl (Same.refl _) (.str _)⟩
      · rw [if_neg q] at e; cases e
    | _ => cases e
  | _ => cases e⟩
def gCatL : D → D → Option R
  | .list x, .list y => if x.length + y.length ≤ sizeLine then some (.fresh (x ++ y)) else none
  | _, _ => none
theorem op2_catL : Op2 X F (rCatL X.K) gCatL := ⟨fun ς G σ H x y dx dy r Q rl hx hy e k => by
  cases dx with
  | list i =>
    cases dy with
    | list j =>
      replace e : (if i.length + j.length ≤ sizeLine then some (R.fresh (i ++ j)) else none) = some r := e
      by_cases q : i.length + j.length ≤ sizeLine
      · rw [if_pos q] at e
        cases e
        obtain ⟨p, vs, rfl, h1, h2⟩ := hx.list rl.sub
        obtain ⟨p', vs', rfl, h1', h2'⟩ := hy.list rl.sub
        refine ⟨p, p', vs, vs', rfl, rfl, h1, h1', by rw [dpa_len h2, dpa_len h2']; exact q, fun z hz => ?_⟩
        exact k _ _ G (rl.layF hz) (Same.refl _) (rl.repF hz (dpa_app h2 h2'))
      · rw [if_neg q] at e; cases e
    | _ => cases e
  | _ => cases e⟩
def gCatT : D → D → Option R
  | .tuple x, .tuple y => if x.length + y.length ≤ sizeLine then some (.pure (.tuple (x ++ y))) else none
  | _, _ => none
theorem op2_catT : Op2 X F (rCatA X.K) gCatT := ⟨fun ς G σ H x y dx dy r Q rl hx hy e k => by
  cases dx with
  | tuple i =>
    cases dy with
    | tuple j =>
      replace e : (if i.length + j.length ≤ sizeLine then some (R.pure (.tuple (i ++ j))) else none) = some r := e
      by_cases q : i.length + j.length ≤ sizeLine
      · rw [if_pos q] at e
        cases e
        obtain ⟨p, vs, rfl, h1, h2⟩ := hx.tuple rl.sub
        obtain ⟨p', vs', rfl, h1', h2'⟩ := hy.tuple rl.sub
        refine ⟨p, p', vs, vs', rfl, rfl, h1, h1', by rw [dpa_len h2, dpa_len h2']; exact q, fun z => ?_, fun _ z => ?_, fun _ _ z hz => ?_⟩
        · subst z
          cases h2
          rcases hy with hy | ⟨_, _, _, _, e, _⟩
          · exact k _ H G rl (Same.refl _) hy
          · cases e
        · subst z
          cases h2'
          rw [List.append_nil] at k
          rcases hx with hx | ⟨_, _, _, _, e, _⟩
          · exact k _ H G rl (Same.refl _) hx
          · cases e
        · exact k _ _ _ (rl.lay hz) (same_upd (rl.gnone hz)) (rl.layD hz (dpa_app h2 h2'))
      · rw [if_neg q] at e; cases e
    | _ => cases e
  | _ => cases e⟩
theorem d_fdiv (ha : PEd X a fa) (hb : PEd X b fb) : PEd X (.BinOp a .FloorDiv b pos) (op2 (gI cDiv fun i j => .int (i / j)) fa fb) := d_op op_fdivW (fun _ => op2_fdiv) ha hb
theorem d_mod (ha : PEd X a fa) (hb : PEd X b fb) : PEd X (.BinOp a .Mod b pos) (op2 (gI (fun _ j => decide (0 < j)) fun i j => .int (i % j)) fa fb) := d_op op_mod (fun _ => op2_mod) ha hb
theorem d_pow (ha : PEd X a fa) (hb : PEd X b fb) : PEd X (.BinOp a .Pow b pos) (op2 (gI cPow fun i j => .int (i ^ j.toNat)) fa fb) := d_op op_pow (fun _ => op2_pow) ha hb
def gRepT : D → D → Option R
  | .tuple xs, .int k => if xs ≠ [] ∧ 2 ≤ k ∧ k ≤ 1000 ∧ xs.length ≤ 1000 then some (.pure (.tuple (List.replicate k.toNat xs).flatten)) else none
  | _, _ => none
theorem op2_repT : Op2 X F (rRepT X.K) gRepT := ⟨fun ς G σ H x y dx dy r Q rl hx hy e k => by
  cases dx with
  | tuple i =>
    cases dy with
    | int j =>
      replace e : (if i ≠ [] ∧ 2 ≤ j ∧ j ≤ 1000 ∧ i.length ≤ 1000 then some (R.pure (.tuple (List.replicate j.toNat i).flatten)) else none) = some r := e
      by_cases q : i ≠ [] ∧ 2 ≤ j ∧ j ≤ 1000 ∧ i.length ≤ 1000
      · rw [if_pos q] at e
        cases e
        obtain ⟨p, vs, rfl, h1, h2⟩ := hx.tuple rl.sub
        refine ⟨p, j, vs, rfl, hy.int, h1, fun z => q.1 (by subst z; cases h2; rfl), q.2.1, q.2.2.1, by rw [dpa_len h2]; exact q.2.2.2, fun z hz => ?_⟩
        exact k _ _ _ (rl.lay hz) (same_upd (rl.gnone hz)) (rl.layD hz (dpa_rep _ h2))
      · rw [if_neg q] at e; cases e
    | _ => cases e
  | _ => cases e⟩
/-! ### comparisons -/
/-- texts are held beside one another whatever signs they have -/
def gEqS : D → D → Option R
  | .str a, .str b => some (.pure (.bool (decide (a = b))))
  | _, _ => none
def gNeS : D → D → Option R
  | .str a, .str b => some (.pure (.bool (!decide (a = b))))
  | _, _ => none
def gEq0 (x y : D) : Option R := if SeqAt.shaped x = true ∧ SeqAt.shaped y = true then some (.pure (.bool (PyData.eqv x y))) else none
def gNe0 (x y : D) : Option R := if SeqAt.shaped x = true ∧ SeqAt.shaped y = true then some (.pure (.bool (!PyData.eqv x y))) else none
def gEq : D → D → Option R := orG gEqS gEq0
def gNe : D → D → Option R := orG gNeS gNe0
theorem op2_eqS : Op2 X F rEq gEqS := ⟨fun ς G σ H x y dx dy r Q rl hx hy e k => by
  cases dx with
  | str i =>
    cases dy with
    | str j =>
      cases e
      cases hx.str
      cases hy.str
      exact ⟨rfl, by
        have := k (.bl (decide (i = j))) H G rl (Same.refl _) (.bl _)
        rw [show decide (V.str i = V.str j) = decide (i = j) by simp]
        exact this⟩
    | _ => cases e
  | _ => cases e⟩
theorem op2_neS : Op2 X F rNe gNeS := ⟨fun ς G σ H x y dx dy r Q rl hx hy e k => by
  cases dx with
  | str i =>
    cases dy with
    | str j =>
      cases e
      cases hx.str
      cases hy.str
      exact ⟨rfl, by
        have := k (.bl (!decide (i = j))) H G rl (Same.refl _) (.bl _)
        rw [show decide (V.str i = V.str j) = decide (i = j) by simp]
        exact this⟩
    | _ => cases e
  | _ => cases e⟩
theorem op2_eq : Op2 X F (rEqD X.K) gEq0 := ⟨fun ς G σ H x y dx dy r Q rl hx hy e k => by
  unfold gEq0 at e
  split at e
  · rename_i q
    cases e
    exact ⟨dx, dy, hx.dp rl.sub, hy.dp rl.sub, q.1, q.2, k _ H G rl (Same.refl _) (.bl _)⟩
  · cases e⟩
theorem op2_ne : Op2 X F (rNeD X.K) gNe0 := ⟨fun ς G σ H x y dx dy r Q rl hx hy e k => by
  unfold gNe0 at e
  split at e
  · rename_i q
    cases e
    exact ⟨dx, dy, hx.dp rl.sub, hy.dp rl.sub, q.1, q.2, k _ H G rl (Same.refl _) (.bl _)⟩
  · cases e⟩
def isNone : D → Bool
  | .none => true
  | _ => false
theorem isNone_V {K : PySem.W.Frag} {G H : Hp} {x : V} {d : D} (h : RdV K G H x d) : decide (x = V.non) = isNone d := by
  rcases h with h | ⟨a, vs, ds, rfl, rfl, _⟩
  · cases h <;> first | exact decide_eq_true rfl | exact decide_eq_false (by intro z; cases z)
  · exact decide_eq_false (by intro z; cases z)
def gIs : D → D → Option R
  | x, .none => some (.pure (.bool (isNone x)))
  | _, _ => none
theorem op2_is : Op2 X F (fun x y H Q => y = .non ∧ Q (.bl (decide (x = .non))) H) gIs := ⟨fun ς G σ H x y dx dy r Q rl hx hy e k => by
  cases dy with
  | none =>
    cases e
    exact ⟨hy.none, k _ H G rl (Same.refl _) (by rw [isNone_V hx]; exact .bl _)⟩
  | _ => cases e⟩
/-! ### x in data -/
def items : D → Option (List D)
  | .list ds => some ds
  | .tuple ds => some ds
  | _ => none
theorem items_ok {K : PySem.W.Frag} {G H : Hp} {x : V} {d : D} {ds : List D} (s : Same G H) (h : RdV K G H x d) (e : items d = some ds) : ∃ p xs, x = .ref p ∧ (SqL K H p xs ∨ SqT K H p xs) ∧ DpAll K G xs ds := by
  cases d with
  | list es => cases e; obtain ⟨p, vs, rfl, h1, h2⟩ := h.list s; exact ⟨p, vs, rfl, .inl h1, h2⟩
  | tuple es => cases e; obtain ⟨p, vs, rfl, h1, h2⟩ := h.tuple s; exact ⟨p, vs, rfl, .inr h1, h2⟩
  | _ => cases e
theorem units1 {k : Nat} {A : Around} (hr : Room k A) : A.units + 64 < cLine - 1 := by have := hr.un; omega
/-! ### a op b op c -/
def bOf : R → Option Bool
  | .pure (.bool b) => some b
  | _ => none
def chn (g g' : D → D → Option R) (fa fb fc : M R) : M R := bd (sub fa) fun a => bd (sub fb) fun b => bd (rd a) fun x => bd (rd b) fun y => bd (lift (g x y)) fun r => bd (lift (bOf r)) fun k =>
  if k = true then bd (sub fc) fun c => bd (rd b) fun y => bd (rd c) fun z => lift (g' y z) else ret (.pure (.bool false))
end
end Lw
namespace Lw
open PySem PySem.Spec PyProof.Rows L2
section
variable {X : Cx} {F : Fx} {a b c e : Expr} {es : List Expr} {fa fb fc f : M R} {ta tb : M Bool} {pos : Pos} {rest : List Expr}
/-! ### tests -/
def tst (f : M R) : M Bool := bd (sub f) fun r => bd (rd r) fun d => lift (match d with | .bool b => some b | _ => none)
def truD : D → Option Bool
  | .none => some false
  | .bool b => some b
  | .int i => some (i != 0)
  | .str x => if x.length ≤ sizeLine then some ((x.length : Int) != 0) else none
  | .list ds => some (!ds.isEmpty)
  | .tuple ds => some (!ds.isEmpty)
  | _ => none
def tru (f : M R) : M Bool := bd (sub f) fun r => bd (rd r) fun d => lift (truD d)
theorem t_tst : ∀ σ H Q, tEvT X.K F (tst f) σ H Q → (tEv X.K F (sub f)) σ H fun x H' => ∃ k, x = .bl k ∧ Q k H' := fun σ H Q hq => by
  obtain ⟨ς, G, rl, r, ς', e, k⟩ := hq
  obtain ⟨a, ς1, e1, q1⟩ := bd_some e
  obtain ⟨x, ς3, e3', q3⟩ := bd_some q1
  obtain ⟨e3, h3⟩ := rd_some e3'
  obtain ⟨e4, h4⟩ := lift_some q3
  subst h3 h4
  refine ⟨ς, G, rl, a, _, e1, fun v H1 G1 rl1 s1 rep1 => ?_⟩
  have rv := rdD_ok rl1 rep1 e3
  cases x with
  | bool b => cases e4; exact ⟨_, rv.bool, k H1 G1 rl1 s1⟩
  | _ => cases e4
theorem d_tstC {op : CmpOp} {r2 : R2} {g : D → D → Option R} (ho : OpR X (compareOp op) r2) (o : ∀ F, Op2 X F r2 g) (ha : PEd X a fa) (hb : PEd X b fb) (hm : behindInMarks op b = false) : PTd X (.Compare a [op] [b] pos) (tst (op2 g fa fb)) :=
  fun F => PT.mono (pt_cmpR ho (d_sub ha F) (d_sub hb F) hm) fun σ H Q hq => t_op2 (o F) σ H _ (by
    obtain ⟨ς, G, rl, r, ς', e, k⟩ := t_tst σ H Q hq
    obtain ⟨r1, ς1, e1, q1⟩ := bd_some e
    refine ⟨ς, G, rl, r1, ς1, e1, fun v H' G' rl' s rep => ?_⟩
    cases r1 with
    | pure d => cases q1; exact k v H' G' rl' s rep
    | ref i => cases q1; exact k v H' G' rl' s rep
    | vx x => cases q1; exact k v H' G' rl' s rep
    | fresh ds =>
      cases q1
      obtain ⟨G2, rl2, s2, dp⟩ := rl'.frzF rep
      exact k v H' G2 rl2 (s.trans s2) dp)
theorem truV_of {K : PySem.W.Frag} {G H : Hp} {x : V} {d : D} {k : Bool} (s : Same G H) (h : RdV K G H x d) (e : truD d = some k) : TruV K x H k := by
  cases d with
  | none => cases e; rw [h.none]; rfl
  | bool b => cases e; rw [h.bool]; rfl
  | int i => cases e; rw [h.int]; rfl
  | str y =>
    rw [h.str]
    unfold truD at e
    simp only at e
    split at e
    · rename_i q; cases e; exact ⟨q, rfl⟩
    · cases e
  | list ds =>
    cases e
    obtain ⟨p, vs, rfl, h1, h2⟩ := h.list s
    refine .inl ⟨vs, h1, ?_⟩
    cases h2 <;> rfl
  | tuple ds =>
    cases e
    obtain ⟨p, vs, rfl, h1, h2⟩ := h.tuple s
    refine .inr (.inl ⟨vs, h1, ?_⟩)
    cases h2 <;> rfl
  | dict _ => cases e
theorem d_tru (h : PEd X e f) (he : ∀ whole, isTrue e X.env whole = (do let v ← whole; standAt e.pos; holding [v] (truthy v)) := by intro _; rfl) : PTd X e (tru f) :=
  fun F => PT.mono (pt_truth (d_sub h F) he) fun σ H Q hq => by
    obtain ⟨ς, G, rl, r, ς', e, k⟩ := hq
    obtain ⟨a, ς1, e1, q1⟩ := bd_some e
    obtain ⟨x, ς3, e3', q3⟩ := bd_some q1
    obtain ⟨e3, h3⟩ := rd_some e3'
    obtain ⟨e4, h4⟩ := lift_some q3
    subst h3 h4
    exact ⟨ς, G, rl, a, _, e1, fun v H1 G1 rl1 s1 rep1 => ⟨_, truV_of rl1.sub (rdD_ok rl1 rep1 e3) e4, k H1 G1 rl1 s1⟩⟩
def andT (ta tb : M Bool) : M Bool := bd ta fun k => if k = true then tb else ret false
def orT (ta tb : M Bool) : M Bool := bd ta fun k => if k = true then ret true else tb
def notT (ta : M Bool) : M Bool := bd ta fun k => ret (!k)
theorem t_orT : ∀ σ H Q, tEvT X.K F (orT ta tb) σ H Q → tOr (tEvT X.K F ta) (tEvT X.K F tb) σ H Q := fun σ H Q hq => by
  obtain ⟨ς, G, rl, r, ς', e, k⟩ := hq
  obtain ⟨a, ς1, e1, q1⟩ := bd_some e
  refine ⟨ς, G, rl, a, ς1, e1, fun H1 G1 rl1 s1 => ?_⟩
  cases a with
  | true => rw [if_pos rfl] at q1 ⊢; cases q1; exact k H1 G1 rl1 s1
  | false => rw [if_neg (by decide)] at q1 ⊢; exact ⟨ς1, G1, rl1, r, ς', q1, fun H' G' rl' s => k H' G' rl' (s1.trans s)⟩
theorem w_or (ha : PTd X a ta) (hb : PWd X (.BoolOp .Or (b :: rest) pos) tb) : PWd X (.BoolOp .Or (a :: b :: rest) pos) (orT ta tb) := fun F => PW.mono (pw_or (ha F) (hb F)) t_orT
theorem w_or1 (ha : PTd X a ta) : PWd X (.BoolOp .Or [a] pos) ta := fun F => pw_or1 (ha F)
theorem d_notT (ha : PTd X a ta) : PTd X (.UnaryOp .Not a pos) (notT ta) := fun F => PT.mono (pt_not (ha F)) fun σ H Q hq => by
  obtain ⟨ς, G, rl, r, ς', e, k⟩ := hq
  obtain ⟨a, ς1, e1, q1⟩ := bd_some e
  cases q1
  exact ⟨ς, G, rl, a, _, e1, fun H1 G1 rl1 s1 => k H1 G1 rl1 s1⟩
/-! ### and, or, not as values -/
def boolD : D → Option Bool
  | .bool b => some b
  | _ => none
def andV (fa fb : M R) : M R := bd (sub fa) fun r => bd (rd r) fun d => bd (lift (boolD d)) fun k => if k = true then fb else ret (.pure (.bool false))
def orV (fa fb : M R) : M R := bd (sub fa) fun r => bd (rd r) fun d => bd (lift (boolD d)) fun k => if k = true then ret (.pure (.bool true)) else fb
def notV (fa : M R) : M R := bd (sub fa) fun r => bd (rd r) fun d => bd (lift (boolD d)) fun k => ret (.pure (.bool !k))
theorem boolD_V {K : PySem.W.Frag} {G H : Hp} {x : V} {d : D} {k : Bool} (h : RdV K G H x d) (e : boolD d = some k) : x = .bl k := by
  cases d with
  | bool b => cases e; exact h.bool
  | _ => cases e
theorem d_and (ha : PEd X a fa) (hb : PEd X (.BoolOp .And (b :: rest) pos) fb) : PEd X (.BoolOp .And (a :: b :: rest) pos) (andV fa fb) := fun F => PE.mono (pe_and (d_sub ha F) (hb F)) fun σ H Q hq => by
  obtain ⟨ς, G, rl, r, ς', e, k⟩ := hq
  obtain ⟨a, ς1, e1, q1⟩ := bd_some e
  obtain ⟨x, ς3, e3', q3⟩ := bd_some q1
  obtain ⟨e3, h3⟩ := rd_some e3'
  obtain ⟨kk, ς4, e4', q4⟩ := bd_some q3
  obtain ⟨e4, h4⟩ := lift_some e4'
  subst h3 h4
  refine ⟨ς, G, rl, a, _, e1, fun v H1 G1 rl1 s1 rep1 => ⟨kk, boolD_V (rdD_ok rl1 rep1 e3) e4, ?_⟩⟩
  cases kk with
  | true => rw [if_pos rfl] at q4 ⊢; exact ⟨_, G1, rl1, r, ς', q4, fun v H' G' rl' s rep => k v H' G' rl' (s1.trans s) rep⟩
  | false => rw [if_neg (by decide)] at q4 ⊢; cases q4; exact k _ H1 G1 rl1 s1 (.bl _)
theorem d_one {op : BoolOp} (h : PEd X a fa) : PEd X (.BoolOp op [a] pos) fa := fun F => pe_one (h F)
def ife (t : M Bool) (fa fb : M R) : M R := bd t fun k => if k = true then fa else fb
theorem d_ife (hc : PTd X c ta) (ha : PEd X a fa) (hb : PEd X b fb) : PEd X (.IfExp c a b pos) (ife ta fa fb) := fun F => PE.mono (pe_ifExp (hc F) (ha F) (hb F)) fun σ H Q hq => by
  obtain ⟨ς, G, rl, r, ς', e, k⟩ := hq
  obtain ⟨a, ς1, e1, q1⟩ := bd_some e
  refine ⟨ς, G, rl, a, ς1, e1, fun H1 G1 rl1 s1 => ?_⟩
  cases a with
  | true => rw [if_pos rfl] at q1 ⊢; exact ⟨_, G1, rl1, r, ς', q1, fun v H' G' rl' s rep => k v H' G' rl' (s1.trans s) rep⟩
  | false => rw [if_neg (by decide)] at q1 ⊢; exact ⟨_, G1, rl1, r, ς', q1, fun v H' G' rl' s rep => k v H' G' rl' (s1.trans s) rep⟩
/-! ### unary minus -/
def negV (fa : M R) : M R := bd (sub fa) fun r => bd (rd r) fun d => lift (match d with | .int i => some (.pure (.int (-i))) | _ => none)
theorem d_neg (ha : PEd X a fa) : PEd X (.UnaryOp .USub a pos) (negV fa) := fun F => PE.mono (pe_un un_neg (d_sub ha F)) fun σ H Q hq => by
  obtain ⟨ς, G, rl, r, ς', e, k⟩ := hq
  obtain ⟨a, ς1, e1, q1⟩ := bd_some e
  obtain ⟨x, ς3, e3', q3⟩ := bd_some q1
  obtain ⟨e3, h3⟩ := rd_some e3'
  obtain ⟨e4, h4⟩ := lift_some q3
  subst h3 h4
  refine ⟨ς, G, rl, a, _, e1, fun v H1 G1 rl1 s1 rep1 => ?_⟩
  have rv := rdD_ok rl1 rep1 e3
  cases x with
  | int i => cases e4; exact ⟨i, rv.int, k _ H1 G1 rl1 s1 (.int _)⟩
  | _ => cases e4
/-! ### arguments, displays -/
def avs : List D → List Ar := List.map Ar.val
def argN : M (List Ar) := ret []
def argV (f : M R) (g : M (List Ar)) : M (List Ar) := bd (esc f) fun d => bd g fun as => ret (.val d :: as)
def argR (f : M R) (g : M (List Ar)) : M (List Ar) := bd f fun r => match r with
  | .ref i => bd g fun as => ret (.ref i :: as)
  | _ => lift none
theorem a_nil : PAd X [] argN := fun F => PA.mono pa_nil fun σ H Q hq => by
  obtain ⟨ς, G, rl, r, ς', e, k⟩ := hq
  cases e
  exact k [] H G rl (Same.refl _) .nil
theorem a_val {ga : M (List Ar)} (ha : PEd X a fa) (hr : PAd X es ga) (hs : starEach (a :: es) X.env = (false, eval a X.env) :: starEach es X.env := by rfl) : PAd X (a :: es) (argV fa ga) := fun F => PA.mono (pa_cons (d_esc ha F) (hr F) hs) fun σ H Q hq => by
  obtain ⟨ς, G, rl, r, ς', e, k⟩ := hq
  obtain ⟨d, ς1, e1, q1⟩ := bd_some e
  obtain ⟨as, ς2, e2, q2⟩ := bd_some q1
  cases q2
  exact ⟨ς, G, rl, d, ς1, e1, fun v H1 G1 rl1 s1 dp => ⟨ς1, G1, rl1, as, _, e2, fun vs H2 G2 rl2 s2 ps => k (v :: vs) H2 G2 rl2 (s1.trans s2) (.cons (dp_same s2 dp) ps)⟩⟩
theorem a_ref {ga : M (List Ar)} (ha : PEd X a fa) (hr : PAd X es ga) (hs : starEach (a :: es) X.env = (false, eval a X.env) :: starEach es X.env := by rfl) : PAd X (a :: es) (argR fa ga) := fun F => PA.mono (pa_cons (ha F) (hr F) hs) fun σ H Q hq => by
  obtain ⟨ς, G, rl, r, ς', e, k⟩ := hq
  obtain ⟨d, ς1, e1, q1⟩ := bd_some e
  refine ⟨ς, G, rl, d, ς1, e1, fun v H1 G1 rl1 s1 dp => ?_⟩
  cases d with
  | ref i =>
    obtain ⟨as, ς2, e2, q2⟩ := bd_some q1
    cases q2
    exact ⟨ς1, G1, rl1, as, _, e2, fun vs H2 G2 rl2 s2 ps => k (v :: vs) H2 G2 rl2 (s1.trans s2) (.cons dp ps)⟩
  | _ => cases q1
def vals : List Ar → Option (List D)
  | [] => some []
  | .val d :: as => match vals as with
    | some ds => some (d :: ds)
    | none => none
  | .ref _ :: _ => none
theorem vals_ok {K : PySem.W.Frag} {G : Hp} {σ : L2.St} : ∀ {as : List Ar} {vs : List V} {ds : List D}, Paired (RepAr K G σ) as vs → vals as = some ds → DpAll K G vs ds
  | _, _, _, .nil, e => by cases e; exact .nil
  | .val d :: as, _, ds, .cons h t, e => by
    unfold vals at e
    split at e
    · rename_i ds' q
      cases e
      exact .cons h (vals_ok t q)
    · cases e
  | .ref i :: as, _, _, .cons h t, e => by cases e
def small (n : Nat) : Bool := decide (n ≤ sizeLine)
def tupE (g : M (List Ar)) : M R := bd g fun as => bd (lift (vals as)) fun ds => if small ds.length = true then ret (.pure (.tuple ds)) else lift none
def lstE (g : M (List Ar)) : M R := bd g fun as => bd (lift (vals as)) fun ds => if small ds.length = true then ret (.fresh ds) else lift none
theorem d_lst {g : M (List Ar)} (h : PAd X es g) : PEd X (.List es pos) (lstE g) := fun F => PE.mono (pe_lst (h F)) fun σ H Q hq => by
  obtain ⟨ς, G, rl, r, ς', e, k⟩ := hq
  obtain ⟨as, ς1, e1, q1⟩ := bd_some e
  obtain ⟨ds, ς2, e2', q2⟩ := bd_some q1
  obtain ⟨e2, h2⟩ := lift_some e2'
  subst h2
  refine ⟨ς, G, rl, as, _, e1, fun vs H1 G1 rl1 s1 ps => ?_⟩
  have da := vals_ok ps e2
  by_cases hs : small ds.length = true
  · rw [if_pos hs] at q2
    cases q2
    refine ⟨by rw [dpa_len da]; exact of_decide_eq_true hs, fun p hp => ?_⟩
    exact k _ _ _ (rl1.layF hp) s1 (rl1.repF hp da)
  · rw [if_neg hs] at q2; cases q2
/-! ### o[i] -/
def gIx : D → D → Option R
  | .list ds, .int i => (atI ds i).map R.pure
  | .tuple ds, .int i => (atI ds i).map R.pure
  | _, _ => none
theorem atI_dp {K : PySem.W.Frag} {G : Hp} {vs : List V} {ds : List D} {i : Int} {d : D} (h : DpAll K G vs ds) (e : atI ds i = some d) : ∃ v, atI vs i = some v ∧ Dp K G v d := by
  unfold atI at e ⊢
  rw [dpa_len h]
  cases q : ixN ds.length i with
  | none => rw [q] at e; cases e
  | some j => rw [q] at e; exact dpa_get h e
theorem op2_ix : Op2 X F (rIx X.K) gIx := ⟨fun ς G σ H x y dx dy r Q rl hx hy e k => by
  cases dx with
  | list ds =>
    cases dy with
    | int i =>
      cases q : atI ds i with
      | none => rw [gIx, q] at e; cases e
      | some d =>
        rw [gIx, q] at e; cases e
        obtain ⟨p, vs, rfl, h1, h2⟩ := hx.list rl.sub
        obtain ⟨v, e1, e2⟩ := atI_dp h2 q
        exact .inl ⟨p, vs, i, v, rfl, hy.int, h1, e1, k v H G rl (Same.refl _) e2⟩
    | _ => cases e
  | tuple ds =>
    cases dy with
    | int i =>
      cases q : atI ds i with
      | none => rw [gIx, q] at e; cases e
      | some d =>
        rw [gIx, q] at e; cases e
        obtain ⟨p, vs, rfl, h1, h2⟩ := hx.tuple rl.sub
        obtain ⟨v, e1, e2⟩ := atI_dp h2 q
        exact .inr (.inl ⟨p, vs, i, v, rfl, hy.int, h1, e1, k v H G rl (Same.refl _) e2⟩)
    | _ => cases e
  | _ => cases e⟩
theorem d_ix (ha : PEd X a fa) (hb : PEd X b fb) (hs : PlainIx b := by exact fun _ _ => rfl) : PEd X (.Subscript a b pos) (op2 gIx fa fb) := fun F => PE.mono (pe_ix ix_seq (d_sub ha F) (d_sub hb F) hs) (t_op2 op2_ix)
end
end Lw
namespace Lw
open PySem PySem.Spec PyProof.Rows L2
section
variable {X : Cx} {F : Fx} {a b c e : Expr} {es : List Expr} {fa fb fc f : M R} {pos p p2 : Pos} {x : Str}
/-! ### bools among intsD -/
def rIB (h : Int → Int → Int) : R2 := fun x y H Q => (∃ k j, x = .bl k ∧ y = .int j ∧ Q (.int (h (if k = true then 1 else 0) j)) H) ∨ ∃ i k, x = .int i ∧ y = .bl k ∧ Q (.int (h i (if k = true then 1 else 0))) H
theorem op_addB : OpR X (binaryOp .Add) (rIB (· + ·)) := by
  intro pins s σ H x y v u Q I rx ry h
  rcases h with ⟨k, j, rfl, rfl, q⟩ | ⟨i, k, rfl, rfl, q⟩
  · cases rx
    obtain ⟨t, rfl⟩ := ry
    exact PySem.IntBool.add_bool_int ⟨.int _, H, I.tok _, ⟨_, rfl⟩, q⟩
  · obtain ⟨t, rfl⟩ := rx
    cases ry
    exact PySem.add_int_bool ⟨.int _, H, I.tok _, ⟨_, rfl⟩, q⟩
theorem op_subB : OpR X (binaryOp .Sub) (rIB (· - ·)) := by
  intro pins s σ H x y v u Q I rx ry h
  rcases h with ⟨k, j, rfl, rfl, q⟩ | ⟨i, k, rfl, rfl, q⟩
  · cases rx
    obtain ⟨t, rfl⟩ := ry
    exact PySem.IntBool.sub_bool_int ⟨.int _, H, I.tok _, ⟨_, rfl⟩, q⟩
  · obtain ⟨t, rfl⟩ := rx
    cases ry
    exact PySem.IntBool.sub_int_bool ⟨.int _, H, I.tok _, ⟨_, rfl⟩, q⟩
def gIB (h : Int → Int → Int) : D → D → Option R
  | .bool k, .int j => some (.pure (.int (h (if k = true then 1 else 0) j)))
  | .int i, .bool k => some (.pure (.int (h i (if k = true then 1 else 0))))
  | _, _ => none
theorem op2_IB {h : Int → Int → Int} : Op2 X F (rIB h) (gIB h) := ⟨fun ς G σ H x y dx dy r Q rl hx hy e k => by
  cases dx with
  | bool i =>
    cases dy with
    | int j => cases e; exact .inl ⟨i, j, hx.bool, hy.int, k _ H G rl (Same.refl _) (.int _)⟩
    | _ => cases e
  | int i =>
    cases dy with
    | bool j => cases e; exact .inr ⟨i, j, hx.int, hy.bool, k _ H G rl (Same.refl _) (.int _)⟩
    | _ => cases e
  | _ => cases e⟩
/-! ### slices -/
def tEvO (K : PySem.W.Frag) (F : Fx) (f : M (Option Int)) : TO := fun σ H Q => ∃ ς G, Rel K F ς G σ H ∧ ∃ o ς', f ς = some (o, ς') ∧ ∀ H' G', Rel K F ς' G' σ H' → Same G G' → Q o H'
def ptN : M (Option Int) := ret none
def ptS (f : M R) : M (Option Int) := bd (sub f) fun r => bd (rd r) fun d => lift (match d with | .int i => some (some i) | _ => none)
theorem _root_.L2.PO.mono {o : Option Expr} {t t' : TO} (h : PO X o t) (k : ∀ σ H Q, t' σ H Q → t σ H Q) : PO X o t' := ⟨fun pins s σ H Q I hw => h.run pins s σ H Q I (k σ H Q hw)⟩
abbrev POd (X : Cx) (o : Option Expr) (f : M (Option Int)) : Prop := ∀ F : Fx, PO X o (tEvO X.K F f)
theorem o_none : POd X none ptN := fun F => PO.mono po_none fun σ H Q hq => by
  obtain ⟨ς, G, rl, r, ς', e, k⟩ := hq
  cases e
  exact k H G rl (Same.refl _)
theorem o_some (h : PEd X e f) : POd X (some e) (ptS f) := fun F => PO.mono (po_some (d_sub h F)) fun σ H Q hq => by
  obtain ⟨ς, G, rl, r, ς', e, k⟩ := hq
  obtain ⟨a, ς1, e1, q1⟩ := bd_some e
  obtain ⟨x, ς3, e3', q3⟩ := bd_some q1
  obtain ⟨e3, h3⟩ := rd_some e3'
  obtain ⟨e4, h4⟩ := lift_some q3
  subst h3 h4
  refine ⟨ς, G, rl, a, _, e1, fun v H1 G1 rl1 s1 rep1 => ?_⟩
  have rv := rdD_ok rl1 rep1 e3
  cases x with
  | int i => cases e4; exact ⟨i, rv.int, k H1 G1 rl1 s1⟩
  | _ => cases e4
def cutD (ds : List D) (lo hi : Option Int) : List D := (ds.drop (HT.sIx ds.length 0 lo)).take (HT.sIx ds.length ds.length hi - HT.sIx ds.length 0 lo)
def gSl (x : D) (lo hi : Option Int) : Option R := match x with
  | .list ds => some (.fresh (cutD ds lo hi))
  | .tuple ds => some (.pure (.tuple (cutD ds lo hi)))
  | _ => none
def slE (fa : M R) (fl fh : M (Option Int)) : M R := bd (sub fa) fun a => bd fl fun l => bd fh fun h => bd (rd a) fun x => lift (gSl x l h)
theorem d_sl {lo hi : Option Expr} {fl fh : M (Option Int)} (ha : PEd X a fa) (hl : POd X lo fl) (hh : POd X hi fh) : PEd X (.Subscript a (.Slice lo hi none p2) pos) (slE fa fl fh) :=
  fun F => PE.mono (pe_slice (sl_list.or sl_tupA) (d_sub ha F) (hl F) (hh F)) fun σ H Q hq => by
    obtain ⟨ς, G, rl, r, ς', e, k⟩ := hq
    obtain ⟨a, ς1, e1, q1⟩ := bd_some e
    obtain ⟨l, ς2, e2, q2⟩ := bd_some q1
    obtain ⟨h, ς3, e3, q3⟩ := bd_some q2
    obtain ⟨x, ς4, e4', q4⟩ := bd_some q3
    obtain ⟨e4, h4⟩ := rd_some e4'
    obtain ⟨e5, h5⟩ := lift_some q4
    subst h4 h5
    refine ⟨ς, G, rl, a, ς1, e1, fun v H1 G1 rl1 s1 rep1 => ⟨ς1, G1, rl1, l, ς2, e2, fun H2 G2 rl2 s2 => ⟨ς2, G2, rl2, h, _, e3, fun H3 G3 rl3 s3 => ?_⟩⟩⟩
    have rep1' := rep_keep (ς' := ς') (H' := H3) rep1 (sub_nf e1) (s2.trans s3)
    have rv := rdD_ok rl3 rep1' e4
    cases x with
    | list ds =>
      cases e5
      obtain ⟨p, vs, rfl, h1, h2⟩ := rv.list rl3.sub
      refine .inl ⟨p, vs, rfl, h1, fun z hz => ?_⟩
      have : DpAll X.K G3 (cutV vs l h) (cutD ds l h) := by
        unfold cutV cutD
        rw [dpa_len h2]
        exact dpa_take _ (dpa_drop _ h2)
      exact k _ _ G3 (rl3.layF hz) (s1.trans (s2.trans s3)) (rl3.repF hz this)
    | tuple ds =>
      cases e5
      obtain ⟨p, vs, e6, h1, h2⟩ := rv.tuple rl3.sub
      subst e6
      refine .inr ⟨p, vs, rfl, h1, fun z => ?_, fun _ z hz => ?_⟩
      · rw [dpa_len h2] at z
        have : cutD ds l h = ds := by
          unfold cutD
          rw [z.1, z.2]
          simp
        rw [this] at k
        rcases rv with rv | ⟨_, _, _, _, ee, _⟩
        · exact k _ H3 G3 rl3 (s1.trans (s2.trans s3)) rv
        · cases ee
      · have : DpAll X.K G3 (cutV vs l h) (cutD ds l h) := by
          unfold cutV cutD
          rw [dpa_len h2]
          exact dpa_take _ (dpa_drop _ h2)
        exact k _ _ _ (rl3.lay hz) (s1.trans (s2.trans (s3.trans (same_upd (rl3.gnone hz))))) (rl3.layD hz this)
    | _ => cases e5
def revE (fa : M R) : M R := bd (sub fa) fun a => bd (rd a) fun x => lift (match x with | .list ds => some (.fresh ds.reverse) | _ => none)
/-! ### built-ins by values -/
structure Call1 (X : Cx) (F : Fx) (r : List V → Hp → VK → Prop) (g : D → Option R) : Prop where
  run : ∀ (ς : En) (G : Hp) (σ : L2.St) (H : Hp) (x : V) (dx : D) (res : R) (Q : VK), Rel X.K F ς G σ H → RdV X.K G H x dx → g dx = some res →
    (∀ v H' G', Rel X.K F ς G' σ H' → Same G G' → RepR X.K F ς G' σ H' res v → Q v H') → r [x] H Q
structure Call2 (X : Cx) (F : Fx) (r : List V → Hp → VK → Prop) (g : D → D → Option R) : Prop where
  run : ∀ (ς : En) (G : Hp) (σ : L2.St) (H : Hp) (x y : V) (dx dy : D) (res : R) (Q : VK), Rel X.K F ς G σ H → RdV X.K G H x dx → RdV X.K G H y dy → g dx dy = some res →
    (∀ v H' G', Rel X.K F ς G' σ H' → Same G G' → RepR X.K F ς G' σ H' res v → Q v H') → r [x, y] H Q
def cal1 (g : D → Option R) (fa : M R) : M R := bd (sub fa) fun a => bd (rd a) fun x => lift (g x)
theorem t_cal1 {r : List V → Hp → VK → Prop} {g : D → Option R} (o : Call1 X F r g) : ∀ σ H Q, tEv X.K F (cal1 g fa) σ H Q → tCB r (tCons (tEv X.K F (sub fa)) tNil) σ H Q := fun σ H Q hq => by
  obtain ⟨ς, G, rl, r, ς', e, k⟩ := hq
  obtain ⟨a, ς1, e1, q1⟩ := bd_some e
  obtain ⟨x, ς4, e4', q4⟩ := bd_some q1
  obtain ⟨e4, h4⟩ := rd_some e4'
  obtain ⟨e5, h5⟩ := lift_some q4
  subst h4 h5
  exact ⟨ς, G, rl, a, _, e1, fun v H1 G1 rl1 s1 rep1 => o.run _ G1 σ H1 v x r Q rl1 (rdD_ok rl1 rep1 e4) e5 fun u H' G' rl' s rep => k u H' G' rl' (s1.trans s) rep⟩
theorem t_cal2 {r : List V → Hp → VK → Prop} {g : D → D → Option R} (o : Call2 X F r g) : ∀ σ H Q, tEv X.K F (op2 g fa fb) σ H Q → tCB r (tCons (tEv X.K F (sub fa)) (tCons (tEv X.K F (sub fb)) tNil)) σ H Q := fun σ H Q hq =>
  t_op2 (X := X) (F := F) (fa := fa) (fb := fb) (r2 := fun x y H Q => r [x, y] H Q) (g := g) ⟨o.run⟩ σ H Q hq
theorem d_callB1 {r : List V → Hp → VK → Prop} {g : D → Option R} {id : String} (hc : CallR X (.builtin id) r) (o : ∀ F, Call1 X F r g) (hg : Gl X x) (hm : X.mg x = none) (hv : bootBuiltins x = some (.builtin id)) (ha : PEd X a fa) (hn : x ≠ "__name__" := by decide) (hdb : (x == ("__debug__" : Str)) = false := by decide)
    (he : starEach [a] X.env = (false, eval a X.env) :: starEach [] X.env := by rfl) (hpl : (backTo pos (starEach [] X.env)).any (·.1) = false := by rfl) : PEd X (.Call (.Name x p) [a] [] pos) (cal1 g fa) :=
  fun F => PE.mono (pe_callB hc hg hm hv (pa_cons (d_sub ha F) pa_nil he) hn hdb he hpl) (t_cal1 (o F))
theorem d_callT1 {r : List V → Hp → VK → Prop} {g : D → Option R} {T : String} (hc : CallR X (.type T) r) (o : ∀ F, Call1 X F r g) (hg : Gl X x) (hm : X.mg x = none) (hv : bootBuiltins x = some (.type T)) (ha : PEd X a fa) (hn : x ≠ "__name__" := by decide) (hdb : (x == ("__debug__" : Str)) = false := by decide)
    (he : starEach [a] X.env = (false, eval a X.env) :: starEach [] X.env := by rfl) (hpl : (backTo pos (starEach [] X.env)).any (·.1) = false := by rfl) : PEd X (.Call (.Name x p) [a] [] pos) (cal1 g fa) :=
  fun F => PE.mono (pe_callTy hc hg hm hv (pa_cons (d_sub ha F) pa_nil he) hn hdb he hpl) (t_cal1 (o F))
theorem d_callB2 {r : List V → Hp → VK → Prop} {g : D → D → Option R} {id : String} (hc : CallR X (.builtin id) r) (o : ∀ F, Call2 X F r g) (hg : Gl X x) (hm : X.mg x = none) (hv : bootBuiltins x = some (.builtin id)) (ha : PEd X a fa) (hb : PEd X b fb) (hn : x ≠ "__name__" := by decide) (hdb : (x == ("__debug__" : Str)) = false := by decide)
    (he : starEach [a, b] X.env = (false, eval a X.env) :: starEach [b] X.env := by rfl) (he2 : starEach [b] X.env = (false, eval b X.env) :: starEach [] X.env := by rfl) (hpl : (backTo pos (starEach [b] X.env)).any (·.1) = false := by rfl) : PEd X (.Call (.Name x p) [a, b] [] pos) (op2 g fa fb) :=
  fun F => PE.mono (pe_callB hc hg hm hv (pa_cons (d_sub ha F) (pa_cons (d_sub hb F) pa_nil he2) he) hn hdb he hpl) (t_cal2 (o F))
theorem CallR.or {f : Value} {r r' : List V → Hp → VK → Prop} (h : CallR X f r) (h' : CallR X f r') : CallR X f (fun xs H Q => r xs H Q ∨ r' xs H Q) := by
  intro pins s σ H xs us Q I rv hq
  rcases hq with hq | hq
  · exact h pins s σ H xs us Q I rv hq
  · exact h' pins s σ H xs us Q I rv hq
def gAbs : D → Option R
  | .int i => some (.pure (.int (if i < 0 then -i else i)))
  | _ => none
theorem d_abs (hg : Gl X "abs") (hm : X.mg "abs" = none) (ha : PEd X a fa) (he : starEach [a] X.env = (false, eval a X.env) :: starEach [] X.env := by rfl) : PEd X (.Call (.Name "abs" p) [a] [] pos) (cal1 gAbs fa) := d_callB1 call_abs (fun F => ⟨fun ς G σ H x dx res Q rl hx e k => by
  cases dx with
  | int i => cases e; exact ⟨i, by rw [hx.int], k _ H G rl (Same.refl _) (.int _)⟩
  | _ => cases e⟩) hg hm (by decide +kernel) ha (he := he) (hpl := rfl)
def gInt : D → Option R
  | .int i => some (.pure (.int i))
  | .bool k => some (.pure (.int (if k = true then 1 else 0)))
  | _ => none
theorem d_toInt (hg : Gl X "int") (hm : X.mg "int" = none) (ha : PEd X a fa) (he : starEach [a] X.env = (false, eval a X.env) :: starEach [] X.env := by rfl) : PEd X (.Call (.Name "int" p) [a] [] pos) (cal1 gInt fa) := d_callT1 call_int1 (fun F => ⟨fun ς G σ H x dx res Q rl hx e k => by
  cases dx with
  | int i => cases e; exact .inl ⟨i, by rw [hx.int], k _ H G rl (Same.refl _) (.int _)⟩
  | bool i => cases e; exact .inr ⟨i, by rw [hx.bool], k _ H G rl (Same.refl _) (.int _)⟩
  | _ => cases e⟩) hg hm (by decide +kernel) ha (he := he) (hpl := rfl)
def gLen : D → Option R
  | .list ds => some (.pure (.int ds.length))
  | .tuple ds => some (.pure (.int ds.length))
  | .str x => if x.length ≤ sizeLine then some (.pure (.int x.length)) else none
  | _ => none
theorem d_len (hg : Gl X "len") (hm : X.mg "len" = none) (ha : PEd X a fa) (he : starEach [a] X.env = (false, eval a X.env) :: starEach [] X.env := by rfl) : PEd X (.Call (.Name "len" p) [a] [] pos) (cal1 gLen fa) := d_callB1 call_len (fun F => ⟨fun ς G σ H x dx res Q rl hx e k => by
  cases dx with
  | list ds =>
    cases e
    obtain ⟨q, vs, rfl, h1, h2⟩ := hx.list rl.sub
    exact ⟨_, ds.length, rfl, .inl ⟨vs, h1, (dpa_len h2).symm⟩, k _ H G rl (Same.refl _) (.int _)⟩
  | tuple ds =>
    cases e
    obtain ⟨q, vs, rfl, h1, h2⟩ := hx.tuple rl.sub
    exact ⟨_, ds.length, rfl, .inr ⟨vs, h1, (dpa_len h2).symm⟩, k _ H G rl (Same.refl _) (.int _)⟩
  | str y =>
    replace e : (if y.length ≤ sizeLine then some (R.pure (.int y.length)) else none) = some res := e
    by_cases q : y.length ≤ sizeLine
    · rw [if_pos q] at e; cases e
      exact ⟨.str y, y.length, by rw [hx.str], ⟨q, rfl⟩, k _ H G rl (Same.refl _) (.int _)⟩
    · rw [if_neg q] at e; cases e
  | _ => cases e⟩) hg hm PySem.boot_len ha (he := he) (hpl := rfl)
def gList (x : D) : Option R := match items x with
  | some ds => some (.fresh ds)
  | none => none
theorem d_list (hg : Gl X "list") (hm : X.mg "list" = none) (ha : PEd X a fa) (he : starEach [a] X.env = (false, eval a X.env) :: starEach [] X.env := by rfl) : PEd X (.Call (.Name "list" p) [a] [] pos) (cal1 gList fa) := d_callT1 call_list_of (fun F => ⟨fun ς G σ H x dx res Q rl hx e k => by
  unfold gList at e
  split at e
  · rename_i ds q
    cases e
    obtain ⟨l, vs, rfl, h1, h2⟩ := items_ok rl.sub hx q
    exact ⟨l, vs, rfl, h1, fun z hz => k _ _ G (rl.layF hz) (Same.refl _) (rl.repF hz h2)⟩
  · cases e⟩) hg hm (by decide +kernel) ha (he := he) (hpl := rfl)
def gTuple (x : D) : Option R := match items x with
  | some ds => some (.pure (.tuple ds))
  | none => none
def bools : List D → Option (List Bool)
  | [] => some []
  | .bool b :: ds => match bools ds with
    | some bs => some (b :: bs)
    | none => none
  | _ :: _ => none
theorem bools_map : ∀ {ds : List D} {bs : List Bool}, bools ds = some bs → ds = bs.map PyData.bool
  | [], _, e => by cases e; rfl
  | .bool b :: ds, bs, e => by
    unfold bools at e
    split at e
    · rename_i bs' q
      cases e
      rw [bools_map q]; rfl
    · cases e
  | .none :: _, _, e => by cases e
  | .int _ :: _, _, e => by cases e
  | .str _ :: _, _, e => by cases e
  | .list _ :: _, _, e => by cases e
  | .tuple _ :: _, _, e => by cases e
  | .dict _ :: _, _, e => by cases e
def gAll : D → Option R
  | .list ds => match bools ds with
    | some bs => some (.pure (.bool (bs.all id)))
    | none => none
  | _ => none
theorem d_all (hc : X.calm = true) (hg : Gl X "all") (hm : X.mg "all" = none) (ha : PEd X a fa) (he : starEach [a] X.env = (false, eval a X.env) :: starEach [] X.env := by rfl) : PEd X (.Call (.Name "all" p) [a] [] pos) (cal1 gAll fa) := d_callB1 (cr_all hc) (fun F => ⟨fun ς G σ H x dx res Q rl hx e k => by
  cases dx with
  | list ds =>
    unfold gAll at e
    simp only at e
    split at e
    · rename_i bs q
      cases e
      obtain ⟨l, vs, rfl, h1, h2⟩ := hx.list rl.sub
      rw [bools_map q] at h2
      rw [dpa_bools_inv h2] at h1
      exact ⟨l, bs, rfl, h1, k _ H G rl (Same.refl _) (.bl _)⟩
    · cases e
  | _ => cases e⟩) hg hm (by decide +kernel) ha (he := he) (hpl := rfl)
def intsD : List D → Option (List Int)
  | [] => some []
  | .int b :: ds => match intsD ds with
    | some bs => some (b :: bs)
    | none => none
  | _ :: _ => none
def g2I (h : Int → Int → Int) : D → D → Option R
  | .int i, .int j => some (.pure (.int (h i j)))
  | _, _ => none
theorem d_min2 (hc : X.calm = true) (hg : Gl X "min") (hm : X.mg "min" = none) (ha : PEd X a fa) (hb : PEd X b fb) (he : starEach [a, b] X.env = (false, eval a X.env) :: starEach [b] X.env := by rfl) (he2 : starEach [b] X.env = (false, eval b X.env) :: starEach [] X.env := by rfl) (hpl : (backTo pos (starEach [b] X.env)).any (·.1) = false := by rfl) :
    PEd X (.Call (.Name "min" p) [a, b] [] pos) (op2 (g2I fun i j => if j < i then j else i) fa fb) := d_callB2 (call_min2 hc) (fun F => ⟨fun ς G σ H x y dx dy res Q rl hx hy e k => by
  cases dx with
  | int i =>
    cases dy with
    | int j => cases e; exact ⟨i, j, by rw [hx.int, hy.int], k _ H G rl (Same.refl _) (.int _)⟩
    | _ => cases e
  | _ => cases e⟩) hg hm (by decide +kernel) ha hb (he := he) (he2 := he2) (hpl := hpl)
/-- divmod of a number not below 0 -/
def gDm : D → D → Option R
  | .int i, .int j => if 0 < j ∧ j < 2 ^ 200 then some (.pure (.tuple [.int (i / j), .int (i % j)])) else none
  | _, _ => none
theorem divp_200 {i j : Int} (h : 0 < j ∧ j < 2 ^ 200) : CDivP i j := by
  obtain ⟨w1, w2⟩ : CDivW i j := by
    refine wide_div (b := 200) h.1 ?_ (by decide) (by decide)
    have h2 : j.toNat < 2 ^ 200 := by
      rw [Int.toNat_lt (n := 2 ^ 200) (by omega : 0 ≤ j)]
      exact_mod_cast h.2
    omega
  refine ⟨h.1, ?_⟩
  exact PyProof.noPylong_of_log2 w2
theorem d_divmod (hg : Gl X "divmod") (hm : X.mg "divmod" = none) (ha : PEd X a fa) (hb : PEd X b fb) (he : starEach [a, b] X.env = (false, eval a X.env) :: starEach [b] X.env := by rfl) (he2 : starEach [b] X.env = (false, eval b X.env) :: starEach [] X.env := by rfl) (hpl : (backTo pos (starEach [b] X.env)).any (·.1) = false := by rfl) :
    PEd X (.Call (.Name "divmod" p) [a, b] [] pos) (op2 gDm fa fb) := d_callB2 call_divmodW (fun F => ⟨fun ς G σ H x y dx dy res Q rl hx hy e k => by
  cases dx with
  | int i =>
    cases dy with
    | int j =>
      replace e : (if 0 < j ∧ j < 2 ^ 200 then some (R.pure (.tuple [.int (i / j), .int (i % j)])) else none) = some res := e
      by_cases q : 0 < j ∧ j < 2 ^ 200
      · rw [if_pos q] at e; cases e
        exact ⟨i, j, by rw [hx.int, hy.int], divp_200 q, fun z hz => k _ _ _ (rl.lay hz) (same_upd (rl.gnone hz)) (rl.layD hz (.cons (.int _) (.cons (.int _) .nil)))⟩
      · rw [if_neg q] at e; cases e
    | _ => cases e
  | _ => cases e⟩) hg hm (by decide +kernel) ha hb (he := he) (he2 := he2) (hpl := hpl)
end
end Lw
namespace Lw
open PySem PySem.Spec PyProof.Rows L2
section
variable {X : Cx} {a b c e : Expr} {es : List Expr} {fa fb fc f : M R} {pos p p1 p2 p3 : Pos} {x : Str}
/-! ### isinstance -/
inductive Tn where
  | int | bool | str | list | tuple
def Tn.name : Tn → String
  | .int => "int" | .bool => "bool" | .str => "str" | .list => "list" | .tuple => "tuple"
def tyN : D → String
  | .none => "NoneType" | .bool _ => "bool" | .int _ => "int" | .str _ => "str" | .list _ => "list" | .tuple _ => "tuple" | .dict _ => "dict"
def isD : Tn → D → Bool
  | .int, .int _ => true
  | .int, .bool _ => true
  | .bool, .bool _ => true
  | .str, .str _ => true
  | .list, .list _ => true
  | .tuple, .tuple _ => true
  | _, _ => false
theorem kit_isD (t : Tn) (d : D) : kitB (tyN d) t.name = some (isD t d) := by
  cases t <;> cases d <;> (dsimp only [tyN, isD, Tn.name]; decide +kernel)
theorem tyX_of {K : PySem.W.Frag} {H : Hp} {v : V} {d : D} (h : Dp K H v d) : TyX K H v (.type (tyN d)) := by
  cases h with
  | non => exact .base .non
  | bl b => exact .base (.bl b)
  | int i => exact .base (.int i)
  | str x => exact .base (.str x)
  | lst h _ =>
    rcases h with (h | ⟨o, h⟩) | ⟨o, _, _, h, hc, _⟩
    · exact .base (.lst h)
    · exact .base (.frz h)
    · exact .kList h hc
  | tup h _ =>
    rcases h with (h | ⟨o, h⟩) | ⟨o, _, _, h, hc, _⟩
    · exact .base (.tup h)
    · exact .fTuple h
    · exact .kTuple h hc
def isE (fa : M R) (ts : List Tn) : M R := bd (sub fa) fun r => bd (rd r) fun d => ret (.pure (.bool (ts.any fun t => isD t d)))
theorem kitAny_of {K : PySem.W.Frag} {d : D} : ∀ ts : List Tn, PySem.W.kitAny K (.type (tyN d)) (ts.map fun t => .type t.name) = some (ts.any fun t => isD t d)
  | [] => rfl
  | t :: ts => kitAny_cons (kit_ty (kit_isD t d)) (fun h => by rw [List.any_cons, h, Bool.false_or]; exact kitAny_of ts) (fun h => by rw [List.any_cons, h, Bool.true_or])
theorem clsV_of : ∀ ts : List Tn, Paired ClsV (ts.map fun t => V.ty t.name) (ts.map fun t => Value.type t.name)
  | [] => .nil
  | t :: ts => .cons (.ty _) (clsV_of ts)
theorem d_isi1 {y : Str} (t : Tn) (hg : Gl X "isinstance") (hm : X.mg "isinstance" = none) (ha : PEd X a fa) (hy : PE X (.Name y p2) (tC (.ty t.name))) (he : starEach [a, .Name y p2] X.env = (false, eval a X.env) :: starEach [.Name y p2] X.env := by rfl) :
    PEd X (.Call (.Name "isinstance" p) [a, .Name y p2] [] pos) (isE fa [t]) := fun F => PE.mono (pe_callB call_isi hg hm (by decide +kernel) (pa_cons (d_sub ha F) (pa_cons hy pa_nil) he) (he := he) (hpl := rfl)) fun σ H Q hq => by
  obtain ⟨ς, G, rl, r, ς', e, k⟩ := hq
  obtain ⟨a, ς1, e1, q1⟩ := bd_some e
  obtain ⟨d, ς3, e3', q3⟩ := bd_some q1
  obtain ⟨e3, h3⟩ := rd_some e3'
  subst h3
  cases q3
  refine ⟨ς, G, rl, a, _, e1, fun v H1 G1 rl1 s1 rep1 => ?_⟩
  have rv := rdD_ok rl1 rep1 e3
  exact ⟨v, .ty t.name, _, _, _, rfl, .ty _, tyX_of (rv.dp rl1.sub), kit_ty (kit_isD t d), k _ H1 G1 rl1 s1 (by rw [List.any_cons, List.any_nil, Bool.or_false]; exact .bl _)⟩
theorem tys_len (ts : List Tn) (h : ts.length ≤ 100) : (ts.map fun t => V.ty t.name).length ≤ sizeLine := by rw [List.length_map, sizeLine_eq]; omega
theorem d_isiN {tys : List Expr} {kk : Nat} (ts : List Tn) (hg : Gl X "isinstance") (hm : X.mg "isinstance" = none) (ha : PEd X a fa) (hy : PA X tys (fun σ H Q => Q (ts.map fun t => V.ty t.name) H)) (hl : ts.length ≤ 100 := by decide) (he : starEach [a, .Tuple tys kk p2] X.env = (false, eval a X.env) :: starEach [.Tuple tys kk p2] X.env := by rfl) :
    PEd X (.Call (.Name "isinstance" p) [a, .Tuple tys kk p2] [] pos) (isE fa ts) := fun F => PE.mono (pe_callB call_isiT hg hm (by decide +kernel) (pa_cons (d_sub ha F) (pa_cons (pe_tup hy) pa_nil) he) (he := he) (hpl := rfl)) fun σ H Q hq => by
  obtain ⟨ς, G, rl, r, ς', e, k⟩ := hq
  obtain ⟨a, ς1, e1, q1⟩ := bd_some e
  obtain ⟨d, ς3, e3', q3⟩ := bd_some q1
  obtain ⟨e3, h3⟩ := rd_some e3'
  subst h3
  cases q3
  refine ⟨ς, G, rl, a, _, e1, fun v H1 G1 rl1 s1 rep1 => ⟨tys_len ts hl, fun z hz => ?_⟩⟩
  have rv := rdD_ok rl1 rep1 e3
  have ty := tyX_of (dp_same (same_upd (o := .tup (ts.map fun t => V.ty t.name)) hz) (rv.dp rl1.sub))
  exact ⟨v, z, _, _, _, _, rfl, upd_same, clsV_of ts, ty, kitAny_of ts, k _ _ _ (rl1.lay hz) (s1.trans (same_upd (rl1.gnone hz))) (.bl _)⟩
/-- the types' names as arguments -/
theorem ty_nil : PA X [] (fun σ H Q => Q (([] : List Tn).map fun t => V.ty t.name) H) := pa_nil
theorem ty_cons {y : Str} {ts : List Tn} (t : Tn) (hy : PE X (.Name y p2) (tC (.ty t.name))) (h : PA X es (fun σ H Q => Q (ts.map fun t => V.ty t.name) H)) (he : starEach (.Name y p2 :: es) X.env = (false, eval (.Name y p2) X.env) :: starEach es X.env := by rfl) :
    PA X (.Name y p2 :: es) (fun σ H Q => Q ((t :: ts).map fun t => V.ty t.name) H) := pa_cons hy h he
/-! ### repr of data -/
end
/-! ### another entry to hold on to -/
section
variable {K : PySem.W.Frag} {F : Fx} {ς ς' : En} {G H G' H' : Hp} {σ σ' : L2.St}
noncomputable def Fx.now (F : Fx) (ς : En) (G : Hp) (σ : L2.St) (H : Hp) : Fx where
  A := F.A
  G0 := G
  H0 := fun a => @ite _ ((∃ (i : Nat) (ds : List D), ς[i]? = some (some (.own false ds)) ∧ σ[i]? = some (some (.ref a))) ∨ ∃ (i : Nat) (kvs : List (D × D)), ς[i]? = some (some (.vx (.odc kvs))) ∧ σ[i]? = some (some (.ref a))) (Classical.propDecidable _) none (H a)
theorem now_none (r : Rel K F ς G σ H) {a : Addr} (h : (F.now ς G σ H).H0 a = none) : F.H0 a = none := by
  by_cases q : (∃ (i : Nat) (ds : List D), ς[i]? = some (some (.own false ds)) ∧ σ[i]? = some (some (.ref a))) ∨ ∃ (i : Nat) (kvs : List (D × D)), ς[i]? = some (some (.vx (.odc kvs))) ∧ σ[i]? = some (some (.ref a))
  · rcases q with ⟨i, ds, h1, h2⟩ | ⟨i, kvs, h1, h2⟩
    · obtain ⟨a', vs, e1, _, _, _, _, e6⟩ := r.ow i false ds h1
      rw [h2] at e1; cases e1
      exact e6 rfl
    · obtain ⟨a', o, e1, _, _, _, e5⟩ := r.od i kvs h1
      rw [h2] at e1; cases e1
      exact e5
  · have h' : H a = none := by
      unfold Fx.now at h
      simp only at h
      rw [if_neg q] at h
      exact h
    exact r.new h'
theorem now_someG {a : Addr} {o : HO} (h : H a = some o) (q : ∀ (i : Nat) b ds, ς[i]? = some (some (.own b ds)) → σ[i]? ≠ some (some (.ref a))) (qd : ∀ (i : Nat) kvs, ς[i]? = some (some (.vx (.odc kvs))) → σ[i]? ≠ some (some (.ref a))) : (F.now ς G σ H).H0 a = some o := by
  unfold Fx.now
  simp only
  rw [if_neg (by
    rintro (⟨i, ds, h1, h2⟩ | ⟨i, kvs, h1, h2⟩)
    · exact q i _ _ h1 h2
    · exact qd i _ h1 h2)]
  exact h
theorem Rel.lno (r : Rel K F ς G σ H) {a : Addr} {vs : List V} (h : H a = some (.lst vs)) : ∀ (i : Nat) kvs, ς[i]? = some (some (.vx (.odc kvs))) → σ[i]? ≠ some (some (.ref a)) := fun i kvs h1 h2 => by
  obtain ⟨a', o, e1, e2, e3, _⟩ := r.od i kvs h1
  rw [h2] at e1; cases e1
  rw [h] at e2; cases e2
  exact DcAt.lst e3
theorem now_some (r : Rel K F ς G σ H) {a : Addr} {vs : List V} (h : H a = some (.lst vs)) (q : ∀ (i : Nat) b ds, ς[i]? = some (some (.own b ds)) → σ[i]? ≠ some (some (.ref a))) : (F.now ς G σ H).H0 a = some (.lst vs) := now_someG h q (r.lno h)
theorem Rel.now (r : Rel K F ς G σ H) : Rel K (F.now ς G σ H) ς G σ H where
  len := r.len
  sub := r.sub
  g0 := Same.refl _
  pu := r.pu
  ow := fun i b ds e => by
    obtain ⟨a, vs, e1, e2, e3, e4, e5, e6⟩ := r.ow i b ds e
    refine ⟨a, vs, e1, e2, e3, e4, e5, fun hb => ?_⟩
    subst hb
    unfold Fx.now
    simp only
    rw [if_pos (.inl ⟨i, ds, e, e1⟩)]
  ap := r.ap
  par := r.par
  fr := fun a o h _ => by
    unfold Fx.now at h
    simp only at h
    split at h
    · cases h
    · exact h
  nw := fun a h => .inl h
  vx := r.vx
  od := fun i kvs e => by
    obtain ⟨a, o, e1, e2, e3, e4, e5⟩ := r.od i kvs e
    refine ⟨a, o, e1, e2, e3, e4, ?_⟩
    unfold Fx.now
    simp only
    rw [if_pos (.inr ⟨i, kvs, e, e1⟩)]
  oa := r.oa
theorem Rel.back (r : Rel K F ς G σ H) (r1 : Rel K (F.now ς G σ H) ς' G' σ' H') : Rel K F ς' G' σ' H' where
  len := r1.len
  sub := r1.sub
  g0 := r.g0.trans r1.g0
  pu := r1.pu
  ow := fun i b ds e => by
    obtain ⟨a, vs, e1, e2, e3, e4, e5, e6⟩ := r1.ow i b ds e
    exact ⟨a, vs, e1, e2, e3, e4, e5, fun hb => now_none r (e6 hb)⟩
  ap := r1.ap
  par := r1.par
  fr := fun a o h na => by
    have h1 := r.fr a o h na
    refine r1.fr a o ?_ na
    cases q : (F.now ς G σ H).H0 a with
    | none => rw [now_none r q] at h; cases h
    | some o' =>
      have := r.now.fr a o' q na
      rw [h1] at this; exact this.symm
  nw := fun a h => by
    rcases r1.nw a h with q | q
    · exact r.nw a q
    · exact .inr (now_none r q)
  vx := r1.vx
  od := fun i kvs e => by
    obtain ⟨a, o, e1, e2, e3, e4, e5⟩ := r1.od i kvs e
    exact ⟨a, o, e1, e2, e3, e4, now_none r e5⟩
  oa := r1.oa
/-- a thing that is nobody's stays so -/
theorem Rel.keepG (r : Rel K F ς G σ H) (r1 : Rel K (F.now ς G σ H) ς' G' σ' H') {a : Addr} {o : HO} (h1 : H a = some o) (h2 : G a = none) (h5 : ∀ (i : Nat) b es, ς[i]? = some (some (.own b es)) → σ[i]? ≠ some (some (.ref a))) (hd : ∀ (i : Nat) kvs, ς[i]? = some (some (.vx (.odc kvs))) → σ[i]? ≠ some (some (.ref a))) :
    H' a = some o ∧ G' a = none ∧ (∀ (i : Nat) b es, ς'[i]? = some (some (.own b es)) → σ'[i]? ≠ some (some (.ref a))) ∧ ∀ (i : Nat) kvs, ς'[i]? = some (some (.vx (.odc kvs))) → σ'[i]? ≠ some (some (.ref a)) := by
  have q : (F.now ς G σ H).H0 a = some o := now_someG h1 h5 hd
  have np : ∀ i, F.A i ≠ some a := fun i z => by
    obtain ⟨ds, e⟩ := r.par i a z
    exact h5 i _ _ e (r.own_in z).1
  refine ⟨r1.fr a _ q np, ?_, fun i b es e z => ?_, fun i kvs e z => ?_⟩
  · cases z : G' a with
    | none => rfl
    | some y =>
      rcases r1.nw a (by rw [z]; simp) with w | w
      · exact absurd h2 w
      · rw [q] at w; cases w
  · obtain ⟨a', vs, e1, _, _, _, e5, e6⟩ := r1.ow i b es e
    rw [z] at e1; cases e1
    cases b with
    | true => exact np i (e5 rfl)
    | false => rw [e6 rfl] at q; cases q
  · obtain ⟨a', o', e1, _, _, _, e5⟩ := r1.od i kvs e
    rw [z] at e1; cases e1
    rw [e5] at q; cases q
/-- a list that is nobody's stays so -/
theorem Rel.keepF (r : Rel K F ς G σ H) (r1 : Rel K (F.now ς G σ H) ς' G' σ' H') {a : Addr} {vs : List V} (h1 : H a = some (.lst vs)) (h2 : G a = none) (h5 : ∀ (i : Nat) b es, ς[i]? = some (some (.own b es)) → σ[i]? ≠ some (some (.ref a))) :
    H' a = some (.lst vs) ∧ G' a = none ∧ ∀ (i : Nat) b es, ς'[i]? = some (some (.own b es)) → σ'[i]? ≠ some (some (.ref a)) := by
  obtain ⟨k1, k2, k3, _⟩ := r.keepG r1 h1 h2 h5 (r.lno h1)
  exact ⟨k1, k2, k3⟩
theorem Rel.keepR (r : Rel K F ς G σ H) (r1 : Rel K (F.now ς G σ H) ς' G' σ H') {x : R} {v : V} (h : RepR K F ς G σ H x v) : RepR K F ς' G' σ H' x v := by
  cases x with
  | pure d => exact dp_same r1.g0 h
  | ref i => exact h
  | vx x => exact ⟨h.1, xp_same r1.g0 h.2⟩
  | fresh ds =>
    obtain ⟨a, vs, rfl, h1, h2, h3, h4, h5⟩ := h
    obtain ⟨k1, k2, k3⟩ := r.keepF r1 h1 h2 h5
    exact ⟨a, vs, rfl, k1, k2, dpa_same r1.g0 h3, h4, k3⟩
end
end Lw
namespace Lw
open PySem PySem.Spec PyProof.Rows L2
inductive Out where
  | nx (ς : En)
  | rt (r : R) (ς : En)
  | bk (ς : En)
  | ct (ς : En)
abbrev MS := En → Option Out
def EndsOk (K : PySem.W.Frag) (F : Fx) (G : Hp) (D : Ends) : Out → Prop
  | .nx ς' => ∀ σ' H' G', Rel K F ς' G' σ' H' → Same G G' → D.nx σ' H'
  | .rt r ς' => ∀ v σ' H' G', Rel K F ς' G' σ' H' → Same G G' → RepR K F ς' G' σ' H' r v → D.rt v H'
  | .bk ς' => ∀ σ' H' G', Rel K F ς' G' σ' H' → Same G G' → D.bk σ' H'
  | .ct ς' => ∀ σ' H' G', Rel K F ς' G' σ' H' → Same G G' → D.ct σ' H'
theorem EndsOk.mono {K : PySem.W.Frag} {F : Fx} {G G1 : Hp} {D : Ends} {o : Out} (s : Same G G1) (h : EndsOk K F G D o) : EndsOk K F G1 D o := by
  cases o with
  | nx ς => exact fun σ' H' G' r z => h σ' H' G' r (s.trans z)
  | rt r ς => exact fun v σ' H' G' r z => h v σ' H' G' r (s.trans z)
  | bk ς => exact fun σ' H' G' r z => h σ' H' G' r (s.trans z)
  | ct ς => exact fun σ' H' G' r z => h σ' H' G' r (s.trans z)
def tSt (K : PySem.W.Frag) (F : Fx) (g : MS) : TS := fun D σ H => ∃ ς G, Rel K F ς G σ H ∧ ∃ o, g ς = some o ∧ EndsOk K F G D o
abbrev PSd (X : Cx) (st : Stmt) (g : MS) : Prop := ∀ F : Fx, PS X st (tSt X.K F g)
abbrev PSsd (X : Cx) (st : List Stmt) (g : MS) : Prop := ∀ F : Fx, PSs X st (tSt X.K F g)
section
variable {X : Cx} {a b c e : Expr} {es : List Expr} {fa fb fc f : M R} {ta : M Bool} {pos p p1 p2 p3 : Pos} {x : Str} {st : Stmt} {sts rest : List Stmt} {g g1 g2 : MS}
def skip : MS := fun ς => some (.nx ς)
def sq (g1 g2 : MS) : MS := fun ς => match g1 ς with
  | some (.nx ς') => g2 ς'
  | o => o
theorem s_nil : PSsd X [] skip := fun F => PSs.mono pss_nil fun D σ H hq => by
  obtain ⟨ς, G, rl, o, e, k⟩ := hq
  cases e
  exact k σ H G rl (Same.refl _)
theorem s_cons (h1 : PSd X st g1) (h2 : PSsd X rest g2) : PSsd X (st :: rest) (sq g1 g2) := fun F => PSs.mono (pss_cons (h1 F) (h2 F)) fun D σ H hq => by
  obtain ⟨ς, G, rl, o, e, k⟩ := hq
  unfold sq at e
  split at e
  · rename_i ς1 q
    exact ⟨ς, G, rl, _, q, fun σ' H' G' rl' s => ⟨ς1, G', rl', o, e, k.mono s⟩⟩
  · rename_i q
    refine ⟨ς, G, rl, o, e, ?_⟩
    cases o with
    | nx ς1 => exact absurd e (q ς1)
    | rt r ς1 => exact k
    | bk ς1 => exact k
    | ct ς1 => exact k
theorem s_one (h1 : PSd X st g1) : PSsd X [st] g1 := fun F => pss_one (h1 F)
def brk : MS := fun ς => some (.bk ς)
def exS (f : M R) : MS := fun ς => match f ς with
  | some (_, ς') => some (.nx ς')
  | none => none
def retS (f : M R) : MS := fun ς => match f ς with
  | some (.pure d, ς') => some (.rt (.pure d) ς')
  | some (.fresh ds, ς') => some (.rt (.fresh ds) ς')
  | some (.ref i, ς') => match ς'[i]? with
    | some (some (.own false ds)) => some (.rt (.fresh ds) (ς'.set i none))
    | some (some (.pure d)) => some (.rt (.pure d) ς')
    | some (some (.vx (.odc kvs))) => some (.rt (.vx (.dct kvs)) (ς'.set i (some (.vx (.dct kvs)))))
    | some (some (.vx (.dct kvs))) => some (.rt (.vx (.dct kvs)) ς')
    | _ => none
  | some (.vx x, ς') => some (.rt (.vx x) ς')
  | none => none
theorem Rel.move {K : PySem.W.Frag} {F : Fx} {ς : En} {G H : Hp} {σ : L2.St} (r : Rel K F ς G σ H) {i : Nat} {ds : List D} {v : V} (h : ς[i]? = some (some (.own false ds))) (hv : σ[i]? = some (some v)) :
    Rel K F (ς.set i none) G (σ.set i none) H ∧ RepR K F (ς.set i none) G (σ.set i none) H (.fresh ds) v := by
  have hf : free ς i = true := by unfold free; rw [h]
  obtain ⟨a, vs, e1, e2, e3, e4, _, e6⟩ := r.ow i false ds h
  rw [hv] at e1; cases e1
  refine ⟨r.setN hf, a, vs, rfl, e2, e3, e4, e6 rfl, fun j b es q z => ?_⟩
  replace q := get_set q; rcases q with ⟨rfl, q⟩ | ⟨n, q⟩
  · cases q
  · rw [List.getElem?_set_ne n] at z
    exact n (r.ap i j false b ds es a h q hv z)
theorem s_ret (he : PEd X e f) : PSd X (.Return (some e) pos) (retS f) := fun F => PS.mono (ps_ret (he F)) fun D σ H hq => by
  obtain ⟨ς, G, rl, o, e, k⟩ := hq
  unfold retS at e
  split at e
  · rename_i d ς1 q
    cases e
    exact ⟨ς, G, rl, _, ς1, q, fun v H' G' rl' s rep => k v σ H' G' rl' s rep⟩
  · rename_i ds ς1 q
    cases e
    exact ⟨ς, G, rl, _, ς1, q, fun v H' G' rl' s rep => k v σ H' G' rl' s rep⟩
  · rename_i i ς1 q
    refine ⟨ς, G, rl, _, ς1, q, fun v H' G' rl' s rep => ?_⟩
    split at e
    · rename_i ds q2
      cases e
      obtain ⟨r1, r2⟩ := rl'.move q2 rep
      exact k v _ H' G' r1 s r2
    · rename_i d q2
      cases e
      obtain ⟨w, h1, h2⟩ := rl'.pu i _ q2
      rw [show σ[i]? = some (some v) from rep] at h1
      cases h1
      exact k v σ H' G' rl' s h2
    · rename_i kvs q2
      cases e
      obtain ⟨G2, a, r1, s2, h1, h2⟩ := rl'.frzD q2
      rw [show σ[i]? = some (some v) from rep] at h1
      cases h1
      exact k _ σ H' G2 r1 (s.trans s2) ⟨(fun _ z => by cases z), h2⟩
    · rename_i kvs q2
      cases e
      obtain ⟨w, h1, h2⟩ := rl'.vx i _ q2
      rw [show σ[i]? = some (some v) from rep] at h1
      cases h1
      exact k _ σ H' G' rl' s ⟨(fun _ z => by cases z), h2⟩
    · cases e
  · rename_i x ς1 q
    cases e
    exact ⟨ς, G, rl, _, ς1, q, fun v H' G' rl' s rep => k v σ H' G' rl' s rep⟩
  · cases e
def ifS (t : M Bool) (g1 g2 : MS) : MS := fun ς => match t ς with
  | some (true, ς') => g1 ς'
  | some (false, ς') => g2 ς'
  | none => none
theorem s_if (hc : PTd X c ta) (h1 : PSsd X sts g1) (h2 : PSsd X rest g2) : PSd X (.If c sts rest pos) (ifS ta g1 g2) := fun F => PS.mono (ps_if (hc F) (h1 F) (h2 F)) fun D σ H hq => by
  obtain ⟨ς, G, rl, o, e, k⟩ := hq
  unfold ifS at e
  split at e
  · rename_i ς1 q
    refine ⟨ς, G, rl, true, ς1, q, fun H' G' rl' s => ?_⟩
    exact iteT ⟨ς1, G', rl', o, e, k.mono s⟩
  · rename_i ς1 q
    refine ⟨ς, G, rl, false, ς1, q, fun H' G' rl' s => ?_⟩
    exact iteF ⟨ς1, G', rl', o, e, k.mono s⟩
  · cases e
/-! ### targets -/
abbrev Tg := D → En → Option En
def tTg (K : PySem.W.Frag) (F : Fx) (vs : List Nat) (tg : Tg) : TG := fun v σ H Q => ∃ ς G d, Rel K F ς G σ H ∧ Dp K G v d ∧ ∃ ς', tg d ς = some ς' ∧ ∀ σ' H' G', Rel K F ς' G' σ' H' → Same G G' → wipe σ' vs = wipe σ vs → Q σ' H'
theorem _root_.L2.PG.mono {t t' : TG} {tg : Expr} (h : PG X tg t) (k : ∀ v σ H Q, t' v σ H Q → t v σ H Q) : PG X tg t' := ⟨fun pins s σ H v u Q I r hw => h.run pins s σ H v u Q I r (k v σ H Q hw)⟩
abbrev PGd (X : Cx) (e : Expr) (vs : List Nat) (tg : Tg) : Prop := ∀ F : Fx, PG X e (tTg X.K F vs tg)
def tgN (i : Nat) : Tg := fun d ς => if free ς i = true then some (ς.set i (some (.pure d))) else none
theorem wipe_set (σ : L2.St) (i : Nat) (o : Option V) : ∀ vs : List Nat, i ∈ vs → wipe (σ.set i o) vs = wipe σ vs
  | [], h => by cases h
  | j :: vs, h => by
    by_cases hm : i ∈ vs
    · unfold wipe; rw [wipe_set σ i o vs hm]
    · have e : i = j := by
        rcases List.mem_cons.mp h with e | e
        · exact e
        · exact absurd e hm
      subst e
      unfold wipe
      have : ∀ ws : List Nat, i ∉ ws → (wipe (σ.set i o) ws).set i none = (wipe σ ws).set i none := by
        intro ws
        induction ws with
        | nil => intro _; show (σ.set i o).set i none = σ.set i none; rw [List.set_set]
        | cons w ws ih =>
          intro hw
          have h1 : i ≠ w := fun z => hw (by rw [z]; exact List.mem_cons_self)
          have h2 : i ∉ ws := fun z => hw (List.mem_cons_of_mem _ z)
          show ((wipe (σ.set i o) ws).set w none).set i none = ((wipe σ ws).set w none).set i none
          rw [List.set_comm _ _ (Ne.symm h1), ih h2, List.set_comm _ _ h1]
      exact this vs hm
theorem g_name {i : Nat} (h : PG X (.Name x pos) (gName i)) : PGd X (.Name x pos) [i] (tgN i) := fun F => PG.mono h fun v σ H Q hq => by
  obtain ⟨ς, G, d, rl, hd, ς', e, k⟩ := hq
  unfold tgN at e
  split at e
  · rename_i q
    cases e
    exact k _ H G (rl.setP q hd) (Same.refl _) (wipe_set σ i _ [i] (by simp))
  · cases e
/-- several targets -/
abbrev Tgs := List D → En → Option En
def tTgs (K : PySem.W.Frag) (F : Fx) (vs : List Nat) (tg : Tgs) : TGs := fun ws σ H Q => ∃ ς G ds, Rel K F ς G σ H ∧ DpAll K G ws ds ∧ ∃ ς', tg ds ς = some ς' ∧ ∀ σ' H' G', Rel K F ς' G' σ' H' → Same G G' → wipe σ' vs = wipe σ vs → Q σ' H'
theorem _root_.L2.PGs.mono {t t' : TGs} {tg : List Expr} (h : PGs X tg t) (k : ∀ v σ H Q, t' v σ H Q → t v σ H Q) : PGs X tg t' := ⟨fun pins s σ H v u Q I r hw => h.run pins s σ H v u Q I r (k v σ H Q hw)⟩
abbrev PGsd (X : Cx) (e : List Expr) (vs : List Nat) (tg : Tgs) : Prop := ∀ F : Fx, PGs X e (tTgs X.K F vs tg)
def tgsN : Tgs := fun ds ς => match ds with
  | [] => some ς
  | _ => none
def tgsC (t : Tg) (u : Tgs) : Tgs := fun ds ς => match ds with
  | d :: r => match t d ς with
    | some ς' => u r ς'
    | none => none
  | [] => none
theorem gs_nil : PGsd X [] [] tgsN := fun F => PGs.mono pgs_nil fun v σ H Q hq => by
  obtain ⟨ς, G, ds, rl, hd, ς', e, k⟩ := hq
  cases hd with
  | nil => cases e; exact ⟨rfl, k σ H G rl (Same.refl _) rfl⟩
  | cons _ _ => cases e
theorem wipe_app (σ : L2.St) : ∀ vs ws : List Nat, wipe σ (vs ++ ws) = wipe (wipe σ ws) vs
  | [], _ => rfl
  | v :: vs, ws => by show (wipe σ (vs ++ ws)).set v none = (wipe (wipe σ ws) vs).set v none; rw [wipe_app σ vs ws]
theorem wipe_comm1 (σ : L2.St) (i : Nat) : ∀ vs : List Nat, wipe (σ.set i none) vs = (wipe σ vs).set i none
  | [] => rfl
  | v :: vs => by
    show (wipe (σ.set i none) vs).set v none = ((wipe σ vs).set v none).set i none
    rw [wipe_comm1 σ i vs]
    by_cases h : i = v
    · rw [h]
    · rw [List.set_comm _ _ h]
theorem wipe_comm (σ : L2.St) : ∀ vs ws : List Nat, wipe (wipe σ ws) vs = wipe (wipe σ vs) ws
  | [], _ => rfl
  | v :: vs, ws => by show (wipe (wipe σ ws) vs).set v none = wipe ((wipe σ vs).set v none) ws; rw [wipe_comm σ vs ws, wipe_comm1]
theorem gs_cons {e : Expr} {es : List Expr} {t : Tg} {u : Tgs} {vs ws : List Nat} (h1 : PGd X e vs t) (h2 : PGsd X es ws u) (hs : PGs X (e :: es) (gCons (fun v σ H Q => ∃ F, tTg X.K F vs t v σ H Q) (fun v σ H Q => ∃ F, tTgs X.K F ws u v σ H Q))) : PGsd X (e :: es) (vs ++ ws) (tgsC t u) := fun F => PGs.mono hs fun zs σ H Q hq => by
  obtain ⟨ς, G, ds, rl, hd, ς', e, k⟩ := hq
  cases hd with
  | nil => cases e
  | cons d1 d2 =>
    rename_i v r d ds'
    unfold tgsC at e
    simp only at e
    split at e
    · rename_i ς1 q
      refine ⟨v, r, rfl, F, ς, G, d, rl, d1, ς1, q, fun σ1 H1 G1 rl1 s1 w1 => ⟨F, ς1, G1, ds', rl1, dpa_same s1 d2, ς', e, fun σ2 H2 G2 rl2 s2 w2 => k σ2 H2 G2 rl2 (s1.trans s2) ?_⟩⟩
      rw [wipe_app, wipe_app, w2, wipe_comm, w1, wipe_comm]
    · cases e
theorem PGd.ex {e : Expr} {vs : List Nat} {t : Tg} (h : PGd X e vs t) : PG X e (fun v σ H Q => ∃ F, tTg X.K F vs t v σ H Q) := ⟨fun pins s σ H v u Q I r ⟨F, hw⟩ => (h F).run pins s σ H v u Q I r hw⟩
theorem PGsd.ex {e : List Expr} {vs : List Nat} {t : Tgs} (h : PGsd X e vs t) : PGs X e (fun v σ H Q => ∃ F, tTgs X.K F vs t v σ H Q) := ⟨fun pins s σ H v u Q I r ⟨F, hw⟩ => (h F).run pins s σ H v u Q I r hw⟩
theorem _root_.L2.PG.or {t t' : TG} {tg : Expr} (h : PG X tg t) (h' : PG X tg t') : PG X tg (fun v σ H Q => t v σ H Q ∨ t' v σ H Q) := ⟨fun pins s σ H v u Q I r hw => by
  rcases hw with hw | hw
  · exact h.run pins s σ H v u Q I r hw
  · exact h'.run pins s σ H v u Q I r hw⟩
def tgT (n : Nat) (u : Tgs) : Tg := fun d ς => match items d with
  | some ds => if ds.length = n then u ds ς else none
  | none => none
theorem g_tup {es : List Expr} {k n : Nat} {u : Tgs} {vs : List Nat} (h : PG X (.Tuple es k pos) (fun v σ H Q => gTup X.K n (fun v σ H Q => ∃ F, tTgs X.K F vs u v σ H Q) v σ H Q ∨ gLst X.K n (fun v σ H Q => ∃ F, tTgs X.K F vs u v σ H Q) v σ H Q)) : PGd X (.Tuple es k pos) vs (tgT n u) := fun F => PG.mono h fun v σ H Q hq => by
  obtain ⟨ς, G, d, rl, hd, ς', e, kk⟩ := hq
  unfold tgT at e
  split at e
  · rename_i ds q
    split at e
    · rename_i hl
      cases d with
      | list es =>
        cases q
        obtain ⟨a, ws, rfl, h1, h2⟩ := dp_list hd
        exact .inr ⟨a, ws, rfl, rl.sub.seq h1, by rw [dpa_len h2]; exact hl, F, ς, G, _, rl, h2, ς', e, kk⟩
      | tuple es =>
        cases q
        obtain ⟨a, ws, rfl, h1, h2⟩ := dp_tuple hd
        exact .inl ⟨a, ws, rfl, same_seqT rl.sub h1, by rw [dpa_len h2]; exact hl, F, ς, G, _, rl, h2, ς', e, kk⟩
      | _ => cases q
    · cases e
  · cases e
def tgS (fo fi : M R) : Tg := fun d ς => match fo ς with
  | some (.ref i, ς1) => match ptS fi ς1 with
    | some (some j, ς2) => match ς2[i]? with
      | some (some (.own b ds)) => match ixN ds.length j with
        | some n => some (ς2.set i (some (.own b (ds.set n d))))
        | none => none
      | _ => none
    | _ => none
  | _ => none
theorem PEd.ex {e : Expr} {f : M R} (h : PEd X e f) : PE X e (fun σ H Q => ∃ F, tEv X.K F f σ H Q) := ⟨fun pins s σ H Q I ⟨F, hw⟩ => (h F).run pins s σ H Q I hw⟩
theorem g_sub {o i : Expr} {fo fi : M R} (h : PG X (.Subscript o i pos) (gSub (fun σ H Q => ∃ F, tEv X.K F fo σ H Q) (fun σ H Q => ∃ F, tEv X.K F (sub fi) σ H Q) rSetL)) : PGd X (.Subscript o i pos) [] (tgS fo fi) := fun F => PG.mono h fun v σ H Q hq => by
  obtain ⟨ς, G, d, rl, hd, ς', e, k⟩ := hq
  unfold tgS at e
  split at e
  · rename_i n ς1 q1
    split at e
    · rename_i j ς2 q2
      split at e
      · rename_i b ds q3
        split at e
        · rename_i m q4
          cases e
          obtain ⟨r, ς3, e3, q5⟩ := bd_some q2
          obtain ⟨y, ς4, e4', q6⟩ := bd_some q5
          obtain ⟨e4, h4⟩ := rd_some e4'
          obtain ⟨e5, h5⟩ := lift_some q6
          subst h4 h5
          refine ⟨F, ς, G, rl, _, ς1, q1, fun ov H1 G1 rl1 s1 rep1 => ⟨F, ς1, G1, rl1, r, _, e3, fun iv H2 G2 rl2 s2 rep2 => ?_⟩⟩
          have ri := rdD_ok rl2 rep2 e4
          cases y with
          | int jj =>
            cases e5
            obtain ⟨a, ws, f1, f2, f3, f4, _⟩ := rl2.ow _ b ds q3
            rw [show σ[n]? = some (some ov) from rep1] at f1
            cases f1
            exact ⟨a, ws, j, m, rfl, ri.int, f2, by rw [dpa_len f4]; exact q4, k σ _ G2 (rl2.mut q3 rep1 (dpa_set (dp_same (s1.trans s2) hd) m f4)) (s1.trans s2) rfl⟩
          | _ => cases e5
        · cases e
      · cases e
    · cases e
  · cases e
/-- target = value -/
def asg (f : M R) (tg : Tg) : MS := fun ς => match esc f ς with
  | some (d, ς') => match tg d ς' with
    | some ς2 => some (.nx ς2)
    | none => none
  | none => none
theorem s_asg {tg : Expr} {vs : List Nat} {t : Tg} (he : PEd X e f) (hg : PGd X tg vs t) (hs : swapsWithSole [tg] e pos.line X.env = pure false := by rfl) (hw : swappedStores [tg] e X.env = pure none := by rfl) (h1 : (assignEach [tg] X.env).map (·.2) = [assign tg X.env] := by rfl) : PSd X (.Assign [tg] e pos) (asg f t) := fun F => PS.mono (ps_asg (d_esc he F) (hg F) hs hw h1) fun D σ H hq => by
  obtain ⟨ς, G, rl, o, e, k⟩ := hq
  unfold asg at e
  split at e
  · rename_i d ς1 q
    split at e
    · rename_i ς2 q2
      cases e
      exact ⟨ς, G, rl, d, ς1, q, fun v H' G' rl' s dp => ⟨ς1, G', d, rl', dp, ς2, q2, fun σ2 H2 G2 rl2 s2 _ => k σ2 H2 G2 rl2 (s.trans s2)⟩⟩
    · cases e
  · cases e
/-- name = a new list, the name's own -/
def asgO (i : Nat) (f : M R) : MS := fun ς => match f ς with
  | some (.fresh ds, ς') => if free ς' i = true then some (.nx (ς'.set i (some (.own false ds)))) else none
  | _ => none
theorem t_asgO {F : Fx} {i : Nat} : ∀ D σ H, tSt X.K F (asgO i f) D σ H → tAsg (tEv X.K F f) (gName i) D σ H := fun D σ H hq => by
  obtain ⟨ς, G, rl, o, e, k⟩ := hq
  unfold asgO at e
  split at e
  · rename_i ds ς1 q
    split at e
    · rename_i hf
      cases e
      exact ⟨ς, G, rl, _, ς1, q, fun v H' G' rl' s rep => k _ H' G' (rl'.setO hf rep) s⟩
    · cases e
  · cases e
theorem s_asgO {i : Nat} (he : PEd X e f) (h : ∀ te : TE, PE X e te → PS X st (tAsg te (gName i))) : PSd X st (asgO i f) := fun F => PS.mono (h _ (he F)) t_asgO
/-! ### a, b = x, y in one go -/
def put (i : Nat) : R → Option (Option S)
  | .pure d => some (some (.pure d))
  | .fresh ds => some (some (.own false ds))
  | .ref _ => none
  | .vx (.dct kvs) => some (some (.vx (.dct kvs)))
  | .vx _ => none
/-- what is to be stored: a datum, or (o) a new list as it is -/
def pv' (o : Bool) (f : M R) : M R := if o = true then f else bd (esc f) fun d => ret (.pure d)
theorem d_pv (o : Bool) (h : PEd X e f) : PEd X e (pv' o f) := by
  cases o with
  | true => exact h
  | false =>
    intro F
    refine PE.mono (d_esc h F) fun σ H Q hq => ?_
    obtain ⟨ς, G, rl, r, ς', e, k⟩ := hq
    obtain ⟨d, ς1, e1, q1⟩ := bd_some e
    cases q1
    exact ⟨ς, G, rl, d, _, e1, k⟩
def par2 (i j : Nat) (o1 o2 : Bool) (fa fb : M R) : MS := fun ς => match bd (pv' o1 fa) (fun x => bd (pv' o2 fb) fun y => ret (x, y)) ς with
  | some ((x, y), ς') => match put i x, put j y with
    | some s, some t => if free ς' i = true ∧ free (ς'.set i s) j = true ∧ i ≠ j then some (.nx ((ς'.set i s).set j t)) else none
    | _, _ => none
  | none => none
theorem Rel.put {K : PySem.W.Frag} {F : Fx} {ς : En} {G H : Hp} {σ : L2.St} (r : Rel K F ς G σ H) {i : Nat} {x : R} {v : V} {s : Option S} (hf : free ς i = true) (hs : put i x = some s) (h : RepR K F ς G σ H x v) : Rel K F (ς.set i s) G (σ.set i (some v)) H := by
  cases x with
  | pure d => cases hs; exact r.setP hf h
  | fresh ds => cases hs; exact r.setO hf h
  | ref k => cases hs
  | vx x =>
    cases x with
    | dct kvs => cases hs; exact r.setX hf h.2 h.1
    | _ => cases hs
def par3 (i j l : Nat) (fa fb fc : M R) : MS := fun ς => match bd (esc fa) (fun x => bd (esc fb) fun y => bd (esc fc) fun z => ret (x, y, z)) ς with
  | some ((x, y, z), ς') => if free ς' i = true ∧ free (ς'.set i (some (.pure x))) j = true ∧ free ((ς'.set i (some (.pure x))).set j (some (.pure y))) l = true then some (.nx (((ς'.set i (some (.pure x))).set j (some (.pure y))).set l (some (.pure z)))) else none
  | none => none
theorem PDd.ex {e : Expr} {f : M D} (h : PDd X e f) : PE X e (fun σ H Q => ∃ F, tEvD X.K F f σ H Q) := ⟨fun pins s σ H Q I ⟨F, hw⟩ => (h F).run pins s σ H Q I hw⟩
theorem s_par3 {i j l : Nat} (ha : PEd X a fa) (hb : PEd X b fb) (hc : PEd X c fc) (h : ∀ t : TA, PA X [a, b, c] t → PS X st (tPar3 i j l t)) (hs1 : starEach [a, b, c] X.env = (false, eval a X.env) :: starEach [b, c] X.env := by rfl) (hs2 : starEach [b, c] X.env = (false, eval b X.env) :: starEach [c] X.env := by rfl) (hs3 : starEach [c] X.env = (false, eval c X.env) :: starEach [] X.env := by rfl) : PSd X st (par3 i j l fa fb fc) := fun F =>
  PS.mono (h _ (pa_cons (d_esc ha F) (pa_cons (d_esc hb F) (pa_cons (d_esc hc F) pa_nil hs3) hs2) hs1)) fun D σ H hq => by
    obtain ⟨ς, G, rl, o, e, k⟩ := hq
    unfold par3 at e
    split at e
    · rename_i x y z ς' q
      obtain ⟨x', ς1, e1, q1⟩ := bd_some q
      obtain ⟨y', ς2, e2, q2⟩ := bd_some q1
      obtain ⟨z', ς3, e3, q3⟩ := bd_some q2
      cases q3
      split at e
      · rename_i hf
        cases e
        exact ⟨ς, G, rl, _, ς1, e1, fun v H1 G1 rl1 s1 d1 => ⟨ς1, G1, rl1, _, ς2, e2, fun w H2 G2 rl2 s2 d2 => ⟨ς2, G2, rl2, _, _, e3, fun u H3 G3 rl3 s3 d3 => ⟨v, w, u, rfl,
          k _ H3 G3 (((rl3.setP hf.1 (dp_same (s2.trans s3) d1)).setP hf.2.1 (dp_same s3 d2)).setP hf.2.2 d3) (s1.trans (s2.trans s3))⟩⟩⟩⟩
      · cases e
    · cases e
end
end Lw
namespace Lw
open PySem PySem.Spec PyProof.Rows L2
/-! ### what is walked -/
structure WalkD (K : PySem.W.Frag) (G : Hp) (J : It) (ds : List D) : Prop where
  stop : ∀ H, Same G H → J.stop ds.length H
  go : ∀ i H, i < ds.length → Same G H → J.go i H
  yld : ∀ (i : Nat) H x H' d, Same G H → J.yld i H x H' → ds[i]? = some d → (H' = H ∧ Dp K G x d) ∨ ∃ T xs es, x = .ref T ∧ H T = none ∧ H' = upd H T (.tup xs) ∧ d = .tuple es ∧ DpAll K G xs es
theorem WalkD.mono {K : PySem.W.Frag} {G G' : Hp} {J : It} {ds : List D} (w : WalkD K G J ds) (s : Same G G') : WalkD K G' J ds where
  stop := fun H h => w.stop H (s.trans h)
  go := fun i H hi h => w.go i H hi (s.trans h)
  yld := fun i H x H' d h y e => by
    rcases w.yld i H x H' d (s.trans h) y e with ⟨h1, h2⟩ | ⟨T, xs, es, h1, h2, h3, h4, h5⟩
    · exact .inl ⟨h1, dp_same s h2⟩
    · exact .inr ⟨T, xs, es, h1, h2, h3, h4, dpa_same s h5⟩
def tEvI (K : PySem.W.Frag) (F : Fx) (f : M (List D)) : TI := fun σ H R => ∃ ς G, Rel K F ς G σ H ∧ ∃ ds ς', f ς = some (ds, ς') ∧ ∀ J H' G', Rel K F ς' G' σ H' → Same G G' → WalkD K G' J ds → R J H'
theorem _root_.L2.PI.mono {X : Cx} {tg it : Expr} {t t' : TI} (h : PI X tg it t) (k : ∀ σ H R, t' σ H R → t σ H R) : PI X tg it t' := ⟨fun pins s σ H R I hw => h.run pins s σ H R I (k σ H R hw)⟩
theorem _root_.L2.PI.or {X : Cx} {tg it : Expr} {t t' : TI} (h : PI X tg it t) (h' : PI X tg it t') : PI X tg it (fun σ H R => t σ H R ∨ t' σ H R) := ⟨fun pins s σ H R I hw => by
  rcases hw with hw | hw
  · exact h.run pins s σ H R I hw
  · exact h'.run pins s σ H R I hw⟩
abbrev PId (X : Cx) (tg it : Expr) (f : M (List D)) : Prop := ∀ F : Fx, PI X tg it (tEvI X.K F f)
section
variable {X : Cx} {a b c e tg : Expr} {es : List Expr} {fa fb fc f : M R} {ta : M Bool} {pos p p1 p2 p3 : Pos} {x : Str} {st : Stmt} {sts rest : List Stmt} {g g1 g2 : MS}
variable {K : PySem.W.Frag} {G : Hp}
/-- over a list or tuple -/
def itS (f : M R) : M (List D) := bd (esc f) fun d => lift (items d)
/-- range(n), range(a, b) -/
def rngD (lo : Int) : Nat → List D
  | 0 => []
  | n + 1 => .int lo :: rngD (lo + 1) n
theorem rngD_len : ∀ (n : Nat) (lo : Int), (rngD lo n).length = n
  | 0, _ => rfl
  | n + 1, lo => by rw [rngD, List.length_cons, rngD_len n]
theorem rngD_get : ∀ (n : Nat) (lo : Int) (i : Nat), i < n → (rngD lo n)[i]? = some (.int (lo + i))
  | 0, _, _, h => absurd h (Nat.not_lt_zero _)
  | n + 1, lo, 0, _ => by rw [rngD]; simp
  | n + 1, lo, i + 1, h => by
    rw [rngD, List.getElem?_cons_succ, rngD_get n (lo + 1) i (by omega)]
    congr 2
    push_cast
    omega
theorem walk_rng {lo : Int} {n : Nat} : WalkD K G (Itr lo n) (rngD lo n) where
  stop := fun H s => by rw [rngD_len]; exact Nat.le_refl _
  go := fun i H hl s => by rw [rngD_len] at hl; exact hl
  yld := fun i H x H' d s y e => by
    have hl := (List.getElem?_eq_some_iff.mp e).1
    rw [rngD_len] at hl
    rw [rngD_get n lo i hl] at e
    cases e
    obtain ⟨y1, rfl⟩ := y
    exact .inl ⟨y1, .int _⟩
def inR (i : Int) : Bool := decide (-(2 ^ 62) ≤ i) && decide (i < 2 ^ 62)
def itR1 (f : M R) : M (List D) := bd (sub f) fun r => bd (rd r) fun d => match d with
  | .int n => if inR n = true then ret (rngD 0 n.toNat) else lift none
  | _ => lift none
def itR2 (fa fb : M R) : M (List D) := bd (sub fa) fun r => bd (sub fb) fun r2 => bd (rd r) fun d => bd (rd r2) fun d2 => match d, d2 with
  | .int m, .int n => if inR m = true ∧ inR n = true then ret (rngD m (n - m).toNat) else lift none
  | _, _ => lift none
theorem i_rng1 (hg : Gl X "range") (hm : X.mg "range" = none) (ha : PEd X a fa) (hs : starEach [a] X.env = [(false, eval a X.env)] := by rfl) : PId X tg (.Call (.Name "range" p) [a] [] pos) (itR1 fa) := fun F => PI.mono (pi_range1 hg hm (pa_cons (d_sub ha F) pa_nil hs) hs) fun σ H R hq => by
  obtain ⟨ς, G, rl, ds, ς', e, k⟩ := hq
  obtain ⟨r, ς1, e1, q1⟩ := bd_some e
  obtain ⟨d, ς2, e2', q2⟩ := bd_some q1
  obtain ⟨e2, h2⟩ := rd_some e2'
  subst h2
  refine ⟨ς, G, rl, r, _, e1, fun v H1 G1 rl1 s1 rep1 => ?_⟩
  have rv := rdD_ok rl1 rep1 e2
  cases d with
  | int n =>
    by_cases hn : inR n = true
    · replace q2 : (if inR n = true then ret (rngD 0 n.toNat) else lift none) _ = some (ds, ς') := q2
      rw [if_pos hn] at q2
      cases q2
      unfold inR at hn
      simp only [Bool.and_eq_true, decide_eq_true_eq] at hn
      refine ⟨n, by rw [rv.int], hn.1, hn.2, k _ H1 G1 rl1 s1 ?_⟩
      exact walk_rng
    · replace q2 : (if inR n = true then ret (rngD 0 n.toNat) else lift none) _ = some (ds, ς') := q2
      rw [if_neg hn] at q2
      cases q2
  | _ => cases q2
/-- enumerate(xs) of a list -/
def enumD : Nat → List D → List D
  | _, [] => []
  | i, d :: ds => .tuple [.int i, d] :: enumD (i + 1) ds
theorem enumD_len : ∀ (ds : List D) (i : Nat), (enumD i ds).length = ds.length
  | [], _ => rfl
  | d :: ds, i => by rw [enumD, List.length_cons, List.length_cons, enumD_len ds]
theorem enumD_get : ∀ (ds : List D) (i j : Nat), (enumD i ds)[j]? = (ds[j]?).map fun d => PyData.tuple [.int ((i + j : Nat) : Int), d]
  | [], _, _ => rfl
  | d :: ds, i, 0 => by rw [enumD]; simp
  | d :: ds, i, j + 1 => by
    rw [enumD, List.getElem?_cons_succ, List.getElem?_cons_succ, enumD_get ds (i + 1) j]
    congr
    funext d
    congr 4
    omega
def itE (f : M R) : M (List D) := bd (esc f) fun d => match d with
  | .list ds => ret (enumD 0 ds)
  | _ => lift none
theorem i_enum {elts : List Expr} {kk : Nat} (hg : Gl X "enumerate") (hm : X.mg "enumerate" = none) (ha : PEd X a fa) (hs : starEach [a] X.env = [(false, eval a X.env)] := by rfl) : PId X (.Tuple elts kk p2) (.Call (.Name "enumerate" p) [a] [] pos) (itE fa) := fun F => PI.mono (pi_enum hg hm (pa_cons (d_esc ha F) pa_nil hs) hs) fun σ H R hq => by
  obtain ⟨ς, G, rl, ds, ς', e, k⟩ := hq
  obtain ⟨d, ς1, e1, q1⟩ := bd_some e
  refine ⟨ς, G, rl, d, _, e1, fun v H1 G1 rl1 s1 dp => ?_⟩
  cases d with
  | list es =>
    cases q1
    obtain ⟨l, vs, rfl, h1, h2⟩ := dp_list dp
    refine ⟨l, vs, rfl, rl1.sub.seq h1, k _ H1 G1 rl1 s1 ⟨fun H s => ⟨vs, s.seq h1, by rw [enumD_len, dpa_len h2]; exact Nat.le_refl _⟩, fun i H hl s => ?_, fun i H x H' d s y e => ?_⟩⟩
    · rw [enumD_len] at hl
      obtain ⟨v, e, _⟩ := dpa_get h2 (List.getElem?_eq_getElem hl)
      exact ⟨vs, v, s.seq h1, e⟩
    · obtain ⟨T, z, rfl, hT, rfl, hz⟩ := y
      rw [enumD_get] at e
      cases q : es[i]? with
      | none => rw [q] at e; cases e
      | some d' =>
        rw [q] at e
        cases e
        obtain ⟨v, f1, f2⟩ := dpa_get h2 q
        have := hz vs (s.seq h1)
        rw [f1] at this; cases this
        refine .inr ⟨T, _, _, rfl, hT, rfl, rfl, .cons ?_ (.cons f2 .nil)⟩
        rw [Nat.zero_add]
        exact .int _
  | _ => cases q1
/-- zip of two lists or two tuples -/
def zipD : List D → List D → List D
  | a :: as, b :: bs => .tuple [a, b] :: zipD as bs
  | _, _ => []
theorem zipD_len : ∀ (xs ys : List D), (zipD xs ys).length = min xs.length ys.length
  | [], ys => by rw [zipD]; simp; simp
  | a :: as, [] => by rw [zipD]; simp; simp
  | a :: as, b :: bs => by rw [zipD, List.length_cons, zipD_len as bs, List.length_cons, List.length_cons]; omega
theorem zipD_get : ∀ (xs ys : List D) (i : Nat) (d : D), (zipD xs ys)[i]? = some d → ∃ a b, xs[i]? = some a ∧ ys[i]? = some b ∧ d = .tuple [a, b]
  | [], ys, i, d, e => by rw [zipD] at e; simp at e; simp
  | a :: as, [], i, d, e => by rw [zipD] at e; simp at e; simp
  | a :: as, b :: bs, 0, d, e => by rw [zipD] at e; simp at e; exact ⟨a, b, rfl, rfl, e.symm⟩
  | a :: as, b :: bs, i + 1, d, e => by
    rw [zipD, List.getElem?_cons_succ] at e
    obtain ⟨u, v, h1, h2, h3⟩ := zipD_get as bs i d e
    exact ⟨u, v, by rw [List.getElem?_cons_succ]; exact h1, by rw [List.getElem?_cons_succ]; exact h2, h3⟩
def itZ (fa fb : M R) : M (List D) := bd (esc fa) fun d => bd (esc fb) fun d2 => match d, d2 with
  | .list xs, .list ys => ret (zipD xs ys)
  | .tuple xs, .tuple ys => ret (zipD xs ys)
  | _, _ => lift none
theorem i_zip {elts : List Expr} {kk : Nat} (hg : Gl X "zip") (hm : X.mg "zip" = none) (ha : PEd X a fa) (hb : PEd X b fb) (hs1 : starEach [a, b] X.env = (false, eval a X.env) :: starEach [b] X.env := by rfl) (hs2 : starEach [b] X.env = (false, eval b X.env) :: starEach [] X.env := by rfl) (hpl : (backTo pos (starEach [b] X.env)).any (·.1) = false := by rfl) :
    PId X (.Tuple elts kk p2) (.Call (.Name "zip" p) [a, b] [] pos) (itZ fa fb) := fun F => PI.mono (RZ.pi_zipA hg hm (pa_cons (d_esc ha F) (pa_cons (d_esc hb F) pa_nil hs2) hs1) hs1 hpl) fun σ H R hq => by
  obtain ⟨ς, G, rl, ds, ς', e, k⟩ := hq
  obtain ⟨d, ς1, e1, q1⟩ := bd_some e
  obtain ⟨d2, ς2, e2, q2⟩ := bd_some q1
  refine ⟨ς, G, rl, d, _, e1, fun v H1 G1 rl1 s1 dp => ⟨ς1, G1, rl1, d2, ς2, e2, fun w H2 G2 rl2 s2 dp2 => ?_⟩⟩
  cases d with
  | list xs =>
    cases d2 with
    | list ys =>
      cases q2
      obtain ⟨l, vs, rfl, h1, h2⟩ := dp_list (dp_same s2 dp)
      obtain ⟨l2, ws, rfl, h3, h4⟩ := dp_list dp2
      refine ⟨l, l2, vs, ws, rfl, .inl ⟨rl2.sub.seq h1, rl2.sub.seq h3, k _ H2 G2 rl2 (s1.trans s2) ⟨fun H s => ⟨vs, ws, s.seq h1, s.seq h3, ?_⟩, fun i H hl s => ?_, fun i H x H' d s y e => ?_⟩⟩⟩
      · rw [zipD_len, dpa_len h2, dpa_len h4]; omega
      · rw [zipD_len] at hl
        obtain ⟨v, f1, _⟩ := dpa_get h2 (List.getElem?_eq_getElem (i := i) (by omega))
        obtain ⟨w, f2, _⟩ := dpa_get h4 (List.getElem?_eq_getElem (i := i) (by omega))
        exact ⟨vs, ws, v, w, s.seq h1, s.seq h3, f1, f2⟩
      · obtain ⟨T, u, z, rfl, hT, rfl, z1, z2⟩ := y
        obtain ⟨a', b', f1, f2, rfl⟩ := zipD_get xs ys i d e
        obtain ⟨v1, g1, g2⟩ := dpa_get h2 f1
        obtain ⟨v2, g3, g4⟩ := dpa_get h4 f2
        have t1 := z1 vs (s.seq h1)
        have t2 := z2 ws (s.seq h3)
        rw [g1] at t1; cases t1
        rw [g3] at t2; cases t2
        exact .inr ⟨T, _, _, rfl, hT, rfl, rfl, .cons g2 (.cons g4 .nil)⟩
    | _ => cases q2
  | tuple xs =>
    cases d2 with
    | tuple ys =>
      cases q2
      obtain ⟨l, vs, rfl, h1, h2⟩ := dp_tuple (dp_same s2 dp)
      obtain ⟨l2, ws, rfl, h3, h4⟩ := dp_tuple dp2
      refine ⟨l, l2, vs, ws, rfl, .inr ⟨same_seqT rl2.sub h1, same_seqT rl2.sub h3, k _ H2 G2 rl2 (s1.trans s2) ⟨fun H s => ⟨vs, ws, same_seqT s h1, same_seqT s h3, ?_⟩, fun i H hl s => ?_, fun i H x H' d s y e => ?_⟩⟩⟩
      · rw [zipD_len, dpa_len h2, dpa_len h4]; omega
      · rw [zipD_len] at hl
        obtain ⟨v, f1, _⟩ := dpa_get h2 (List.getElem?_eq_getElem (i := i) (by omega))
        obtain ⟨w, f2, _⟩ := dpa_get h4 (List.getElem?_eq_getElem (i := i) (by omega))
        exact ⟨vs, ws, v, w, same_seqT s h1, same_seqT s h3, f1, f2⟩
      · obtain ⟨T, u, z, rfl, hT, rfl, z1, z2⟩ := y
        obtain ⟨a', b', f1, f2, rfl⟩ := zipD_get xs ys i d e
        obtain ⟨v1, g1, g2⟩ := dpa_get h2 f1
        obtain ⟨v2, g3, g4⟩ := dpa_get h4 f2
        have t1 := z1 vs (same_seqT s h1)
        have t2 := z2 ws (same_seqT s h3)
        rw [g1] at t1; cases t1
        rw [g3] at t2; cases t2
        exact .inr ⟨T, _, _, rfl, hT, rfl, rfl, .cons g2 (.cons g4 .nil)⟩
    | _ => cases q2
  | _ => cases q2
/-! ### for -/
def loop (tg : Tg) (body : MS) : List D → MS
  | [], ς => some (.nx ς)
  | d :: ds, ς => match tg d ς with
    | some ς1 => match body ς1 with
      | some (.nx ς2) => loop tg body ds ς2
      | some (.ct ς2) => loop tg body ds ς2
      | some (.bk ς2) => some (.nx ς2)
      | some (.rt r ς2) => some (.rt r ς2)
      | none => none
    | none => none
def forS (f : M (List D)) (tg : Tg) (body : MS) : MS := fun ς => match f ς with
  | some (ds, ς1) => loop tg body ds ς1
  | none => none
theorem Rel.tupled {F : Fx} {ς : En} {σ : L2.St} {H : Hp} {J : It} {ds : List D} {i : Nat} {v : V} {H' : Hp} {d : D} (r : Rel K F ς G σ H) {G1 : Hp} (s1 : Same G1 G) (w : WalkD K G1 J ds) (y : J.yld i H v H') (e : ds[i]? = some d) : ∃ G', Rel K F ς G' σ H' ∧ Same G G' ∧ Dp K G' v d := by
  rcases w.yld i H v H' d (s1.trans r.sub) y e with ⟨rfl, h2⟩ | ⟨T, xs, es, rfl, h2, rfl, rfl, h5⟩
  · exact ⟨G, r, Same.refl _, dp_same s1 h2⟩
  · exact ⟨_, r.lay h2, same_upd (r.gnone h2), r.layD h2 (dpa_same s1 h5)⟩
theorem s_for {it : Expr} {fi : M (List D)} {vs : List Nat} {t : Tg} (hp : PassesOwn (model X.prog X.w) X.A X.env X.xe) (hc : X.calm = true) (hi : PId X tg it fi) (hg : PGd X tg vs t) (hb : PSsd X sts g) (hs : ∀ x, foldedSetIterable it X.env x = pure x := by intro _; rfl) : PSd X (.For tg it sts [] pos) (forS fi t g) := fun F =>
  PS.mono (ps_for hp hc (hi F) (hg F) (hb F) hs) fun D σ H hq => by
    obtain ⟨ς, G, rl, o, e, k⟩ := hq
    unfold forS at e
    split at e
    · rename_i ds ς1 q
      refine ⟨ς, G, rl, ds, ς1, q, fun J H1 G1 rl1 s1 wk => ?_⟩
      refine ⟨fun i m σ' H' => m = ds.length - i ∧ i ≤ ds.length ∧ ∃ ς' G' o', Rel X.K F ς' G' σ' H' ∧ Same G1 G' ∧ loop t g (ds.drop i) ς' = some o' ∧ EndsOk X.K F G' D o', ⟨ds.length, by simp, Nat.zero_le _, ς1, G1, o, rl1, Same.refl _, e, k.mono s1⟩, ?_⟩
      rintro i m σ' H' ⟨rfl, hi', ς', G', o', rl', s', e', k'⟩
      by_cases hlt : i < ds.length
      · rw [List.drop_eq_getElem_cons hlt, loop] at e'
        split at e'
        · rename_i ς2 q2
          refine .inr ⟨wk.go i H' hlt (s'.trans rl'.sub), fun σ3 H3 => ∃ ς3 G3 o3, Rel X.K F ς3 G3 σ3 H3 ∧ Same G1 G3 ∧ loop t g (ds.drop (i + 1)) ς3 = some o3 ∧ EndsOk X.K F G3 D o3, fun σ3 H3 h3 => ⟨ds.length - (i + 1), by omega, rfl, hlt, h3⟩, fun v H2 y => ?_⟩
          obtain ⟨G2, rl2, s2, dp2⟩ := rl'.tupled s' wk y (List.getElem?_eq_getElem hlt)
          refine ⟨ς', G2, _, rl2, dp2, ς2, q2, fun σ3 H3 G3 rl3 s3 _ => ?_⟩
          have s13 : Same G1 G3 := s'.trans (s2.trans s3)
          split at e'
          · rename_i ς4 q4
            exact ⟨ς2, G3, rl3, _, q4, fun σ5 H5 G5 rl5 s5 => ⟨ς4, G5, o', rl5, s13.trans s5, e', k'.mono (s2.trans (s3.trans s5))⟩⟩
          · rename_i ς4 q4
            exact ⟨ς2, G3, rl3, _, q4, fun σ5 H5 G5 rl5 s5 => ⟨ς4, G5, o', rl5, s13.trans s5, e', k'.mono (s2.trans (s3.trans s5))⟩⟩
          · rename_i ς4 q4
            cases e'
            exact ⟨ς2, G3, rl3, _, q4, fun σ5 H5 G5 rl5 s5 => k' σ5 H5 G5 rl5 (s2.trans (s3.trans s5))⟩
          · rename_i r ς4 q4
            cases e'
            exact ⟨ς2, G3, rl3, _, q4, fun v σ5 H5 G5 rl5 s5 rep => k' v σ5 H5 G5 rl5 (s2.trans (s3.trans s5)) rep⟩
          · cases e'
        · cases e'
      · have ei : i = ds.length := by omega
        subst ei
        rw [List.drop_length, loop] at e'
        cases e'
        exact .inl ⟨wk.stop H' (s'.trans rl'.sub), k' σ' H' G' rl' (Same.refl _)⟩
    · cases e
end
end Lw
namespace Lw
open PySem PySem.Spec PyProof.Rows L2
section
variable {K : PySem.W.Frag} {F : Fx} {ς ς' : En} {G H G' H' : Hp} {σ σ' : L2.St}
def wipeE (ς : En) : List Nat → En
  | [] => ς
  | v :: vs => (wipeE ς vs).set v none
def freeAll (ς : En) (vs : List Nat) : Bool := vs.all (free ς)
theorem free_set {i j : Nat} (h : free ς i = true) : free (ς.set j none) i = true := by
  unfold free at h ⊢
  by_cases e : j = i
  · subst e
    by_cases hl : j < ς.length
    · rw [List.getElem?_set_self hl]
    · rw [List.getElem?_eq_none (by omega)] at h; cases h
  · rw [List.getElem?_set_ne e]; exact h
theorem free_wipeE {i : Nat} (h : free ς i = true) : ∀ vs : List Nat, free (wipeE ς vs) i = true
  | [] => h
  | v :: vs => free_set (free_wipeE h vs)
theorem Rel.wiped (r : Rel K F ς G σ H) : ∀ vs : List Nat, freeAll ς vs = true → Rel K F (wipeE ς vs) G (wipe σ vs) H
  | [], _ => r
  | v :: vs, h => by
    unfold freeAll at h
    rw [List.all_cons, Bool.and_eq_true] at h
    exact (r.wiped vs h.2).setN (free_wipeE h.1 vs)
theorem Rel.unwipe {vs : List Nat} (r : Rel K F ς G (wipe σ vs) H) : Rel K F ς G σ H where
  len := by rw [← r.len, wipe_length]
  sub := r.sub
  g0 := r.g0
  pu := fun i d e => by
    obtain ⟨v, h1, h2⟩ := r.pu i d e
    exact ⟨v, (wipe_some h1).1, h2⟩
  ow := fun i b ds e => by
    obtain ⟨a, ws, h1, h2⟩ := r.ow i b ds e
    exact ⟨a, ws, (wipe_some h1).1, h2⟩
  ap := fun i j b c ds es a q1 q2 q3 q4 => by
    obtain ⟨a1, _, h1, _⟩ := r.ow i b ds q1
    obtain ⟨a2, _, h2, _⟩ := r.ow j c es q2
    have e1 := (wipe_some h1).1
    have e2 := (wipe_some h2).1
    rw [q3] at e1; cases e1
    rw [q4] at e2; cases e2
    exact r.ap i j b c ds es a q1 q2 h1 h2
  par := r.par
  fr := r.fr
  nw := r.nw
  vx := fun i x e => by
    obtain ⟨v, h1, h2⟩ := r.vx i x e
    exact ⟨v, (wipe_some h1).1, h2⟩
  od := fun i kvs e => by
    obtain ⟨a, o, h1, h2⟩ := r.od i kvs e
    exact ⟨a, o, (wipe_some h1).1, h2⟩
  oa := fun i j kvs kws a q1 q2 q3 q4 => by
    obtain ⟨a1, _, h1, _⟩ := r.od i kvs q1
    obtain ⟨a2, _, h2, _⟩ := r.od j kws q2
    have e1 := (wipe_some h1).1
    have e2 := (wipe_some h2).1
    rw [q3] at e1; cases e1
    rw [q4] at e2; cases e2
    exact r.oa i j kvs kws a q1 q2 h1 h2
/-- something of nobody's is changed -/
theorem Rel.touchG (r : Rel K F ς G σ H) {a : Addr} {o : HO} (h2 : G a = none) (h4 : F.H0 a = none) (h5 : ∀ (i : Nat) b es, ς[i]? = some (some (.own b es)) → σ[i]? ≠ some (some (.ref a))) (hd : ∀ (i : Nat) kvs, ς[i]? = some (some (.vx (.odc kvs))) → σ[i]? ≠ some (some (.ref a))) : Rel K F ς G σ (upd H a o) where
  len := r.len
  sub := fun b x e => by
    rw [upd_ne (ne_of_none e h2)]; exact r.sub _ _ e
  g0 := r.g0
  pu := r.pu
  ow := fun i b ds e => by
    obtain ⟨a', vs, e1, e2, e3⟩ := r.ow i b ds e
    have ne : a' ≠ a := fun z => by subst z; exact h5 i b ds e e1
    exact ⟨a', vs, e1, by rw [upd_ne ne]; exact e2, e3⟩
  ap := r.ap
  par := r.par
  fr := fun b x e na => by
    rw [upd_ne (ne_of_none e h4)]; exact r.fr b x e na
  nw := r.nw
  vx := r.vx
  od := fun i kvs e => by
    obtain ⟨a', o', e1, e2, e3⟩ := r.od i kvs e
    have ne : a' ≠ a := fun z => by subst z; exact hd i kvs e e1
    exact ⟨a', o', e1, by rw [upd_ne ne]; exact e2, e3⟩
  oa := r.oa
theorem Rel.touch (r : Rel K F ς G σ H) {a : Addr} {o : HO} (h2 : G a = none) (h4 : F.H0 a = none) (h5 : ∀ (i : Nat) b es, ς[i]? = some (some (.own b es)) → σ[i]? ≠ some (some (.ref a))) {ws : List V} (h6 : H a = some (.lst ws)) : Rel K F ς G σ (upd H a o) := r.touchG h2 h4 h5 (r.lno h6)
end
/-! ### [e for x in xs] -/
def lcLoop (vs : List Nat) (tg : Tg) (tt : M Bool) (fe : M R) : List D → List D → En → Option (List D × En)
  | [], acc, ς => some (acc, ς)
  | d :: ds, acc, ς => match tg d ς with
    | some ς1 => match tt ς1 with
      | some (true, ς2) => match esc fe ς2 with
        | some (y, ς3) => if freeAll ς3 vs = true ∧ acc.length < sizeLine then lcLoop vs tg tt fe ds (acc ++ [y]) (wipeE ς3 vs) else none
        | none => none
      | some (false, ς2) => if freeAll ς2 vs = true then lcLoop vs tg tt fe ds acc (wipeE ς2 vs) else none
      | none => none
    | none => none
def lcE (fi : M (List D)) (vs : List Nat) (tg : Tg) (tt : M Bool) (fe : M R) : M R := fun ς => match fi ς with
  | some (ds, ς1) => if freeAll ς1 vs = true then match lcLoop vs tg tt fe ds [] (wipeE ς1 vs) with
      | some (acc, ς2) => some (.fresh acc, ς2)
      | none => none
    else none
  | none => none
section
variable {X : Cx} {a b c e tg : Expr} {es : List Expr} {fa fb fc f fe : M R} {ta : M Bool} {pos p p1 p2 p3 : Pos} {x : Str} {st : Stmt} {sts rest : List Stmt} {g g1 g2 : MS}
abbrev gEx (K : PySem.W.Frag) (vs : List Nat) (t : Tg) : TG := fun v σ H Q => ∃ F, tTg K F vs t v σ H Q
abbrev tEx (K : PySem.W.Frag) (t : M Bool) : TT := fun σ H Q => ∃ F, tEvT K F t σ H Q
abbrev eEx (K : PySem.W.Frag) (f : M D) : TE := fun σ H Q => ∃ F, tEvD K F f σ H Q
theorem t_lc {K : PySem.W.Frag} {fi : M (List D)} {vs : List Nat} {t : Tg} (F : Fx) : ∀ σ H Q, tEv K F (lcE fi vs t ta fe) σ H Q → tLc (fun σ H R => ∃ F, tEvI K F fi σ H R) (gEx K vs t) (tEx K ta) (eEx K (esc fe)) vs σ H Q := fun σ H Q hq => by
  obtain ⟨ς, G, rl, r, ς', e, k⟩ := hq
  unfold lcE at e
  split at e
  · rename_i ds ς1 q1
    split at e
    · rename_i hf
      split at e
      · rename_i accF ς2 q2
        cases e
        refine ⟨F, ς, G, rl, ds, ς1, q1, fun J H1 G1 rl1 s1 wk L hL => ?_⟩
        refine ⟨fun i m H' => m = ds.length - i ∧ i ≤ ds.length ∧ ∃ ςi Gi acc accV, Rel K F ςi Gi (wipe σ vs) H' ∧ Same G1 Gi ∧ H' L = some (.lst accV) ∧ Gi L = none ∧ DpAll K Gi accV acc ∧ F.H0 L = none ∧ (∀ (n : Nat) b es, ςi[n]? = some (some (.own b es)) → (wipe σ vs)[n]? ≠ some (some (.ref L))) ∧ lcLoop vs t ta fe (ds.drop i) acc ςi = some (accF, ς'), ?_, ?_⟩
        · refine ⟨ds.length, by simp, Nat.zero_le _, wipeE ς1 vs, G1, [], [], (rl1.wiped vs hf).layF hL, Same.refl _, upd_same, rl1.gnone hL, .nil, rl1.new hL, fun n b es z w => ?_, q2⟩
          obtain ⟨a, ws, f1, f2, _⟩ := (rl1.wiped vs hf).ow n b es z
          rw [w] at f1; cases f1
          rw [hL] at f2; cases f2
        · rintro i m H' ⟨rfl, hi, ςi, Gi, acc, accV, rli, si, hLi, hGi, hdi, h0, hni, ei⟩
          by_cases hlt : i < ds.length
          · rw [List.drop_eq_getElem_cons hlt, lcLoop] at ei
            split at ei
            · rename_i ς3 q3
              refine .inr ⟨wk.go i H' hlt (si.trans rli.sub), fun H3 => ∃ ςi Gi acc accV, Rel K F ςi Gi (wipe σ vs) H3 ∧ Same G1 Gi ∧ H3 L = some (.lst accV) ∧ Gi L = none ∧ DpAll K Gi accV acc ∧ F.H0 L = none ∧ (∀ (n : Nat) b es, ςi[n]? = some (some (.own b es)) → (wipe σ vs)[n]? ≠ some (some (.ref L))) ∧ lcLoop vs t ta fe (ds.drop (i + 1)) acc ςi = some (accF, ς'), fun H3 h3 => ⟨ds.length - (i + 1), by omega, rfl, hlt, h3⟩, fun v H2 y => ?_⟩
              obtain ⟨G2, rl2, s2, dp2⟩ := rli.now.tupled si wk y (List.getElem?_eq_getElem hlt)
              refine ⟨F.now ςi Gi (wipe σ vs) H', ςi, G2, _, rl2, dp2, ς3, q3, fun σ3 H3 G3 rl3 s3 w3 => ⟨w3.trans (by
                  have : ∀ us : List Nat, wipe (wipe σ us) us = wipe σ us := by
                    intro us
                    induction us with
                    | nil => rfl
                    | cons u us ih =>
                      show (wipe ((wipe σ us).set u none) us).set u none = (wipe σ us).set u none
                      rw [wipe_comm1, List.set_set, ih]
                  exact this vs), ?_⟩⟩
              split at ei
              · rename_i ς4 q4
                refine ⟨F.now ςi Gi (wipe σ vs) H', ς3, G3, rl3, true, ς4, q4, fun H4 G4 rl4 s4 => ?_⟩
                refine iteT ?_
                split at ei
                · rename_i y5 ς5 q5
                  split at ei
                  · rename_i hf5
                    refine ⟨F.now ςi Gi (wipe σ vs) H', ς4, G4, rl4, y5, ς5, q5, fun u H5 G5 rl5 s5 dp5 => ?_⟩
                    obtain ⟨k1, k2, k3⟩ := rli.keepF rl5 hLi hGi hni
                    have hdi' : DpAll K G5 accV acc := dpa_same (s2.trans (s3.trans (s4.trans s5))) hdi
                    refine ⟨accV, k1, by rw [dpa_len hdi]; exact hf5.2, wipeE ς5 vs, G5, acc ++ [y5], accV ++ [u], ?_, si.trans (s2.trans (s3.trans (s4.trans s5))), upd_same, k2, dpa_app hdi' (.cons dp5 .nil), h0, ?_, ei⟩
                    · have rb := (rli.back rl5).wiped vs hf5.1
                      have w3' : wipe σ3 vs = wipe σ vs := by
                        rw [w3]
                        have : ∀ us : List Nat, wipe (wipe σ us) us = wipe σ us := by
                          intro us
                          induction us with
                          | nil => rfl
                          | cons u us ih =>
                            show (wipe ((wipe σ us).set u none) us).set u none = (wipe σ us).set u none
                            rw [wipe_comm1, List.set_set, ih]
                        exact this vs
                      rw [w3'] at rb
                      refine rb.touch k2 h0 (fun n b es z1 z2 => ?_) k1
                      obtain ⟨a6, ws6, f1, f2, _⟩ := rb.ow n b es z1
                      rw [z2] at f1; cases f1
                      have z3 : ς5[n]? = some (some (.own b es)) := by
                        have : ∀ us : List Nat, (wipeE ς5 us)[n]? = some (some (.own b es)) → ς5[n]? = some (some (.own b es)) := by
                          intro us
                          induction us with
                          | nil => exact fun h => h
                          | cons u us ih =>
                            intro h
                            have h' : ((wipeE ς5 us).set u none)[n]? = some (some (.own b es)) := h
                            replace h' := get_set h'; rcases h' with ⟨rfl, h'⟩ | ⟨_, h'⟩
                            · cases h'
                            · exact ih h'
                        exact this vs z1
                      rw [← w3'] at z2
                      exact k3 n b es z3 (wipe_some z2).1
                    · intro n b es z1 z2
                      have w3' : wipe σ3 vs = wipe σ vs := by
                        rw [w3]
                        have : ∀ us : List Nat, wipe (wipe σ us) us = wipe σ us := by
                          intro us
                          induction us with
                          | nil => rfl
                          | cons u us ih =>
                            show (wipe ((wipe σ us).set u none) us).set u none = (wipe σ us).set u none
                            rw [wipe_comm1, List.set_set, ih]
                        exact this vs
                      have z3 : ς5[n]? = some (some (.own b es)) := by
                        have : ∀ us : List Nat, (wipeE ς5 us)[n]? = some (some (.own b es)) → ς5[n]? = some (some (.own b es)) := by
                          intro us
                          induction us with
                          | nil => exact fun h => h
                          | cons u us ih =>
                            intro h
                            have h' : ((wipeE ς5 us).set u none)[n]? = some (some (.own b es)) := h
                            replace h' := get_set h'; rcases h' with ⟨rfl, h'⟩ | ⟨_, h'⟩
                            · cases h'
                            · exact ih h'
                        exact this vs z1
                      rw [← w3'] at z2
                      exact k3 n b es z3 (wipe_some z2).1
                  · cases ei
                · cases ei
              · rename_i ς4 q4
                refine ⟨F.now ςi Gi (wipe σ vs) H', ς3, G3, rl3, false, ς4, q4, fun H5 G5 rl5 s5 => ?_⟩
                refine iteF ?_
                split at ei
                · rename_i hf5
                  obtain ⟨k1, k2, k3⟩ := rli.keepF rl5 hLi hGi hni
                  have hdi' : DpAll K G5 accV acc := dpa_same (s2.trans (s3.trans s5)) hdi
                  have w3' : wipe σ3 vs = wipe σ vs := by
                    rw [w3]
                    have : ∀ us : List Nat, wipe (wipe σ us) us = wipe σ us := by
                      intro us
                      induction us with
                      | nil => rfl
                      | cons u us ih =>
                        show (wipe ((wipe σ us).set u none) us).set u none = (wipe σ us).set u none
                        rw [wipe_comm1, List.set_set, ih]
                    exact this vs
                  have rb := (rli.back rl5).wiped vs hf5
                  rw [w3'] at rb
                  refine ⟨wipeE ς4 vs, G5, acc, accV, rb, si.trans (s2.trans (s3.trans s5)), k1, k2, hdi', h0, fun n b es z1 z2 => ?_, ei⟩
                  have z3 : ς4[n]? = some (some (.own b es)) := by
                    have : ∀ us : List Nat, (wipeE ς4 us)[n]? = some (some (.own b es)) → ς4[n]? = some (some (.own b es)) := by
                      intro us
                      induction us with
                      | nil => exact fun h => h
                      | cons u us ih =>
                        intro h
                        have h' : ((wipeE ς4 us).set u none)[n]? = some (some (.own b es)) := h
                        replace h' := get_set h'; rcases h' with ⟨rfl, h'⟩ | ⟨_, h'⟩
                        · cases h'
                        · exact ih h'
                    exact this vs z1
                  rw [← w3'] at z2
                  exact k3 n b es z3 (wipe_some z2).1
                · cases ei
              · cases ei
            · cases ei
          · have eI : i = ds.length := by omega
            subst eI
            rw [List.drop_length, lcLoop] at ei
            cases ei
            refine .inl ⟨wk.stop H' (si.trans rli.sub), k _ H' Gi rli.unwipe (s1.trans si) ⟨L, accV, rfl, hLi, hGi, hdi, h0, fun n b es z1 z2 => ?_⟩⟩
            obtain ⟨a6, ws6, f1, f2, _⟩ := rli.ow n b es z1
            have := (wipe_some f1).1
            rw [z2] at this; cases this
            exact hni n b es z1 f1
      · cases e
    · cases e
  · cases e
theorem PId.ex {it : Expr} {fi : M (List D)} (h : PId X tg it fi) : PI X tg it (fun σ H R => ∃ F, tEvI X.K F fi σ H R) := ⟨fun pins s σ H R I ⟨F, hw⟩ => (h F).run pins s σ H R I hw⟩
theorem ts_nil : PTs X [] (tEx X.K (ret true)) := ⟨fun pins s σ H Q I ⟨F, ς, G, rl, b, ς', e, k⟩ => by
  cases e
  exact pts_nil.run pins s σ H Q I (k H G rl (Same.refl _))⟩
end
end Lw
namespace Lw
open PySem PySem.Spec PyProof.Rows L2
section
variable {X : Cx} {a b c e tg o : Expr} {es : List Expr} {fa fb fc f fe fo : M R} {ta : M Bool} {pos p p1 p2 p3 : Pos} {x : Str} {st : Stmt} {sts rest : List Stmt} {g g1 g2 : MS}
theorem d_lc {elt tg iter : Expr} {ifs : List Expr} {scope : Scope} {own : List (Str × Nat)} {fi : M (List D)} {t : Tg} (hc : X.calm = true) (hN : X.N.Nodup) (hi : PId X tg iter fi) (ok : BlkOk X.N X.env.scope scope own)
    (hg : ∀ (s : Shared) (H : Hp) (C : Addr) (cl : List (Str × Addr)) (fp : List Addr), PGd (X.blk s H scope (compEnvC scope cl C X.env) fp) tg (own.map (·.2)) t)
    (ht : ∀ (s : Shared) (H : Hp) (C : Addr) (cl : List (Str × Addr)) (fp : List Addr), PTs (X.blk s H scope (compEnvC scope cl C X.env) fp) ifs (tEx X.K ta))
    (he : ∀ (s : Shared) (H : Hp) (C : Addr) (cl : List (Str × Addr)) (fp : List Addr), PEd (X.blk s H scope (compEnvC scope cl C X.env) fp) elt fe) (hs : ∀ x, foldedSetIterable iter X.env x = pure x := by intro _; rfl) :
    PEd X (.ListComp elt [⟨tg, iter, ifs, 0⟩] scope pos) (lcE fi (own.map (·.2)) t ta fe) := fun F =>
  PE.mono (pe_lc hc hN hi.ex ok (fun s H C cl fp => (hg s H C cl fp).ex) ht (fun s H C cl fp => PDd.ex (d_esc (he s H C cl fp))) hs) (t_lc F)
/-! ### methods of an own list -/
def isOwn (i : Nat) : M Unit := fun ς => match ς[i]? with
  | some (some (.own _ _)) => some ((), ς)
  | _ => none
def mth (h : List D → List D → Option (D × List D)) (fo : M R) (ga : M (List Ar)) : M R := bd fo fun r => match r with
  | .ref i => bd (isOwn i) fun _ => bd ga fun as => bd (lift (vals as)) fun ws => fun ς => match ς[i]? with
    | some (some (.own b ds)) => match h ds ws with
      | some (d, ds') => some (.pure d, ς.set i (some (.own b ds')))
      | none => none
    | _ => none
  | _ => lift none
def hApp : List D → List D → Option (D × List D)
  | ds, [d] => if ds.length < sizeLine then some (.none, ds ++ [d]) else none
  | _, _ => none
end
/-! ### a def, with nothing being shown around it -/
structure FnG (P : Program) (w : World) (K : PySem.W.Frag) (mg : Str → Option Value) (base : Heap) (CX : CXT) (k : Nat) (f : Addr) (fd : FuncData) (ps : List Str) (sp : Sp) : Prop where
  len : ∀ vs H Q E, sp vs H Q E → vs.length = ps.length
  run : ∀ (A : Around) (outer : List Env) (s : Shared) (H : Hp) (args : Args) (us : List Value) (vs : List V) (Q : VK) (E : XK), A.guards = some [] → Room k A → Env0 P w K mg base A outer s H →
    BindsTo s fd args (ps.zip us) → Vals vs us → sp vs H Q E → codeAny (model P w) A (.call (.ref f) args) (CR CX outer P w H s Q E) s
section
variable {P : Program} {w : World} {K : PySem.W.Frag} {mg : Str → Option Value} {base : Heap} {CX : CXT} {k : Nat} {f : Addr} {fd : FuncData} {ps : List Str} {sp : Sp}
theorem FnG.mono {j : Nat} (F : FnG P w K mg base CX j f fd ps sp) (h : j ≤ k) : FnG P w K mg base CX k f fd ps sp :=
  ⟨F.len, fun A outer s H args us vs Q E hg hr => F.run A outer s H args us vs Q E hg (hr.mono h)⟩
theorem fnG_of {name qual : Str} {params : Arguments} {body : List Stmt} {scope : Scope} {dV kV doc pm cdv ct oc : Value} {an od : Option Addr} {osl : Array (Option Value)} {N : List Str}
    (lk : K.lookup f = some ⟨oc, od, .func (PySem.W.fnOf name qual params body scope dV kV doc pm an cdv ct), osl⟩) (hcode : PySem.W.codeIn K cdv qual = true) (sc : FnScope N ps scope) (hlen : ∀ vs H Q E, sp vs H Q E → vs.length = ps.length)
    (hb0 : ∀ (A : Around) (outer : List Env) (s : Shared) (H : Hp) (vs : List V) (Q : VK) (E : XK), A.guards = some [] → Room k (A.deeper (envOfC qual scope s.heap.objs.size f cdv)) → sp vs H Q E →
      ∃ t, PSs (cxOf CX P w K mg base N qual scope f cdv A outer s H E) body t ∧ t { nx := fun _ H' => Q .non H', rt := Q } (L2.start N vs) H) : FnG P w K mg base CX (k + 1) f (PySem.W.fnOf name qual params body scope dV kV doc pm an cdv ct) ps sp := by
  constructor
  · exact hlen
  intro A outer s H args us vs Q E hgd room env bind rel prom
  have inK : K.In s.heap := env.mod.kin.keeps (fun b o e => (env.bs b o e).1)
  have noLim : s.heap.NoLimit := env.mod.nolimit.keeps (fun b o e => (env.bs b o e).1)
  have kinds : ∀ y ∈ ps.zip us, scope.names.lookup y.1 = some .local ∨ (scope.names.lookup y.1 = some .cell ∧ ((cellsFrom (s.heap.objs.size + 1) scope.names []).lookup y.1).isSome = true) := by
    rintro ⟨n, v⟩ hy
    rcases sc.par n (List.of_mem_zip hy).1 with loc | cel
    · exact Or.inl loc
    · exact Or.inr ⟨cel, PySem.W.cellsFrom_some _ _ _ (Or.inl cel)⟩
  refine codeAny_call_function room.depth (inK _ _ lk) rfl sc.co sc.gen rfl (PySem.W.codeRec_of inK hcode) (bind _ _ _ _ ?_)
  refine wpAny_newFunctionEnv_cells sc.kind kinds (fun env' he s1 inCall => ?_)
  subst he
  refine ⟨noLim.keeps inCall.toInCall.keep, codeAny_func ?_⟩
  obtain ⟨t, ht, hq⟩ := hb0 A outer s H vs Q E hgd (room.deeper _) prom
  have I0 : Inv (cxOf CX P w K mg base N qual scope f cdv A outer s H E) [] (L2.start N vs) H s1 := inv_start sc room.hd env (hlen vs H Q E prom) rel inCall
  refine wpAny_mono (ht.run [] s1 (L2.start N vs) H _ I0 hq) (fun fl s' hs => ?_) (fun _ _ hs => hs)
  cases fl with
  | ret u =>
    obtain ⟨v, σ', H', J, rv, q⟩ := hs
    exact ⟨v, H', J.os, J.bare, J.base, J.hok, rv, q⟩
  | next =>
    obtain ⟨σ', H', J, q⟩ := hs
    exact ⟨V.non, H', J.os, J.bare, J.base, J.hok, rfl, q⟩
  | brk => obtain ⟨_, _, _, q⟩ := hs; exact False.elim q
  | cont => obtain ⟨_, _, _, q⟩ := hs; exact False.elim q
end
section
variable {X : Cx} {CX : CXT} {k : Nat} {f : Addr} {fd : FuncData} {ps : List Str} {sp : Sp} {E : XK} {x : Str} {p pos : Pos} {e : Expr} {es : List Expr} {t : TA}
theorem pe_callG (G : FnG X.prog X.w X.K X.mg X.base CX k f fd ps sp) (hgd : X.A.guards = some []) (hr : Room k X.A) (hg : Gl X x) (hm : X.mg x = some (.ref f)) (hk : PySem.W.keepIn X.K (.ref f) = true) (hb : Binds X.K fd ps []) (hx : Passes CX X E)
    (ha : PA X (e :: es) t) (hdb : (x == ("__debug__" : Str)) = false := by decide) (he : starEach (e :: es) X.env = (false, eval e X.env) :: starEach es X.env := by rfl) (hpl : (backTo pos (starEach es X.env)).any (·.1) = false := by rfl) :
    PE X (.Call (.Name x p) (e :: es) [] pos) (fun σ H Q => t σ H fun vs H1 => sp vs H1 Q E) := by
  refine ⟨fun pins s σ H Q I h => wpAny_Call_Name_kw (ld_glob I hg hm ?_ hdb)⟩
  refine PySem.W.callWith_K (h₀ := X.base) I.ok.mod.kin hk (thn (ha.run pos pins s σ H _ I h) fun us s1 ⟨vs, H1, I1, r, q⟩ => ⟨I1.kIn, ?_⟩) he hpl
  have hl : (us ++ []).length = ps.length := by rw [List.append_nil, ← r.length]; exact G.len _ _ _ _ q
  have hb' := hb s1 us I1.kIn hl
  rw [List.append_nil] at hb'
  refine wpAny_call (codeAny_mono (G.run X.A X.stack s1 H1 ⟨us, []⟩ us vs Q E hgd hr I1.env0 hb' r q) fun r' s' hq => ?_)
  cases r' with
  | error er => exact hx pins σ H1 s1 er s' I1 hq
  | ok fl =>
    cases fl with
    | ret u => exact I1.after hq
    | next => exact False.elim hq
    | brk => exact False.elim hq
    | cont => exact False.elim hq
end
end Lw
namespace Lw
open PySem PySem.Spec PyProof.Rows L2
abbrev Fsem := List S → Option (R × List S)
structure ArgsOk (K : PySem.W.Frag) (ss : List S) (G : Hp) (vs : List V) (H : Hp) : Prop where
  len : vs.length = ss.length
  sub : Same G H
  pu : ∀ (i : Nat) d, ss[i]? = some (.pure d) → ∃ v, vs[i]? = some v ∧ Dp K G v d
  ow : ∀ (i : Nat) b ds, ss[i]? = some (.own b ds) → b = true ∧ ∃ a xs, vs[i]? = some (.ref a) ∧ H a = some (.lst xs) ∧ G a = none ∧ DpAll K G xs ds
  ap : ∀ (i j : Nat) b c ds es a, ss[i]? = some (.own b ds) → ss[j]? = some (.own c es) → vs[i]? = some (.ref a) → vs[j]? = some (.ref a) → i = j
  vx : ∀ (i : Nat) x, ss[i]? = some (.vx x) → (∀ kvs, x ≠ .odc kvs) ∧ ∃ v, vs[i]? = some v ∧ Xp K G v x
def RepOut (K : PySem.W.Frag) (H G' H' : Hp) : R → V → Prop
  | .pure d, v => Dp K G' v d
  | .fresh ds, v => ∃ a xs, v = .ref a ∧ H' a = some (.lst xs) ∧ G' a = none ∧ DpAll K G' xs ds ∧ H a = none
  | .ref _, _ => False
  | .vx x, v => (∀ kvs, x ≠ .odc kvs) ∧ Xp K G' v x
structure RetOk (K : PySem.W.Frag) (ss : List S) (G : Hp) (vs : List V) (H : Hp) (r : R) (outs : List S) (v : V) (H' G' : Hp) : Prop where
  same : Same G G'
  sub : Same G' H'
  nw : ∀ a, G' a ≠ none → G a ≠ none ∨ H a = none
  fr : ∀ a o, H a = some o → (∀ (i : Nat) b ds, ss[i]? = some (.own b ds) → vs[i]? ≠ some (.ref a)) → H' a = some o
  ow : ∀ (i : Nat) b ds a, ss[i]? = some (.own b ds) → vs[i]? = some (.ref a) → ∃ ds' xs', outs[i]? = some (.own true ds') ∧ H' a = some (.lst xs') ∧ G' a = none ∧ DpAll K G' xs' ds'
  rep : RepOut K H G' H' r v
def spF (K : PySem.W.Frag) (n : Nat) (m : Fsem) : Sp := fun vs H Q _ => ∃ ss G, ss.length = n ∧ ArgsOk K ss G vs H ∧ ∃ r outs, m ss = some (r, outs) ∧ ∀ v H' G', RetOk K ss G vs H r outs v H' G' → Q v H'
/-! ### the call -/
def argS : List Ar → En → Option (List S)
  | [], _ => some []
  | .val d :: as, ς => match argS as ς with
    | some ss => some (.pure d :: ss)
    | none => none
  | .ref i :: as, ς => match ς[i]?, argS as ς with
    | some (some (.own _ ds)), some ss => some (.own true ds :: ss)
    | some (some (.pure d)), some ss => some (.pure d :: ss)
    | some (some (.vx (.dct kvs))), some ss => some (.vx (.dct kvs) :: ss)
    | _, _ => none
def setOwn (ς : En) (i : Nat) (ds : List D) : En := match ς[i]? with
  | some (some (.own b _)) => ς.set i (some (.own b ds))
  | _ => ς
def putBack : List Ar → List S → En → En
  | .ref i :: as, .own _ ds :: os, ς => putBack as os (setOwn ς i ds)
  | _ :: as, _ :: os, ς => putBack as os ς
  | _, _, ς => ς
def refsOf : List Ar → List Nat
  | [] => []
  | .val _ :: as => refsOf as
  | .ref i :: as => i :: refsOf as
def callE (m : Fsem) (ga : M (List Ar)) : M R := bd ga fun as => fun ς => match argS as ς with
  | some ss => match m ss with
    | some (.ref _, _) => none
    | some (r, outs) => if (refsOf as).Nodup then some (r, putBack as outs ς) else none
    | none => none
  | none => none
theorem argS_len : ∀ {as : List Ar} {ς : En} {ss : List S}, argS as ς = some ss → ss.length = as.length
  | [], _, _, e => by cases e; rfl
  | .val d :: as, ς, ss, e => by
    unfold argS at e
    split at e
    · rename_i ss' q; cases e; rw [List.length_cons, List.length_cons, argS_len q]
    · cases e
  | .ref i :: as, ς, ss, e => by
    unfold argS at e
    split at e
    · rename_i q; cases e; rw [List.length_cons, List.length_cons, argS_len q]
    · rename_i q; cases e; rw [List.length_cons, List.length_cons, argS_len q]
    · rename_i q; cases e; rw [List.length_cons, List.length_cons, argS_len q]
    · cases e
theorem argS_get : ∀ {as : List Ar} {ς : En} {ss : List S} {k : Nat} {s : S}, argS as ς = some ss → ss[k]? = some s →
    (∃ d, as[k]? = some (.val d) ∧ s = .pure d) ∨ ∃ j, as[k]? = some (.ref j) ∧ ((∃ b ds, ς[j]? = some (some (.own b ds)) ∧ s = .own true ds) ∨ (∃ d, ς[j]? = some (some (.pure d)) ∧ s = .pure d) ∨ ∃ kvs, ς[j]? = some (some (.vx (.dct kvs))) ∧ s = .vx (.dct kvs))
  | [], _, _, _, _, e, h => by cases e; cases h
  | .val d :: as, ς, ss, k, s, e, h => by
    unfold argS at e
    split at e
    · rename_i ss' q
      cases e
      cases k with
      | zero => cases h; exact .inl ⟨d, rfl, rfl⟩
      | succ k =>
        have h' := argS_get (k := k) (s := s) q (by simpa using h)
        simpa using h'
    · cases e
  | .ref i :: as, ς, ss, k, s, e, h => by
    unfold argS at e
    split at e
    · rename_i b ds ss' q1 q
      cases e
      cases k with
      | zero => cases h; exact .inr ⟨i, rfl, .inl ⟨b, ds, q1, rfl⟩⟩
      | succ k =>
        have h' := argS_get (k := k) (s := s) q (by simpa using h)
        simpa using h'
    · rename_i d ss' q1 q
      cases e
      cases k with
      | zero => cases h; exact .inr ⟨i, rfl, .inr (.inl ⟨d, q1, rfl⟩)⟩
      | succ k =>
        have h' := argS_get (k := k) (s := s) q (by simpa using h)
        simpa using h'
    · rename_i d ss' q1 q
      cases e
      cases k with
      | zero => cases h; exact .inr ⟨i, rfl, .inr (.inr ⟨d, q1, rfl⟩)⟩
      | succ k =>
        have h' := argS_get (k := k) (s := s) q (by simpa using h)
        simpa using h'
    · cases e
theorem argS_at : ∀ {as : List Ar} {ς : En} {ss : List S} {k j : Nat} {b : Bool} {ds : List D}, argS as ς = some ss → as[k]? = some (.ref j) → ς[j]? = some (some (.own b ds)) → ss[k]? = some (.own true ds)
  | [], _, _, _, _, _, _, e, h, _ => by cases h
  | .val d :: as, ς, ss, k, j, b, ds, e, h, hj => by
    unfold argS at e
    split at e
    · rename_i ss' q
      cases e
      cases k with
      | zero => cases h
      | succ k =>
        have h' := argS_at (k := k) q (by simpa using h) hj
        simpa using h'
    · cases e
  | .ref i :: as, ς, ss, k, j, b, ds, e, h, hj => by
    unfold argS at e
    split at e
    · rename_i b' ds' ss' q1 q
      cases e
      cases k with
      | zero =>
        cases h
        rw [hj] at q1
        cases q1
        rfl
      | succ k =>
        have h' := argS_at (k := k) q (by simpa using h) hj
        simpa using h'
    · rename_i d ss' q1 q
      cases e
      cases k with
      | zero =>
        cases h
        rw [hj] at q1
        cases q1
      | succ k =>
        have h' := argS_at (k := k) q (by simpa using h) hj
        simpa using h'
    · rename_i d ss' q1 q
      cases e
      cases k with
      | zero =>
        cases h
        rw [hj] at q1
        cases q1
      | succ k =>
        have h' := argS_at (k := k) q (by simpa using h) hj
        simpa using h'
    · cases e
theorem paired_get {α β : Type} {Rr : α → β → Prop} : ∀ {as : List α} {bs : List β} {k : Nat} {x : α}, Paired Rr as bs → as[k]? = some x → ∃ y, bs[k]? = some y ∧ Rr x y
  | _, _, _, _, .nil, e => by simp at e
  | _, _, 0, _, .cons h _, e => by simp at e; subst e; exact ⟨_, rfl, h⟩
  | _, _, k + 1, x, .cons _ t, e => by
    obtain ⟨y, h1, h2⟩ := paired_get (k := k) (x := x) t (by simpa using e)
    exact ⟨y, by simpa using h1, h2⟩
theorem paired_len {α β : Type} {Rr : α → β → Prop} : ∀ {as : List α} {bs : List β}, Paired Rr as bs → as.length = bs.length
  | _, _, .nil => rfl
  | _, _, .cons _ t => by rw [List.length_cons, List.length_cons, paired_len t]
theorem refs_mem : ∀ {as : List Ar} {k j : Nat}, as[k]? = some (.ref j) → j ∈ refsOf as
  | [], _, _, h => by cases h
  | .val d :: as, 0, j, h => by cases h
  | .val d :: as, k + 1, j, h => refs_mem (as := as) (k := k) h
  | .ref i :: as, 0, j, h => by cases h; exact List.mem_cons_self
  | .ref i :: as, k + 1, j, h => List.mem_cons_of_mem _ (refs_mem (as := as) (k := k) h)
theorem mem_refs : ∀ {as : List Ar} {j : Nat}, j ∈ refsOf as → ∃ k : Nat, as[k]? = some (.ref j)
  | [], _, h => by cases h
  | .val d :: as, j, h => by obtain ⟨k, e⟩ := mem_refs (as := as) h; exact ⟨k + 1, e⟩
  | .ref i :: as, j, h => by
    rcases List.mem_cons.mp h with rfl | h
    · exact ⟨0, rfl⟩
    · obtain ⟨k, e⟩ := mem_refs (as := as) h; exact ⟨k + 1, e⟩
theorem setOwn_len (ς : En) (i : Nat) (ds : List D) : (setOwn ς i ds).length = ς.length := by
  unfold setOwn; split
  · rw [List.length_set]
  · rfl
theorem pb_nil (os : List S) (ς : En) : putBack [] os ς = ς := by cases os <;> rfl
theorem pb_nil2 (a : Ar) (as : List Ar) (ς : En) : putBack (a :: as) [] ς = ς := by cases a <;> rfl
theorem pb_vx (i : Nat) (as : List Ar) (x : XD) (os : List S) (ς : En) : putBack (.ref i :: as) (.vx x :: os) ς = putBack as os ς := rfl
theorem pb_val (d : D) (as : List Ar) (o : S) (os : List S) (ς : En) : putBack (.val d :: as) (o :: os) ς = putBack as os ς := by cases o <;> rfl
theorem pb_own (i : Nat) (as : List Ar) (b : Bool) (ds : List D) (os : List S) (ς : En) : putBack (.ref i :: as) (.own b ds :: os) ς = putBack as os (setOwn ς i ds) := rfl
theorem pb_pure (i : Nat) (as : List Ar) (d : D) (os : List S) (ς : En) : putBack (.ref i :: as) (.pure d :: os) ς = putBack as os ς := rfl
theorem putBack_len : ∀ (as : List Ar) (os : List S) (ς : En), (putBack as os ς).length = ς.length
  | [], _, ς => by rw [pb_nil]
  | a :: as, [], ς => by rw [pb_nil2]
  | .val d :: as, o :: os, ς => by rw [pb_val]; exact putBack_len as os ς
  | .ref i :: as, .own b ds :: os, ς => by rw [pb_own, putBack_len as os, setOwn_len]
  | .ref i :: as, .pure d :: os, ς => by rw [pb_pure]; exact putBack_len as os ς
  | .ref i :: as, .vx x :: os, ς => by rw [pb_vx]; exact putBack_len as os ς
theorem setOwn_ne {ς : En} {i j : Nat} {ds : List D} (h : i ≠ j) : (setOwn ς i ds)[j]? = ς[j]? := by
  unfold setOwn; split
  · rw [List.getElem?_set_ne h]
  · rfl
theorem setOwn_own {ς : En} {i : Nat} {b : Bool} {ds es : List D} (h : ς[i]? = some (some (.own b es))) : (setOwn ς i ds)[i]? = some (some (.own b ds)) := by
  unfold setOwn
  rw [h]
  exact List.getElem?_set_self (List.getElem?_eq_some_iff.mp h).1
theorem setOwn_not {ς : En} {i : Nat} {ds : List D} (h : ∀ b es, ς[i]? ≠ some (some (.own b es))) : setOwn ς i ds = ς := by
  unfold setOwn; split
  · rename_i b es q; exact absurd q (h b es)
  · rfl
/-- a slot that no argument is -/
theorem putBack_ne : ∀ {as : List Ar} {os : List S} {ς : En} {j : Nat}, j ∉ refsOf as → (putBack as os ς)[j]? = ς[j]?
  | [], _, ς, j, _ => by rw [pb_nil]
  | a :: as, [], ς, j, _ => by rw [pb_nil2]
  | .val d :: as, o :: os, ς, j, h => by rw [pb_val]; exact putBack_ne (as := as) h
  | .ref i :: as, .own b ds :: os, ς, j, h => by
    have h' : j ≠ i ∧ j ∉ refsOf as := ⟨fun z => h (by rw [z]; exact List.mem_cons_self), fun z => h (List.mem_cons_of_mem _ z)⟩
    rw [pb_own, putBack_ne h'.2, setOwn_ne (Ne.symm h'.1)]
  | .ref i :: as, .pure d :: os, ς, j, h => by
    have h' : j ∉ refsOf as := fun z => h (List.mem_cons_of_mem _ z)
    rw [pb_pure]; exact putBack_ne h'
  | .ref i :: as, .vx x :: os, ς, j, h => by
    have h' : j ∉ refsOf as := fun z => h (List.mem_cons_of_mem _ z)
    rw [pb_vx]; exact putBack_ne h'
/-- a slot without an own list stays -/
theorem putBack_not : ∀ {as : List Ar} {os : List S} {ς : En} {j : Nat}, (∀ b es, ς[j]? ≠ some (some (.own b es))) → (putBack as os ς)[j]? = ς[j]?
  | [], _, ς, j, _ => by rw [pb_nil]
  | a :: as, [], ς, j, _ => by rw [pb_nil2]
  | .val d :: as, o :: os, ς, j, h => by rw [pb_val]; exact putBack_not (as := as) h
  | .ref i :: as, .own b ds :: os, ς, j, h => by
    by_cases e : i = j
    · subst e
      rw [pb_own, setOwn_not h]
      exact putBack_not (as := as) h
    · have e2 := setOwn_ne (ς := ς) (ds := ds) e
      rw [pb_own, putBack_not (as := as) (by rw [e2]; exact h), e2]
  | .ref i :: as, .pure d :: os, ς, j, h => by rw [pb_pure]; exact putBack_not (as := as) h
  | .ref i :: as, .vx x :: os, ς, j, h => by rw [pb_vx]; exact putBack_not (as := as) h
theorem putBack_at : ∀ {as : List Ar} {os : List S} {ς : En} {k j : Nat} {b c : Bool} {ds es : List D}, (refsOf as).Nodup → as[k]? = some (.ref j) → os[k]? = some (.own c ds) → ς[j]? = some (some (.own b es)) → (putBack as os ς)[j]? = some (some (.own b ds))
  | [], _, _, _, _, _, _, _, _, _, h, _, _ => by cases h
  | _ :: _, [], _, _, _, _, _, _, _, _, _, h, _ => by cases h
  | .val d :: as, o :: os, ς, k, j, b, c, ds, es, nd, h1, h2, h3 => by
    cases k with
    | zero => cases h1
    | succ k => rw [pb_val]; exact putBack_at (as := as) (k := k) nd (by simpa using h1) (by simpa using h2) h3
  | .ref i :: as, .pure d :: os, ς, k, j, b, c, ds, es, nd, h1, h2, h3 => by
    cases k with
    | zero => cases h2
    | succ k => rw [pb_pure]; exact putBack_at (as := as) (k := k) (List.nodup_cons.mp nd).2 (by simpa using h1) (by simpa using h2) h3
  | .ref i :: as, .vx x :: os, ς, k, j, b, c, ds, es, nd, h1, h2, h3 => by
    cases k with
    | zero => cases h2
    | succ k => rw [pb_vx]; exact putBack_at (as := as) (k := k) (List.nodup_cons.mp nd).2 (by simpa using h1) (by simpa using h2) h3
  | .ref i :: as, .own b' ds' :: os, ς, k, j, b, c, ds, es, nd, h1, h2, h3 => by
    have nd' := List.nodup_cons.mp nd
    cases k with
    | zero =>
      cases h1; cases h2
      rw [pb_own, putBack_ne nd'.1, setOwn_own h3]
    | succ k =>
      have h1' : as[k]? = some (.ref j) := by simpa using h1
      have ne : i ≠ j := fun z => nd'.1 (by rw [z]; exact refs_mem (as := as) (k := k) h1')
      rw [pb_own]
      exact putBack_at (k := k) nd'.2 h1' (by simpa using h2) (by rw [setOwn_ne ne]; exact h3)
theorem putBack_is {j : Nat} {c : Bool} : ∀ (as : List Ar) (os : List S) (ς : En) (es : List D), ς[j]? = some (some (.own c es)) → ∃ es', (putBack as os ς)[j]? = some (some (.own c es'))
  | [], _, ς, es, h => by rw [pb_nil]; exact ⟨es, h⟩
  | a :: as, [], ς, es, h => by rw [pb_nil2]; exact ⟨es, h⟩
  | .val d :: as, o :: os, ς, es, h => by rw [pb_val]; exact putBack_is as os ς es h
  | .ref i :: as, .pure d :: os, ς, es, h => by rw [pb_pure]; exact putBack_is as os ς es h
  | .ref i :: as, .vx x :: os, ς, es, h => by rw [pb_vx]; exact putBack_is as os ς es h
  | .ref i :: as, .own b' ds' :: os, ς, es, h => by
    rw [pb_own]
    by_cases e : i = j
    · subst e; exact putBack_is as os _ ds' (setOwn_own h)
    · exact putBack_is as os _ es (by rw [setOwn_ne e]; exact h)
theorem putBack_own {as : List Ar} {os : List S} {ς : En} {j : Nat} {b : Bool} {ds : List D} (h : (putBack as os ς)[j]? = some (some (.own b ds))) : ∃ es, ς[j]? = some (some (.own b es)) := by
  by_cases q : ∃ c es, ς[j]? = some (some (.own c es))
  · obtain ⟨c, es, hq⟩ := q
    obtain ⟨es', e'⟩ := putBack_is as os ς es hq
    rw [h] at e'
    cases e'
    exact ⟨es, hq⟩
  · rw [putBack_not (fun c es z => q ⟨c, es, z⟩)] at h
    exact ⟨ds, h⟩
section
variable {K : PySem.W.Frag} {F : Fx} {ς : En} {G H G' H' : Hp} {σ : L2.St}
theorem Rel.args (r : Rel K F ς G σ H) {as : List Ar} {ss : List S} {vs : List V} (e : argS as ς = some ss) (ps : Paired (RepAr K G σ) as vs) (nd : (refsOf as).Nodup) : ArgsOk K ss G vs H where
  len := by rw [argS_len e, paired_len ps]
  sub := r.sub
  pu := fun i d h => by
    rcases argS_get e h with ⟨d', h1, h2⟩ | ⟨j, h1, ⟨b, ds, h2, h3⟩ | ⟨d', h2, h3⟩ | ⟨kvs, h2, h3⟩⟩
    · cases h2
      obtain ⟨v, k1, k2⟩ := paired_get ps h1
      exact ⟨v, k1, k2⟩
    · cases h3
    · cases h3
      obtain ⟨v, k1, k2⟩ := paired_get ps h1
      obtain ⟨w, k3, k4⟩ := r.pu j d h2
      rw [show σ[j]? = some (some v) from k2] at k3
      cases k3
      exact ⟨v, k1, k4⟩
    · cases h3
  ow := fun i b ds h => by
    rcases argS_get e h with ⟨d', h1, h2⟩ | ⟨j, h1, ⟨b', ds', h2, h3⟩ | ⟨d', h2, h3⟩ | ⟨kvs, h2, h3⟩⟩
    · cases h2
    · cases h3
      obtain ⟨v, k1, k2⟩ := paired_get ps h1
      obtain ⟨a, xs, f1, f2, f3, f4, _⟩ := r.ow j b' ds h2
      rw [show σ[j]? = some (some v) from k2] at f1
      cases f1
      exact ⟨rfl, a, xs, k1, f2, f3, f4⟩
    · cases h3
    · cases h3
  ap := fun i j b c ds es a h1 h2 h3 h4 => by
    rcases argS_get e h1 with ⟨d', _, q⟩ | ⟨m, g1, ⟨b', ds', g2, g3⟩ | ⟨d', _, q⟩ | ⟨kvs, _, q⟩⟩
    · cases q
    · rcases argS_get e h2 with ⟨d', _, q⟩ | ⟨n, g4, ⟨c', es', g5, g6⟩ | ⟨d', _, q⟩ | ⟨kvs, _, q⟩⟩
      · cases q
      · obtain ⟨v, k1, k2⟩ := paired_get ps g1
        obtain ⟨w, k3, k4⟩ := paired_get ps g4
        rw [h3] at k1; cases k1
        rw [h4] at k3; cases k3
        have emn := r.ap m n b' c' ds' es' a g2 g5 k2 k4
        subst emn
        have : ∀ (as : List Ar), (refsOf as).Nodup → ∀ (i j : Nat), as[i]? = some (.ref m) → as[j]? = some (.ref m) → i = j := by
          intro as
          induction as with
          | nil => intro _ i j h; cases h
          | cons x as ih =>
            intro nd i j hi hj
            cases x with
            | val d =>
              cases i with
              | zero => cases hi
              | succ i =>
                cases j with
                | zero => cases hj
                | succ j => rw [ih nd i j hi hj]
            | ref l =>
              have nd' := List.nodup_cons.mp nd
              cases i with
              | zero =>
                cases j with
                | zero => rfl
                | succ j => cases hi; exact absurd (refs_mem (as := as) (k := j) hj) nd'.1
              | succ i =>
                cases j with
                | zero => cases hj; exact absurd (refs_mem (as := as) (k := i) hi) nd'.1
                | succ j => rw [ih nd'.2 i j hi hj]
        exact this as nd i j g1 g4
      · cases q
      · cases q
    · cases q
    · cases q
  vx := fun i x h => by
    rcases argS_get e h with ⟨d', _, q⟩ | ⟨m, g1, ⟨b', ds', g2, g3⟩ | ⟨d', _, q⟩ | ⟨kvs, g2, q⟩⟩
    · cases q
    · cases g3
    · cases q
    · cases q
      obtain ⟨v, k1, k2⟩ := paired_get ps g1
      obtain ⟨w, k3, k4⟩ := r.vx m _ g2
      rw [show σ[m]? = some (some v) from k2] at k3
      cases k3
      exact ⟨(fun _ z => by cases z), v, k1, k4⟩
theorem Rel.called (r : Rel K F ς G σ H) {as : List Ar} {ss outs : List S} {vs : List V} {res : R} {v : V} (e : argS as ς = some ss) (ps : Paired (RepAr K G σ) as vs) (nd : (refsOf as).Nodup) (t : RetOk K ss G vs H res outs v H' G') :
    Rel K F (putBack as outs ς) G' σ H' := by
  -- an own slot's list is not an argument's, unless it is that argument
  have away : ∀ (j : Nat) b ds a, ς[j]? = some (some (.own b ds)) → σ[j]? = some (some (.ref a)) → j ∉ refsOf as → ∀ (i : Nat) c es, ss[i]? = some (.own c es) → vs[i]? ≠ some (.ref a) := by
    intro j b ds a h1 h2 h3 i c es h4 h5
    rcases argS_get e h4 with ⟨d', _, q⟩ | ⟨m, g1, ⟨b', ds', g2, g3⟩ | ⟨d', _, q⟩ | ⟨kvs, _, q⟩⟩
    · cases q
    · obtain ⟨w, k1, k2⟩ := paired_get ps g1
      rw [h5] at k1; cases k1
      have := r.ap m j b' b ds' ds a g2 h1 k2 h2
      subst this
      exact h3 (refs_mem g1)
    · cases q
    · cases q
  have hvx : ∀ (i : Nat) x, (putBack as outs ς)[i]? = some (some (.vx x)) → ς[i]? = some (some (.vx x)) := fun i x h => by
    by_cases q : ∃ c es, ς[i]? = some (some (.own c es))
    · obtain ⟨c, es, hq⟩ := q
      obtain ⟨es', e'⟩ := putBack_is as outs ς es hq
      rw [h] at e'
      cases e'
    · rw [putBack_not (fun c es z => q ⟨c, es, z⟩)] at h; exact h
  refine ⟨by rw [putBack_len, r.len], t.sub, r.g0.trans t.same, ?_, ?_, ?_, ?_, ?_, ?_, ?_, ?_, ?_⟩
  · intro i d h
    have h' : ς[i]? = some (some (.pure d)) := by
      by_cases q : ∃ c es, ς[i]? = some (some (.own c es))
      · obtain ⟨c, es, hq⟩ := q
        exfalso
        by_cases hm : i ∈ refsOf as
        · obtain ⟨kk, hk⟩ := mem_refs hm
          have hs := argS_at e hk hq
          obtain ⟨v', k1, k2⟩ := paired_get ps hk
          obtain ⟨a, xs, f1, _⟩ := r.ow i c es hq
          rw [show σ[i]? = some (some v') from k2] at f1
          cases f1
          obtain ⟨ds', xs', o1, _⟩ := t.ow kk true es a hs k1
          rw [putBack_at nd hk o1 hq] at h
          cases h
        · rw [putBack_ne hm, hq] at h; cases h
      · rw [putBack_not (fun c es z => q ⟨c, es, z⟩)] at h; exact h
    obtain ⟨w, h1, h2⟩ := r.pu i d h'
    exact ⟨w, h1, dp_same t.same h2⟩
  · intro i b ds h
    obtain ⟨es, hq⟩ := putBack_own h
    obtain ⟨a, xs, f1, f2, f3, f4, f5⟩ := r.ow i b es hq
    by_cases hm : i ∈ refsOf as
    · obtain ⟨kk, hk⟩ := mem_refs hm
      have hs := argS_at e hk hq
      obtain ⟨v', k1, k2⟩ := paired_get ps hk
      rw [show σ[i]? = some (some v') from k2] at f1
      cases f1
      obtain ⟨ds', xs', o1, o2, o3, o4⟩ := t.ow kk true es a hs k1
      rw [putBack_at nd hk o1 hq] at h
      cases h
      exact ⟨a, xs', k2, o2, o3, o4, f5⟩
    · rw [putBack_ne hm, hq] at h
      cases h
      refine ⟨a, xs, f1, t.fr a _ f2 (away i b ds a hq f1 hm), ?_, dpa_same t.same f4, f5⟩
      cases z : G' a with
      | none => rfl
      | some y =>
        rcases t.nw a (by rw [z]; simp) with w | w
        · exact absurd f3 w
        · rw [f2] at w; cases w
  · intro i j b c ds es a h1 h2 h3 h4
    obtain ⟨_, q1⟩ := putBack_own h1
    obtain ⟨_, q2⟩ := putBack_own h2
    exact r.ap i j b c _ _ a q1 q2 h3 h4
  · intro i a h
    obtain ⟨ds, hq⟩ := r.par i a h
    by_cases hm : i ∈ refsOf as
    · obtain ⟨kk, hk⟩ := mem_refs hm
      have hs := argS_at e hk hq
      obtain ⟨v', k1, k2⟩ := paired_get ps hk
      obtain ⟨a', xs, f1, _⟩ := r.ow i true ds hq
      rw [show σ[i]? = some (some v') from k2] at f1
      cases f1
      obtain ⟨ds', xs', o1, _⟩ := t.ow kk true ds a' hs k1
      exact ⟨ds', putBack_at nd hk o1 hq⟩
    · exact ⟨ds, by rw [putBack_ne hm]; exact hq⟩
  · intro a o h na
    refine t.fr a o (r.fr a o h na) fun i c es h4 h5 => ?_
    rcases argS_get e h4 with ⟨d', _, q⟩ | ⟨m, g1, ⟨b', ds', g2, g3⟩ | ⟨d', _, q⟩ | ⟨kvs, _, q⟩⟩
    · cases q
    · obtain ⟨w, k1, k2⟩ := paired_get ps g1
      rw [h5] at k1; cases k1
      obtain ⟨a', xs, f1, _, _, _, f5, f6⟩ := r.ow m b' ds' g2
      rw [show σ[m]? = some (some (.ref a)) from k2] at f1
      cases f1
      cases b' with
      | true => exact na m (f5 rfl)
      | false => rw [f6 rfl] at h; cases h
    · cases q
    · cases q
  · intro a h
    rcases t.nw a h with w | w
    · exact r.nw a w
    · exact .inr (r.new w)
  · intro i x h
    obtain ⟨w, h1, h2⟩ := r.vx i x (hvx i x h)
    exact ⟨w, h1, xp_same t.same h2⟩
  · intro i kvs h
    refine (r.od i kvs (hvx i _ h)).keep rfl t.same fun a o k1 nl k2 => ⟨t.fr a o k1 fun m b ds h4 h5 => ?_, ?_⟩
    · rcases argS_get e h4 with ⟨d', _, q⟩ | ⟨n, g1, ⟨b', ds', g2, g3⟩ | ⟨d', _, q⟩ | ⟨kvs, _, q⟩⟩
      · cases q
      · obtain ⟨w, l1, l2⟩ := paired_get ps g1
        rw [h5] at l1; cases l1
        obtain ⟨a', xs, f1, f2, _⟩ := r.ow n b' ds' g2
        rw [show σ[n]? = some (some (.ref a)) from l2] at f1
        cases f1
        rw [k1] at f2; cases f2
        exact nl _ rfl
      · cases q
      · cases q
    · cases z : G' a with
      | none => rfl
      | some y =>
        rcases t.nw a (by rw [z]; simp) with w | w
        · exact absurd k2 w
        · rw [k1] at w; cases w
  · intro i j kvs kws a h1 h2 h3 h4
    exact r.oa i j kvs kws a (hvx i _ h1) (hvx j _ h2) h3 h4
end
section
variable {X : Cx} {CX : CXT} {k n : Nat} {f : Addr} {fd : FuncData} {ps : List Str} {E : XK} {x : Str} {p pos : Pos} {e : Expr} {es : List Expr} {m : Fsem} {ga : M (List Ar)}
theorem d_call (G : FnG X.prog X.w X.K X.mg X.base CX k f fd ps (spF X.K n m)) (hgd : X.A.guards = some []) (hr : Room k X.A) (hg : Gl X x) (hm : X.mg x = some (.ref f)) (hk : PySem.W.keepIn X.K (.ref f) = true) (hb : Binds X.K fd ps []) (hx : Passes CX X E) (hn : (e :: es).length = n)
    (ha : PAd X (e :: es) ga) (hla : ∀ ς as ς', ga ς = some (as, ς') → as.length = (e :: es).length) (hdb : (x == ("__debug__" : Str)) = false := by decide) (he : starEach (e :: es) X.env = (false, eval e X.env) :: starEach es X.env := by rfl) (hpl : (backTo pos (starEach es X.env)).any (·.1) = false := by rfl) :
    PEd X (.Call (.Name x p) (e :: es) [] pos) (callE m ga) := fun F => PE.mono (pe_callG G hgd hr hg hm hk hb hx (ha F) hdb he hpl) fun σ H Q hq => by
  obtain ⟨ς, G, rl, r, ς', e', k⟩ := hq
  obtain ⟨as, ς1, e1, q1⟩ := bd_some e'
  refine ⟨ς, G, rl, as, ς1, e1, fun vs H1 G1 rl1 s1 pr => ?_⟩
  split at q1
  · rename_i ss q2
    split at q1
    · cases q1
    · rename_i r' outs hne q3
      split at q1
      · rename_i nd
        cases q1
        refine ⟨ss, G1, by rw [argS_len q2, hla _ _ _ e1, hn], rl1.args q2 pr nd, r, outs, q3, fun v H' G' t => k v H' G' (rl1.called q2 pr nd t) (s1.trans t.same) ?_⟩
        cases r with
        | pure d => exact t.rep
        | vx x => exact t.rep
        | ref i => exact t.rep.elim
        | fresh ds =>
          obtain ⟨a, xs, rfl, h1, h2, h3, h4⟩ := t.rep
          refine ⟨a, xs, rfl, h1, h2, h3, rl1.new h4, fun i b es z1 z2 => ?_⟩
          obtain ⟨es', hq⟩ := putBack_own z1
          obtain ⟨a', _, f1, f2, _⟩ := rl1.ow i b es' hq
          rw [z2] at f1; cases f1
          rw [h4] at f2; cases f2
      · cases q1
    · cases q1
  · cases q1
end
theorem argN_len {ς : En} {as : List Ar} {ς' : En} (h : argN ς = some (as, ς')) : as.length = 0 := by cases h; rfl
theorem argV_len {f : M R} {g : M (List Ar)} {n : Nat} (hg : ∀ ς as ς', g ς = some (as, ς') → as.length = n) : ∀ ς as ς', argV f g ς = some (as, ς') → as.length = n + 1 := fun ς as ς' h => by
  obtain ⟨d, ς1, _, q⟩ := bd_some h
  obtain ⟨as', ς2, e2, q2⟩ := bd_some q
  cases q2
  rw [List.length_cons, hg _ _ _ e2]
theorem argR_len {f : M R} {g : M (List Ar)} {n : Nat} (hg : ∀ ς as ς', g ς = some (as, ς') → as.length = n) : ∀ ς as ς', argR f g ς = some (as, ς') → as.length = n + 1 := fun ς as ς' h => by
  obtain ⟨d, ς1, _, q⟩ := bd_some h
  cases d with
  | ref i =>
    obtain ⟨as', ς2, e2, q2⟩ := bd_some q
    cases q2
    rw [List.length_cons, hg _ _ _ e2]
  | _ => cases q
/-! ### the def -/
def ent (n : Nat) (ss : List S) : En := ss.map some ++ List.replicate (n - ss.length) none
def outsOf (ς : En) (k : Nat) : List S := (ς.take k).map fun o => o.getD (.pure .none)
def runFn (g : MS) (n : Nat) : Fsem := fun ss => match g (ent n ss) with
  | some (.rt (.ref _) _) => none
  | some (.rt r ς) => some (r, outsOf ς ss.length)
  | some (.nx ς) => some (.pure .none, outsOf ς ss.length)
  | _ => none
def fxOf (ss : List S) (vs : List V) (G H : Hp) : Fx where
  A := fun i => match ss[i]?, vs[i]? with
    | some (.own _ _), some (.ref a) => some a
    | _, _ => none
  G0 := G
  H0 := H
theorem ent_get {n : Nat} {ss : List S} {i : Nat} {s : S} (h : (ent n ss)[i]? = some (some s)) : ss[i]? = some s := by
  unfold ent at h
  by_cases hi : i < ss.length
  · rw [List.getElem?_append_left (by simpa using hi), List.getElem?_map] at h
    cases q : ss[i]? with
    | none => rw [q] at h; cases h
    | some z => rw [q] at h; cases h; rfl
  · rw [List.getElem?_append_right (by simpa using hi), List.getElem?_replicate] at h
    split at h <;> cases h
theorem ent_of {n : Nat} {ss : List S} {i : Nat} {s : S} (h : ss[i]? = some s) : (ent n ss)[i]? = some (some s) := by
  unfold ent
  have hi := (List.getElem?_eq_some_iff.mp h).1
  rw [List.getElem?_append_left (by simpa using hi), List.getElem?_map, h]
  rfl
theorem start_of {N : List Str} {vs : List V} {i : Nat} {v : V} (h : vs[i]? = some v) : (L2.start N vs)[i]? = some (some v) := by
  unfold L2.start
  have hi := (List.getElem?_eq_some_iff.mp h).1
  rw [List.getElem?_append_left (by simpa using hi), List.getElem?_map, h]
  rfl
theorem start_get {N : List Str} {vs : List V} {i : Nat} {v : V} (h : (L2.start N vs)[i]? = some (some v)) : vs[i]? = some v := by
  unfold L2.start at h
  by_cases hi : i < vs.length
  · rw [List.getElem?_append_left (by simpa using hi), List.getElem?_map] at h
    cases q : vs[i]? with
    | none => rw [q] at h; cases h
    | some z => rw [q] at h; cases h; rfl
  · rw [List.getElem?_append_right (by simpa using hi), List.getElem?_replicate] at h
    split at h <;> cases h
theorem rel_start {K : PySem.W.Frag} {ss : List S} {vs : List V} {G H : Hp} {N : List Str} (a : ArgsOk K ss G vs H) : Rel K (fxOf ss vs G H) (ent N.length ss) G (L2.start N vs) H where
  len := by unfold ent L2.start; simp only [List.length_append, List.length_map, List.length_replicate, a.len]
  sub := a.sub
  g0 := Same.refl _
  pu := fun i d h => by
    obtain ⟨v, h1, h2⟩ := a.pu i d (ent_get h)
    exact ⟨v, start_of h1, h2⟩
  ow := fun i b ds h => by
    have hs := ent_get h
    obtain ⟨rfl, z, xs, h1, h2, h3, h4⟩ := a.ow i b ds hs
    refine ⟨z, xs, start_of h1, h2, h3, h4, fun _ => ?_, fun q => by cases q⟩
    unfold fxOf
    simp only
    rw [hs, h1]
  ap := fun i j b c ds es z h1 h2 h3 h4 => a.ap i j b c ds es z (ent_get h1) (ent_get h2) (start_get h3) (start_get h4)
  par := fun i z h => by
    unfold fxOf at h
    simp only at h
    split at h
    · rename_i b ds a' q1 q2
      obtain ⟨rfl, _⟩ := a.ow i b ds q1
      exact ⟨ds, ent_of q1⟩
    · cases h
  fr := fun z o h _ => h
  nw := fun z h => .inl h
  vx := fun i x h => by
    obtain ⟨_, v, h1, h2⟩ := a.vx i x (ent_get h)
    exact ⟨v, start_of h1, h2⟩
  od := fun i kvs h => absurd rfl ((a.vx i _ (ent_get h)).1 kvs)
  oa := fun i j kvs kws c h _ _ _ => absurd rfl ((a.vx i _ (ent_get h)).1 kvs)
theorem ret_ok {K : PySem.W.Frag} {ss : List S} {vs : List V} {G H G' H' : Hp} {ς' : En} {σ' : L2.St} {r : R} {v : V} (a : ArgsOk K ss G vs H) (rl : Rel K (fxOf ss vs G H) ς' G' σ' H') (s : Same G G') (hr : ∀ i, r ≠ .ref i) (rep : RepR K (fxOf ss vs G H) ς' G' σ' H' r v) :
    RetOk K ss G vs H r (outsOf ς' ss.length) v H' G' where
  same := s
  sub := rl.sub
  nw := rl.nw
  fr := fun z o h na => by
    refine rl.fr z o h fun i q => ?_
    unfold fxOf at q
    simp only at q
    split at q
    · rename_i b ds a' q1 q2
      cases q
      exact na i b ds q1 q2
    · cases q
  ow := fun i b ds z h1 h2 => by
    have hA : (fxOf ss vs G H).A i = some z := by
      unfold fxOf
      simp only
      rw [h1, h2]
    obtain ⟨ds', e⟩ := rl.par i z hA
    obtain ⟨z', xs, f1, f2, f3, f4, f5, _⟩ := rl.ow i true ds' e
    have := f5 rfl
    rw [hA] at this; cases this
    refine ⟨ds', xs, ?_, f2, f3, f4⟩
    have hi := (List.getElem?_eq_some_iff.mp h1).1
    unfold outsOf
    rw [List.getElem?_map, List.getElem?_take_of_lt hi, e]
    rfl
  rep := by
    cases r with
    | pure d => exact rep
    | vx x => exact rep
    | ref i => exact absurd rfl (hr i)
    | fresh ds =>
      obtain ⟨z, xs, rfl, h1, h2, h3, h4, _⟩ := rep
      exact ⟨z, xs, rfl, h1, h2, h3, h4⟩
theorem fn_body {X : Cx} {n : Nat} {N : List Str} {g : MS} {body : List Stmt} {vs : List V} {H : Hp} {Q : VK} {E : XK} (hb : PSsd X.nox body g) (h : spF X.K n (runFn g N.length) vs H Q E) :
    ∃ t, PSs X body t ∧ t { nx := fun _ H' => Q .non H', rt := Q } (L2.start N vs) H := by
  obtain ⟨ss, G, hl, a, r, outs, e2, q⟩ := h
  refine ⟨_, (hb (fxOf ss vs G H)).nox, ?_⟩
  unfold runFn at e2
  split at e2
  · cases e2
  · rename_i r' ς' hne q2
    cases e2
    exact ⟨ent N.length ss, G, rel_start a, _, q2, fun v σ' H' G' rl s rep => q v H' G' (ret_ok a rl s (fun i z => hne i z) rep)⟩
  · rename_i ς' q2
    cases e2
    exact ⟨ent N.length ss, G, rel_start a, _, q2, fun σ' H' G' rl s => q .non H' G' (ret_ok a rl s (fun i z => by cases z) .non)⟩
  · cases e2
end Lw
namespace Lw
open PySem PySem.Spec PyProof.Rows L2
/-! ### the law's own call -/
theorem law_go {P : Program} {w : World} {K : PySem.W.Frag} {mg mb : Str → Option Value} {k : Nat} {fa a : Addr} {fd : FuncData} {x : Str} {sp : Sp} {s₁ : Shared} {vs : List Value} {ns : List Int}
    (KX : K.In s₁.heap) (hns : s₁.heap.Ns mainGlobals mg) (hb : s₁.heap.Ns builtinsNs mb) (hbb : ∀ x : Str, x ≠ "__name__" → mb x = bootBuiltins x) (hlim : s₁.heap.NoLimit) (hg : s₁.gens = #[])
    (ha : s₁.heap.get? a = some { cls := .type "list", data := .seq vs.toArray }) (hi : IntsAre vs ns) (hl : ns.length ≤ sizeLine) (hr : Room k callerA)
    (F : ∀ base : Heap, K.In base → base.Ns mainGlobals mg → FnG P w K mg base CX0 k fa fd [x] sp) (hbind : ∀ (s : Shared) (u : Value), BindsTo s fd ⟨[u], []⟩ [(x, u)])
    (hsp : ∀ H : Hp, Only H → SqL K H a (ns.map V.int) → sp [.ref a] H (fun v _ => v = .bl true) fun _ _ _ => False) :
    codeAny (model P w) callerA (.call (.ref fa) ⟨[.ref a], []⟩) (fun r s' => r = .ok (.ret (.bool true)) ∧ OldK s₁.heap s'.heap ∧ s'.os = s₁.os ∧ AllBare s'.gens) s₁ := by
  have rv := vals_ints hi
  -- from any picture of the heap that tracks the script alone
  have main : ∀ H : Hp, Only H → SqL K H a (ns.map V.int) → HOk P w H s₁.heap → (∀ b, H b ≠ none → b = a) → (H a ≠ none → K.lookup a = none) →
      codeAny (model P w) callerA (.call (.ref fa) ⟨[.ref a], []⟩) (fun r s' => r = .ok (.ret (.bool true)) ∧ OldK s₁.heap s'.heap ∧ s'.os = s₁.os ∧ AllBare s'.gens) s₁ := by
    intro H hO hS hok hA hK
    have old : ∀ {b : Addr} {o : Obj}, s₁.heap.get? b = some o → H b = none → (hidT s₁.heap H).get? b = some o := fun e n => hidT_get e n
    have dicts : ∀ {b : Addr} {o : Obj} {es : Array DictEntry} {ep : Nat}, s₁.heap.get? b = some o → o.data = .dict es ep → H b = none := by
      intro b o es ep e d
      cases q : H b with
      | none => rfl
      | some u =>
        have e' : b = a := hA b (by rw [q]; simp)
        subst e'
        rw [ha] at e
        cases e
        exact absurd (show Data.seq vs.toArray _ = Data.dict es ep from d) (by intro z; cases z)
    have spaces : ∀ {b : Addr} {m : Str → Option Value}, s₁.heap.Ns b m → (hidT s₁.heap H).Ns b m := by
      rintro b m ⟨o, es, ep, e, d, r⟩
      exact ⟨o, es, ep, old e (dicts e d), d, r⟩
    have hKb : K.In (hidT s₁.heap H) := by
      intro b o e
      refine old (KX b o e) ?_
      cases q : H b with
      | none => rfl
      | some u =>
        have e' : b = a := hA b (by rw [q]; simp)
        subst e'
        rw [hK (by rw [q]; simp)] at e
        cases e
    have hM : Mod K mg (hidT s₁.heap H) := by
      obtain ⟨mc, h1, h2⟩ := hlim
      exact ⟨hKb, spaces hns, ⟨mb, spaces hb, hbb⟩, mc, spaces h1, h2⟩
    have noF : ∀ b : Addr, b ∉ (frs ([] : List Env)) := fun b z => absurd (show b ∈ ([] : List Addr) from z) (by simp)
    have e0 : Env0 P w K mg (hidT s₁.heap H) callerA [] s₁ H := ⟨rfl, hM, fun b o e => of_hidT e, Nat.le_of_eq (hidT_size _ _), trivial, fun b z => absurd z (noF b), hok, .of_eq hg⟩
    refine codeAny_mono ((F _ hKb (spaces hns)).run callerA [] s₁ H ⟨[.ref a], []⟩ [.ref a] [.ref a] _ _ rfl hr e0 (hbind s₁ (.ref a)) (.cons rfl .nil) (hsp H hO hS)) (fun r s' h => ?_)
    cases r with
    | error e => exact False.elim h
    | ok fl =>
      cases fl with
      | next => exact False.elim h
      | brk => exact False.elim h
      | cont => exact False.elim h
      | ret u =>
        obtain ⟨v, H', os, bare, un, hok', r', q⟩ := h
        cases (show v = .bl true from q)
        cases (show u = Value.bool true from r')
        refine ⟨rfl, OldK.of_keep (fun b o e => ?_), os, bare⟩
        cases z0 : H b with
        | none => exact un.keep b o e z0 (noF b) (by simp)
        | some u =>
          rcases hO b with z | ⟨ob, xs, z⟩
          · rw [z0] at z; cases z
          · have z2 := un.frzs b ob _ z
            obtain ⟨e1, _⟩ := hok b _ z
            obtain ⟨e2, _⟩ := hok' b _ z2
            rw [e] at e1
            cases e1
            exact e2
  cases hk : K.lookup a with
  | some o =>
    have e := KX a o hk
    rw [ha] at e
    cases e
    refine main (fun _ => none) (fun _ => Or.inl rfl) (Or.inr ⟨_, vs.toArray, _, hk, rfl, rfl, rfl, ?_, by simpa using rv⟩) (fun b u z => by cases z) (fun b z => absurd rfl z) (fun z => absurd rfl z)
    rw [List.size_toArray, hi.length]
    exact hl
  | none =>
    refine main (fun b => if b = a then some (.frz { cls := .type "list", data := .seq vs.toArray } (.lst (ns.map V.int))) else none) ?_ (Or.inl (Or.inr ⟨{ cls := .type "list", data := .seq vs.toArray }, if_pos rfl⟩)) ?_ ?_ (fun _ => hk)
    · intro b
      by_cases hb : b = a
      · exact Or.inr ⟨_, _, if_pos hb⟩
      · exact Or.inl (if_neg hb)
    · intro b u z
      by_cases hb : b = a
      · have z' := (if_pos hb).symm.trans z
        cases z'
        subst hb
        exact ⟨ha, by rw [List.length_map]; exact hl, vs, _, rv, ha⟩
      · have z' := (if_neg hb).symm.trans z
        cases z'
    · intro b z
      by_cases hb : b = a
      · exact hb
      · exact absurd (if_neg hb) z
/-- what the law must be worth -/
theorem law_sp {K : PySem.W.Frag} {m : Fsem} {H : Hp} {a : Addr} {ns : List Int} (h : ∃ outs, m [.pure (.list (ns.map PyData.int))] = some (.pure (.bool true), outs)) (hS : SqL K H a (ns.map V.int)) : spF K 1 m [.ref a] H (fun v _ => v = .bl true) fun _ _ _ => False := by
  obtain ⟨outs, e⟩ := h
  refine ⟨_, H, rfl, ⟨rfl, Same.refl _, fun i d h => ?_, fun i b ds h => ?_, fun i j b c ds es z h1 _ _ _ => ?_, fun i x h => by cases i <;> cases h⟩, _, outs, e, fun v H' G' t => dp_bool t.rep⟩
  · cases i with
    | zero => cases h; exact ⟨_, rfl, .lst hS dpa_ints⟩
    | succ i => cases h
  · cases i with
    | zero => cases h
    | succ i => cases h
  · cases i with
    | zero => cases h1
    | succ i => cases h1
end Lw
namespace Lw
open PySem PySem.Spec PyProof.Rows L2
theorem tuple_mul1 (l : Addr) (items : Array Value) (n : Nat) (dd : Option Addr) (sl : Array (Option Value)) (u : Tok) :
    Meets (Builtin.«tuple.__mul__» ⟨[.ref l, .int 1 u], []⟩) (fun _ R s => s.heap.get? l = some { cls := .type "tuple", dict := dd, data := .seq items n, slots := sl } ∧ R (.ok (.ret (Value.ref l))) s) :=
  .of_wp fun prog w A R s h => by
    obtain ⟨hp, g, d, tk, os⟩ := s
    obtain ⟨hl, h⟩ := h
    have f1 := AutoSeq1.idx_int
    wp_walk using wpAny_loadPart' hl
    repeat (first
      | (refine wpAny_ite_false (decide_eq_false (by decide)) ?_; wp_walk using wpAny_loadPart' hl)
      | (refine wpAny_ite_true (decide_eq_true (by simp)) ?_; wp_walk using wpAny_loadPart' hl))
    exact ⟨_, rfl, h⟩
def rRepT1 (K : PySem.W.Frag) : R2 := fun x y H Q => ∃ l xs, x = .ref l ∧ y = .int 1 ∧ SqT K H l xs ∧ Q (.ref l) H
section
variable {X : Cx} {F : Fx} {a b c e : Expr} {es : List Expr} {fa fb fc f : M R} {ta : M Bool} {pos p p2 : Pos} {x : Str}
theorem op_repT1 : OpR X (binaryOp .Mult) (rRepT1 X.K) := by
  intro pins s σ H x y v u Q I rx ry h
  obtain ⟨l, xs, rfl, rfl, hT, q⟩ := h
  cases rx
  obtain ⟨t, rfl⟩ := ry
  obtain ⟨its, r, ⟨⟨cls, dd, data, sl⟩, ho, hc, n, hd⟩, hs⟩ := I.tuple hT
  simp only at hc hd
  subst hc hd
  exact wpAny_binaryOp_repeat_ref (T := "tuple") (U := "int") (by decide) ⟨_, ho, rfl⟩ (fun s' => typeIs_int s' 1 t) noFill_tuple_mul F.fills_int_mul F.slot_int_rmul repeat_tuple F.slot_int_index.lookup
    (call_meets F.slot_int_rmul (typeIs_int s 1 t) F.entry_int_rmul (F.args_int_rmul_2 _ _) (int_rmul_tuple 1 t l its.toArray n dd sl)
      ⟨ho, rfl, ⟨_, ho, rfl⟩, call_meets F.slot_tuple_mul ⟨_, ho, rfl⟩ F.entry_tuple_mul (F.args_tuple_mul_2 _ _) (tuple_mul1 l its.toArray n dd sl t) ⟨ho, .ref l, H, I, rfl, q⟩⟩)
def gRepT1 : D → D → Option R
  | .tuple xs, .int 1 => some (.pure (.tuple xs))
  | _, _ => none
theorem op2_repT1 : Op2 X F (rRepT1 X.K) gRepT1 := ⟨fun ς G σ H x y dx dy r Q rl hx hy e k => by
  cases dx with
  | tuple i =>
    cases dy with
    | int j =>
      by_cases q : j = 1
      · subst q
        cases e
        rcases hx with hx | ⟨_, _, _, _, ee, _⟩
        · obtain ⟨p, vs, rfl, h1, h2⟩ := dp_tuple hx
          exact ⟨p, vs, rfl, hy.int, same_seqT rl.sub h1, k _ H G rl (Same.refl _) hx⟩
        · cases ee
      · unfold gRepT1 at e
        split at e
        · rename_i h1 h2; cases h2; exact absurd rfl q
        · cases e
    | _ => cases e
  | _ => cases e⟩
def gMulA : D → D → Option R := orG (gI cMul fun i j => .int (i * j)) (orG gRepT gRepT1)
theorem d_mulA (ha : PEd X a fa) (hb : PEd X b fb) : PEd X (.BinOp a .Mult b pos) (op2 gMulA fa fb) := d_op (op_mul.or (op_repT.or op_repT1)) (fun _ => Op2.or op2_mulI (Op2.or op2_repT op2_repT1)) ha hb
def gAddA : D → D → Option R := orG (gI0 fun i j => .int (i + j)) (orG gStr (orG gCatL (orG gCatT (gIB (· + ·)))))
theorem d_addA (ha : PEd X a fa) (hb : PEd X b fb) : PEd X (.BinOp a .Add b pos) (op2 gAddA fa fb) :=
  d_op (op_add.or (op_add_str.or (op_catL.or (op_catA.or op_addB)))) (fun _ => Op2.or (op2_I0 fun _ _ _ => .int _) (Op2.or op2_str (Op2.or op2_catL (Op2.or op2_catT op2_IB)))) ha hb
def gSubA : D → D → Option R := orG (gI0 fun i j => .int (i - j)) (gIB (· - ·))
theorem d_subA (ha : PEd X a fa) (hb : PEd X b fb) : PEd X (.BinOp a .Sub b pos) (op2 gSubA fa fb) := d_op (op_sub.or op_subB) (fun _ => Op2.or op2_sub op2_IB) ha hb
def gDivA : D → D → Option R := gI cDiv fun i j => .int (i / j)
def gModA : D → D → Option R := gI (fun _ j => decide (0 < j)) fun i j => .int (i % j)
def gPowA : D → D → Option R := gI cPow fun i j => .int (i ^ j.toNat)
def gLt : D → D → Option R := gI0 fun i j => .bool (decide (i < j))
def gLe : D → D → Option R := gI0 fun i j => .bool (decide (i ≤ j))
def gGt : D → D → Option R := gI0 fun i j => .bool (decide (j < i))
def gGe : D → D → Option R := gI0 fun i j => .bool (decide (j ≤ i))
theorem d_divA (ha : PEd X a fa) (hb : PEd X b fb) : PEd X (.BinOp a .FloorDiv b pos) (op2 gDivA fa fb) := d_fdiv ha hb
theorem d_modA (ha : PEd X a fa) (hb : PEd X b fb) : PEd X (.BinOp a .Mod b pos) (op2 gModA fa fb) := d_mod ha hb
theorem d_powA (ha : PEd X a fa) (hb : PEd X b fb) : PEd X (.BinOp a .Pow b pos) (op2 gPowA fa fb) := d_pow ha hb
theorem o_lt : Op2 X F (rI0 fun i j => .bl (decide (i < j))) gLt := op2_lt
theorem o_le : Op2 X F (rI0 fun i j => .bl (decide (i ≤ j))) gLe := op2_le
theorem o_gt : Op2 X F (rI0 fun i j => .bl (decide (j < i))) gGt := op2_gt
theorem o_ge : Op2 X F (rI0 fun i j => .bl (decide (j ≤ i))) gGe := op2_ge
theorem _root_.Lw.PWd.pt (h : PWd X e ta) : PTd X e ta := fun F => (h F).pt
end
/-! ### a def by its name -/
def Fo (P : Program) (w : World) (K : PySem.W.Frag) (mg : Str → Option Value) (base : Heap) (x : Str) (ps : List Str) (m : Fsem) (k : Nat) : Prop :=
  ∃ (f : Addr) (fd : FuncData), FnG P w K mg base CX0 k f fd ps (spF K ps.length m) ∧ mg x = some (.ref f) ∧ PySem.W.keepIn K (.ref f) = true ∧ Binds K fd ps []
section
variable {X : Cx} {x : Str} {ps : List Str} {m : Fsem} {k j : Nat} {p pos : Pos} {e : Expr} {es : List Expr} {ga : M (List Ar)}
theorem Fo.call (h : Fo X.prog X.w X.K X.mg X.base x ps m j) (hgd : X.A.guards = some []) (hr : Room k X.A) (hj : j ≤ k) (hg : Gl X x) (hn : (e :: es).length = ps.length) (ha : PAd X (e :: es) ga) (hla : ∀ ς as ς', ga ς = some (as, ς') → as.length = (e :: es).length)
    (hdb : (x == ("__debug__" : Str)) = false := by decide) (he : starEach (e :: es) X.env = (false, eval e X.env) :: starEach es X.env := by rfl) (hpl : (backTo pos (starEach es X.env)).any (·.1) = false := by rfl) :
    PEd X (.Call (.Name x p) (e :: es) [] pos) (callE m ga) := by
  obtain ⟨f, fd, G, hm, hk, hb⟩ := h
  exact d_call G hgd (hr.mono hj) hg hm hk hb (pass0 (X := X)) hn ha hla hdb he hpl
end
theorem fo_none {P : Program} {w : World} {K : PySem.W.Frag} {mg : Str → Option Value} {base : Heap} {x : Str} {ps : List Str} {k : Nat} {f : Addr} {fd : FuncData} (hm : mg x = some (.ref f)) (hk : PySem.W.keepIn K (.ref f) = true) (hb : Binds K fd ps []) : Fo P w K mg base x ps (fun _ => none) k := by
  refine ⟨f, fd, ⟨fun vs H Q E h => ?_, fun A outer s H args us vs Q E _ _ _ _ _ h => ?_⟩, hm, hk, hb⟩
  · obtain ⟨_, _, _, _, _, _, e, _⟩ := h; cases e
  · obtain ⟨_, _, _, _, _, _, e, _⟩ := h; cases e
theorem FunD.mkFn {P : Program} {w : World} {K : PySem.W.Frag} {mg : Str → Option Value} {base : Heap} {k : Nat} {f : Addr} {fd : FuncData} {ps : List Str} {x : Str} {params : Arguments} {body : List Stmt} {scope : Scope} {dvs : List V} {kws : List (Str × V)} {N : List Str} {g : MS}
    (F : FunD K x x params body scope dvs kws f fd) (S : FnScope N ps scope)
    (hbody : ∀ (cdv : Value) (A : Around) (outer : List Env) (s : Shared) (H : Hp) (E : XK), A.guards = some [] → Room k (A.deeper (envOfC x scope s.heap.objs.size f cdv)) →
      PSsd (cxOf CX0 P w K mg base N x scope f cdv A outer s H E).nox body g) : FnG P w K mg base CX0 (k + 1) f fd ps (spF K ps.length (runFn g N.length)) := by
  obtain ⟨oc, od, dV, kV, doc, pm, an, cdv, ct, osl, rfl, lk, hcd, _, _⟩ := F.ex
  refine fnG_of lk hcd S (fun vs H Q E h => ?_) (fun A outer s H vs Q E hgd hr h => ?_)
  · obtain ⟨ss, G, hl, a, _⟩ := h
    rw [a.len, hl]
  · exact fn_body (hbody cdv A outer s H E hgd hr) h
theorem FunD.mkG {P : Program} {w : World} {K : PySem.W.Frag} {mg : Str → Option Value} {base : Heap} {k : Nat} {f : Addr} {fd : FuncData} {ps : List Str} {x : Str} {params : Arguments} {body : List Stmt} {scope : Scope} {dvs : List V} {kws : List (Str × V)} {N : List Str} {g : MS}
    (F : FunD K x x params body scope dvs kws f fd) (S : FnScope N ps scope)
    (hbody : ∀ (cdv : Value) (A : Around) (outer : List Env) (s : Shared) (H : Hp) (E : XK), A.guards = some [] → Room k (A.deeper (envOfC x scope s.heap.objs.size f cdv)) →
      PSsd (cxOf CX0 P w K mg base N x scope f cdv A outer s H E).nox body g) (hm : mg x = some (.ref f)) (hb : Binds K fd ps []) : Fo P w K mg base x ps (runFn g N.length) (k + 1) := ⟨f, fd, FunD.mkFn F S hbody, hm, F.kp, hb⟩
/-! ### a def that is handed a new list as its one argument -/
def finF (o : Option (R × List S)) (ς : En) : Option (R × En) := match o with
  | some (.ref _, _) => none
  | some (r, _) => some (r, ς)
  | none => none
def callF (m : Fsem) (fe : M R) : M R := bd fe fun r => match r with
  | .fresh ds => fun ς => finF (m [.own true ds]) ς
  | _ => lift none
theorem walk_GE {l : PySem.W.OpenLaw} {n k : Nat} {q : Program} {loose : List Str} {XP : (Str → Option Value) → Heap → Prop} {YP : World → Heap → Prop} {d : DefRec} {x : Str}
    (hn : l.most = some n) (hn2 : n ≤ sizeLine) (hdf : d.params.defaults = []) (hr : Room k callerA)
    (F : ∀ (w : World) (mg : Str → Option Value) (fa : Addr) (h : Heap), YP w h → h.Ns mainGlobals mg → mg d.name = some (.ref fa) →
      ∃ (K : PySem.W.Frag) (fd : FuncData) (sp : Sp), K.In h ∧ (∀ (s : Shared) (u : Value), BindsTo s fd ⟨[u], []⟩ [(x, u)]) ∧
        (∀ (H : Hp) (a : Addr) (ns : List Int), ns.length ≤ n → (∀ z ∈ ns, Builtin.Int.intBits z ≤ 1048576) → SqL K H a (ns.map V.int) → sp [.ref a] H (fun v _ => v = .bl true) fun _ _ _ => False) ∧
        ∀ base : Heap, K.In base → base.Ns mainGlobals mg → FnG l.prog w K mg base CX0 k fa fd [x] sp) :
    PySem.W.WalkO q loose XP YP l.row.toRowW d [] (fun f vs => PySem.call f vs) := by
  refine Att.attach_callB hn hdf (fun w s₀ s₁ mg mb fa o pm cd doc a vs ns G Y ho hd hcd hmg hobj hints hlen hbits hg => ?_)
  obtain ⟨K, fd, sp, KX, hb, hsp, hF⟩ := F w mg fa _ Y G.T.g hmg
  exact law_go KX G.T.g G.T.b G.T.builtins G.T.nolimit hg hobj hints (Nat.le_trans hlen hn2) hr hF hb (fun H _ hS => hsp H a ns hlen hbits hS)
end Lw
namespace Lw
open PySem PySem.Spec PyProof.Rows L2
/-! ### what a program over the state is worth -/
def wp {α : Type} (f : M α) (ς : En) (Q : α → En → Prop) : Prop := ∃ a ς', f ς = some (a, ς') ∧ Q a ς'
def wps (g : MS) (ς : En) (Q : Out → Prop) : Prop := ∃ o, g ς = some o ∧ Q o
def wpf (m : Fsem) (ss : List S) (Q : R → List S → Prop) : Prop := ∃ r o, m ss = some (r, o) ∧ Q r o
namespace Sm
section
variable {α β : Type} {ς : En} {i : Nat} {d : D} {ds : List D} {b : Bool}
theorem mono {f : M α} {Q Q' : α → En → Prop} (h : wp f ς Q) (k : ∀ a ς', Q a ς' → Q' a ς') : wp f ς Q' := by
  obtain ⟨a, ς', e, q⟩ := h; exact ⟨a, ς', e, k _ _ q⟩
theorem fmono {m : Fsem} {ss : List S} {Q Q' : R → List S → Prop} (h : wpf m ss Q) (k : ∀ r o, Q r o → Q' r o) : wpf m ss Q' := by
  obtain ⟨r, o, e, q⟩ := h; exact ⟨r, o, e, k _ _ q⟩
theorem ret {a : α} {Q : α → En → Prop} (h : Q a ς) : wp (Lw.ret a) ς Q := ⟨a, ς, rfl, h⟩
theorem bd {f : M α} {g : α → M β} {Q : β → En → Prop} (h : wp f ς fun a ς' => wp (g a) ς' Q) : wp (Lw.bd f g) ς Q := by
  obtain ⟨a, ς', e, a2, ς2, e2, q⟩ := h
  exact ⟨a2, ς2, by unfold Lw.bd; rw [e]; exact e2, q⟩
theorem cn {Q : R → En → Prop} (h : Q (.pure d) ς) : wp (Lw.cn d) ς Q := ⟨_, ς, rfl, h⟩
theorem vrP {Q : R → En → Prop} (e : ς[i]? = some (some (.pure d))) (h : Q (.pure d) ς) : wp (vr i) ς Q := ⟨_, ς, by unfold vr; rw [e], h⟩
theorem vrO {Q : R → En → Prop} (e : ς[i]? = some (some (.own b ds))) (h : Q (.ref i) ς) : wp (vr i) ς Q := ⟨_, ς, by unfold vr; rw [e], h⟩
theorem lift {o : Option α} {a : α} {Q : α → En → Prop} (e : o = some a) (h : Q a ς) : wp (Lw.lift o) ς Q := ⟨a, ς, by unfold Lw.lift; rw [e], h⟩
theorem rd {r : R} {Q : D → En → Prop} (e : rdD r ς = some d) (h : Q d ς) : wp (Lw.rd r) ς Q := ⟨d, ς, by unfold Lw.rd; rw [e], h⟩
/-- a value that is read at once -/
def nf : R → R
  | .fresh ds => .pure (.list ds)
  | r => r
theorem rd_nf (r : R) (ς : En) : rdD (nf r) ς = rdD r ς := by cases r <;> rfl
theorem sub {f : M R} {Q : R → En → Prop} (h : wp f ς fun r ς' => Q (nf r) ς') : wp (Lw.sub f) ς Q := by
  refine bd (mono h fun r ς' q => ?_)
  cases r <;> exact ret q
theorem op2 {g : D → D → Option R} {fa fb : M R} {Q : R → En → Prop} (h : wp fa ς fun a ς1 => wp fb ς1 fun b ς2 => ∃ x y r, rdD a ς2 = some x ∧ rdD b ς2 = some y ∧ g x y = some r ∧ Q r ς2) : wp (Lw.op2 g fa fb) ς Q := by
  refine bd (sub (mono h fun a ς1 h => bd (sub (mono h fun b ς2 h => ?_))))
  obtain ⟨x, y, r, e1, e2, e3, q⟩ := h
  exact bd (rd (by rw [rd_nf]; exact e1) (bd (rd (by rw [rd_nf]; exact e2) (lift e3 q))))
theorem cal1 {g : D → Option R} {fa : M R} {Q : R → En → Prop} (h : wp fa ς fun a ς1 => ∃ x r, rdD a ς1 = some x ∧ g x = some r ∧ Q r ς1) : wp (Lw.cal1 g fa) ς Q := by
  refine bd (sub (mono h fun a ς1 h => ?_))
  obtain ⟨x, r, e1, e3, q⟩ := h
  exact bd (rd (by rw [rd_nf]; exact e1) (lift e3 q))
theorem isE {ts : List Tn} {fa : M R} {Q : R → En → Prop} (h : wp fa ς fun a ς1 => ∃ x, rdD a ς1 = some x ∧ Q (.pure (.bool (ts.any fun t => isD t x))) ς1) : wp (Lw.isE fa ts) ς Q := by
  refine bd (sub (mono h fun a ς1 h => ?_))
  obtain ⟨x, e1, q⟩ := h
  exact bd (rd (by rw [rd_nf]; exact e1) (ret q))
theorem esc {f : M R} {Q : D → En → Prop} (h : wp f ς fun r ς1 => ∃ d ς2, toD r ς1 = some (d, ς2) ∧ Q d ς2) : wp (Lw.esc f) ς Q := by
  refine bd (mono h fun r ς1 h => ?_)
  obtain ⟨d, ς2, e, q⟩ := h
  exact ⟨d, ς2, e, q⟩
theorem tst {f : M R} {Q : Bool → En → Prop} (h : wp f ς fun r ς1 => ∃ b, rdD r ς1 = some (.bool b) ∧ Q b ς1) : wp (Lw.tst f) ς Q := by
  refine bd (sub (mono h fun a ς1 h => ?_))
  obtain ⟨x, e1, q⟩ := h
  exact bd (rd (by rw [rd_nf]; exact e1) (lift rfl q))
theorem tru {f : M R} {Q : Bool → En → Prop} (h : wp f ς fun r ς1 => ∃ d b, rdD r ς1 = some d ∧ truD d = some b ∧ Q b ς1) : wp (Lw.tru f) ς Q := by
  refine bd (sub (mono h fun a ς1 h => ?_))
  obtain ⟨x, b, e1, e2, q⟩ := h
  exact bd (rd (by rw [rd_nf]; exact e1) (lift e2 q))
theorem andT {ta tb : M Bool} {Q : Bool → En → Prop} (h : wp ta ς fun b ς1 => if b = true then wp tb ς1 Q else Q false ς1) : wp (Lw.andT ta tb) ς Q := by
  refine bd (mono h fun b ς1 h => ?_)
  cases b
  · rw [if_neg (by decide)] at h ⊢; exact ret h
  · rw [if_pos rfl] at h ⊢; exact h
theorem orT {ta tb : M Bool} {Q : Bool → En → Prop} (h : wp ta ς fun b ς1 => if b = true then Q true ς1 else wp tb ς1 Q) : wp (Lw.orT ta tb) ς Q := by
  refine bd (mono h fun b ς1 h => ?_)
  cases b
  · rw [if_neg (by decide)] at h ⊢; exact h
  · rw [if_pos rfl] at h ⊢; exact ret h
theorem notT {ta : M Bool} {Q : Bool → En → Prop} (h : wp ta ς fun b ς1 => Q (!b) ς1) : wp (Lw.notT ta) ς Q := bd (mono h fun b ς1 h => ret h)
theorem andV {fa fb : M R} {Q : R → En → Prop} (h : wp fa ς fun r ς1 => ∃ b, rdD r ς1 = some (.bool b) ∧ if b = true then wp fb ς1 Q else Q (.pure (.bool false)) ς1) : wp (Lw.andV fa fb) ς Q := by
  refine bd (sub (mono h fun a ς1 h => ?_))
  obtain ⟨b, e1, q⟩ := h
  refine bd (rd (by rw [rd_nf]; exact e1) (bd (lift rfl ?_)))
  cases b
  · rw [if_neg (by decide)] at q ⊢; exact ret q
  · rw [if_pos rfl] at q ⊢; exact q
theorem orV {fa fb : M R} {Q : R → En → Prop} (h : wp fa ς fun r ς1 => ∃ b, rdD r ς1 = some (.bool b) ∧ if b = true then Q (.pure (.bool true)) ς1 else wp fb ς1 Q) : wp (Lw.orV fa fb) ς Q := by
  refine bd (sub (mono h fun a ς1 h => ?_))
  obtain ⟨b, e1, q⟩ := h
  refine bd (rd (by rw [rd_nf]; exact e1) (bd (lift rfl ?_)))
  cases b
  · rw [if_neg (by decide)] at q ⊢; exact q
  · rw [if_pos rfl] at q ⊢; exact ret q
theorem notV {fa : M R} {Q : R → En → Prop} (h : wp fa ς fun r ς1 => ∃ b, rdD r ς1 = some (.bool b) ∧ Q (.pure (.bool !b)) ς1) : wp (Lw.notV fa) ς Q := by
  refine bd (sub (mono h fun a ς1 h => ?_))
  obtain ⟨b, e1, q⟩ := h
  exact bd (rd (by rw [rd_nf]; exact e1) (bd (lift rfl (ret q))))
theorem negV {fa : M R} {Q : R → En → Prop} (h : wp fa ς fun r ς1 => ∃ i, rdD r ς1 = some (.int i) ∧ Q (.pure (.int (-i))) ς1) : wp (Lw.negV fa) ς Q := by
  refine bd (sub (mono h fun a ς1 h => ?_))
  obtain ⟨b, e1, q⟩ := h
  exact bd (rd (by rw [rd_nf]; exact e1) (lift rfl q))
theorem ife {t : M Bool} {fa fb : M R} {Q : R → En → Prop} (h : wp t ς fun b ς1 => if b = true then wp fa ς1 Q else wp fb ς1 Q) : wp (Lw.ife t fa fb) ς Q := by
  refine bd (mono h fun b ς1 h => ?_)
  cases b
  · rw [if_neg (by decide)] at h ⊢; exact h
  · rw [if_pos rfl] at h ⊢; exact h
theorem chn {g g' : D → D → Option R} {fa fb fc : M R} {Q : R → En → Prop} (h : wp fa ς fun a ς1 => wp fb ς1 fun b ς2 => ∃ x y k, rdD a ς2 = some x ∧ rdD b ς2 = some y ∧ g x y = some (.pure (.bool k)) ∧
    if k = true then wp fc ς2 fun c ς3 => ∃ y z r, rdD b ς3 = some y ∧ rdD c ς3 = some z ∧ g' y z = some r ∧ Q r ς3 else Q (.pure (.bool false)) ς2) : wp (Lw.chn g g' fa fb fc) ς Q := by
  refine bd (sub (mono h fun a ς1 h => bd (sub (mono h fun b ς2 h => ?_))))
  obtain ⟨x, y, k, e1, e2, e3, q⟩ := h
  refine bd (rd (by rw [rd_nf]; exact e1) (bd (rd (by rw [rd_nf]; exact e2) (bd (lift e3 (bd (lift rfl ?_)))))))
  cases k
  · rw [if_neg (by decide)] at q ⊢; exact ret q
  · rw [if_pos rfl] at q ⊢
    refine bd (sub (mono q fun c ς3 h => ?_))
    obtain ⟨y, z, r, e1, e2, e3, q⟩ := h
    exact bd (rd (by rw [rd_nf]; exact e1) (bd (rd (by rw [rd_nf]; exact e2) (lift e3 q))))
theorem argN {Q : List Ar → En → Prop} (h : Q [] ς) : wp Lw.argN ς Q := ret h
theorem argV {f : M R} {g : M (List Ar)} {Q : List Ar → En → Prop} (h : wp f ς fun r ς1 => ∃ d ς2, toD r ς1 = some (d, ς2) ∧ wp g ς2 fun as ς3 => Q (.val d :: as) ς3) : wp (Lw.argV f g) ς Q :=
  bd (esc (mono h fun r ς1 ⟨d, ς2, e, q⟩ => ⟨d, ς2, e, bd (mono q fun as ς3 q => ret q)⟩))
theorem argR {f : M R} {g : M (List Ar)} {Q : List Ar → En → Prop} (h : wp f ς fun r ς1 => ∃ i, r = .ref i ∧ wp g ς1 fun as ς3 => Q (.ref i :: as) ς3) : wp (Lw.argR f g) ς Q := by
  refine bd (mono h fun r ς1 h => ?_)
  obtain ⟨i, rfl, q⟩ := h
  exact bd (mono q fun as ς3 q => ret q)
theorem tupE {g : M (List Ar)} {Q : R → En → Prop} (h : wp g ς fun as ς1 => ∃ ds, vals as = some ds ∧ ds.length ≤ sizeLine ∧ Q (.pure (.tuple ds)) ς1) : wp (Lw.tupE g) ς Q := by
  refine bd (mono h fun as ς1 h => ?_)
  obtain ⟨ds, e, hs, q⟩ := h
  refine bd (lift e ?_)
  rw [if_pos (show small ds.length = true from decide_eq_true hs)]
  exact ret q
theorem lstE {g : M (List Ar)} {Q : R → En → Prop} (h : wp g ς fun as ς1 => ∃ ds, vals as = some ds ∧ ds.length ≤ sizeLine ∧ Q (.fresh ds) ς1) : wp (Lw.lstE g) ς Q := by
  refine bd (mono h fun as ς1 h => ?_)
  obtain ⟨ds, e, hs, q⟩ := h
  refine bd (lift e ?_)
  rw [if_pos (show small ds.length = true from decide_eq_true hs)]
  exact ret q
theorem callE {m : Fsem} {g : M (List Ar)} {Q : R → En → Prop} (h : wp g ς fun as ς1 => ∃ ss, argS as ς1 = some ss ∧ (refsOf as).Nodup ∧ wpf m ss fun r outs => (∀ i, r ≠ .ref i) ∧ Q r (putBack as outs ς1)) : wp (Lw.callE m g) ς Q := by
  refine bd (mono h fun as ς1 h => ?_)
  obtain ⟨ss, e, nd, r, outs, e2, hr, q⟩ := h
  refine ⟨r, putBack as outs ς1, ?_, q⟩
  simp only [e, e2]
  cases r with
  | ref i => exact absurd rfl (hr i)
  | pure d => exact if_pos nd
  | vx x => exact if_pos nd
  | fresh ds => exact if_pos nd
theorem callF {m : Fsem} {fe : M R} {Q : R → En → Prop} (h : wp fe ς fun r ς1 => ∃ ds, r = .fresh ds ∧ wpf m [.own true ds] fun r outs => (∀ i, r ≠ .ref i) ∧ Q r ς1) : wp (Lw.callF m fe) ς Q := by
  refine bd (mono h fun r ς1 h => ?_)
  obtain ⟨ds, rfl, r, outs, e2, hr, q⟩ := h
  refine ⟨r, ς1, ?_, q⟩
  show finF (m [.own true ds]) ς1 = _
  rw [e2]
  cases r with
  | ref i => exact absurd rfl (hr i)
  | pure d => rfl
  | vx x => rfl
  | fresh ds => rfl
theorem ptN {Q : Option Int → En → Prop} (h : Q none ς) : wp Lw.ptN ς Q := ret h
theorem ptS {f : M R} {Q : Option Int → En → Prop} (h : wp f ς fun r ς1 => ∃ i, rdD r ς1 = some (.int i) ∧ Q (some i) ς1) : wp (Lw.ptS f) ς Q := by
  refine bd (sub (mono h fun a ς1 h => ?_))
  obtain ⟨b, e1, q⟩ := h
  exact bd (rd (by rw [rd_nf]; exact e1) (lift rfl q))
theorem slE {fa : M R} {fl fh : M (Option Int)} {Q : R → En → Prop} (h : wp fa ς fun a ς1 => wp fl ς1 fun l ς2 => wp fh ς2 fun u ς3 => ∃ x r, rdD a ς3 = some x ∧ gSl x l u = some r ∧ Q r ς3) : wp (Lw.slE fa fl fh) ς Q := by
  refine bd (sub (mono h fun a ς1 h => bd (mono h fun l ς2 h => bd (mono h fun u ς3 h => ?_))))
  obtain ⟨x, r, e1, e2, q⟩ := h
  exact bd (rd (by rw [rd_nf]; exact e1) (lift e2 q))
theorem revE {fa : M R} {Q : R → En → Prop} (h : wp fa ς fun a ς1 => ∃ ds, rdD a ς1 = some (.list ds) ∧ Q (.fresh ds.reverse) ς1) : wp (Lw.revE fa) ς Q := by
  refine bd (sub (mono h fun a ς1 h => ?_))
  obtain ⟨ds, e1, q⟩ := h
  exact bd (rd (by rw [rd_nf]; exact e1) (lift rfl q))
theorem mth {hh : List D → List D → Option (D × List D)} {fo : M R} {ga : M (List Ar)} {Q : R → En → Prop} (h : wp fo ς fun r ς1 => ∃ i b ds, r = .ref i ∧ ς1[i]? = some (some (.own b ds)) ∧ wp ga ς1 fun as ς2 => ∃ ws b ds d ds', vals as = some ws ∧ ς2[i]? = some (some (.own b ds)) ∧ hh ds ws = some (d, ds') ∧ Q (.pure d) (ς2.set i (some (.own b ds')))) : wp (Lw.mth hh fo ga) ς Q := by
  refine bd (mono h fun r ς1 h => ?_)
  obtain ⟨i, b, ds, rfl, e, h⟩ := h
  refine bd ⟨(), ς1, by unfold isOwn; rw [e], bd (mono h fun as ς2 h => ?_)⟩
  obtain ⟨ws, b, ds, d, ds', e1, e2, e3, q⟩ := h
  refine bd (lift e1 ⟨_, _, ?_, q⟩)
  simp only [e2, e3]
/-- iterables -/
theorem itS {f : M R} {Q : List D → En → Prop} (h : wp f ς fun r ς1 => ∃ d ς2 ds, toD r ς1 = some (d, ς2) ∧ items d = some ds ∧ Q ds ς2) : wp (Lw.itS f) ς Q :=
  bd (esc (mono h fun r ς1 ⟨d, ς2, ds, e, e2, q⟩ => ⟨d, ς2, e, lift e2 q⟩))
theorem itR1 {f : M R} {Q : List D → En → Prop} (h : wp f ς fun r ς1 => ∃ n, rdD r ς1 = some (.int n) ∧ inR n = true ∧ Q (rngD 0 n.toNat) ς1) : wp (Lw.itR1 f) ς Q := by
  refine bd (sub (mono h fun a ς1 h => ?_))
  obtain ⟨n, e1, e2, q⟩ := h
  refine bd (rd (by rw [rd_nf]; exact e1) ?_)
  show wp (if inR n = true then Lw.ret (rngD 0 n.toNat) else Lw.lift none) ς1 Q
  rw [if_pos e2]
  exact ret q
theorem itR2 {fa fb : M R} {Q : List D → En → Prop} (h : wp fa ς fun r ς1 => wp fb ς1 fun r2 ς2 => ∃ m n, rdD r ς2 = some (.int m) ∧ rdD r2 ς2 = some (.int n) ∧ inR m = true ∧ inR n = true ∧ Q (rngD m (n - m).toNat) ς2) : wp (Lw.itR2 fa fb) ς Q := by
  refine bd (sub (mono h fun a ς1 h => bd (sub (mono h fun b ς2 h => ?_))))
  obtain ⟨m, n, e1, e2, h1, h2, q⟩ := h
  refine bd (rd (by rw [rd_nf]; exact e1) (bd (rd (by rw [rd_nf]; exact e2) ?_)))
  show wp (if inR m = true ∧ inR n = true then Lw.ret (rngD m (n - m).toNat) else Lw.lift none) ς2 Q
  rw [if_pos ⟨h1, h2⟩]
  exact ret q
theorem itE {f : M R} {Q : List D → En → Prop} (h : wp f ς fun r ς1 => ∃ ds ς2, toD r ς1 = some (.list ds, ς2) ∧ Q (enumD 0 ds) ς2) : wp (Lw.itE f) ς Q :=
  bd (esc (mono h fun r ς1 ⟨ds, ς2, e, q⟩ => ⟨_, ς2, e, ret q⟩))
theorem itZ {fa fb : M R} {Q : List D → En → Prop} (h : wp fa ς fun r ς1 => ∃ d ς2, toD r ς1 = some (d, ς2) ∧ wp fb ς2 fun r2 ς3 => ∃ d2 ς4 xs ys, toD r2 ς3 = some (d2, ς4) ∧ ((d = .list xs ∧ d2 = .list ys) ∨ (d = .tuple xs ∧ d2 = .tuple ys)) ∧ Q (zipD xs ys) ς4) : wp (Lw.itZ fa fb) ς Q := by
  refine bd (esc (mono h fun r ς1 h => ?_))
  obtain ⟨d, ς2, e, h⟩ := h
  refine ⟨d, ς2, e, bd (esc (mono h fun r2 ς3 h => ?_))⟩
  obtain ⟨d2, ς4, xs, ys, e2, h, q⟩ := h
  refine ⟨d2, ς4, e2, ?_⟩
  rcases h with ⟨rfl, rfl⟩ | ⟨rfl, rfl⟩ <;> exact ret q
/-- comprehensions -/
theorem lcE {fi : M (List D)} {vs : List Nat} {tg : Tg} {tt : M Bool} {fe : M R} {Q : R → En → Prop}
    (h : wp fi ς fun ds ς1 => freeAll ς1 vs = true ∧ ∃ acc ς2, lcLoop vs tg tt fe ds [] (wipeE ς1 vs) = some (acc, ς2) ∧ Q (.fresh acc) ς2) : wp (Lw.lcE fi vs tg tt fe) ς Q := by
  obtain ⟨ds, ς1, e, hf, acc, ς2, e2, q⟩ := h
  refine ⟨_, ς2, ?_, q⟩
  unfold Lw.lcE
  simp only [e, e2]
  rw [if_pos hf]
theorem lcInv {vs : List Nat} {tg : Tg} {fe : M R} {ds : List D} {Q : List D → En → Prop} (I : Nat → List D → En → Prop) (h0 : I 0 [] ς) (hlen : ds.length ≤ sizeLine)
    (hs : ∀ (i : Nat) d acc ς, ds[i]? = some d → acc.length = i → I i acc ς → ∃ ς1, tg d ς = some ς1 ∧ wp fe ς1 fun r ς2 => ∃ y ς3, toD r ς2 = some (y, ς3) ∧ freeAll ς3 vs = true ∧ I (i + 1) (acc ++ [y]) (wipeE ς3 vs))
    (hd : ∀ acc ς, acc.length = ds.length → I ds.length acc ς → Q acc ς) : ∃ acc ς2, lcLoop vs tg (Lw.ret true) fe ds [] ς = some (acc, ς2) ∧ Q acc ς2 := by
  have main : ∀ (n i : Nat) (acc : List D) (ς : En), n = ds.length - i → i ≤ ds.length → acc.length = i → I i acc ς → ∃ acc' ς2, lcLoop vs tg (Lw.ret true) fe (ds.drop i) acc ς = some (acc', ς2) ∧ Q acc' ς2 := by
    intro n
    induction n with
    | zero =>
      intro i acc ς hn hi ha hI
      have : i = ds.length := by omega
      subst this
      rw [List.drop_length]
      exact ⟨acc, ς, rfl, hd acc ς ha hI⟩
    | succ n ih =>
      intro i acc ς hn hi ha hI
      have hlt : i < ds.length := by omega
      rw [List.drop_eq_getElem_cons hlt]
      obtain ⟨ς1, e1, r, ς2, e2, y, ς3, e3, hf, hI'⟩ := hs i _ acc ς (List.getElem?_eq_getElem hlt) ha hI
      obtain ⟨acc', ς4, e4, q⟩ := ih (i + 1) (acc ++ [y]) (wipeE ς3 vs) (by omega) hlt (by simp [ha]) hI'
      refine ⟨acc', ς4, ?_, q⟩
      rw [lcLoop]
      have ee : Lw.esc fe ς1 = some (y, ς3) := by unfold Lw.esc Lw.bd; rw [e2]; exact e3
      simp only [e1, Lw.ret, ee]
      rw [if_pos ⟨hf, by omega⟩]
      exact e4
  have := main ds.length 0 [] ς (by omega) (by omega) rfl h0
  rw [List.drop_zero] at this
  exact this
end
section
variable {ς : En} {Q : Out → Prop} {g g1 g2 : MS} {f : M R}
theorem skip (h : Q (.nx ς)) : wps Lw.skip ς Q := ⟨_, rfl, h⟩
def andThen (g : MS) (Q : Out → Prop) : Out → Prop
  | .nx ς => wps g ς Q
  | o => Q o
theorem sq (h : wps g1 ς (andThen g2 Q)) : wps (Lw.sq g1 g2) ς Q := by
  obtain ⟨o, e, q⟩ := h
  cases o with
  | nx ς1 => obtain ⟨o2, e2, q2⟩ := q; exact ⟨o2, by unfold Lw.sq; rw [e]; exact e2, q2⟩
  | rt r ς1 => exact ⟨_, by unfold Lw.sq; rw [e], q⟩
  | bk ς1 => exact ⟨_, by unfold Lw.sq; rw [e], q⟩
  | ct ς1 => exact ⟨_, by unfold Lw.sq; rw [e], q⟩
theorem asg {tg : Tg} (h : wp f ς fun r ς1 => ∃ d ς2 ς3, toD r ς1 = some (d, ς2) ∧ tg d ς2 = some ς3 ∧ Q (.nx ς3)) : wps (Lw.asg f tg) ς Q := by
  obtain ⟨r, ς1, e, d, ς2, ς3, e2, e3, q⟩ := h
  refine ⟨.nx ς3, ?_, q⟩
  have ee : Lw.esc f ς = some (d, ς2) := by unfold Lw.esc Lw.bd; rw [e]; exact e2
  unfold Lw.asg
  simp only [ee, e3]
theorem asgO {i : Nat} (h : wp f ς fun r ς1 => ∃ ds, r = .fresh ds ∧ free ς1 i = true ∧ Q (.nx (ς1.set i (some (.own false ds))))) : wps (Lw.asgO i f) ς Q := by
  obtain ⟨r, ς1, e, ds, rfl, hf, q⟩ := h
  exact ⟨_, by unfold Lw.asgO; rw [e]; exact if_pos hf, q⟩
theorem exS (h : wp f ς fun _ ς1 => Q (.nx ς1)) : wps (Lw.exS f) ς Q := by
  obtain ⟨r, ς1, e, q⟩ := h
  exact ⟨_, by unfold Lw.exS; rw [e], q⟩
/-- what is handed back -/
def outR (Q : Out → Prop) : R → En → Prop
  | .pure d, ς => Q (.rt (.pure d) ς)
  | .fresh ds, ς => Q (.rt (.fresh ds) ς)
  | .vx x, ς => Q (.rt (.vx x) ς)
  | .ref i, ς => (∃ ds, ς[i]? = some (some (.own false ds)) ∧ Q (.rt (.fresh ds) (ς.set i none))) ∨ (∃ d, ς[i]? = some (some (.pure d)) ∧ Q (.rt (.pure d) ς)) ∨
      (∃ kvs, ς[i]? = some (some (.vx (.odc kvs))) ∧ Q (.rt (.vx (.dct kvs)) (ς.set i (some (.vx (.dct kvs)))))) ∨ ∃ kvs, ς[i]? = some (some (.vx (.dct kvs))) ∧ Q (.rt (.vx (.dct kvs)) ς)
theorem retS (h : wp f ς (outR Q)) : wps (Lw.retS f) ς Q := by
  obtain ⟨r, ς1, e, q⟩ := h
  unfold wps Lw.retS
  rw [e]
  cases r with
  | pure d => exact ⟨_, rfl, q⟩
  | fresh ds => exact ⟨_, rfl, q⟩
  | ref i =>
    rcases q with ⟨ds, e2, q⟩ | ⟨d, e2, q⟩ | ⟨d, e2, q⟩ | ⟨d, e2, q⟩
    · exact ⟨_, by simp only [e2], q⟩
    · exact ⟨_, by simp only [e2], q⟩
    · exact ⟨_, by simp only [e2], q⟩
    · exact ⟨_, by simp only [e2], q⟩
  | vx x => exact ⟨_, rfl, q⟩
theorem ifS {t : M Bool} (h : wp t ς fun b ς1 => if b = true then wps g1 ς1 Q else wps g2 ς1 Q) : wps (Lw.ifS t g1 g2) ς Q := by
  obtain ⟨b, ς1, e, q⟩ := h
  unfold wps Lw.ifS
  rw [e]
  cases b
  · rw [if_neg (by decide)] at q; exact q
  · rw [if_pos rfl] at q; exact q
theorem forS {fi : M (List D)} {tg : Tg} (h : wp fi ς fun ds ς1 => wps (loop tg g ds) ς1 Q) : wps (Lw.forS fi tg g) ς Q := by
  obtain ⟨ds, ς1, e, o, e2, q⟩ := h
  exact ⟨o, by unfold Lw.forS; rw [e]; exact e2, q⟩
theorem loopInv {tg : Tg} {ds : List D} (I : Nat → En → Prop) (h0 : I 0 ς)
    (hs : ∀ (i : Nat) d ς, ds[i]? = some d → I i ς → ∃ ς1, tg d ς = some ς1 ∧ wps g ς1 fun o => match o with | .nx ς2 => I (i + 1) ς2 | .ct ς2 => I (i + 1) ς2 | .bk ς2 => Q (.nx ς2) | .rt r ς2 => Q (.rt r ς2))
    (hd : ∀ ς, I ds.length ς → Q (.nx ς)) : wps (loop tg g ds) ς Q := by
  have main : ∀ (n i : Nat) (ς : En), n = ds.length - i → i ≤ ds.length → I i ς → wps (loop tg g (ds.drop i)) ς Q := by
    intro n
    induction n with
    | zero =>
      intro i ς hn hi hI
      have : i = ds.length := by omega
      subst this
      rw [List.drop_length]
      exact ⟨_, rfl, hd ς hI⟩
    | succ n ih =>
      intro i ς hn hi hI
      have hlt : i < ds.length := by omega
      rw [List.drop_eq_getElem_cons hlt]
      obtain ⟨ς1, e1, o, e2, q⟩ := hs i _ ς (List.getElem?_eq_getElem hlt) hI
      unfold wps
      rw [loop]
      simp only [e1, e2]
      cases o with
      | nx ς2 => exact ih (i + 1) ς2 (by omega) hlt q
      | ct ς2 => exact ih (i + 1) ς2 (by omega) hlt q
      | bk ς2 => exact ⟨_, rfl, q⟩
      | rt r ς2 => exact ⟨_, rfl, q⟩
  have := main ds.length 0 ς (by omega) (by omega) h0
  rw [List.drop_zero] at this
  exact this
theorem par2 {i j : Nat} {o1 o2 : Bool} {fa fb : M R} (h : wp (pv' o1 fa) ς fun x ς1 => wp (pv' o2 fb) ς1 fun y ς2 => ∃ s t, put i x = some s ∧ put j y = some t ∧ (free ς2 i = true ∧ free (ς2.set i s) j = true ∧ i ≠ j) ∧ Q (.nx ((ς2.set i s).set j t))) : wps (Lw.par2 i j o1 o2 fa fb) ς Q := by
  obtain ⟨x, ς1, e1, y, ς2, e2, s, t, p1, p2, hf, q⟩ := h
  refine ⟨_, ?_, q⟩
  unfold Lw.par2
  have : Lw.bd (pv' o1 fa) (fun x => Lw.bd (pv' o2 fb) fun y => Lw.ret (x, y)) ς = some ((x, y), ς2) := by
    unfold Lw.bd
    rw [e1]
    simp only [e2, Lw.ret]
  rw [this]
  simp only [p1, p2]
  rw [if_pos hf]
theorem pvF {f : M R} {Q : R → En → Prop} (h : wp f ς fun r ς1 => ∃ d ς2, toD r ς1 = some (d, ς2) ∧ Q (.pure d) ς2) : wp (pv' false f) ς Q := by
  show wp (Lw.bd (Lw.esc f) fun d => Lw.ret (.pure d)) ς Q
  exact bd (esc (mono h fun r ς1 ⟨d, ς2, e, q⟩ => ⟨d, ς2, e, ret q⟩))
theorem pvT {f : M R} {Q : R → En → Prop} (h : wp f ς Q) : wp (pv' true f) ς Q := h
theorem par3 {i j l : Nat} {fa fb fc : M R} (h : wp fa ς fun a ς1 => ∃ x ς1', toD a ς1 = some (x, ς1') ∧ wp fb ς1' fun b ς2 => ∃ y ς2', toD b ς2 = some (y, ς2') ∧ wp fc ς2' fun c ς3 => ∃ z ς3', toD c ς3 = some (z, ς3') ∧
    (free ς3' i = true ∧ free (ς3'.set i (some (.pure x))) j = true ∧ free ((ς3'.set i (some (.pure x))).set j (some (.pure y))) l = true) ∧ Q (.nx (((ς3'.set i (some (.pure x))).set j (some (.pure y))).set l (some (.pure z))))) : wps (Lw.par3 i j l fa fb fc) ς Q := by
  obtain ⟨a, ς1, e1, x, ς1', t1, b, ς2, e2, y, ς2', t2, c, ς3, e3, z, ς3', t3, hf, q⟩ := h
  refine ⟨_, ?_, q⟩
  unfold Lw.par3
  have h1 : Lw.esc fa ς = some (x, ς1') := by unfold Lw.esc Lw.bd; rw [e1]; exact t1
  have h2 : Lw.esc fb ς1' = some (y, ς2') := by unfold Lw.esc Lw.bd; rw [e2]; exact t2
  have h3 : Lw.esc fc ς2' = some (z, ς3') := by unfold Lw.esc Lw.bd; rw [e3]; exact t3
  have : Lw.bd (Lw.esc fa) (fun x => Lw.bd (Lw.esc fb) fun y => Lw.bd (Lw.esc fc) fun z => Lw.ret (x, y, z)) ς = some ((x, y, z), ς3') := by
    unfold Lw.bd
    rw [h1]
    simp only [h2, h3, Lw.ret]
  rw [this]
  simp only
  rw [if_pos hf]
/-- a def by its body -/
def outF (n : Nat) (Q : R → List S → Prop) : Out → Prop
  | .rt r ς => (∀ i, r ≠ .ref i) ∧ Q r (outsOf ς n)
  | .nx ς => Q (.pure .none) (outsOf ς n)
  | _ => False
theorem run {n : Nat} {ss : List S} {Q : R → List S → Prop} (h : wps g (ent n ss) (outF ss.length Q)) : wpf (runFn g n) ss Q := by
  obtain ⟨o, e, q⟩ := h
  unfold wpf runFn
  rw [e]
  cases o with
  | nx ς => exact ⟨_, _, rfl, q⟩
  | rt r ς =>
    cases r with
    | ref i => exact absurd rfl (q.1 i)
    | pure d => exact ⟨_, _, rfl, q.2⟩
    | vx x => exact ⟨_, _, rfl, q.2⟩
    | fresh ds => exact ⟨_, _, rfl, q.2⟩
  | bk ς => exact q.elim
  | ct ς => exact q.elim
theorem at_nx (h : wps g ς Q) : andThen g Q (.nx ς) := h
theorem at_rt {r : R} (h : Q (.rt r ς)) : andThen g Q (.rt r ς) := h
theorem oP {d : D} (h : Q (.rt (.pure d) ς)) : outR Q (.pure d) ς := h
theorem oF {ds : List D} (h : Q (.rt (.fresh ds) ς)) : outR Q (.fresh ds) ς := h
theorem oM {i : Nat} {ds : List D} (e : ς[i]? = some (some (.own false ds))) (h : Q (.rt (.fresh ds) (ς.set i none))) : outR Q (.ref i) ς := .inl ⟨ds, e, h⟩
theorem fP {n : Nat} {d : D} {Q : R → List S → Prop} (h : Q (.pure d) (outsOf ς n)) : outF n Q (.rt (.pure d) ς) := ⟨(fun i z => by cases z), h⟩
theorem fF {n : Nat} {ds : List D} {Q : R → List S → Prop} (h : Q (.fresh ds) (outsOf ς n)) : outF n Q (.rt (.fresh ds) ς) := ⟨(fun i z => by cases z), h⟩
end
end Sm
class Stp (G : Prop) (P : outParam Prop) : Prop where
  go : P → G
class Evl (e : Option R) (r : outParam R) : Prop where
  ev : e = some r
class Gd (G : Prop) : Prop where
  keep : G → G
class Gd5 (G : Prop) : Prop where
  keep : G → G
instance {a b : D} {x : Option R} : Gd (gMulA a b = x) := ⟨id⟩
instance {a b : D} {x : Option R} : Gd (gDivA a b = x) := ⟨id⟩
instance {a b : D} {x : Option R} : Gd (gDm a b = x) := ⟨id⟩
instance {i : Int} {b : Bool} : Gd (inR i = b) := ⟨id⟩
namespace Sm
section
variable {α β : Type} {ς : En} {i : Nat} {d : D} {ds : List D} {b : Bool}
instance stp_ret {a : α} {Q : α → En → Prop} : Stp (wp (Lw.ret a) ς Q) (Q a ς) := ⟨Sm.ret⟩
instance stp_cn {Q : R → En → Prop} : Stp (wp (Lw.cn d) ς Q) (Q (.pure d) ς) := ⟨Sm.cn⟩
instance stp_op2 {g : D → D → Option R} {fa fb : M R} {Q : R → En → Prop} : Stp (wp (Lw.op2 g fa fb) ς Q) (wp fa ς fun a ς1 => wp fb ς1 fun b ς2 => ∃ x y r, rdD a ς2 = some x ∧ rdD b ς2 = some y ∧ g x y = some r ∧ Q r ς2) := ⟨Sm.op2⟩
instance stp_cal1 {g : D → Option R} {fa : M R} {Q : R → En → Prop} : Stp (wp (Lw.cal1 g fa) ς Q) (wp fa ς fun a ς1 => ∃ x r, rdD a ς1 = some x ∧ g x = some r ∧ Q r ς1) := ⟨Sm.cal1⟩
instance stp_isE {ts : List Tn} {fa : M R} {Q : R → En → Prop} : Stp (wp (Lw.isE fa ts) ς Q) (wp fa ς fun a ς1 => ∃ x, rdD a ς1 = some x ∧ Q (.pure (.bool (ts.any fun t => isD t x))) ς1) := ⟨Sm.isE⟩
instance stp_esc {f : M R} {Q : D → En → Prop} : Stp (wp (Lw.esc f) ς Q) (wp f ς fun r ς1 => ∃ d ς2, toD r ς1 = some (d, ς2) ∧ Q d ς2) := ⟨Sm.esc⟩
instance stp_tst {f : M R} {Q : Bool → En → Prop} : Stp (wp (Lw.tst f) ς Q) (wp f ς fun r ς1 => ∃ b, rdD r ς1 = some (.bool b) ∧ Q b ς1) := ⟨Sm.tst⟩
instance stp_tru {f : M R} {Q : Bool → En → Prop} : Stp (wp (Lw.tru f) ς Q) (wp f ς fun r ς1 => ∃ d b, rdD r ς1 = some d ∧ truD d = some b ∧ Q b ς1) := ⟨Sm.tru⟩
instance stp_andT {ta tb : M Bool} {Q : Bool → En → Prop} : Stp (wp (Lw.andT ta tb) ς Q) (wp ta ς fun b ς1 => if b = true then wp tb ς1 Q else Q false ς1) := ⟨Sm.andT⟩
instance stp_orT {ta tb : M Bool} {Q : Bool → En → Prop} : Stp (wp (Lw.orT ta tb) ς Q) (wp ta ς fun b ς1 => if b = true then Q true ς1 else wp tb ς1 Q) := ⟨Sm.orT⟩
instance stp_notT {ta : M Bool} {Q : Bool → En → Prop} : Stp (wp (Lw.notT ta) ς Q) (wp ta ς fun b ς1 => Q (!b) ς1) := ⟨Sm.notT⟩
instance stp_andV {fa fb : M R} {Q : R → En → Prop} : Stp (wp (Lw.andV fa fb) ς Q) (wp fa ς fun r ς1 => ∃ b, rdD r ς1 = some (.bool b) ∧ if b = true then wp fb ς1 Q else Q (.pure (.bool false)) ς1) := ⟨Sm.andV⟩
instance stp_orV {fa fb : M R} {Q : R → En → Prop} : Stp (wp (Lw.orV fa fb) ς Q) (wp fa ς fun r ς1 => ∃ b, rdD r ς1 = some (.bool b) ∧ if b = true then Q (.pure (.bool true)) ς1 else wp fb ς1 Q) := ⟨Sm.orV⟩
instance stp_notV {fa : M R} {Q : R → En → Prop} : Stp (wp (Lw.notV fa) ς Q) (wp fa ς fun r ς1 => ∃ b, rdD r ς1 = some (.bool b) ∧ Q (.pure (.bool !b)) ς1) := ⟨Sm.notV⟩
instance stp_negV {fa : M R} {Q : R → En → Prop} : Stp (wp (Lw.negV fa) ς Q) (wp fa ς fun r ς1 => ∃ i, rdD r ς1 = some (.int i) ∧ Q (.pure (.int (-i))) ς1) := ⟨Sm.negV⟩
instance stp_ife {t : M Bool} {fa fb : M R} {Q : R → En → Prop} : Stp (wp (Lw.ife t fa fb) ς Q) (wp t ς fun b ς1 => if b = true then wp fa ς1 Q else wp fb ς1 Q) := ⟨Sm.ife⟩
instance stp_chn {g g' : D → D → Option R} {fa fb fc : M R} {Q : R → En → Prop} : Stp (wp (Lw.chn g g' fa fb fc) ς Q) (wp fa ς fun a ς1 => wp fb ς1 fun b ς2 => ∃ x y k, rdD a ς2 = some x ∧ rdD b ς2 = some y ∧ g x y = some (.pure (.bool k)) ∧     if k = true then wp fc ς2 fun c ς3 => ∃ y z r, rdD b ς3 = some y ∧ rdD c ς3 = some z ∧ g' y z = some r ∧ Q r ς3 else Q (.pure (.bool false)) ς2) := ⟨Sm.chn⟩
instance stp_argN {Q : List Ar → En → Prop} : Stp (wp Lw.argN ς Q) (Q [] ς) := ⟨Sm.argN⟩
instance stp_argV {f : M R} {g : M (List Ar)} {Q : List Ar → En → Prop} : Stp (wp (Lw.argV f g) ς Q) (wp f ς fun r ς1 => ∃ d ς2, toD r ς1 = some (d, ς2) ∧ wp g ς2 fun as ς3 => Q (.val d :: as) ς3) := ⟨Sm.argV⟩
instance stp_argR {f : M R} {g : M (List Ar)} {Q : List Ar → En → Prop} : Stp (wp (Lw.argR f g) ς Q) (wp f ς fun r ς1 => ∃ i, r = .ref i ∧ wp g ς1 fun as ς3 => Q (.ref i :: as) ς3) := ⟨Sm.argR⟩
instance stp_tupE {g : M (List Ar)} {Q : R → En → Prop} : Stp (wp (Lw.tupE g) ς Q) (wp g ς fun as ς1 => ∃ ds, vals as = some ds ∧ ds.length ≤ sizeLine ∧ Q (.pure (.tuple ds)) ς1) := ⟨Sm.tupE⟩
instance stp_lstE {g : M (List Ar)} {Q : R → En → Prop} : Stp (wp (Lw.lstE g) ς Q) (wp g ς fun as ς1 => ∃ ds, vals as = some ds ∧ ds.length ≤ sizeLine ∧ Q (.fresh ds) ς1) := ⟨Sm.lstE⟩
instance stp_callE {m : Fsem} {g : M (List Ar)} {Q : R → En → Prop} : Stp (wp (Lw.callE m g) ς Q) (wp g ς fun as ς1 => ∃ ss, argS as ς1 = some ss ∧ (refsOf as).Nodup ∧ wpf m ss fun r outs => (∀ i, r ≠ .ref i) ∧ Q r (putBack as outs ς1)) := ⟨Sm.callE⟩
instance stp_callF {m : Fsem} {fe : M R} {Q : R → En → Prop} : Stp (wp (Lw.callF m fe) ς Q) (wp fe ς fun r ς1 => ∃ ds, r = .fresh ds ∧ wpf m [.own true ds] fun r outs => (∀ i, r ≠ .ref i) ∧ Q r ς1) := ⟨Sm.callF⟩
instance stp_ptN {Q : Option Int → En → Prop} : Stp (wp Lw.ptN ς Q) (Q none ς) := ⟨Sm.ptN⟩
instance stp_ptS {f : M R} {Q : Option Int → En → Prop} : Stp (wp (Lw.ptS f) ς Q) (wp f ς fun r ς1 => ∃ i, rdD r ς1 = some (.int i) ∧ Q (some i) ς1) := ⟨Sm.ptS⟩
instance stp_slE {fa : M R} {fl fh : M (Option Int)} {Q : R → En → Prop} : Stp (wp (Lw.slE fa fl fh) ς Q) (wp fa ς fun a ς1 => wp fl ς1 fun l ς2 => wp fh ς2 fun u ς3 => ∃ x r, rdD a ς3 = some x ∧ gSl x l u = some r ∧ Q r ς3) := ⟨Sm.slE⟩
instance stp_revE {fa : M R} {Q : R → En → Prop} : Stp (wp (Lw.revE fa) ς Q) (wp fa ς fun a ς1 => ∃ ds, rdD a ς1 = some (.list ds) ∧ Q (.fresh ds.reverse) ς1) := ⟨Sm.revE⟩
instance stp_mth {hh : List D → List D → Option (D × List D)} {fo : M R} {ga : M (List Ar)} {Q : R → En → Prop} : Stp (wp (Lw.mth hh fo ga) ς Q) (wp fo ς fun r ς1 => ∃ i b ds, r = .ref i ∧ ς1[i]? = some (some (.own b ds)) ∧ wp ga ς1 fun as ς2 => ∃ ws b ds d ds', vals as = some ws ∧ ς2[i]? = some (some (.own b ds)) ∧ hh ds ws = some (d, ds') ∧ Q (.pure d) (ς2.set i (some (.own b ds')))) := ⟨Sm.mth⟩
instance stp_itS {f : M R} {Q : List D → En → Prop} : Stp (wp (Lw.itS f) ς Q) (wp f ς fun r ς1 => ∃ d ς2 ds, toD r ς1 = some (d, ς2) ∧ items d = some ds ∧ Q ds ς2) := ⟨Sm.itS⟩
instance stp_itR1 {f : M R} {Q : List D → En → Prop} : Stp (wp (Lw.itR1 f) ς Q) (wp f ς fun r ς1 => ∃ n, rdD r ς1 = some (.int n) ∧ inR n = true ∧ Q (rngD 0 n.toNat) ς1) := ⟨Sm.itR1⟩
instance stp_itR2 {fa fb : M R} {Q : List D → En → Prop} : Stp (wp (Lw.itR2 fa fb) ς Q) (wp fa ς fun r ς1 => wp fb ς1 fun r2 ς2 => ∃ m n, rdD r ς2 = some (.int m) ∧ rdD r2 ς2 = some (.int n) ∧ inR m = true ∧ inR n = true ∧ Q (rngD m (n - m).toNat) ς2) := ⟨Sm.itR2⟩
instance stp_itE {f : M R} {Q : List D → En → Prop} : Stp (wp (Lw.itE f) ς Q) (wp f ς fun r ς1 => ∃ ds ς2, toD r ς1 = some (.list ds, ς2) ∧ Q (enumD 0 ds) ς2) := ⟨Sm.itE⟩
instance stp_itZ {fa fb : M R} {Q : List D → En → Prop} : Stp (wp (Lw.itZ fa fb) ς Q) (wp fa ς fun r ς1 => ∃ d ς2, toD r ς1 = some (d, ς2) ∧ wp fb ς2 fun r2 ς3 => ∃ d2 ς4 xs ys, toD r2 ς3 = some (d2, ς4) ∧ ((d = .list xs ∧ d2 = .list ys) ∨ (d = .tuple xs ∧ d2 = .tuple ys)) ∧ Q (zipD xs ys) ς4) := ⟨Sm.itZ⟩
end
section
variable {ς : En} {Q : Out → Prop} {g g1 g2 : MS} {f : M R}
instance stp_skip  : Stp (wps Lw.skip ς Q) (Q (.nx ς)) := ⟨Sm.skip⟩
instance stp_sq  : Stp (wps (Lw.sq g1 g2) ς Q) (wps g1 ς (andThen g2 Q)) := ⟨Sm.sq⟩
instance stp_asg {tg : Tg} : Stp (wps (Lw.asg f tg) ς Q) (wp f ς fun r ς1 => ∃ d ς2 ς3, toD r ς1 = some (d, ς2) ∧ tg d ς2 = some ς3 ∧ Q (.nx ς3)) := ⟨Sm.asg⟩
instance stp_asgO {i : Nat} : Stp (wps (Lw.asgO i f) ς Q) (wp f ς fun r ς1 => ∃ ds, r = .fresh ds ∧ free ς1 i = true ∧ Q (.nx (ς1.set i (some (.own false ds))))) := ⟨Sm.asgO⟩
instance stp_exS  : Stp (wps (Lw.exS f) ς Q) (wp f ς fun _ ς1 => Q (.nx ς1)) := ⟨Sm.exS⟩
instance stp_retS  : Stp (wps (Lw.retS f) ς Q) (wp f ς (outR Q)) := ⟨Sm.retS⟩
instance stp_ifS {t : M Bool} : Stp (wps (Lw.ifS t g1 g2) ς Q) (wp t ς fun b ς1 => if b = true then wps g1 ς1 Q else wps g2 ς1 Q) := ⟨Sm.ifS⟩
instance stp_forS {fi : M (List D)} {tg : Tg} : Stp (wps (Lw.forS fi tg g) ς Q) (wp fi ς fun ds ς1 => wps (loop tg g ds) ς1 Q) := ⟨Sm.forS⟩
instance stp_par2 {i j : Nat} {o1 o2 : Bool} {fa fb : M R} : Stp (wps (Lw.par2 i j o1 o2 fa fb) ς Q) (wp (pv' o1 fa) ς fun x ς1 => wp (pv' o2 fb) ς1 fun y ς2 => ∃ s t, put i x = some s ∧ put j y = some t ∧ (free ς2 i = true ∧ free (ς2.set i s) j = true ∧ i ≠ j) ∧ Q (.nx ((ς2.set i s).set j t))) := ⟨Sm.par2⟩
instance stp_pvF {f : M R} {Q : R → En → Prop} : Stp (wp (pv' false f) ς Q) (wp f ς fun r ς1 => ∃ d ς2, toD r ς1 = some (d, ς2) ∧ Q (.pure d) ς2) := ⟨Sm.pvF⟩
instance stp_pvT {f : M R} {Q : R → En → Prop} : Stp (wp (pv' true f) ς Q) (wp f ς Q) := ⟨Sm.pvT⟩
instance stp_par3 {i j l : Nat} {fa fb fc : M R} : Stp (wps (Lw.par3 i j l fa fb fc) ς Q) (wp fa ς fun a ς1 => ∃ x ς1', toD a ς1 = some (x, ς1') ∧ wp fb ς1' fun b ς2 => ∃ y ς2', toD b ς2 = some (y, ς2') ∧ wp fc ς2' fun c ς3 => ∃ z ς3', toD c ς3 = some (z, ς3') ∧     (free ς3' i = true ∧ free (ς3'.set i (some (.pure x))) j = true ∧ free ((ς3'.set i (some (.pure x))).set j (some (.pure y))) l = true) ∧ Q (.nx (((ς3'.set i (some (.pure x))).set j (some (.pure y))).set l (some (.pure z))))) := ⟨Sm.par3⟩
instance stp_at_nx  : Stp (andThen g Q (.nx ς)) (wps g ς Q) := ⟨Sm.at_nx⟩
instance stp_at_rt {r : R} : Stp (andThen g Q (.rt r ς)) (Q (.rt r ς)) := ⟨Sm.at_rt⟩
instance stp_oP {d : D} : Stp (outR Q (.pure d) ς) (Q (.rt (.pure d) ς)) := ⟨Sm.oP⟩
instance stp_oF {ds : List D} : Stp (outR Q (.fresh ds) ς) (Q (.rt (.fresh ds) ς)) := ⟨Sm.oF⟩
instance stp_fP {n : Nat} {d : D} {Q : R → List S → Prop} : Stp (outF n Q (.rt (.pure d) ς)) (Q (.pure d) (outsOf ς n)) := ⟨Sm.fP⟩
instance stp_fF {n : Nat} {ds : List D} {Q : R → List S → Prop} : Stp (outF n Q (.rt (.fresh ds) ς)) (Q (.fresh ds) (outsOf ς n)) := ⟨Sm.fF⟩
end
end Sm
end Lw
namespace Lw
open PySem PySem.Spec PyProof.Rows L2
/-! ### rows of new tuples out of one, two or three sequences, each a list or a tuple -/
inductive Kd where
  | L
  | T
namespace Kd
def Sq (k : Kd) (K : PySem.W.Frag) (H : Hp) (a : Addr) (xs : List V) : Prop := match k with
  | L => SqL K H a xs
  | T => SqT K H a xs
theorem same (k : Kd) {K : PySem.W.Frag} {H H' : Hp} {a : Addr} {xs : List V} (s : Same H H') (h : k.Sq K H a xs) : k.Sq K H' a xs := by
  cases k
  · exact s.seq h
  · exact same_seqT s h
end Kd
end Lw
namespace Lw
open PySem PySem.Spec PyProof.Rows L2
/-- three at once -/
def zipD3 : List D → List D → List D → List D
  | a :: as, b :: bs, c :: cs => .tuple [a, b, c] :: zipD3 as bs cs
  | _, _, _ => []
section
variable {X : Cx} {a b c : Expr} {fa fb fc : M R} {p pos p2 : Pos} {elts : List Expr} {kk : Nat}
def itZ2 (fa fb : M R) : M (List D) := bd (esc fa) fun d => bd (esc fb) fun d2 => bd (lift (items d)) fun xs => bd (lift (items d2)) fun ys => ret (zipD xs ys)
def itZ3 (fa fb fc : M R) : M (List D) := bd (esc fa) fun d => bd (esc fb) fun d2 => bd (esc fc) fun d3 => bd (lift (items d)) fun xs => bd (lift (items d2)) fun ys => bd (lift (items d3)) fun zs => ret (zipD3 xs ys zs)
def itEn (fa : M R) : M (List D) := bd (esc fa) fun d => bd (lift (items d)) fun xs => ret (enumD 0 xs)
end
namespace Sm
variable {ς : En}
theorem itZ2 {fa fb : M R} {Q : List D → En → Prop} (h : wp fa ς fun r ς1 => ∃ d ς2, toD r ς1 = some (d, ς2) ∧ wp fb ς2 fun r2 ς3 => ∃ d2 ς4, toD r2 ς3 = some (d2, ς4) ∧ ∃ xs ys, items d = some xs ∧ items d2 = some ys ∧ Q (zipD xs ys) ς4) : wp (Lw.itZ2 fa fb) ς Q := by
  refine bd (esc (mono h fun r ς1 h => ?_))
  obtain ⟨d, ς2, e, h⟩ := h
  refine ⟨d, ς2, e, bd (esc (mono h fun r2 ς3 h => ?_))⟩
  obtain ⟨d2, ς4, e2, xs, ys, i1, i2, q⟩ := h
  exact ⟨d2, ς4, e2, bd (lift i1 (bd (lift i2 (ret q))))⟩
theorem itZ3 {fa fb fc : M R} {Q : List D → En → Prop} (h : wp fa ς fun r ς1 => ∃ d ς2, toD r ς1 = some (d, ς2) ∧ wp fb ς2 fun r2 ς3 => ∃ d2 ς4, toD r2 ς3 = some (d2, ς4) ∧ wp fc ς4 fun r3 ς5 => ∃ d3 ς6, toD r3 ς5 = some (d3, ς6) ∧ ∃ xs ys zs, items d = some xs ∧ items d2 = some ys ∧ items d3 = some zs ∧ Q (zipD3 xs ys zs) ς6) : wp (Lw.itZ3 fa fb fc) ς Q := by
  refine bd (esc (mono h fun r ς1 h => ?_))
  obtain ⟨d, ς2, e, h⟩ := h
  refine ⟨d, ς2, e, bd (esc (mono h fun r2 ς3 h => ?_))⟩
  obtain ⟨d2, ς4, e2, h⟩ := h
  refine ⟨d2, ς4, e2, bd (esc (mono h fun r3 ς5 h => ?_))⟩
  obtain ⟨d3, ς6, e3, xs, ys, zs, i1, i2, i3, q⟩ := h
  exact ⟨d3, ς6, e3, bd (lift i1 (bd (lift i2 (bd (lift i3 (ret q))))))⟩
theorem itEn {f : M R} {Q : List D → En → Prop} (h : wp f ς fun r ς1 => ∃ d ς2, toD r ς1 = some (d, ς2) ∧ ∃ xs, items d = some xs ∧ Q (enumD 0 xs) ς2) : wp (Lw.itEn f) ς Q :=
  bd (esc (mono h fun r ς1 ⟨d, ς2, e, xs, i1, q⟩ => ⟨d, ς2, e, bd (lift i1 (ret q))⟩))
end Sm
namespace Sm
section
variable {ς : En}
instance stp_itZ2 {fa fb : M R} {Q : List D → En → Prop} : Stp (wp (Lw.itZ2 fa fb) ς Q) (wp fa ς fun r ς1 => ∃ d ς2, toD r ς1 = some (d, ς2) ∧ wp fb ς2 fun r2 ς3 => ∃ d2 ς4, toD r2 ς3 = some (d2, ς4) ∧ ∃ xs ys, items d = some xs ∧ items d2 = some ys ∧ Q (zipD xs ys) ς4) := ⟨Sm.itZ2⟩
instance stp_itZ3 {fa fb fc : M R} {Q : List D → En → Prop} : Stp (wp (Lw.itZ3 fa fb fc) ς Q) (wp fa ς fun r ς1 => ∃ d ς2, toD r ς1 = some (d, ς2) ∧ wp fb ς2 fun r2 ς3 => ∃ d2 ς4, toD r2 ς3 = some (d2, ς4) ∧ wp fc ς4 fun r3 ς5 => ∃ d3 ς6, toD r3 ς5 = some (d3, ς6) ∧ ∃ xs ys zs, items d = some xs ∧ items d2 = some ys ∧ items d3 = some zs ∧ Q (zipD3 xs ys zs) ς6) := ⟨Sm.itZ3⟩
instance stp_itEn {f : M R} {Q : List D → En → Prop} : Stp (wp (Lw.itEn f) ς Q) (wp f ς fun r ς1 => ∃ d ς2, toD r ς1 = some (d, ς2) ∧ ∃ xs, items d = some xs ∧ Q (enumD 0 xs) ς2) := ⟨Sm.itEn⟩
end
end Sm
end Lw
namespace Lw
open PySem PySem.Spec PyProof.Rows L2
/-! ### t[::-1] of a tuple -/
section
variable {X : Cx}
theorem _root_.L2.PE.or {e : Expr} {t t' : TE} (h : PE X e t) (h' : PE X e t') : PE X e (fun σ H Q => t σ H Q ∨ t' σ H Q) := ⟨fun pins s σ H Q I hw => by
  rcases hw with hw | hw
  · exact h.run pins s σ H Q I hw
  · exact h'.run pins s σ H Q I hw⟩
def gRev : D → Option R
  | .list ds => some (.fresh ds.reverse)
  | .tuple ds => some (.pure (.tuple ds.reverse))
  | _ => none
variable {a b c e : Expr} {fa fb fc f : M R} {pos p p1 p2 p3 : Pos} {x : Str}
/-! ### sum, min, max of a list or tuple -/
end
end Lw
namespace Lw
open PySem PySem.Spec PyProof.Rows L2
section
variable {X : Cx} {a b c e tg : Expr} {es : List Expr} {fa fb fc f : M R} {ta : M Bool} {pos p p1 p2 p3 : Pos} {x : Str} {st : Stmt} {sts rest : List Stmt} {g g1 g2 : MS}
/-! ### [*a, b, ..] -/
def argX (f : M R) (g : M (List Ar)) : M (List Ar) := bd (esc f) fun d => bd (lift (items d)) fun ds => bd g fun as => ret (avs ds ++ as)
theorem Sm.argX {ς : En} {Q : List Ar → En → Prop} {f : M R} {g : M (List Ar)} (h : wp f ς fun r ς1 => ∃ d ς2, toD r ς1 = some (d, ς2) ∧ ∃ ds, items d = some ds ∧ wp g ς2 fun as ς3 => Q (avs ds ++ as) ς3) : wp (Lw.argX f g) ς Q :=
  Sm.bd (Sm.esc (Sm.mono h fun r ς1 ⟨d, ς2, e, ds, e2, q⟩ => ⟨d, ς2, e, Sm.bd (Sm.lift e2 (Sm.bd (Sm.mono q fun as ς3 q => Sm.ret q)))⟩))
/-! ### x += e, of numbers -/
def augI (i : Nat) (h : Int → Int → Int) (f : M R) : MS := fun ς => match ς[i]? with
  | some (some (.pure (.int m))) => match esc f ς with
    | some (.int n, ς1) => if free ς1 i = true then some (.nx (ς1.set i (some (.pure (.int (h m n)))))) else none
    | _ => none
  | _ => none
theorem Sm.augI {ς : En} {Q : Out → Prop} {i : Nat} {h : Int → Int → Int} {m : Int} (e : ς[i]? = some (some (.pure (.int m)))) (hh : wp f ς fun r ς1 => ∃ n ς2, toD r ς1 = some (.int n, ς2) ∧ free ς2 i = true ∧ Q (.nx (ς2.set i (some (.pure (.int (h m n))))))) : wps (Lw.augI i h f) ς Q := by
  obtain ⟨r, ς1, e1, n, ς2, e2, hf, q⟩ := hh
  refine ⟨_, ?_, q⟩
  have ee : Lw.esc f ς = some (.int n, ς2) := by unfold Lw.esc Lw.bd; rw [e1]; exact e2
  unfold Lw.augI
  simp only [e, ee]
  exact if_pos hf
/-! ### [..] * n -/
theorem _root_.L2.PE.ex {t : Fx → TE} (h : ∀ F, PE X e (t F)) : PE X e (fun σ H Q => ∃ F, t F σ H Q) := ⟨fun pins s σ H Q I ⟨F, hw⟩ => (h F).run pins s σ H Q I hw⟩
def repE (fa : M R) (n : Nat) : M R := bd fa fun r => match r with
  | .fresh ds => if ds.length * n ≤ 1000 ∧ n ≤ 1000 then ret (.fresh (List.replicate n ds).flatten) else lift none
  | _ => lift none
theorem Sm.repE {ς : En} {Q : R → En → Prop} {n : Nat} (h : wp fa ς fun r ς1 => ∃ ds, r = .fresh ds ∧ (ds.length * n ≤ 1000 ∧ n ≤ 1000) ∧ Q (.fresh (List.replicate n ds).flatten) ς1) : wp (Lw.repE fa n) ς Q := by
  refine Sm.bd (Sm.mono h fun r ς1 ⟨ds, e, hl, q⟩ => ?_)
  subst e
  show wp (if ds.length * n ≤ 1000 ∧ n ≤ 1000 then Lw.ret (R.fresh (List.replicate n ds).flatten) else Lw.lift none) ς1 Q
  rw [if_pos hl]
  exact Sm.ret q
/-! ### {text: a, text: b}[x] -/
def dicE (s t : Str) (fa fb fi : M R) : M R := bd (esc fa) fun x => bd (esc fb) fun y => bd (esc fi) fun z => match z with
  | .str w => if w = s ∧ s ≠ t then ret (.pure x) else if w = t ∧ s ≠ t then ret (.pure y) else lift none
  | _ => lift none
variable {s t : Str}
theorem Sm.dicE {ς : En} {Q : R → En → Prop} (hst : s ≠ t) (h : wp fa ς fun r ς1 => ∃ x ς1', toD r ς1 = some (x, ς1') ∧ wp fb ς1' fun r2 ς2 => ∃ y ς2', toD r2 ς2 = some (y, ς2') ∧ wp fc ς2' fun r3 ς3 => ∃ w ς3', toD r3 ς3 = some (.str w, ς3') ∧ ((w = s ∧ Q (.pure x) ς3') ∨ (w = t ∧ Q (.pure y) ς3'))) : wp (Lw.dicE s t fa fb fc) ς Q := by
  refine Sm.bd (Sm.esc (Sm.mono h fun r ς1 ⟨x, ς1', e1, h⟩ => ⟨x, ς1', e1, Sm.bd (Sm.esc (Sm.mono h fun r2 ς2 ⟨y, ς2', e2, h⟩ => ⟨y, ς2', e2, Sm.bd (Sm.esc (Sm.mono h fun r3 ς3 ⟨w, ς3', e3, h⟩ => ⟨_, ς3', e3, ?_⟩))⟩))⟩))
  show wp (if w = s ∧ s ≠ t then Lw.ret (R.pure x) else if w = t ∧ s ≠ t then Lw.ret (R.pure y) else Lw.lift none) ς3' Q
  rcases h with ⟨rfl, q⟩ | ⟨rfl, q⟩
  · rw [if_pos ⟨rfl, hst⟩]; exact Sm.ret q
  · rw [if_neg (fun z => hst z.1.symm), if_pos ⟨rfl, hst⟩]; exact Sm.ret q
end
namespace Sm
section
variable {ς : En}
instance stp_argX {ς : En} {Q : List Ar → En → Prop} {f : M R} {g : M (List Ar)} : Stp (wp (Lw.argX f g) ς Q) (wp f ς fun r ς1 => ∃ d ς2, toD r ς1 = some (d, ς2) ∧ ∃ ds, items d = some ds ∧ wp g ς2 fun as ς3 => Q (avs ds ++ as) ς3) := ⟨Sm.argX⟩
instance stp_repE {ς : En} {Q : R → En → Prop} {n : Nat} : Stp (wp (Lw.repE fa n) ς Q) (wp fa ς fun r ς1 => ∃ ds, r = .fresh ds ∧ (ds.length * n ≤ 1000 ∧ n ≤ 1000) ∧ Q (.fresh (List.replicate n ds).flatten) ς1) := ⟨Sm.repE⟩
end
end Sm
end Lw
namespace Lw
open PySem PySem.Spec PyProof.Rows L2
/-! ### list(zip(a, b)) -/
end Lw
namespace Lw
open PySem PySem.Spec PyProof.Rows L2
variable {X : Cx} {e a b : Expr} {f fa fb : M R} {p p2 pos pos2 : Pos}
/-! ### list(zip(a, b)) -/
def lzE (fa fb : M R) : M R := bd (itZ2 fa fb) fun zs => if small zs.length = true then ret (.fresh zs) else lift none
theorem Sm.lzE {ς : En} {Q : R → En → Prop} (h : wp fa ς fun r ς1 => ∃ d ς2, toD r ς1 = some (d, ς2) ∧ wp fb ς2 fun r2 ς3 => ∃ d2 ς4, toD r2 ς3 = some (d2, ς4) ∧ ∃ xs ys, items d = some xs ∧ items d2 = some ys ∧ (zipD xs ys).length ≤ sizeLine ∧ Q (.fresh (zipD xs ys)) ς4) : wp (Lw.lzE fa fb) ς Q := by
  refine Sm.bd (Sm.itZ2 (Sm.mono h fun r ς1 ⟨d, ς2, e, q⟩ => ⟨d, ς2, e, Sm.mono q fun r2 ς3 ⟨d2, ς4, e2, xs, ys, e3, e4, hl, q⟩ => ⟨d2, ς4, e2, xs, ys, e3, e4, ?_⟩⟩))
  rw [if_pos (show small (zipD xs ys).length = true from decide_eq_true hl)]
  exact Sm.ret q
/-! ### reversed(a list or tuple) -/
section
variable {tg c : Expr} {fc : M R} {K : PySem.W.Frag} {G : Hp}
def itV (f : M R) : M (List D) := bd (esc f) fun d => bd (lift (items d)) fun xs => ret xs.reverse
theorem Sm.itV {ς : En} {Q : List D → En → Prop} (h : wp f ς fun r ς1 => ∃ d ς2, toD r ς1 = some (d, ς2) ∧ ∃ xs, items d = some xs ∧ Q xs.reverse ς2) : wp (Lw.itV f) ς Q :=
  Sm.bd (Sm.esc (Sm.mono h fun r ς1 ⟨d, ς2, e, xs, e2, q⟩ => ⟨d, ς2, e, Sm.bd (Sm.lift e2 (Sm.ret q))⟩))
/-! ### range(a, b, -1), reversed(range(..)) -/
def gDn : D → D → D → Option (List D)
  | .int m, .int n, .int k => if k = -1 ∧ inR m = true ∧ inR n = true then some (rngD (n + 1) (m - n).toNat).reverse else none
  | _, _, _ => none
def itR3 (fa fb fc : M R) : M (List D) := bd (esc fa) fun x => bd (esc fb) fun y => bd (esc fc) fun z => lift (gDn x y z)
theorem Sm.itR3 {ς : En} {Q : List D → En → Prop} {fc : M R} (h : wp fa ς fun r ς1 => ∃ d ς2, toD r ς1 = some (d, ς2) ∧ wp fb ς2 fun r2 ς3 => ∃ d2 ς4, toD r2 ς3 = some (d2, ς4) ∧ wp fc ς4 fun r3 ς5 => ∃ d3 ς6, toD r3 ς5 = some (d3, ς6) ∧ ∃ xs, gDn d d2 d3 = some xs ∧ Q xs ς6) : wp (Lw.itR3 fa fb fc) ς Q :=
  Sm.bd (Sm.esc (Sm.mono h fun r ς1 ⟨d, ς2, e, q⟩ => ⟨d, ς2, e, Sm.bd (Sm.esc (Sm.mono q fun r2 ς3 ⟨d2, ς4, e2, q2⟩ => ⟨d2, ς4, e2, Sm.bd (Sm.esc (Sm.mono q2 fun r3 ς5 ⟨d3, ς6, e3, xs, e4, q3⟩ => ⟨d3, ς6, e3, Sm.lift e4 q3⟩))⟩))⟩))
def gRn1 : D → Option (List D)
  | .int n => if inR n = true then some (rngD 0 n.toNat).reverse else none
  | _ => none
def itRv1 (f : M R) : M (List D) := bd (esc f) fun x => lift (gRn1 x)
theorem Sm.itRv1 {ς : En} {Q : List D → En → Prop} (h : wp fa ς fun r ς1 => ∃ d ς2, toD r ς1 = some (d, ς2) ∧ ∃ xs, gRn1 d = some xs ∧ Q xs ς2) : wp (Lw.itRv1 fa) ς Q :=
  Sm.bd (Sm.esc (Sm.mono h fun r ς1 ⟨d, ς2, e, xs, e2, q⟩ => ⟨d, ς2, e, Sm.lift e2 q⟩))
def gRn2 : D → D → Option (List D)
  | .int m, .int n => if inR m = true ∧ inR n = true then some (rngD m (n - m).toNat).reverse else none
  | _, _ => none
def itRv2 (fa fb : M R) : M (List D) := bd (esc fa) fun x => bd (esc fb) fun y => lift (gRn2 x y)
theorem Sm.itRv2 {ς : En} {Q : List D → En → Prop} (h : wp fa ς fun r ς1 => ∃ d ς2, toD r ς1 = some (d, ς2) ∧ wp fb ς2 fun r2 ς3 => ∃ d2 ς4, toD r2 ς3 = some (d2, ς4) ∧ ∃ xs, gRn2 d d2 = some xs ∧ Q xs ς4) : wp (Lw.itRv2 fa fb) ς Q :=
  Sm.bd (Sm.esc (Sm.mono h fun r ς1 ⟨d, ς2, e, q⟩ => ⟨d, ς2, e, Sm.bd (Sm.esc (Sm.mono q fun r2 ς3 ⟨d2, ς4, e2, xs, e3, q2⟩ => ⟨d2, ς4, e2, Sm.lift e3 q2⟩))⟩))
end
/-! ### xs[i] += e, of a list of one's own -/
def augS (n : Nat) (fi : M R) (h : Int → Int → Int) (fe : M R) : MS := fun ς => match vr n ς with
  | some (.ref i, ς1) => match ptS fi ς1 with
    | some (some j, ς2) => match ς2[i]? with
      | some (some (.own _ ds)) => match ixN ds.length j with
        | some m => match ds[m]? with
          | some (.int x) => match esc fe ς2 with
            | some (.int y, ς3) => match ς3[i]? with
              | some (some (.own b ds')) => if ds'.length = ds.length then some (.nx (ς3.set i (some (.own b (ds'.set m (.int (h x y))))))) else none
              | _ => none
            | _ => none
          | _ => none
        | none => none
      | _ => none
    | _ => none
  | _ => none
theorem Sm.augS {ς : En} {Q : Out → Prop} {n : Nat} {fi fe : M R} {h : Int → Int → Int} {b : Bool} {ds : List D} (e0 : ς[n]? = some (some (.own b ds))) (hi : wp fi ς fun r ς1 => ∃ (j : Int) (m : Nat) (x : Int), rdD r ς1 = some (.int j) ∧ ς1[n]? = some (some (.own b ds)) ∧ ixN ds.length j = some m ∧ ds[m]? = some (.int x) ∧ wp fe ς1 fun r2 ς2 => ∃ (y : Int) (ς3 : En), toD r2 ς2 = some (.int y, ς3) ∧ ς3[n]? = some (some (.own b ds)) ∧ Q (.nx (ς3.set n (some (.own b (ds.set m (.int (h x y)))))))) : wps (Lw.augS n fi h fe) ς Q := by
  have hp : wp (Lw.ptS fi) ς fun r ς1 => ∃ (j : Int), r = some j ∧ ∃ (m : Nat) (x : Int), ς1[n]? = some (some (.own b ds)) ∧ ixN ds.length j = some m ∧ ds[m]? = some (.int x) ∧ wp fe ς1 fun r2 ς2 => ∃ (y : Int) (ς3 : En), toD r2 ς2 = some (.int y, ς3) ∧ ς3[n]? = some (some (.own b ds)) ∧ Q (.nx (ς3.set n (some (.own b (ds.set m (.int (h x y))))))) :=
    Sm.ptS (Sm.mono hi fun r ς1 ⟨j, m, x, e1, e2, e3, e4, e5⟩ => ⟨j, e1, j, rfl, m, x, e2, e3, e4, e5⟩)
  obtain ⟨r, ς1, e1, j, rfl, m, x, e2, e3, e4, r2, ς2, e5, y, ς3, e6, e7, q⟩ := hp
  refine ⟨_, ?_, q⟩
  have ee : Lw.esc fe ς1 = some (.int y, ς3) := by unfold Lw.esc Lw.bd; rw [e5]; exact e6
  have ev : Lw.vr n ς = some (.ref n, ς) := by unfold Lw.vr; rw [e0]
  unfold Lw.augS
  simp only [ev, e1, e2, e3, e4, ee, e7, if_true]
namespace Sm
section
variable {ς : En}
instance stp_lzE {ς : En} {Q : R → En → Prop} : Stp (wp (Lw.lzE fa fb) ς Q) (wp fa ς fun r ς1 => ∃ d ς2, toD r ς1 = some (d, ς2) ∧ wp fb ς2 fun r2 ς3 => ∃ d2 ς4, toD r2 ς3 = some (d2, ς4) ∧ ∃ xs ys, items d = some xs ∧ items d2 = some ys ∧ (zipD xs ys).length ≤ sizeLine ∧ Q (.fresh (zipD xs ys)) ς4) := ⟨Sm.lzE⟩
instance stp_itV {ς : En} {Q : List D → En → Prop} : Stp (wp (Lw.itV f) ς Q) (wp f ς fun r ς1 => ∃ d ς2, toD r ς1 = some (d, ς2) ∧ ∃ xs, items d = some xs ∧ Q xs.reverse ς2) := ⟨Sm.itV⟩
instance stp_itR3 {ς : En} {Q : List D → En → Prop} {fc : M R} : Stp (wp (Lw.itR3 fa fb fc) ς Q) (wp fa ς fun r ς1 => ∃ d ς2, toD r ς1 = some (d, ς2) ∧ wp fb ς2 fun r2 ς3 => ∃ d2 ς4, toD r2 ς3 = some (d2, ς4) ∧ wp fc ς4 fun r3 ς5 => ∃ d3 ς6, toD r3 ς5 = some (d3, ς6) ∧ ∃ xs, gDn d d2 d3 = some xs ∧ Q xs ς6) := ⟨Sm.itR3⟩
instance stp_itRv1 {ς : En} {Q : List D → En → Prop} : Stp (wp (Lw.itRv1 fa) ς Q) (wp fa ς fun r ς1 => ∃ d ς2, toD r ς1 = some (d, ς2) ∧ ∃ xs, gRn1 d = some xs ∧ Q xs ς2) := ⟨Sm.itRv1⟩
instance stp_itRv2 {ς : En} {Q : List D → En → Prop} : Stp (wp (Lw.itRv2 fa fb) ς Q) (wp fa ς fun r ς1 => ∃ d ς2, toD r ς1 = some (d, ς2) ∧ wp fb ς2 fun r2 ς3 => ∃ d2 ς4, toD r2 ς3 = some (d2, ς4) ∧ ∃ xs, gRn2 d d2 = some xs ∧ Q xs ς4) := ⟨Sm.itRv2⟩
end
end Sm
end Lw
namespace Lw
open PySem PySem.Spec PyProof.Rows L2
def g_l_box : MS :=
  (sq (asg (ife (tst (op2 gLt (vr 1) (cal1 gLen (vr 0)))) (op2 gIx (vr 0) (vr 1)) (cn (.int 0))) (tgN 2))
  (retS (lstE (argV (op2 gMulA (cal1 gAbs (vr 2)) (cal1 gInt (op2 gGe (cal1 gAbs (vr 2)) (op2 gPowA (cn (.int 10)) (cn (.int 18)))))) (argV (op2 gModA (op2 gMulA (op2 gAddA (op2 gAddA (op2 gModA (vr 2) (cn (.int 2147483629))) (op2 gMulA (cn (.int 15485863)) (vr 1))) (cn (.int 43))) (cn (.int 48271))) (cn (.int 2147483647))) (argV (cn (.int 0)) argN))))))
def m_l_box : Fsem := runFn g_l_box 3
def g_l_take (self : Fsem) : MS :=
  (sq (ifS (tst (op2 gGt (op2 gIx (vr 0) (cn (.int 0))) (cn (.int 0)))) (sq (asg (op2 gDm (op2 gIx (vr 0) (cn (.int 0))) (vr 1)) (tgT 2 (tgsC (tgS (vr 0) (cn (.int 0))) (tgsC (tgN 2) tgsN))))
  (retS (vr 2))) skip)
  (sq (ifS (tst (op2 gGt (vr 1) (op2 gPowA (cn (.int 10)) (cn (.int 7))))) (retS (op2 gModA (op2 gAddA (callE self (argR (vr 0) (argV (op2 gPowA (cn (.int 10)) (cn (.int 7))) argN))) (op2 gMulA (op2 gPowA (cn (.int 10)) (cn (.int 7))) (callE self (argR (vr 0) (argV (op2 gAddA (op2 gDivA (op2 gSubA (vr 1) (cn (.int 1))) (op2 gPowA (cn (.int 10)) (cn (.int 7)))) (cn (.int 1))) argN))))) (vr 1))) skip)
  (sq (asg (op2 gAddA (op2 gIx (vr 0) (cn (.int 2))) (cn (.int 1))) (tgS (vr 0) (cn (.int 2))))
  (sq (asg (op2 gAddA (cn (.int 69621)) (op2 gMulA (op2 gIx (vr 0) (cn (.int 2))) (op2 gIx (vr 0) (cn (.int 2))))) (tgN 3))
  (sq (asg (op2 gModA (op2 gMulA (op2 gAddA (op2 gIx (vr 0) (cn (.int 1))) (op2 gMulA (cn (.int 39373)) (op2 gIx (vr 0) (cn (.int 2))))) (vr 3)) (cn (.int 2147483587))) (tgN 4))
  (sq (asg (op2 gModA (op2 gAddA (op2 gMulA (vr 4) (op2 gAddA (op2 gModA (vr 4) (cn (.int 30011))) (cn (.int 5)))) (op2 gIx (vr 0) (cn (.int 2)))) (cn (.int 2147483563))) (tgN 5))
  (retS (op2 gModA (op2 gDivA (op2 gModA (op2 gMulA (vr 5) (op2 gAddA (op2 gModA (vr 5) (cn (.int 1013))) (cn (.int 3)))) (cn (.int 998244353))) (cn (.int 16))) (vr 1)))))))))
def m_l_take : Nat → Fsem
  | 0 => fun _ => none
  | n + 1 => runFn (g_l_take (m_l_take n)) 6
def g_l_folded : MS :=
  (sq (asgO 2 (cal1 gList (slE (vr 0) ptN (ptS (vr 1)))))
  (sq (forS (itE (slE (vr 0) (ptS (vr 1)) (ptS (cn (.int 63))))) (tgT 2 (tgsC (tgN 3) (tgsC (tgN 4) tgsN))) (asg (op2 gAddA (op2 gIx (vr 2) (op2 gModA (vr 3) (vr 1))) (op2 gMulA (vr 4) (op2 gAddA (vr 3) (cn (.int 2))))) (tgS (vr 2) (op2 gModA (vr 3) (vr 1)))))
  (retS (vr 2))))
def m_l_folded : Fsem := runFn g_l_folded 5
def g_l_cells : MS :=
  (sq (asg (callE m_l_folded (argV (vr 0) (argV (vr 1) argN))) (tgN 2))
  (retS (ife (tst (op2 gNe (vr 2) (lstE argN))) (vr 2) (lstE (argV (cn (.int 0)) argN)))))
def m_l_cells : Fsem := runFn g_l_cells 3
def g_l_of : MS :=
  (retS (op2 gIx (vr 1) (callE (m_l_take 4) (argR (vr 0) (argV (cal1 gLen (vr 1)) argN)))))
def m_l_of : Fsem := runFn g_l_of 2
def g_l_same (self : Fsem) : MS :=
  (sq (ifS (tru (isE (vr 1) [.list, .tuple])) (sq (ifS (orT (tst (op2 gNe (isE (vr 0) [.list]) (isE (vr 1) [.list]))) (tst (op2 gNe (isE (vr 0) [.tuple]) (isE (vr 1) [.tuple])))) (retS (cn (.bool false))) skip)
  (retS (andV (op2 gEq (cal1 gLen (vr 0)) (cal1 gLen (vr 1))) (cal1 gAll (lcE (itZ (vr 0) (vr 1)) [2, 3] (tgT 2 (tgsC (tgN 2) (tgsC (tgN 3) tgsN))) (ret true) (callE self (argV (vr 2) (argV (vr 3) argN)))))))) skip)
  (sq (ifS (orT (tst (op2 gIs (vr 1) (cn .none))) (tru (isE (vr 1) [.str]))) (retS (andV (op2 gEq (vr 0) (vr 1)) (op2 gEq (isE (vr 0) [.str]) (isE (vr 1) [.str])))) skip)
  (retS (andV (isE (vr 0) [.int]) (andV (op2 gEq (isE (vr 0) [.bool]) (isE (vr 1) [.bool])) (op2 gEq (vr 0) (vr 1)))))))
def m_l_same : Nat → Fsem
  | 0 => fun _ => none
  | n + 1 => runFn (g_l_same (m_l_same n)) 4
end Lw
namespace Lw
open PySem PySem.Spec PyProof.Rows L2
def g_p_change_of : MS :=
  (sq (par2 2 3 false false (op2 gIx (vr 1) (cn (.int 0))) (op2 gIx (vr 1) (cn (.int 1))))
  (sq (ifS (tst (op2 gEq (vr 2) (cn (.str "fill")))) (retS (tupE (argV (vr 3) (argV (negV (op2 gIx (op2 gIx (vr 0) (op2 gSubA (vr 3) (cn (.int 1)))) (cn (.int 2)))) argN)))) skip)
  (sq (ifS (tst (op2 gEq (vr 2) (cn (.str "empty")))) (retS (tupE (argV (op2 gSubA (vr 3) (cn (.int 1))) (argV (op2 gIx (op2 gIx (vr 0) (op2 gSubA (vr 3) (cn (.int 1)))) (cn (.int 2))) argN)))) skip)
  (sq (ifS (tst (op2 gEq (vr 2) (cn (.str "raise")))) (retS (tupE (argV (vr 3) (argV (op2 gIx (vr 1) (cn (.int 2))) argN)))) skip)
  (retS (tupE (argV (vr 3) (argV (negV (op2 gIx (vr 1) (cn (.int 2)))) argN))))))))
def m_p_change_of : Fsem := runFn g_p_change_of 4
end Lw
namespace Lw
open PySem PySem.Spec PyProof.Rows L2
end Lw
namespace Lw
open PySem PySem.Spec PyProof.Rows L2
section
variable {X : Cx} {a b c e tg : Expr} {es : List Expr} {fa fb fc f : M R} {pos p : Pos} {st : Stmt}
/-! ### x, y = a, b by the pair itself -/
theorem RepR.layF {K : PySem.W.Frag} {F : Fx} {ς : En} {G : Hp} {σ : L2.St} {H : Hp} {x : R} {v : V} {q : Addr} {o : HO} (h : RepR K F ς G σ H x v) (hq : H q = none) : RepR K F ς G σ (upd H q o) x v := by
  cases x with
  | pure d => exact h
  | vx x => exact h
  | ref i => exact h
  | fresh ds =>
    obtain ⟨a, vs, rfl, h1, h2⟩ := h
    have ne : a ≠ q := fun z => by subst z; rw [h1] at hq; cases hq
    exact ⟨a, vs, rfl, by rw [upd_ne ne]; exact h1, h2⟩
theorem s_parT2 {i j : Nat} {o1 o2 : Bool} (ha : PEd X a fa) (hb : PEd X b fb) (h : ∀ t : TA, PA X [a, b] t → PS X st (tAsg (tTup t) (gTup X.K 2 (gCons (gName i) (gCons (gName j) gNil))))) (hs1 : starEach [a, b] X.env = (false, eval a X.env) :: starEach [b] X.env := by rfl) (hs2 : starEach [b] X.env = (false, eval b X.env) :: starEach [] X.env := by rfl) : PSd X st (par2 i j o1 o2 fa fb) := fun F =>
  PS.mono (h _ (pa_cons (PEd.ex (d_pv o1 ha)) (pa_cons (PEd.ex (d_pv o2 hb)) pa_nil hs2) hs1)) fun D σ H hq => by
    obtain ⟨ς, G, rl, o, e, k⟩ := hq
    unfold par2 at e
    split at e
    · rename_i x y ς' q
      obtain ⟨x', ς1, e1, q1⟩ := bd_some q
      obtain ⟨y', ς2, e2, q2⟩ := bd_some q1
      cases q2
      split at e
      · rename_i s t p1 p2
        split at e
        · rename_i hf
          cases e
          refine ⟨F, ς, G, rl, _, ς1, e1, fun v H1 G1 rl1 s1 rep1 => ⟨F.now ς1 G1 σ H1, ς1, G1, rl1.now, _, _, e2, fun w H2 G2 rl2 s2 rep2 => ⟨(by show 2 ≤ 16777216; omega), fun z hz => ⟨z, [v, w], rfl, .inl (.inl upd_same), rfl, v, [w], rfl, w, [], rfl, rfl, ?_⟩⟩⟩⟩
          have rb := (rl1.back rl2).layF (o := .tup [v, w]) hz
          have rep1' := RepR.layF (o := .tup [v, w]) (rl1.keepR rl2 rep1) hz
          have ra := rb.put hf.1 p1 rep1'
          refine k _ _ G2 (ra.put hf.2.1 p2 ?_) (s1.trans s2)
          cases y with
          | pure d => exact rep2
          | vx x => exact rep2
          | ref n => cases p2
          | fresh ds =>
            obtain ⟨a2, vs2, rfl, f1, f2, f3, f4, f5⟩ := rep2
            have ne : a2 ≠ z := fun zz => by subst zz; rw [f1] at hz; cases hz
            refine ⟨a2, vs2, rfl, by rw [upd_ne ne]; exact f1, f2, f3, now_none rl1 f4, fun n b es z1 z2 => ?_⟩
            replace z1 := get_set z1; rcases z1 with ⟨rfl, z1⟩ | ⟨nn, z1⟩
            · have il : i < σ.length := by rw [rl.len] ; exact (by have := free_lt hf.1; rw [← rb.len] at this; rw [← rl.len]; exact this)
              rw [List.getElem?_set_self il] at z2
              have hv : v = .ref a2 := Option.some.inj (Option.some.inj z2)
              cases x with
              | pure d => cases p1; cases z1
              | vx x =>
                cases x with
                | dct kvs => cases p1; cases z1
                | _ => cases p1
              | ref n => cases p1
              | fresh ds1 =>
                obtain ⟨a1, vs1, e6, g1, g2, g3, g4, g5⟩ := rep1
                rw [hv] at e6
                cases e6
                rw [now_some rl1 g1 g5] at f4
                cases f4
            · rw [List.getElem?_set_ne nn] at z2
              exact f5 n b es z1 z2
        · cases e
      · cases e
    · cases e
/-! ### x, y, z = a, b, [..] -/
def parL3 (i j l : Nat) (fa fb fc : M R) : MS := fun ς => match bd (esc fa) (fun x => bd (esc fb) fun y => bd fc fun z => ret (x, y, z)) ς with
  | some ((x, y, .fresh zs), ς') => if free ς' i = true ∧ free (ς'.set i (some (.pure x))) j = true ∧ free ((ς'.set i (some (.pure x))).set j (some (.pure y))) l = true then some (.nx (((ς'.set i (some (.pure x))).set j (some (.pure y))).set l (some (.own false zs)))) else none
  | _ => none
theorem Sm.parL3 {ς : En} {Q : Out → Prop} {i j l : Nat} (h : wp fa ς fun a ς1 => ∃ x ς1', toD a ς1 = some (x, ς1') ∧ wp fb ς1' fun b ς2 => ∃ y ς2', toD b ς2 = some (y, ς2') ∧ wp fc ς2' fun c ς3 => ∃ zs, c = .fresh zs ∧
    (free ς3 i = true ∧ free (ς3.set i (some (.pure x))) j = true ∧ free ((ς3.set i (some (.pure x))).set j (some (.pure y))) l = true) ∧ Q (.nx (((ς3.set i (some (.pure x))).set j (some (.pure y))).set l (some (.own false zs))))) : wps (Lw.parL3 i j l fa fb fc) ς Q := by
  obtain ⟨a, ς1, e1, x, ς1', t1, b, ς2, e2, y, ς2', t2, c, ς3, e3, zs, rfl, hf, q⟩ := h
  refine ⟨_, ?_, q⟩
  unfold Lw.parL3
  have h1 : Lw.esc fa ς = some (x, ς1') := by unfold Lw.esc Lw.bd; rw [e1]; exact t1
  have h2 : Lw.esc fb ς1' = some (y, ς2') := by unfold Lw.esc Lw.bd; rw [e2]; exact t2
  have : Lw.bd (Lw.esc fa) (fun x => Lw.bd (Lw.esc fb) fun y => Lw.bd fc fun z => Lw.ret (x, y, z)) ς = some ((x, y, .fresh zs), ς3) := by
    unfold Lw.bd
    rw [h1]
    simp only [h2, e3, Lw.ret]
  rw [this]
  simp only
  rw [if_pos hf]
/-! ### x is True, x is not True, of truths -/
end
namespace Sm
section
variable {ς : En}
instance stp_parL3 {ς : En} {Q : Out → Prop} {i j l : Nat} : Stp (wps (Lw.parL3 i j l fa fb fc) ς Q) (wp fa ς fun a ς1 => ∃ x ς1', toD a ς1 = some (x, ς1') ∧ wp fb ς1' fun b ς2 => ∃ y ς2', toD b ς2 = some (y, ς2') ∧ wp fc ς2' fun c ς3 => ∃ zs, c = .fresh zs ∧     (free ς3 i = true ∧ free (ς3.set i (some (.pure x))) j = true ∧ free ((ς3.set i (some (.pure x))).set j (some (.pure y))) l = true) ∧ Q (.nx (((ς3.set i (some (.pure x))).set j (some (.pure y))).set l (some (.own false zs))))) := ⟨Sm.parL3⟩
end
end Sm
end Lw
namespace Lw
open PySem PySem.Spec PyProof.Rows L2
def g_p_brim_table : MS :=
  (sq (asgO 1 (lstE argN))
  (sq (asg (tupE (argV (cn (.int 0)) argN)) (tgN 2))
  (sq (forS (itS (cal1 gRev (vr 0))) (tgN 3) (sq (asg (op2 gAddA (tupE (argV (cn (.int 0)) argN)) (cal1 gTuple (lcE (itS (vr 2)) [4] (tgN 4) (ret true) (op2 gAddA (op2 gIx (vr 3) (cn (.int 1))) (vr 4))))) (tgN 2))
  (exS (mth hApp (vr 1) (argV (vr 2) argN)))))
  (retS (cal1 gTuple (cal1 gRev (vr 1)))))))
def m_p_brim_table : Fsem := runFn g_p_brim_table 5
def g_p_table_behind : MS :=
  (sq (asg (callE m_p_change_of (argV (vr 0) (argV (vr 2) argN))) (tgT 2 (tgsC (tgN 3) (tgsC (tgN 4) tgsN))))
  (sq (asgO 5 (lstE argN))
  (sq (asg (tupE (argV (cn (.int 0)) argN)) (tgN 6))
  (sq (forS (itRv2 (cn (.int 1)) (op2 gAddA (cal1 gLen (vr 0)) (cn (.int 1)))) (tgN 7) (sq (asg (ife (tst (op2 gLe (vr 7) (vr 3))) (vr 4) (cn (.int 0))) (tgN 8))
  (sq (asg (lcE (itS (op2 gIx (vr 1) (op2 gSubA (vr 7) (cn (.int 1))))) [10] (tgN 10) (ret true) (op2 gAddA (vr 10) (vr 8))) (tgN 9))
  (sq (asg (op2 gIx (op2 gIx (vr 0) (op2 gSubA (vr 7) (cn (.int 1)))) (cn (.int 1))) (tgN 11))
  (sq (asg (op2 gAddA (tupE (argV (op2 gIx (vr 9) (cn (.int 0))) argN)) (cal1 gTuple (lcE (itZ2 (slE (vr 9) (ptS (cn (.int 1))) ptN) (vr 6)) [10, 12] (tgT 2 (tgsC (tgN 10) (tgsC (tgN 12) tgsN))) (ret true) (op2 (g2I fun i j => if j < i then j else i) (vr 10) (op2 gAddA (vr 11) (vr 12)))))) (tgN 6))
  (exS (mth hApp (vr 5) (argV (vr 6) argN))))))))
  (retS (cal1 gTuple (cal1 gRev (vr 5))))))))
def m_p_table_behind : Fsem := runFn g_p_table_behind 13
def g_p_tables_along : MS :=
  (sq (asg (callE m_p_brim_table (argV (vr 0) argN)) (tgN 2))
  (sq (asgO 3 (lstE (argV (vr 2) argN)))
  (sq (forS (itS (vr 1)) (tgN 4) (sq (asg (callE m_p_table_behind (argV (vr 0) (argV (vr 2) (argV (vr 4) argN)))) (tgN 2))
  (exS (mth hApp (vr 3) (argV (vr 2) argN)))))
  (retS (vr 3)))))
def m_p_tables_along : Fsem := runFn g_p_tables_along 5
def g_p_table_of : MS :=
  (retS (op2 gIx (callE m_p_tables_along (argV (vr 0) (argV (vr 1) argN))) (negV (cn (.int 1)))))
def m_p_table_of : Fsem := runFn g_p_table_of 2
end Lw
namespace Lw
open PySem PySem.Spec PyProof.Rows L2
end Lw
namespace Lw
open PySem PySem.Spec PyProof.Rows L2
end Lw
namespace Lw
open PySem PySem.Spec PyProof.Rows L2
end Lw
namespace Lw
open PySem PySem.Spec PyProof.Rows L2
/-! ### while -/
/-! ### two generators -/
theorem wipeE_own {ς : En} {n : Nat} {b : Bool} {es : List D} : ∀ us : List Nat, (wipeE ς us)[n]? = some (some (.own b es)) → ς[n]? = some (some (.own b es))
  | [], h => h
  | u :: us, h => by
    have h' : ((wipeE ς us).set u none)[n]? = some (some (.own b es)) := h
    replace h' := get_set h'; rcases h' with ⟨rfl, h'⟩ | ⟨_, h'⟩
    · cases h'
    · exact wipeE_own us h'
section
variable {K : PySem.W.Frag} {F : Fx} {L : Addr} {ς ς' : En} {G G' : Hp} {σ σ' : L2.St} {H H' : Hp} {acc : List D}
/-- the list that a comprehension fills, nobody's yet -/
structure LcI (K : PySem.W.Frag) (F : Fx) (L : Addr) (ς : En) (G : Hp) (σ : L2.St) (H : Hp) (acc : List D) : Prop where
  rel : Rel K F ς G σ H
  h0 : F.H0 L = none
  gn : G L = none
  ns : ∀ (n : Nat) b es, ς[n]? = some (some (.own b es)) → σ[n]? ≠ some (some (.ref L))
  ac : ∃ accV, H L = some (.lst accV) ∧ DpAll K G accV acc
theorem LcI.step (h : LcI K F L ς G σ H acc) (r : Rel K (F.now ς G σ H) ς' G' σ' H') (s : Same G G') : LcI K F L ς' G' σ' H' acc := by
  obtain ⟨accV, e, d⟩ := h.ac
  obtain ⟨k1, k2, k3⟩ := h.rel.keepF r e h.gn h.ns
  exact ⟨h.rel.back r, h.h0, k2, k3, accV, k1, dpa_same s d⟩
theorem LcI.wiped (h : LcI K F L ς G σ H acc) (vs : List Nat) (hf : freeAll ς vs = true) : LcI K F L (wipeE ς vs) G (wipe σ vs) H acc :=
  ⟨h.rel.wiped vs hf, h.h0, h.gn, fun n b es z1 z2 => h.ns n b es (wipeE_own vs z1) (wipe_some z2).1, h.ac⟩
theorem LcI.push (h : LcI K F L ς G σ H acc) {accV : List V} {u : V} {y : D} (e : H L = some (.lst accV)) (d : DpAll K G accV acc) (dp : Dp K G u y) : LcI K F L ς G σ (upd H L (.lst (accV ++ [u]))) (acc ++ [y]) :=
  ⟨h.rel.touch h.gn h.h0 h.ns e, h.h0, h.gn, h.ns, _, upd_same, dpa_app d (.cons dp .nil)⟩
end
end Lw
namespace Lw
open PySem PySem.Spec PyProof.Rows L2
end Lw
namespace Lw
open PySem PySem.Spec PyProof.Rows L2
end Lw
namespace Lw
open PySem PySem.Spec PyProof.Rows L2
/-! ### min(xs, default = e) -/
end Lw
namespace Lw
open PySem PySem.Spec PyProof.Rows L2
/-! ### a list of lists of one's own, in one slot -/
def NoOwn (ς : En) (σ : L2.St) (x : Addr) : Prop := ∀ (n : Nat) b es, ς[n]? = some (some (.own b es)) → σ[n]? ≠ some (some (.ref x))
structure Priv (F : Fx) (ς : En) (G : Hp) (σ : L2.St) (x : Addr) : Prop where
  g : G x = none
  h0 : F.H0 x = none
  no : NoOwn ς σ x
structure Nest (K : PySem.W.Frag) (F : Fx) (i : Nat) (ς : En) (G : Hp) (σ : L2.St) (H : Hp) (a : Addr) (as : List Addr) (dss : List (List D)) : Prop where
  rel : Rel K F ς G σ H
  sg : σ[i]? = some (some (.ref a))
  ha : H a = some (.lst (as.map V.ref))
  pa : Priv F ς G σ a
  na : a ∉ as
  nd : as.Nodup
  len : as.length = dss.length
  inn : ∀ (k : Nat) b ds, as[k]? = some b → dss[k]? = some ds → ∃ vs, H b = some (.lst vs) ∧ Priv F ς G σ b ∧ DpAll K G vs ds
section
variable {K : PySem.W.Frag} {F : Fx} {i : Nat} {ς ς' : En} {G G' : Hp} {σ σ' : L2.St} {H H' : Hp} {a : Addr} {as : List Addr} {dss : List (List D)}
theorem Nest.step (h : Nest K F i ς G σ H a as dss) (r : Rel K (F.now ς G σ H) ς' G' σ' H') (s : Same G G') (e1 : σ'[i]? = σ[i]?) : Nest K F i ς' G' σ' H' a as dss := by
  have ka := h.rel.keepF r h.ha h.pa.g h.pa.no
  refine ⟨h.rel.back r, e1.trans h.sg, ka.1, ⟨ka.2.1, h.pa.h0, ka.2.2⟩, h.na, h.nd, h.len, fun k b ds h1 h2 => ?_⟩
  obtain ⟨vs, u1, u2, u3⟩ := h.inn k b ds h1 h2
  have kb := h.rel.keepF r u1 u2.g u2.no
  exact ⟨vs, kb.1, ⟨kb.2.1, u2.h0, kb.2.2⟩, dpa_same s u3⟩
theorem nodup_ix {α : Type} : ∀ {l : List α} {i j : Nat} {x : α}, l.Nodup → l[i]? = some x → l[j]? = some x → i = j
  | [], i, j, x, _, h, _ => by simp at h
  | y :: l, 0, 0, x, _, _, _ => rfl
  | y :: l, 0, j + 1, x, nd, h1, h2 => by
    have h1 : some y = some x := h1
    cases h1
    exact absurd (List.mem_of_getElem? (l := l) (i := j) h2) (List.nodup_cons.1 nd).1
  | y :: l, i + 1, 0, x, nd, h1, h2 => by
    have h2 : some y = some x := h2
    cases h2
    exact absurd (List.mem_of_getElem? (l := l) (i := i) h1) (List.nodup_cons.1 nd).1
  | y :: l, i + 1, j + 1, x, nd, h1, h2 => congrArg (· + 1) (nodup_ix (List.nodup_cons.1 nd).2 h1 h2)
theorem Nest.push (h : Nest K F i ς G σ H a as dss) {k : Nat} {b : Addr} {ds : List D} {vs : List V} {u : V} {d : D} (h1 : as[k]? = some b) (h2 : dss[k]? = some ds) (hv : H b = some (.lst vs)) (dp : Dp K G u d) : Nest K F i ς G σ (upd H b (.lst (vs ++ [u]))) a as (dss.set k (ds ++ [d])) := by
  have hm := List.mem_of_getElem? h1
  have hab : a ≠ b := fun e => h.na (e ▸ hm)
  obtain ⟨vs', w1, w2, w3⟩ := h.inn k b ds h1 h2
  rw [hv] at w1
  cases w1
  refine ⟨h.rel.touch w2.g w2.h0 w2.no hv, h.sg, by rw [upd_ne hab]; exact h.ha, h.pa, h.na, h.nd, by rw [List.length_set]; exact h.len, fun k' b' ds' q1 q2 => ?_⟩
  by_cases e : k' = k
  · subst e
    rw [h1] at q1
    cases q1
    have hk : k' < dss.length := (List.getElem?_eq_some_iff.mp h2).1
    rw [List.getElem?_set_self hk] at q2
    cases q2
    exact ⟨_, upd_same, w2, dpa_app w3 (.cons dp .nil)⟩
  · rw [List.getElem?_set_ne (fun z => e z.symm)] at q2
    obtain ⟨ws, x1, x2, x3⟩ := h.inn k' b' ds' q1 q2
    have hbb : b' ≠ b := fun z => e (nodup_ix h.nd (z ▸ q1) h1)
    exact ⟨ws, by rw [upd_ne hbb]; exact x1, x2, x3⟩
theorem Rel.frzX (r : Rel K F ς G σ H) {b : Addr} {vs : List V} {ds : List D} (h1 : H b = some (.lst vs)) (h2 : G b = none) (h3 : DpAll K G vs ds) (h4 : F.H0 b = none) (h5 : NoOwn ς σ b) : Rel K F ς (upd G b (.lst vs)) σ H ∧ Dp K (upd G b (.lst vs)) (.ref b) (.list ds) := by
  refine ⟨⟨r.len, ?_, r.g0.trans (same_upd h2), ?_, ?_, r.ap, r.par, r.fr, ?_, fun i x e => by
    obtain ⟨v, e1, e2⟩ := r.vx i x e
    exact ⟨v, e1, xp_same (same_upd h2) e2⟩, fun i kvs e => (r.od i kvs e).keep rfl (same_upd h2) fun c o e1 nl e2 => by
    have ne : c ≠ b := fun z => by subst z; rw [h1] at e1; cases e1; exact nl _ rfl
    exact ⟨e1, by rw [upd_ne ne]; exact e2⟩, r.oa⟩, .lst (.inl (.inl upd_same)) (dpa_same (same_upd h2) h3)⟩
  · intro c x e
    by_cases hb : c = b
    · subst hb; rw [upd_same] at e; rw [h1, e]
    · rw [upd_ne hb] at e; exact r.sub _ _ e
  · intro i d e
    obtain ⟨v, e1, e2⟩ := r.pu i d e
    exact ⟨v, e1, dp_same (same_upd h2) e2⟩
  · intro i b' es e
    obtain ⟨c, ws, e1, e2, e3, e4, e5⟩ := r.ow i b' es e
    have ne : c ≠ b := fun z => by subst z; exact h5 i b' es e e1
    exact ⟨c, ws, e1, e2, by rw [upd_ne ne]; exact e3, dpa_same (same_upd h2) e4, e5⟩
  · intro c e
    by_cases hc : c = b
    · subst hc; exact .inr h4
    · rw [upd_ne hc] at e; exact r.nw c e
/-- all are data from now on -/
theorem Nest.frz (h : Nest K F i ς G σ H a as dss) : ∃ G', Rel K F ς G' σ H ∧ Same G G' ∧ RepR K F ς G' σ H (.fresh (dss.map PyData.list)) (.ref a) := by
  have main : ∀ k, k ≤ as.length → ∃ G', Rel K F ς G' σ H ∧ Same G G' ∧ G' a = none ∧ (∀ b ∈ as.drop k, G' b = none) ∧ DpAll K G' ((as.take k).map V.ref) ((dss.take k).map PyData.list) := by
    intro k
    induction k with
    | zero => intro _; exact ⟨G, h.rel, Same.refl _, h.pa.g, fun b hb => by
        obtain ⟨j, hj⟩ := List.mem_iff_getElem?.1 hb
        rw [List.drop_zero] at hj
        have hjl : j < dss.length := by have := (List.getElem?_eq_some_iff.mp hj).1; have := h.len; omega
        obtain ⟨vs, _, p, _⟩ := h.inn j b _ hj (List.getElem?_eq_getElem hjl)
        exact p.g, .nil⟩
    | succ k ih =>
      intro hk
      obtain ⟨G1, r1, s1, ga, gd, dp⟩ := ih (by omega)
      have hkl : k < as.length := by omega
      have hkd : k < dss.length := by have := h.len; omega
      have hak := List.getElem?_eq_getElem hkl
      obtain ⟨vs, u1, u2, u3⟩ := h.inn k as[k] dss[k] hak (List.getElem?_eq_getElem hkd)
      have hdr : as.drop k = as[k] :: as.drop (k + 1) := List.drop_eq_getElem_cons hkl
      have gk : G1 as[k] = none := gd _ (hdr ▸ List.mem_cons_self)
      obtain ⟨r2, d2⟩ := r1.frzX u1 gk (dpa_same s1 u3) u2.h0 u2.no
      have hnd : as[k] ∉ as.drop (k + 1) := by
        have := (h.nd.sublist (List.drop_sublist k as))
        rw [hdr] at this
        exact (List.nodup_cons.1 this).1
      have s2 : Same G1 (upd G1 as[k] (.lst vs)) := same_upd gk
      have hak2 : a ≠ as[k] := fun e => h.na (e ▸ List.getElem_mem hkl)
      refine ⟨_, r2, s1.trans s2, by rw [upd_ne hak2]; exact ga, fun b hb => ?_, ?_⟩
      · have : b ≠ as[k] := fun e => hnd (e ▸ hb)
        rw [upd_ne this]
        exact gd b (by rw [hdr]; exact List.mem_cons_of_mem _ hb)
      · rw [List.take_add_one, hak, List.take_add_one, List.getElem?_eq_getElem hkd, List.map_append, List.map_append]
        exact dpa_app (dpa_same s2 dp) (.cons d2 .nil)
  obtain ⟨G1, r1, s1, ga, _, dp⟩ := main as.length (Nat.le_refl _)
  rw [List.take_length, h.len, List.take_length] at dp
  exact ⟨G1, r1, s1, a, as.map V.ref, rfl, h.ha, ga, dp, h.pa.h0, h.pa.no⟩
/-! ### statements over it -/
end
/-! ### xs = [[] for .. in ..]; ..; return xs -/
structure PL (K : PySem.W.Frag) (F : Fx) (L : Addr) (ς : En) (G : Hp) (σ : L2.St) (H : Hp) (as : List Addr) : Prop where
  rel : Rel K F ς G σ H
  ha : H L = some (.lst (as.map V.ref))
  pa : Priv F ς G σ L
  na : L ∉ as
  nd : as.Nodup
  inn : ∀ b ∈ as, H b = some (.lst []) ∧ Priv F ς G σ b
section
variable {K : PySem.W.Frag} {F : Fx} {L : Addr} {ς ς' : En} {G G' : Hp} {σ σ' : L2.St} {H H' : Hp} {as : List Addr}
theorem PL.step (h : PL K F L ς G σ H as) (r : Rel K (F.now ς G σ H) ς' G' σ' H') : PL K F L ς' G' σ' H' as := by
  have ka := h.rel.keepF r h.ha h.pa.g h.pa.no
  refine ⟨h.rel.back r, ka.1, ⟨ka.2.1, h.pa.h0, ka.2.2⟩, h.na, h.nd, fun b hb => ?_⟩
  obtain ⟨u1, u2⟩ := h.inn b hb
  have kb := h.rel.keepF r u1 u2.g u2.no
  exact ⟨kb.1, kb.2.1, u2.h0, kb.2.2⟩
theorem Priv.wiped (h : Priv F ς G σ L) (vs : List Nat) : Priv F (wipeE ς vs) G (wipe σ vs) L := ⟨h.g, h.h0, fun n b es z1 z2 => h.no n b es (wipeE_own vs z1) (wipe_some z2).1⟩
theorem PL.wiped (h : PL K F L ς G σ H as) (vs : List Nat) (hf : freeAll ς vs = true) : PL K F L (wipeE ς vs) G (wipe σ vs) H as :=
  ⟨h.rel.wiped vs hf, h.ha, h.pa.wiped vs, h.na, h.nd, fun b hb => ⟨(h.inn b hb).1, (h.inn b hb).2.wiped vs⟩⟩
theorem PL.push (h : PL K F L ς G σ H as) {p : Addr} (hp : H p = none) : PL K F L ς G σ (upd (upd H p (.lst [])) L (.lst (as.map V.ref ++ [.ref p]))) (as ++ [p]) := by
  have hpL : L ≠ p := fun e => by rw [← e, h.ha] at hp; cases hp
  have hpa : p ∉ as := fun m => by rw [(h.inn p m).1] at hp; cases hp
  have pp : Priv F ς G σ p := ⟨h.rel.gnone hp, h.rel.new hp, fun n b es z w => by
    obtain ⟨c, ws, f1, f2, _⟩ := h.rel.ow n b es z
    rw [w] at f1; cases f1
    rw [hp] at f2; cases f2⟩
  refine ⟨(h.rel.layF hp).touch h.pa.g h.pa.h0 h.pa.no (by rw [upd_ne hpL]; exact h.ha), by rw [upd_same, List.map_append]; rfl, h.pa, fun m => ?_, ?_, fun b hb => ?_⟩
  · rcases List.mem_append.1 m with m | m
    · exact h.na m
    · exact hpL (List.mem_singleton.1 m)
  · rw [List.nodup_append]
    exact ⟨h.nd, by simp, fun a ha b hb => by rw [List.mem_singleton.1 hb]; exact fun e => hpa (e ▸ ha)⟩
  · rcases List.mem_append.1 hb with hb | hb
    · have hbL : b ≠ L := fun e => h.na (e ▸ hb)
      have hbp : b ≠ p := fun e => hpa (e ▸ hb)
      rw [upd_ne hbL, upd_ne hbp]
      exact h.inn b hb
    · rw [List.mem_singleton.1 hb, upd_ne (fun e => hpL e.symm), upd_same]
      exact ⟨rfl, pp⟩
end
end Lw
namespace Lw
open PySem PySem.Spec PyProof.Rows L2
/-! ### a, rows = x, [list(row) for row in ..]; rows[k][a] = rows[k][a] - y -/
structure PQ (K : PySem.W.Frag) (F : Fx) (L : Addr) (ς : En) (G : Hp) (σ : L2.St) (H : Hp) (as : List Addr) (dss : List (List D)) : Prop where
  rel : Rel K F ς G σ H
  ha : H L = some (.lst (as.map V.ref))
  pa : Priv F ς G σ L
  na : L ∉ as
  nd : as.Nodup
  len : as.length = dss.length
  inn : ∀ (k : Nat) b ds, as[k]? = some b → dss[k]? = some ds → ∃ vs, H b = some (.lst vs) ∧ Priv F ς G σ b ∧ DpAll K G vs ds
section
variable {K : PySem.W.Frag} {F : Fx} {L : Addr} {ς ς' : En} {G G' : Hp} {σ σ' : L2.St} {H H' : Hp} {as : List Addr} {dss : List (List D)}
theorem PQ.step (h : PQ K F L ς G σ H as dss) (r : Rel K (F.now ς G σ H) ς' G' σ' H') : PQ K F L ς' G' σ' H' as dss := by
  have ka := h.rel.keepF r h.ha h.pa.g h.pa.no
  refine ⟨h.rel.back r, ka.1, ⟨ka.2.1, h.pa.h0, ka.2.2⟩, h.na, h.nd, h.len, fun k b ds h1 h2 => ?_⟩
  obtain ⟨vs, u1, u2, u3⟩ := h.inn k b ds h1 h2
  have kb := h.rel.keepF r u1 u2.g u2.no
  exact ⟨vs, kb.1, ⟨kb.2.1, u2.h0, kb.2.2⟩, dpa_same r.g0 u3⟩
theorem PQ.wiped (h : PQ K F L ς G σ H as dss) (vs : List Nat) (hf : freeAll ς vs = true) : PQ K F L (wipeE ς vs) G (wipe σ vs) H as dss :=
  ⟨h.rel.wiped vs hf, h.ha, h.pa.wiped vs, h.na, h.nd, h.len, fun k b ds h1 h2 => by
    obtain ⟨ws, u1, u2, u3⟩ := h.inn k b ds h1 h2
    exact ⟨ws, u1, u2.wiped vs, u3⟩⟩
theorem PQ.push (h : PQ K F L ς G σ H as dss) (r : Rel K (F.now ς G σ H) ς' G' σ' H') {es : List D} {v : V} (rep : RepR K (F.now ς G σ H) ς' G' σ' H' (.fresh es) v) :
    ∃ p, v = .ref p ∧ H' L = some (.lst (as.map V.ref)) ∧ PQ K F L ς' G' σ' (upd H' L (.lst (as.map V.ref ++ [.ref p]))) (as ++ [p]) (dss ++ [es]) := by
  obtain ⟨p, vs, rfl, f1, f2, f3, f4, f5⟩ := rep
  have hh := h.step r
  have hL : L ≠ p := fun e => by
    rw [← e, now_some h.rel h.ha h.pa.no] at f4
    cases f4
  have hpa : p ∉ as := fun m => by
    obtain ⟨k, hk⟩ := List.mem_iff_getElem?.1 m
    have hkl : k < dss.length := by have := (List.getElem?_eq_some_iff.mp hk).1; have := h.len; omega
    obtain ⟨ws, u1, u2, u3⟩ := h.inn k p _ hk (List.getElem?_eq_getElem hkl)
    rw [now_some h.rel u1 u2.no] at f4
    cases f4
  have pp : Priv F ς' G' σ' p := ⟨f2, now_none h.rel f4, f5⟩
  refine ⟨p, rfl, hh.ha, hh.rel.touch hh.pa.g hh.pa.h0 hh.pa.no hh.ha, by rw [upd_same, List.map_append]; rfl, hh.pa, fun m => ?_, ?_, by rw [List.length_append, List.length_append, hh.len]; rfl, fun k b ds h1 h2 => ?_⟩
  · rcases List.mem_append.1 m with m | m
    · exact h.na m
    · exact hL (List.mem_singleton.1 m)
  · rw [List.nodup_append]
    exact ⟨h.nd, by simp, fun a ha b hb => by rw [List.mem_singleton.1 hb]; exact fun e => hpa (e ▸ ha)⟩
  · by_cases hk : k < as.length
    · rw [List.getElem?_append_left hk] at h1
      rw [List.getElem?_append_left (by rw [← h.len]; exact hk)] at h2
      have hbL : b ≠ L := fun e => h.na (e ▸ List.mem_of_getElem? h1)
      rw [upd_ne hbL]
      exact hh.inn k b ds h1 h2
    · rw [List.getElem?_append_right (by omega)] at h1
      rw [List.getElem?_append_right (by rw [← h.len]; omega)] at h2
      have e0 : k - as.length = 0 := by
        have := (List.getElem?_eq_some_iff.mp h1).1
        simp at this
        omega
      rw [e0] at h1
      rw [← h.len, e0] at h2
      cases h1
      cases h2
      rw [upd_ne (fun e => hL e.symm)]
      exact ⟨vs, f1, pp, f3⟩
theorem NoOwn.set {s : Option S} {w : Option V} {x : Addr} {i : Nat} (hs : ∀ b es, s ≠ some (.own b es)) (h : NoOwn ς σ x) : NoOwn (ς.set i s) (σ.set i w) x := fun n b es z1 z2 => by
  rcases get_set z1 with ⟨_, e⟩ | ⟨ni, e⟩
  · exact hs b es e
  · rw [List.getElem?_set_ne ni] at z2
    exact h n b es e z2
theorem NoOwn.unwipe {vs : List Nat} {x : Addr} (r : Rel K F ς G (wipe σ vs) H) (h : NoOwn ς (wipe σ vs) x) : NoOwn ς σ x := fun n b es z1 z2 => by
  obtain ⟨c, ws, f1, _⟩ := r.ow n b es z1
  have f2 := (wipe_some f1).1
  rw [z2] at f2; cases f2
  exact h n b es z1 f1
end
end Lw
namespace Lw
open PySem PySem.Spec PyProof.Rows L2
/-! ### a dict of one's own, numbers by numbers, in one slot -/
abbrev KI := List (Int × Int)
def kvD (kv : KI) : List (Key × V) := kv.map fun p => (.inl p.1, V.int p.2)
structure Dic (K : PySem.W.Frag) (F : Fx) (i : Nat) (ς : En) (G : Hp) (σ : L2.St) (H : Hp) (a : Addr) (kv : KI) : Prop where
  rel : Rel K F ς G σ H
  sg : σ[i]? = some (some (.ref a))
  ha : H a = some (.dK (kvD kv))
  pa : Priv F ς G σ a
  nod : ∀ (n : Nat) kvs, ς[n]? = some (some (.vx (.odc kvs))) → σ[n]? ≠ some (some (.ref a))
section
variable {K : PySem.W.Frag} {F : Fx} {i : Nat} {ς ς' : En} {G G' : Hp} {σ σ' : L2.St} {H H' : Hp} {a : Addr} {kv : KI}
theorem Dic.step (h : Dic K F i ς G σ H a kv) (r : Rel K (F.now ς G σ H) ς' G' σ' H') (s : Same G G') (e1 : σ'[i]? = σ[i]?) : Dic K F i ς' G' σ' H' a kv := by
  have ka := h.rel.keepG r h.ha h.pa.g h.pa.no h.nod
  exact ⟨h.rel.back r, e1.trans h.sg, ka.1, ⟨ka.2.1, h.pa.h0, ka.2.2.1⟩, ka.2.2.2⟩
end
/-! ### d[k] = min(m, d.get(k, m)) -/
def putI (kv : KI) (k v : Int) : KI := if (kv.any fun p => decide (p.1 = k)) = true then kv.map (fun p => if p.1 = k then (p.1, v) else p) else kv ++ [(k, v)]
theorem putK_kv (k v : Int) (kv : KI) : putK (kvD kv) (Sum.inl k : Key) (V.int v) = kvD (putI kv k v) := by
  have e0 : (kvD kv).any (fun q => decide (q.1 = (Sum.inl k : Key))) = kv.any fun p => decide (p.1 = k) := by
    unfold kvD
    rw [List.any_map]
    congr 1
    funext p
    show decide ((Sum.inl p.1 : Key) = Sum.inl k) = decide (p.1 = k)
    by_cases h : p.1 = k
    · rw [h]; simp
    · rw [decide_eq_false h, decide_eq_false (fun e => h (Sum.inl.inj e))]
  unfold putK putI
  rw [e0]
  split
  · unfold kvD
    rw [List.map_map, List.map_map]
    refine List.map_congr_left fun p _ => ?_
    show (if (Sum.inl p.1 : Key) = Sum.inl k then ((Sum.inl p.1 : Key), V.int v) else (Sum.inl p.1, V.int p.2)) = _
    by_cases h : p.1 = k
    · rw [if_pos (by rw [h])]
      show _ = (Sum.inl (if p.1 = k then (p.1, v) else p).1, V.int (if p.1 = k then (p.1, v) else p).2)
      rw [if_pos h]
    · rw [if_neg (fun e => h (Sum.inl.inj e))]
      show _ = (Sum.inl (if p.1 = k then (p.1, v) else p).1, V.int (if p.1 = k then (p.1, v) else p).2)
      rw [if_neg h]
  · unfold kvD
    rw [List.map_append]
    rfl
theorem Dic.put {K : PySem.W.Frag} {F : Fx} {i : Nat} {ς : En} {G : Hp} {σ : L2.St} {H : Hp} {a : Addr} {kv : KI} (h : Dic K F i ς G σ H a kv) (k v : Int) : Dic K F i ς G σ (upd H a (.dK (putK (kvD kv) (Sum.inl k) (V.int v)))) a (putI kv k v) :=
  ⟨h.rel.touchG h.pa.g h.pa.h0 h.pa.no h.nod, h.sg, by rw [upd_same, putK_kv], h.pa, h.nod⟩
end Lw
namespace Lw
open PySem PySem.Spec PyProof.Rows L2
/-! ### d = {}; ..; return list(d.items()) -/
section
variable {K : PySem.W.Frag} {F : Fx} {ς : En} {G H H' : Hp} {σ : L2.St}
theorem Rel.ext (r : Rel K F ς G σ H) (s : ∀ b o, H b = some o → H' b = some o) : Rel K F ς G σ H' :=
  ⟨r.len, fun b o e => s b o (r.sub b o e), r.g0, r.pu, fun i b ds e => by
    obtain ⟨a, vs, e1, e2, e3⟩ := r.ow i b ds e
    exact ⟨a, vs, e1, s _ _ e2, e3⟩, r.ap, r.par, fun a o h n => s a o (r.fr a o h n), r.nw, r.vx, fun i kvs e => (r.od i kvs e).keep rfl (Same.refl _) fun c o e1 _ e2 => ⟨s _ _ e1, e2⟩, r.oa⟩
end
end Lw
namespace Lw
open PySem PySem.Spec PyProof.Rows L2
end Lw
namespace Lw
open PySem PySem.Spec PyProof.Rows L2
end Lw
namespace Lw
open PySem PySem.Spec PyProof.Rows L2
/-! ### sorted(set(xs)) of a list of ints -/
end Lw
namespace Lw
open PySem PySem.Spec PyProof.Rows L2
/-! ### in numbers -/
def insU (k : Int) : List Int → List Int
  | [] => [k]
  | x :: xs => if k < x then k :: x :: xs else if k = x then x :: xs else x :: insU k xs
def sortU (ns : List Int) : List Int := ns.foldr insU []
def gSoSe : D → Option R
  | .list ds => match intsD ds with
    | some ns => if ns.length < 60 then some (.fresh ((sortU ns).map PyData.int)) else none
    | none => none
  | _ => none
def soseE (f : M R) : M R := bd (esc f) fun d => lift (gSoSe d)
theorem Sm.soseE {ς : En} {f : M R} {Q : R → En → Prop} (h : wp f ς fun r ς1 => ∃ d ς2, toD r ς1 = some (d, ς2) ∧ ∃ r2, gSoSe d = some r2 ∧ Q r2 ς2) : wp (Lw.soseE f) ς Q :=
  Sm.bd (Sm.esc (Sm.mono h fun r ς1 ⟨d, ς2, e, r2, e2, q⟩ => ⟨d, ς2, e, Sm.lift e2 q⟩))
namespace Sm
section
variable {ς : En}
instance stp_soseE {ς : En} {f : M R} {Q : R → En → Prop} : Stp (wp (Lw.soseE f) ς Q) (wp f ς fun r ς1 => ∃ d ς2, toD r ς1 = some (d, ς2) ∧ ∃ r2, gSoSe d = some r2 ∧ Q r2 ς2) := ⟨Sm.soseE⟩
end
end Sm
end Lw
namespace Lw
open PySem PySem.Spec PyProof.Rows L2
/-! ### xs += [..], of a list of one's own -/
def augL (i : Nat) (f : M R) : MS := fun ς => match ς[i]? with
  | some (some (.own _ _)) => match f ς with
    | some (.fresh es, ς1) => match ς1[i]? with
      | some (some (.own b ds)) => if ds.length + es.length ≤ sizeLine then some (.nx (ς1.set i (some (.own b (ds ++ es))))) else none
      | _ => none
    | _ => none
  | _ => none
theorem Sm.augL {ς : En} {Q : Out → Prop} {i : Nat} {f : M R} {b0 : Bool} {ds0 : List D} (e0 : ς[i]? = some (some (.own b0 ds0))) (h : wp f ς fun r ς1 => ∃ es b ds, r = .fresh es ∧ ς1[i]? = some (some (.own b ds)) ∧ ds.length + es.length ≤ sizeLine ∧ Q (.nx (ς1.set i (some (.own b (ds ++ es)))))) : wps (Lw.augL i f) ς Q := by
  obtain ⟨r, ς1, e1, es, b, ds, rfl, e2, hl, q⟩ := h
  exact ⟨_, by unfold Lw.augL; simp only [e0, e1, e2]; exact if_pos hl, q⟩
/-! ### t < u, tuples of ints -/
end Lw
namespace Lw
open PySem PySem.Spec PyProof.Rows L2
end Lw
namespace Lw
open PySem PySem.Spec PyProof.Rows L2
/-! ### an exception class of the program's own, over any built-in one, whose __init__ keeps what it is handed -/
structure XC (K : PySem.W.Frag) (C fI : Addr) (bmB : List Value) (newId : String) : Prop where
  ini : PySem.W.excInitIn K C bmB newId = true
  ovr : PySem.W.excOver K C bmB = true
  sa : PySem.W.findIn K (.ref C) "__setattr__" = some (some (.builtin "object.__setattr__"))
  tk : PySem.W.takerIn K C "what" = some none
  hd : PySem.W.hasDictIn K C = true
  iC : PySem.W.findIn K (.ref C) "__init__" = some (some (.ref fI))
  tI : PySem.W.typeIn K (.ref fI) = some (.type "function")
  exC : PySem.W.subIn K (.ref C) (.type "BaseException") = some true
  tyC : PySem.W.typeIn K (.ref C) = some (.type "type")
  kC : PySem.W.keepIn K (.ref C) = true
end Lw
namespace Lw
open PySem PySem.Spec PyProof.Rows L2
/-- self.what = what, in the words of the heap -/
def wWh (C : Addr) (a : Addr) (y : V) (H : Hp) (Q : Hp → Prop) : Prop := H a = some (exo a C none) ∧ ∀ dx, H dx = none → dx ≠ a → Q (upd (upd H dx (exd dx [(("what" : Str), y)])) a (exo a C (some dx)))
end Lw
namespace Lw
open PySem PySem.Spec PyProof.Rows L2
section
variable {X : Cx} {C fI : Addr} {B newId initId : String} {bmB : List Value} {o e : Expr} {to te : TE} {p' pos : Pos}
/-- what its __init__ promises -/
def spW (C : Addr) : Sp := fun vs H Q _ => ∃ a y, vs = [.ref a, y] ∧ wWh C a y H (Q .non)
end
section
variable {X : Cx} {C fI : Addr} {fd : FuncData} {k : Nat} {B newId initId : String} {bmB : List Value} {x : Str} {e : Expr} {te : TE} {p pos : Pos}
def oneV (P : V → Hp → Prop) : List V → Hp → Prop
  | [v], H => P v H
  | _, _ => False
/-- x(e), of such a class -/
def tMkW (C : Addr) (te : TE) : L2.St → Hp → XK → Prop := fun σ H Q => te σ H fun v H1 => ∀ dd, H1 dd = none → Q (.ref C) (some dd) (upd H1 dd (.xd [(("what" : Str), v)]))
theorem pmk_what (FB : ExcBaseFacts B newId initId bmB) (T : XC X.K C fI bmB newId) (F1 : FnOk X.prog X.w X.K X.mg X.base CX0 k fI fd ["self", "what"] (spW C)) (hr : Room (k + 1) X.A) (hb : Binds X.K fd ["self", "what"] []) (hg : Gl X x) (hm : X.mg x = some (.ref C)) (ha : PE X e te)
    (hdb : (x == ("__debug__" : Str)) = false := by decide) (he : starEach [e] X.env = (false, eval e X.env) :: starEach [] X.env := by rfl) (hpl : (backTo pos (starEach [] X.env)).any (·.1) = false := by rfl) :
    PMk X (.Call (.Name x p) [e] [] pos) (tMkW C te) := by
  intro pins s σ H Q I h
  have hargs : PA X [e] (fun σ H Q => te σ H fun v H1 => Q [v] H1) := pa_cons ha pa_nil he
  refine wpAny_Call_Name_kw (ld_glob I hg hm ?_ hdb)
  refine PySem.W.callWith_K (h₀ := X.base) I.ok.mod.kin T.kC ?_ he hpl
  refine thn (hargs.run pos pins s σ H (oneV fun v H1 => ∀ dd, H1 dd = none → Q (.ref C) (some dd) (upd H1 dd (.xd [(("what" : Str), v)]))) I h) fun us s1 hh => ?_
  obtain ⟨vs, H1, I1, r1, q1⟩ := hh
  obtain ⟨v, rfl⟩ : ∃ v, vs = [v] := by
    rcases vs with _ | ⟨v, _ | ⟨v2, vs⟩⟩
    · exact q1.elim
    · exact ⟨v, rfl⟩
    · exact q1.elim
  obtain ⟨u, rfl, ru⟩ : ∃ u, us = [u] ∧ RelV v u := by
    cases r1 with
    | cons ra rb => cases rb with | nil => exact ⟨_, rfl, ra⟩
  refine ⟨I1.kIn, ?_⟩
  show wpAny _ _ (call (.ref C) [u]) _ _ _
  obtain ⟨nm, N, qn, bs, bm, hdct, sn, sub, ab, col, dd0, k0, k1, k2, k3, k5, hC, hcont⟩ := PySem.W.excInit_of I1.kIn T.ini
  obtain ⟨hp, g, dr, tk, os⟩ := s1
  have big : hp.objs.size ≤ hp.objs.size + 1 := Nat.le_succ _
  have fresh := I1.hok.fresh big
  have kept : ∀ b o, hp.get? b = some o → ((hp.push (PySem.W.kdv_tup [u])).push (PySem.HandSPX.excO C hp.objs.size)).get? b = some o := fun b o q => Heap.get?_push_of_some _ (Heap.get?_push_of_some _ q)
  have got : ((hp.push (PySem.W.kdv_tup [u])).push (PySem.HandSPX.excO C hp.objs.size)).get? (hp.objs.size + 1) = some (PySem.HandSPX.excO C hp.objs.size) := by heap_get
  have I2 := I1.laid (t' := tk) (o := exo (hp.objs.size + 1) C none) (h' := (hp.push (PySem.W.kdv_tup [u])).push (PySem.HandSPX.excO C hp.objs.size)) kept big (exo_ok got)
  have prom : spW C [.ref (hp.objs.size + 1), v] (upd H1 (hp.objs.size + 1) (exo (hp.objs.size + 1) C none))
      (fun z H2 => z = .non ∧ ∃ (d : Addr) (fs : List (Str × V)), H2 (hp.objs.size + 1) = some (exo (hp.objs.size + 1) C (some d)) ∧ H2 d = some (exd d fs) ∧ H1 d = none ∧ Q (.ref C) (some d) (upd (del H2 (hp.objs.size + 1)) d (.xd fs))) (fun _ _ _ => False) := by
    refine ⟨_, v, rfl, upd_same, fun d hd hne => ⟨rfl, d, [(("what" : Str), v)], upd_same, ?_, ?_, ?_⟩⟩
    · rw [upd_ne hne]
      exact upd_same
    · rw [upd_ne hne] at hd
      exact hd
    · rw [upd_ne hne] at hd
      have e2 : upd (del (upd (upd (upd H1 (hp.objs.size + 1) (exo (hp.objs.size + 1) C none)) d (exd d [(("what" : Str), v)])) (hp.objs.size + 1) (exo (hp.objs.size + 1) C (some d))) (hp.objs.size + 1)) d (.xd [(("what" : Str), v)]) = upd H1 d (.xd [(("what" : Str), v)]) := by
        funext b
        by_cases z : b = d
        · rw [z, upd_same, upd_same]
        · rw [upd_ne z, upd_ne z]
          by_cases z2 : b = hp.objs.size + 1
          · rw [z2, del_same, fresh]
          · rw [del_ne z2, upd_ne z2, upd_ne z, upd_ne z2]
      rw [e2]
      exact q1 d hd
  have r2 : Vals [V.ref (hp.objs.size + 1), v] [Value.ref (hp.objs.size + 1), u] := .cons rfl (.cons ru .nil)
  have bnd := hb _ [Value.ref (hp.objs.size + 1), u] I2.kIn rfl
  refine wpAny_call (PySem.HandSPX.call_own FB hcont hC (PySem.W.looks_findIn I1.kIn T.iC) (fun self => PySem.W.bind_fn I1.kIn self T.tI) (by rw [sizeLine_eq]; simp) ?_)
  refine codeAny_mono (F1.run _ X.stack _ _ ⟨[Value.ref (hp.objs.size + 1), u], []⟩ _ _ _ _ (hr.make C [u] []) (I2.env0.make C [u] []) bnd r2 prom) fun r s' hq' => ?_
  rcases r with er | fl
  · exact hq'.elim
  rcases fl with _ | _ | _ | z
  · exact hq'.elim
  · exact hq'.elim
  · exact hq'.elim
  obtain ⟨zv, H2, os2, bare2, un2, hok2, rv, ev, d, fs, ea, ed, hd1, q2⟩ := hq'
  subst ev
  obtain ⟨h2, g2, d2, t2, os'⟩ := s'
  exact ⟨rv, mk_end (raises_own T.exC T.tyC) I1 big kept un2 hok2 os2 bare2 ea ed hd1 q2⟩
end
end Lw
namespace Lw
open PySem PySem.Spec PyProof.Rows L2
/-! ### statements that may raise an exception of the program's own -/
inductive OutX where
  | nrm (o : Out)
  | exc (nm : Str) (d : D) (ς : En)
abbrev MX := En → Option OutX
/-- what is wished of an exception nm that keeps d -/
def ExcOk (K : PySem.W.Frag) (F : Fx) (G : Hp) (W : WX) (nm : Str) (d : D) (ς' : En) : Prop :=
  ∀ σ' H' G' dd v, Rel K F ς' G' σ' H' → Same G G' → G' dd = some (.xd [(("what" : Str), v)]) → Dp K G' v d → W (.ref (nmAt K nm)) (some dd) σ' H'
theorem ExcOk.mono {K : PySem.W.Frag} {F : Fx} {G G1 : Hp} {W : WX} {nm : Str} {d : D} {ς' : En} (s : Same G G1) (h : ExcOk K F G W nm d ς') : ExcOk K F G1 W nm d ς' :=
  fun σ' H' G' dd v rl s1 => h σ' H' G' dd v rl (s.trans s1)
def EndsX (K : PySem.W.Frag) (F : Fx) (G : Hp) (W : WX) (D : Ends) : OutX → Prop
  | .nrm o => EndsOk K F G D o
  | .exc nm d ς' => ExcOk K F G W nm d ς'
theorem EndsX.mono {K : PySem.W.Frag} {F : Fx} {G G1 : Hp} {W : WX} {D : Ends} {o : OutX} (s : Same G G1) (h : EndsX K F G W D o) : EndsX K F G1 W D o := by
  cases o with
  | nrm o => exact EndsOk.mono s h
  | exc nm d ς' => exact ExcOk.mono s h
def tSx (K : PySem.W.Frag) (F : Fx) (W : WX) (g : MX) : TS := fun D σ H => ∃ ς G, Rel K F ς G σ H ∧ ∃ o, g ς = some o ∧ EndsX K F G W D o
abbrev PSx (X : Cx) (st : Stmt) (g : MX) : Prop := ∀ (F : Fx) (W : WX), Takes X W → PS X st (tSx X.K F W g)
/-- an expression that may raise one -/
inductive RX where
  | val (r : R) (ς : En)
  | exc (nm : Str) (d : D) (ς : En)
abbrev MRX := En → Option RX
def tEx' (K : PySem.W.Frag) (F : Fx) (W : WX) (f : MRX) : TE := fun σ H Q => ∃ ς G, Rel K F ς G σ H ∧ ∃ o, f ς = some o ∧ match o with
  | .val r ς' => ∀ v H' G', Rel K F ς' G' σ H' → Same G G' → RepR K F ς' G' σ H' r v → Q v H'
  | .exc nm d ς' => ExcOk K F G W nm d ς'
abbrev PEx (X : Cx) (e : Expr) (f : MRX) : Prop := ∀ (F : Fx) (W : WX), Takes X W → PE X e (tEx' X.K F W f)
section
variable {X : Cx} {c e : Expr} {fa f : M R} {fx : MRX} {ta : M Bool} {pos p : Pos} {x : Str} {st : Stmt} {sts rest : List Stmt} {g g1 g2 : MS} {gx gx1 gx2 : MX}
def nS (g : MS) : MX := fun ς => (g ς).map .nrm
def sqX (g1 g2 : MX) : MX := fun ς => match g1 ς with
  | some (.nrm (.nx ς')) => g2 ς'
  | o => o
def ifX (t : M Bool) (g1 g2 : MX) : MX := fun ς => match t ς with
  | some (true, ς') => g1 ς'
  | some (false, ς') => g2 ς'
  | none => none
/-! ### raise -/
def raX (nm : Str) (f : M R) : MX := fun ς => match esc f ς with
  | some (d, ς') => some (.exc nm d ς')
  | none => none
theorem x_raise {nm : Str} {C : Addr} (hc : X.calm = true) (hC : C = nmAt X.K nm) (hp : ∀ te : TE, PE X e te → PMk X (.Call (.Name x p) [e] [] pos) (tMkW C te)) (he : PEd X e f) {p2 : Pos} : PSx X (.Raise (some (.Call (.Name x p) [e] [] pos)) none p2) (raX nm f) := fun F W tk =>
  PS.mono (ps_raise hc tk (hp _ (d_esc he F))) fun D σ H hq => by
    obtain ⟨ς, G, rl, o, e1, k⟩ := hq
    unfold raX at e1
    split at e1
    · rename_i d ς1 q
      cases e1
      refine ⟨ς, G, rl, d, ς1, q, fun v H1 G1 rl1 s1 dp dd hd => ?_⟩
      subst hC
      exact k σ _ _ dd v (rl1.lay hd) (s1.trans (same_upd (rl1.gnone hd))) upd_same (dp_same (same_upd (rl1.gnone hd)) dp)
    · cases e1
/-! ### a statement over a call that may raise -/
def exX (f : MRX) : MX := fun ς => match f ς with
  | some (.val _ ς') => some (.nrm (.nx ς'))
  | some (.exc nm d ς') => some (.exc nm d ς')
  | none => none
def asX (f : MRX) (tg : Tg) : MX := fun ς => match f ς with
  | some (.val r ς') => match toD r ς' with
    | some (d, ς2) => match tg d ς2 with
      | some ς3 => some (.nrm (.nx ς3))
      | none => none
    | none => none
  | some (.exc nm d ς') => some (.exc nm d ς')
  | none => none
/-! ### for -/
def loopX (tg : Tg) (body : MX) : List D → MX
  | [], ς => some (.nrm (.nx ς))
  | d :: ds, ς => match tg d ς with
    | some ς1 => match body ς1 with
      | some (.nrm (.nx ς2)) => loopX tg body ds ς2
      | some (.nrm (.ct ς2)) => loopX tg body ds ς2
      | some (.nrm (.bk ς2)) => some (.nrm (.nx ς2))
      | some (.nrm (.rt r ς2)) => some (.nrm (.rt r ς2))
      | some (.exc nm d ς2) => some (.exc nm d ς2)
      | none => none
    | none => none
def forX (f : M (List D)) (tg : Tg) (body : MX) : MX := fun ς => match f ς with
  | some (ds, ς1) => loopX tg body ds ς1
  | none => none
end
end Lw
namespace Lw
open PySem PySem.Spec PyProof.Rows L2
/-! ### defs that may raise -/
inductive FX where
  | ret (r : R) (outs : List S)
  | exc (nm : Str) (d : D) (outs : List S)
abbrev FsemX := List S → Option FX
/-- the promise of such a def -/
def spX (K : PySem.W.Frag) (n : Nat) (m : FsemX) : Sp := fun vs H Q E => ∃ ss G, ss.length = n ∧ ArgsOk K ss G vs H ∧ ∃ o, m ss = some o ∧ match o with
  | .ret r outs => ∀ v H' G', RetOk K ss G vs H r outs v H' G' → Q v H'
  | .exc nm d outs => ∀ H' G' dd u, RetOk K ss G vs H (.pure .none) outs .non H' G' → G' dd = some (.xd [(("what" : Str), u)]) → Dp K G' u d → E (.ref (nmAt K nm)) (some dd) H'
/-- such a def, by its name -/
def FoX (P : Program) (w : World) (K : PySem.W.Frag) (mg : Str → Option Value) (base : Heap) (x : Str) (ps : List Str) (m : FsemX) (k : Nat) : Prop :=
  ∃ (f : Addr) (fd : FuncData), FnG P w K mg base (L2.CX P w) k f fd ps (spX K ps.length m) ∧ mg x = some (.ref f) ∧ PySem.W.keepIn K (.ref f) = true ∧ Binds K fd ps []
def callX (m : FsemX) (ga : M (List Ar)) : MRX := fun ς => match ga ς with
  | some (as, ς1) => match argS as ς1 with
    | some ss => match m ss with
      | some (.ret (.ref _) _) => none
      | some (.ret r outs) => if (refsOf as).Nodup then some (.val r (putBack as outs ς1)) else none
      | some (.exc nm d outs) => if (refsOf as).Nodup then some (.exc nm d (putBack as outs ς1)) else none
      | none => none
    | none => none
  | none => none
section
variable {X : Cx} {k j : Nat} {f : Addr} {fd : FuncData} {ps : List Str} {sp : Sp} {x : Str} {p pos : Pos} {e : Expr} {es : List Expr} {m : FsemX} {ga : M (List Ar)} {t : TA} {E : L2.St → XK} {CX : CXT}
/-- a call by name; what it lets out may speak of the slots -/
theorem pe_callY (F : FnG X.prog X.w X.K X.mg X.base CX k f fd ps sp) (hgd : X.A.guards = some []) (hr : Room k X.A) (hg : Gl X x) (hm : X.mg x = some (.ref f)) (hk : PySem.W.keepIn X.K (.ref f) = true) (hb : Binds X.K fd ps []) (hx : ∀ σ, PassesAt CX X σ (E σ))
    (ha : PA X (e :: es) t) (hdb : (x == ("__debug__" : Str)) = false := by decide) (he : starEach (e :: es) X.env = (false, eval e X.env) :: starEach es X.env := by rfl) (hpl : (backTo pos (starEach es X.env)).any (·.1) = false := by rfl) :
    PE X (.Call (.Name x p) (e :: es) [] pos) (fun σ H Q => t σ H fun vs H1 => sp vs H1 Q (E σ)) :=
  ⟨fun pins s σ H Q I h => wpAny_Call_Name_kw (ld_glob I hg hm
    (PySem.W.callWith_K (h₀ := X.base) I.ok.mod.kin hk (thn (ha.run pos pins s σ H _ I h) fun us s1 ⟨vs, H1, I1, r, q⟩ => ⟨I1.kIn, by
      have b := hb s1 us I1.kIn (by rw [List.append_nil, ← r.length]; exact F.len _ _ _ _ q)
      rw [List.append_nil] at b
      refine wpAny_call (codeAny_mono (F.run X.A X.stack s1 H1 ⟨us, []⟩ us vs Q (E σ) hgd hr I1.env0 b r q) ?_)
      rintro (er | (_ | _ | _ | u)) s' hq
      · exact hx σ pins H1 s1 er s' I1 hq
      · exact hq.elim
      · exact hq.elim
      · exact hq.elim
      · exact I1.after hq⟩) he hpl) hdb)⟩
theorem FoX.call (h : FoX X.prog X.w X.K X.mg X.base x ps m j) (hgd : X.A.guards = some []) (hr : Room k X.A) (hj : j ≤ k) (hg : Gl X x) (hn : (e :: es).length = ps.length) (ha : PAd X (e :: es) ga) (hla : ∀ ς as ς', ga ς = some (as, ς') → as.length = (e :: es).length)
    (hdb : (x == ("__debug__" : Str)) = false := by decide) (he : starEach (e :: es) X.env = (false, eval e X.env) :: starEach es X.env := by rfl) (hpl : (backTo pos (starEach es X.env)).any (·.1) = false := by rfl) :
    PEx X (.Call (.Name x p) (e :: es) [] pos) (callX m ga) := by
  obtain ⟨f, fd, Gf, hm, hk, hb⟩ := h
  intro F W tk
  refine PE.mono (pe_callY Gf hgd (hr.mono hj) hg hm hk hb (passAt tk) (ha F) hdb he hpl) fun σ H Q hq => ?_
  obtain ⟨ς, G, rl, o, e', kq⟩ := hq
  unfold callX at e'
  split at e'
  · rename_i as ς1 e1
    refine ⟨ς, G, rl, as, ς1, e1, fun vs H1 G1 rl1 s1 pr => ?_⟩
    split at e'
    · rename_i ss q2
      have hl : ss.length = ps.length := by rw [argS_len q2, hla _ _ _ e1, hn]
      split at e'
      · cases e'
      · rename_i r outs hne q3
        split at e'
        · rename_i nd
          cases e'
          refine ⟨ss, G1, hl, rl1.args q2 pr nd, _, q3, fun v H' G' t => kq v H' G' (rl1.called q2 pr nd t) (s1.trans t.same) ?_⟩
          cases r with
          | pure d => exact t.rep
          | vx x => exact t.rep
          | ref i => exact t.rep.elim
          | fresh ds =>
            obtain ⟨a, xs, rfl, h1, h2, h3, h4⟩ := t.rep
            refine ⟨a, xs, rfl, h1, h2, h3, rl1.new h4, fun i b es' z1 z2 => ?_⟩
            obtain ⟨es'', hq⟩ := putBack_own z1
            obtain ⟨a', _, f1, f2, _⟩ := rl1.ow i b es'' hq
            rw [z2] at f1; cases f1
            rw [h4] at f2; cases f2
        · cases e'
      · rename_i nm d outs q3
        split at e'
        · rename_i nd
          cases e'
          exact ⟨ss, G1, hl, rl1.args q2 pr nd, _, q3, fun H' G' dd u t h1 h2 => kq σ H' G' dd u (rl1.called q2 pr nd t) (s1.trans t.same) h1 h2⟩
        · cases e'
      · cases e'
    · cases e'
  · cases e'
end
/-! ### the def -/
end Lw
namespace Lw
open PySem PySem.Spec PyProof.Rows L2
/-! ### an exception held against the classes of a clause, however many -/
end Lw
namespace Lw
open PySem PySem.Spec PyProof.Rows L2
end Lw
namespace Lw
open PySem PySem.Spec PyProof.Rows L2
section
variable {X : Cx} {pins : List (Addr × Obj)} {σ : L2.St} {H : Hp} {s : Shared} {T : Expr} {cs : List Value} {y n : Str} {iN iY : Nat} {q1 q2 q3 q4 : Pos} {D : Ends}
/-- try: body / except T as n: y = n -/
def tryS (gx : MX) (nms : List Str) (iN iY : Nat) : MS := fun ς => match gx ς with
  | some (.nrm o) => some o
  | some (.exc nm d ς') => if nms.contains nm = true ∧ free ς' iN = true ∧ free ς' iY = true then some (.nx ((ς'.set iN none).set iY (some (.vx (.exc nm d))))) else none
  | none => none
end
end Lw
namespace Lw
open PySem PySem.Spec PyProof.Rows L2
/-! ### an exception that has been caught: is None, isinstance, .what -/
/-- such an object in the heap -/
def Cgt (H : Hp) (a C : Addr) (u : V) : Prop := ∃ dd, H a = some (ExT a C dd) ∧ H dd = some (.xd [(("what" : Str), u)])
/-! ### the expressions over a slot that holds a caught one -/
section
variable {X : Cx} {F : Fx} {ς : En} {G H : Hp} {σ : L2.St} {x y : Str} {i : Nat} {p p1 p2 pos : Pos}
theorem Cgt.same {G H : Hp} (s : Same G H) {a C : Addr} {u : V} (h : Cgt G a C u) : Cgt H a C u := by
  obtain ⟨dd, h1, h2⟩ := h
  exact ⟨dd, s _ _ h1, s _ _ h2⟩
/-- slot i is None -/
def isX (i : Nat) : M R := fun ς => match ς[i]? with
  | some (some (.vx (.exc _ _))) => some (.pure (.bool false), ς)
  | some (some (.pure d)) => some (.pure (.bool (isNone d)), ς)
  | _ => none
/-- isinstance of what slot i holds, by a table of the classes' names -/
def isiX (i : Nat) (tab : List (Str × Bool)) : M R := fun ς => match ς[i]? with
  | some (some (.vx (.exc nm _))) => match tab.lookup nm with
    | some b => some (.pure (.bool b), ς)
    | none => none
  | _ => none
/-- what the caught one keeps -/
def whX (i : Nat) (nms : List Str) : M R := fun ς => match ς[i]? with
  | some (some (.vx (.exc nm d))) => if nms.contains nm = true then some (.pure d, ς) else none
  | _ => none
end
end Lw
namespace Lw
open PySem PySem.Spec PyProof.Rows L2
/-! ### the facts of a class, looked up -/
/-- a class as the text names it -/
theorem Cn.cls (K : PySem.W.Frag) (c : Cn) : ClsV (c.v K) (c.u K) := by
  cases c with
  | own nm => exact .own _
  | ty n => exact .ty n
/-! ### the Hook: defs, facts, and closed looks of one's own -/
section
variable {fa : List He.Fa} {fn : List He.DefD} {xs : List (PySem.W.Frag → Bool)} {K : PySem.W.Frag}
theorem SaysX.base (c : SaysX fa fn xs K) : He.SaysD fa fn K := by
  have e1 : ((He.obsD fa fn K).1 && xs.all fun f => f K) = true := congrArg (fun z : He.AlD => z.1) c
  have e2 : (obsX fa fn xs K).2 = (He.valD fn).2 := congrArg (fun z : He.AlD => z.2) (show obsX fa fn xs K = He.valD fn from c)
  rw [Bool.and_eq_true] at e1
  exact Prod.ext e1.1 e2
end
/-! ### a class of the program's own that may be raised -/
def XCls (P : Program) (w : World) (K : PySem.W.Frag) (mg : Str → Option Value) (base : Heap) (x : Str) : Prop :=
  ∃ (B newId initId : String) (bmB : List Value) (fI : Addr) (fd : FuncData), ExcBaseFacts B newId initId bmB ∧ XC K (nmAt K x) fI bmB newId ∧ FnOk P w K mg base CX0 1 fI fd ["self", "what"] (spW (nmAt K x)) ∧ Binds K fd ["self", "what"] [] ∧ mg x = some (.ref (nmAt K x))
section
variable {X : Cx} {x : Str} {e : Expr} {f : M R} {k : Nat} {p p2 pos : Pos}
theorem XCls.raise (c : XCls X.prog X.w X.K X.mg X.base x) (hc : X.calm = true) (hr : Room k X.A) (hk : 2 ≤ k) (hg : Gl X x) (he : PEd X e f) (hdb : (x == ("__debug__" : Str)) = false := by decide) (hst : starEach [e] X.env = (false, eval e X.env) :: starEach [] X.env := by rfl) (hpl : (backTo pos (starEach [] X.env)).any (·.1) = false := by rfl) :
    PSx X (.Raise (some (.Call (.Name x p) [e] [] pos)) none p2) (raX x f) := by
  obtain ⟨B, newId, initId, bmB, fI, fd, FB, T, F1, hb, hm⟩ := c
  exact x_raise hc rfl (fun te h => pmk_what FB T F1 (hr.mono hk) hb hg hm h hdb hst hpl) he
end
end Lw
namespace Lw
open PySem PySem.Spec PyProof.Rows L2
/-! ### what a program that may raise is worth -/
abbrev XE' := Str → D → En → Prop
def wpx (g : MX) (ς : En) (Q : Out → Prop) (E : XE') : Prop := ∃ o, g ς = some o ∧ match o with
  | .nrm o => Q o
  | .exc nm d ς' => E nm d ς'
def wpe (f : MRX) (ς : En) (Q : R → En → Prop) (E : XE') : Prop := ∃ o, f ς = some o ∧ match o with
  | .val r ς' => Q r ς'
  | .exc nm d ς' => E nm d ς'
def wpm (m : FsemX) (ss : List S) (Q : R → List S → Prop) (E : Str → D → List S → Prop) : Prop := ∃ o, m ss = some o ∧ match o with
  | .ret r outs => Q r outs
  | .exc nm d outs => E nm d outs
def andThenX (g : MX) (Q : Out → Prop) (E : XE') : Out → Prop
  | .nx ς => wpx g ς Q E
  | o => Q o
namespace Sm
section
variable {ς : En} {i iN iY : Nat} {d : D} {g : MS} {gx gx1 gx2 : MX} {fx : MRX} {m : FsemX} {f : M R} {t : M Bool} {Q : Out → Prop} {E : XE'} {nm : Str} {nms : List Str} {tg : Tg}
theorem nS (h : wps g ς Q) : wpx (Lw.nS g) ς Q E := by
  obtain ⟨o, e, q⟩ := h
  exact ⟨.nrm o, by unfold Lw.nS; rw [e]; rfl, q⟩
theorem sqX (h : wpx gx1 ς (andThenX gx2 Q E) E) : wpx (Lw.sqX gx1 gx2) ς Q E := by
  obtain ⟨o, e, q⟩ := h
  rcases o with o | ⟨nm, d, ς'⟩
  · cases o with
    | nx ς' =>
      obtain ⟨o2, e2, q2⟩ := q
      exact ⟨o2, by unfold Lw.sqX; rw [e]; exact e2, q2⟩
    | rt r ς' => exact ⟨.nrm (.rt r ς'), by unfold Lw.sqX; rw [e], q⟩
    | bk ς' => exact ⟨.nrm (.bk ς'), by unfold Lw.sqX; rw [e], q⟩
    | ct ς' => exact ⟨.nrm (.ct ς'), by unfold Lw.sqX; rw [e], q⟩
  · exact ⟨.exc nm d ς', by unfold Lw.sqX; rw [e], q⟩
theorem ifX (h : wp t ς fun b ς1 => if b = true then wpx gx1 ς1 Q E else wpx gx2 ς1 Q E) : wpx (Lw.ifX t gx1 gx2) ς Q E := by
  obtain ⟨b, ς1, e, q⟩ := h
  cases b with
  | true =>
    rw [if_pos rfl] at q
    obtain ⟨o, e2, q2⟩ := q
    exact ⟨o, by unfold Lw.ifX; rw [e]; exact e2, q2⟩
  | false =>
    rw [if_neg Bool.false_ne_true] at q
    obtain ⟨o, e2, q2⟩ := q
    exact ⟨o, by unfold Lw.ifX; rw [e]; exact e2, q2⟩
theorem raX (h : wp f ς fun r ς1 => ∃ d ς2, toD r ς1 = some (d, ς2) ∧ E nm d ς2) : wpx (Lw.raX nm f) ς Q E := by
  obtain ⟨d, ς1, e, q⟩ := esc (Q := fun d ς1 => E nm d ς1) h
  exact ⟨.exc nm d ς1, by unfold Lw.raX; rw [e], q⟩
theorem exX (h : wpe fx ς (fun _ ς1 => Q (.nx ς1)) E) : wpx (Lw.exX fx) ς Q E := by
  obtain ⟨o, e, q⟩ := h
  cases o with
  | val r ς1 => exact ⟨.nrm (.nx ς1), by unfold Lw.exX; rw [e], q⟩
  | exc nm d ς1 => exact ⟨.exc nm d ς1, by unfold Lw.exX; rw [e], q⟩
theorem asX (h : wpe fx ς (fun r ς1 => ∃ d ς2 ς3, toD r ς1 = some (d, ς2) ∧ tg d ς2 = some ς3 ∧ Q (.nx ς3)) E) : wpx (Lw.asX fx tg) ς Q E := by
  obtain ⟨o, e, q⟩ := h
  cases o with
  | val r ς1 =>
    obtain ⟨d, ς2, ς3, e2, e3, q⟩ := q
    exact ⟨.nrm (.nx ς3), by unfold Lw.asX; rw [e]; simp only [e2, e3], q⟩
  | exc nm d ς1 => exact ⟨.exc nm d ς1, by unfold Lw.asX; rw [e], q⟩
theorem callX {ga : M (List Ar)} {Q : R → En → Prop} (h : wp ga ς fun as ς1 => ∃ ss, argS as ς1 = some ss ∧ (refsOf as).Nodup ∧ wpm m ss (fun r outs => (∀ i, r ≠ .ref i) ∧ Q r (putBack as outs ς1)) fun nm d outs => E nm d (putBack as outs ς1)) : wpe (Lw.callX m ga) ς Q E := by
  obtain ⟨as, ς1, e, ss, e2, nd, o, e3, q⟩ := h
  cases o with
  | ret r outs =>
    obtain ⟨hr, q⟩ := q
    refine ⟨.val r (putBack as outs ς1), ?_, q⟩
    unfold Lw.callX
    simp only [e, e2, e3]
    cases r with
    | ref i => exact absurd rfl (hr i)
    | pure d => exact if_pos nd
    | vx x => exact if_pos nd
    | fresh ds => exact if_pos nd
  | exc nm d outs =>
    refine ⟨.exc nm d (putBack as outs ς1), ?_, q⟩
    unfold Lw.callX
    simp only [e, e2, e3]
    exact if_pos nd
theorem forX {fi : M (List D)} (h : wp fi ς fun ds ς1 => wpx (loopX tg gx ds) ς1 Q E) : wpx (Lw.forX fi tg gx) ς Q E := by
  obtain ⟨ds, ς1, e, o, e2, q⟩ := h
  exact ⟨o, by unfold Lw.forX; rw [e]; exact e2, q⟩
theorem tryS (h : wpx gx ς Q fun nm d ς' => nms.contains nm = true ∧ free ς' iN = true ∧ free ς' iY = true ∧ Q (.nx ((ς'.set iN none).set iY (some (.vx (.exc nm d)))))) : wps (Lw.tryS gx nms iN iY) ς Q := by
  obtain ⟨o, e, q⟩ := h
  rcases o with o | ⟨nm, d, ς'⟩
  · exact ⟨o, by unfold Lw.tryS; rw [e], q⟩
  · obtain ⟨h1, h2, h3, q⟩ := q
    exact ⟨_, by unfold Lw.tryS; rw [e]; exact if_pos ⟨h1, h2, h3⟩, q⟩
end
end Sm
def isXv (i : Nat) (ς : En) : Option Bool := match ς[i]? with
  | some (some (.vx (.exc _ _))) => some false
  | some (some (.pure d)) => some (isNone d)
  | _ => none
def isiXv (i : Nat) (tab : List (Str × Bool)) (ς : En) : Option Bool := match ς[i]? with
  | some (some (.vx (.exc nm _))) => tab.lookup nm
  | _ => none
def whXv (i : Nat) (nms : List Str) (ς : En) : Option D := match ς[i]? with
  | some (some (.vx (.exc nm d))) => if nms.contains nm = true then some d else none
  | _ => none
/-- slot i is None, as a test -/
def isT (i : Nat) : M Bool := fun ς => match isXv i ς with
  | some b => some (b, ς)
  | none => none
namespace Sm
section
variable {ς : En} {i n : Nat} {nms : List Str} {tab : List (Str × Bool)} {Q : R → En → Prop}
theorem isX (h : ∃ b, isXv i ς = some b ∧ Q (.pure (.bool b)) ς) : wp (Lw.isX i) ς Q := by
  obtain ⟨b, e, q⟩ := h
  refine ⟨.pure (.bool b), ς, ?_, q⟩
  unfold isXv at e
  unfold Lw.isX
  split at e
  · rename_i h1; cases e; first | rfl | rw [h1]
  · rename_i h1; cases e; first | rfl | rw [h1]
  · cases e
theorem isT {Q : Bool → En → Prop} (h : ∃ b, isXv i ς = some b ∧ Q b ς) : wp (Lw.isT i) ς Q := by
  obtain ⟨b, e, q⟩ := h
  exact ⟨b, ς, by unfold Lw.isT; rw [e], q⟩
theorem isiX (h : ∃ b, isiXv i tab ς = some b ∧ Q (.pure (.bool b)) ς) : wp (Lw.isiX i tab) ς Q := by
  obtain ⟨b, e, q⟩ := h
  refine ⟨.pure (.bool b), ς, ?_, q⟩
  unfold isiXv at e
  unfold Lw.isiX
  split at e
  · rename_i h1; first | (rw [h1]; simp only [e]) | simp only [e]
  · cases e
theorem whX (h : ∃ d, whXv i nms ς = some d ∧ Q (.pure d) ς) : wp (Lw.whX i nms) ς Q := by
  obtain ⟨d, e, q⟩ := h
  refine ⟨.pure d, ς, ?_, q⟩
  unfold whXv at e
  unfold Lw.whX
  split at e
  · rename_i h1
    split at e
    · rename_i h2; cases e; first | (rw [h1]; exact if_pos h2) | exact if_pos h2
    · cases e
  · cases e
end
section
variable {ς : En} {i n iN iY : Nat} {d : D} {g : MS} {gx gx1 gx2 : MX} {fx : MRX} {m : FsemX} {f : M R} {t : M Bool} {Q : Out → Prop} {E : XE'} {nm : Str} {nms : List Str} {tg : Tg} {tab : List (Str × Bool)}
instance stp_nS : Stp (wpx (Lw.nS g) ς Q E) (wps g ς Q) := ⟨Sm.nS⟩
instance stp_sqX : Stp (wpx (Lw.sqX gx1 gx2) ς Q E) (wpx gx1 ς (andThenX gx2 Q E) E) := ⟨Sm.sqX⟩
instance stp_ifX : Stp (wpx (Lw.ifX t gx1 gx2) ς Q E) (wp t ς fun b ς1 => if b = true then wpx gx1 ς1 Q E else wpx gx2 ς1 Q E) := ⟨Sm.ifX⟩
instance stp_raX : Stp (wpx (Lw.raX nm f) ς Q E) (wp f ς fun r ς1 => ∃ d ς2, toD r ς1 = some (d, ς2) ∧ E nm d ς2) := ⟨Sm.raX⟩
instance stp_exX : Stp (wpx (Lw.exX fx) ς Q E) (wpe fx ς (fun _ ς1 => Q (.nx ς1)) E) := ⟨Sm.exX⟩
instance stp_asX : Stp (wpx (Lw.asX fx tg) ς Q E) (wpe fx ς (fun r ς1 => ∃ d ς2 ς3, toD r ς1 = some (d, ς2) ∧ tg d ς2 = some ς3 ∧ Q (.nx ς3)) E) := ⟨Sm.asX⟩
instance stp_callX {ga : M (List Ar)} {Q : R → En → Prop} : Stp (wpe (Lw.callX m ga) ς Q E) (wp ga ς fun as ς1 => ∃ ss, argS as ς1 = some ss ∧ (refsOf as).Nodup ∧ wpm m ss (fun r outs => (∀ i, r ≠ .ref i) ∧ Q r (putBack as outs ς1)) fun nm d outs => E nm d (putBack as outs ς1)) := ⟨Sm.callX⟩
instance stp_forX {fi : M (List D)} : Stp (wpx (Lw.forX fi tg gx) ς Q E) (wp fi ς fun ds ς1 => wpx (loopX tg gx ds) ς1 Q E) := ⟨Sm.forX⟩
instance stp_tryS : Stp (wps (Lw.tryS gx nms iN iY) ς Q) (wpx gx ς Q fun nm d ς' => nms.contains nm = true ∧ free ς' iN = true ∧ free ς' iY = true ∧ Q (.nx ((ς'.set iN none).set iY (some (.vx (.exc nm d)))))) := ⟨Sm.tryS⟩
instance stp_isX {Q : R → En → Prop} : Stp (wp (Lw.isX i) ς Q) (∃ b, isXv i ς = some b ∧ Q (.pure (.bool b)) ς) := ⟨Sm.isX⟩
instance stp_isT {Q : Bool → En → Prop} : Stp (wp (Lw.isT i) ς Q) (∃ b, isXv i ς = some b ∧ Q b ς) := ⟨Sm.isT⟩
instance stp_isiX {Q : R → En → Prop} : Stp (wp (Lw.isiX i tab) ς Q) (∃ b, isiXv i tab ς = some b ∧ Q (.pure (.bool b)) ς) := ⟨Sm.isiX⟩
instance stp_whX {Q : R → En → Prop} : Stp (wp (Lw.whX i nms) ς Q) (∃ d, whXv i nms ς = some d ∧ Q (.pure d) ς) := ⟨Sm.whX⟩
instance stp_ax_nx : Stp (andThenX gx Q E (.nx ς)) (wpx gx ς Q E) := ⟨id⟩
instance stp_ax_rt {r : R} : Stp (andThenX gx Q E (.rt r ς)) (Q (.rt r ς)) := ⟨id⟩
end
end Sm
end Lw
namespace Lw
open PySem PySem.Spec PyProof.Rows L2
/-! ### a def that may raise, called where it does not -/
def clm (m : FsemX) : Fsem := fun ss => match m ss with
  | some (.ret r outs) => some (r, outs)
  | _ => none
theorem FoX.calm {P : Program} {w : World} {K : PySem.W.Frag} {mg : Str → Option Value} {base : Heap} {x : Str} {ps : List Str} {m : FsemX} {k : Nat} (h : FoX P w K mg base x ps m k) : Fo P w K mg base x ps (clm m) k := by
  obtain ⟨f, fd, G, hm, hk, hb⟩ := h
  have key : ∀ vs H (Q : VK) (E : XK), spF K ps.length (clm m) vs H Q E → spX K ps.length m vs H Q (fun _ _ _ => False) := by
    intro vs H Q E h
    obtain ⟨ss, G1, hl, a, r, outs, e, q⟩ := h
    unfold clm at e
    split at e
    · rename_i r' outs' e2
      cases e
      exact ⟨ss, G1, hl, a, _, e2, q⟩
    · cases e
  refine ⟨f, fd, ⟨fun vs H Q E h => G.len _ _ _ _ (key vs H Q E h), fun A outer s H args us vs Q E hgd hr he hb' hv h => ?_⟩, hm, hk, hb⟩
  refine codeAny_mono (G.run A outer s H args us vs Q _ hgd hr he hb' hv (key vs H Q E h)) ?_
  rintro (er | fl) s' hq
  · obtain ⟨_, _, _, _, _, _, _, _, _, _, _, _, z⟩ := hq
    exact z.elim
  · rcases fl with _ | _ | _ | u <;> exact hq
end Lw
namespace Lw
open PySem PySem.Spec PyProof.Rows L2
end Lw
namespace Lw
open PySem PySem.Spec PyProof.Rows L2
/-! ### sum(range(a, b)) -/
def rsum (a b : Int) : Int := preSum (fun i => a + (i : Int)) (b - a).toNat
section
variable {X : Cx} {pos p1 p2 p3 : Pos} {a b : Expr} {fa fb : M R}
def sumRE (fa fb : M R) : M R := bd (sub fa) fun r => bd (sub fb) fun r2 => bd (rd r) fun d => bd (rd r2) fun d2 => match d, d2 with
  | .int m, .int n => if Lw.inR m = true ∧ Lw.inR n = true then ret (.pure (.int (rsum m n))) else lift none
  | _, _ => lift none
end
namespace Sm
section
variable {fa fb : M R} {ς : En} {Q : R → En → Prop}
theorem sumRE (h : wp fa ς fun r ς1 => wp fb ς1 fun r2 ς2 => ∃ m n, rdD r ς2 = some (.int m) ∧ rdD r2 ς2 = some (.int n) ∧ Lw.inR m = true ∧ Lw.inR n = true ∧ Q (.pure (.int (rsum m n))) ς2) : wp (Lw.sumRE fa fb) ς Q := by
  refine bd (sub (mono h fun a ς1 h => bd (sub (mono h fun b ς2 h => ?_))))
  obtain ⟨m, n, e1, e2, h1, h2, q⟩ := h
  refine bd (rd (by rw [rd_nf]; exact e1) (bd (rd (by rw [rd_nf]; exact e2) ?_)))
  show wp (if Lw.inR m = true ∧ Lw.inR n = true then Lw.ret (.pure (.int (rsum m n))) else Lw.lift none) ς2 Q
  rw [if_pos ⟨h1, h2⟩]
  exact ret q
instance stp_sumRE : Stp (wp (Lw.sumRE fa fb) ς Q) (wp fa ς fun r ς1 => wp fb ς1 fun r2 ς2 => ∃ m n, rdD r ς2 = some (.int m) ∧ rdD r2 ς2 = some (.int n) ∧ Lw.inR m = true ∧ Lw.inR n = true ∧ Q (.pure (.int (rsum m n))) ς2) := ⟨sumRE⟩
end
end Sm
end Lw
namespace Lw
open PySem PySem.Spec PyProof.Rows L2
/-! ### dicts: keys -/
def kq1 : D → D → Bool
  | .int a, .int b => decide (a = b)
  | .str a, .str b => decide (a = b)
  | _, _ => false
def kqs : List D → List D → Bool
  | [], [] => true
  | a :: as, b :: bs => kq1 a b && kqs as bs
  | _, _ => false
def kq : D → D → Bool
  | .tuple as, .tuple bs => kqs as bs
  | a, b => kq1 a b
theorem kq1_key (a b : L2.Key) : kq1 (keyD a) (keyD b) = decide (a = b) := by
  rcases a with a | a <;> rcases b with b | b
  · show decide (a = b) = _
    exact decide_eq_decide.2 ⟨fun h => by rw [h], fun h => Sum.inl.inj h⟩
  · exact (decide_eq_false (fun h => by cases h)).symm
  · exact (decide_eq_false (fun h => by cases h)).symm
  · show decide (a = b) = _
    exact decide_eq_decide.2 ⟨fun h => by rw [h], fun h => Sum.inr.inj h⟩
theorem kqs_key : ∀ as bs : List L2.Key, kqs (as.map keyD) (bs.map keyD) = decide (as = bs)
  | [], [] => rfl
  | [], b :: bs => rfl
  | a :: as, [] => rfl
  | a :: as, b :: bs => by
    show (kq1 (keyD a) (keyD b) && kqs (as.map keyD) (bs.map keyD)) = _
    rw [kq1_key, kqs_key as bs]
    by_cases h : a = b
    · by_cases h2 : as = bs
      · rw [decide_eq_true h, decide_eq_true h2, decide_eq_true (by rw [h, h2])]; rfl
      · rw [decide_eq_true h, decide_eq_false h2, decide_eq_false (fun z => h2 (List.cons.inj z).2)]; rfl
    · rw [decide_eq_false h, decide_eq_false (fun z => h (List.cons.inj z).1)]; rfl
theorem kq_key (a b : L2.Key) : kq (keyD a) (keyD b) = decide (a = b) := by
  rw [← kq1_key]
  cases a <;> cases b <;> rfl
theorem kq_keys (as bs : List L2.Key) : kq (.tuple (as.map keyD)) (.tuple (bs.map keyD)) = decide (as = bs) := kqs_key as bs
abbrev KVs := List (D × D)
def getKv (kvs : KVs) (k : D) : Option D := (kvs.find? fun p => kq p.1 k).map (·.2)
def putKv (kvs : KVs) (k v : D) : KVs := if (kvs.any fun p => kq p.1 k) = true then kvs.map (fun p => if kq p.1 k = true then (p.1, v) else p) else kvs ++ [(k, v)]
def keysOf : List D → Option (List L2.Key)
  | [] => some []
  | .int a :: ds => (keysOf ds).map (Sum.inl a :: ·)
  | .str a :: ds => (keysOf ds).map (Sum.inr a :: ·)
  | _ :: _ => none
theorem keysOf_eq : ∀ {ds : List D} {ks : List L2.Key}, keysOf ds = some ks → ds = ks.map keyD
  | [], ks, h => by cases h; rfl
  | d :: ds, ks, h => by
    cases d with
    | int a =>
      replace h : (keysOf ds).map (Sum.inl a :: ·) = some ks := h
      cases e : keysOf ds with
      | none => rw [e] at h; cases h
      | some ks' => rw [e] at h; cases h; rw [keysOf_eq e]; rfl
    | str a =>
      replace h : (keysOf ds).map (Sum.inr a :: ·) = some ks := h
      cases e : keysOf ds with
      | none => rw [e] at h; cases h
      | some ks' => rw [e] at h; cases h; rw [keysOf_eq e]; rfl
    | _ => cases h
theorem dpa_keys {K : PySem.W.Frag} {G : Hp} : ∀ {ks : List L2.Key} {vs : List V}, DpAll K G vs (ks.map keyD) → vs = ks.map kV
  | [], _, .nil => rfl
  | k :: ks, v :: vs, .cons h t => by
    rw [dpa_keys t]
    cases k with
    | inl a => rw [show v = .int a from dp_int h]; rfl
    | inr a => rw [show v = .str a from dp_str h]; rfl
section
variable {K : PySem.W.Frag} {G : Hp} {κ : Type} [DecidableEq κ] {f : κ → D} (hk : ∀ a b, kq (f a) (f b) = decide (a = b))
include hk
theorem dc_get {es : List (κ × V)} {kvs : KVs} (h : Paired (fun e p => f e.1 = p.1 ∧ Dp K G e.2 p.2) es kvs) (k : κ) :
    (∃ v d, valV es k = some v ∧ getKv kvs (f k) = some d ∧ Dp K G v d) ∨ (valV es k = none ∧ getKv kvs (f k) = none) := by
  induction h with
  | nil => exact .inr ⟨rfl, rfl⟩
  | @cons e p es kvs h0 hr ih =>
    unfold valV getKv at ih ⊢
    rw [List.find?_cons, List.find?_cons, ← h0.1, hk]
    by_cases q : e.1 = k
    · rw [decide_eq_true q]
      exact .inl ⟨_, _, rfl, rfl, h0.2⟩
    · rw [decide_eq_false q]
      exact ih
theorem dc_any {es : List (κ × V)} {kvs : KVs} (h : Paired (fun e p => f e.1 = p.1 ∧ Dp K G e.2 p.2) es kvs) (k : κ) :
    (es.any fun kv => decide (kv.1 = k)) = kvs.any fun p => kq p.1 (f k) := by
  induction h with
  | nil => rfl
  | @cons e p es kvs h0 hr ih => rw [List.any_cons, List.any_cons, ih, ← h0.1, hk]
theorem dc_map {es : List (κ × V)} {kvs : KVs} (h : Paired (fun e p => f e.1 = p.1 ∧ Dp K G e.2 p.2) es kvs) (k : κ) {v : V} {d : D} (hv : Dp K G v d) :
    Paired (fun e p => f e.1 = p.1 ∧ Dp K G e.2 p.2) (es.map fun kv => if kv.1 = k then (kv.1, v) else kv) (kvs.map fun p => if kq p.1 (f k) = true then (p.1, d) else p) := by
  induction h with
  | nil => exact .nil
  | @cons e p es kvs h0 hr ih =>
    rw [List.map_cons, List.map_cons]
    refine .cons ?_ ih
    rw [← h0.1, hk]
    by_cases q : e.1 = k
    · rw [if_pos q, if_pos (decide_eq_true q)]; exact ⟨h0.1 ▸ rfl, hv⟩
    · rw [if_neg q, if_neg (by rw [decide_eq_false q]; exact Bool.false_ne_true)]
      exact h0
theorem dc_put {es : List (κ × V)} {kvs : KVs} (h : Paired (fun e p => f e.1 = p.1 ∧ Dp K G e.2 p.2) es kvs) (k : κ) {v : V} {d : D} (hv : Dp K G v d) :
    Paired (fun e p => f e.1 = p.1 ∧ Dp K G e.2 p.2) (putK es k v) (putKv kvs (f k) d) := by
  unfold putK putKv
  rw [dc_any hk h k]
  split
  · exact dc_map hk h k hv
  · exact Paired.snoc h ⟨rfl, hv⟩
end
def isTp : D → Bool
  | .tuple _ => true
  | _ => false
def kdOk (kvs : KVs) (k : D) : Bool := match kvs with
  | (.bool t, _) :: _ => t == isTp k
  | _ => false
/-- a key: a number or text, or a tuple of these laid out -/
def KeyAt (G : Hp) (v : V) (k : D) : Prop := (∃ c : L2.Key, k = keyD c ∧ v = kV c) ∨ ∃ (cs : List L2.Key) (b : Addr), k = .tuple (cs.map keyD) ∧ v = .ref b ∧ G b = some (.tup (cs.map kV))
theorem KeyAt.same {G G' : Hp} (s : Same G G') {v : V} {k : D} (h : KeyAt G v k) : KeyAt G' v k := by
  rcases h with h | ⟨cs, b, h1, h2, h3⟩
  · exact .inl h
  · exact .inr ⟨cs, b, h1, h2, s _ _ h3⟩
theorem isTp_key (c : L2.Key) : isTp (keyD c) = false := by cases c <;> rfl
theorem kq_mark (b : Bool) (c : L2.Key) : kq (.bool b) (keyD c) = false := by cases c <;> rfl
theorem getKv_mark (b : Bool) (x : D) (ks : KVs) {k : D} (h : (∃ c, k = keyD c) ∨ ∃ ds, k = .tuple ds) : getKv ((.bool b, x) :: ks) k = getKv ks k := by
  unfold getKv
  rw [List.find?_cons]
  rcases h with ⟨c, rfl⟩ | ⟨ds, rfl⟩
  · rw [show kq ((PyData.bool b, x) : D × D).1 (keyD c) = false from kq_mark b c]
  · rfl
theorem putKv_mark (b : Bool) (x : D) (ks : KVs) {k v : D} (h : (∃ c, k = keyD c) ∨ ∃ ds, k = .tuple ds) : putKv ((.bool b, x) :: ks) k v = (.bool b, x) :: putKv ks k v := by
  have e : kq (.bool b) k = false := by
    rcases h with ⟨c, rfl⟩ | ⟨ds, rfl⟩
    · exact kq_mark b c
    · rfl
  unfold putKv
  rw [List.any_cons, show kq ((PyData.bool b, x) : D × D).1 k = false from e, Bool.false_or]
  split
  · rw [List.map_cons, if_neg (by rw [show kq ((PyData.bool b, x) : D × D).1 k = false from e]; exact Bool.false_ne_true)]
  · rfl
theorem dc_at {K : PySem.W.Frag} {G H : Hp} {a : Addr} {o : HO} {kvs : KVs} {v : V} {k : D} (h : DcAt K G o kvs) (ha : H a = some o) (s : Same G H) (hk : KeyAt G v k) (ho : kdOk kvs k = true) :
    ∃ r : Option V, DGet H a v r ∧ ((∃ w d, r = some w ∧ getKv kvs k = some d ∧ Dp K G w d) ∨ (r = none ∧ getKv kvs k = none)) := by
  rcases h with ⟨es, ks, rfl, rfl, hp⟩ | ⟨es, ks, rfl, rfl, hp⟩
  · rcases hk with ⟨c, rfl, rfl⟩ | ⟨cs, b, rfl, rfl, hb⟩
    · refine ⟨_, DGet.k ha, ?_⟩
      rw [getKv_mark _ _ _ (.inl ⟨c, rfl⟩)]
      rcases dc_get kq_key hp c with ⟨w, d, h1, h2, h3⟩ | ⟨h1, h2⟩
      · exact .inl ⟨w, d, h1, h2, h3⟩
      · exact .inr ⟨h1, h2⟩
    · cases ho
  · rcases hk with ⟨c, rfl, rfl⟩ | ⟨cs, b, rfl, rfl, hb⟩
    · replace ho : (true == isTp (keyD c)) = true := ho
      rw [isTp_key] at ho; cases ho
    · refine ⟨_, DGet.t ha (s _ _ hb), ?_⟩
      rw [getKv_mark _ _ _ (.inr ⟨_, rfl⟩)]
      rcases dc_get (f := fun c : List L2.Key => PyData.tuple (c.map keyD)) kq_keys hp cs with ⟨w, d, h1, h2, h3⟩ | ⟨h1, h2⟩
      · exact .inl ⟨w, d, h1, h2, h3⟩
      · exact .inr ⟨h1, h2⟩
theorem dc_set {K : PySem.W.Frag} {G H : Hp} {a : Addr} {o : HO} {kvs : KVs} {v u : V} {k d : D} (h : DcAt K G o kvs) (ha : H a = some o) (s : Same G H) (hk : KeyAt G v k) (ho : kdOk kvs k = true) (hl : kvs.length ≤ sizeLine) (hd : Dp K G u d) :
    ∃ o', DPut H a v u (upd H a o') ∧ DcAt K G o' (putKv kvs k d) := by
  rcases h with ⟨es, ks, rfl, rfl, hp⟩ | ⟨es, ks, rfl, rfl, hp⟩
  · have hl' : es.length < sizeLine := by
      rw [hp.length]
      simp only [List.length_cons] at hl
      omega
    rcases hk with ⟨c, rfl, rfl⟩ | ⟨cs, b, rfl, rfl, hb⟩
    · refine ⟨_, DPut.k ha hl', ?_⟩
      rw [putKv_mark _ _ _ (.inl ⟨c, rfl⟩)]
      exact .inl ⟨_, _, rfl, rfl, dc_put kq_key hp c hd⟩
    · cases ho
  · have hl' : es.length < sizeLine := by
      rw [hp.length]
      simp only [List.length_cons] at hl
      omega
    rcases hk with ⟨c, rfl, rfl⟩ | ⟨cs, b, rfl, rfl, hb⟩
    · replace ho : (true == isTp (keyD c)) = true := ho
      rw [isTp_key] at ho; cases ho
    · refine ⟨_, DPut.t ha (s _ _ hb) hl', ?_⟩
      rw [putKv_mark _ _ _ (.inr ⟨_, rfl⟩)]
      exact .inr ⟨_, _, rfl, rfl, dc_put (f := fun c : List L2.Key => PyData.tuple (c.map keyD)) kq_keys hp cs hd⟩
/-! ### x = {} -/
section
variable {X : Cx} {F : Fx} {i : Nat} {st : Stmt} {fv fd : M R} {fk : M D} {es : List Expr} {x : Str} {p pos p2 p3 apos : Pos} {value key e1 e2 : Expr} {ga : M (List Ar)}
def dnew (t : Bool) (i : Nat) : MS := fun ς => if free ς i = true then some (.nx (ς.set i (some (.vx (.odc [(.bool t, .none)]))))) else none
theorem Rel.noOd {K : PySem.W.Frag} {F : Fx} {ς : En} {G H : Hp} {σ : L2.St} (r : Rel K F ς G σ H) {p : Addr} (h : H p = none) : ∀ (n : Nat) kvs, ς[n]? = some (some (.vx (.odc kvs))) → σ[n]? ≠ some (some (.ref p)) := fun n kvs z1 z2 => by
  obtain ⟨c, o, f1, f2, _⟩ := r.od n kvs z1
  rw [z2] at f1; cases f1
  rw [h] at f2; cases f2
theorem t_dnew {K : PySem.W.Frag} {F : Fx} {t : Bool} {D : Ends} {σ : L2.St} {H : Hp} {o : HO} (ho : DcAt K (fun _ => none) o [(.bool t, .none)]) (hq : tSt K F (dnew t i) D σ H) : ∀ q, H q = none → D.nx (σ.set i (some (.ref q))) (upd H q o) := fun q hn => by
  obtain ⟨ς, G, rl, oo, e, k⟩ := hq
  unfold dnew at e
  split at e
  · rename_i hf
    cases e
    have r1 := rl.layF (o := o) hn
    exact k _ _ G (r1.setD hf upd_same (dc_same (fun _ _ z => by cases z) ho) (rl.gnone hn) (rl.new hn) (rl.noOd hn)) (Same.refl _)
  · cases e
theorem s_dnewT (h : ∀ te : TE, PE X (.Dict [] [] p) te → PS X st (tAsg te (gName i))) : PSd X st (dnew true i) := fun F => PS.mono (h _ pe_dnewT) fun D σ H hq q hn => t_dnew (.inr ⟨[], [], rfl, rfl, .nil⟩) hq q hn
/-! ### the dict at a slot -/
def dcOf (ς : En) (i : Nat) : Option KVs := match ς[i]? with
  | some (some (.vx (.odc kvs))) => some kvs
  | some (some (.vx (.dct kvs))) => some kvs
  | _ => none
theorem Rel.dc {K : PySem.W.Frag} {F : Fx} {ς : En} {G H : Hp} {σ : L2.St} (r : Rel K F ς G σ H) {kvs : KVs} (h : dcOf ς i = some kvs) : ∃ a o, σ[i]? = some (some (.ref a)) ∧ H a = some o ∧ DcAt K G o kvs := by
  unfold dcOf at h
  split at h
  · rename_i q
    cases h
    obtain ⟨a, o, h1, h2, h3, _⟩ := r.od i _ q
    exact ⟨a, o, h1, h2, h3⟩
  · rename_i q
    cases h
    obtain ⟨v, h1, a, o, rfl, h2, h3⟩ := r.vx i _ q
    exact ⟨a, o, h1, r.sub _ _ h2, h3⟩
  · cases h
theorem _root_.Lw.DcAt.isD {K : PySem.W.Frag} {G H : Hp} {a : Addr} {o : HO} {kvs : KVs} (h : DcAt K G o kvs) (ha : H a = some o) : IsD H a := by
  rcases h with ⟨es, ks, rfl, _⟩ | ⟨es, ks, rfl, _⟩
  · exact .inl ⟨es, .inl ha⟩
  · exact .inr ⟨es, .inl ha⟩
/-! ### keys -/
def tKy (K : PySem.W.Frag) (F : Fx) (f : M D) : TE := fun σ H Q => ∃ ς G, Rel K F ς G σ H ∧ ∃ k ς', f ς = some (k, ς') ∧ ∀ v H' G', Rel K F ς' G' σ H' → Same G G' → KeyAt G' v k → Q v H'
abbrev PKd (X : Cx) (e : Expr) (f : M D) : Prop := ∀ F : Fx, PE X e (tKy X.K F f)
def keyT (g : M (List Ar)) : M D := bd g fun as => bd (lift (vals as)) fun ds => if small ds.length = true ∧ (keysOf ds).isSome = true then ret (.tuple ds) else lift none
def isKy : D → Bool
  | .int _ => true
  | .str _ => true
  | _ => false
def keyK (f : M R) : M D := bd (esc f) fun d => if isKy d = true then ret d else lift none
theorem k_tup {k : Nat} (h : PAd X es ga) : PKd X (.Tuple es k pos) (keyT ga) := fun F => PE.mono (pe_tup (h F)) fun σ H Q hq => by
  obtain ⟨ς, G, rl, r, ς', e, k⟩ := hq
  obtain ⟨as, ς1, e1, q1⟩ := bd_some e
  obtain ⟨ds, ς2, e2', q2⟩ := bd_some q1
  obtain ⟨e2, h2⟩ := lift_some e2'
  subst h2
  refine ⟨ς, G, rl, as, _, e1, fun vs H1 G1 rl1 s1 ps => ?_⟩
  have da := vals_ok ps e2
  by_cases hs : small ds.length = true ∧ (keysOf ds).isSome = true
  · rw [if_pos hs] at q2
    cases q2
    obtain ⟨ks, hks⟩ := Option.isSome_iff_exists.mp hs.2
    have e3 := keysOf_eq hks
    subst e3
    have e4 := dpa_keys da
    subst e4
    refine ⟨by rw [dpa_len da]; exact of_decide_eq_true hs.1, fun p hp => ?_⟩
    exact k _ _ _ (rl1.lay hp) (s1.trans (same_upd (rl1.gnone hp))) (.inr ⟨ks, p, rfl, rfl, upd_same⟩)
  · rw [if_neg hs] at q2; cases q2
/-! ### x[k], x.get(k, d), k in x -/
def dget (i : Nat) (fk : M D) : M R := fun ς => match dcOf ς i with
  | some _ => match fk ς with
    | some (k, ς1) => match dcOf ς1 i with
      | some kvs => if kdOk kvs k = true then (getKv kvs k).map fun d => (.pure d, ς1) else none
      | none => none
    | none => none
  | none => none
theorem d_dget (hu : X.A.units + 64 < cLine - 1) (ho : PE X (.Name x p) (tVar i)) (hk : PKd X key fk) (hs : NoSl key := by intro _ _; rfl) : PEd X (.Subscript (.Name x p) key pos) (dget i fk) := fun F =>
  PE.mono (pe_dget (by omega) ho (hk F) hs) fun σ H Q hq => by
    obtain ⟨ς, G, rl, r, ς', e, k⟩ := hq
    unfold dget at e
    split at e
    · rename_i kvs0 q0
      split at e
      · rename_i ky ς1 q1
        split at e
        · rename_i kvs q2
          split at e
          · rename_i hkd
            obtain ⟨a, o, h1, _⟩ := rl.dc q0
            refine ⟨.ref a, h1, ς, G, rl, ky, ς1, q1, fun v H1 G1 rl1 s1 ka => ?_⟩
            obtain ⟨a', o', h1', h2', h3'⟩ := rl1.dc q2
            rw [h1] at h1'; cases h1'
            obtain ⟨rr, g, hr⟩ := dc_at h3' h2' rl1.sub ka hkd
            rcases hr with ⟨w, d, rfl, hd, dp⟩ | ⟨_, hd⟩
            · rw [hd] at e
              cases e
              exact ⟨a, w, rfl, g, k w H1 G1 rl1 s1 dp⟩
            · rw [hd] at e; cases e
          · cases e
        · cases e
      · cases e
    · cases e
def dget2 (i : Nat) (fk : M D) (fd : M R) : M R := fun ς => match dcOf ς i with
  | some _ => match fk ς with
    | some (k, ς1) => match esc fd ς1 with
      | some (d, ς2) => match dcOf ς2 i with
        | some kvs => if kdOk kvs k = true then some (.pure ((getKv kvs k).getD d), ς2) else none
        | none => none
      | none => none
    | none => none
  | none => none
theorem d_dget2 (hu : X.A.units + 64 < cLine - 1) (ho : PE X (.Name x p) (tVar i)) (hk : PKd X key fk) (hd : PEd X e2 fd) (m : M2 X (.Name x p) "get" apos key e2 pos := by exact ⟨rfl, rfl, rfl, rfl⟩) :
    PEd X (.Call (.Attribute (.Name x p) "get" apos) [key, e2] [] pos) (dget2 i fk fd) := fun F =>
  PE.mono (pe_dget2 (by omega) ho (hk F) (d_esc hd F) m) fun σ H Q hq => by
    obtain ⟨ς, G, rl, r, ς', e, k⟩ := hq
    unfold dget2 at e
    split at e
    · rename_i kvs0 q0
      split at e
      · rename_i ky ς1 q1
        split at e
        · rename_i d ς2 q3
          split at e
          · rename_i kvs q2
            split at e
            · rename_i hkd
              cases e
              obtain ⟨a, o, h1, h2, h3⟩ := rl.dc q0
              refine ⟨.ref a, h1, a, rfl, h3.isD h2, ς, G, rl, ky, ς1, q1, fun v H1 G1 rl1 s1 ka => ⟨ς1, G1, rl1, d, _, q3, fun w H2 G2 rl2 s2 dp => ?_⟩⟩
              obtain ⟨a', o', h1', h2', h3'⟩ := rl2.dc q2
              rw [h1] at h1'; cases h1'
              obtain ⟨rr, g, hr⟩ := dc_at h3' h2' rl2.sub (ka.same s2) hkd
              refine ⟨rr, g, ?_⟩
              rcases hr with ⟨w, d, rfl, hd, dp⟩ | ⟨rfl, hd⟩
              · rw [hd] at k
                exact k w H2 G2 rl2 (s1.trans s2) dp
              · rw [hd] at k
                exact k w H2 G2 rl2 (s1.trans s2) dp
            · cases e
          · cases e
        · cases e
      · cases e
    · cases e
/-! ### x[k] = v -/
def dput (i : Nat) (fk : M D) (fv : M R) : MS := fun ς => match esc fv ς with
  | some (d, ς1) => match dcOf ς1 i with
    | some _ => match fk ς1 with
      | some (k, ς2) => match ς2[i]? with
        | some (some (.vx (.odc kvs))) => if kdOk kvs k = true ∧ small kvs.length = true then some (.nx (ς2.set i (some (.vx (.odc (putKv kvs k d)))))) else none
        | _ => none
      | none => none
    | none => none
  | none => none
theorem s_dput (hu : X.A.units + 64 < cLine - 1) (ho : PE X (.Name x p) (tVar i)) (hk : PKd X key fk) (hv : PEd X value fv) (hs : swapsWith value (some (.Subscript (.Name x p) key p2)) pos.line X.env = pure false := by rfl) :
    PSd X (.Assign [.Subscript (.Name x p) key p2] value pos) (dput i fk fv) := fun F =>
  PS.mono (ps_dput (by omega) ho (hk F) (d_esc hv F) hs) fun D σ H hq => by
    obtain ⟨ς, G, rl, oo, e, k⟩ := hq
    unfold dput at e
    split at e
    · rename_i d ς1 q1
      split at e
      · rename_i kvs0 q0
        split at e
        · rename_i ky ς2 q2
          split at e
          · rename_i kvs q3
            split at e
            · rename_i hh
              cases e
              refine ⟨ς, G, rl, d, ς1, q1, fun v H1 G1 rl1 s1 dp => ?_⟩
              obtain ⟨a, o, h1, _⟩ := rl1.dc q0
              refine ⟨.ref a, h1, ς1, G1, rl1, ky, ς2, q2, fun u H2 G2 rl2 s2 ka => ?_⟩
              obtain ⟨a', o', h1', h2', h3', _⟩ := rl2.od _ _ q3
              rw [h1] at h1'; cases h1'
              obtain ⟨o2, g, hd⟩ := dc_set h3' h2' rl2.sub ka hh.1 (of_decide_eq_true hh.2) (dp_same s2 dp)
              exact ⟨a, _, rfl, g, k _ _ G2 (rl2.mutD q3 h1 hd) (s1.trans s2)⟩
            · cases e
          · cases e
        · cases e
      · cases e
    · cases e
/-! ### x = f(..), a dict -/
def asgD (i : Nat) (f : M R) : MS := fun ς => match f ς with
  | some (.vx (.dct kvs), ς') => if free ς' i = true then some (.nx (ς'.set i (some (.vx (.dct kvs))))) else none
  | _ => none
end
namespace Sm
section
variable {ς : En} {i : Nat} {fk : M D} {fv fd f : M R} {ga : M (List Ar)} {t : Bool} {Q : R → En → Prop} {P : Out → Prop}
theorem dnew (h : free ς i = true ∧ P (.nx (ς.set i (some (.vx (.odc [(.bool t, .none)])))))) : wps (Lw.dnew t i) ς P := ⟨_, by unfold Lw.dnew; exact if_pos h.1, h.2⟩
theorem keyT {Q : D → En → Prop} (h : wp ga ς fun as ς1 => ∃ ds, vals as = some ds ∧ ds.length ≤ sizeLine ∧ (keysOf ds).isSome = true ∧ Q (.tuple ds) ς1) : wp (Lw.keyT ga) ς Q := by
  refine bd (mono h fun as ς1 h => ?_)
  obtain ⟨ds, h1, h2, h3, q⟩ := h
  refine bd (lift h1 ?_)
  rw [if_pos ⟨(decide_eq_true h2 : small ds.length = true), h3⟩]
  exact ret q
theorem keyK {Q : D → En → Prop} (h : wp f ς fun r ς1 => ∃ d ς2, toD r ς1 = some (d, ς2) ∧ isKy d = true ∧ Q d ς2) : wp (Lw.keyK f) ς Q := by
  refine bd (esc (mono h fun r ς1 ⟨d, ς2, h1, h2, q⟩ => ⟨d, ς2, h1, ?_⟩))
  rw [if_pos h2]
  exact ret q
theorem dget (h : (dcOf ς i).isSome = true ∧ wp fk ς fun k ς1 => ∃ kvs d, dcOf ς1 i = some kvs ∧ kdOk kvs k = true ∧ getKv kvs k = some d ∧ Q (.pure d) ς1) : wp (Lw.dget i fk) ς Q := by
  obtain ⟨h0, k, ς1, e, kvs, d, h1, h2, h3, q⟩ := h
  obtain ⟨kv0, h0⟩ := Option.isSome_iff_exists.mp h0
  refine ⟨_, _, ?_, q⟩
  unfold Lw.dget
  simp only [h0, e, h1]
  rw [if_pos h2, h3]
  rfl
theorem dget2 (h : (dcOf ς i).isSome = true ∧ wp fk ς fun k ς1 => wp fd ς1 fun r ς2 => ∃ d ς3, toD r ς2 = some (d, ς3) ∧ ∃ kvs, dcOf ς3 i = some kvs ∧ kdOk kvs k = true ∧ Q (.pure ((getKv kvs k).getD d)) ς3) : wp (Lw.dget2 i fk fd) ς Q := by
  obtain ⟨h0, k, ς1, e, hh⟩ := h
  obtain ⟨kv0, h0⟩ := Option.isSome_iff_exists.mp h0
  obtain ⟨d, ς3, e3, kvs, h1, h2, q⟩ := esc (Q := fun d ς3 => ∃ kvs, dcOf ς3 i = some kvs ∧ kdOk kvs k = true ∧ Q (.pure ((getKv kvs k).getD d)) ς3) hh
  refine ⟨_, _, ?_, q⟩
  unfold Lw.dget2
  simp only [h0, e, e3, h1]
  exact if_pos h2
theorem dput (h : wp fv ς fun r ς1 => ∃ d ς2, toD r ς1 = some (d, ς2) ∧ (dcOf ς2 i).isSome = true ∧ wp fk ς2 fun k ς3 => ∃ kvs, ς3[i]? = some (some (.vx (.odc kvs))) ∧ kdOk kvs k = true ∧ kvs.length ≤ sizeLine ∧ P (.nx (ς3.set i (some (.vx (.odc (putKv kvs k d))))))) : wps (Lw.dput i fk fv) ς P := by
  obtain ⟨d, ς2, e2, h0, k, ς3, e3, kvs, h1, h2, h3, q⟩ := esc (Q := fun d ς2 => (dcOf ς2 i).isSome = true ∧ wp fk ς2 fun k ς3 => ∃ kvs, ς3[i]? = some (some (.vx (.odc kvs))) ∧ kdOk kvs k = true ∧ kvs.length ≤ sizeLine ∧ P (.nx (ς3.set i (some (.vx (.odc (putKv kvs k d))))))) h
  obtain ⟨kv0, h0⟩ := Option.isSome_iff_exists.mp h0
  refine ⟨_, ?_, q⟩
  unfold Lw.dput
  simp only [e2, h0, e3, h1]
  exact if_pos ⟨h2, (decide_eq_true h3 : small kvs.length = true)⟩
theorem asgD (h : wp f ς fun r ς1 => ∃ kvs, r = .vx (.dct kvs) ∧ free ς1 i = true ∧ P (.nx (ς1.set i (some (.vx (.dct kvs)))))) : wps (Lw.asgD i f) ς P := by
  obtain ⟨r, ς1, e, kvs, rfl, h1, q⟩ := h
  refine ⟨_, ?_, q⟩
  unfold Lw.asgD
  rw [e]
  exact if_pos h1
instance stp_dnew : Stp (wps (Lw.dnew t i) ς P) (free ς i = true ∧ P (.nx (ς.set i (some (.vx (.odc [(.bool t, .none)])))))) := ⟨Sm.dnew⟩
instance stp_keyT {Q : D → En → Prop} : Stp (wp (Lw.keyT ga) ς Q) (wp ga ς fun as ς1 => ∃ ds, vals as = some ds ∧ ds.length ≤ sizeLine ∧ (keysOf ds).isSome = true ∧ Q (.tuple ds) ς1) := ⟨Sm.keyT⟩
instance stp_keyK {Q : D → En → Prop} : Stp (wp (Lw.keyK f) ς Q) (wp f ς fun r ς1 => ∃ d ς2, toD r ς1 = some (d, ς2) ∧ isKy d = true ∧ Q d ς2) := ⟨Sm.keyK⟩
instance stp_dget : Stp (wp (Lw.dget i fk) ς Q) ((dcOf ς i).isSome = true ∧ wp fk ς fun k ς1 => ∃ kvs d, dcOf ς1 i = some kvs ∧ kdOk kvs k = true ∧ getKv kvs k = some d ∧ Q (.pure d) ς1) := ⟨Sm.dget⟩
instance stp_dget2 : Stp (wp (Lw.dget2 i fk fd) ς Q) ((dcOf ς i).isSome = true ∧ wp fk ς fun k ς1 => wp fd ς1 fun r ς2 => ∃ d ς3, toD r ς2 = some (d, ς3) ∧ ∃ kvs, dcOf ς3 i = some kvs ∧ kdOk kvs k = true ∧ Q (.pure ((getKv kvs k).getD d)) ς3) := ⟨Sm.dget2⟩
instance stp_dput : Stp (wps (Lw.dput i fk fv) ς P) (wp fv ς fun r ς1 => ∃ d ς2, toD r ς1 = some (d, ς2) ∧ (dcOf ς2 i).isSome = true ∧ wp fk ς2 fun k ς3 => ∃ kvs, ς3[i]? = some (some (.vx (.odc kvs))) ∧ kdOk kvs k = true ∧ kvs.length ≤ sizeLine ∧ P (.nx (ς3.set i (some (.vx (.odc (putKv kvs k d))))))) := ⟨Sm.dput⟩
instance stp_asgD : Stp (wps (Lw.asgD i f) ς P) (wp f ς fun r ς1 => ∃ kvs, r = .vx (.dct kvs) ∧ free ς1 i = true ∧ P (.nx (ς1.set i (some (.vx (.dct kvs)))))) := ⟨Sm.asgD⟩
end
end Sm
end Lw
namespace Lw
open PySem PySem.Spec PyProof.Rows L2
/-! ### a def that is handed a new list ahead of others -/
def noOwnS : S → Bool
  | .own _ _ => false
  | _ => true
def callF2 (m : Fsem) (fe : M R) (gb : M (List Ar)) : M R := bd fe fun r => match r with
  | .fresh ds => bd gb fun as => fun ς => match argS as ς with
    | some ss => if (refsOf as).Nodup ∧ ss.all noOwnS = true then finF (m (.own true ds :: ss)) ς else none
    | none => none
  | _ => lift none
section
variable {K : PySem.W.Frag} {F : Fx} {ς : En} {G H G' H' : Hp} {σ : L2.St}
theorem noOwn_at {ss : List S} (h : ss.all noOwnS = true) {i : Nat} {b : Bool} {ds : List D} (e : ss[i]? = some (.own b ds)) : False := by
  have := List.all_eq_true.1 h _ (List.mem_of_getElem? e)
  cases this
theorem argsF2 (r : Rel K F ς G σ H) {ds : List D} {v : V} {ss : List S} {vs : List V} (h : RepR K F ς G σ H (.fresh ds) v) (a : ArgsOk K ss G vs H) (n : ss.all noOwnS = true) : ArgsOk K (.own true ds :: ss) G (v :: vs) H := by
  obtain ⟨p, xs, rfl, h1, h2, h3, _, _⟩ := h
  refine ⟨by rw [List.length_cons, List.length_cons, a.len], r.sub, fun i d q => ?_, fun i b es q => ?_, fun i j b c es fs z q1 q2 _ _ => ?_, fun i x q => ?_⟩
  · cases i with
    | zero => cases q
    | succ i => exact a.pu i d q
  · cases i with
    | zero => cases q; exact ⟨rfl, p, xs, rfl, h1, h2, h3⟩
    | succ i => exact (noOwn_at n q).elim
  · cases i with
    | zero =>
      cases j with
      | zero => rfl
      | succ j => exact (noOwn_at n q2).elim
    | succ i => exact (noOwn_at n q1).elim
  · cases i with
    | zero => cases q
    | succ i => exact a.vx i x q
theorem Rel.calledF2 (r : Rel K F ς G σ H) {ds : List D} {v w : V} {res : R} {outs ss : List S} {vs : List V} (n : ss.all noOwnS = true) (h : RepR K F ς G σ H (.fresh ds) v) (t : RetOk K (.own true ds :: ss) G (v :: vs) H res outs w H' G') : Rel K F ς G' σ H' := by
  obtain ⟨a, xs, rfl, h1, h2, h3, h4, h5⟩ := h
  have away : ∀ b, b ≠ a → ∀ (i : Nat) c es, (S.own true ds :: ss)[i]? = some (.own c es) → (V.ref a :: vs)[i]? ≠ some (.ref b) := by
    intro b ne i c es q1 q2
    cases i with
    | zero => cases q2; exact ne rfl
    | succ i => exact noOwn_at n q1
  refine ⟨r.len, t.sub, r.g0.trans t.same, ?_, ?_, r.ap, r.par, ?_, ?_, fun i x e => by
    obtain ⟨u, e1, e2⟩ := r.vx i x e
    exact ⟨u, e1, xp_same t.same e2⟩, fun i kvs e => (r.od i kvs e).keep rfl t.same fun c o k1 nl k2 => ⟨t.fr c o k1 (away c fun z => by subst z; rw [h1] at k1; cases k1; exact nl _ rfl), by
      cases z : G' c with
      | none => rfl
      | some y =>
        rcases t.nw c (by rw [z]; simp) with q | q
        · exact absurd k2 q
        · rw [k1] at q; cases q⟩, r.oa⟩
  · intro i d e
    obtain ⟨u, e1, e2⟩ := r.pu i d e
    exact ⟨u, e1, dp_same t.same e2⟩
  · intro i b es e
    obtain ⟨c, ws, e1, e2, e3, e4, e5⟩ := r.ow i b es e
    have ne : c ≠ a := fun z => by subst z; exact h5 i b es e e1
    refine ⟨c, ws, e1, t.fr c _ e2 (away c ne), ?_, dpa_same t.same e4, e5⟩
    cases z : G' c with
    | none => rfl
    | some y =>
      rcases t.nw c (by rw [z]; simp) with q | q
      · exact absurd e3 q
      · rw [e2] at q; cases q
  · intro c o e na
    have ne : c ≠ a := fun z => by subst z; rw [h4] at e; cases e
    exact t.fr c o (r.fr c o e na) (away c ne)
  · intro c e
    rcases t.nw c e with q | q
    · exact r.nw c q
    · exact .inr (r.new q)
end
theorem _root_.L2.PA.exF {X : Cx} {es : List Expr} {t : Fx → TA} (h : ∀ F, PA X es (t F)) : PA X es (fun σ H Q => ∃ F, t F σ H Q) := ⟨fun p pins s σ H Q I ⟨F, hw⟩ => (h F).run p pins s σ H Q I hw⟩
section
variable {X : Cx} {x : Str} {ps : List Str} {m : Fsem} {k j : Nat} {p pos : Pos} {e : Expr} {es : List Expr} {fe : M R} {gb : M (List Ar)}
theorem Fo.callF2 (h : Fo X.prog X.w X.K X.mg X.base x ps m j) (hgd : X.A.guards = some []) (hr : Room k X.A) (hj : j ≤ k) (hg : Gl X x) (hn : (e :: es).length = ps.length) (he : PEd X e fe) (hb' : PAd X es gb) (hla : ∀ ς as ς', gb ς = some (as, ς') → as.length = es.length)
    (hdb : (x == ("__debug__" : Str)) = false := by decide) (hs : starEach (e :: es) X.env = (false, eval e X.env) :: starEach es X.env := by rfl) (hpl : (backTo pos (starEach es X.env)).any (·.1) = false := by rfl) :
    PEd X (.Call (.Name x p) (e :: es) [] pos) (callF2 m fe gb) := by
  obtain ⟨f, fd, G, hm, hk, hb⟩ := h
  intro F
  refine PE.mono (pe_callG G hgd (hr.mono hj) hg hm hk hb (pass0 (X := X)) (pa_cons (he F) (PA.exF hb') hs) hdb hs hpl) fun σ H Q hq => ?_
  obtain ⟨ς, G, rl, r, ς', e', kq⟩ := hq
  obtain ⟨r0, ς1, e1, q1⟩ := bd_some e'
  refine ⟨ς, G, rl, r0, ς1, e1, fun v H1 G1 rl1 s1 rep1 => ?_⟩
  cases r0 with
  | fresh ds =>
    obtain ⟨as, ς2, e2, q2⟩ := bd_some q1
    refine ⟨F.now ς1 G1 σ H1, ς1, G1, rl1.now, as, ς2, e2, fun vs H2 G2 rl2 s2 pr => ?_⟩
    have rb := rl1.back rl2
    have rep := rl1.keepR rl2 rep1
    replace q2 : (match argS as ς2 with
      | some ss => if (refsOf as).Nodup ∧ ss.all noOwnS = true then finF (m (.own true ds :: ss)) ς2 else none
      | none => none) = some (r, ς') := q2
    split at q2
    · rename_i ss hss
      split at q2
      · rename_i hc
        unfold finF at q2
        split at q2
        · cases q2
        · rename_i r' outs hne q3
          cases q2
          refine ⟨.own true ds :: ss, G2, by rw [List.length_cons, argS_len hss, hla _ _ _ e2]; exact hn, argsF2 rb rep (rb.args hss pr hc.1) hc.2, r, outs, q3, fun u H' G' t => kq u H' G' (rb.calledF2 hc.2 rep t) ((s1.trans s2).trans t.same) ?_⟩
          cases r with
          | pure d => exact t.rep
          | vx x => exact t.rep
          | ref i => exact t.rep.elim
          | fresh es =>
            obtain ⟨a, xs, rfl, h1, h2, h3, h4⟩ := t.rep
            refine ⟨a, xs, rfl, h1, h2, h3, rb.new h4, fun i b es' z1 z2 => ?_⟩
            obtain ⟨a', _, f1, f2, _⟩ := rb.ow i b es' z1
            rw [z2] at f1; cases f1
            rw [h4] at f2; cases f2
        · cases q2
      · cases q2
    · cases q2
  | _ => cases q1
end
namespace Sm
theorem callF2 {ς : En} {m : Fsem} {fe : M R} {gb : M (List Ar)} {Q : R → En → Prop} (h : wp fe ς fun r ς1 => ∃ ds, r = .fresh ds ∧ wp gb ς1 fun as ς2 => ∃ ss, argS as ς2 = some ss ∧ (refsOf as).Nodup ∧ ss.all noOwnS = true ∧ wpf m (.own true ds :: ss) fun r outs => (∀ i, r ≠ .ref i) ∧ Q r ς2) : wp (Lw.callF2 m fe gb) ς Q := by
  refine bd (mono h fun r ς1 h => ?_)
  obtain ⟨ds, rfl, h⟩ := h
  refine bd (mono h fun as ς2 h => ?_)
  obtain ⟨ss, e, nd, no, r, outs, e2, hr, q⟩ := h
  refine ⟨r, ς2, ?_, q⟩
  simp only [e]
  rw [if_pos ⟨nd, no⟩, e2]
  cases r with
  | ref i => exact absurd rfl (hr i)
  | pure d => rfl
  | vx x => rfl
  | fresh ds => rfl
instance stp_callF2 {ς : En} {m : Fsem} {fe : M R} {gb : M (List Ar)} {Q : R → En → Prop} : Stp (wp (Lw.callF2 m fe gb) ς Q) (wp fe ς fun r ς1 => ∃ ds, r = .fresh ds ∧ wp gb ς1 fun as ς2 => ∃ ss, argS as ς2 = some ss ∧ (refsOf as).Nodup ∧ ss.all noOwnS = true ∧ wpf m (.own true ds :: ss) fun r outs => (∀ i, r ≠ .ref i) ∧ Q r ς2) := ⟨Sm.callF2⟩
end Sm
end Lw
namespace Lw
open PySem PySem.Spec PyProof.Rows L2
/-! ### what a dict holds behind a store -/
theorem kq1_eq {a b : D} (h : kq1 a b = true) : a = b := by
  unfold kq1 at h
  split at h
  · rw [of_decide_eq_true h]
  · rw [of_decide_eq_true h]
  · cases h
theorem kqs_eq : ∀ {as bs : List D}, kqs as bs = true → as = bs
  | [], [], _ => rfl
  | a :: as, b :: bs, h => by
    replace h : (kq1 a b && kqs as bs) = true := h
    rw [Bool.and_eq_true] at h
    rw [kq1_eq h.1, kqs_eq h.2]
  | [], _ :: _, h => by cases h
  | _ :: _, [], h => by cases h
theorem kq_eq {a b : D} (h : kq a b = true) : a = b := by
  unfold kq at h
  split at h
  · rw [kqs_eq h]
  · exact kq1_eq h
def keyB (k : D) : Bool := kq k k
theorem getKv_put {kvs : KVs} {k v : D} (hk : keyB k = true) : getKv (putKv kvs k v) k = some v := by
  unfold putKv getKv
  split
  · rename_i h
    induction kvs with
    | nil => cases h
    | cons p kvs ih =>
      rw [List.map_cons, List.find?_cons]
      by_cases q : kq p.1 k = true
      · rw [if_pos q, show kq ((p.1, v) : D × D).1 k = true from q]; rfl
      · rw [if_neg q, eq_false_of_ne_true q]
        exact ih (by rw [List.any_cons, eq_false_of_ne_true q, Bool.false_or] at h; exact h)
  · rename_i h
    rw [List.find?_append]
    have : kvs.find? (fun p => kq p.1 k) = none := by
      rw [List.find?_eq_none]
      intro p hp q
      exact h (List.any_eq_true.2 ⟨p, hp, q⟩)
    rw [this, List.find?_cons, show kq ((k, v) : D × D).1 k = true from hk]
    rfl
theorem getKv_put_ne {kvs : KVs} {k k' v : D} (hn : k ≠ k') : getKv (putKv kvs k v) k' = getKv kvs k' := by
  unfold putKv getKv
  split
  · rename_i h
    clear h
    induction kvs with
    | nil => rfl
    | cons p kvs ih =>
      rw [List.map_cons, List.find?_cons, List.find?_cons]
      by_cases q : kq p.1 k = true
      · rw [if_pos q]
        have q2 : kq p.1 k' = false := by
          rw [Bool.eq_false_iff]
          exact fun z => hn ((kq_eq q).symm.trans (kq_eq z))
        rw [show kq ((p.1, v) : D × D).1 k' = false from q2]
        exact ih
      · rw [if_neg q]
        cases z : kq p.1 k' with
        | true => rfl
        | false => exact ih
  · rw [List.find?_append, List.find?_cons]
    have q2 : kq k k' = false := by
      rw [Bool.eq_false_iff]
      exact fun z => hn (kq_eq z)
    rw [show kq ((k, v) : D × D).1 k' = false from q2]
    cases kvs.find? (fun p => kq p.1 k') <;> rfl
theorem putKv_len (kvs : KVs) (k v : D) : (putKv kvs k v).length ≤ kvs.length + 1 := by
  unfold putKv
  split
  · rw [List.length_map]; omega
  · rw [List.length_append]; exact Nat.le_refl _
/-- tuples for keys -/
def KdT (kvs : KVs) : Prop := ∃ ks, kvs = (.bool true, .none) :: ks
theorem KdT.ok {kvs : KVs} (h : KdT kvs) (ds : List D) : kdOk kvs (.tuple ds) = true := by
  obtain ⟨ks, rfl⟩ := h
  rfl
theorem KdT.put {kvs : KVs} (h : KdT kvs) (ds : List D) (v : D) : KdT (putKv kvs (.tuple ds) v) := by
  obtain ⟨ks, rfl⟩ := h
  rw [putKv_mark _ _ _ (.inr ⟨ds, rfl⟩)]
  exact ⟨_, rfl⟩
namespace Sm
theorem vrX {ς : En} {i : Nat} {x : XD} {Q : R → En → Prop} (e : ς[i]? = some (some (.vx x))) (h : Q (.ref i) ς) : wp (vr i) ς Q := ⟨_, ς, by unfold vr; rw [e], h⟩
theorem oD {ς : En} {i : Nat} {kvs : KVs} {Q : Out → Prop} (e : ς[i]? = some (some (.vx (.odc kvs)))) (h : Q (.rt (.vx (.dct kvs)) (ς.set i (some (.vx (.dct kvs)))))) : outR Q (.ref i) ς := .inr (.inr (.inl ⟨kvs, e, h⟩))
instance stp_oX {ς : En} {x : XD} {Q : Out → Prop} : Stp (outR Q (.vx x) ς) (Q (.rt (.vx x) ς)) := ⟨fun h => h⟩
end Sm
end Lw
namespace Lw
open PySem PySem.Spec PyProof.Rows L2
local macro_rules | `(tactic| walk_at "lw e") => `(tactic| (repeat (first | (with_reducible refine Stp.go ?_) | (with_reducible apply Exists.intro) | ((with_reducible refine And.intro ?_ ?_); · (first | (with_reducible exact Evl.ev) | ((fail_if_success (with_reducible refine Gd.keep ?_)); rfl) | ((with_reducible apply mul_r); decide) | ((with_reducible apply mul_l); decide) | ((with_reducible apply div_i); decide) | ((with_reducible apply in_R); decide) | (exact Nat.le_of_ble_eq_true rfl) | (simp [refsOf]; done) | (exact ⟨rfl, rfl, by decide⟩) | (exact ⟨rfl, rfl, rfl⟩))) | ((with_reducible apply Sm.vrP); (focus rfl)) | ((with_reducible apply Sm.vrO); (focus rfl)) | (with_reducible refine iteTT ?_) | (with_reducible refine iteT ?_) | (with_reducible refine iteF ?_) | ((with_reducible refine iteB1 ?_ ?_); (focus rfl)) | ((with_reducible refine iteB0 ?_ ?_); (focus rfl)))))
local macro_rules | `(tactic| walk_at "lw n") => `(tactic| (try dsimp only [ent, List.map, Nat.reduceAdd, Nat.reduceSub, List.length_cons, List.length_nil, List.replicate_succ, List.replicate_zero, List.cons_append, List.nil_append, putBack, setOwn, List.getElem?_cons_zero, List.getElem?_cons_succ, List.set_cons_zero, List.set_cons_succ, Sm.nf]))
local macro_rules | `(tactic| walk_at "lw v") => `(tactic| (try simp only [pb1, pb2, pb3, pb4]))
theorem pw_6 : gPowA (.int 10) (.int 6) = some (.pure (.int 1000000)) := rfl
theorem pw_7 : gPowA (.int 10) (.int 7) = some (.pure (.int 10000000)) := rfl
theorem pw_15 : gPowA (.int 10) (.int 15) = some (.pure (.int 1000000000000000)) := rfl
theorem pw_18 : gPowA (.int 10) (.int 18) = some (.pure (.int 1000000000000000000)) := rfl
theorem pw_19 : gPowA (.int 10) (.int 19) = some (.pure (.int 10000000000000000000)) := rfl
theorem pw_30 : gPowA (.int 10) (.int 30) = some (.pure (.int 1000000000000000000000000000000)) := rfl
theorem pw_40 : gPowA (.int 10) (.int 40) = some (.pure (.int 10000000000000000000000000000000000000000)) := rfl
instance : Evl (gPowA (.int 10) (.int 6)) (.pure (.int 1000000)) := ⟨pw_6⟩
instance : Evl (gPowA (.int 10) (.int 7)) (.pure (.int 10000000)) := ⟨pw_7⟩
instance : Evl (gPowA (.int 10) (.int 15)) (.pure (.int 1000000000000000)) := ⟨pw_15⟩
instance : Evl (gPowA (.int 10) (.int 18)) (.pure (.int 1000000000000000000)) := ⟨pw_18⟩
instance : Evl (gPowA (.int 10) (.int 19)) (.pure (.int 10000000000000000000)) := ⟨pw_19⟩
instance : Evl (gPowA (.int 10) (.int 30)) (.pure (.int 1000000000000000000000000000000)) := ⟨pw_30⟩
instance : Evl (gPowA (.int 10) (.int 40)) (.pure (.int 10000000000000000000000000000000000000000)) := ⟨pw_40⟩
theorem iteDT {p A B : Prop} [Decidable p] (hp : p) (h : A) : if decide p = true then A else B := by rw [if_pos (decide_eq_true hp)]; exact h
theorem iteDF {p A B : Prop} [Decidable p] (hp : ¬ p) (h : B) : if decide p = true then A else B := by rw [if_neg (by rw [decide_eq_false hp]; decide)]; exact h
theorem dm_int {i j : Int} (h : 0 < j ∧ j < 2 ^ 200) : gDm (.int i) (.int j) = some (.pure (.tuple [.int (i / j), .int (i % j)])) := if_pos h
theorem mul_i {i j : Int} (h : cMul i j = true) : gMulA (.int i) (.int j) = some (.pure (.int (i * j))) := by
  unfold gMulA orG gI; simp only [h, if_true]
theorem cMul_r {i j : Int} (h : -18446744073709551616 < j ∧ j < 18446744073709551616) : cMul i j = true := by
  unfold cMul
  rw [Bool.or_eq_true]
  exact .inr (by rw [Bool.and_eq_true]; exact ⟨decide_eq_true h.1, decide_eq_true h.2⟩)
theorem cMul_l {i j : Int} (h : -18446744073709551616 < i ∧ i < 18446744073709551616) : cMul i j = true := by
  unfold cMul
  rw [Bool.or_eq_true]
  exact .inl (by rw [Bool.and_eq_true]; exact ⟨decide_eq_true h.1, decide_eq_true h.2⟩)
theorem mul_r {i j : Int} (h : -18446744073709551616 < j ∧ j < 18446744073709551616) : gMulA (.int i) (.int j) = some (.pure (.int (i * j))) := mul_i (cMul_r h)
theorem mul_l {i j : Int} (h : -18446744073709551616 < i ∧ i < 18446744073709551616) : gMulA (.int i) (.int j) = some (.pure (.int (i * j))) := mul_i (cMul_l h)
theorem mod_i {i j : Int} (h : 0 < j) : gModA (.int i) (.int j) = some (.pure (.int (i % j))) := if_pos (decide_eq_true h)
theorem div_i {i j : Int} (h : 0 < j ∧ j < 2 ^ 200) : gDivA (.int i) (.int j) = some (.pure (.int (i / j))) := if_pos (by unfold cDiv; rw [Bool.and_eq_true]; exact ⟨decide_eq_true h.1, decide_eq_true h.2⟩)
local macro_rules | `(tactic| walk_at "lw e") => `(tactic| (repeat (first | (with_reducible refine Stp.go ?_) | (with_reducible apply Exists.intro) | ((with_reducible refine And.intro ?_ ?_); · (first | (with_reducible exact Evl.ev) | ((fail_if_success (with_reducible refine Gd.keep ?_)); rfl) | ((with_reducible apply mul_r); decide) | ((with_reducible apply mul_l); decide) | ((with_reducible apply div_i); decide) | ((with_reducible apply in_R); decide) | (exact Nat.le_of_ble_eq_true rfl) | (simp [refsOf]; done) | (exact ⟨rfl, rfl, by decide⟩) | (exact ⟨rfl, rfl, rfl⟩))) | ((with_reducible apply Sm.vrP); (focus rfl)) | ((with_reducible apply Sm.vrO); (focus rfl)) | (with_reducible refine iteTT ?_) | (with_reducible refine iteT ?_) | (with_reducible refine iteF ?_) | ((with_reducible refine iteB1 ?_ ?_); (focus rfl)) | ((with_reducible refine iteB0 ?_ ?_); (focus rfl)))))
local macro_rules | `(tactic| walk_at "lw n") => `(tactic| (try dsimp only [ent, List.map, Nat.reduceAdd, Nat.reduceSub, List.length_cons, List.length_nil, List.replicate_succ, List.replicate_zero, List.cons_append, List.nil_append, putBack, setOwn, List.getElem?_cons_zero, List.getElem?_cons_succ, List.set_cons_zero, List.set_cons_succ, Sm.nf]))
local macro_rules | `(tactic| walk_at "lw v") => `(tactic| (try simp only [pb1, pb2, pb3, pb4]))
/-- what is drawn from -/
def Box (c : Nat) (ds : List D) : Prop := ∃ x y z : Int, ds = [.int x, .int y, .int z] ∧ 0 ≤ x ∧ 0 ≤ y ∧ y < 2147483647 ∧ 0 ≤ z ∧ z + c ≤ 1000000
theorem Box.less {c c' : Nat} {ds : List D} (h : Box c ds) (k : c' ≤ c) : Box c' ds := by
  obtain ⟨x, y, z, e, h1, h2, h3, h4, h5⟩ := h
  exact ⟨x, y, z, e, h1, h2, h3, h4, by omega⟩
def TakeQ (c : Nat) (k : Int) (r : R) (outs : List S) : Prop := ∃ v ds', r = .pure (.int v) ∧ 0 ≤ v ∧ v < k ∧ Box c ds' ∧ outs = [.own true ds', .pure (.int k)]
theorem take_one {c : Nat} {ds : List D} {k : Int} (hb : Box (c + 1) ds) (h1 : 1 ≤ k) (h2 : k ≤ 10000000) (ms : Fsem) : wpf (runFn (g_l_take ms) 6) [.own true ds, .pure (.int k)] (TakeQ c k) := by
  obtain ⟨x, y, z, rfl, hx, hy, hy2, hz, hz2⟩ := hb
  refine Sm.run ?_
  unfold g_l_take
  walk_at "lw e"
  by_cases hx0 : 0 < x
  · refine iteDT hx0 ?_
    walk_at "lw e"
    refine ⟨dm_int ⟨by omega, by omega⟩, ?_⟩
    walk_at "lw e"
    refine ⟨x % k, [.int (x / k), .int y, .int z], rfl, Int.emod_nonneg _ (by omega), Int.emod_lt_of_pos _ (by omega), ⟨_, _, _, rfl, Int.ediv_nonneg hx (by omega), hy, hy2, hz, by omega⟩, rfl⟩
  · refine iteDF hx0 ?_
    walk_at "lw e"
    refine iteDF (by omega) ?_
    walk_at "lw e"
    have hz1 : (z + 1) * (z + 1) ≤ 1000001 * 1000001 := Int.mul_le_mul (by omega) (by omega) (by omega) (by omega)
    have hz0 : 0 ≤ (z + 1) * (z + 1) := Int.mul_nonneg (by omega) (by omega)
    refine ⟨mul_r (j := z + 1) ⟨by omega, by omega⟩, ?_⟩
    walk_at "lw e"
    refine ⟨mul_l (i := y + 39373 * (z + 1)) ⟨by omega, by omega⟩, ?_⟩
    walk_at "lw e"
    refine ⟨mul_l ⟨by omega, by omega⟩, ?_⟩
    walk_at "lw e"
    refine ⟨mul_l ⟨by omega, by omega⟩, ?_⟩
    walk_at "lw e"
    refine ⟨mod_i (by omega), ?_⟩
    walk_at "lw e"
    refine ⟨_, [.int x, .int y, .int (z + 1)], rfl, Int.emod_nonneg _ (by omega), Int.emod_lt_of_pos _ (by omega), ⟨_, _, _, rfl, hx, hy, hy2, by omega, by omega⟩, rfl⟩
theorem nref {d : D} : ∀ i, R.pure d ≠ .ref i := fun i z => by cases z
theorem nfr {ds : List D} : ∀ i, R.fresh ds ≠ .ref i := fun i z => by cases z
theorem pow7_pos (n : Nat) : (1 : Int) ≤ 10000000 ^ n := by
  induction n with
  | zero => decide
  | succ n ih => rw [Int.pow_succ]; omega
theorem take_ok (n : Nat) : ∀ (c : Nat) (ds : List D) (k : Int), Box (c + 2 ^ (n + 1)) ds → 1 ≤ k → k ≤ 10000000 ^ (n + 1) → k < 1000000000000000000000000000000 → wpf (m_l_take (n + 1)) [.own true ds, .pure (.int k)] (TakeQ c k) := by
  induction n with
  | zero =>
    intro c ds k hb h1 h2 _
    exact take_one (hb.less (by omega)) h1 (by omega) _
  | succ n ih =>
    intro c ds k hb h1 h2 h3
    by_cases hk : k ≤ 10000000
    · exact take_one (hb.less (by have : 0 < 2 ^ (n + 1 + 1) := Nat.two_pow_pos _; omega)) h1 hk _
    · obtain ⟨x, y, z, rfl, hx, hy, hy2, hz, hz2⟩ := hb
      have hq : 0 < (2 : Nat) ^ n := Nat.two_pow_pos n
      have hp : (2 : Nat) ^ (n + 1 + 1) = 2 ^ (n + 1) + 2 ^ (n + 1) := by rw [Nat.pow_succ]; omega
      have hk2 : (k - 1) / 10000000 + 1 ≤ 10000000 ^ (n + 1) := by
        have e : (10000000 : Int) ^ (n + 1 + 1) = 10000000 ^ (n + 1) * 10000000 := Int.pow_succ _ _
        rw [e] at h2
        omega
      have h7 : (10000000 : Int) ≤ 10000000 ^ (n + 1) := by
        have e : (10000000 : Int) ^ (n + 1) = 10000000 ^ n * 10000000 := Int.pow_succ _ _
        have : (1 : Int) ≤ 10000000 ^ n := pow7_pos n
        omega
      show wpf (runFn (g_l_take (m_l_take (n + 1))) 6) _ _
      refine Sm.run ?_
      unfold g_l_take
      walk_at "lw e"
      by_cases hx0 : 0 < x
      · refine iteDT hx0 ?_
        walk_at "lw e"
        refine ⟨dm_int ⟨by omega, by omega⟩, ?_⟩
        walk_at "lw e"
        exact ⟨x % k, [.int (x / k), .int y, .int z], rfl, Int.emod_nonneg _ (by omega), Int.emod_lt_of_pos _ (by omega), ⟨_, _, _, rfl, Int.ediv_nonneg hx (by omega), hy, hy2, hz, by omega⟩, rfl⟩
      · refine iteDF hx0 ?_
        walk_at "lw e"
        refine iteDT (by omega) ?_
        walk_at "lw e"
        refine Sm.fmono (ih (c + 2 ^ (n + 1)) _ 10000000 ⟨x, y, z, rfl, hx, hy, hy2, hz, by omega⟩ (by decide) h7 (by decide)) fun r o h => ?_
        obtain ⟨v1, ds1, rfl, a1, a2, hb1, rfl⟩ := h
        refine ⟨nref, ?_⟩
        walk_at "lw e"
        refine Sm.fmono (ih c _ ((k - 1) / 10000000 + 1) hb1 (by omega) hk2 (by omega)) fun r o h => ?_
        obtain ⟨v2, ds2, rfl, b1, b2, hb2, rfl⟩ := h
        refine ⟨nref, ?_⟩
        walk_at "lw e"
        refine ⟨mod_i (by omega), ?_⟩
        walk_at "lw e"
        exact ⟨_, ds2, rfl, Int.emod_nonneg _ (by omega), Int.emod_lt_of_pos _ (by omega), hb2, rfl⟩
theorem take4 {c : Nat} {ds : List D} {k : Int} (hb : Box (c + 16) ds) (h1 : 1 ≤ k) (h2 : k ≤ 10000000000000000000000000000) : wpf (m_l_take 4) [.own true ds, .pure (.int k)] (TakeQ c k) := take_ok 3 c ds k hb h1 h2 (by omega)
end Lw
namespace Lw
open PySem PySem.Spec PyProof.Rows L2
local macro_rules | `(tactic| walk_at "lw e") => `(tactic| (repeat (first | (with_reducible refine Stp.go ?_) | (with_reducible apply Exists.intro) | ((with_reducible refine And.intro ?_ ?_); · (first | (with_reducible exact Evl.ev) | ((fail_if_success (with_reducible refine Gd.keep ?_)); rfl) | ((with_reducible apply mul_r); decide) | ((with_reducible apply mul_l); decide) | ((with_reducible apply div_i); decide) | ((with_reducible apply in_R); decide) | (exact Nat.le_of_ble_eq_true rfl) | (simp [refsOf]; done) | (exact ⟨rfl, rfl, by decide⟩) | (exact ⟨rfl, rfl, rfl⟩))) | ((with_reducible apply Sm.vrP); (focus rfl)) | ((with_reducible apply Sm.vrO); (focus rfl)) | (with_reducible refine iteTT ?_) | (with_reducible refine iteT ?_) | (with_reducible refine iteF ?_) | ((with_reducible refine iteB1 ?_ ?_); (focus rfl)) | ((with_reducible refine iteB0 ?_ ?_); (focus rfl)))))
local macro_rules | `(tactic| walk_at "lw n") => `(tactic| (try dsimp only [ent, List.map, Nat.reduceAdd, Nat.reduceSub, List.length_cons, List.length_nil, List.replicate_succ, List.replicate_zero, List.cons_append, List.nil_append, putBack, setOwn, List.getElem?_cons_zero, List.getElem?_cons_succ, List.set_cons_zero, List.set_cons_succ, Sm.nf]))
local macro_rules | `(tactic| walk_at "lw v") => `(tactic| (try simp only [pb1, pb2, pb3, pb4]))
abbrev ilist (ns : List Int) : D := .list (ns.map PyData.int)
def cutI (ns : List Int) (lo hi : Option Int) : List Int := (ns.drop (HT.sIx ns.length 0 lo)).take (HT.sIx ns.length ns.length hi - HT.sIx ns.length 0 lo)
theorem cutD_ints (ns : List Int) (lo hi : Option Int) : cutD (ns.map PyData.int) lo hi = (cutI ns lo hi).map PyData.int := by
  unfold cutD cutI
  rw [List.length_map, List.map_take, List.map_drop]
theorem atI_ints {ns : List Int} {i : Int} (h0 : 0 ≤ i) (h1 : i < ns.length) : gIx (ilist ns) (.int i) = some (.pure (.int (ns.getD i.toNat 0))) := by
  have hl : i.toNat < ns.length := by omega
  have : atI (ns.map PyData.int) i = some (.int (ns.getD i.toNat 0)) := by
    unfold atI ixN
    rw [List.length_map]
    simp only [h0, if_true]
    rw [if_pos (by omega)]
    simp [hl]
  show (atI (ns.map PyData.int) i).map R.pure = _
  rw [this]; rfl
def BoxQ (r : R) (_ : List S) : Prop := ∃ ds, r = .fresh ds ∧ Box 1000000 ds
def IntQ (ς0 : En) (r : R) (ς1 : En) : Prop := ∃ i : Int, r = .pure (.int i) ∧ ς1 = ς0
def IntsQ (n : Nat) (r : R) (_ : List S) : Prop := ∃ cs : List Int, r = .fresh (cs.map PyData.int) ∧ cs.length ≤ n
theorem box_ok {ns : List Int} {k : Nat} (hk : k ≤ 100) : wpf m_l_box [.pure (ilist ns), .pure (.int k)] BoxQ := by
  refine Sm.run ?_
  unfold g_l_box
  refine Sm.sq (Sm.asg (Sm.mono (Q := IntQ (ent 3 [.pure (ilist ns), .pure (.int k)])) ?_ ?_))
  · walk_at "lw e"
    rw [List.length_map]
    by_cases h : (k : Int) < ns.length
    · refine iteDT h ?_
      walk_at "lw e"
      exact ⟨atI_ints (by omega) h, _, rfl, rfl⟩
    · refine iteDF h ?_
      walk_at "lw e"
      exact ⟨_, rfl, rfl⟩
  · rintro r ς1 ⟨cell, rfl, rfl⟩
    walk_at "lw e"
    refine ⟨mul_r (by split <;> omega), ?_⟩
    walk_at "lw e"
    refine ⟨_, rfl, _, _, _, rfl, ?_, Int.emod_nonneg _ (by decide), Int.emod_lt_of_pos _ (by decide), by decide, by decide⟩
    have h1 : 0 ≤ (if cell < 0 then -cell else cell) := by split <;> omega
    exact Int.mul_nonneg h1 (by split <;> omega)
theorem enum_ints {ns : List Int} : ∀ {i j : Nat} {d : D}, (enumD i (ns.map PyData.int))[j]? = some d → ∃ n, ns[j]? = some n ∧ d = .tuple [.int ((i + j : Nat) : Int), .int n] := by
  intro i j d h
  rw [enumD_get, List.getElem?_map] at h
  cases q : ns[j]? with
  | none => rw [q] at h; cases h
  | some n => rw [q] at h; cases h; exact ⟨n, rfl, rfl⟩
theorem set_ints (ns : List Int) (i : Nat) (n : Int) : (ns.map PyData.int).set i (.int n) = (ns.set i n).map PyData.int := by rw [List.map_set]
/-- a slot that may be written -/
def Fr : Option S → Prop
  | some (.own true _) => False
  | some (.vx _) => False
  | _ => True
theorem tgN_o {i : Nat} {x : D} {ς : En} {o : Option S} (h : ς[i]? = some o) (f : Fr o) : tgN i x ς = some (ς.set i (some (.pure x))) := by
  unfold tgN free
  rw [h]
  rcases o with _ | _ | ⟨_ | _, _⟩ | _
  · rfl
  · rfl
  · rfl
  · exact f.elim
  · exact f.elim
theorem tgsC_o {i : Nat} {x : D} {xs : List D} {u : Tgs} {ς : En} {o : Option S} (h : ς[i]? = some o) (f : Fr o) : tgsC (tgN i) u (x :: xs) ς = u xs (ς.set i (some (.pure x))) := by
  unfold tgsC
  simp only [tgN_o h f]
theorem tgT2_o {i j : Nat} {x y : D} {ς : En} {a b : Option S} (h1 : ς[i]? = some a) (f1 : Fr a) (h2 : (ς.set i (some (.pure x)))[j]? = some b) (f2 : Fr b) : tgT 2 (tgsC (tgN i) (tgsC (tgN j) tgsN)) (.tuple [x, y]) ς = some ((ς.set i (some (.pure x))).set j (some (.pure y))) := by
  show tgsC (tgN i) (tgsC (tgN j) tgsN) [x, y] ς = _
  rw [tgsC_o h1 f1, tgsC_o h2 f2]
  rfl
theorem Sm.asgS {ς : En} {Q : Out → Prop} {f fo fi : M R} (h : wp f ς fun r ς1 => ∃ d ς2, toD r ς1 = some (d, ς2) ∧ wp fo ς2 fun r ς3 => ∃ i, r = .ref i ∧ wp fi ς3 fun r2 ς4 => ∃ j n b ds, rdD r2 ς4 = some (.int j) ∧ ς4[i]? = some (some (.own b ds)) ∧ ixN ds.length j = some n ∧ Q (.nx (ς4.set i (some (.own b (ds.set n d)))))) : wps (Lw.asg f (tgS fo fi)) ς Q := by
  refine Sm.asg (Sm.mono h fun r ς1 h => ?_)
  obtain ⟨d, ς2, e, r2, ς3, e2, i, rfl, r3, ς4, e3, j, n, b, ds, e4, e5, e6, q⟩ := h
  refine ⟨d, ς2, _, e, ?_, q⟩
  have hp : Lw.ptS fi ς3 = some (some j, ς4) := by
    obtain ⟨a, ς', ee, qq⟩ : wp (Lw.ptS fi) ς3 (fun a ς' => a = some j ∧ ς' = ς4) := Sm.ptS ⟨r3, ς4, e3, j, e4, rfl, rfl⟩
    obtain ⟨rfl, rfl⟩ := qq
    exact ee
  unfold tgS
  rw [e2]
  simp only [hp, e5, e6]
namespace Sm
section
variable {ς : En}
instance stp_asgS {ς : En} {Q : Out → Prop} {f fo fi : M R} : Stp (wps (Lw.asg f (tgS fo fi)) ς Q) (wp f ς fun r ς1 => ∃ d ς2, toD r ς1 = some (d, ς2) ∧ wp fo ς2 fun r ς3 => ∃ i, r = .ref i ∧ wp fi ς3 fun r2 ς4 => ∃ j n b ds, rdD r2 ς4 = some (.int j) ∧ ς4[i]? = some (some (.own b ds)) ∧ ixN ds.length j = some n ∧ Q (.nx (ς4.set i (some (.own b (ds.set n d)))))) := ⟨Sm.asgS⟩
end
end Sm
theorem ix_in {n : Nat} {i : Int} (h0 : 0 ≤ i) (h1 : i < n) : ixN n i = some i.toNat := by
  unfold ixN
  rw [if_pos h0, if_pos (by omega)]
local macro_rules | `(tactic| walk_at "lw e") => `(tactic| (repeat (first | (with_reducible refine Stp.go ?_) | (with_reducible apply Exists.intro) | ((with_reducible refine And.intro ?_ ?_); · (first | (with_reducible exact Evl.ev) | ((fail_if_success (with_reducible refine Gd.keep ?_)); rfl) | ((with_reducible apply mul_r); decide) | ((with_reducible apply mul_l); decide) | ((with_reducible apply div_i); decide) | ((with_reducible apply in_R); decide) | (exact Nat.le_of_ble_eq_true rfl) | (simp [refsOf]; done) | (exact ⟨rfl, rfl, by decide⟩) | (exact ⟨rfl, rfl, rfl⟩))) | ((with_reducible apply Sm.vrP); (focus rfl)) | ((with_reducible apply Sm.vrO); (focus rfl)) | (with_reducible refine iteTT ?_) | (with_reducible refine iteT ?_) | (with_reducible refine iteF ?_) | ((with_reducible refine iteB1 ?_ ?_); (focus rfl)) | ((with_reducible refine iteB0 ?_ ?_); (focus rfl)))))
local macro_rules | `(tactic| walk_at "lw n") => `(tactic| (try dsimp only [ent, List.map, Nat.reduceAdd, Nat.reduceSub, List.length_cons, List.length_nil, List.replicate_succ, List.replicate_zero, List.cons_append, List.nil_append, putBack, setOwn, List.getElem?_cons_zero, List.getElem?_cons_succ, List.set_cons_zero, List.set_cons_succ, Sm.nf]))
local macro_rules | `(tactic| walk_at "lw v") => `(tactic| (try simp only [pb1, pb2, pb3, pb4]))
theorem cut_lt {ns : List Int} {s : Nat} (h : 0 < (cutI ns (some (s : Int)) (some 63)).length) (hl : ns.length ≤ 63) : (cutI ns none (some (s : Int))).length = s := by
  unfold cutI at h ⊢
  simp only [List.length_take, List.length_drop] at h ⊢
  have e : ∀ d, HT.sIx ns.length d (some (s : Int)) = min s ns.length := by
    intro d
    unfold HT.sIx
    simp only
    split <;> omega
  rw [e] at h ⊢
  have e0 : HT.sIx ns.length 0 none = 0 := rfl
  rw [e0] at *
  omega
theorem folded_ok {ns : List Int} {s : Nat} (hl : ns.length ≤ 63) (h1 : 1 ≤ s) (h2 : s ≤ 60) : wpf m_l_folded [.pure (ilist ns), .pure (.int s)] (IntsQ s) := by
  refine Sm.run ?_
  unfold g_l_folded
  walk_at "lw e"
  rw [cutD_ints, cutD_ints]
  refine Sm.loopInv (fun _ ς => ∃ cs : List Int, ∃ a b, ς = [some (.pure (ilist ns)), some (.pure (.int s)), some (.own false (cs.map PyData.int)), a, b] ∧ cs.length = (cutI ns none (some (s : Int))).length ∧ Fr a ∧ Fr b) ⟨_, _, _, rfl, rfl, trivial, trivial⟩ ?_ ?_
  · rintro i d ς hd ⟨cs, a, b, rfl, hc, fa, fb⟩
    obtain ⟨n, hn, rfl⟩ := enum_ints hd
    refine ⟨_, tgT2_o rfl fa rfl fb, ?_⟩
    have hi : i < (cutI ns (some (s : Int)) (some 63)).length := by
      obtain ⟨h, -⟩ := List.getElem?_eq_some_iff.1 hn
      exact h
    have hlt : 0 < (cutI ns (some (s : Int)) (some 63)).length := by omega
    have hi63 : i < 63 := by
      unfold cutI at hi
      rw [List.length_take, List.length_drop] at hi
      omega
    have hcs : cs.length = s := hc.trans (cut_lt hlt hl)
    have hm : ((0 + i : Nat) : Int) % (s : Int) < s := Int.emod_lt_of_pos _ (by omega)
    have hm0 : 0 ≤ ((0 + i : Nat) : Int) % (s : Int) := Int.emod_nonneg _ (by omega)
    walk_at "lw e"
    refine ⟨mod_i (by omega), ?_⟩
    walk_at "lw e"
    refine ⟨atI_ints hm0 (by omega), ?_⟩
    walk_at "lw e"
    refine ⟨mul_r (by omega), ?_⟩
    walk_at "lw e"
    refine ⟨mod_i (by omega), ?_⟩
    walk_at "lw e"
    refine ⟨ix_in hm0 (by rw [List.length_map]; omega), ?_⟩
    dsimp only
    rw [set_ints]
    exact ⟨_, _, _, rfl, by rw [List.length_set]; exact hc, trivial, trivial⟩
  · rintro ς ⟨cs, a, b, rfl, hc, fa, fb⟩
    walk_at "lw e"
    refine Sm.oM rfl (Sm.fF ⟨cs, rfl, ?_⟩)
    rw [hc]
    unfold cutI
    rw [List.length_take, HT.sIx_nat]
    omega
end Lw
namespace Lw
open PySem PySem.Spec PyProof.Rows L2
local macro_rules | `(tactic| walk_at "lw e") => `(tactic| (repeat (first | (with_reducible refine Stp.go ?_) | (with_reducible apply Exists.intro) | ((with_reducible refine And.intro ?_ ?_); · (first | (with_reducible exact Evl.ev) | ((fail_if_success (with_reducible refine Gd.keep ?_)); rfl) | ((with_reducible apply mul_r); decide) | ((with_reducible apply mul_l); decide) | ((with_reducible apply div_i); decide) | ((with_reducible apply in_R); decide) | (exact Nat.le_of_ble_eq_true rfl) | (simp [refsOf]; done) | (exact ⟨rfl, rfl, by decide⟩) | (exact ⟨rfl, rfl, rfl⟩))) | ((with_reducible apply Sm.vrP); (focus rfl)) | ((with_reducible apply Sm.vrO); (focus rfl)) | (with_reducible refine iteTT ?_) | (with_reducible refine iteT ?_) | (with_reducible refine iteF ?_) | ((with_reducible refine iteB1 ?_ ?_); (focus rfl)) | ((with_reducible refine iteB0 ?_ ?_); (focus rfl)))))
local macro_rules | `(tactic| walk_at "lw n") => `(tactic| (try dsimp only [ent, List.map, Nat.reduceAdd, Nat.reduceSub, List.length_cons, List.length_nil, List.replicate_succ, List.replicate_zero, List.cons_append, List.nil_append, putBack, setOwn, List.getElem?_cons_zero, List.getElem?_cons_succ, List.set_cons_zero, List.set_cons_succ, Sm.nf]))
local macro_rules | `(tactic| walk_at "lw v") => `(tactic| (try simp only [pb1, pb2, pb3, pb4]))
/-- a leaf whose numbers are at most B -/
def lfb (B : Nat) : D → Bool
  | .none => true
  | .bool _ => true
  | .int i => decide (i.natAbs ≤ B)
  | .str x => PyData.strOk x
  | _ => false
/-- a thing at most e deep, its numbers at most B -/
def fnb (B : Nat) : Nat → D → Bool
  | 0, d => lfb B d
  | e + 1, d => match d with
    | .list xs => xs.all (fnb B e)
    | .tuple xs => xs.all (fnb B e)
    | d => lfb B d
theorem lfb_fnb {B e : Nat} {d : D} (h : lfb B d = true) : fnb B e d = true := by
  cases e with
  | zero => exact h
  | succ e => cases d <;> first | exact h | cases h
theorem lay_all {xs : List D} (h : ∀ x ∈ xs, PyData.canLay0 x = true) : PyData.canLayAll0 xs = true := by
  induction xs with
  | nil => rfl
  | cons x xs ih => rw [PyData.canLayAll0, h x (by simp), ih fun y hy => h y (by simp [hy])]; rfl
theorem depth_all {e : Nat} {xs : List D} (h : ∀ x ∈ xs, PyData.depth x ≤ e) : PyData.depthAll xs ≤ e := by
  induction xs with
  | nil => exact Nat.zero_le _
  | cons x xs ih => rw [PyData.depthAll]; exact Nat.max_le.2 ⟨h x (by simp), ih fun y hy => h y (by simp [hy])⟩
theorem fn_mono {B B' : Nat} (hB : B ≤ B') : ∀ (e e' : Nat) (d : D), e ≤ e' → fnb B e d = true → fnb B' e' d = true := by
  have hl : ∀ d, lfb B d = true → lfb B' d = true := fun d h => by
    cases d <;> first | exact h | (exact decide_eq_true (Nat.le_trans (of_decide_eq_true h) hB))
  intro e
  induction e with
  | zero => intro e' d _ h; exact lfb_fnb (hl d h)
  | succ e ih =>
    intro e' d he h
    obtain ⟨f, rfl⟩ : ∃ f, e' = f + 1 := ⟨e' - 1, by omega⟩
    cases d with
    | list xs =>
      have h' : xs.all (fnb B e) = true := h
      show xs.all (fnb B' f) = true
      rw [List.all_eq_true] at h' ⊢
      exact fun x m => ih f x (by omega) (h' x m)
    | tuple xs =>
      have h' : xs.all (fnb B e) = true := h
      show xs.all (fnb B' f) = true
      rw [List.all_eq_true] at h' ⊢
      exact fun x m => ih f x (by omega) (h' x m)
    | none => rfl
    | bool b => rfl
    | int i => exact hl (.int i) h
    | str i => exact hl (.str i) h
    | dict kv => cases h
theorem eqv_str {a b : Str} : PyData.eqv (.str a) (.str b) = decide (a = b) := by
  show (a == b) = decide (a = b)
  by_cases h : a = b <;> simp [h]
theorem ne_ok {x y : D} (hx : SeqAt.shaped x = true) (hy : SeqAt.shaped y = true) : gNe x y = some (.pure (.bool (!PyData.eqv x y))) := by
  have h0 : gNe0 x y = some (.pure (.bool (!PyData.eqv x y))) := if_pos ⟨hx, hy⟩
  cases x with
  | str a =>
    cases y with
    | str b => rw [eqv_str]; rfl
    | _ => exact h0
  | _ => exact h0
end Lw
namespace Lw
open PySem PySem.Spec PyProof.Rows L2
local macro_rules | `(tactic| walk_at "lw e") => `(tactic| (repeat (first | (with_reducible refine Stp.go ?_) | (with_reducible apply Exists.intro) | ((with_reducible refine And.intro ?_ ?_); · (first | (with_reducible exact Evl.ev) | ((fail_if_success (with_reducible refine Gd.keep ?_)); rfl) | ((with_reducible apply mul_r); decide) | ((with_reducible apply mul_l); decide) | ((with_reducible apply div_i); decide) | ((with_reducible apply in_R); decide) | (exact Nat.le_of_ble_eq_true rfl) | (simp [refsOf]; done) | (exact ⟨rfl, rfl, by decide⟩) | (exact ⟨rfl, rfl, rfl⟩))) | ((with_reducible apply Sm.vrP); (focus rfl)) | ((with_reducible apply Sm.vrO); (focus rfl)) | (with_reducible refine iteTT ?_) | (with_reducible refine iteT ?_) | (with_reducible refine iteF ?_) | ((with_reducible refine iteB1 ?_ ?_); (focus rfl)) | ((with_reducible refine iteB0 ?_ ?_); (focus rfl)))))
local macro_rules | `(tactic| walk_at "lw n") => `(tactic| (try dsimp only [ent, List.map, Nat.reduceAdd, Nat.reduceSub, List.length_cons, List.length_nil, List.replicate_succ, List.replicate_zero, List.cons_append, List.nil_append, putBack, setOwn, List.getElem?_cons_zero, List.getElem?_cons_succ, List.set_cons_zero, List.set_cons_succ, Sm.nf]))
local macro_rules | `(tactic| walk_at "lw v") => `(tactic| (try simp only [pb1, pb2, pb3, pb4]))
theorem at_list {xs : List D} {i : Int} (h0 : 0 ≤ i) (h1 : i < xs.length) : gIx (.list xs) (.int i) = some (.pure (xs.getD i.toNat .none)) := by
  have hl : i.toNat < xs.length := by omega
  have : atI xs i = some (xs.getD i.toNat .none) := by
    unfold atI ixN
    simp only [h0, if_true]
    rw [if_pos (by omega)]
    simp [hl]
  show (atI xs i).map R.pure = _
  rw [this]; rfl
theorem at_tup {xs : List D} {i : Int} (h0 : 0 ≤ i) (h1 : i < xs.length) : gIx (.tuple xs) (.int i) = some (.pure (xs.getD i.toNat .none)) := at_list h0 h1
theorem rng_at {n i : Nat} {d : D} (h : (rngD 0 n)[i]? = some d) : i < n ∧ d = .int i := by
  have hl : i < n := by
    obtain ⟨h1, -⟩ := List.getElem?_eq_some_iff.1 h
    rw [rngD_len] at h1
    exact h1
  rw [rngD_get n 0 i hl] at h
  cases h
  exact ⟨hl, by rw [Int.zero_add]⟩
theorem in_R {i : Int} (h : -1000 ≤ i ∧ i ≤ 100000) : inR i = true := by
  unfold inR
  rw [Bool.and_eq_true]
  exact ⟨decide_eq_true (by omega), decide_eq_true (by omega)⟩
theorem app_ok {ds : List D} {d : D} (h : ds.length < 10000) : hApp ds [d] = some (.none, ds ++ [d]) := by
  unfold hApp
  have hs : sizeLine = 16777216 := rfl
  exact if_pos (by omega)
theorem fr_free {ς : En} {i : Nat} {o : Option S} (h : ς[i]? = some o) (f : Fr o) : free ς i = true := by
  unfold free
  rw [h]
  rcases o with _ | _ | ⟨_ | _, _⟩ | _
  · rfl
  · rfl
  · rfl
  · exact f.elim
  · exact f.elim
end Lw
namespace Lw
open PySem PySem.Spec PyProof.Rows L2
local macro_rules | `(tactic| walk_at "lw e") => `(tactic| (repeat (first | (with_reducible refine Stp.go ?_) | (with_reducible apply Exists.intro) | ((with_reducible refine And.intro ?_ ?_); · (first | (with_reducible exact Evl.ev) | ((fail_if_success (with_reducible refine Gd.keep ?_)); rfl) | ((with_reducible apply mul_r); decide) | ((with_reducible apply mul_l); decide) | ((with_reducible apply div_i); decide) | ((with_reducible apply in_R); decide) | (exact Nat.le_of_ble_eq_true rfl) | (simp [refsOf]; done) | (exact ⟨rfl, rfl, by decide⟩) | (exact ⟨rfl, rfl, rfl⟩))) | ((with_reducible apply Sm.vrP); (focus rfl)) | ((with_reducible apply Sm.vrO); (focus rfl)) | (with_reducible refine iteTT ?_) | (with_reducible refine iteT ?_) | (with_reducible refine iteF ?_) | ((with_reducible refine iteB1 ?_ ?_); (focus rfl)) | ((with_reducible refine iteB0 ?_ ?_); (focus rfl)))))
local macro_rules | `(tactic| walk_at "lw n") => `(tactic| (try dsimp only [ent, List.map, Nat.reduceAdd, Nat.reduceSub, List.length_cons, List.length_nil, List.replicate_succ, List.replicate_zero, List.cons_append, List.nil_append, putBack, setOwn, List.getElem?_cons_zero, List.getElem?_cons_succ, List.set_cons_zero, List.set_cons_succ, Sm.nf]))
local macro_rules | `(tactic| walk_at "lw v") => `(tactic| (try simp only [pb1, pb2, pb3, pb4]))
def ValQ (P : D → Prop) (r : R) (_ : List S) : Prop := ∃ d, r = .pure d ∧ P d
abbrev TrueQ : R → List S → Prop := ValQ fun d => d = .bool true
theorem iteB1 {b : Bool} {A B : Prop} (e : b = true) (h : A) : if b = true then A else B := by rw [if_pos e]; exact h
theorem iteB0 {b : Bool} {A B : Prop} (e : b = false) (h : B) : if b = true then A else B := by rw [if_neg (by rw [e]; decide)]; exact h
def lcQ (vs : List Nat) (tg : Tg) (tt : M Bool) (fe : M R) (ds : List D) (ς : En) (Q : List D → En → Prop) : Prop := ∃ acc ς2, lcLoop vs tg tt fe ds [] ς = some (acc, ς2) ∧ Q acc ς2
theorem Sm.lcE2 {ς : En} {fi : M (List D)} {vs : List Nat} {tg : Tg} {tt : M Bool} {fe : M R} {Q : R → En → Prop}
    (h : wp fi ς fun ds ς1 => freeAll ς1 vs = true ∧ lcQ vs tg tt fe ds (wipeE ς1 vs) fun acc ς2 => Q (.fresh acc) ς2) : wp (Lw.lcE fi vs tg tt fe) ς Q := Sm.lcE h
namespace Sm
section
variable {ς : En}
instance stp_lcE2 {ς : En} {fi : M (List D)} {vs : List Nat} {tg : Tg} {tt : M Bool} {fe : M R} {Q : R → En → Prop} : Stp (wp (Lw.lcE fi vs tg tt fe) ς Q) (wp fi ς fun ds ς1 => freeAll ς1 vs = true ∧ lcQ vs tg tt fe ds (wipeE ς1 vs) fun acc ς2 => Q (.fresh acc) ς2) := ⟨Sm.lcE2⟩
end
end Sm
theorem Sm.lcPure {ς : En} {vs : List Nat} {tg : Tg} {fe : M R} {ds : List D} {Q : List D → En → Prop} (f : D → D) (hlen : ds.length ≤ sizeLine)
    (hs : ∀ d ∈ ds, ∃ ς1, tg d ς = some ς1 ∧ wp fe ς1 fun r ς2 => ∃ ς3, toD r ς2 = some (f d, ς3) ∧ freeAll ς3 vs = true ∧ wipeE ς3 vs = ς)
    (hd : Q (ds.map f) ς) : lcQ vs tg (Lw.ret true) fe ds ς Q := by
  refine Sm.lcInv (fun i acc ς' => acc = (ds.take i).map f ∧ ς' = ς) ⟨by simp, rfl⟩ hlen ?_ ?_
  · rintro i d acc ς' hi _ ⟨rfl, rfl⟩
    obtain ⟨ς1, e1, h⟩ := hs d (List.mem_of_getElem? hi)
    refine ⟨ς1, e1, Sm.mono h fun r ς2 h => ?_⟩
    obtain ⟨ς3, e3, hf, hw⟩ := h
    refine ⟨_, ς3, e3, hf, ?_, hw⟩
    rw [List.take_add_one, hi]
    simp
  · rintro acc ς' _ ⟨rfl, rfl⟩
    rw [List.take_length]
    exact hd
local macro_rules | `(tactic| walk_at "lw e") => `(tactic| (repeat (first | (with_reducible refine Stp.go ?_) | (with_reducible apply Exists.intro) | ((with_reducible refine And.intro ?_ ?_); · (first | (with_reducible exact Evl.ev) | ((fail_if_success (with_reducible refine Gd.keep ?_)); rfl) | ((with_reducible apply mul_r); decide) | ((with_reducible apply mul_l); decide) | ((with_reducible apply div_i); decide) | ((with_reducible apply in_R); decide) | (exact Nat.le_of_ble_eq_true rfl) | (simp [refsOf]; done) | (exact ⟨rfl, rfl, by decide⟩) | (exact ⟨rfl, rfl, rfl⟩))) | ((with_reducible apply Sm.vrP); (focus rfl)) | ((with_reducible apply Sm.vrO); (focus rfl)) | (with_reducible refine iteTT ?_) | (with_reducible refine iteT ?_) | (with_reducible refine iteF ?_) | ((with_reducible refine iteB1 ?_ ?_); (focus rfl)) | ((with_reducible refine iteB0 ?_ ?_); (focus rfl)))))
local macro_rules | `(tactic| walk_at "lw n") => `(tactic| (try dsimp only [ent, List.map, Nat.reduceAdd, Nat.reduceSub, List.length_cons, List.length_nil, List.replicate_succ, List.replicate_zero, List.cons_append, List.nil_append, putBack, setOwn, List.getElem?_cons_zero, List.getElem?_cons_succ, List.set_cons_zero, List.set_cons_succ, Sm.nf]))
local macro_rules | `(tactic| walk_at "lw v") => `(tactic| (try simp only [pb1, pb2, pb3, pb4]))
theorem bools_mk : ∀ bs : List Bool, bools (bs.map PyData.bool) = some bs
  | [] => rfl
  | b :: bs => by rw [List.map_cons, bools, bools_mk bs]
theorem all_mk {xs : List D} {p : D → Bool} : gAll (.list (xs.map fun x => .bool (p x))) = some (.pure (.bool (xs.all p))) := by
  unfold gAll
  have : xs.map (fun x => PyData.bool (p x)) = (xs.map p).map PyData.bool := by rw [List.map_map]; rfl
  rw [this]
  simp only [bools_mk]
  rw [List.all_map]; rfl
theorem eqv_int {a b : Int} : PyData.eqv (.int a) (.int b) = decide (a = b) := by
  show (a == b) = decide (a = b)
  by_cases h : a = b <;> simp [h]
theorem zip_self {xs : List D} {d : D} (h : d ∈ zipD xs xs) : ∃ a, a ∈ xs ∧ d = .tuple [a, a] := by
  obtain ⟨i, hi⟩ := List.mem_iff_getElem?.1 h
  obtain ⟨a, b, h1, h2, rfl⟩ := zipD_get xs xs i d hi
  rw [h1] at h2
  cases h2
  exact ⟨a, List.mem_of_getElem? h1, rfl⟩
theorem pb0 {o : List S} {ς : En} : putBack [] o ς = ς := by cases o <;> rfl
theorem pbv {a : D} {as : List Ar} {o : List S} {ς : En} (h : ∀ o, putBack as o ς = ς) : putBack (.val a :: as) o ς = ς := by
  cases o with
  | nil => rfl
  | cons s o => exact h o
theorem pb1 {a : D} {o : List S} {ς : En} : putBack [.val a] o ς = ς := pbv fun _ => pb0
theorem pb2 {a b : D} {o : List S} {ς : En} : putBack [.val a, .val b] o ς = ς := pbv fun _ => pb1
theorem pb3 {a b c : D} {o : List S} {ς : En} : putBack [.val a, .val b, .val c] o ς = ς := pbv fun _ => pb2
theorem pb4 {a b c d : D} {o : List S} {ς : En} : putBack [.val a, .val b, .val c, .val d] o ς = ς := pbv fun _ => pb3
local macro_rules | `(tactic| walk_at "lw e") => `(tactic| (repeat (first | (with_reducible refine Stp.go ?_) | (with_reducible apply Exists.intro) | ((with_reducible refine And.intro ?_ ?_); · (first | (with_reducible exact Evl.ev) | ((fail_if_success (with_reducible refine Gd.keep ?_)); rfl) | ((with_reducible apply mul_r); decide) | ((with_reducible apply mul_l); decide) | ((with_reducible apply div_i); decide) | ((with_reducible apply in_R); decide) | (exact Nat.le_of_ble_eq_true rfl) | (simp [refsOf]; done) | (exact ⟨rfl, rfl, by decide⟩) | (exact ⟨rfl, rfl, rfl⟩))) | ((with_reducible apply Sm.vrP); (focus rfl)) | ((with_reducible apply Sm.vrO); (focus rfl)) | (with_reducible refine iteTT ?_) | (with_reducible refine iteT ?_) | (with_reducible refine iteF ?_) | ((with_reducible refine iteB1 ?_ ?_); (focus rfl)) | ((with_reducible refine iteB0 ?_ ?_); (focus rfl)))))
local macro_rules | `(tactic| walk_at "lw n") => `(tactic| (try dsimp only [ent, List.map, Nat.reduceAdd, Nat.reduceSub, List.length_cons, List.length_nil, List.replicate_succ, List.replicate_zero, List.cons_append, List.nil_append, putBack, setOwn, List.getElem?_cons_zero, List.getElem?_cons_succ, List.set_cons_zero, List.set_cons_succ, Sm.nf]))
local macro_rules | `(tactic| walk_at "lw v") => `(tactic| (try simp only [pb1, pb2, pb3, pb4]))
end Lw
namespace Lw
open PySem PySem.Spec PyProof.Rows L2
local macro_rules | `(tactic| walk_at "lw e") => `(tactic| (repeat (first | (with_reducible refine Stp.go ?_) | (with_reducible apply Exists.intro) | ((with_reducible refine And.intro ?_ ?_); · (first | (with_reducible exact Evl.ev) | ((fail_if_success (with_reducible refine Gd.keep ?_)); rfl) | ((with_reducible apply mul_r); decide) | ((with_reducible apply mul_l); decide) | ((with_reducible apply div_i); decide) | ((with_reducible apply in_R); decide) | (exact Nat.le_of_ble_eq_true rfl) | (simp [refsOf]; done) | (exact ⟨rfl, rfl, by decide⟩) | (exact ⟨rfl, rfl, rfl⟩))) | ((with_reducible apply Sm.vrP); (focus rfl)) | ((with_reducible apply Sm.vrO); (focus rfl)) | (with_reducible refine iteTT ?_) | (with_reducible refine iteT ?_) | (with_reducible refine iteF ?_) | ((with_reducible refine iteB1 ?_ ?_); (focus rfl)) | ((with_reducible refine iteB0 ?_ ?_); (focus rfl)))))
local macro_rules | `(tactic| walk_at "lw n") => `(tactic| (try dsimp only [ent, List.map, Nat.reduceAdd, Nat.reduceSub, List.length_cons, List.length_nil, List.replicate_succ, List.replicate_zero, List.cons_append, List.nil_append, putBack, setOwn, List.getElem?_cons_zero, List.getElem?_cons_succ, List.set_cons_zero, List.set_cons_succ, Sm.nf]))
local macro_rules | `(tactic| walk_at "lw v") => `(tactic| (try simp only [pb1, pb2, pb3, pb4]))
theorem strOk_str (s : String) : PyData.strOk (Str.ofString s) = true := by
  rw [PySem.Str.ofString_eq_toList]
  unfold PyData.strOk
  simp only [List.all_toArray, List.all_map, List.all_eq_true, Function.comp]
  intro c _
  exact decide_eq_true (by
    have := c.valid
    rcases this with h | h
    · exact Nat.lt_trans h (by decide)
    · exact h.2)
end Lw
namespace Lw
open PySem PySem.Spec PyProof.Rows L2
local macro_rules | `(tactic| walk_at "lw e") => `(tactic| (repeat (first | (with_reducible refine Stp.go ?_) | (with_reducible apply Exists.intro) | ((with_reducible refine And.intro ?_ ?_); · (first | (with_reducible exact Evl.ev) | ((fail_if_success (with_reducible refine Gd.keep ?_)); rfl) | ((with_reducible apply mul_r); decide) | ((with_reducible apply mul_l); decide) | ((with_reducible apply div_i); decide) | ((with_reducible apply in_R); decide) | (exact Nat.le_of_ble_eq_true rfl) | (simp [refsOf]; done) | (exact ⟨rfl, rfl, by decide⟩) | (exact ⟨rfl, rfl, rfl⟩))) | ((with_reducible apply Sm.vrP); (focus rfl)) | ((with_reducible apply Sm.vrO); (focus rfl)) | (with_reducible refine iteTT ?_) | (with_reducible refine iteT ?_) | (with_reducible refine iteF ?_) | ((with_reducible refine iteB1 ?_ ?_); (focus rfl)) | ((with_reducible refine iteB0 ?_ ?_); (focus rfl)))))
local macro_rules | `(tactic| walk_at "lw n") => `(tactic| (try dsimp only [ent, List.map, Nat.reduceAdd, Nat.reduceSub, List.length_cons, List.length_nil, List.replicate_succ, List.replicate_zero, List.cons_append, List.nil_append, putBack, setOwn, List.getElem?_cons_zero, List.getElem?_cons_succ, List.set_cons_zero, List.set_cons_succ, Sm.nf]))
local macro_rules | `(tactic| walk_at "lw v") => `(tactic| (try simp only [pb1, pb2, pb3, pb4]))
theorem tix0 {w : D} {r : List D} : gIx (.tuple (w :: r)) (.int 0) = some (.pure w) := at_tup (xs := w :: r) (by decide) (by rw [List.length_cons]; omega)
theorem tix1 {w y : D} {r : List D} : gIx (.tuple (w :: y :: r)) (.int 1) = some (.pure y) := at_tup (xs := w :: y :: r) (by decide) (by rw [List.length_cons, List.length_cons]; omega)
theorem tix2 {w y z : D} {r : List D} : gIx (.tuple (w :: y :: z :: r)) (.int 2) = some (.pure z) := at_tup (xs := w :: y :: z :: r) (by decide) (by rw [List.length_cons, List.length_cons, List.length_cons]; omega)
instance {w : D} {r : List D} : Evl (gIx (.tuple (w :: r)) (.int 0)) (.pure w) := ⟨tix0⟩
instance {w y : D} {r : List D} : Evl (gIx (.tuple (w :: y :: r)) (.int 1)) (.pure y) := ⟨tix1⟩
instance {w y z : D} {r : List D} : Evl (gIx (.tuple (w :: y :: z :: r)) (.int 2)) (.pure z) := ⟨tix2⟩
local macro_rules | `(tactic| walk_at "lw e") => `(tactic| (repeat (first | (with_reducible refine Stp.go ?_) | (with_reducible apply Exists.intro) | ((with_reducible refine And.intro ?_ ?_); · (first | (with_reducible exact Evl.ev) | ((fail_if_success (with_reducible refine Gd.keep ?_)); rfl) | ((with_reducible apply mul_r); decide) | ((with_reducible apply mul_l); decide) | ((with_reducible apply div_i); decide) | ((with_reducible apply in_R); decide) | (exact Nat.le_of_ble_eq_true rfl) | (simp [refsOf]; done) | (exact ⟨rfl, rfl, by decide⟩) | (exact ⟨rfl, rfl, rfl⟩))) | ((with_reducible apply Sm.vrP); (focus rfl)) | ((with_reducible apply Sm.vrO); (focus rfl)) | (with_reducible refine iteTT ?_) | (with_reducible refine iteT ?_) | (with_reducible refine iteF ?_) | ((with_reducible refine iteB1 ?_ ?_); (focus rfl)) | ((with_reducible refine iteB0 ?_ ?_); (focus rfl)))))
local macro_rules | `(tactic| walk_at "lw n") => `(tactic| (try dsimp only [ent, List.map, Nat.reduceAdd, Nat.reduceSub, List.length_cons, List.length_nil, List.replicate_succ, List.replicate_zero, List.cons_append, List.nil_append, putBack, setOwn, List.getElem?_cons_zero, List.getElem?_cons_succ, List.set_cons_zero, List.set_cons_succ, Sm.nf]))
local macro_rules | `(tactic| walk_at "lw v") => `(tactic| (try simp only [pb1, pb2, pb3, pb4]))
theorem shaped_ints (cs : List Int) : SeqAt.shaped (ilist cs) = true := by
  unfold SeqAt.shaped
  rw [Bool.and_eq_true]
  refine ⟨lay_all fun x h => ?_, decide_eq_true ?_⟩
  · obtain ⟨i, -, rfl⟩ := List.mem_map.1 h
    rfl
  · show PyData.depthAll _ + 1 ≤ 64
    have := depth_all (e := 0) (xs := cs.map PyData.int) fun x h => by
      obtain ⟨i, -, rfl⟩ := List.mem_map.1 h
      exact Nat.le_refl _
    omega
theorem eqv_nil (cs : List Int) : PyData.eqv (ilist cs) (.list []) = cs.isEmpty := by
  cases cs <;> rfl
def CellsQ (n : Nat) (r : R) (_ : List S) : Prop := ∃ cs : List Int, (r = .pure (ilist cs) ∨ r = .fresh (cs.map PyData.int)) ∧ cs.length ≤ n
theorem cells_ok {ns : List Int} {s : Nat} (hl : ns.length ≤ 63) (h1 : 1 ≤ s) (h2 : s ≤ 60) : wpf m_l_cells [.pure (ilist ns), .pure (.int s)] (CellsQ s) := by
  refine Sm.run ?_
  unfold g_l_cells
  walk_at "lw n"
  walk_at "lw e"
  refine Sm.fmono (folded_ok hl h1 h2) fun r o h => ?_
  obtain ⟨cs, rfl, hc⟩ := h
  refine ⟨nfr, ?_⟩
  walk_at "lw v"
  walk_at "lw e"
  refine ⟨ne_ok (shaped_ints cs) rfl, ?_⟩
  walk_at "lw e"
  by_cases h : cs.isEmpty = true
  · refine iteB0 (by rw [eqv_nil, h]; rfl) ?_
    walk_at "lw e"
    exact ⟨[0], .inr rfl, h1⟩
  · refine iteB1 (by rw [eqv_nil]; simpa using h) ?_
    walk_at "lw e"
    exact ⟨cs, .inl rfl, hc⟩
theorem wpf_law {m : Fsem} {ss : List S} (h : wpf m ss TrueQ) : ∃ outs, m ss = some (.pure (.bool true), outs) := by
  obtain ⟨r, o, e, d, rfl, rfl⟩ := h
  exact ⟨o, e⟩
end Lw
namespace Lw
open PySem PySem.Spec PyProof.Rows L2
local macro_rules | `(tactic| walk_at "lw e") => `(tactic| (repeat (first | (with_reducible refine Stp.go ?_) | (with_reducible apply Exists.intro) | ((with_reducible refine And.intro ?_ ?_); · (first | (with_reducible exact Evl.ev) | ((fail_if_success (with_reducible refine Gd.keep ?_)); rfl) | ((with_reducible apply mul_r); decide) | ((with_reducible apply mul_l); decide) | ((with_reducible apply div_i); decide) | ((with_reducible apply in_R); decide) | (exact Nat.le_of_ble_eq_true rfl) | (simp [refsOf]; done) | (exact ⟨rfl, rfl, by decide⟩) | (exact ⟨rfl, rfl, rfl⟩))) | ((with_reducible apply Sm.vrP); (focus rfl)) | ((with_reducible apply Sm.vrO); (focus rfl)) | (with_reducible refine iteTT ?_) | (with_reducible refine iteT ?_) | (with_reducible refine iteF ?_) | ((with_reducible refine iteB1 ?_ ?_); (focus rfl)) | ((with_reducible refine iteB0 ?_ ?_); (focus rfl)))))
local macro_rules | `(tactic| walk_at "lw n") => `(tactic| (try dsimp only [ent, List.map, Nat.reduceAdd, Nat.reduceSub, List.length_cons, List.length_nil, List.replicate_succ, List.replicate_zero, List.cons_append, List.nil_append, putBack, setOwn, List.getElem?_cons_zero, List.getElem?_cons_succ, List.set_cons_zero, List.set_cons_succ, Sm.nf]))
local macro_rules | `(tactic| walk_at "lw v") => `(tactic| (try simp only [pb1, pb2, pb3, pb4]))
theorem iteTT {A B : Prop} (h : A) : if True then A else B := by rw [if_pos trivial]; exact h
local macro_rules | `(tactic| walk_at "lw e") => `(tactic| (repeat (first | (with_reducible refine Stp.go ?_) | (with_reducible apply Exists.intro) | ((with_reducible refine And.intro ?_ ?_); · (first | (with_reducible exact Evl.ev) | ((fail_if_success (with_reducible refine Gd.keep ?_)); rfl) | ((with_reducible apply mul_r); decide) | ((with_reducible apply mul_l); decide) | ((with_reducible apply div_i); decide) | ((with_reducible apply in_R); decide) | (exact Nat.le_of_ble_eq_true rfl) | (simp [refsOf]; done) | (exact ⟨rfl, rfl, by decide⟩) | (exact ⟨rfl, rfl, rfl⟩))) | ((with_reducible apply Sm.vrP); (focus rfl)) | ((with_reducible apply Sm.vrO); (focus rfl)) | (with_reducible refine iteTT ?_) | (with_reducible refine iteT ?_) | (with_reducible refine iteF ?_) | ((with_reducible refine iteB1 ?_ ?_); (focus rfl)) | ((with_reducible refine iteB0 ?_ ?_); (focus rfl)))))
local macro_rules | `(tactic| walk_at "lw n") => `(tactic| (try dsimp only [ent, List.map, Nat.reduceAdd, Nat.reduceSub, List.length_cons, List.length_nil, List.replicate_succ, List.replicate_zero, List.cons_append, List.nil_append, putBack, setOwn, List.getElem?_cons_zero, List.getElem?_cons_succ, List.set_cons_zero, List.set_cons_succ, Sm.nf]))
local macro_rules | `(tactic| walk_at "lw v") => `(tactic| (try simp only [pb1, pb2, pb3, pb4]))
theorem w_intk {k : Nat} {i : Int} (h : i.natAbs < 2 ^ k) : (PyData.int i).weight ≤ k := by
  show (if i == 0 then 0 else i.natAbs.log2 + 1) ≤ k
  split
  · omega
  · rename_i h0
    have h0 : i.natAbs ≠ 0 := by
      intro z
      exact h0 (by simp [Int.natAbs_eq_zero.1 z])
    have := (Nat.log2_lt (k := k) h0).2 h
    omega
def DatQ (P : D → Prop) (r : R) (_ : List S) : Prop := ∃ d, (r = .pure d ∨ ∃ xs, r = .fresh xs ∧ d = .list xs) ∧ P d
theorem DatQ.ref {P : D → Prop} {r : R} {o : List S} (h : DatQ P r o) : ∀ i, r ≠ .ref i := by
  obtain ⟨d, rfl | ⟨xs, rfl, rfl⟩, -⟩ := h <;> (intro i z; cases z)
end Lw
namespace Lw
open PySem PySem.Spec PyProof.Rows L2
local macro_rules | `(tactic| walk_at "lw e") => `(tactic| (repeat (first | (with_reducible refine Stp.go ?_) | (with_reducible apply Exists.intro) | ((with_reducible refine And.intro ?_ ?_); · (first | (with_reducible exact Evl.ev) | ((fail_if_success (with_reducible refine Gd.keep ?_)); rfl) | ((with_reducible apply mul_r); decide) | ((with_reducible apply mul_l); decide) | ((with_reducible apply div_i); decide) | ((with_reducible apply in_R); decide) | (exact Nat.le_of_ble_eq_true rfl) | (simp [refsOf]; done) | (exact ⟨rfl, rfl, by decide⟩) | (exact ⟨rfl, rfl, rfl⟩) | ((with_reducible apply tgN_o); (focus rfl); (focus (first | assumption | trivial))))) | ((with_reducible apply Sm.vrP); (focus rfl)) | ((with_reducible apply Sm.vrO); (focus rfl)) | ((with_reducible apply Sm.augI); (focus rfl)) | ((with_reducible refine Sm.dicE ?_ ?_); (focus decide)) | (with_reducible refine iteTT ?_) | (with_reducible refine iteT ?_) | (with_reducible refine iteF ?_) | ((with_reducible refine iteB1 ?_ ?_); (focus rfl)) | ((with_reducible refine iteB0 ?_ ?_); (focus rfl)))))
local macro_rules | `(tactic| walk_at "lw n") => `(tactic| (try dsimp only [ent, List.map, Nat.reduceAdd, Nat.reduceSub, List.length_cons, List.length_nil, List.replicate_succ, List.replicate_zero, List.cons_append, List.nil_append, putBack, setOwn, List.getElem?_cons_zero, List.getElem?_cons_succ, List.set_cons_zero, List.set_cons_succ, Sm.nf]))
local macro_rules | `(tactic| walk_at "lw v") => `(tactic| (try simp only [pb1, pb2, pb3, pb4]))
end Lw
namespace Lw
open PySem PySem.Spec PyProof.Rows L2
local macro_rules | `(tactic| walk_at "lw e") => `(tactic| (repeat (first | (with_reducible refine Stp.go ?_) | (with_reducible apply Exists.intro) | ((with_reducible refine And.intro ?_ ?_); · (first | (with_reducible exact Evl.ev) | ((fail_if_success (with_reducible refine Gd.keep ?_)); rfl) | ((with_reducible apply mul_r); decide) | ((with_reducible apply mul_l); decide) | ((with_reducible apply div_i); decide) | ((with_reducible apply in_R); decide) | (exact Nat.le_of_ble_eq_true rfl) | (simp [refsOf]; done) | (exact ⟨rfl, rfl, by decide⟩) | (exact ⟨rfl, rfl, rfl⟩) | ((with_reducible apply tgN_o); (focus rfl); (focus (first | assumption | trivial))))) | ((with_reducible apply Sm.vrP); (focus rfl)) | ((with_reducible apply Sm.vrO); (focus rfl)) | ((with_reducible apply Sm.augI); (focus rfl)) | ((with_reducible refine Sm.dicE ?_ ?_); (focus decide)) | (with_reducible refine iteTT ?_) | (with_reducible refine iteT ?_) | (with_reducible refine iteF ?_) | ((with_reducible refine iteB1 ?_ ?_); (focus rfl)) | ((with_reducible refine iteB0 ?_ ?_); (focus rfl)))))
local macro_rules | `(tactic| walk_at "lw n") => `(tactic| (try dsimp only [ent, List.map, Nat.reduceAdd, Nat.reduceSub, List.length_cons, List.length_nil, List.replicate_succ, List.replicate_zero, List.cons_append, List.nil_append, putBack, setOwn, List.getElem?_cons_zero, List.getElem?_cons_succ, List.set_cons_zero, List.set_cons_succ, Sm.nf]))
local macro_rules | `(tactic| walk_at "lw v") => `(tactic| (try simp only [pb1, pb2, pb3, pb4]))
/-! ### tuples of numbers -/
def it (ns : List Int) : D := .tuple (ns.map PyData.int)
def il (ns : List Int) : D := .list (ns.map PyData.int)
/-- a list or tuple of these numbers -/
def Seq (t : D) (ns : List Int) : Prop := t = il ns ∨ t = it ns
theorem Seq.items {t : D} {ns : List Int} (h : Seq t ns) : items t = some (ns.map PyData.int) := by rcases h with rfl | rfl <;> rfl
theorem rev_any {t : D} {ds : List D} (h : items t = some ds) : ∃ r d, gRev t = some r ∧ (∀ ς, toD r ς = some (d, ς)) ∧ items d = some ds.reverse := by
  cases t with
  | list xs => cases h; exact ⟨_, .list ds.reverse, rfl, fun ς => rfl, rfl⟩
  | tuple xs => cases h; exact ⟨_, .tuple ds.reverse, rfl, fun ς => rfl, rfl⟩
  | _ => cases h
theorem cut_from (ds : List D) (i : Nat) : cutD ds (some (i : Int)) none = ds.drop i := by
  unfold cutD
  rw [show HT.sIx ds.length 0 (some (i : Int)) = min i ds.length from HT.sIx_nat _ _ i, show HT.sIx ds.length ds.length none = ds.length from rfl]
  by_cases hi : i ≤ ds.length
  · rw [Nat.min_eq_left hi, List.take_of_length_le (by rw [List.length_drop]; omega)]
  · rw [Nat.min_eq_right (by omega), List.drop_length, List.drop_eq_nil_of_le (by omega), List.take_nil]
theorem zip_ints : ∀ (xs ys : List Int), zipD (xs.map PyData.int) (ys.map PyData.int) = (List.zip xs ys).map fun p => PyData.tuple [.int p.1, .int p.2]
  | [], ys => by simp [zipD]
  | x :: xs, [] => by simp [zipD]
  | x :: xs, y :: ys => by rw [List.map_cons, List.map_cons, zipD, zip_ints xs ys, List.zip_cons_cons, List.map_cons]
theorem catT_ok {x y : List D} (h : x.length + y.length ≤ 1000000) : gAddA (.tuple x) (.tuple y) = some (.pure (.tuple (x ++ y))) := by
  have hs : sizeLine = 16777216 := rfl
  have e : gCatT (.tuple x) (.tuple y) = some (.pure (.tuple (x ++ y))) := if_pos (by omega)
  unfold gAddA orG
  simp only [gI0, gStr, gCatL, e]
/-! ### things that are fine -/
def Fine (B e w : Nat) (d : D) : Prop := fnb B e d = true ∧ d.weight ≤ w
theorem Fine.int {B e w : Nat} {i : Int} (h : i.natAbs ≤ B) (hw : B < 2 ^ w) : Fine B e w (.int i) := ⟨lfb_fnb (decide_eq_true h), w_intk (Nat.lt_of_le_of_lt h hw)⟩
theorem Fine.bool {B e : Nat} {b : Bool} : Fine B e 1 (.bool b) := ⟨lfb_fnb rfl, by cases b <;> decide⟩
theorem Fine.mono {B e w w' : Nat} {d : D} (h : Fine B e w d) (hw : w ≤ w') : Fine B e w' d := ⟨h.1, Nat.le_trans h.2 hw⟩
theorem w_all_le {k : Nat} {xs : List D} (h : ∀ x ∈ xs, x.weight ≤ k) : PyData.weightAll xs ≤ (k + 1) * xs.length := by
  induction xs with
  | nil => exact Nat.zero_le _
  | cons x xs ih =>
    have h1 := h x (by simp)
    have h2 := ih fun y hy => h y (by simp [hy])
    rw [PyData.weightAll, List.length_cons, Nat.mul_add]
    omega
theorem Fine.tup {B e w n : Nat} {xs : List D} (h : ∀ x ∈ xs, Fine B e w x) (hn : xs.length ≤ n) : Fine B (e + 1) ((w + 1) * n) (.tuple xs) :=
  ⟨List.all_eq_true.2 fun x m => (h x m).1, Nat.le_trans (w_all_le fun x m => (h x m).2) (Nat.mul_le_mul_left _ hn)⟩
theorem Fine.lst {B e w n : Nat} {xs : List D} (h : ∀ x ∈ xs, Fine B e w x) (hn : xs.length ≤ n) : Fine B (e + 1) ((w + 1) * n) (.list xs) :=
  ⟨List.all_eq_true.2 fun x m => (h x m).1, Nat.le_trans (w_all_le fun x m => (h x m).2) (Nat.mul_le_mul_left _ hn)⟩
theorem Fine.it {B e w n : Nat} {ns : List Int} (h : ∀ i ∈ ns, i.natAbs ≤ B) (hw : B < 2 ^ w) (hn : ns.length ≤ n) : Fine B (e + 1) ((w + 1) * n) (it ns) :=
  Fine.tup (fun x m => by obtain ⟨i, hi, rfl⟩ := List.mem_map.1 m; exact Fine.int (h i hi) hw) (by rw [List.length_map]; exact hn)
end Lw
namespace Lw
open PySem PySem.Spec PyProof.Rows L2
local macro_rules | `(tactic| walk_at "lw e") => `(tactic| (repeat (first | (with_reducible refine Stp.go ?_) | (with_reducible apply Exists.intro) | ((with_reducible refine And.intro ?_ ?_); · (first | (with_reducible exact Evl.ev) | ((fail_if_success (with_reducible refine Gd.keep ?_)); rfl) | ((with_reducible apply mul_r); decide) | ((with_reducible apply mul_l); decide) | ((with_reducible apply div_i); decide) | ((with_reducible apply in_R); decide) | (exact Nat.le_of_ble_eq_true rfl) | (simp [refsOf]; done) | (exact ⟨rfl, rfl, by decide⟩) | (exact ⟨rfl, rfl, rfl⟩) | ((with_reducible apply tgN_o); (focus rfl); (focus (first | assumption | trivial))))) | ((with_reducible apply Sm.vrP); (focus rfl)) | ((with_reducible apply Sm.vrO); (focus rfl)) | ((with_reducible apply Sm.augI); (focus rfl)) | ((with_reducible refine Sm.dicE ?_ ?_); (focus decide)) | (with_reducible refine iteTT ?_) | (with_reducible refine iteT ?_) | (with_reducible refine iteF ?_) | ((with_reducible refine iteB1 ?_ ?_); (focus rfl)) | ((with_reducible refine iteB0 ?_ ?_); (focus rfl)))))
local macro_rules | `(tactic| walk_at "lw n") => `(tactic| (try dsimp only [ent, List.map, Nat.reduceAdd, Nat.reduceSub, List.length_cons, List.length_nil, List.replicate_succ, List.replicate_zero, List.cons_append, List.nil_append, putBack, setOwn, List.getElem?_cons_zero, List.getElem?_cons_succ, List.set_cons_zero, List.set_cons_succ, Sm.nf]))
local macro_rules | `(tactic| walk_at "lw v") => `(tactic| (try simp only [pb1, pb2, pb3, pb4]))
/-! ### stairs, deeds, what they add -/
def pd (p : Int × Int × Int) : D := .tuple [.int p.1, .int p.2.1, .int p.2.2]
def Stair (st : D) (ps : List (Int × Int × Int)) : Prop := st = .tuple (ps.map pd) ∨ st = .list (ps.map pd)
theorem Stair.items {st : D} {ps : List (Int × Int × Int)} (h : Stair st ps) : items st = some (ps.map pd) := by rcases h with rfl | rfl <;> rfl
theorem Stair.len {st : D} {ps : List (Int × Int × Int)} (h : Stair st ps) : gLen st = some (.pure (.int ps.length)) := by
  rcases h with rfl | rfl
  · show some (R.pure (.int ((ps.map pd).length : Nat))) = _; rw [List.length_map]
  · show some (R.pure (.int ((ps.map pd).length : Nat))) = _; rw [List.length_map]
def pAt (ps : List (Int × Int × Int)) (i : Nat) : Int × Int × Int := ps.getD i (0, 0, 0)
theorem Stair.ix {st : D} {ps : List (Int × Int × Int)} (h : Stair st ps) {i : Int} (h0 : 0 ≤ i) (h1 : i < ps.length) : gIx st (.int i) = some (.pure (pd (pAt ps i.toNat))) := by
  have hlt : i.toNat < ps.length := by omega
  have key : (ps.map pd).getD i.toNat .none = pd (pAt ps i.toNat) := by
    unfold pAt
    rw [List.getD_eq_getElem?_getD, List.getElem?_map, List.getElem?_eq_getElem hlt, List.getD_eq_getElem?_getD, List.getElem?_eq_getElem hlt]
    rfl
  rcases h with rfl | rfl
  · rw [at_tup h0 (by rw [List.length_map]; exact h1), key]
  · rw [at_list h0 (by rw [List.length_map]; exact h1), key]
inductive Dd where
  | fill (l : Nat)
  | empty (l : Nat)
  | raise (l : Nat) (m : Int)
  | lower (l : Nat) (m : Int)
def Dd.at : Dd → Nat
  | .fill l => l
  | .empty l => l
  | .raise l _ => l
  | .lower l _ => l
def dd : Dd → D
  | .fill l => .tuple [.str "fill", .int l]
  | .empty l => .tuple [.str "empty", .int l]
  | .raise l m => .tuple [.str "raise", .int l, .int m]
  | .lower l m => .tuple [.str "lower", .int l, .int m]
def sz (ps : List (Int × Int × Int)) (l : Nat) : Int := (pAt ps (l - 1)).2.2
def chg (ps : List (Int × Int × Int)) : Dd → Int × Int
  | .fill l => (l, -sz ps l)
  | .empty l => ((l : Int) - 1, sz ps l)
  | .raise l m => (l, m)
  | .lower l m => (l, -m)
/-- the deed is of the stair -/
def Dd.On (n : Nat) (d : Dd) : Prop := 1 ≤ d.at ∧ d.at ≤ n
/-- what deeds add to pound j and all above it -/
def addTo (ps : List (Int × Int × Int)) (j : Int) (d : Dd) : Int := if (chg ps d).1 ≥ j then (chg ps d).2 else 0
def sumAt (ps : List (Int × Int × Int)) (ds : List Dd) (j : Int) : Int := (ds.map (addTo ps j)).sum
def sums (ps : List (Int × Int × Int)) (ds : List Dd) : List Int := (List.range ps.length).map fun (i : Nat) => sumAt ps ds (1 + (i : Int))
theorem sumAt_app (ps : List (Int × Int × Int)) (a b : List Dd) (j : Int) : sumAt ps (a ++ b) j = sumAt ps a j + sumAt ps b j := by
  unfold sumAt; rw [List.map_append, List.sum_append]
def pr (p : Int × Int) : D := .tuple [.int p.1, .int p.2]
def undd : D → Dd
  | .tuple [.str s, .int l] => if s = "fill" then .fill l.toNat else .empty l.toNat
  | .tuple [.str s, .int l, .int m] => if s = "raise" then .raise l.toNat m else .lower l.toNat m
  | _ => .fill 0
def Deeds (t : D) (ds : List Dd) : Prop := t = .list (ds.map dd) ∨ t = .tuple (ds.map dd)
theorem Deeds.items {t : D} {ds : List Dd} (h : Deeds t ds) : items t = some (ds.map dd) := by rcases h with rfl | rfl <;> rfl
end Lw
namespace Lw
open PySem PySem.Spec PyProof.Rows L2
local macro_rules | `(tactic| walk_at "lw e") => `(tactic| (repeat (first | (with_reducible refine Stp.go ?_) | (with_reducible apply Exists.intro) | ((with_reducible refine And.intro ?_ ?_); · (first | (with_reducible exact Evl.ev) | ((fail_if_success (with_reducible refine Gd.keep ?_)); rfl) | ((with_reducible apply mul_r); decide) | ((with_reducible apply mul_l); decide) | ((with_reducible apply div_i); decide) | ((with_reducible apply in_R); decide) | (exact Nat.le_of_ble_eq_true rfl) | (simp [refsOf]; done) | (exact ⟨rfl, rfl, by decide⟩) | (exact ⟨rfl, rfl, rfl⟩) | ((with_reducible apply tgN_o); (focus rfl); (focus (first | assumption | trivial))))) | ((with_reducible apply Sm.vrP); (focus rfl)) | ((with_reducible apply Sm.vrO); (focus rfl)) | ((with_reducible apply Sm.augI); (focus rfl)) | ((with_reducible refine Sm.dicE ?_ ?_); (focus decide)) | (with_reducible refine iteTT ?_) | (with_reducible refine iteT ?_) | (with_reducible refine iteF ?_) | ((with_reducible refine iteB1 ?_ ?_); (focus rfl)) | ((with_reducible refine iteB0 ?_ ?_); (focus rfl)))))
local macro_rules | `(tactic| walk_at "lw n") => `(tactic| (try dsimp only [ent, List.map, Nat.reduceAdd, Nat.reduceSub, List.length_cons, List.length_nil, List.replicate_succ, List.replicate_zero, List.cons_append, List.nil_append, putBack, setOwn, List.getElem?_cons_zero, List.getElem?_cons_succ, List.set_cons_zero, List.set_cons_succ, Sm.nf]))
local macro_rules | `(tactic| walk_at "lw v") => `(tactic| (try simp only [pb1, pb2, pb3, pb4]))
def addPre : Nat → Int → List Int → List Int
  | 0, _, xs => xs
  | _ + 1, _, [] => []
  | i + 1, m, x :: xs => (x + m) :: addPre i m xs
theorem addPre_get (m : Int) : ∀ (i : Nat) (xs : List Int) (a : Nat), (addPre i m xs)[a]? = if a < i then (xs[a]?).map (· + m) else xs[a]?
  | 0, xs, a => by simp [addPre]
  | i + 1, [], a => by simp [addPre]
  | i + 1, x :: xs, 0 => by simp [addPre]
  | i + 1, x :: xs, a + 1 => by
    rw [addPre, List.getElem?_cons_succ, List.getElem?_cons_succ, addPre_get m i xs a]
    by_cases h : a < i
    · rw [if_pos h, if_pos (by omega)]
    · rw [if_neg h, if_neg (by omega)]
theorem addPre_sums (ps : List (Int × Int × Int)) (ds : List Dd) (d : Dd) (c : Nat) (hc : (chg ps d).1 = c) : addPre c (chg ps d).2 (sums ps ds) = sums ps (ds ++ [d]) := by
  apply List.ext_getElem?
  intro a
  rw [addPre_get]
  unfold sums
  rw [List.getElem?_map, List.getElem?_map]
  by_cases h : a < ps.length
  · rw [List.getElem?_range h]
    simp only [Option.map_some]
    rw [sumAt_app]
    have : sumAt ps [d] (1 + (a : Int)) = if a < c then (chg ps d).2 else 0 := by
      unfold sumAt addTo
      rw [List.map_cons, List.map_nil, List.sum_cons, List.sum_nil, hc]
      by_cases q : a < c
      · rw [if_pos (by omega), if_pos q]; omega
      · rw [if_neg (by omega), if_neg q]; omega
    rw [this]
    by_cases q : a < c
    · rw [if_pos q, if_pos q]
    · rw [if_neg q, if_neg q]; simp
  · rw [List.getElem?_eq_none (by rw [List.length_range]; omega)]
    simp
end Lw
namespace Lw
open PySem PySem.Spec PyProof.Rows L2
local macro_rules | `(tactic| walk_at "lw e") => `(tactic| (repeat (first | (with_reducible refine Stp.go ?_) | (with_reducible apply Exists.intro) | ((with_reducible refine And.intro ?_ ?_); · (first | (with_reducible exact Evl.ev) | ((fail_if_success (with_reducible refine Gd.keep ?_)); rfl) | ((with_reducible apply mul_r); decide) | ((with_reducible apply mul_l); decide) | ((with_reducible apply div_i); decide) | ((with_reducible apply in_R); decide) | (exact Nat.le_of_ble_eq_true rfl) | (simp [refsOf]; done) | (exact ⟨rfl, rfl, by decide⟩) | (exact ⟨rfl, rfl, rfl⟩) | ((with_reducible apply tgN_o); (focus rfl); (focus (first | assumption | trivial))))) | ((with_reducible apply Sm.vrP); (focus rfl)) | ((with_reducible apply Sm.vrO); (focus rfl)) | ((with_reducible apply Sm.augI); (focus rfl)) | ((with_reducible refine Sm.dicE ?_ ?_); (focus decide)) | (with_reducible refine iteTT ?_) | (with_reducible refine iteT ?_) | (with_reducible refine iteF ?_) | ((with_reducible refine iteB1 ?_ ?_); (focus rfl)) | ((with_reducible refine iteB0 ?_ ?_); (focus rfl)))))
local macro_rules | `(tactic| walk_at "lw n") => `(tactic| (try dsimp only [ent, List.map, Nat.reduceAdd, Nat.reduceSub, List.length_cons, List.length_nil, List.replicate_succ, List.replicate_zero, List.cons_append, List.nil_append, putBack, setOwn, List.getElem?_cons_zero, List.getElem?_cons_succ, List.set_cons_zero, List.set_cons_succ, Sm.nf]))
local macro_rules | `(tactic| walk_at "lw v") => `(tactic| (try simp only [pb1, pb2, pb3, pb4]))
/-! ### stones -/
theorem foldl_min_le : ∀ (xs : List Int) (a : Int), xs.foldl min a ≤ a ∧ ∀ x ∈ xs, xs.foldl min a ≤ x
  | [], a => ⟨by simp, fun x h => by cases h⟩
  | y :: ys, a => by
    obtain ⟨h1, h2⟩ := foldl_min_le ys (min a y)
    rw [List.foldl_cons]
    refine ⟨by omega, fun x hx => ?_⟩
    rcases List.mem_cons.1 hx with rfl | hx
    · omega
    · exact h2 x hx
theorem foldl_min_mem : ∀ (xs : List Int) (a : Int), xs.foldl min a = a ∨ xs.foldl min a ∈ xs
  | [], a => .inl rfl
  | y :: ys, a => by
    rw [List.foldl_cons]
    rcases foldl_min_mem ys (min a y) with h | h
    · rw [h]
      by_cases q : a ≤ y
      · rw [Int.min_eq_left q]; exact .inl rfl
      · rw [Int.min_eq_right (by omega)]; exact .inr (by simp)
    · exact .inr (by simp [h])
/-! ### a lap by draws -/
end Lw
-- F2
namespace Lw
open PySem PySem.Spec PyProof.Rows L2
local macro_rules | `(tactic| walk_at "lw e") => `(tactic| (repeat (first | (with_reducible refine Stp.go ?_) | (with_reducible apply Exists.intro) | ((with_reducible refine And.intro ?_ ?_); · (first | (with_reducible exact Evl.ev) | ((fail_if_success (with_reducible refine Gd.keep ?_)); rfl) | ((with_reducible apply mul_r); decide) | ((with_reducible apply mul_l); decide) | ((with_reducible apply div_i); decide) | ((with_reducible apply in_R); decide) | (exact Nat.le_of_ble_eq_true rfl) | (simp [refsOf]; done) | (exact ⟨rfl, rfl, by decide⟩) | (exact ⟨rfl, rfl, rfl⟩) | ((with_reducible apply tgN_o); (focus rfl); (focus (first | assumption | trivial))))) | ((with_reducible apply Sm.vrP); (focus rfl)) | ((with_reducible apply Sm.vrO); (focus rfl)) | ((with_reducible apply Sm.augI); (focus rfl)) | ((with_reducible refine Sm.dicE ?_ ?_); (focus decide)) | ((with_reducible apply Sm.augS); (focus rfl)) | (with_reducible refine iteTT ?_) | (with_reducible refine iteT ?_) | (with_reducible refine iteF ?_) | ((with_reducible refine iteB1 ?_ ?_); (focus rfl)) | ((with_reducible refine iteB0 ?_ ?_); (focus rfl)))))
local macro_rules | `(tactic| walk_at "lw n") => `(tactic| (try dsimp only [ent, List.map, Nat.reduceAdd, Nat.reduceSub, List.length_cons, List.length_nil, List.replicate_succ, List.replicate_zero, List.cons_append, List.nil_append, putBack, setOwn, List.getElem?_cons_zero, List.getElem?_cons_succ, List.set_cons_zero, List.set_cons_succ, Sm.nf]))
local macro_rules | `(tactic| walk_at "lw v") => `(tactic| (try simp only [pb1, pb2, pb3, pb4]))
/-! ### stairs, deeds as tuples or lists, at any depth -/
theorem ix_items {t : D} {ds : List D} (h : items t = some ds) {i : Int} (h0 : 0 ≤ i) (h1 : i < ds.length) : gIx t (.int i) = some (.pure (ds.getD i.toNat .none)) := by
  cases t with
  | list es => cases h; exact at_list h0 h1
  | tuple es => cases h; exact at_tup h0 h1
  | _ => cases h
def Pnd (x : D) (p : Int × Int × Int) : Prop := items x = some [.int p.1, .int p.2.1, .int p.2.2]
structure StairG (st : D) (xs : List D) (ps : List (Int × Int × Int)) : Prop where
  its : items st = some xs
  len : xs.length = ps.length
  ok : ∀ (i : Nat) x p, xs[i]? = some x → ps[i]? = some p → Pnd x p
theorem Pnd.of (p : Int × Int × Int) : Pnd (pd p) p := rfl
theorem Stair.gen {st : D} {ps : List (Int × Int × Int)} (h : Stair st ps) : StairG st (ps.map pd) ps := ⟨h.items, List.length_map _, fun i x p h1 h2 => by
  rw [List.getElem?_map, h2] at h1
  cases h1
  exact Pnd.of p⟩
theorem StairG.ix {st : D} {xs : List D} {ps : List (Int × Int × Int)} (h : StairG st xs ps) {l : Nat} (h0 : 1 ≤ l) (h1 : l ≤ ps.length) : ∃ x, gIx st (.int ((l : Int) - 1)) = some (.pure x) ∧ Pnd x (pAt ps (l - 1)) := by
  have hl := h.len
  have hlt : l - 1 < xs.length := by omega
  have hlp : l - 1 < ps.length := by omega
  refine ⟨xs.getD (l - 1) .none, ?_, ?_⟩
  · rw [ix_items h.its (by omega) (by omega)]
    congr 4
    omega
  · refine h.ok (l - 1) _ _ ?_ ?_
    · rw [List.getD_eq_getElem?_getD, List.getElem?_eq_getElem hlt]; rfl
    · unfold pAt; rw [List.getD_eq_getElem?_getD, List.getElem?_eq_getElem hlp]; rfl
theorem items_cases {t : D} {ds : List D} (h : items t = some ds) : t = .list ds ∨ t = .tuple ds := by
  cases t with
  | list es => cases h; exact .inl rfl
  | tuple es => cases h; exact .inr rfl
  | _ => cases h
theorem Pnd.b {x : D} {p : Int × Int × Int} (h : Pnd x p) : gIx x (.int 1) = some (.pure (.int p.2.1)) := by rcases items_cases h with rfl | rfl <;> rfl
theorem Pnd.c {x : D} {p : Int × Int × Int} (h : Pnd x p) : gIx x (.int 2) = some (.pure (.int p.2.2)) := by rcases items_cases h with rfl | rfl <;> rfl
/-- the parts of a deed -/
def dl : Dd → List D
  | .fill l => [.str "fill", .int l]
  | .empty l => [.str "empty", .int l]
  | .raise l m => [.str "raise", .int l, .int m]
  | .lower l m => [.str "lower", .int l, .int m]
def Dt (t : D) (d : Dd) : Prop := items t = some (dl d)
theorem changeG {st t : D} {xs : List D} {ps : List (Int × Int × Int)} {d : Dd} (hs : StairG st xs ps) (ht : Dt t d) (hd : d.On ps.length) : wpf m_p_change_of [.pure st, .pure t] (ValQ fun x => x = .tuple [.int (chg ps d).1, .int (chg ps d).2]) := by
  obtain ⟨h1, h2⟩ := hd
  have ix : ∀ l : Nat, 1 ≤ l → l ≤ ps.length → ∃ x, gIx st (.int ((l : Int) - 1)) = some (.pure x) ∧ gIx x (.int 2) = some (.pure (.int (sz ps l))) := fun l a b => by
    obtain ⟨x, i1, i2⟩ := hs.ix a b
    exact ⟨x, i1, i2.c⟩
  refine Sm.run ?_
  unfold g_p_change_of
  walk_at "lw n"
  cases d with
  | fill l =>
    obtain ⟨x, i1, i2⟩ := ix l h1 h2
    rcases items_cases ht with rfl | rfl
    all_goals
      walk_at "lw e"
      refine ⟨i1, ?_⟩
      walk_at "lw e"
      refine ⟨i2, ?_⟩
      walk_at "lw e"
      exact ⟨_, rfl, rfl⟩
  | empty l =>
    obtain ⟨x, i1, i2⟩ := ix l h1 h2
    rcases items_cases ht with rfl | rfl
    all_goals
      walk_at "lw e"
      refine ⟨i1, ?_⟩
      walk_at "lw e"
      refine ⟨i2, ?_⟩
      walk_at "lw e"
      exact ⟨_, rfl, rfl⟩
  | raise l m => rcases items_cases ht with rfl | rfl <;> (walk_at "lw e"; exact ⟨_, rfl, rfl⟩)
  | lower l m => rcases items_cases ht with rfl | rfl <;> (walk_at "lw e"; exact ⟨_, rfl, rfl⟩)
/-! ### running over -/
abbrev Pz := (Int × Int × Int) × Int
def spill (m : Int) : Int := if m > 0 then m else 0
/-- levels, what ran over out of each pound, what ran over out of the lowest -/
def ov : List Pz → List Int × List Int × Int
  | [] => ([], [], 0)
  | z :: zs => ((z.2 + (ov zs).2.2 - spill (z.2 + (ov zs).2.2 - z.1.2.1)) :: (ov zs).1, spill (z.2 + (ov zs).2.2 - z.1.2.1) :: (ov zs).2.1, spill (z.2 + (ov zs).2.2 - z.1.2.1))
end Lw
-- F2
namespace Lw
open PySem PySem.Spec PyProof.Rows L2
local macro_rules | `(tactic| walk_at "lw e") => `(tactic| (repeat (first | (with_reducible refine Stp.go ?_) | (with_reducible apply Exists.intro) | ((with_reducible refine And.intro ?_ ?_); · (first | (with_reducible exact Evl.ev) | ((fail_if_success (with_reducible refine Gd.keep ?_)); rfl) | ((with_reducible apply mul_r); decide) | ((with_reducible apply mul_l); decide) | ((with_reducible apply div_i); decide) | ((with_reducible apply in_R); decide) | (exact Nat.le_of_ble_eq_true rfl) | (simp [refsOf]; done) | (exact ⟨rfl, rfl, by decide⟩) | (exact ⟨rfl, rfl, rfl⟩) | ((with_reducible apply tgN_o); (focus rfl); (focus (first | assumption | trivial))))) | ((with_reducible apply Sm.vrP); (focus rfl)) | ((with_reducible apply Sm.vrO); (focus rfl)) | ((with_reducible apply Sm.augI); (focus rfl)) | ((with_reducible refine Sm.dicE ?_ ?_); (focus decide)) | ((with_reducible apply Sm.augS); (focus rfl)) | (with_reducible refine iteTT ?_) | (with_reducible refine iteT ?_) | (with_reducible refine iteF ?_) | ((with_reducible refine iteB1 ?_ ?_); (focus rfl)) | ((with_reducible refine iteB0 ?_ ?_); (focus rfl)))))
local macro_rules | `(tactic| walk_at "lw n") => `(tactic| (try dsimp only [ent, List.map, Nat.reduceAdd, Nat.reduceSub, List.length_cons, List.length_nil, List.replicate_succ, List.replicate_zero, List.cons_append, List.nil_append, putBack, setOwn, List.getElem?_cons_zero, List.getElem?_cons_succ, List.set_cons_zero, List.set_cons_succ, Sm.nf]))
local macro_rules | `(tactic| walk_at "lw v") => `(tactic| (try simp only [pb1, pb2, pb3, pb4]))
/-! ### one deed -/
def add1 (ls : List Int) (p m : Int) : List Int := if p > 0 then ls.set (p.toNat - 1) (ls.getD (p.toNat - 1) 0 + m) else ls
theorem add1_len (ls : List Int) (p m : Int) : (add1 ls p m).length = ls.length := by unfold add1; split <;> simp
theorem chg_on {ps : List (Int × Int × Int)} {d : Dd} {n : Nat} (h : d.On n) : 0 ≤ (chg ps d).1 ∧ (chg ps d).1 ≤ n := by
  obtain ⟨h1, h2⟩ := h
  cases d with
  | fill l => exact ⟨by show (0 : Int) ≤ l; omega, by show (l : Int) ≤ n; have : l ≤ n := h2; omega⟩
  | empty l => have a : 1 ≤ l := h1; have b : l ≤ n := h2; exact ⟨by show (0 : Int) ≤ (l : Int) - 1; omega, by show (l : Int) - 1 ≤ n; omega⟩
  | raise l m => exact ⟨by show (0 : Int) ≤ l; omega, by show (l : Int) ≤ n; have : l ≤ n := h2; omega⟩
  | lower l m => exact ⟨by show (0 : Int) ≤ l; omega, by show (l : Int) ≤ n; have : l ≤ n := h2; omega⟩
def chD (b : Bool) : D := .str (if b = true then "high" else "low")
def Chs (t : D) (bs : List Bool) : Prop := items t = some (bs.map chD)
def turn (bs : List Bool) : Dd → List Bool
  | .fill l => bs.set (l - 1) true
  | .empty l => bs.set (l - 1) false
  | _ => bs
theorem turn_len (bs : List Bool) (d : Dd) : (turn bs d).length = bs.length := by cases d <;> simp [turn]
def shut (bs : List Bool) : Dd → Bool
  | .fill l => bs.getD (l - 1) false
  | .empty l => !bs.getD (l - 1) false
  | _ => false
theorem Chs.ix {t : D} {bs : List Bool} (h : Chs t bs) {l : Nat} (h0 : 1 ≤ l) (h1 : l ≤ bs.length) : gIx t (.int ((l : Int) - 1)) = some (.pure (chD (bs.getD (l - 1) false))) := by
  have hlt : l - 1 < bs.length := by omega
  rw [ix_items h (by omega) (by rw [List.length_map]; omega)]
  have e : ((l : Int) - 1).toNat = l - 1 := by omega
  rw [e, List.getD_eq_getElem?_getD, List.getElem?_map, List.getD_eq_getElem?_getD, List.getElem?_eq_getElem hlt]
  rfl
def asks (ps : List (Int × Int × Int)) (d : Dd) : Int := (pAt ps ((chg ps d).1.toNat - 1)).1 - (chg ps d).2
def dry (ps : List (Int × Int × Int)) (ls : List Int) (d : Dd) : Bool := if (chg ps d).2 ≥ 0 then false else decide (ls.getD ((chg ps d).1.toNat - 1) 0 < asks ps d)
end Lw
-- F2
namespace Lw
open PySem PySem.Spec PyProof.Rows L2
local macro_rules | `(tactic| walk_at "lw e") => `(tactic| (repeat (first | (with_reducible refine Stp.go ?_) | (with_reducible apply Exists.intro) | ((with_reducible refine And.intro ?_ ?_); · (first | (with_reducible exact Evl.ev) | ((fail_if_success (with_reducible refine Gd.keep ?_)); rfl) | ((with_reducible apply mul_r); decide) | ((with_reducible apply mul_l); decide) | ((with_reducible apply div_i); decide) | ((with_reducible apply in_R); decide) | (exact Nat.le_of_ble_eq_true rfl) | (simp [refsOf]; done) | (exact ⟨rfl, rfl, by decide⟩) | (exact ⟨rfl, rfl, rfl⟩) | ((with_reducible apply tgN_o); (focus rfl); (focus (first | assumption | trivial))))) | ((with_reducible apply Sm.vrP); (focus rfl)) | ((with_reducible apply Sm.vrO); (focus rfl)) | ((with_reducible apply Sm.augI); (focus rfl)) | ((with_reducible refine Sm.dicE ?_ ?_); (focus decide)) | ((with_reducible apply Sm.augS); (focus rfl)) | (with_reducible refine iteTT ?_) | (with_reducible refine iteT ?_) | (with_reducible refine iteF ?_) | ((with_reducible refine iteB1 ?_ ?_); (focus rfl)) | ((with_reducible refine iteB0 ?_ ?_); (focus rfl)))))
local macro_rules | `(tactic| walk_at "lw n") => `(tactic| (try dsimp only [ent, List.map, Nat.reduceAdd, Nat.reduceSub, List.length_cons, List.length_nil, List.replicate_succ, List.replicate_zero, List.cons_append, List.nil_append, putBack, setOwn, List.getElem?_cons_zero, List.getElem?_cons_succ, List.set_cons_zero, List.set_cons_succ, Sm.nf]))
local macro_rules | `(tactic| walk_at "lw v") => `(tactic| (try simp only [pb1, pb2, pb3, pb4]))
/-! ### fault_of, done, gone -/
def aft (ps : List (Int × Int × Int)) (ls : List Int) (d : Dd) : List Int := (ov (ps.zip (add1 ls (chg ps d).1 (chg ps d).2))).1
def spl (ps : List (Int × Int × Int)) (ls : List Int) (d : Dd) : List Int := (ov (ps.zip (add1 ls (chg ps d).1 (chg ps d).2))).2.1
def sD (ls : List Int) (bs : List Bool) : D := .tuple [it ls, .tuple (bs.map chD)]
def Let (ps : List (Int × Int × Int)) (ls : List Int) (bs : List Bool) (d : Dd) : Prop := shut bs d = false ∧ dry ps ls d = false
end Lw
-- F2
namespace Lw
open PySem PySem.Spec PyProof.Rows L2
local macro_rules | `(tactic| walk_at "lw e") => `(tactic| (repeat (first | (with_reducible refine Stp.go ?_) | (with_reducible apply Exists.intro) | ((with_reducible refine And.intro ?_ ?_); · (first | (with_reducible exact Evl.ev) | ((fail_if_success (with_reducible refine Gd.keep ?_)); rfl) | ((with_reducible apply mul_r); decide) | ((with_reducible apply mul_l); decide) | ((with_reducible apply div_i); decide) | ((with_reducible apply in_R); decide) | (exact Nat.le_of_ble_eq_true rfl) | (simp [refsOf]; done) | (exact ⟨rfl, rfl, by decide⟩) | (exact ⟨rfl, rfl, rfl⟩) | ((with_reducible apply tgN_o); (focus rfl); (focus (first | assumption | trivial))))) | ((with_reducible apply Sm.vrP); (focus rfl)) | ((with_reducible apply Sm.vrO); (focus rfl)) | ((with_reducible apply Sm.augI); (focus rfl)) | ((with_reducible refine Sm.dicE ?_ ?_); (focus decide)) | ((with_reducible apply Sm.augS); (focus rfl)) | (with_reducible refine iteTT ?_) | (with_reducible refine iteT ?_) | (with_reducible refine iteF ?_) | ((with_reducible refine iteB1 ?_ ?_); (focus rfl)) | ((with_reducible refine iteB0 ?_ ?_); (focus rfl)))))
local macro_rules | `(tactic| walk_at "lw n") => `(tactic| (try dsimp only [ent, List.map, Nat.reduceAdd, Nat.reduceSub, List.length_cons, List.length_nil, List.replicate_succ, List.replicate_zero, List.cons_append, List.nil_append, putBack, setOwn, List.getElem?_cons_zero, List.getElem?_cons_succ, List.set_cons_zero, List.set_cons_succ, Sm.nf]))
local macro_rules | `(tactic| walk_at "lw v") => `(tactic| (try simp only [pb1, pb2, pb3, pb4]))
theorem pw_9 : gPowA (.int 10) (.int 9) = some (.pure (.int 1000000000)) := rfl
theorem pw_12 : gPowA (.int 10) (.int 12) = some (.pure (.int 1000000000000)) := rfl
theorem pw_17 : gPowA (.int 10) (.int 17) = some (.pure (.int 100000000000000000)) := rfl
theorem pw_20 : gPowA (.int 10) (.int 20) = some (.pure (.int 100000000000000000000)) := rfl
theorem pw_60 : gPowA (.int 10) (.int 60) = some (.pure (.int 1000000000000000000000000000000000000000000000000000000000000)) := rfl
instance : Evl (gPowA (.int 10) (.int 9)) (.pure (.int 1000000000)) := ⟨pw_9⟩
instance : Evl (gPowA (.int 10) (.int 12)) (.pure (.int 1000000000000)) := ⟨pw_12⟩
instance : Evl (gPowA (.int 10) (.int 17)) (.pure (.int 100000000000000000)) := ⟨pw_17⟩
instance : Evl (gPowA (.int 10) (.int 20)) (.pure (.int 100000000000000000000)) := ⟨pw_20⟩
instance : Evl (gPowA (.int 10) (.int 60)) (.pure (.int 1000000000000000000000000000000000000000000000000000000000000)) := ⟨pw_60⟩
def PoundI (g : Nat) (p : Int × Int × Int) : Prop := ∃ a b s : Int, p = (a * g, (a + b) * g, s * g) ∧ 0 ≤ a ∧ a < 4 ∧ 0 ≤ b ∧ b < 30 ∧ 1 ≤ s ∧ s < 5
theorem pound_b {g : Nat} (hg : g ≤ 1000000000000000) {p : Int × Int × Int} (h : PoundI g p) : 0 ≤ p.1 ∧ p.1 ≤ p.2.1 ∧ p.2.1 ≤ 40000000000000000 := by
  obtain ⟨a, b, s, rfl, h1, h2, h3, h4, h5, h6⟩ := h
  have k1 : 0 ≤ a * g := Int.mul_nonneg h1 (by omega)
  have k2 : (a + b) * g = a * g + b * g := Int.add_mul _ _ _
  have k3 : 0 ≤ b * g := Int.mul_nonneg h3 (by omega)
  have k4 : (a + b) * g ≤ 40 * g := Int.mul_le_mul_of_nonneg_right (by omega) (by omega)
  refine ⟨k1, ?_, ?_⟩
  · show a * g ≤ (a + b) * g; omega
  · show (a + b) * g ≤ _; omega
end Lw
-- F2
namespace Lw
open PySem PySem.Spec PyProof.Rows L2
local macro_rules | `(tactic| walk_at "lw e") => `(tactic| (repeat (first | (with_reducible refine Stp.go ?_) | (with_reducible apply Exists.intro) | ((with_reducible refine And.intro ?_ ?_); · (first | (with_reducible exact Evl.ev) | ((fail_if_success (with_reducible refine Gd.keep ?_)); rfl) | ((with_reducible apply mul_r); decide) | ((with_reducible apply mul_l); decide) | ((with_reducible apply div_i); decide) | ((with_reducible apply in_R); decide) | (exact Nat.le_of_ble_eq_true rfl) | (simp [refsOf]; done) | (exact ⟨rfl, rfl, by decide⟩) | (exact ⟨rfl, rfl, rfl⟩) | ((with_reducible apply tgN_o); (focus rfl); (focus (first | assumption | trivial))))) | ((with_reducible apply Sm.vrP); (focus rfl)) | ((with_reducible apply Sm.vrO); (focus rfl)) | ((with_reducible apply Sm.augI); (focus rfl)) | ((with_reducible refine Sm.dicE ?_ ?_); (focus decide)) | ((with_reducible apply Sm.augS); (focus rfl)) | (with_reducible refine iteTT ?_) | (with_reducible refine iteT ?_) | (with_reducible refine iteF ?_) | ((with_reducible refine iteB1 ?_ ?_); (focus rfl)) | ((with_reducible refine iteB0 ?_ ?_); (focus rfl)))))
local macro_rules | `(tactic| walk_at "lw n") => `(tactic| (try dsimp only [ent, List.map, Nat.reduceAdd, Nat.reduceSub, List.length_cons, List.length_nil, List.replicate_succ, List.replicate_zero, List.cons_append, List.nil_append, putBack, setOwn, List.getElem?_cons_zero, List.getElem?_cons_succ, List.set_cons_zero, List.set_cons_succ, Sm.nf]))
local macro_rules | `(tactic| walk_at "lw v") => `(tactic| (try simp only [pb1, pb2, pb3, pb4]))
structure DeedsG (t : D) (ts : List D) (ds : List Dd) : Prop where
  its : items t = some ts
  len : ts.length = ds.length
  ok : ∀ (i : Nat) x d, ts[i]? = some x → ds[i]? = some d → Dt x d
abbrev Gs := List Int × List Bool × List Int
def gst (ps : List (Int × Int × Int)) (s : Gs) (d : Dd) : Gs := (aft ps s.1 d, turn s.2.1 d, (s.2.2.zip (spl ps s.1 d)).map fun p => p.1 + p.2)
def gn (ps : List (Int × Int × Int)) (s : Gs) (ds : List Dd) : Gs := ds.foldl (gst ps) s
end Lw
-- F2
namespace Lw
open PySem PySem.Spec PyProof.Rows L2
local macro_rules | `(tactic| walk_at "lw e") => `(tactic| (repeat (first | (with_reducible refine Stp.go ?_) | (with_reducible apply Exists.intro) | ((with_reducible refine And.intro ?_ ?_); · (first | (with_reducible exact Evl.ev) | ((fail_if_success (with_reducible refine Gd.keep ?_)); rfl) | ((with_reducible apply mul_r); decide) | ((with_reducible apply mul_l); decide) | ((with_reducible apply div_i); decide) | ((with_reducible apply in_R); decide) | (exact Nat.le_of_ble_eq_true rfl) | (simp [refsOf]; done) | (exact ⟨rfl, rfl, by decide⟩) | (exact ⟨rfl, rfl, rfl⟩) | ((with_reducible apply tgN_o); (focus rfl); (focus (first | assumption | trivial))))) | ((with_reducible apply Sm.vrP); (focus rfl)) | ((with_reducible apply Sm.vrO); (focus rfl)) | ((with_reducible apply Sm.augI); (focus rfl)) | ((with_reducible refine Sm.dicE ?_ ?_); (focus decide)) | ((with_reducible apply Sm.augS); (focus rfl)) | (with_reducible refine iteTT ?_) | (with_reducible refine iteT ?_) | (with_reducible refine iteF ?_) | ((with_reducible refine iteB1 ?_ ?_); (focus rfl)) | ((with_reducible refine iteB0 ?_ ?_); (focus rfl)))))
local macro_rules | `(tactic| walk_at "lw n") => `(tactic| (try dsimp only [ent, List.map, Nat.reduceAdd, Nat.reduceSub, List.length_cons, List.length_nil, List.replicate_succ, List.replicate_zero, List.cons_append, List.nil_append, putBack, setOwn, List.getElem?_cons_zero, List.getElem?_cons_succ, List.set_cons_zero, List.set_cons_succ, Sm.nf]))
local macro_rules | `(tactic| walk_at "lw v") => `(tactic| (try simp only [pb1, pb2, pb3, pb4]))
/-! ### sums_of, stairs and deeds as lists or tuples -/
theorem StairG.glen {st : D} {xs : List D} {ps : List (Int × Int × Int)} (h : StairG st xs ps) : gLen st = some (.pure (.int ps.length)) := by
  rcases items_cases h.its with rfl | rfl
  · show some (R.pure (.int (xs.length : Nat))) = _; rw [h.len]
  · show some (R.pure (.int (xs.length : Nat))) = _; rw [h.len]
def undg (x : D) : Dd := undd (.tuple ((items x).getD []))
theorem undg_dt {x : D} {d : Dd} (h : Dt x d) : undg x = d := by
  unfold undg
  rw [show items x = some (dl d) from h]
  cases d <;> rfl
theorem DeedsG.map {α : Type} {t : D} {ts : List D} {ds : List Dd} (h : DeedsG t ts ds) (f : Dd → α) : ts.map (fun x => f (undg x)) = ds.map f := by
  apply List.ext_getElem?
  intro i
  rw [List.getElem?_map, List.getElem?_map]
  by_cases hi : i < ts.length
  · have hj : i < ds.length := by rw [← h.len]; exact hi
    rw [List.getElem?_eq_getElem hi, List.getElem?_eq_getElem hj]
    show some (f (undg ts[i])) = some (f ds[i])
    rw [undg_dt (h.ok i _ _ (List.getElem?_eq_getElem hi) (List.getElem?_eq_getElem hj))]
  · have hj : ¬ i < ds.length := by rw [← h.len]; exact hi
    rw [List.getElem?_eq_none (by omega), List.getElem?_eq_none (by omega)]
    rfl
end Lw
-- F2
namespace Lw
open PySem PySem.Spec PyProof.Rows L2
local macro_rules | `(tactic| walk_at "lw e") => `(tactic| (repeat (first | (with_reducible refine Stp.go ?_) | (with_reducible apply Exists.intro) | ((with_reducible refine And.intro ?_ ?_); · (first | (with_reducible exact Evl.ev) | ((fail_if_success (with_reducible refine Gd.keep ?_)); rfl) | ((with_reducible apply mul_r); decide) | ((with_reducible apply mul_l); decide) | ((with_reducible apply div_i); decide) | ((with_reducible apply in_R); decide) | (exact Nat.le_of_ble_eq_true rfl) | (simp [refsOf]; done) | (exact ⟨rfl, rfl, by decide⟩) | (exact ⟨rfl, rfl, rfl⟩) | ((with_reducible apply tgN_o); (focus rfl); (focus (first | assumption | trivial))))) | ((with_reducible apply Sm.vrP); (focus rfl)) | ((with_reducible apply Sm.vrO); (focus rfl)) | ((with_reducible apply Sm.augI); (focus rfl)) | ((with_reducible refine Sm.dicE ?_ ?_); (focus decide)) | ((with_reducible apply Sm.augS); (focus rfl)) | (with_reducible refine iteTT ?_) | (with_reducible refine iteT ?_) | (with_reducible refine iteF ?_) | ((with_reducible refine iteB1 ?_ ?_); (focus rfl)) | ((with_reducible refine iteB0 ?_ ?_); (focus rfl)))))
local macro_rules | `(tactic| walk_at "lw n") => `(tactic| (try dsimp only [ent, List.map, Nat.reduceAdd, Nat.reduceSub, List.length_cons, List.length_nil, List.replicate_succ, List.replicate_zero, List.cons_append, List.nil_append, putBack, setOwn, List.getElem?_cons_zero, List.getElem?_cons_succ, List.set_cons_zero, List.set_cons_succ, Sm.nf]))
local macro_rules | `(tactic| walk_at "lw v") => `(tactic| (try simp only [pb1, pb2, pb3, pb4]))
/-! ### laps whose turns are let -/
def turns (bs : List Bool) (ds : List Dd) : List Bool := ds.foldl turn bs
structure Runs (bs : List Bool) (ds : List Dd) (bs' : List Bool) : Prop where
  fin : turns bs ds = bs'
  ok : ∀ (i : Nat) d, ds[i]? = some d → shut (turns bs (ds.take i)) d = false
theorem Runs.nil (bs : List Bool) : Runs bs [] bs := ⟨rfl, fun i d h => by simp at h⟩
theorem Runs.snoc {bs bs' bs2 : List Bool} {ds : List Dd} {d : Dd} (h : Runs bs ds bs') (h1 : shut bs' d = false) (h2 : turn bs' d = bs2) : Runs bs (ds ++ [d]) bs2 := by
  constructor
  · unfold turns
    rw [List.foldl_append]
    show turn (turns bs ds) d = _
    rw [h.fin, h2]
  · intro i e he
    by_cases hi : i < ds.length
    · rw [List.getElem?_append_left hi] at he
      rw [List.take_append_of_le_length (by omega)]
      exact h.ok i e he
    · have hi2 : i = ds.length := by
        have := (List.getElem?_eq_some_iff.mp he).1
        rw [List.length_append, List.length_singleton] at this
        omega
      subst hi2
      rw [List.getElem?_append_right (Nat.le_refl _), Nat.sub_self] at he
      cases he
      rw [List.take_append_of_le_length (Nat.le_refl _), List.take_length, h.fin]
      exact h1
end Lw
-- F2
namespace Lw
open PySem PySem.Spec PyProof.Rows L2
local macro_rules | `(tactic| walk_at "lw e") => `(tactic| (repeat (first | (with_reducible refine Stp.go ?_) | (with_reducible apply Exists.intro) | ((with_reducible refine And.intro ?_ ?_); · (first | (with_reducible exact Evl.ev) | ((fail_if_success (with_reducible refine Gd.keep ?_)); rfl) | ((with_reducible apply mul_r); decide) | ((with_reducible apply mul_l); decide) | ((with_reducible apply div_i); decide) | ((with_reducible apply in_R); decide) | (exact Nat.le_of_ble_eq_true rfl) | (simp [refsOf]; done) | (exact ⟨rfl, rfl, by decide⟩) | (exact ⟨rfl, rfl, rfl⟩) | ((with_reducible apply tgN_o); (focus rfl); (focus (first | assumption | trivial))))) | ((with_reducible apply Sm.vrP); (focus rfl)) | ((with_reducible apply Sm.vrO); (focus rfl)) | ((with_reducible apply Sm.augI); (focus rfl)) | ((with_reducible refine Sm.dicE ?_ ?_); (focus decide)) | ((with_reducible apply Sm.augS); (focus rfl)) | (with_reducible refine iteTT ?_) | (with_reducible refine iteT ?_) | (with_reducible refine iteF ?_) | ((with_reducible refine iteB1 ?_ ?_); (focus rfl)) | ((with_reducible refine iteB0 ?_ ?_); (focus rfl)))))
local macro_rules | `(tactic| walk_at "lw n") => `(tactic| (try dsimp only [ent, List.map, Nat.reduceAdd, Nat.reduceSub, List.length_cons, List.length_nil, List.replicate_succ, List.replicate_zero, List.cons_append, List.nil_append, putBack, setOwn, List.getElem?_cons_zero, List.getElem?_cons_succ, List.set_cons_zero, List.set_cons_succ, Sm.nf]))
local macro_rules | `(tactic| walk_at "lw v") => `(tactic| (try simp only [pb1, pb2, pb3, pb4]))
/-! ### sums of laps, lock by lock -/
theorem Runs.tail {bs bs' : List Bool} {d : Dd} {ds : List Dd} (h : Runs bs (d :: ds) bs') : shut bs d = false ∧ Runs (turn bs d) ds bs' := by
  refine ⟨h.ok 0 d rfl, ⟨h.fin, fun i e he => ?_⟩⟩
  exact h.ok (i + 1) e (by rw [List.getElem?_cons_succ]; exact he)
end Lw
-- F2
namespace Lw
open PySem PySem.Spec PyProof.Rows L2
local macro_rules | `(tactic| walk_at "lw e") => `(tactic| (repeat (first | (with_reducible refine Stp.go ?_) | (with_reducible apply Exists.intro) | ((with_reducible refine And.intro ?_ ?_); · (first | (with_reducible exact Evl.ev) | ((fail_if_success (with_reducible refine Gd.keep ?_)); rfl) | ((with_reducible apply mul_r); decide) | ((with_reducible apply mul_l); decide) | ((with_reducible apply div_i); decide) | ((with_reducible apply in_R); decide) | (exact Nat.le_of_ble_eq_true rfl) | (simp [refsOf]; done) | (exact ⟨rfl, rfl, by decide⟩) | (exact ⟨rfl, rfl, rfl⟩) | ((with_reducible apply tgN_o); (focus rfl); (focus (first | assumption | trivial))))) | ((with_reducible apply Sm.vrP); (focus rfl)) | ((with_reducible apply Sm.vrO); (focus rfl)) | ((with_reducible apply Sm.augI); (focus rfl)) | ((with_reducible refine Sm.dicE ?_ ?_); (focus decide)) | ((with_reducible apply Sm.augS); (focus rfl)) | (with_reducible refine iteTT ?_) | (with_reducible refine iteT ?_) | (with_reducible refine iteF ?_) | ((with_reducible refine iteB1 ?_ ?_); (focus rfl)) | ((with_reducible refine iteB0 ?_ ?_); (focus rfl)))))
local macro_rules | `(tactic| walk_at "lw n") => `(tactic| (try dsimp only [ent, List.map, Nat.reduceAdd, Nat.reduceSub, List.length_cons, List.length_nil, List.replicate_succ, List.replicate_zero, List.cons_append, List.nil_append, putBack, setOwn, List.getElem?_cons_zero, List.getElem?_cons_succ, List.set_cons_zero, List.set_cons_succ, Sm.nf]))
local macro_rules | `(tactic| walk_at "lw v") => `(tactic| (try simp only [pb1, pb2, pb3, pb4]))
end Lw
-- F2
namespace Lw
open PySem PySem.Spec PyProof.Rows L2
local macro_rules | `(tactic| walk_at "lw e") => `(tactic| (repeat (first | (with_reducible refine Stp.go ?_) | (with_reducible apply Exists.intro) | ((with_reducible refine And.intro ?_ ?_); · (first | (with_reducible exact Evl.ev) | ((fail_if_success (with_reducible refine Gd.keep ?_)); rfl) | ((with_reducible apply mul_r); decide) | ((with_reducible apply mul_l); decide) | ((with_reducible apply div_i); decide) | ((with_reducible apply in_R); decide) | (exact Nat.le_of_ble_eq_true rfl) | (simp [refsOf]; done) | (exact ⟨rfl, rfl, by decide⟩) | (exact ⟨rfl, rfl, rfl⟩) | ((with_reducible apply tgN_o); (focus rfl); (focus (first | assumption | trivial))))) | ((with_reducible apply Sm.vrP); (focus rfl)) | ((with_reducible apply Sm.vrO); (focus rfl)) | ((with_reducible apply Sm.augI); (focus rfl)) | ((with_reducible refine Sm.dicE ?_ ?_); (focus decide)) | ((with_reducible apply Sm.augS); (focus rfl)) | (with_reducible refine iteTT ?_) | (with_reducible refine iteT ?_) | (with_reducible refine iteF ?_) | ((with_reducible refine iteB1 ?_ ?_); (focus rfl)) | ((with_reducible refine iteB0 ?_ ?_); (focus rfl)))))
local macro_rules | `(tactic| walk_at "lw n") => `(tactic| (try dsimp only [ent, List.map, Nat.reduceAdd, Nat.reduceSub, List.length_cons, List.length_nil, List.replicate_succ, List.replicate_zero, List.cons_append, List.nil_append, putBack, setOwn, List.getElem?_cons_zero, List.getElem?_cons_succ, List.set_cons_zero, List.set_cons_succ, Sm.nf]))
local macro_rules | `(tactic| walk_at "lw v") => `(tactic| (try simp only [pb1, pb2, pb3, pb4]))
end Lw
-- F2
-- F3
namespace Lw
open PySem PySem.Spec PyProof.Rows L2
local macro_rules | `(tactic| walk_at "lw e") => `(tactic| (repeat (first | (with_reducible refine Stp.go ?_) | (with_reducible apply Exists.intro) | ((with_reducible refine And.intro ?_ ?_); · (first | (with_reducible exact Evl.ev) | ((fail_if_success (with_reducible refine Gd.keep ?_)); rfl) | ((with_reducible apply mul_r); decide) | ((with_reducible apply mul_l); decide) | ((with_reducible apply div_i); decide) | ((with_reducible apply in_R); decide) | (exact Nat.le_of_ble_eq_true rfl) | (simp [refsOf]; done) | (exact ⟨rfl, rfl, by decide⟩) | (exact ⟨rfl, rfl, rfl⟩) | ((with_reducible apply tgN_o); (focus rfl); (focus (first | assumption | trivial))))) | ((with_reducible apply Sm.vrP); (focus rfl)) | ((with_reducible apply Sm.vrO); (focus rfl)) | ((with_reducible apply Sm.augI); (focus rfl)) | ((with_reducible refine Sm.dicE ?_ ?_); (focus decide)) | ((with_reducible apply Sm.augS); (focus rfl)) | (with_reducible refine iteTT ?_) | (with_reducible refine iteT ?_) | (with_reducible refine iteF ?_) | ((with_reducible refine iteB1 ?_ ?_); (focus rfl)) | ((with_reducible refine iteB0 ?_ ?_); (focus rfl)))))
local macro_rules | `(tactic| walk_at "lw n") => `(tactic| (try dsimp only [ent, List.map, Nat.reduceAdd, Nat.reduceSub, List.length_cons, List.length_nil, List.replicate_succ, List.replicate_zero, List.cons_append, List.nil_append, putBack, setOwn, List.getElem?_cons_zero, List.getElem?_cons_succ, List.set_cons_zero, List.set_cons_succ, Sm.nf]))
local macro_rules | `(tactic| walk_at "lw v") => `(tactic| (try simp only [pb1, pb2, pb3, pb4]))
/-! ### totals, great stairs on which nothing runs over -/
def tots (xs : List Int) : List Int := (List.range xs.length).map fun i => (xs.drop i).sum
theorem tots_get (xs : List Int) (i : Nat) : (tots xs)[i]? = if i < xs.length then some (xs.drop i).sum else none := by
  unfold tots
  rw [List.getElem?_map]
  by_cases h : i < xs.length
  · rw [List.getElem?_range h, if_pos h]; rfl
  · rw [List.getElem?_eq_none (by rw [List.length_range]; omega), if_neg h]; rfl
theorem sum_set : ∀ (xs : List Int) (k : Nat) (v : Int), k < xs.length → (xs.set k v).sum = xs.sum + (v - xs.getD k 0)
  | [], k, v, h => by simp at h
  | x :: xs, 0, v, _ => by simp; omega
  | x :: xs, k + 1, v, h => by
    rw [List.set_cons_succ, List.sum_cons, List.sum_cons, sum_set xs k v (by simpa using h)]
    simp only [List.getD_cons_succ]
    omega
theorem tots_add1 {ls : List Int} {c : Nat} {m : Int} (hc : c ≤ ls.length) : tots (add1 ls (c : Int) m) = addPre c m (tots ls) := by
  apply List.ext_getElem?
  intro a
  rw [addPre_get, tots_get, tots_get, add1_len]
  by_cases h : a < ls.length
  · rw [if_pos h, if_pos h]
    unfold add1
    by_cases h0 : (c : Int) > 0
    · rw [if_pos h0, Int.toNat_natCast]
      by_cases q : a < c
      · rw [if_pos q]
        have e : (ls.set (c - 1) (ls.getD (c - 1) 0 + m)).drop a = (ls.drop a).set (c - 1 - a) (ls.getD (c - 1) 0 + m) := by
          rw [List.drop_set, if_neg (by omega)]
        rw [e, sum_set _ _ _ (by rw [List.length_drop]; omega)]
        have e2 : (ls.drop a).getD (c - 1 - a) 0 = ls.getD (c - 1) 0 := by
          rw [List.getD_eq_getElem?_getD, List.getD_eq_getElem?_getD, List.getElem?_drop]
          congr 2
          omega
        rw [e2]
        simp only [Option.map_some]
        congr 1
        omega
      · rw [if_neg q]
        have e : (ls.set (c - 1) (ls.getD (c - 1) 0 + m)).drop a = ls.drop a := by
          rw [List.drop_set, if_pos (by omega)]
        rw [e]
    · rw [if_neg h0]
      rw [if_neg (by omega)]
  · rw [if_neg h, if_neg h]
    simp
theorem ov_flat : ∀ zs : List Pz, (∀ z ∈ zs, z.2 ≤ z.1.2.1) → ov zs = (zs.map (·.2), zs.map (fun _ => 0), 0)
  | [], _ => rfl
  | z :: zs, h => by
    have h1 := h z (by simp)
    have ih := ov_flat zs fun y hy => h y (by simp [hy])
    rw [ov, ih]
    have e : spill (z.2 + 0 - z.1.2.1) = 0 := by unfold spill; rw [if_neg (by omega)]
    dsimp only
    rw [e]
    simp
/-- the stair with the same locks and pounds so great -/
def greatS (F : Int) (ps : List (Int × Int × Int)) : List (Int × Int × Int) := ps.map fun p => (0, 2 * F, p.2.2)
theorem greatS_len (F : Int) (ps : List (Int × Int × Int)) : (greatS F ps).length = ps.length := List.length_map _
theorem great_sz (F : Int) (ps : List (Int × Int × Int)) {l : Nat} (h0 : 1 ≤ l) (h1 : l ≤ ps.length) : sz (greatS F ps) l = sz ps l := by
  have hlt : l - 1 < ps.length := by omega
  unfold sz pAt greatS
  rw [List.getD_eq_getElem?_getD, List.getElem?_map, List.getD_eq_getElem?_getD, List.getElem?_eq_getElem hlt]
  rfl
theorem great_chg (F : Int) {ps : List (Int × Int × Int)} {d : Dd} (h : d.On ps.length) : chg (greatS F ps) d = chg ps d := by
  obtain ⟨h0, h1⟩ := h
  cases d with
  | fill l => show ((l : Int), -sz (greatS F ps) l) = _; rw [great_sz F ps (l := l) h0 h1]; rfl
  | empty l => show ((l : Int) - 1, sz (greatS F ps) l) = _; rw [great_sz F ps (l := l) h0 h1]; rfl
  | raise l m => rfl
  | lower l m => rfl
theorem great_most {F : Int} {ps : List (Int × Int × Int)} {ls : List Int} (h : ∀ l ∈ ls, l ≤ 2 * F) : ∀ z ∈ (greatS F ps).zip ls, z.2 ≤ z.1.2.1 := by
  intro z hz
  have h1 := (List.of_mem_zip hz).1
  have h2 := (List.of_mem_zip hz).2
  unfold greatS at h1
  obtain ⟨p, _, e⟩ := List.mem_map.1 h1
  rw [← e]
  exact h _ h2
theorem zip_snd {F : Int} {ps : List (Int × Int × Int)} {ls : List Int} (h : ls.length = ps.length) : ((greatS F ps).zip ls).map (·.2) = ls := by
  have := List.map_snd_zip (l₁ := greatS F ps) (l₂ := ls) (by rw [greatS_len]; omega)
  exact this
/-- what stands in the midst behind so many deeds -/
structure Mid (F B : Int) (ps : List (Int × Int × Int)) (bs : List Bool) (ds : List Dd) (s : Gs) : Prop where
  len : s.1.length = ps.length
  bd : ∀ l ∈ s.1, F - B * ds.length ≤ l ∧ l ≤ F + B * ds.length
  tot : tots s.1 = ((tots (ps.map fun _ => F)).zip (sums ps ds)).map fun p => p.1 + p.2
  ch : s.2.1 = turns bs ds
  ran : s.2.2 = ps.map fun _ => 0
theorem add1_mem {ls : List Int} {p m l : Int} (h : l ∈ add1 ls p m) : l ∈ ls ∨ ∃ x ∈ ls, l = x + m := by
  unfold add1 at h
  split at h
  · rename_i hp
    by_cases hlt : p.toNat - 1 < ls.length
    · rcases List.mem_or_eq_of_mem_set h with h | h
      · exact .inl h
      · refine .inr ⟨ls.getD (p.toNat - 1) 0, ?_, h⟩
        rw [List.getD_eq_getElem?_getD, List.getElem?_eq_getElem hlt]
        exact List.getElem_mem hlt
    · rw [List.set_eq_of_length_le (by omega)] at h
      exact .inl h
  · exact .inl h
theorem zip_addPre (c : Nat) (m : Int) : ∀ (xs ys : List Int), addPre c m ((xs.zip ys).map fun p => p.1 + p.2) = (xs.zip (addPre c m ys)).map fun p => p.1 + p.2 := by
  induction c with
  | zero => intro xs ys; rfl
  | succ c ih =>
    intro xs ys
    cases xs with
    | nil => simp [addPre]
    | cons x xs =>
      cases ys with
      | nil => simp [addPre]
      | cons y ys =>
        rw [List.zip_cons_cons, List.map_cons, addPre, ih, addPre, List.zip_cons_cons, List.map_cons]
        congr 1
        dsimp only
        omega
theorem Mid.step {F B : Int} {ps : List (Int × Int × Int)} {bs : List Bool} {ds : List Dd} {d : Dd} {s : Gs} (h : Mid F B ps bs ds s) (ho : d.On ps.length) (hb : -B ≤ (chg ps d).2 ∧ (chg ps d).2 ≤ B) (hF : B * (ds.length + 1) ≤ F) : Mid F B ps bs (ds ++ [d]) (gst (greatS F ps) s d) := by
  have hc := chg_on (ps := ps) ho
  have ec : ((chg ps d).1.toNat : Int) = (chg ps d).1 := by omega
  have eB : B * ((ds ++ [d]).length : Nat) = B * ds.length + B := by
    rw [List.length_append, List.length_singleton]; push_cast; rw [Int.mul_add, Int.mul_one]
  have hB0 : 0 ≤ B := by omega
  have eB2 : B * ((ds.length : Int) + 1) = B * ds.length + B := by rw [Int.mul_add, Int.mul_one]
  have bd2 : ∀ l ∈ add1 s.1 (chg ps d).1 (chg ps d).2, F - B * ((ds ++ [d]).length : Nat) ≤ l ∧ l ≤ F + B * ((ds ++ [d]).length : Nat) := by
    intro l hm
    rw [eB]
    rcases add1_mem hm with hm | ⟨x, hx, rfl⟩
    · have := h.bd l hm; omega
    · have := h.bd x hx; omega
  have hmost : ∀ l ∈ add1 s.1 (chg ps d).1 (chg ps d).2, l ≤ 2 * F := fun l hm => by
    have := bd2 l hm
    omega
  have fl := ov_flat ((greatS F ps).zip (add1 s.1 (chg ps d).1 (chg ps d).2)) (great_most hmost)
  have ea : aft (greatS F ps) s.1 d = add1 s.1 (chg ps d).1 (chg ps d).2 := by
    unfold aft
    rw [great_chg F ho, fl]
    exact zip_snd (by rw [add1_len]; exact h.len)
  have es : spl (greatS F ps) s.1 d = ps.map fun _ => 0 := by
    unfold spl
    rw [great_chg F ho, fl]
    show List.map (fun _ => (0 : Int)) ((greatS F ps).zip (add1 s.1 (chg ps d).1 (chg ps d).2)) = _
    rw [List.map_const', List.map_const', List.length_zip, greatS_len, add1_len, h.len, Nat.min_self]
  refine ⟨?_, ?_, ?_, ?_, ?_⟩
  · show (aft (greatS F ps) s.1 d).length = _
    rw [ea, add1_len]; exact h.len
  · intro l hm
    rw [show (gst (greatS F ps) s d).1 = aft (greatS F ps) s.1 d from rfl, ea] at hm
    exact bd2 l hm
  · show tots (aft (greatS F ps) s.1 d) = _
    rw [ea, ← ec, tots_add1 (by rw [h.len]; omega), h.tot, zip_addPre, addPre_sums ps ds d _ ec.symm]
  · show turn s.2.1 d = _
    rw [h.ch]
    unfold turns
    rw [List.foldl_append]
    rfl
  · show ((s.2.2.zip (spl (greatS F ps) s.1 d)).map fun p => p.1 + p.2) = _
    rw [h.ran, es]
    generalize ps = qs
    induction qs with
    | nil => rfl
    | cons q qs ih => rw [List.map_cons, List.zip_cons_cons, List.map_cons, ih]; rfl
end Lw
-- F2
-- F3
namespace Lw
open PySem PySem.Spec PyProof.Rows L2
local macro_rules | `(tactic| walk_at "lw e") => `(tactic| (repeat (first | (with_reducible refine Stp.go ?_) | (with_reducible apply Exists.intro) | ((with_reducible refine And.intro ?_ ?_); · (first | (with_reducible exact Evl.ev) | ((fail_if_success (with_reducible refine Gd.keep ?_)); rfl) | ((with_reducible apply mul_r); decide) | ((with_reducible apply mul_l); decide) | ((with_reducible apply div_i); decide) | ((with_reducible apply in_R); decide) | (exact Nat.le_of_ble_eq_true rfl) | (simp [refsOf]; done) | (exact ⟨rfl, rfl, by decide⟩) | (exact ⟨rfl, rfl, rfl⟩) | ((with_reducible apply tgN_o); (focus rfl); (focus (first | assumption | trivial))))) | ((with_reducible apply Sm.vrP); (focus rfl)) | ((with_reducible apply Sm.vrO); (focus rfl)) | ((with_reducible apply Sm.augI); (focus rfl)) | ((with_reducible refine Sm.dicE ?_ ?_); (focus decide)) | ((with_reducible apply Sm.augS); (focus rfl)) | (with_reducible refine iteTT ?_) | (with_reducible refine iteT ?_) | (with_reducible refine iteF ?_) | ((with_reducible refine iteB1 ?_ ?_); (focus rfl)) | ((with_reducible refine iteB0 ?_ ?_); (focus rfl)))))
local macro_rules | `(tactic| walk_at "lw n") => `(tactic| (try dsimp only [ent, List.map, Nat.reduceAdd, Nat.reduceSub, List.length_cons, List.length_nil, List.replicate_succ, List.replicate_zero, List.cons_append, List.nil_append, putBack, setOwn, List.getElem?_cons_zero, List.getElem?_cons_succ, List.set_cons_zero, List.set_cons_succ, Sm.nf]))
local macro_rules | `(tactic| walk_at "lw v") => `(tactic| (try simp only [pb1, pb2, pb3, pb4]))
/-! ### running over, by the law's own loop -/
abbrev P3 := Int × Int × Int
end Lw
-- F2
-- F3
namespace Lw
open PySem PySem.Spec PyProof.Rows L2
local macro_rules | `(tactic| walk_at "lw e") => `(tactic| (repeat (first | (with_reducible refine Stp.go ?_) | (with_reducible apply Exists.intro) | ((with_reducible refine And.intro ?_ ?_); · (first | (with_reducible exact Evl.ev) | ((fail_if_success (with_reducible refine Gd.keep ?_)); rfl) | ((with_reducible apply mul_r); decide) | ((with_reducible apply mul_l); decide) | ((with_reducible apply div_i); decide) | ((with_reducible apply in_R); decide) | (exact Nat.le_of_ble_eq_true rfl) | (simp [refsOf]; done) | (exact ⟨rfl, rfl, by decide⟩) | (exact ⟨rfl, rfl, rfl⟩) | ((with_reducible apply tgN_o); (focus rfl); (focus (first | assumption | trivial))))) | ((with_reducible apply Sm.vrP); (focus rfl)) | ((with_reducible apply Sm.vrO); (focus rfl)) | ((with_reducible apply Sm.augI); (focus rfl)) | ((with_reducible refine Sm.dicE ?_ ?_); (focus decide)) | ((with_reducible apply Sm.augS); (focus rfl)) | (with_reducible refine iteTT ?_) | (with_reducible refine iteT ?_) | (with_reducible refine iteF ?_) | ((with_reducible refine iteB1 ?_ ?_); (focus rfl)) | ((with_reducible refine iteB0 ?_ ?_); (focus rfl)))))
local macro_rules | `(tactic| walk_at "lw n") => `(tactic| (try dsimp only [ent, List.map, Nat.reduceAdd, Nat.reduceSub, List.length_cons, List.length_nil, List.replicate_succ, List.replicate_zero, List.cons_append, List.nil_append, putBack, setOwn, List.getElem?_cons_zero, List.getElem?_cons_succ, List.set_cons_zero, List.set_cons_succ, Sm.nf]))
local macro_rules | `(tactic| walk_at "lw v") => `(tactic| (try simp only [pb1, pb2, pb3, pb4]))
/-! ### the law's own step -/
/-- what takes takes something -/
def Takes (ps : List P3) : Dd → Prop
  | .fill l => 1 ≤ sz ps l
  | .lower _ m => 1 ≤ m
  | .empty l => 1 ≤ sz ps l
  | .raise _ m => 1 ≤ m
end Lw
-- F2
-- F3
namespace Lw
open PySem PySem.Spec PyProof.Rows L2
local macro_rules | `(tactic| walk_at "lw e") => `(tactic| (repeat (first | (with_reducible refine Stp.go ?_) | (with_reducible apply Exists.intro) | ((with_reducible refine And.intro ?_ ?_); · (first | (with_reducible exact Evl.ev) | ((fail_if_success (with_reducible refine Gd.keep ?_)); rfl) | ((with_reducible apply mul_r); decide) | ((with_reducible apply mul_l); decide) | ((with_reducible apply div_i); decide) | ((with_reducible apply in_R); decide) | (exact Nat.le_of_ble_eq_true rfl) | (simp [refsOf]; done) | (exact ⟨rfl, rfl, by decide⟩) | (exact ⟨rfl, rfl, rfl⟩) | ((with_reducible apply tgN_o); (focus rfl); (focus (first | assumption | trivial))))) | ((with_reducible apply Sm.vrP); (focus rfl)) | ((with_reducible apply Sm.vrO); (focus rfl)) | ((with_reducible apply Sm.augI); (focus rfl)) | ((with_reducible refine Sm.dicE ?_ ?_); (focus decide)) | ((with_reducible apply Sm.augS); (focus rfl)) | (with_reducible refine iteTT ?_) | (with_reducible refine iteT ?_) | (with_reducible refine iteF ?_) | ((with_reducible refine iteB1 ?_ ?_); (focus rfl)) | ((with_reducible refine iteB0 ?_ ?_); (focus rfl)))))
local macro_rules | `(tactic| walk_at "lw n") => `(tactic| (try dsimp only [ent, List.map, Nat.reduceAdd, Nat.reduceSub, List.length_cons, List.length_nil, List.replicate_succ, List.replicate_zero, List.cons_append, List.nil_append, putBack, setOwn, List.getElem?_cons_zero, List.getElem?_cons_succ, List.set_cons_zero, List.set_cons_succ, Sm.nf]))
local macro_rules | `(tactic| walk_at "lw v") => `(tactic| (try simp only [pb1, pb2, pb3, pb4]))
/-! ### the law's own walk -/
def okD (s : Gs) : D := .tuple [sD s.1 s.2.1, it s.2.2, .none]
def badD (s : Gs) (i : Nat) (w : Str) (a : Nat) : D := .tuple [sD s.1 s.2.1, it s.2.2, .tuple [.int i, .str w, .int a]]
def wk (ps : List P3) (loose : Bool) : Gs → List Dd → Nat → D
  | s, [], _ => okD s
  | s, d :: ds, i => if loose = false ∧ shut s.2.1 d = true then badD s i "shut" d.at
    else if loose = false ∧ dry ps s.1 d = true then badD s i "dry" d.at else wk ps loose (gst ps s d) ds (i + 1)
end Lw
-- F2
-- F3
namespace Lw
open PySem PySem.Spec PyProof.Rows L2
local macro_rules | `(tactic| walk_at "lw e") => `(tactic| (repeat (first | (with_reducible refine Stp.go ?_) | (with_reducible apply Exists.intro) | ((with_reducible refine And.intro ?_ ?_); · (first | (with_reducible exact Evl.ev) | ((fail_if_success (with_reducible refine Gd.keep ?_)); rfl) | ((with_reducible apply mul_r); decide) | ((with_reducible apply mul_l); decide) | ((with_reducible apply div_i); decide) | ((with_reducible apply in_R); decide) | (exact Nat.le_of_ble_eq_true rfl) | (simp [refsOf]; done) | (exact ⟨rfl, rfl, by decide⟩) | (exact ⟨rfl, rfl, rfl⟩) | ((with_reducible apply tgN_o); (focus rfl); (focus (first | assumption | trivial))))) | ((with_reducible apply Sm.vrP); (focus rfl)) | ((with_reducible apply Sm.vrO); (focus rfl)) | ((with_reducible apply Sm.augI); (focus rfl)) | ((with_reducible refine Sm.dicE ?_ ?_); (focus decide)) | ((with_reducible apply Sm.augS); (focus rfl)) | (with_reducible refine iteTT ?_) | (with_reducible refine iteT ?_) | (with_reducible refine iteF ?_) | ((with_reducible refine iteB1 ?_ ?_); (focus rfl)) | ((with_reducible refine iteB0 ?_ ?_); (focus rfl)))))
local macro_rules | `(tactic| walk_at "lw n") => `(tactic| (try dsimp only [ent, List.map, Nat.reduceAdd, Nat.reduceSub, List.length_cons, List.length_nil, List.replicate_succ, List.replicate_zero, List.cons_append, List.nil_append, putBack, setOwn, List.getElem?_cons_zero, List.getElem?_cons_succ, List.set_cons_zero, List.set_cons_succ, Sm.nf]))
local macro_rules | `(tactic| walk_at "lw v") => `(tactic| (try simp only [pb1, pb2, pb3, pb4]))
/-! ### tables -/
abbrev Tab := List (List Int)
def fmin : List Int → Int
  | [] => 0
  | x :: xs => xs.foldl min x
def ev (row parts : List Int) : Int := fmin (List.zipWith (· + ·) row parts)
def ledT : Tab → List Int → List Int
  | [], _ => []
  | row :: rows, parts => ev row parts :: ledT rows parts.tail
def hd0 (t : Tab) : List Int := t.headD [0]
def Shp : Nat → Tab → Prop
  | 0, t => t = []
  | n + 1, t => ∃ row rows, t = row :: rows ∧ row.length = n + 2 ∧ Shp n rows
theorem Shp.len : ∀ {n : Nat} {t : Tab}, Shp n t → t.length = n
  | 0, _, h => by rw [show _ = [] from h]; rfl
  | n + 1, _, ⟨row, rows, e, _, h⟩ => by rw [e, List.length_cons, h.len]
theorem Shp.hd : ∀ {n : Nat} {t : Tab}, Shp n t → (hd0 t).length = n + 1
  | 0, _, h => by rw [show _ = [] from h]; rfl
  | n + 1, _, ⟨row, rows, e, h, _⟩ => by rw [e]; exact h
def brimT : List P3 → Tab
  | [] => []
  | p :: ps => (0 :: (hd0 (brimT ps)).map (p.2.1 + ·)) :: brimT ps
theorem brim_shp : ∀ ps : List P3, Shp ps.length (brimT ps)
  | [] => rfl
  | p :: ps => ⟨_, _, rfl, by rw [List.length_cons, List.length_map, (brim_shp ps).hd], brim_shp ps⟩
def behT : List P3 → Tab → Nat → Int → Tab
  | p :: ps, row :: rows, c, m => (((row.map (· + if 1 ≤ c then m else 0)).headD 0) :: List.zipWith (fun a b => min a (p.2.1 + b)) (row.map (· + if 1 ≤ c then m else 0)).tail (hd0 (behT ps rows (c - 1) m))) :: behT ps rows (c - 1) m
  | _, _, _, _ => []
theorem beh_shp : ∀ {ps : List P3} {t : Tab} {c : Nat} {m : Int}, Shp ps.length t → Shp ps.length (behT ps t c m)
  | [], t, c, m, h => rfl
  | p :: ps, t, c, m, h => by
    obtain ⟨row, rows, rfl, h1, h2⟩ := h
    have ih := beh_shp (ps := ps) (c := c - 1) (m := m) h2
    refine ⟨_, _, rfl, ?_, ih⟩
    rw [List.length_cons, List.length_zipWith, List.length_tail, List.length_map, ih.hd, h1]
    omega
def tabStep (ps : List P3) (t : Tab) (d : Dd) : Tab := behT ps t (chg ps d).1.toNat (chg ps d).2
def tabOf (ps : List P3) (ds : List Dd) : Tab := ds.foldl (tabStep ps) (brimT ps)
theorem tab_shp {ps : List P3} : ∀ (ds : List Dd) (t : Tab), Shp ps.length t → Shp ps.length (ds.foldl (tabStep ps) t)
  | [], t, h => h
  | d :: ds, t, h => tab_shp ds _ (beh_shp h)
theorem tabOf_shp (ps : List P3) (ds : List Dd) : Shp ps.length (tabOf ps ds) := tab_shp ds _ (brim_shp ps)
/-- levels behind deeds, leasts and chambers left aside -/
def lvs (ps : List P3) (ls : List Int) (ds : List Dd) : List Int := ds.foldl (aft ps) ls
end Lw
-- F2
-- F3
namespace Lw
open PySem PySem.Spec PyProof.Rows L2
local macro_rules | `(tactic| walk_at "lw e") => `(tactic| (repeat (first | (with_reducible refine Stp.go ?_) | (with_reducible apply Exists.intro) | ((with_reducible refine And.intro ?_ ?_); · (first | (with_reducible exact Evl.ev) | ((fail_if_success (with_reducible refine Gd.keep ?_)); rfl) | ((with_reducible apply mul_r); decide) | ((with_reducible apply mul_l); decide) | ((with_reducible apply div_i); decide) | ((with_reducible apply in_R); decide) | (exact Nat.le_of_ble_eq_true rfl) | (simp [refsOf]; done) | (exact ⟨rfl, rfl, by decide⟩) | (exact ⟨rfl, rfl, rfl⟩) | ((with_reducible apply tgN_o); (focus rfl); (focus (first | assumption | trivial))))) | ((with_reducible apply Sm.vrP); (focus rfl)) | ((with_reducible apply Sm.vrO); (focus rfl)) | ((with_reducible apply Sm.augI); (focus rfl)) | ((with_reducible refine Sm.dicE ?_ ?_); (focus decide)) | ((with_reducible apply Sm.augS); (focus rfl)) | (with_reducible refine iteTT ?_) | (with_reducible refine iteT ?_) | (with_reducible refine iteF ?_) | ((with_reducible refine iteB1 ?_ ?_); (focus rfl)) | ((with_reducible refine iteB0 ?_ ?_); (focus rfl)))))
local macro_rules | `(tactic| walk_at "lw n") => `(tactic| (try dsimp only [ent, List.map, Nat.reduceAdd, Nat.reduceSub, List.length_cons, List.length_nil, List.replicate_succ, List.replicate_zero, List.cons_append, List.nil_append, putBack, setOwn, List.getElem?_cons_zero, List.getElem?_cons_succ, List.set_cons_zero, List.set_cons_succ, Sm.nf]))
local macro_rules | `(tactic| walk_at "lw v") => `(tactic| (try simp only [pb1, pb2, pb3, pb4]))
def tabD (t : Tab) : D := .tuple (t.map it)
structure TabG (tv : D) (xs : List D) (t : Tab) : Prop where
  its : items tv = some xs
  len : xs.length = t.length
  ok : ∀ (i : Nat) x r, xs[i]? = some x → t[i]? = some r → Seq x r
def plusD (k : Int) : D → D
  | .int m => .int (k + m)
  | d => d
def IBt (st : D) (ps : List P3) (i : Nat) (ς : En) : Prop := ∃ o3 : Option S, ς = [some (.pure st), some (.own false ((brimT (ps.drop (ps.length - i))).reverse.map it)), some (.pure (it (hd0 (brimT (ps.drop (ps.length - i)))))), o3, none] ∧ Fr o3
theorem brim_ok {st : D} {xs : List D} {ps : List P3} (hs : StairG st xs ps) (hp : ps.length ≤ 1000) : wpf m_p_brim_table [.pure st] (ValQ fun x => x = tabD (brimT ps)) := by
  have hsl : sizeLine = 16777216 := rfl
  obtain ⟨r, d, r1, r2, r3⟩ := rev_any hs.its
  have hxl := hs.len
  refine Sm.run ?_
  unfold g_p_brim_table
  walk_at "lw n"
  walk_at "lw e"
  refine ⟨r1, _, _, _, r2 _, r3, ?_⟩
  refine Sm.loopInv (IBt st ps) ⟨none, ?_, trivial⟩ ?_ ?_
  · rw [Nat.sub_zero, List.drop_length]; rfl
  · rintro i x ς hx ⟨o3, rfl, f3⟩
    have hi : i < ps.length := by have := (List.getElem?_eq_some_iff.mp hx).1; rw [List.length_reverse] at this; omega
    rw [List.getElem?_reverse (by omega)] at hx
    obtain ⟨k, hk⟩ : ∃ k, ps.length - 1 - i = k := ⟨_, rfl⟩
    rw [show xs.length - 1 - i = k by omega] at hx
    have hkl : k < ps.length := by omega
    have hpn := hs.ok k x _ hx (List.getElem?_eq_getElem hkl)
    have sh := brim_shp (ps.drop (k + 1))
    have hh := sh.hd
    rw [List.length_drop] at hh
    have ed : ps.drop k = ps[k] :: ps.drop (k + 1) := List.drop_eq_getElem_cons hkl
    rw [show ps.length - i = k + 1 by omega]
    refine ⟨_, tgN_o rfl f3, ?_⟩
    walk_at "lw n"
    walk_at "lw e"
    refine Sm.lcPure (plusD ps[k].2.1) (by rw [List.length_map]; omega) ?_ ?_
    · intro y hy
      obtain ⟨m, hm, rfl⟩ := List.mem_map.1 hy
      refine ⟨_, tgN_o rfl trivial, ?_⟩
      walk_at "lw n"
      walk_at "lw e"
      refine ⟨hpn.b, ?_⟩
      walk_at "lw e"
      first | rfl | exact ⟨rfl, rfl⟩
    have em : ((hd0 (brimT (ps.drop (k + 1)))).map PyData.int).map (plusD ps[k].2.1) = ((hd0 (brimT (ps.drop (k + 1)))).map (ps[k].2.1 + ·)).map PyData.int := by
      rw [List.map_map, List.map_map]; rfl
    rw [em]
    dsimp only [wipeE]
    walk_at "lw n"
    walk_at "lw e"
    refine ⟨catT_ok (by simp; omega), ?_⟩
    walk_at "lw e"
    walk_at "lw n"
    walk_at "lw e"
    refine ⟨app_ok (by rw [List.length_map, List.length_reverse, sh.len, List.length_drop]; omega), ?_⟩
    refine ⟨some (.pure x), ?_, trivial⟩
    rw [show ps.length - (i + 1) = k by omega, ed]
    have eb : brimT (ps[k] :: ps.drop (k + 1)) = (0 :: (hd0 (brimT (ps.drop (k + 1)))).map (ps[k].2.1 + ·)) :: brimT (ps.drop (k + 1)) := rfl
    rw [eb, List.reverse_cons, List.map_append]
    rfl
  · rintro ς ⟨o3, rfl, f3⟩
    rw [List.length_reverse, hxl, Nat.sub_self, List.drop_zero]
    walk_at "lw e"
    refine ⟨_, rfl, ?_⟩
    unfold tabD
    show PyData.tuple _ = PyData.tuple _
    rw [← List.map_reverse, List.reverse_reverse]
/-! ### table_behind -/
def mnD (q : Int) : D → D
  | .tuple [.int a, .int b] => .int (if q + b < a then q + b else a)
  | d => d
def adD (k : Int) : D → D
  | .int h => .int (h + k)
  | d => d
theorem mn_map (q : Int) : ∀ (xs ys : List Int), ((List.zip xs ys).map fun p => PyData.tuple [.int p.1, .int p.2]).map (mnD q) = (List.zipWith (fun a b => min a (q + b)) xs ys).map PyData.int
  | [], _ => rfl
  | _ :: _, [] => rfl
  | x :: xs, y :: ys => by
    rw [List.zip_cons_cons, List.map_cons, List.map_cons, mn_map q xs ys, List.zipWith_cons_cons, List.map_cons]
    congr 1
    show PyData.int (if q + y < x then q + y else x) = _
    congr 1
    omega
theorem Shp.dropS : ∀ {n : Nat} {t : Tab} (k : Nat), Shp n t → k ≤ n → Shp (n - k) (t.drop k)
  | n, t, 0, h, _ => h
  | 0, t, k + 1, h, hk => by omega
  | n + 1, t, k + 1, h, hk => by
    obtain ⟨row, rows, rfl, _, h2⟩ := h
    rw [List.drop_succ_cons, show n + 1 - (k + 1) = n - k by omega]
    exact Shp.dropS k h2 (by omega)
theorem Shp.row {n : Nat} {t : Tab} {k : Nat} (h : Shp n t) (hk : k < n) : ∃ a r, t.drop k = (a :: r) :: t.drop (k + 1) ∧ t[k]? = some (a :: r) ∧ r.length = n - k := by
  have hd := h.dropS k (by omega)
  rw [show n - k = (n - k - 1) + 1 by omega] at hd
  obtain ⟨row, rows, e, hl, _⟩ := hd
  have hlt : k < t.length := by rw [h.len]; exact hk
  rw [List.drop_eq_getElem_cons hlt] at e ⊢
  injection e with e1 e2
  cases row with
  | nil => simp at hl
  | cons a r => exact ⟨a, r, by rw [e1], by rw [List.getElem?_eq_getElem hlt, e1], by rw [List.length_cons] at hl; omega⟩
theorem lix0 {w : D} {r : List D} : gIx (.list (w :: r)) (.int 0) = some (.pure w) := at_list (xs := w :: r) (by decide) (by rw [List.length_cons]; omega)
def ITb (st tv dv : D) (ps : List P3) (t : Tab) (c : Nat) (m : Int) (i : Nat) (ς : En) : Prop := ∃ o7 o8 o9 o11 : Option S, ς = [some (.pure st), some (.pure tv), some (.pure dv), some (.pure (.int (c : Int))), some (.pure (.int m)), some (.own false ((behT (ps.drop (ps.length - i)) (t.drop (ps.length - i)) (c - (ps.length - i)) m).reverse.map it)), some (.pure (it (hd0 (behT (ps.drop (ps.length - i)) (t.drop (ps.length - i)) (c - (ps.length - i)) m)))), o7, o8, o9, none, o11, none] ∧ Fr o7 ∧ Fr o8 ∧ Fr o9 ∧ Fr o11
theorem rn2_ok {n : Nat} (h : n ≤ 1000) : gRn2 (.int 1) (.int ((n : Int) + 1)) = some (rngD 1 n).reverse := by
  show (if inR 1 = true ∧ inR ((n : Int) + 1) = true then some (rngD 1 ((n : Int) + 1 - 1).toNat).reverse else none) = _
  rw [if_pos ⟨in_R (by omega), in_R (by omega)⟩, show ((n : Int) + 1 - 1).toNat = n by omega]
theorem behind1_ok {st dv : D} {xs : List D} {ps : List P3} {t : Tab} {d : Dd} (hs : StairG st xs ps) (hd : Dt dv d) (ho : d.On ps.length) (hp : ps.length ≤ 1000) (ht : Shp ps.length t) : wpf m_p_table_behind [.pure st, .pure (tabD t), .pure dv] (ValQ fun x => x = tabD (tabStep ps t d)) := by
  have hsl : sizeLine = 16777216 := rfl
  have hc := chg_on (ps := ps) ho
  have ec : ((chg ps d).1.toNat : Int) = (chg ps d).1 := by omega
  unfold tabStep
  have hch := changeG hs hd ho
  rw [← ec] at hch
  generalize (chg ps d).1.toNat = c at hch ec
  generalize (chg ps d).2 = m at hch
  refine Sm.run ?_
  unfold g_p_table_behind
  walk_at "lw n"
  walk_at "lw e"
  (refine Sm.fmono (hch) fun r o h => ?_; obtain ⟨d, rfl, rfl⟩ := h; refine ⟨nref, ?_⟩; walk_at "lw v"; walk_at "lw e")
  walk_at "lw n"
  walk_at "lw e"
  refine ⟨hs.glen, Sm.cn ⟨_, _, _, rfl, rfl, rfl, _, _, rfl, _, rn2_ok hp, ?_⟩⟩
  refine Sm.loopInv (ITb st (tabD t) dv ps t c m) ⟨none, none, none, none, ?_, trivial, trivial, trivial, trivial⟩ ?_ ?_
  · rw [Nat.sub_zero, List.drop_length, show t.drop ps.length = [] by rw [← ht.len, List.drop_length]]; rfl
  · rintro i x ς hx ⟨o7, o8, o9, o11, rfl, f7, f8, f9, f11⟩
    have hi : i < ps.length := by have := (List.getElem?_eq_some_iff.mp hx).1; rw [List.length_reverse, rngD_len] at this; omega
    rw [List.getElem?_reverse (by rw [rngD_len]; omega), rngD_len, rngD_get _ _ _ (by omega)] at hx
    cases hx
    obtain ⟨k, hk⟩ : ∃ k, ps.length - 1 - i = k := ⟨_, rfl⟩
    rw [hk, show ps.length - i = k + 1 by omega]
    have hkl : k < ps.length := by omega
    have ekn : (1 : Int) + k - 1 = (k : Int) := by omega
    obtain ⟨a, r, ed, eg, hr⟩ := ht.row hkl
    have edp : ps.drop k = ps[k] :: ps.drop (k + 1) := List.drop_eq_getElem_cons hkl
    have ix1 : gIx (tabD t) (.int ((1 : Int) + k - 1)) = some (.pure (it (a :: r))) := by
      rw [ekn, ix_items (t := tabD t) rfl (by omega) (by rw [List.length_map, ht.len]; omega), Int.toNat_natCast, List.getD_eq_getElem?_getD, List.getElem?_map, eg]
      rfl
    obtain ⟨px, ix2, hpx⟩ := hs.ix (l := k + 1) (by omega) (by omega)
    have epx : pAt ps (k + 1 - 1) = ps[k] := by
      unfold pAt
      rw [Nat.add_sub_cancel, List.getD_eq_getElem?_getD, List.getElem?_eq_getElem hkl]
      rfl
    rw [epx] at hpx
    have ix2' : gIx st (.int ((1 : Int) + k - 1)) = some (.pure px) := by rw [← ix2]; congr 2; omega
    have sh := beh_shp (ps := ps.drop (k + 1)) (t := t.drop (k + 1)) (c := c - (k + 1)) (m := m) (by rw [List.length_drop]; exact ht.dropS (k + 1) (by omega))
    have shh := sh.hd
    rw [List.length_drop] at shh
    refine ⟨_, tgN_o rfl f7, ?_⟩
    walk_at "lw n"
    obtain ⟨q, hq⟩ : ∃ q : Int, (if 1 ≤ c - k then m else 0) = q := ⟨_, rfl⟩
    refine Sm.sq ?_
    refine Sm.asg (Sm.ife (Sm.tst (Sm.op2 (Sm.vrP rfl (Sm.vrP rfl ⟨_, _, _, rfl, rfl, rfl, _, rfl, ?_⟩)))))
    have hite : ∀ {A B : Prop}, (q = m → A) → (q = 0 → B) → if decide ((1 : Int) + k ≤ (c : Int)) = true then A else B := by
      intro A B hA hB
      by_cases h : (1 : Int) + k ≤ (c : Int)
      · refine iteDT h (hA ?_); rw [← hq, if_pos (by omega)]
      · refine iteDF h (hB ?_); rw [← hq, if_neg (by omega)]
    have rest : Sm.andThen (sq (asg (lcE (itS (op2 gIx (vr 1) (op2 gSubA (vr 7) (cn (.int 1))))) [10] (tgN 10) (ret true) (op2 gAddA (vr 10) (vr 8))) (tgN 9))
  (sq (asg (op2 gIx (op2 gIx (vr 0) (op2 gSubA (vr 7) (cn (.int 1)))) (cn (.int 1))) (tgN 11))
  (sq (asg (op2 gAddA (tupE (argV (op2 gIx (vr 9) (cn (.int 0))) argN)) (cal1 gTuple (lcE (itZ2 (slE (vr 9) (ptS (cn (.int 1))) ptN) (vr 6)) [10, 12] (tgT 2 (tgsC (tgN 10) (tgsC (tgN 12) tgsN))) (ret true) (op2 (g2I fun i j => if j < i then j else i) (vr 10) (op2 gAddA (vr 11) (vr 12)))))) (tgN 6))
  (exS (mth hApp (vr 5) (argV (vr 6) argN)))))) (fun o => match o with | .nx ς2 => ITb st (tabD t) dv ps t c m (i + 1) ς2 | .ct ς2 => ITb st (tabD t) dv ps t c m (i + 1) ς2 | .bk ς2 => Sm.andThen (retS (cal1 gTuple (cal1 gRev (vr 5)))) (Sm.outF 3 (ValQ fun x => x = tabD (behT ps t c m))) (.nx ς2) | .rt r ς2 => Sm.andThen (retS (cal1 gTuple (cal1 gRev (vr 5)))) (Sm.outF 3 (ValQ fun x => x = tabD (behT ps t c m))) (.rt r ς2))
        (.nx [some (.pure st), some (.pure (tabD t)), some (.pure dv), some (.pure (.int (c : Int))), some (.pure (.int m)), some (.own false ((behT (ps.drop (k + 1)) (t.drop (k + 1)) (c - (k + 1)) m).reverse.map it)), some (.pure (it (hd0 (behT (ps.drop (k + 1)) (t.drop (k + 1)) (c - (k + 1)) m)))), some (.pure (.int ((1 : Int) + k))), some (.pure (.int q)), o9, none, o11, none]) := by
      have fin : ITb st (tabD t) dv ps t c m (i + 1) [some (.pure st), some (.pure (tabD t)), some (.pure dv), some (.pure (.int (c : Int))), some (.pure (.int m)), some (.own false ((behT (ps.drop (k + 1)) (t.drop (k + 1)) (c - (k + 1)) m).reverse.map it ++ [.tuple ([.int (a + q)] ++ (List.zipWith (fun a b => min a (ps[k].2.1 + b)) (r.map (· + q)) (hd0 (behT (ps.drop (k + 1)) (t.drop (k + 1)) (c - (k + 1)) m))).map PyData.int)])), some (.pure (.tuple ([.int (a + q)] ++ (List.zipWith (fun a b => min a (ps[k].2.1 + b)) (r.map (· + q)) (hd0 (behT (ps.drop (k + 1)) (t.drop (k + 1)) (c - (k + 1)) m))).map PyData.int))), some (.pure (.int ((1 : Int) + k))), some (.pure (.int q)), some (.pure (.list (((a :: r).map (· + q)).map PyData.int))), none, some (.pure (.int ps[k].2.1)), none] := by
        refine ⟨some (.pure (.int ((1 : Int) + k))), some (.pure (.int q)), some (.pure (.list (((a :: r).map (· + q)).map PyData.int))), some (.pure (.int ps[k].2.1)), ?_, trivial, trivial, trivial, trivial⟩
        have eb : behT (ps.drop k) (t.drop k) (c - k) m = ((a + q) :: List.zipWith (fun a b => min a (ps[k].2.1 + b)) (r.map (· + q)) (hd0 (behT (ps.drop (k + 1)) (t.drop (k + 1)) (c - (k + 1)) m))) :: behT (ps.drop (k + 1)) (t.drop (k + 1)) (c - (k + 1)) m := by
          rw [edp, ed, behT, hq, show c - k - 1 = c - (k + 1) by omega]
          rfl
        rw [show ps.length - (i + 1) = k by omega, eb, List.reverse_cons, List.map_append]
        rfl
      have em : ((a :: r).map PyData.int).map (adD q) = ((a :: r).map (· + q)).map PyData.int := by rw [List.map_map, List.map_map]; rfl
      refine Sm.at_nx ?_
      walk_at "lw e"
      refine ⟨ix1, ?_⟩
      walk_at "lw e"
      refine Sm.lcPure (adD q) (by rw [List.length_map, List.length_cons]; omega) ?_ ?_
      · intro y hy
        obtain ⟨n, hn, rfl⟩ := List.mem_map.1 hy
        refine ⟨_, tgN_o rfl trivial, ?_⟩
        walk_at "lw n"
        walk_at "lw e"
        first | rfl | exact ⟨rfl, rfl⟩
      rw [em]
      dsimp only [wipeE]
      refine ⟨_, _, _, rfl, tgN_o rfl f9, ?_⟩
      walk_at "lw n"
      walk_at "lw e"
      refine ⟨ix2', ?_⟩
      walk_at "lw e"
      refine ⟨hpx.b, ?_⟩
      refine ⟨_, _, _, rfl, tgN_o rfl f11, ?_⟩
      walk_at "lw n"
      walk_at "lw e"
      refine ⟨lix0, ?_⟩
      walk_at "lw e"
      have ecut : cutD (PyData.int (a + q) :: (r.map (· + q)).map PyData.int) (some 1) none = (r.map (· + q)).map PyData.int := by
        rw [show (some (1 : Int)) = some ((1 : Nat) : Int) from rfl, cut_from]; rfl
      rw [ecut, zip_ints]
      refine Sm.lcPure (mnD ps[k].2.1) (by simp; omega) ?_ ?_
      · intro y hy
        obtain ⟨p, hm, rfl⟩ := List.mem_map.1 hy
        refine ⟨_, tgT2_o rfl trivial rfl trivial, ?_⟩
        walk_at "lw n"
        walk_at "lw e"
        first | rfl | exact ⟨rfl, rfl⟩
      rw [mn_map]
      dsimp only [wipeE]
      walk_at "lw n"
      walk_at "lw e"
      refine ⟨catT_ok (by simp; omega), ?_⟩
      walk_at "lw e"
      walk_at "lw n"
      walk_at "lw e"
      refine ⟨app_ok (by rw [List.length_map, List.length_reverse, sh.len, List.length_drop]; omega), ?_⟩
      exact fin
    refine hite (fun e => ?_) (fun e => ?_)
    · refine Sm.vrP rfl ⟨_, _, _, rfl, tgN_o rfl f8, ?_⟩
      rw [e] at rest
      exact rest
    · refine Sm.cn ⟨_, _, _, rfl, tgN_o rfl f8, ?_⟩
      rw [e] at rest
      exact rest
  · rintro ς ⟨o7, o8, o9, o11, rfl, f7, f8, f9, f11⟩
    rw [List.length_reverse, rngD_len, Nat.sub_self, List.drop_zero, List.drop_zero, Nat.sub_zero]
    walk_at "lw e"
    refine ⟨_, rfl, ?_⟩
    unfold tabD
    show PyData.tuple _ = PyData.tuple _
    rw [← List.map_reverse, List.reverse_reverse]
end Lw
-- F2
-- F3
namespace Lw
open PySem PySem.Spec PyProof.Rows L2
local macro_rules | `(tactic| walk_at "lw e") => `(tactic| (repeat (first | (with_reducible refine Stp.go ?_) | (with_reducible apply Exists.intro) | ((with_reducible refine And.intro ?_ ?_); · (first | (with_reducible exact Evl.ev) | ((fail_if_success (with_reducible refine Gd.keep ?_)); rfl) | ((with_reducible apply mul_r); decide) | ((with_reducible apply mul_l); decide) | ((with_reducible apply div_i); decide) | ((with_reducible apply in_R); decide) | (exact Nat.le_of_ble_eq_true rfl) | (simp [refsOf]; done) | (exact ⟨rfl, rfl, by decide⟩) | (exact ⟨rfl, rfl, rfl⟩) | ((with_reducible apply tgN_o); (focus rfl); (focus (first | assumption | trivial))))) | ((with_reducible apply Sm.vrP); (focus rfl)) | ((with_reducible apply Sm.vrO); (focus rfl)) | ((with_reducible apply Sm.augI); (focus rfl)) | ((with_reducible refine Sm.dicE ?_ ?_); (focus decide)) | ((with_reducible apply Sm.augS); (focus rfl)) | (with_reducible refine iteTT ?_) | (with_reducible refine iteT ?_) | (with_reducible refine iteF ?_) | ((with_reducible refine iteB1 ?_ ?_); (focus rfl)) | ((with_reducible refine iteB0 ?_ ?_); (focus rfl)))))
local macro_rules | `(tactic| walk_at "lw n") => `(tactic| (try dsimp only [ent, List.map, Nat.reduceAdd, Nat.reduceSub, List.length_cons, List.length_nil, List.replicate_succ, List.replicate_zero, List.cons_append, List.nil_append, putBack, setOwn, List.getElem?_cons_zero, List.getElem?_cons_succ, List.set_cons_zero, List.set_cons_succ, Sm.nf]))
local macro_rules | `(tactic| walk_at "lw v") => `(tactic| (try simp only [pb1, pb2, pb3, pb4]))
/-- the tables ahead of each deed, and behind the last -/
def along (ps : List P3) (ds : List Dd) : List Tab := (List.range (ds.length + 1)).map fun i => tabOf ps (ds.take i)
theorem tabOf_snoc {ps : List P3} {ds : List Dd} {i : Nat} {d : Dd} (h : ds[i]? = some d) : tabOf ps (ds.take (i + 1)) = tabStep ps (tabOf ps (ds.take i)) d := by
  unfold tabOf
  rw [List.take_add_one, h, List.foldl_append]
  rfl
def FreshQ (P : List D → Prop) (r : R) (_ : List S) : Prop := ∃ ds, r = .fresh ds ∧ P ds
def ITa (st t : D) (ps : List P3) (ds : List Dd) (i : Nat) (ς : En) : Prop := ∃ o4 : Option S, ς = [some (.pure st), some (.pure t), some (.pure (tabD (tabOf ps (ds.take i)))), some (.own false (((List.range (i + 1)).map fun j => tabOf ps (ds.take j)).map tabD)), o4] ∧ Fr o4
theorem along_ok {st t : D} {xs ts : List D} {ps : List P3} {ds : List Dd} (hs : StairG st xs ps) (ht : DeedsG t ts ds) (ho : ∀ d ∈ ds, d.On ps.length) (hp : ps.length ≤ 1000) (hl : ds.length ≤ 1000) : wpf m_p_tables_along [.pure st, .pure t] (FreshQ fun x => x = (along ps ds).map tabD) := by
  refine Sm.run ?_
  unfold g_p_tables_along
  walk_at "lw n"
  walk_at "lw e"
  (refine Sm.fmono (brim_ok hs hp) fun r o h => ?_; obtain ⟨d, rfl, rfl⟩ := h; refine ⟨nref, ?_⟩; walk_at "lw v"; walk_at "lw e")
  walk_at "lw n"
  walk_at "lw e"
  refine ⟨ht.its, ?_⟩
  refine Sm.loopInv (ITa st t ps ds) ⟨none, ?_, trivial⟩ ?_ ?_
  · rfl
  · rintro i x ς hx ⟨o4, rfl, f4⟩
    have hi : i < ds.length := by have := (List.getElem?_eq_some_iff.mp hx).1; have := ht.len; omega
    have hd := ht.ok i x _ hx (List.getElem?_eq_getElem hi)
    have hq : ds[i]? = some ds[i] := List.getElem?_eq_getElem hi
    have hm := List.getElem_mem hi
    refine ⟨_, tgN_o rfl f4, ?_⟩
    walk_at "lw n"
    walk_at "lw e"
    (refine Sm.fmono (behind1_ok hs hd (ho _ hm) hp (tabOf_shp ps (ds.take i))) fun r o h => ?_; obtain ⟨d, rfl, rfl⟩ := h; refine ⟨nref, ?_⟩; walk_at "lw v"; walk_at "lw e")
    walk_at "lw n"
    walk_at "lw e"
    refine ⟨app_ok (by simp; omega), ?_⟩
    refine ⟨some (.pure x), ?_, trivial⟩
    rw [← tabOf_snoc hq, List.range_succ (n := i + 1), List.map_append, List.map_append]
    rfl
  · rintro ς ⟨o4, rfl, f4⟩
    rw [ht.len, List.take_length]
    refine Sm.at_nx (Sm.retS (Sm.vrO rfl (Sm.oM rfl (Sm.fF ⟨_, rfl, rfl⟩))))
theorem last_ok {t : Tab} {ts : List Tab} (h : ts ≠ []) (e : ts.getLast h = t) : gIx (.list (ts.map tabD)) (.int (-1)) = some (.pure (tabD t)) := by
  have hl : 0 < ts.length := List.length_pos_iff.2 h
  have e1 : atI (ts.map tabD) (-1) = some (tabD t) := by
    unfold atI ixN
    rw [List.length_map, if_neg (by decide), if_pos (by omega)]
    show (ts.map tabD)[(_ : Int).toNat]? = _
    have e2 : (-1 + (ts.length : Int)).toNat = ts.length - 1 := by omega
    rw [e2, List.getElem?_map, List.getElem?_eq_getElem (by omega), ← e, List.getLast_eq_getElem]
    rfl
  show (atI (ts.map tabD) (-1)).map R.pure = _
  rw [e1]; rfl
theorem along_last (ps : List P3) (ds : List Dd) : ∃ h : along ps ds ≠ [], (along ps ds).getLast h = tabOf ps ds := by
  have hne : along ps ds ≠ [] := fun e => by have := congrArg List.length e; simp [along] at this
  refine ⟨hne, ?_⟩
  rw [List.getLast_eq_getElem]
  unfold along
  simp
theorem table_ok {st t : D} {xs ts : List D} {ps : List P3} {ds : List Dd} (hs : StairG st xs ps) (ht : DeedsG t ts ds) (ho : ∀ d ∈ ds, d.On ps.length) (hp : ps.length ≤ 1000) (hl : ds.length ≤ 1000) : wpf m_p_table_of [.pure st, .pure t] (ValQ fun x => x = tabD (tabOf ps ds)) := by
  obtain ⟨hne, e⟩ := along_last ps ds
  refine Sm.run ?_
  unfold g_p_table_of
  walk_at "lw n"
  walk_at "lw e"
  refine Sm.fmono (along_ok hs ht ho hp hl) fun r o h => ?_
  obtain ⟨z, rfl, rfl⟩ := h
  refine ⟨nfr, ?_⟩
  walk_at "lw v"
  walk_at "lw e"
  refine ⟨last_ok hne e, ?_⟩
  walk_at "lw e"
  exact ⟨_, rfl, rfl⟩
/-! ### led -/
/-! ### is_table of a table -/
/-! ### totals and levels -/
end Lw
-- F2
-- F3
namespace Lw
open PySem PySem.Spec PyProof.Rows L2
local macro_rules | `(tactic| walk_at "lw e") => `(tactic| (repeat (first | (with_reducible refine Stp.go ?_) | (with_reducible apply Exists.intro) | ((with_reducible refine And.intro ?_ ?_); · (first | (with_reducible exact Evl.ev) | ((fail_if_success (with_reducible refine Gd.keep ?_)); rfl) | ((with_reducible apply mul_r); decide) | ((with_reducible apply mul_l); decide) | ((with_reducible apply div_i); decide) | ((with_reducible apply in_R); decide) | (exact Nat.le_of_ble_eq_true rfl) | (simp [refsOf]; done) | (exact ⟨rfl, rfl, by decide⟩) | (exact ⟨rfl, rfl, rfl⟩) | ((with_reducible apply tgN_o); (focus rfl); (focus (first | assumption | trivial))))) | ((with_reducible apply Sm.vrP); (focus rfl)) | ((with_reducible apply Sm.vrO); (focus rfl)) | ((with_reducible apply Sm.augI); (focus rfl)) | ((with_reducible refine Sm.dicE ?_ ?_); (focus decide)) | ((with_reducible apply Sm.augS); (focus rfl)) | (with_reducible refine iteTT ?_) | (with_reducible refine iteT ?_) | (with_reducible refine iteF ?_) | ((with_reducible refine iteB1 ?_ ?_); (focus rfl)) | ((with_reducible refine iteB0 ?_ ?_); (focus rfl)))))
local macro_rules | `(tactic| walk_at "lw n") => `(tactic| (try dsimp only [ent, List.map, Nat.reduceAdd, Nat.reduceSub, List.length_cons, List.length_nil, List.replicate_succ, List.replicate_zero, List.cons_append, List.nil_append, putBack, setOwn, List.getElem?_cons_zero, List.getElem?_cons_succ, List.set_cons_zero, List.set_cons_succ, Sm.nf]))
local macro_rules | `(tactic| walk_at "lw v") => `(tactic| (try simp only [pb1, pb2, pb3, pb4]))
/-! ### how great a table's numbers are -/
/-! ### a table is read off -/
theorem fmin_mem : ∀ {zs : List Int}, zs ≠ [] → fmin zs ∈ zs
  | [], h => absurd rfl h
  | z :: zs, _ => by
    rcases foldl_min_mem zs z with e | e
    · show zs.foldl min z ∈ _; rw [e]; simp
    · exact List.mem_cons_of_mem _ e
theorem fmin_le : ∀ {zs : List Int} {x : Int}, x ∈ zs → fmin zs ≤ x
  | z :: zs, x, h => by
    have := foldl_min_le zs z
    rcases List.mem_cons.1 h with rfl | h
    · exact this.1
    · exact this.2 x h
end Lw
-- F2
-- F3
namespace Lw
open PySem PySem.Spec PyProof.Rows L2
local macro_rules | `(tactic| walk_at "lw e") => `(tactic| (repeat (first | (with_reducible refine Stp.go ?_) | (with_reducible apply Exists.intro) | ((with_reducible refine And.intro ?_ ?_); · (first | (with_reducible exact Evl.ev) | ((fail_if_success (with_reducible refine Gd.keep ?_)); rfl) | ((with_reducible apply mul_r); decide) | ((with_reducible apply mul_l); decide) | ((with_reducible apply div_i); decide) | ((with_reducible apply in_R); decide) | (exact Nat.le_of_ble_eq_true rfl) | (simp [refsOf]; done) | (exact ⟨rfl, rfl, by decide⟩) | (exact ⟨rfl, rfl, rfl⟩) | ((with_reducible apply tgN_o); (focus rfl); (focus (first | assumption | trivial))))) | ((with_reducible apply Sm.vrP); (focus rfl)) | ((with_reducible apply Sm.vrO); (focus rfl)) | ((with_reducible apply Sm.augI); (focus rfl)) | ((with_reducible refine Sm.dicE ?_ ?_); (focus decide)) | ((with_reducible apply Sm.augS); (focus rfl)) | (with_reducible refine iteTT ?_) | (with_reducible refine iteT ?_) | (with_reducible refine iteF ?_) | ((with_reducible refine iteB1 ?_ ?_); (focus rfl)) | ((with_reducible refine iteB0 ?_ ?_); (focus rfl)))))
local macro_rules | `(tactic| walk_at "lw n") => `(tactic| (try dsimp only [ent, List.map, Nat.reduceAdd, Nat.reduceSub, List.length_cons, List.length_nil, List.replicate_succ, List.replicate_zero, List.cons_append, List.nil_append, putBack, setOwn, List.getElem?_cons_zero, List.getElem?_cons_succ, List.set_cons_zero, List.set_cons_succ, Sm.nf]))
local macro_rules | `(tactic| walk_at "lw v") => `(tactic| (try simp only [pb1, pb2, pb3, pb4]))
/-! ### the law's own reading of a table -/
end Lw
-- F2
-- F3
namespace Lw
open PySem PySem.Spec PyProof.Rows L2
local macro_rules | `(tactic| walk_at "lw e") => `(tactic| (repeat (first | (with_reducible refine Stp.go ?_) | (with_reducible apply Exists.intro) | ((with_reducible refine And.intro ?_ ?_); · (first | (with_reducible exact Evl.ev) | ((fail_if_success (with_reducible refine Gd.keep ?_)); rfl) | ((with_reducible apply mul_r); decide) | ((with_reducible apply mul_l); decide) | ((with_reducible apply div_i); decide) | ((with_reducible apply in_R); decide) | (exact Nat.le_of_ble_eq_true rfl) | (simp [refsOf]; done) | (exact ⟨rfl, rfl, by decide⟩) | (exact ⟨rfl, rfl, rfl⟩) | ((with_reducible apply tgN_o); (focus rfl); (focus (first | assumption | trivial))))) | ((with_reducible apply Sm.vrP); (focus rfl)) | ((with_reducible apply Sm.vrO); (focus rfl)) | ((with_reducible apply Sm.augI); (focus rfl)) | ((with_reducible refine Sm.dicE ?_ ?_); (focus decide)) | ((with_reducible apply Sm.augS); (focus rfl)) | (with_reducible refine iteTT ?_) | (with_reducible refine iteT ?_) | (with_reducible refine iteF ?_) | ((with_reducible refine iteB1 ?_ ?_); (focus rfl)) | ((with_reducible refine iteB0 ?_ ?_); (focus rfl)))))
local macro_rules | `(tactic| walk_at "lw n") => `(tactic| (try dsimp only [ent, List.map, Nat.reduceAdd, Nat.reduceSub, List.length_cons, List.length_nil, List.replicate_succ, List.replicate_zero, List.cons_append, List.nil_append, putBack, setOwn, List.getElem?_cons_zero, List.getElem?_cons_succ, List.set_cons_zero, List.set_cons_succ, Sm.nf]))
local macro_rules | `(tactic| walk_at "lw v") => `(tactic| (try simp only [pb1, pb2, pb3, pb4]))
/-- deeds whose numbers are small -/
def D9 (g : Nat) : Dd → Prop
  | .raise _ m => 1 ≤ m ∧ m ≤ 9 * g
  | .lower _ m => 1 ≤ m ∧ m ≤ 9 * g
  | _ => True
/-- deeds of a stair, at most so many -/
def LotN (N n g : Nat) (ds : List Dd) : Prop := ds.length ≤ N ∧ ∀ d ∈ ds, d.On n ∧ D9 g d
/-! ### the first numbers of a table's rows -/
/-! ### any levels -/
end Lw
-- F2
-- F3
namespace Lw
open PySem PySem.Spec PyProof.Rows L2
local macro_rules | `(tactic| walk_at "lw e") => `(tactic| (repeat (first | (with_reducible refine Stp.go ?_) | (with_reducible apply Exists.intro) | ((with_reducible refine And.intro ?_ ?_); · (first | (with_reducible exact Evl.ev) | ((fail_if_success (with_reducible refine Gd.keep ?_)); rfl) | ((with_reducible apply mul_r); decide) | ((with_reducible apply mul_l); decide) | ((with_reducible apply div_i); decide) | ((with_reducible apply in_R); decide) | (exact Nat.le_of_ble_eq_true rfl) | (simp [refsOf]; done) | (exact ⟨rfl, rfl, by decide⟩) | (exact ⟨rfl, rfl, rfl⟩) | ((with_reducible apply tgN_o); (focus rfl); (focus (first | assumption | trivial))))) | ((with_reducible apply Sm.vrP); (focus rfl)) | ((with_reducible apply Sm.vrO); (focus rfl)) | ((with_reducible apply Sm.augI); (focus rfl)) | ((with_reducible refine Sm.dicE ?_ ?_); (focus decide)) | ((with_reducible apply Sm.augS); (focus rfl)) | (with_reducible refine iteTT ?_) | (with_reducible refine iteT ?_) | (with_reducible refine iteF ?_) | ((with_reducible refine iteB1 ?_ ?_); (focus rfl)) | ((with_reducible refine iteB0 ?_ ?_); (focus rfl)))))
local macro_rules | `(tactic| walk_at "lw n") => `(tactic| (try dsimp only [ent, List.map, Nat.reduceAdd, Nat.reduceSub, List.length_cons, List.length_nil, List.replicate_succ, List.replicate_zero, List.cons_append, List.nil_append, putBack, setOwn, List.getElem?_cons_zero, List.getElem?_cons_succ, List.set_cons_zero, List.set_cons_succ, Sm.nf]))
local macro_rules | `(tactic| walk_at "lw v") => `(tactic| (try simp only [pb1, pb2, pb3, pb4]))
/-! ### tables behind one another -/
theorem getD_some {xs : List Int} {i : Nat} (h : i < xs.length) : xs[i]? = some (xs.getD i 0) := by
  rw [List.getD_eq_getElem?_getD, List.getElem?_eq_getElem h]; rfl
/-! ### so often -/
def iter {α : Type} (f : α → α) : Nat → α → α
  | 0, x => x
  | k + 1, x => iter f k (f x)
def Led (t : Tab) (T : List Int) : List Int := ledT t (T ++ [0])
/-- whether a bit is set -/
def bit (m i : Nat) : Bool := m / 2 ^ i % 2 != 0
end Lw
-- F2
-- F3
namespace Lw
open PySem PySem.Spec PyProof.Rows L2
local macro_rules | `(tactic| walk_at "lw e") => `(tactic| (repeat (first | (with_reducible refine Stp.go ?_) | (with_reducible apply Exists.intro) | ((with_reducible refine And.intro ?_ ?_); · (first | (with_reducible exact Evl.ev) | ((fail_if_success (with_reducible refine Gd.keep ?_)); rfl) | ((with_reducible apply mul_r); decide) | ((with_reducible apply mul_l); decide) | ((with_reducible apply div_i); decide) | ((with_reducible apply in_R); decide) | (exact Nat.le_of_ble_eq_true rfl) | (simp [refsOf]; done) | (exact ⟨rfl, rfl, by decide⟩) | (exact ⟨rfl, rfl, rfl⟩) | ((with_reducible apply tgN_o); (focus rfl); (focus (first | assumption | trivial))))) | ((with_reducible apply Sm.vrP); (focus rfl)) | ((with_reducible apply Sm.vrO); (focus rfl)) | ((with_reducible apply Sm.augI); (focus rfl)) | ((with_reducible refine Sm.dicE ?_ ?_); (focus decide)) | ((with_reducible apply Sm.augS); (focus rfl)) | (with_reducible refine iteTT ?_) | (with_reducible refine iteT ?_) | (with_reducible refine iteF ?_) | ((with_reducible refine iteB1 ?_ ?_); (focus rfl)) | ((with_reducible refine iteB0 ?_ ?_); (focus rfl)))))
local macro_rules | `(tactic| walk_at "lw n") => `(tactic| (try dsimp only [ent, List.map, Nat.reduceAdd, Nat.reduceSub, List.length_cons, List.length_nil, List.replicate_succ, List.replicate_zero, List.cons_append, List.nil_append, putBack, setOwn, List.getElem?_cons_zero, List.getElem?_cons_succ, List.set_cons_zero, List.set_cons_succ, Sm.nf]))
local macro_rules | `(tactic| walk_at "lw v") => `(tactic| (try simp only [pb1, pb2, pb3, pb4]))
theorem TabG.ix {tv : D} {xs : List D} {t : Tab} (h : TabG tv xs t) {i : Nat} (hi : i < t.length) : ∃ x, gIx tv (.int (i : Int)) = some (.pure x) ∧ Seq x (t.getD i []) := by
  have hl := h.len
  refine ⟨xs.getD i .none, ?_, ?_⟩
  · rw [ix_items h.its (by omega) (by omega), Int.toNat_natCast]
  · refine h.ok i _ _ ?_ ?_
    · rw [List.getD_eq_getElem?_getD, List.getElem?_eq_getElem (by omega)]; rfl
    · rw [List.getD_eq_getElem?_getD, List.getElem?_eq_getElem hi]; rfl
end Lw
-- F2
-- F3
namespace Lw
open PySem PySem.Spec PyProof.Rows L2
local macro_rules | `(tactic| walk_at "lw e") => `(tactic| (repeat (first | (with_reducible refine Stp.go ?_) | (with_reducible apply Exists.intro) | ((with_reducible refine And.intro ?_ ?_); · (first | (with_reducible exact Evl.ev) | ((fail_if_success (with_reducible refine Gd.keep ?_)); rfl) | ((with_reducible apply mul_r); decide) | ((with_reducible apply mul_l); decide) | ((with_reducible apply div_i); decide) | ((with_reducible apply in_R); decide) | (exact Nat.le_of_ble_eq_true rfl) | (simp [refsOf]; done) | (exact ⟨rfl, rfl, by decide⟩) | (exact ⟨rfl, rfl, rfl⟩) | ((with_reducible apply tgN_o); (focus rfl); (focus (first | assumption | trivial))))) | ((with_reducible apply Sm.vrP); (focus rfl)) | ((with_reducible apply Sm.vrO); (focus rfl)) | ((with_reducible apply Sm.augI); (focus rfl)) | ((with_reducible refine Sm.dicE ?_ ?_); (focus decide)) | ((with_reducible apply Sm.augS); (focus rfl)) | (with_reducible refine iteTT ?_) | (with_reducible refine iteT ?_) | (with_reducible refine iteF ?_) | ((with_reducible refine iteB1 ?_ ?_); (focus rfl)) | ((with_reducible refine iteB0 ?_ ?_); (focus rfl)))))
local macro_rules | `(tactic| walk_at "lw n") => `(tactic| (try dsimp only [ent, List.map, Nat.reduceAdd, Nat.reduceSub, List.length_cons, List.length_nil, List.replicate_succ, List.replicate_zero, List.cons_append, List.nil_append, putBack, setOwn, List.getElem?_cons_zero, List.getElem?_cons_succ, List.set_cons_zero, List.set_cons_succ, Sm.nf]))
local macro_rules | `(tactic| walk_at "lw v") => `(tactic| (try simp only [pb1, pb2, pb3, pb4]))
/-- how many doubles are wanted -/
def dn (m : Nat) : Nat := Builtin.Int.intBits (m : Int) - 1 + 1
end Lw
-- F2
-- F3
namespace Lw
open PySem PySem.Spec PyProof.Rows L2
local macro_rules | `(tactic| walk_at "lw e") => `(tactic| (repeat (first | (with_reducible refine Stp.go ?_) | (with_reducible apply Exists.intro) | ((with_reducible refine And.intro ?_ ?_); · (first | (with_reducible exact Evl.ev) | ((fail_if_success (with_reducible refine Gd.keep ?_)); rfl) | ((with_reducible apply mul_r); decide) | ((with_reducible apply mul_l); decide) | ((with_reducible apply div_i); decide) | ((with_reducible apply in_R); decide) | (exact Nat.le_of_ble_eq_true rfl) | (simp [refsOf]; done) | (exact ⟨rfl, rfl, by decide⟩) | (exact ⟨rfl, rfl, rfl⟩) | ((with_reducible apply tgN_o); (focus rfl); (focus (first | assumption | trivial))))) | ((with_reducible apply Sm.vrP); (focus rfl)) | ((with_reducible apply Sm.vrO); (focus rfl)) | ((with_reducible apply Sm.augI); (focus rfl)) | ((with_reducible refine Sm.dicE ?_ ?_); (focus decide)) | ((with_reducible apply Sm.augS); (focus rfl)) | (with_reducible refine iteTT ?_) | (with_reducible refine iteT ?_) | (with_reducible refine iteF ?_) | ((with_reducible refine iteB1 ?_ ?_); (focus rfl)) | ((with_reducible refine iteB0 ?_ ?_); (focus rfl)))))
local macro_rules | `(tactic| walk_at "lw n") => `(tactic| (try dsimp only [ent, List.map, Nat.reduceAdd, Nat.reduceSub, List.length_cons, List.length_nil, List.replicate_succ, List.replicate_zero, List.cons_append, List.nil_append, putBack, setOwn, List.getElem?_cons_zero, List.getElem?_cons_succ, List.set_cons_zero, List.set_cons_succ, Sm.nf]))
local macro_rules | `(tactic| walk_at "lw v") => `(tactic| (try simp only [pb1, pb2, pb3, pb4]))
/-! ### levels none above its most -/
def Below (ps : List P3) (ls : List Int) : Prop := ls.length = ps.length ∧ ∀ z ∈ ps.zip ls, z.2 ≤ z.1.2.1
theorem ov_most : ∀ (ps : List P3) (ls : List Int), ls.length = ps.length → Below ps (ov (ps.zip ls)).1
  | [], [], _ => ⟨rfl, fun z h => by cases h⟩
  | p :: ps, l :: ls, h => by
    have ih := ov_most ps ls (by simpa using h)
    rw [List.zip_cons_cons, ov]
    refine ⟨by rw [List.length_cons, List.length_cons, ih.1], fun z hz => ?_⟩
    rw [List.zip_cons_cons] at hz
    rcases List.mem_cons.1 hz with rfl | hz
    · dsimp only
      unfold spill
      split <;> omega
    · exact ih.2 z hz
theorem aft_below {ps : List P3} {ls : List Int} {d : Dd} (hl : ls.length = ps.length) : Below ps (aft ps ls d) := ov_most ps _ (by rw [add1_len]; exact hl)
theorem lvs_below {ps : List P3} : ∀ (ds : List Dd) {ls : List Int}, Below ps ls → Below ps (lvs ps ls ds)
  | [], ls, h => h
  | d :: ds, ls, h => lvs_below ds (aft_below h.1)
def rnd (ps : List P3) (ds : List Dd) (ls : List Int) : List Int := lvs ps ls ds
theorem iter_below {ps : List P3} {ds : List Dd} : ∀ (m : Nat) {ls : List Int}, Below ps ls → Below ps (iter (rnd ps ds) m ls)
  | 0, ls, h => h
  | m + 1, ls, h => iter_below m (lvs_below ds h)
/-! ### what ran over, by totals -/
end Lw
-- F2
-- F3
namespace Lw
open PySem PySem.Spec PyProof.Rows L2
local macro_rules | `(tactic| walk_at "lw e") => `(tactic| (repeat (first | (with_reducible refine Stp.go ?_) | (with_reducible apply Exists.intro) | ((with_reducible refine And.intro ?_ ?_); · (first | (with_reducible exact Evl.ev) | ((fail_if_success (with_reducible refine Gd.keep ?_)); rfl) | ((with_reducible apply mul_r); decide) | ((with_reducible apply mul_l); decide) | ((with_reducible apply div_i); decide) | ((with_reducible apply in_R); decide) | (exact Nat.le_of_ble_eq_true rfl) | (simp [refsOf]; done) | (exact ⟨rfl, rfl, by decide⟩) | (exact ⟨rfl, rfl, rfl⟩) | ((with_reducible apply tgN_o); (focus rfl); (focus (first | assumption | trivial))))) | ((with_reducible apply Sm.vrP); (focus rfl)) | ((with_reducible apply Sm.vrO); (focus rfl)) | ((with_reducible apply Sm.augI); (focus rfl)) | ((with_reducible refine Sm.dicE ?_ ?_); (focus decide)) | ((with_reducible apply Sm.augS); (focus rfl)) | (with_reducible refine iteTT ?_) | (with_reducible refine iteT ?_) | (with_reducible refine iteF ?_) | ((with_reducible refine iteB1 ?_ ?_); (focus rfl)) | ((with_reducible refine iteB0 ?_ ?_); (focus rfl)))))
local macro_rules | `(tactic| walk_at "lw n") => `(tactic| (try dsimp only [ent, List.map, Nat.reduceAdd, Nat.reduceSub, List.length_cons, List.length_nil, List.replicate_succ, List.replicate_zero, List.cons_append, List.nil_append, putBack, setOwn, List.getElem?_cons_zero, List.getElem?_cons_succ, List.set_cons_zero, List.set_cons_succ, Sm.nf]))
local macro_rules | `(tactic| walk_at "lw v") => `(tactic| (try simp only [pb1, pb2, pb3, pb4]))
/-! ### levels drawn below the most -/
def FlatP (ps : List P3) (ns : List Int) : Prop := ∀ (i : Nat) n, ns[i]? = some n → ∃ p, ps[i]? = some p ∧ n ≤ p.2.1 ∧ n.natAbs ≤ 200000000000000000
theorem FlatP.snoc {ps : List P3} {ns : List Int} {n : Int} {p : P3} (h : FlatP ps ns) (hp : ps[ns.length]? = some p) (h1 : n ≤ p.2.1) (h2 : n.natAbs ≤ 200000000000000000) : FlatP ps (ns ++ [n]) := by
  intro i m hi
  by_cases q : i < ns.length
  · rw [List.getElem?_append_left q] at hi
    exact h i m hi
  · rw [List.getElem?_append_right (by omega)] at hi
    have : i = ns.length := by have := (List.getElem?_eq_some_iff.mp hi).1; simp at this; omega
    subst this
    simp at hi
    subst hi
    exact ⟨p, hp, h1, h2⟩
end Lw
-- F2
-- F3
namespace Lw
open PySem PySem.Spec PyProof.Rows L2
local macro_rules | `(tactic| walk_at "lw e") => `(tactic| (repeat (first | (with_reducible refine Stp.go ?_) | (with_reducible apply Exists.intro) | ((with_reducible refine And.intro ?_ ?_); · (first | (with_reducible exact Evl.ev) | ((fail_if_success (with_reducible refine Gd.keep ?_)); rfl) | ((with_reducible apply mul_r); decide) | ((with_reducible apply mul_l); decide) | ((with_reducible apply div_i); decide) | ((with_reducible apply in_R); decide) | (exact Nat.le_of_ble_eq_true rfl) | (simp [refsOf]; done) | (exact ⟨rfl, rfl, by decide⟩) | (exact ⟨rfl, rfl, rfl⟩) | ((with_reducible apply tgN_o); (focus rfl); (focus (first | assumption | trivial))))) | ((with_reducible apply Sm.vrP); (focus rfl)) | ((with_reducible apply Sm.vrO); (focus rfl)) | ((with_reducible apply Sm.augI); (focus rfl)) | ((with_reducible refine Sm.dicE ?_ ?_); (focus decide)) | ((with_reducible apply Sm.augS); (focus rfl)) | (with_reducible refine iteTT ?_) | (with_reducible refine iteT ?_) | (with_reducible refine iteF ?_) | ((with_reducible refine iteB1 ?_ ?_); (focus rfl)) | ((with_reducible refine iteB0 ?_ ?_); (focus rfl)))))
local macro_rules | `(tactic| walk_at "lw n") => `(tactic| (try dsimp only [ent, List.map, Nat.reduceAdd, Nat.reduceSub, List.length_cons, List.length_nil, List.replicate_succ, List.replicate_zero, List.cons_append, List.nil_append, putBack, setOwn, List.getElem?_cons_zero, List.getElem?_cons_succ, List.set_cons_zero, List.set_cons_succ, Sm.nf]))
local macro_rules | `(tactic| walk_at "lw v") => `(tactic| (try simp only [pb1, pb2, pb3, pb4]))
theorem pw_4 : gPowA (.int 10) (.int 4) = some (.pure (.int 10000)) := rfl
theorem pw_11 : gPowA (.int 10) (.int 11) = some (.pure (.int 100000000000)) := rfl
theorem pw_13 : gPowA (.int 10) (.int 13) = some (.pure (.int 10000000000000)) := rfl
theorem pw_14 : gPowA (.int 10) (.int 14) = some (.pure (.int 100000000000000)) := rfl
theorem pw_16 : gPowA (.int 10) (.int 16) = some (.pure (.int 10000000000000000)) := rfl
instance : Evl (gPowA (.int 10) (.int 4)) (.pure (.int 10000)) := ⟨pw_4⟩
instance : Evl (gPowA (.int 10) (.int 11)) (.pure (.int 100000000000)) := ⟨pw_11⟩
instance : Evl (gPowA (.int 10) (.int 13)) (.pure (.int 10000000000000)) := ⟨pw_13⟩
instance : Evl (gPowA (.int 10) (.int 14)) (.pure (.int 100000000000000)) := ⟨pw_14⟩
instance : Evl (gPowA (.int 10) (.int 16)) (.pure (.int 10000000000000000)) := ⟨pw_16⟩
theorem pb5 {a b c d e : D} {o : List S} {ς : En} : putBack [.val a, .val b, .val c, .val d, .val e] o ς = ς := pbv fun _ => pb4
theorem pb6 {a b c d e f : D} {o : List S} {ς : En} : putBack [.val a, .val b, .val c, .val d, .val e, .val f] o ς = ς := pbv fun _ => pb5
theorem DeedsG.take {t d : D} {ts : List D} {ds : List Dd} (h : DeedsG t ts ds) {i : Nat} (hi : items d = some (ts.take i)) : DeedsG d (ts.take i) (ds.take i) := by
  have hl := h.len
  refine ⟨hi, by rw [List.length_take, List.length_take, hl], fun j x e h1 h2 => ?_⟩
  by_cases hj : j < i
  · rw [List.getElem?_take_of_lt hj] at h1 h2
    exact h.ok j x e h1 h2
  · rw [List.getElem?_take_eq_none (by omega)] at h1
    cases h1
/-! ### a stair, a round, levels below the most -/
structure Rnd (g : Nat) (ps : List P3) (ds : List Dd) (ns : List Int) : Prop where
  g1 : 1 ≤ g
  g2 : g ≤ 1000000000000000
  x1 : 1 ≤ ps.length
  x2 : ps.length ≤ 6
  hp : ∀ p ∈ ps, PoundI g p
  hd : LotN 40 ps.length g ds
  hb : Below ps ns
  nb : ∀ n ∈ ns, n.natAbs ≤ 200000000000000000
section
variable {g : Nat} {ps : List P3} {ds : List Dd} {ns : List Int}
theorem Rnd.len (e : Rnd g ps ds ns) (m : Nat) : (iter (rnd ps ds) m ns).length = ps.length := (iter_below m e.hb).1
theorem Rnd.take (e : Rnd g ps ds ns) (k : Nat) : LotN 40 ps.length g (ds.take k) := ⟨by have := e.hd.1; rw [List.length_take]; omega, fun d m => e.hd.2 d (List.mem_of_mem_take m)⟩
end
end Lw
-- F2
-- F3
-- F4
namespace Lw
open PySem PySem.Spec PyProof.Rows L2
local macro_rules | `(tactic| walk_at "lw e") => `(tactic| (repeat (first | (with_reducible refine Stp.go ?_) | (with_reducible apply Exists.intro) | ((with_reducible refine And.intro ?_ ?_); · (first | (with_reducible exact Evl.ev) | ((fail_if_success (with_reducible refine Gd.keep ?_)); rfl) | ((with_reducible apply mul_r); decide) | ((with_reducible apply mul_l); decide) | ((with_reducible apply div_i); decide) | ((with_reducible apply in_R); decide) | (exact Nat.le_of_ble_eq_true rfl) | (simp [refsOf]; done) | (exact ⟨rfl, rfl, by decide⟩) | (exact ⟨rfl, rfl, rfl⟩) | ((with_reducible apply tgN_o); (focus rfl); (focus (first | assumption | trivial))))) | ((with_reducible apply Sm.vrP); (focus rfl)) | ((with_reducible apply Sm.vrO); (focus rfl)) | ((with_reducible apply Sm.augI); (focus rfl)) | ((with_reducible refine Sm.dicE ?_ ?_); (focus decide)) | ((with_reducible apply Sm.augS); (focus rfl)) | (with_reducible refine iteTT ?_) | (with_reducible refine iteT ?_) | (with_reducible refine iteF ?_) | ((with_reducible refine iteB1 ?_ ?_); (focus rfl)) | ((with_reducible refine iteB0 ?_ ?_); (focus rfl)))))
local macro_rules | `(tactic| walk_at "lw n") => `(tactic| (try dsimp only [ent, List.map, Nat.reduceAdd, Nat.reduceSub, List.length_cons, List.length_nil, List.replicate_succ, List.replicate_zero, List.cons_append, List.nil_append, putBack, setOwn, List.getElem?_cons_zero, List.getElem?_cons_succ, List.set_cons_zero, List.set_cons_succ, Sm.nf]))
local macro_rules | `(tactic| walk_at "lw v") => `(tactic| (try simp only [pb1, pb2, pb3, pb4, pb5, pb6]))
theorem spill_nn (m : Int) : 0 ≤ spill m := by unfold spill; split <;> omega
end Lw
-- F2
-- F3
namespace Lw
open PySem PySem.Spec PyProof.Rows L2
local macro_rules | `(tactic| walk_at "lw e") => `(tactic| (repeat (first | (with_reducible refine Stp.go ?_) | (with_reducible apply Exists.intro) | ((with_reducible refine And.intro ?_ ?_); · (first | (with_reducible exact Evl.ev) | ((fail_if_success (with_reducible refine Gd.keep ?_)); rfl) | ((with_reducible apply mul_r); decide) | ((with_reducible apply mul_l); decide) | ((with_reducible apply div_i); decide) | ((with_reducible apply in_R); decide) | (exact Nat.le_of_ble_eq_true rfl) | (simp [refsOf]; done) | (exact ⟨rfl, rfl, by decide⟩) | (exact ⟨rfl, rfl, rfl⟩) | ((with_reducible apply tgN_o); (focus rfl); (focus (first | assumption | trivial))))) | ((with_reducible apply Sm.vrP); (focus rfl)) | ((with_reducible apply Sm.vrO); (focus rfl)) | ((with_reducible apply Sm.augI); (focus rfl)) | ((with_reducible refine Sm.dicE ?_ ?_); (focus decide)) | ((with_reducible apply Sm.augS); (focus rfl)) | (with_reducible refine iteTT ?_) | (with_reducible refine iteT ?_) | (with_reducible refine iteF ?_) | ((with_reducible refine iteB1 ?_ ?_); (focus rfl)) | ((with_reducible refine iteB0 ?_ ?_); (focus rfl)))))
local macro_rules | `(tactic| walk_at "lw n") => `(tactic| (try dsimp only [ent, List.map, Nat.reduceAdd, Nat.reduceSub, List.length_cons, List.length_nil, List.replicate_succ, List.replicate_zero, List.cons_append, List.nil_append, putBack, setOwn, List.getElem?_cons_zero, List.getElem?_cons_succ, List.set_cons_zero, List.set_cons_succ, Sm.nf]))
local macro_rules | `(tactic| walk_at "lw v") => `(tactic| (try simp only [pb1, pb2, pb3, pb4]))
/-- u is t, m times (m at least 1) -/
def Pow (n : Nat) (t : Tab) (m : Nat) (u : Tab) : Prop := Shp n u ∧ ∀ T : List Int, T.length = n → Led u T = iter (Led t) m T
end Lw
-- F2
-- F3
namespace Lw
open PySem PySem.Spec PyProof.Rows L2
local macro_rules | `(tactic| walk_at "lw e") => `(tactic| (repeat (first | (with_reducible refine Stp.go ?_) | (with_reducible apply Exists.intro) | ((with_reducible refine And.intro ?_ ?_); · (first | (with_reducible exact Evl.ev) | ((fail_if_success (with_reducible refine Gd.keep ?_)); rfl) | ((with_reducible apply mul_r); decide) | ((with_reducible apply mul_l); decide) | ((with_reducible apply div_i); decide) | ((with_reducible apply in_R); decide) | (exact Nat.le_of_ble_eq_true rfl) | (simp [refsOf]; done) | (exact ⟨rfl, rfl, by decide⟩) | (exact ⟨rfl, rfl, rfl⟩) | ((with_reducible apply tgN_o); (focus rfl); (focus (first | assumption | trivial))))) | ((with_reducible apply Sm.vrP); (focus rfl)) | ((with_reducible apply Sm.vrO); (focus rfl)) | ((with_reducible apply Sm.augI); (focus rfl)) | ((with_reducible refine Sm.dicE ?_ ?_); (focus decide)) | ((with_reducible apply Sm.augS); (focus rfl)) | (with_reducible refine iteTT ?_) | (with_reducible refine iteT ?_) | (with_reducible refine iteF ?_) | ((with_reducible refine iteB1 ?_ ?_); (focus rfl)) | ((with_reducible refine iteB0 ?_ ?_); (focus rfl)))))
local macro_rules | `(tactic| walk_at "lw n") => `(tactic| (try dsimp only [ent, List.map, Nat.reduceAdd, Nat.reduceSub, List.length_cons, List.length_nil, List.replicate_succ, List.replicate_zero, List.cons_append, List.nil_append, putBack, setOwn, List.getElem?_cons_zero, List.getElem?_cons_succ, List.set_cons_zero, List.set_cons_succ, Sm.nf]))
local macro_rules | `(tactic| walk_at "lw v") => `(tactic| (try simp only [pb1, pb2, pb3, pb4]))
def bl (m : Nat) : List Nat := (List.range (dn m)).filter (bit m)
end Lw
-- F2
-- F3
namespace Lw
open PySem PySem.Spec PyProof.Rows L2
local macro_rules | `(tactic| walk_at "lw e") => `(tactic| (repeat (first | (with_reducible refine Stp.go ?_) | (with_reducible apply Exists.intro) | ((with_reducible refine And.intro ?_ ?_); · (first | (with_reducible exact Evl.ev) | ((fail_if_success (with_reducible refine Gd.keep ?_)); rfl) | ((with_reducible apply mul_r); decide) | ((with_reducible apply mul_l); decide) | ((with_reducible apply div_i); decide) | ((with_reducible apply in_R); decide) | (exact Nat.le_of_ble_eq_true rfl) | (simp [refsOf]; done) | (exact ⟨rfl, rfl, by decide⟩) | (exact ⟨rfl, rfl, rfl⟩) | ((with_reducible apply tgN_o); (focus rfl); (focus (first | assumption | trivial))))) | ((with_reducible apply Sm.vrP); (focus rfl)) | ((with_reducible apply Sm.vrO); (focus rfl)) | ((with_reducible apply Sm.augI); (focus rfl)) | ((with_reducible refine Sm.dicE ?_ ?_); (focus decide)) | ((with_reducible apply Sm.augS); (focus rfl)) | (with_reducible refine iteTT ?_) | (with_reducible refine iteT ?_) | (with_reducible refine iteF ?_) | ((with_reducible refine iteB1 ?_ ?_); (focus rfl)) | ((with_reducible refine iteB0 ?_ ?_); (focus rfl)))))
local macro_rules | `(tactic| walk_at "lw n") => `(tactic| (try dsimp only [ent, List.map, Nat.reduceAdd, Nat.reduceSub, List.length_cons, List.length_nil, List.replicate_succ, List.replicate_zero, List.cons_append, List.nil_append, putBack, setOwn, List.getElem?_cons_zero, List.getElem?_cons_succ, List.set_cons_zero, List.set_cons_succ, Sm.nf]))
local macro_rules | `(tactic| walk_at "lw v") => `(tactic| (try simp only [pb1, pb2, pb3, pb4]))
end Lw
-- F2
-- F3
namespace Lw
open PySem PySem.Spec PyProof.Rows L2
local macro_rules | `(tactic| walk_at "lw e") => `(tactic| (repeat (first | (with_reducible refine Stp.go ?_) | (with_reducible apply Exists.intro) | ((with_reducible refine And.intro ?_ ?_); · (first | (with_reducible exact Evl.ev) | ((fail_if_success (with_reducible refine Gd.keep ?_)); rfl) | ((with_reducible apply mul_r); decide) | ((with_reducible apply mul_l); decide) | ((with_reducible apply div_i); decide) | ((with_reducible apply in_R); decide) | (exact Nat.le_of_ble_eq_true rfl) | (simp [refsOf]; done) | (exact ⟨rfl, rfl, by decide⟩) | (exact ⟨rfl, rfl, rfl⟩) | ((with_reducible apply tgN_o); (focus rfl); (focus (first | assumption | trivial))))) | ((with_reducible apply Sm.vrP); (focus rfl)) | ((with_reducible apply Sm.vrO); (focus rfl)) | ((with_reducible apply Sm.augI); (focus rfl)) | ((with_reducible refine Sm.dicE ?_ ?_); (focus decide)) | ((with_reducible apply Sm.augS); (focus rfl)) | (with_reducible refine iteTT ?_) | (with_reducible refine iteT ?_) | (with_reducible refine iteF ?_) | ((with_reducible refine iteB1 ?_ ?_); (focus rfl)) | ((with_reducible refine iteB0 ?_ ?_); (focus rfl)))))
local macro_rules | `(tactic| walk_at "lw n") => `(tactic| (try dsimp only [ent, List.map, Nat.reduceAdd, Nat.reduceSub, List.length_cons, List.length_nil, List.replicate_succ, List.replicate_zero, List.cons_append, List.nil_append, putBack, setOwn, List.getElem?_cons_zero, List.getElem?_cons_succ, List.set_cons_zero, List.set_cons_succ, Sm.nf]))
local macro_rules | `(tactic| walk_at "lw v") => `(tactic| (try simp only [pb1, pb2, pb3, pb4]))
end Lw
-- F2
-- F3
namespace Lw
open PySem PySem.Spec PyProof.Rows L2
local macro_rules | `(tactic| walk_at "lw e") => `(tactic| (repeat (first | (with_reducible refine Stp.go ?_) | (with_reducible apply Exists.intro) | ((with_reducible refine And.intro ?_ ?_); · (first | (with_reducible exact Evl.ev) | ((fail_if_success (with_reducible refine Gd.keep ?_)); rfl) | ((with_reducible apply mul_r); decide) | ((with_reducible apply mul_l); decide) | ((with_reducible apply div_i); decide) | ((with_reducible apply in_R); decide) | (exact Nat.le_of_ble_eq_true rfl) | (simp [refsOf]; done) | (exact ⟨rfl, rfl, by decide⟩) | (exact ⟨rfl, rfl, rfl⟩) | ((with_reducible apply tgN_o); (focus rfl); (focus (first | assumption | trivial))))) | ((with_reducible apply Sm.vrP); (focus rfl)) | ((with_reducible apply Sm.vrO); (focus rfl)) | ((with_reducible apply Sm.augI); (focus rfl)) | ((with_reducible refine Sm.dicE ?_ ?_); (focus decide)) | ((with_reducible apply Sm.augS); (focus rfl)) | (with_reducible refine iteTT ?_) | (with_reducible refine iteT ?_) | (with_reducible refine iteF ?_) | ((with_reducible refine iteB1 ?_ ?_); (focus rfl)) | ((with_reducible refine iteB0 ?_ ?_); (focus rfl)))))
local macro_rules | `(tactic| walk_at "lw n") => `(tactic| (try dsimp only [ent, List.map, Nat.reduceAdd, Nat.reduceSub, List.length_cons, List.length_nil, List.replicate_succ, List.replicate_zero, List.cons_append, List.nil_append, putBack, setOwn, List.getElem?_cons_zero, List.getElem?_cons_succ, List.set_cons_zero, List.set_cons_succ, Sm.nf]))
local macro_rules | `(tactic| walk_at "lw v") => `(tactic| (try simp only [pb1, pb2, pb3, pb4]))
end Lw
-- F2
-- F3
-- F4
namespace Lw
open PySem PySem.Spec PyProof.Rows L2
local macro_rules | `(tactic| walk_at "lw e") => `(tactic| (repeat (first | (with_reducible refine Stp.go ?_) | (with_reducible apply Exists.intro) | ((with_reducible refine And.intro ?_ ?_); · (first | (with_reducible exact Evl.ev) | ((fail_if_success (with_reducible refine Gd.keep ?_)); rfl) | ((with_reducible apply mul_r); decide) | ((with_reducible apply mul_l); decide) | ((with_reducible apply div_i); decide) | ((with_reducible apply in_R); decide) | (exact Nat.le_of_ble_eq_true rfl) | (simp [refsOf]; done) | (exact ⟨rfl, rfl, by decide⟩) | (exact ⟨rfl, rfl, rfl⟩) | ((with_reducible apply tgN_o); (focus rfl); (focus (first | assumption | trivial))))) | ((with_reducible apply Sm.vrP); (focus rfl)) | ((with_reducible apply Sm.vrO); (focus rfl)) | ((with_reducible apply Sm.augI); (focus rfl)) | ((with_reducible refine Sm.dicE ?_ ?_); (focus decide)) | ((with_reducible apply Sm.augS); (focus rfl)) | (with_reducible refine iteTT ?_) | (with_reducible refine iteT ?_) | (with_reducible refine iteF ?_) | ((with_reducible refine iteB1 ?_ ?_); (focus rfl)) | ((with_reducible refine iteB0 ?_ ?_); (focus rfl)))))
local macro_rules | `(tactic| walk_at "lw n") => `(tactic| (try dsimp only [ent, List.map, Nat.reduceAdd, Nat.reduceSub, List.length_cons, List.length_nil, List.replicate_succ, List.replicate_zero, List.cons_append, List.nil_append, putBack, setOwn, List.getElem?_cons_zero, List.getElem?_cons_succ, List.set_cons_zero, List.set_cons_succ, Sm.nf]))
local macro_rules | `(tactic| walk_at "lw v") => `(tactic| (try simp only [pb1, pb2, pb3, pb4, pb5, pb6]))
/-- levels from the least to the most -/
def Within (ps : List P3) (ls : List Int) : Prop := Below ps ls ∧ ∀ z ∈ ps.zip ls, z.1.1 ≤ z.2
theorem Within.len {ps : List P3} {ls : List Int} (h : Within ps ls) : ls.length = ps.length := h.1.1
theorem ov_lo : ∀ (ps : List P3) (ls : List Int), ls.length = ps.length → (∀ p ∈ ps, p.1 ≤ p.2.1) → (∀ z ∈ ps.zip ls, z.1.1 ≤ z.2) → ∀ z ∈ ps.zip (ov (ps.zip ls)).1, z.1.1 ≤ z.2
  | [], _, _, _, _ => fun z hz => by simp at hz
  | p :: ps, [], h, _, _ => by simp at h
  | p :: ps, l :: ls, h, hp, hz => by
    have ih := ov_lo ps ls (by simpa using h) (fun q m => hp q (by simp [m])) (fun z m => hz z (by rw [List.zip_cons_cons]; simp [m]))
    intro z m
    rw [List.zip_cons_cons] at m
    simp only [ov, List.zip_cons_cons, List.mem_cons] at m
    rcases m with rfl | m
    · have h1 := hp p (by simp)
      have h2 : p.1 ≤ l := hz (p, l) (by rw [List.zip_cons_cons]; simp)
      have h3 : 0 ≤ (ov (ps.zip ls)).2.2 := by
        cases ps.zip ls with
        | nil => exact Int.le_refl _
        | cons y ys => exact spill_nn _
      show p.1 ≤ l + (ov (ps.zip ls)).2.2 - spill (l + (ov (ps.zip ls)).2.2 - p.2.1)
      unfold spill
      split <;> omega
    · exact ih z m
theorem zip_ix {α β : Type} {xs : List α} {ys : List β} {z : α × β} (h : z ∈ xs.zip ys) : ∃ i : Nat, xs[i]? = some z.1 ∧ ys[i]? = some z.2 := by
  obtain ⟨i, hi⟩ := List.mem_iff_getElem?.1 h
  exact ⟨i, List.getElem?_zip_eq_some.1 hi⟩
theorem Within.at {ps : List P3} {ls : List Int} (h : Within ps ls) {i : Nat} {p : P3} {l : Int} (h1 : ps[i]? = some p) (h2 : ls[i]? = some l) : p.1 ≤ l ∧ l ≤ p.2.1 := by
  have hm : (p, l) ∈ ps.zip ls := List.mem_of_getElem? (List.getElem?_zip_eq_some (z := (p, l)).2 ⟨h1, h2⟩)
  exact ⟨h.2 _ hm, h.1.2 _ hm⟩
theorem Within.aft {ps : List P3} {ls : List Int} {d : Dd} (h : Within ps ls) (hp : ∀ p ∈ ps, p.1 ≤ p.2.1) (hd : dry ps ls d = false) : Within ps (aft ps ls d) := by
  have hl := h.len
  refine ⟨aft_below hl, ?_⟩
  unfold Lw.aft
  refine ov_lo ps _ (by rw [add1_len]; exact hl) hp ?_
  rintro ⟨pz, lz⟩ hz
  obtain ⟨i, h1, h2⟩ := zip_ix hz
  have h1 : ps[i]? = some pz := h1
  have h2 : (add1 ls (chg ps d).1 (chg ps d).2)[i]? = some lz := h2
  show pz.1 ≤ lz
  have hi : i < ls.length := by have := (List.getElem?_eq_some_iff.mp h1).1; omega
  have h3 := h.at h1 (getD_some hi)
  unfold add1 at h2
  split at h2
  · by_cases q : i = (chg ps d).1.toNat - 1
    · subst q
      rw [List.getElem?_set_self hi] at h2
      have h2 := Option.some.inj h2
      unfold dry at hd
      by_cases q2 : (chg ps d).2 ≥ 0
      · omega
      · rw [if_neg q2] at hd
        have hd := of_decide_eq_false hd
        have e : pAt ps ((chg ps d).1.toNat - 1) = pz := by unfold pAt; rw [List.getD_eq_getElem?_getD, h1]; rfl
        unfold asks at hd
        rw [e] at hd
        omega
    · rw [List.getElem?_set_ne (fun e => q e.symm), getD_some hi] at h2
      rw [← Option.some.inj h2]
      exact h3.1
  · rw [getD_some hi] at h2
    rw [← Option.some.inj h2]
    exact h3.1
theorem Within.bd {g : Nat} (hg : g ≤ 1000000000000000) {ps : List P3} {ls : List Int} (h : Within ps ls) (hp : ∀ p ∈ ps, PoundI g p) : ∀ l ∈ ls, 0 ≤ l ∧ l ≤ 40000000000000000 := by
  intro l hm
  obtain ⟨i, hi⟩ := List.mem_iff_getElem?.1 hm
  have hl : i < ps.length := by have := (List.getElem?_eq_some_iff.mp hi).1; have := h.len; omega
  have := h.at (List.getElem?_eq_getElem hl) hi
  have := pound_b hg (hp _ (List.getElem_mem hl))
  omega
end Lw
-- F2
-- F3
-- F4
namespace Lw
open PySem PySem.Spec PyProof.Rows L2
local macro_rules | `(tactic| walk_at "lw e") => `(tactic| (repeat (first | (with_reducible refine Stp.go ?_) | (with_reducible apply Exists.intro) | ((with_reducible refine And.intro ?_ ?_); · (first | (with_reducible exact Evl.ev) | ((fail_if_success (with_reducible refine Gd.keep ?_)); rfl) | ((with_reducible apply mul_r); decide) | ((with_reducible apply mul_l); decide) | ((with_reducible apply div_i); decide) | ((with_reducible apply in_R); decide) | (exact Nat.le_of_ble_eq_true rfl) | (simp [refsOf]; done) | (exact ⟨rfl, rfl, by decide⟩) | (exact ⟨rfl, rfl, rfl⟩) | ((with_reducible apply tgN_o); (focus rfl); (focus (first | assumption | trivial))))) | ((with_reducible apply Sm.vrP); (focus rfl)) | ((with_reducible apply Sm.vrO); (focus rfl)) | ((with_reducible apply Sm.augI); (focus rfl)) | ((with_reducible refine Sm.dicE ?_ ?_); (focus decide)) | ((with_reducible apply Sm.augS); (focus rfl)) | (with_reducible refine iteTT ?_) | (with_reducible refine iteT ?_) | (with_reducible refine iteF ?_) | ((with_reducible refine iteB1 ?_ ?_); (focus rfl)) | ((with_reducible refine iteB0 ?_ ?_); (focus rfl)))))
local macro_rules | `(tactic| walk_at "lw n") => `(tactic| (try dsimp only [ent, List.map, Nat.reduceAdd, Nat.reduceSub, List.length_cons, List.length_nil, List.replicate_succ, List.replicate_zero, List.cons_append, List.nil_append, putBack, setOwn, List.getElem?_cons_zero, List.getElem?_cons_succ, List.set_cons_zero, List.set_cons_succ, Sm.nf]))
local macro_rules | `(tactic| walk_at "lw v") => `(tactic| (try simp only [pb1, pb2, pb3, pb4, pb5, pb6]))
/-! ### raises -/
/-! ### lowering: nothing runs over -/
/-! ### all numbers so many times as great -/
end Lw
-- F2
-- F3
-- F4
namespace Lw
open PySem PySem.Spec PyProof.Rows L2
local macro_rules | `(tactic| walk_at "lw e") => `(tactic| (repeat (first | (with_reducible refine Stp.go ?_) | (with_reducible apply Exists.intro) | ((with_reducible refine And.intro ?_ ?_); · (first | (with_reducible exact Evl.ev) | ((fail_if_success (with_reducible refine Gd.keep ?_)); rfl) | ((with_reducible apply mul_r); decide) | ((with_reducible apply mul_l); decide) | ((with_reducible apply div_i); decide) | ((with_reducible apply in_R); decide) | (exact Nat.le_of_ble_eq_true rfl) | (simp [refsOf]; done) | (exact ⟨rfl, rfl, by decide⟩) | (exact ⟨rfl, rfl, rfl⟩) | ((with_reducible apply tgN_o); (focus rfl); (focus (first | assumption | trivial))))) | ((with_reducible apply Sm.vrP); (focus rfl)) | ((with_reducible apply Sm.vrO); (focus rfl)) | ((with_reducible apply Sm.augI); (focus rfl)) | ((with_reducible refine Sm.dicE ?_ ?_); (focus decide)) | ((with_reducible apply Sm.augS); (focus rfl)) | (with_reducible refine iteTT ?_) | (with_reducible refine iteT ?_) | (with_reducible refine iteF ?_) | ((with_reducible refine iteB1 ?_ ?_); (focus rfl)) | ((with_reducible refine iteB0 ?_ ?_); (focus rfl)))))
local macro_rules | `(tactic| walk_at "lw n") => `(tactic| (try dsimp only [ent, List.map, Nat.reduceAdd, Nat.reduceSub, List.length_cons, List.length_nil, List.replicate_succ, List.replicate_zero, List.cons_append, List.nil_append, putBack, setOwn, List.getElem?_cons_zero, List.getElem?_cons_succ, List.set_cons_zero, List.set_cons_succ, Sm.nf]))
local macro_rules | `(tactic| walk_at "lw v") => `(tactic| (try simp only [pb1, pb2, pb3, pb4, pb5, pb6]))
theorem le_most {g : Nat} (hg : g ≤ 1000000000000000) {ps : List P3} (hp : ∀ p ∈ ps, PoundI g p) : ∀ p ∈ ps, p.1 ≤ p.2.1 := fun p m => (pound_b hg (hp p m)).2.1
theorem ch_fine {bs : List Bool} (h : bs.length ≤ 6) : Fine 1000000000000000000 1 ((60 + 1) * 6) (.tuple (bs.map chD)) := by
  refine Fine.tup (fun x hx => ?_) (by rw [List.length_map]; exact h)
  obtain ⟨b, _, rfl⟩ := List.mem_map.1 hx
  cases b
  · exact ⟨lfb_fnb (strOk_str "low"), by decide⟩
  · exact ⟨lfb_fnb (strOk_str "high"), by decide⟩
theorem found_fine {ls rs : List Int} {bs : List Bool} (hl : ls.length ≤ 6) (hr : rs.length ≤ 6) (hb : bs.length ≤ 6) (h1 : ∀ x ∈ ls, x.natAbs ≤ 1000000000000000000) (h2 : ∀ x ∈ rs, x.natAbs ≤ 1000000000000000000) : Fine 1000000000000000000 3 ((((60 + 1) * 6 + 1) * 2 + 1) * 2) (.tuple [sD ls bs, it rs]) := by
  have f1 : Fine 1000000000000000000 1 ((60 + 1) * 6) (it ls) := Fine.it h1 (by decide) hl
  have f2 : Fine 1000000000000000000 1 ((60 + 1) * 6) (it rs) := Fine.it h2 (by decide) hr
  have f3 : Fine 1000000000000000000 2 (((60 + 1) * 6 + 1) * 2) (sD ls bs) := by
    refine Fine.tup (fun x hx => ?_) (by simp)
    simp only [List.mem_cons, List.not_mem_nil, or_false] at hx
    rcases hx with rfl | rfl
    · exact f1
    · exact ch_fine hb
  refine Fine.tup (fun x hx => ?_) (by simp)
  simp only [List.mem_cons, List.not_mem_nil, or_false] at hx
  rcases hx with rfl | rfl
  · exact f3
  · exact ⟨fn_mono (Nat.le_refl _) 1 2 _ (by decide) f2.1, Nat.le_trans f2.2 (by decide)⟩
/-- a stair of drawn pounds, levels within, chambers -/
structure Sb (g : Nat) (ps : List P3) (ls : List Int) (bs : List Bool) : Prop where
  g1 : 1 ≤ g
  g2 : g ≤ 1000000000000000
  x1 : 1 ≤ ps.length
  x2 : ps.length ≤ 6
  hp : ∀ p ∈ ps, PoundI g p
  w : Within ps ls
  bl : bs.length = ps.length
section
variable {g : Nat} {ps : List P3} {ls : List Int} {bs : List Bool}
theorem Sb.next (e : Sb g ps ls bs) {d : Dd} (hlet : Let ps ls bs d) : Sb g ps (aft ps ls d) (turn bs d) := ⟨e.g1, e.g2, e.x1, e.x2, e.hp, e.w.aft (le_most e.g2 e.hp) hlet.2, by rw [turn_len]; exact e.bl⟩
theorem Sb.fin (e : Sb g ps ls bs) {rs : List Int} (hr : rs.length ≤ 6) (h2 : ∀ x ∈ rs, x.natAbs ≤ 1000000000000000000) : Fine 1000000000000000000 3 ((((60 + 1) * 6 + 1) * 2 + 1) * 2) (.tuple [sD ls bs, it rs]) := by
  have hb := e.w.bd e.g2 e.hp
  have := e.x2
  exact found_fine (by rw [e.w.len]; omega) hr (by rw [e.bl]; omega) (fun x m => by have := hb x m; omega) h2
end
end Lw
-- F2
-- F3
-- F4
namespace Lw
open PySem PySem.Spec PyProof.Rows L2
local macro_rules | `(tactic| walk_at "lw e") => `(tactic| (repeat (first | (with_reducible refine Stp.go ?_) | (with_reducible apply Exists.intro) | ((with_reducible refine And.intro ?_ ?_); · (first | (with_reducible exact Evl.ev) | ((fail_if_success (with_reducible refine Gd.keep ?_)); rfl) | ((with_reducible apply mul_r); decide) | ((with_reducible apply mul_l); decide) | ((with_reducible apply div_i); decide) | ((with_reducible apply in_R); decide) | (exact Nat.le_of_ble_eq_true rfl) | (simp [refsOf]; done) | (exact ⟨rfl, rfl, by decide⟩) | (exact ⟨rfl, rfl, rfl⟩) | ((with_reducible apply tgN_o); (focus rfl); (focus (first | assumption | trivial))))) | ((with_reducible apply Sm.vrP); (focus rfl)) | ((with_reducible apply Sm.vrO); (focus rfl)) | ((with_reducible apply Sm.augI); (focus rfl)) | ((with_reducible refine Sm.dicE ?_ ?_); (focus decide)) | ((with_reducible apply Sm.augS); (focus rfl)) | (with_reducible refine iteTT ?_) | (with_reducible refine iteT ?_) | (with_reducible refine iteF ?_) | ((with_reducible refine iteB1 ?_ ?_); (focus rfl)) | ((with_reducible refine iteB0 ?_ ?_); (focus rfl)))))
local macro_rules | `(tactic| walk_at "lw n") => `(tactic| (try dsimp only [ent, List.map, Nat.reduceAdd, Nat.reduceSub, List.length_cons, List.length_nil, List.replicate_succ, List.replicate_zero, List.cons_append, List.nil_append, putBack, setOwn, List.getElem?_cons_zero, List.getElem?_cons_succ, List.set_cons_zero, List.set_cons_succ, Sm.nf]))
local macro_rules | `(tactic| walk_at "lw v") => `(tactic| (try simp only [pb1, pb2, pb3, pb4, pb5, pb6]))
/-! ### tables side by side -/
end Lw
-- F2
-- F3
-- F4
namespace Lw
open PySem PySem.Spec PyProof.Rows L2
local macro_rules | `(tactic| walk_at "lw e") => `(tactic| (repeat (first | (with_reducible refine Stp.go ?_) | (with_reducible apply Exists.intro) | ((with_reducible refine And.intro ?_ ?_); · (first | (with_reducible exact Evl.ev) | ((fail_if_success (with_reducible refine Gd.keep ?_)); rfl) | ((with_reducible apply mul_r); decide) | ((with_reducible apply mul_l); decide) | ((with_reducible apply div_i); decide) | ((with_reducible apply in_R); decide) | (exact Nat.le_of_ble_eq_true rfl) | (simp [refsOf]; done) | (exact ⟨rfl, rfl, by decide⟩) | (exact ⟨rfl, rfl, rfl⟩) | ((with_reducible apply tgN_o); (focus rfl); (focus (first | assumption | trivial))))) | ((with_reducible apply Sm.vrP); (focus rfl)) | ((with_reducible apply Sm.vrO); (focus rfl)) | ((with_reducible apply Sm.augI); (focus rfl)) | ((with_reducible refine Sm.dicE ?_ ?_); (focus decide)) | ((with_reducible apply Sm.augS); (focus rfl)) | (with_reducible refine iteTT ?_) | (with_reducible refine iteT ?_) | (with_reducible refine iteF ?_) | ((with_reducible refine iteB1 ?_ ?_); (focus rfl)) | ((with_reducible refine iteB0 ?_ ?_); (focus rfl)))))
local macro_rules | `(tactic| walk_at "lw n") => `(tactic| (try dsimp only [ent, List.map, Nat.reduceAdd, Nat.reduceSub, List.length_cons, List.length_nil, List.replicate_succ, List.replicate_zero, List.cons_append, List.nil_append, putBack, setOwn, List.getElem?_cons_zero, List.getElem?_cons_succ, List.set_cons_zero, List.set_cons_succ, Sm.nf]))
local macro_rules | `(tactic| walk_at "lw v") => `(tactic| (try simp only [pb1, pb2, pb3, pb4, pb5, pb6]))
/-- no total is less -/
def Ge (T U : List Int) : Prop := T.length = U.length ∧ ∀ j : Nat, U.getD j 0 ≤ T.getD j 0
theorem Ge.refl (T : List Int) : Ge T T := ⟨rfl, fun _ => Int.le_refl _⟩
theorem Ge.trans {T U V : List Int} (h : Ge T U) (k : Ge U V) : Ge T V := ⟨h.1.trans k.1, fun j => Int.le_trans (k.2 j) (h.2 j)⟩
theorem Ge.cons {t u : Int} {T U : List Int} (h : u ≤ t) (k : Ge T U) : Ge (t :: T) (u :: U) := ⟨by rw [List.length_cons, List.length_cons, k.1], fun j => by
  cases j with
  | zero => exact h
  | succ j => exact k.2 j⟩
theorem Ge.tail {t u : Int} {T U : List Int} (h : Ge (t :: T) (u :: U)) : u ≤ t ∧ Ge T U := ⟨h.2 0, by have := h.1; simpa using this, fun j => h.2 (j + 1)⟩
/-! ### rains -/
/-! ### tables by what they do -/
end Lw
-- F2
-- F3
-- F4
namespace Lw
open PySem PySem.Spec PyProof.Rows L2
local macro_rules | `(tactic| walk_at "lw e") => `(tactic| (repeat (first | (with_reducible refine Stp.go ?_) | (with_reducible apply Exists.intro) | ((with_reducible refine And.intro ?_ ?_); · (first | (with_reducible exact Evl.ev) | ((fail_if_success (with_reducible refine Gd.keep ?_)); rfl) | ((with_reducible apply mul_r); decide) | ((with_reducible apply mul_l); decide) | ((with_reducible apply div_i); decide) | ((with_reducible apply in_R); decide) | (exact Nat.le_of_ble_eq_true rfl) | (simp [refsOf]; done) | (exact ⟨rfl, rfl, by decide⟩) | (exact ⟨rfl, rfl, rfl⟩) | ((with_reducible apply tgN_o); (focus rfl); (focus (first | assumption | trivial))))) | ((with_reducible apply Sm.vrP); (focus rfl)) | ((with_reducible apply Sm.vrO); (focus rfl)) | ((with_reducible apply Sm.augI); (focus rfl)) | ((with_reducible refine Sm.dicE ?_ ?_); (focus decide)) | ((with_reducible apply Sm.augS); (focus rfl)) | (with_reducible refine iteTT ?_) | (with_reducible refine iteT ?_) | (with_reducible refine iteF ?_) | ((with_reducible refine iteB1 ?_ ?_); (focus rfl)) | ((with_reducible refine iteB0 ?_ ?_); (focus rfl)))))
local macro_rules | `(tactic| walk_at "lw n") => `(tactic| (try dsimp only [ent, List.map, Nat.reduceAdd, Nat.reduceSub, List.length_cons, List.length_nil, List.replicate_succ, List.replicate_zero, List.cons_append, List.nil_append, putBack, setOwn, List.getElem?_cons_zero, List.getElem?_cons_succ, List.set_cons_zero, List.set_cons_succ, Sm.nf]))
local macro_rules | `(tactic| walk_at "lw v") => `(tactic| (try simp only [pb1, pb2, pb3, pb4, pb5, pb6]))
/-! ### ways through a table, and their straight lines: places 0 to n, M a b what a way from a to b costs in a round -/
section
variable {n : Nat} {M : Nat → Nat → Int} {e : Nat → Int}
/-- where the line begins of the ways that wait at w -/
structure Begins (n : Nat) (M : Nat → Nat → Int) (e : Nat → Int) (w : Nat) (B : Nat → Int) : Prop where
  end_le : ∀ a, w ≤ a → a ≤ n → B a ≤ e a
  up_le : ∀ a u, w ≤ a → a < u → u ≤ n → B a ≤ M a u - M w w + B u
  up_ex : ∀ a, w ≤ a → a ≤ n → B a = e a ∨ ∃ u, a < u ∧ u ≤ n ∧ B a = M a u - M w w + B u
  low_le : ∀ a u, a < w → a < u → u ≤ w → B a ≤ M a u - M w w + B u
  low_ex : ∀ a, a < w → ∃ u, a < u ∧ u ≤ w ∧ B a = M a u - M w w + B u
/-- a way of so many moves, what it costs, the places where it was -/
inductive Way (n : Nat) (M : Nat → Nat → Int) (e : Nat → Int) : Nat → Nat → Int → List Nat → Prop
  | nil (a : Nat) : a ≤ n → Way n M e a 0 (e a) [a]
  | cons (a u m : Nat) (C : Int) (vs : List Nat) : a < u → u ≤ n → Way n M e u m C vs → Way n M e a (m + 1) (M a u + C) (a :: vs)
theorem Way.start {a m : Nat} {C : Int} {vs : List Nat} (h : Way n M e a m C vs) : a ∈ vs ∧ ∀ v ∈ vs, a ≤ v ∧ v ≤ n := by
  induction h with
  | nil a ha => exact ⟨by simp, fun v m => by rw [List.mem_singleton.1 m]; exact ⟨Nat.le_refl _, ha⟩⟩
  | cons a u m C vs h1 h2 hw ih =>
    refine ⟨by simp, fun v hm => ?_⟩
    rcases List.mem_cons.1 hm with rfl | hm
    · exact ⟨Nat.le_refl _, by omega⟩
    · have := ih.2 v hm
      exact ⟨by omega, this.2⟩
theorem Way.above {a m w : Nat} {C : Int} {vs : List Nat} {B : Nat → Int} (hB : Begins n M e w B) (h : Way n M e a m C vs) (ha : w ≤ a) : B a ≤ C - M w w * m := by
  induction h with
  | nil a hn => have := hB.end_le a ha hn; simp; omega
  | cons a u m C vs h1 h2 hw ih =>
    have k := ih (by omega)
    have := hB.up_le a u ha h1 h2
    have em : M w w * ((m + 1 : Nat) : Int) = M w w * m + M w w := by push_cast; rw [Int.mul_add, Int.mul_one]
    rw [em]
    omega
theorem Way.line {a m w : Nat} {C : Int} {vs : List Nat} {B : Nat → Int} (hB : Begins n M e w B) (h : Way n M e a m C vs) (hw : w ∈ vs) : B a ≤ C - M w w * m := by
  induction h with
  | nil a hn =>
    rw [List.mem_singleton] at hw
    subst hw
    have := hB.end_le w (Nat.le_refl _) hn
    simp; omega
  | cons a u m C vs h1 h2 hway ih =>
    rcases List.mem_cons.1 hw with rfl | hw
    · exact (Way.cons w u m C vs h1 h2 hway).above hB (Nat.le_refl _)
    · have k := ih hw
      have hs := hway.start.2 w hw
      have := hB.low_le a u (by omega) h1 hs.1
      have em : M w w * ((m + 1 : Nat) : Int) = M w w * m + M w w := by push_cast; rw [Int.mul_add, Int.mul_one]
      rw [em]
      omega
end
end Lw
-- F2
-- F3
-- F4
namespace Lw
open PySem PySem.Spec PyProof.Rows L2
local macro_rules | `(tactic| walk_at "lw e") => `(tactic| (repeat (first | (with_reducible refine Stp.go ?_) | (with_reducible apply Exists.intro) | ((with_reducible refine And.intro ?_ ?_); · (first | (with_reducible exact Evl.ev) | ((fail_if_success (with_reducible refine Gd.keep ?_)); rfl) | ((with_reducible apply mul_r); decide) | ((with_reducible apply mul_l); decide) | ((with_reducible apply div_i); decide) | ((with_reducible apply in_R); decide) | (exact Nat.le_of_ble_eq_true rfl) | (simp [refsOf]; done) | (exact ⟨rfl, rfl, by decide⟩) | (exact ⟨rfl, rfl, rfl⟩) | ((with_reducible apply tgN_o); (focus rfl); (focus (first | assumption | trivial))))) | ((with_reducible apply Sm.vrP); (focus rfl)) | ((with_reducible apply Sm.vrO); (focus rfl)) | ((with_reducible apply Sm.augI); (focus rfl)) | ((with_reducible refine Sm.dicE ?_ ?_); (focus decide)) | ((with_reducible apply Sm.augS); (focus rfl)) | (with_reducible refine iteTT ?_) | (with_reducible refine iteT ?_) | (with_reducible refine iteF ?_) | ((with_reducible refine iteB1 ?_ ?_); (focus rfl)) | ((with_reducible refine iteB0 ?_ ?_); (focus rfl)))))
local macro_rules | `(tactic| walk_at "lw n") => `(tactic| (try dsimp only [ent, List.map, Nat.reduceAdd, Nat.reduceSub, List.length_cons, List.length_nil, List.replicate_succ, List.replicate_zero, List.cons_append, List.nil_append, putBack, setOwn, List.getElem?_cons_zero, List.getElem?_cons_succ, List.set_cons_zero, List.set_cons_succ, Sm.nf]))
local macro_rules | `(tactic| walk_at "lw v") => `(tactic| (try simp only [pb1, pb2, pb3, pb4, pb5, pb6]))
/-! ### the least of a few straight lines (step, begin) -/
abbrev Ln := Int × Int
def lAt (l : Ln) (k : Int) : Int := l.2 + l.1 * k
def lowL (ls : List Ln) (k : Int) : Int := fmin (ls.map fun l => lAt l k)
theorem lAt_succ (l : Ln) (k : Int) : lAt l (k + 1) = lAt l k + l.1 := by unfold lAt; rw [Int.mul_add, Int.mul_one]; omega
theorem low_le {ls : List Ln} {l : Ln} (h : l ∈ ls) (k : Int) : lowL ls k ≤ lAt l k := fmin_le (List.mem_map.2 ⟨l, h, rfl⟩)
theorem low_ex {ls : List Ln} (h : ls ≠ []) (k : Int) : ∃ l ∈ ls, lowL ls k = lAt l k := by
  have := fmin_mem (zs := ls.map fun l => lAt l k) (by simpa using h)
  obtain ⟨l, hm, e⟩ := List.mem_map.1 this
  exact ⟨l, hm, e.symm⟩
/-- steps fall -/
theorem low_bend {ls : List Ln} (h : ls ≠ []) (k : Int) : lowL ls (k + 2) - lowL ls (k + 1) ≤ lowL ls (k + 1) - lowL ls k := by
  obtain ⟨l, hm, e⟩ := low_ex h (k + 1)
  have h1 := low_le hm k
  have h2 := low_le hm (k + 2)
  have e1 := lAt_succ l k
  have e2 := lAt_succ l (k + 1)
  rw [show k + 1 + 1 = k + 2 by omega] at e2
  omega
theorem low_fall {ls : List Ln} (h : ls ≠ []) (k : Int) : ∀ d : Nat, lowL ls (k + d + 1) - lowL ls (k + d) ≤ lowL ls (k + 1) - lowL ls k
  | 0 => by simp
  | d + 1 => by
    have ih := low_fall h k d
    have := low_bend h (k + d)
    rw [show k + ((d + 1 : Nat) : Int) + 1 = k + d + 2 by omega, show k + ((d + 1 : Nat) : Int) = k + d + 1 by omega]
    omega
theorem low_under {ls : List Ln} (h : ls ≠ []) (k : Int) : ∀ d : Nat, lowL ls (k + d) ≤ lowL ls k + (lowL ls (k + 1) - lowL ls k) * d
  | 0 => by simp
  | d + 1 => by
    have ih := low_under h k d
    have := low_fall h k d
    rw [show k + ((d + 1 : Nat) : Int) = k + d + 1 by omega]
    have e : (lowL ls (k + 1) - lowL ls k) * ((d + 1 : Nat) : Int) = (lowL ls (k + 1) - lowL ls k) * d + (lowL ls (k + 1) - lowL ls k) := by push_cast; rw [Int.mul_add, Int.mul_one]
    omega
/-- a row (first, step, begin) -/
abbrev Rw := Int × Int × Int
def rowL (ls : List Ln) (first : Int) : Rw := (first, lowL ls (first + 1) - lowL ls first, lowL ls first - (lowL ls (first + 1) - lowL ls first) * first)
def rAt (r : Rw) (k : Int) : Int := r.2.2 + r.2.1 * k
theorem rAt_succ (r : Rw) (k : Int) : rAt r (k + 1) = rAt r k + r.2.1 := by unfold rAt; rw [Int.mul_add, Int.mul_one]; omega
theorem rAt_add (r : Rw) (k : Int) (d : Int) : rAt r (k + d) = rAt r k + r.2.1 * d := by unfold rAt; rw [Int.mul_add]; omega
theorem row_first (ls : List Ln) (f : Int) : rAt (rowL ls f) f = lowL ls f := by unfold rAt rowL; simp only; omega
theorem row_next (ls : List Ln) (f : Int) : rAt (rowL ls f) (f + 1) = lowL ls (f + 1) := by rw [rAt_succ, row_first]; unfold rowL; simp only; omega
theorem row_up {ls : List Ln} (h : ls ≠ []) (f : Int) {k : Int} (hk : f ≤ k) : lowL ls k ≤ rAt (rowL ls f) k := by
  obtain ⟨d, rfl⟩ : ∃ d : Nat, k = f + d := ⟨(k - f).toNat, by omega⟩
  rw [rAt_add, row_first]
  exact low_under h f d
/-- the lines that fall below the row -/
def lessL (ls : List Ln) (s : Int) : List Ln := ls.filter fun l => decide (l.1 < s)
def bendAt (r : Rw) (l : Ln) : Int := (l.2 - r.2.2) / (r.2.1 - l.1)
def bendL (ls : List Ln) (r : Rw) : Option Int := match lessL ls r.2.1 with
  | [] => none
  | x :: xs => some (fmin ((x :: xs).map (bendAt r)))
theorem mem_less {ls : List Ln} {s : Int} {l : Ln} : l ∈ lessL ls s ↔ l ∈ ls ∧ l.1 < s := by
  unfold lessL
  rw [List.mem_filter, decide_eq_true_eq]
theorem bend_iff {r : Rw} {l : Ln} (h : l.1 < r.2.1) (k : Int) : k ≤ bendAt r l ↔ rAt r k ≤ lAt l k := by
  unfold bendAt rAt lAt
  rw [Int.le_ediv_iff_mul_le (by omega)]
  have : k * (r.2.1 - l.1) = r.2.1 * k - l.1 * k := by rw [Int.mul_sub, Int.mul_comm k, Int.mul_comm k]
  rw [this]
  omega
theorem row_on {ls : List Ln} (h : ls ≠ []) {f k : Int} (hk : f ≤ k) (hb : ∀ b, bendL ls (rowL ls f) = some b → k ≤ b) : lowL ls k = rAt (rowL ls f) k := by
  refine Int.le_antisymm (row_up h f hk) ?_
  obtain ⟨l, hm, e⟩ := low_ex h k
  rw [e]
  by_cases q : l.1 < (rowL ls f).2.1
  · refine (bend_iff q k).1 ?_
    have hml := mem_less.2 ⟨hm, q⟩
    unfold bendL at hb
    cases hl : lessL ls (rowL ls f).2.1 with
    | nil => rw [hl] at hml; cases hml
    | cons x xs =>
      rw [hl] at hb hml
      have := hb _ rfl
      exact Int.le_trans this (fmin_le (List.mem_map.2 ⟨l, hml, rfl⟩))
  · obtain ⟨d, rfl⟩ : ∃ d : Nat, k = f + d := ⟨(k - f).toNat, by omega⟩
    have h1 := low_le hm f
    rw [rAt_add, row_first]
    have e2 : lAt l (f + d) = lAt l f + l.1 * d := by unfold lAt; rw [Int.mul_add]; omega
    rw [e2]
    have : (rowL ls f).2.1 * (d : Int) ≤ l.1 * d := Int.mul_le_mul_of_nonneg_right (by omega) (by omega)
    omega
theorem bend_facts {ls : List Ln} (h : ls ≠ []) {f b : Int} (hb : bendL ls (rowL ls f) = some b) : f + 1 ≤ b ∧ lowL ls b = rAt (rowL ls f) b ∧ lowL ls (b + 1) < rAt (rowL ls f) (b + 1) ∧ (rowL ls b).2.1 < (rowL ls f).2.1 := by
  have hb0 := hb
  unfold bendL at hb
  cases hl : lessL ls (rowL ls f).2.1 with
  | nil => rw [hl] at hb; cases hb
  | cons x xs =>
    rw [hl] at hb
    have hb := Option.some.inj hb
    have hmem := fmin_mem (zs := (x :: xs).map (bendAt (rowL ls f))) (by simp)
    rw [hb] at hmem
    obtain ⟨l, hm, el⟩ := List.mem_map.1 hmem
    rw [← hl] at hm
    obtain ⟨hm1, hm2⟩ := mem_less.1 hm
    have h1 : f + 1 ≤ b := by
      rw [← el]
      refine (bend_iff hm2 _).2 ?_
      rw [row_next]
      exact low_le hm1 _
    have h2 : lowL ls b = rAt (rowL ls f) b := row_on h (by omega) fun b' e => by rw [hb0] at e; cases e; exact Int.le_refl _
    have h3 : lowL ls (b + 1) < rAt (rowL ls f) (b + 1) := by
      have : ¬ b + 1 ≤ bendAt (rowL ls f) l := by rw [el]; omega
      rw [bend_iff hm2] at this
      have := low_le hm1 (b + 1)
      omega
    refine ⟨h1, h2, h3, ?_⟩
    rw [rAt_succ] at h3
    show lowL ls (b + 1) - lowL ls b < _
    omega
theorem no_bend {ls : List Ln} {r : Rw} (hb : bendL ls r = none) : ∀ l ∈ ls, r.2.1 ≤ l.1 := by
  intro l hm
  unfold bendL at hb
  cases hl : lessL ls r.2.1 with
  | nil =>
    by_cases q : l.1 < r.2.1
    · have := mem_less.2 ⟨hm, q⟩
      rw [hl] at this
      cases this
    · omega
  | cons x xs => rw [hl] at hb; cases hb
/-! ### how many rows -/
def cntL (ls : List Ln) (s : Int) : Nat := (lessL ls s).length
def Tang (ls : List Ln) (r : Rw) : Prop := ∃ l ∈ ls, l.1 = r.2.1 ∧ lAt l (r.1 + 1) = lowL ls (r.1 + 1)
open Classical in
noncomputable def muL (ls : List Ln) (r : Rw) : Nat := 2 * cntL ls r.2.1 + if Tang ls r then 1 else 0
theorem cnt_mono {ls : List Ln} {s t : Int} (h : s ≤ t) : cntL ls s ≤ cntL ls t := by
  unfold cntL lessL
  rw [← List.countP_eq_length_filter, ← List.countP_eq_length_filter]
  apply List.countP_mono_left
  intro l _ q
  have := of_decide_eq_true q
  exact decide_eq_true (by omega)
theorem cnt_less {ls : List Ln} {s t : Int} {l : Ln} (hm : l ∈ ls) (h : s ≤ l.1) (h2 : l.1 < t) : cntL ls s + 1 ≤ cntL ls t := by
  unfold cntL lessL
  rw [← List.countP_eq_length_filter, ← List.countP_eq_length_filter]
  induction ls with
  | nil => cases hm
  | cons x ls ih =>
    rw [List.countP_cons, List.countP_cons]
    have mono : ls.countP (fun l => decide (l.1 < s)) ≤ ls.countP (fun l => decide (l.1 < t)) := List.countP_mono_left fun l _ q => by
      have := of_decide_eq_true q
      exact decide_eq_true (by omega)
    rcases List.mem_cons.1 hm with rfl | hm
    · rw [if_neg (by rw [decide_eq_false (by omega)]; decide), if_pos (decide_eq_true h2)]
      omega
    · have := ih hm
      by_cases q : x.1 < s
      · rw [if_pos (decide_eq_true q), if_pos (decide_eq_true (by omega))]; omega
      · rw [if_neg (by rw [decide_eq_false q]; decide)]
        split <;> omega
theorem slope_le {ls : List Ln} {l : Ln} (hm : l ∈ ls) {k : Int} (h : lAt l (k + 1) = lowL ls (k + 1)) : l.1 ≤ (rowL ls k).2.1 := by
  have := low_le hm k
  rw [lAt_succ] at h
  show l.1 ≤ lowL ls (k + 1) - lowL ls k
  omega
theorem slope_ge {ls : List Ln} {l : Ln} (hm : l ∈ ls) {k : Int} (h : lAt l k = lowL ls k) : (rowL ls k).2.1 ≤ l.1 := by
  have := low_le hm (k + 1)
  rw [lAt_succ] at this
  show lowL ls (k + 1) - lowL ls k ≤ l.1
  omega
theorem mu_bend {ls : List Ln} (h : ls ≠ []) {f b : Int} (hb : bendL ls (rowL ls f) = some b) : muL ls (rowL ls b) < muL ls (rowL ls f) := by
  classical
  obtain ⟨h1, h2, h3, h4⟩ := bend_facts h hb
  have cm := cnt_mono (ls := ls) (Int.le_of_lt h4)
  unfold muL
  by_cases t' : Tang ls (rowL ls b)
  · obtain ⟨l, hm, e1, e2⟩ := t'
    have := cnt_less hm (s := (rowL ls b).2.1) (t := (rowL ls f).2.1) (by omega) (by omega)
    rw [if_pos ⟨l, hm, e1, e2⟩]
    split <;> omega
  · rw [if_neg t']
    by_cases t : Tang ls (rowL ls f)
    · rw [if_pos t]; omega
    · rw [if_neg t]
      obtain ⟨l, hm, e⟩ := low_ex h (f + 1)
      have q1 := slope_le hm e.symm
      have q2 : l.1 ≠ (rowL ls f).2.1 := fun q => t ⟨l, hm, q, e.symm⟩
      have q3 : (rowL ls b).2.1 ≤ l.1 := by
        obtain ⟨d, rfl⟩ : ∃ d : Nat, b = f + 1 + d := ⟨(b - (f + 1)).toNat, by omega⟩
        have k1 := low_fall h (f + 1) d
        have k2 := slope_ge hm e.symm
        show lowL ls (f + 1 + d + 1) - lowL ls (f + 1 + d) ≤ l.1
        have k2 : lowL ls (f + 1 + 1) - lowL ls (f + 1) ≤ l.1 := k2
        omega
      have := cnt_less hm q3 (t := (rowL ls f).2.1) (by omega)
      omega
theorem mu_last {ls : List Ln} (h : ls ≠ []) {f : Int} (hb : bendL ls (rowL ls f) = none) : muL ls (rowL ls f) = 1 ∧ ∃ l ∈ ls, l.1 = (rowL ls f).2.1 := by
  classical
  have nb := no_bend hb
  obtain ⟨l, hm, e⟩ := low_ex h (f + 1)
  have q1 := slope_le hm e.symm
  have q2 := nb l hm
  have c0 : cntL ls (rowL ls f).2.1 = 0 := by
    unfold cntL
    cases hl : lessL ls (rowL ls f).2.1 with
    | nil => rfl
    | cons x xs =>
      have hx := mem_less.1 (by rw [hl]; simp : x ∈ lessL ls (rowL ls f).2.1)
      have := nb x hx.1
      omega
  refine ⟨?_, l, hm, by omega⟩
  unfold muL
  rw [c0, if_pos ⟨l, hm, by omega, e.symm⟩]
/-! ### the rows -/
/-- rows from a first number of rounds on -/
inductive RowsL (ls : List Ln) : Int → List Rw → Prop
  | last (f : Int) : bendL ls (rowL ls f) = none → RowsL ls f [rowL ls f]
  | next (f b : Int) (rs : List Rw) : bendL ls (rowL ls f) = some b → RowsL ls b rs → RowsL ls f (rowL ls f :: rs)
theorem RowsL.len {ls : List Ln} (h : ls ≠ []) {f : Int} {rs : List Rw} (hr : RowsL ls f rs) : rs.length ≤ muL ls (rowL ls f) := by
  induction hr with
  | last f hb => rw [(mu_last h hb).1]; exact Nat.le_refl _
  | next f b rs hb _ ih => have := mu_bend h hb; rw [List.length_cons]; omega
end Lw
-- F2
-- F3
-- F4
namespace Lw
open PySem PySem.Spec PyProof.Rows L2
local macro_rules | `(tactic| walk_at "lw e") => `(tactic| (repeat (first | (with_reducible refine Stp.go ?_) | (with_reducible apply Exists.intro) | ((with_reducible refine And.intro ?_ ?_); · (first | (with_reducible exact Evl.ev) | ((fail_if_success (with_reducible refine Gd.keep ?_)); rfl) | ((with_reducible apply mul_r); decide) | ((with_reducible apply mul_l); decide) | ((with_reducible apply div_i); decide) | ((with_reducible apply in_R); decide) | (exact Nat.le_of_ble_eq_true rfl) | (simp [refsOf]; done) | (exact ⟨rfl, rfl, by decide⟩) | (exact ⟨rfl, rfl, rfl⟩) | ((with_reducible apply tgN_o); (focus rfl); (focus (first | assumption | trivial))))) | ((with_reducible apply Sm.vrP); (focus rfl)) | ((with_reducible apply Sm.vrO); (focus rfl)) | ((with_reducible apply Sm.augI); (focus rfl)) | ((with_reducible refine Sm.dicE ?_ ?_); (focus decide)) | ((with_reducible apply Sm.augS); (focus rfl)) | (with_reducible refine iteTT ?_) | (with_reducible refine iteT ?_) | (with_reducible refine iteF ?_) | ((with_reducible refine iteB1 ?_ ?_); (focus rfl)) | ((with_reducible refine iteB0 ?_ ?_); (focus rfl)))))
local macro_rules | `(tactic| walk_at "lw n") => `(tactic| (try dsimp only [ent, List.map, Nat.reduceAdd, Nat.reduceSub, List.length_cons, List.length_nil, List.replicate_succ, List.replicate_zero, List.cons_append, List.nil_append, putBack, setOwn, List.getElem?_cons_zero, List.getElem?_cons_succ, List.set_cons_zero, List.set_cons_succ, Sm.nf]))
local macro_rules | `(tactic| walk_at "lw v") => `(tactic| (try simp only [pb1, pb2, pb3, pb4, pb5, pb6]))
/-! ### lowest, row_at, bend_of, rows_from -/
end Lw
-- F2
-- F3
-- F4
namespace Lw
open PySem PySem.Spec PyProof.Rows L2
local macro_rules | `(tactic| walk_at "lw e") => `(tactic| (repeat (first | (with_reducible refine Stp.go ?_) | (with_reducible apply Exists.intro) | ((with_reducible refine And.intro ?_ ?_); · (first | (with_reducible exact Evl.ev) | ((fail_if_success (with_reducible refine Gd.keep ?_)); rfl) | ((with_reducible apply mul_r); decide) | ((with_reducible apply mul_l); decide) | ((with_reducible apply div_i); decide) | ((with_reducible apply in_R); decide) | (exact Nat.le_of_ble_eq_true rfl) | (simp [refsOf]; done) | (exact ⟨rfl, rfl, by decide⟩) | (exact ⟨rfl, rfl, rfl⟩) | ((with_reducible apply tgN_o); (focus rfl); (focus (first | assumption | trivial))))) | ((with_reducible apply Sm.vrP); (focus rfl)) | ((with_reducible apply Sm.vrO); (focus rfl)) | ((with_reducible apply Sm.augI); (focus rfl)) | ((with_reducible refine Sm.dicE ?_ ?_); (focus decide)) | ((with_reducible apply Sm.augS); (focus rfl)) | (with_reducible refine iteTT ?_) | (with_reducible refine iteT ?_) | (with_reducible refine iteF ?_) | ((with_reducible refine iteB1 ?_ ?_); (focus rfl)) | ((with_reducible refine iteB0 ?_ ?_); (focus rfl)))))
local macro_rules | `(tactic| walk_at "lw n") => `(tactic| (try dsimp only [ent, List.map, Nat.reduceAdd, Nat.reduceSub, List.length_cons, List.length_nil, List.replicate_succ, List.replicate_zero, List.cons_append, List.nil_append, putBack, setOwn, List.getElem?_cons_zero, List.getElem?_cons_succ, List.set_cons_zero, List.set_cons_succ, Sm.nf]))
local macro_rules | `(tactic| walk_at "lw v") => `(tactic| (try simp only [pb1, pb2, pb3, pb4, pb5, pb6]))
/-! ### rules for lists of lists and dicts of one's own -/
instance {a b : D} {x : Option (List D)} : Gd5 (gRn2 a b = x) := ⟨id⟩
instance {a : D} {x : Option (List D)} : Gd5 (gRn1 a = x) := ⟨id⟩
/-! ### stepped_on -/
end Lw
-- F2
-- F3
-- F4
-- F5
namespace Lw
open PySem PySem.Spec PyProof.Rows L2
local macro_rules | `(tactic| walk_at "lw e") => `(tactic| (repeat (first | (with_reducible refine Stp.go ?_) | (with_reducible apply Exists.intro) | ((with_reducible refine And.intro ?_ ?_); · (first | (with_reducible exact Evl.ev) | ((fail_if_success (with_reducible refine Gd.keep ?_)); (fail_if_success (with_reducible refine Gd5.keep ?_)); rfl) | ((with_reducible apply mul_r); decide) | ((with_reducible apply mul_l); decide) | ((with_reducible apply div_i); decide) | ((with_reducible apply in_R); decide) | (exact Nat.le_of_ble_eq_true rfl) | (simp [refsOf]; done) | (exact ⟨rfl, rfl, by decide⟩) | (exact ⟨rfl, rfl, rfl⟩) | ((with_reducible apply tgN_o); (focus rfl); (focus (first | assumption | trivial))))) | ((with_reducible apply Sm.vrP); (focus rfl)) | ((with_reducible apply Sm.vrO); (focus rfl)) | ((with_reducible apply Sm.augI); (focus rfl)) | ((with_reducible refine Sm.dicE ?_ ?_); (focus decide)) | ((with_reducible apply Sm.augS); (focus rfl)) | ((with_reducible apply Sm.augL); (focus rfl)) | (with_reducible refine iteTT ?_) | (with_reducible refine iteT ?_) | (with_reducible refine iteF ?_) | ((with_reducible refine iteB1 ?_ ?_); (focus rfl)) | ((with_reducible refine iteB0 ?_ ?_); (focus rfl)))))
local macro_rules | `(tactic| walk_at "lw n") => `(tactic| (try dsimp only [ent, List.map, Nat.reduceAdd, Nat.reduceSub, List.length_cons, List.length_nil, List.replicate_succ, List.replicate_zero, List.cons_append, List.nil_append, putBack, setOwn, List.getElem?_cons_zero, List.getElem?_cons_succ, List.set_cons_zero, List.set_cons_succ, Sm.nf]))
local macro_rules | `(tactic| walk_at "lw v") => `(tactic| (try simp only [pb1, pb2, pb3, pb4, pb5, pb6]))
/-! ### begins_waiting -/
end Lw
-- F2
-- F3
-- F4
-- F5
namespace Lw
open PySem PySem.Spec PyProof.Rows L2
local macro_rules | `(tactic| walk_at "lw e") => `(tactic| (repeat (first | (with_reducible refine Stp.go ?_) | (with_reducible apply Exists.intro) | ((with_reducible refine And.intro ?_ ?_); · (first | (with_reducible exact Evl.ev) | ((fail_if_success (with_reducible refine Gd.keep ?_)); (fail_if_success (with_reducible refine Gd5.keep ?_)); rfl) | ((with_reducible apply mul_r); decide) | ((with_reducible apply mul_l); decide) | ((with_reducible apply div_i); decide) | ((with_reducible apply in_R); decide) | (exact Nat.le_of_ble_eq_true rfl) | (simp [refsOf]; done) | (exact ⟨rfl, rfl, by decide⟩) | (exact ⟨rfl, rfl, rfl⟩) | ((with_reducible apply tgN_o); (focus rfl); (focus (first | assumption | trivial))))) | ((with_reducible apply Sm.vrP); (focus rfl)) | ((with_reducible apply Sm.vrO); (focus rfl)) | ((with_reducible apply Sm.augI); (focus rfl)) | ((with_reducible refine Sm.dicE ?_ ?_); (focus decide)) | ((with_reducible apply Sm.augS); (focus rfl)) | ((with_reducible apply Sm.augL); (focus rfl)) | (with_reducible refine iteTT ?_) | (with_reducible refine iteT ?_) | (with_reducible refine iteF ?_) | ((with_reducible refine iteB1 ?_ ?_); (focus rfl)) | ((with_reducible refine iteB0 ?_ ?_); (focus rfl)))))
local macro_rules | `(tactic| walk_at "lw n") => `(tactic| (try dsimp only [ent, List.map, Nat.reduceAdd, Nat.reduceSub, List.length_cons, List.length_nil, List.replicate_succ, List.replicate_zero, List.cons_append, List.nil_append, putBack, setOwn, List.getElem?_cons_zero, List.getElem?_cons_succ, List.set_cons_zero, List.set_cons_succ, Sm.nf]))
local macro_rules | `(tactic| walk_at "lw v") => `(tactic| (try simp only [pb1, pb2, pb3, pb4, pb5, pb6]))
/-! ### merged lines -/
/-! ### the totals' lines -/
end Lw
-- F2
-- F3
-- F4
-- F5
namespace Lw
open PySem PySem.Spec PyProof.Rows L2
local macro_rules | `(tactic| walk_at "lw e") => `(tactic| (repeat (first | (with_reducible refine Stp.go ?_) | (with_reducible apply Exists.intro) | ((with_reducible refine And.intro ?_ ?_); · (first | (with_reducible exact Evl.ev) | ((fail_if_success (with_reducible refine Gd.keep ?_)); (fail_if_success (with_reducible refine Gd5.keep ?_)); rfl) | ((with_reducible apply mul_r); decide) | ((with_reducible apply mul_l); decide) | ((with_reducible apply div_i); decide) | ((with_reducible apply in_R); decide) | (exact Nat.le_of_ble_eq_true rfl) | (simp [refsOf]; done) | (exact ⟨rfl, rfl, by decide⟩) | (exact ⟨rfl, rfl, rfl⟩) | ((with_reducible apply tgN_o); (focus rfl); (focus (first | assumption | trivial))))) | ((with_reducible apply Sm.vrP); (focus rfl)) | ((with_reducible apply Sm.vrO); (focus rfl)) | ((with_reducible apply Sm.augI); (focus rfl)) | ((with_reducible refine Sm.dicE ?_ ?_); (focus decide)) | ((with_reducible apply Sm.augS); (focus rfl)) | ((with_reducible apply Sm.augL); (focus rfl)) | (with_reducible refine iteTT ?_) | (with_reducible refine iteT ?_) | (with_reducible refine iteF ?_) | ((with_reducible refine iteB1 ?_ ?_); (focus rfl)) | ((with_reducible refine iteB0 ?_ ?_); (focus rfl)))))
local macro_rules | `(tactic| walk_at "lw n") => `(tactic| (try dsimp only [ent, List.map, Nat.reduceAdd, Nat.reduceSub, List.length_cons, List.length_nil, List.replicate_succ, List.replicate_zero, List.cons_append, List.nil_append, putBack, setOwn, List.getElem?_cons_zero, List.getElem?_cons_succ, List.set_cons_zero, List.set_cons_succ, Sm.nf]))
local macro_rules | `(tactic| walk_at "lw v") => `(tactic| (try simp only [pb1, pb2, pb3, pb4, pb5, pb6]))
/-! ### lines_of -/
end Lw
-- F2
-- F3
-- F4
-- F5
namespace Lw
open PySem PySem.Spec PyProof.Rows L2
local macro_rules | `(tactic| walk_at "lw e") => `(tactic| (repeat (first | (with_reducible refine Stp.go ?_) | (with_reducible apply Exists.intro) | ((with_reducible refine And.intro ?_ ?_); · (first | (with_reducible exact Evl.ev) | ((fail_if_success (with_reducible refine Gd.keep ?_)); (fail_if_success (with_reducible refine Gd5.keep ?_)); rfl) | ((with_reducible apply mul_r); decide) | ((with_reducible apply mul_l); decide) | ((with_reducible apply div_i); decide) | ((with_reducible apply in_R); decide) | (exact Nat.le_of_ble_eq_true rfl) | (simp [refsOf]; done) | (exact ⟨rfl, rfl, by decide⟩) | (exact ⟨rfl, rfl, rfl⟩) | ((with_reducible apply tgN_o); (focus rfl); (focus (first | assumption | trivial))))) | ((with_reducible apply Sm.vrP); (focus rfl)) | ((with_reducible apply Sm.vrO); (focus rfl)) | ((with_reducible apply Sm.augI); (focus rfl)) | ((with_reducible refine Sm.dicE ?_ ?_); (focus decide)) | ((with_reducible apply Sm.augS); (focus rfl)) | ((with_reducible apply Sm.augL); (focus rfl)) | (with_reducible refine iteTT ?_) | (with_reducible refine iteT ?_) | (with_reducible refine iteF ?_) | ((with_reducible refine iteB1 ?_ ?_); (focus rfl)) | ((with_reducible refine iteB0 ?_ ?_); (focus rfl)))))
local macro_rules | `(tactic| walk_at "lw n") => `(tactic| (try dsimp only [ent, List.map, Nat.reduceAdd, Nat.reduceSub, List.length_cons, List.length_nil, List.replicate_succ, List.replicate_zero, List.cons_append, List.nil_append, putBack, setOwn, List.getElem?_cons_zero, List.getElem?_cons_succ, List.set_cons_zero, List.set_cons_succ, Sm.nf]))
local macro_rules | `(tactic| walk_at "lw v") => `(tactic| (try simp only [pb1, pb2, pb3, pb4, pb5, pb6]))
/-! ### merged -/
end Lw
-- F2
-- F3
-- F4
-- F5
namespace Lw
open PySem PySem.Spec PyProof.Rows L2
local macro_rules | `(tactic| walk_at "lw e") => `(tactic| (repeat (first | (with_reducible refine Stp.go ?_) | (with_reducible apply Exists.intro) | ((with_reducible refine And.intro ?_ ?_); · (first | (with_reducible exact Evl.ev) | ((fail_if_success (with_reducible refine Gd.keep ?_)); (fail_if_success (with_reducible refine Gd5.keep ?_)); rfl) | ((with_reducible apply mul_r); decide) | ((with_reducible apply mul_l); decide) | ((with_reducible apply div_i); decide) | ((with_reducible apply in_R); decide) | (exact Nat.le_of_ble_eq_true rfl) | (simp [refsOf]; done) | (exact ⟨rfl, rfl, by decide⟩) | (exact ⟨rfl, rfl, rfl⟩) | ((with_reducible apply tgN_o); (focus rfl); (focus (first | assumption | trivial))))) | ((with_reducible apply Sm.vrP); (focus rfl)) | ((with_reducible apply Sm.vrO); (focus rfl)) | ((with_reducible apply Sm.augI); (focus rfl)) | ((with_reducible refine Sm.dicE ?_ ?_); (focus decide)) | ((with_reducible apply Sm.augS); (focus rfl)) | ((with_reducible apply Sm.augL); (focus rfl)) | (with_reducible refine iteTT ?_) | (with_reducible refine iteT ?_) | (with_reducible refine iteF ?_) | ((with_reducible refine iteB1 ?_ ?_); (focus rfl)) | ((with_reducible refine iteB0 ?_ ?_); (focus rfl)))))
local macro_rules | `(tactic| walk_at "lw n") => `(tactic| (try dsimp only [ent, List.map, Nat.reduceAdd, Nat.reduceSub, List.length_cons, List.length_nil, List.replicate_succ, List.replicate_zero, List.cons_append, List.nil_append, putBack, setOwn, List.getElem?_cons_zero, List.getElem?_cons_succ, List.set_cons_zero, List.set_cons_succ, Sm.nf]))
local macro_rules | `(tactic| walk_at "lw v") => `(tactic| (try simp only [pb1, pb2, pb3, pb4, pb5, pb6]))
/-! ### rows_at -/
end Lw
-- F2
-- F3
-- F4
-- F5
namespace Lw
open PySem PySem.Spec PyProof.Rows L2
local macro_rules | `(tactic| walk_at "lw e") => `(tactic| (repeat (first | (with_reducible refine Stp.go ?_) | (with_reducible apply Exists.intro) | ((with_reducible refine And.intro ?_ ?_); · (first | (with_reducible exact Evl.ev) | ((fail_if_success (with_reducible refine Gd.keep ?_)); (fail_if_success (with_reducible refine Gd5.keep ?_)); rfl) | ((with_reducible apply mul_r); decide) | ((with_reducible apply mul_l); decide) | ((with_reducible apply div_i); decide) | ((with_reducible apply in_R); decide) | (exact Nat.le_of_ble_eq_true rfl) | (simp [refsOf]; done) | (exact ⟨rfl, rfl, by decide⟩) | (exact ⟨rfl, rfl, rfl⟩) | ((with_reducible apply tgN_o); (focus rfl); (focus (first | assumption | trivial))))) | ((with_reducible apply Sm.vrP); (focus rfl)) | ((with_reducible apply Sm.vrO); (focus rfl)) | ((with_reducible apply Sm.augI); (focus rfl)) | ((with_reducible refine Sm.dicE ?_ ?_); (focus decide)) | ((with_reducible apply Sm.augS); (focus rfl)) | ((with_reducible apply Sm.augL); (focus rfl)) | (with_reducible refine iteTT ?_) | (with_reducible refine iteT ?_) | (with_reducible refine iteF ?_) | ((with_reducible refine iteB1 ?_ ?_); (focus rfl)) | ((with_reducible refine iteB0 ?_ ?_); (focus rfl)))))
local macro_rules | `(tactic| walk_at "lw n") => `(tactic| (try dsimp only [ent, List.map, Nat.reduceAdd, Nat.reduceSub, List.length_cons, List.length_nil, List.replicate_succ, List.replicate_zero, List.cons_append, List.nil_append, putBack, setOwn, List.getElem?_cons_zero, List.getElem?_cons_succ, List.set_cons_zero, List.set_cons_succ, Sm.nf]))
local macro_rules | `(tactic| walk_at "lw v") => `(tactic| (try simp only [pb1, pb2, pb3, pb4, pb5, pb6]))
/-! ### rows, by what they tell -/
/-! ### the first number of rounds at which a difference of rows is below a level -/
end Lw
-- F2
-- F3
-- F4
-- F5
namespace Lw
open PySem PySem.Spec PyProof.Rows L2
local macro_rules | `(tactic| walk_at "lw e") => `(tactic| (repeat (first | (with_reducible refine Stp.go ?_) | (with_reducible apply Exists.intro) | ((with_reducible refine And.intro ?_ ?_); · (first | (with_reducible exact Evl.ev) | ((fail_if_success (with_reducible refine Gd.keep ?_)); (fail_if_success (with_reducible refine Gd5.keep ?_)); rfl) | ((with_reducible apply mul_r); decide) | ((with_reducible apply mul_l); decide) | ((with_reducible apply div_i); decide) | ((with_reducible apply in_R); decide) | (exact Nat.le_of_ble_eq_true rfl) | (simp [refsOf]; done) | (exact ⟨rfl, rfl, by decide⟩) | (exact ⟨rfl, rfl, rfl⟩) | ((with_reducible apply tgN_o); (focus rfl); (focus (first | assumption | trivial))))) | ((with_reducible apply Sm.vrP); (focus rfl)) | ((with_reducible apply Sm.vrO); (focus rfl)) | ((with_reducible apply Sm.augI); (focus rfl)) | ((with_reducible refine Sm.dicE ?_ ?_); (focus decide)) | ((with_reducible apply Sm.augS); (focus rfl)) | ((with_reducible apply Sm.augL); (focus rfl)) | (with_reducible refine iteTT ?_) | (with_reducible refine iteT ?_) | (with_reducible refine iteF ?_) | ((with_reducible refine iteB1 ?_ ?_); (focus rfl)) | ((with_reducible refine iteB0 ?_ ?_); (focus rfl)))))
local macro_rules | `(tactic| walk_at "lw n") => `(tactic| (try dsimp only [ent, List.map, Nat.reduceAdd, Nat.reduceSub, List.length_cons, List.length_nil, List.replicate_succ, List.replicate_zero, List.cons_append, List.nil_append, putBack, setOwn, List.getElem?_cons_zero, List.getElem?_cons_succ, List.set_cons_zero, List.set_cons_succ, Sm.nf]))
local macro_rules | `(tactic| walk_at "lw v") => `(tactic| (try simp only [pb1, pb2, pb3, pb4, pb5, pb6]))
/-! ### row_over, less, first_below -/
end Lw
-- F2
-- F3
-- F4
-- F5
namespace Lw
open PySem PySem.Spec PyProof.Rows L2
local macro_rules | `(tactic| walk_at "lw e") => `(tactic| (repeat (first | (with_reducible refine Stp.go ?_) | (with_reducible apply Exists.intro) | ((with_reducible refine And.intro ?_ ?_); · (first | (with_reducible exact Evl.ev) | ((fail_if_success (with_reducible refine Gd.keep ?_)); (fail_if_success (with_reducible refine Gd5.keep ?_)); rfl) | ((with_reducible apply mul_r); decide) | ((with_reducible apply mul_l); decide) | ((with_reducible apply div_i); decide) | ((with_reducible apply in_R); decide) | (exact Nat.le_of_ble_eq_true rfl) | (simp [refsOf]; done) | (exact ⟨rfl, rfl, by decide⟩) | (exact ⟨rfl, rfl, rfl⟩) | ((with_reducible apply tgN_o); (focus rfl); (focus (first | assumption | trivial))))) | ((with_reducible apply Sm.vrP); (focus rfl)) | ((with_reducible apply Sm.vrO); (focus rfl)) | ((with_reducible apply Sm.augI); (focus rfl)) | ((with_reducible refine Sm.dicE ?_ ?_); (focus decide)) | ((with_reducible apply Sm.augS); (focus rfl)) | ((with_reducible apply Sm.augL); (focus rfl)) | (with_reducible refine iteTT ?_) | (with_reducible refine iteT ?_) | (with_reducible refine iteF ?_) | ((with_reducible refine iteB1 ?_ ?_); (focus rfl)) | ((with_reducible refine iteB0 ?_ ?_); (focus rfl)))))
local macro_rules | `(tactic| walk_at "lw n") => `(tactic| (try dsimp only [ent, List.map, Nat.reduceAdd, Nat.reduceSub, List.length_cons, List.length_nil, List.replicate_succ, List.replicate_zero, List.cons_append, List.nil_append, putBack, setOwn, List.getElem?_cons_zero, List.getElem?_cons_succ, List.set_cons_zero, List.set_cons_succ, Sm.nf]))
local macro_rules | `(tactic| walk_at "lw v") => `(tactic| (try simp only [pb1, pb2, pb3, pb4, pb5, pb6]))
/-! ### dry deeds, round by round -/
def d3 (k p po : Int) : D := .tuple [.int k, .int p, .int po]
end Lw
-- F2
-- F3
-- F4
-- F5
namespace Lw
open PySem PySem.Spec PyProof.Rows L2
local macro_rules | `(tactic| walk_at "lw e") => `(tactic| (repeat (first | (with_reducible refine Stp.go ?_) | (with_reducible apply Exists.intro) | ((with_reducible refine And.intro ?_ ?_); · (first | (with_reducible exact Evl.ev) | ((fail_if_success (with_reducible refine Gd.keep ?_)); (fail_if_success (with_reducible refine Gd5.keep ?_)); rfl) | ((with_reducible apply mul_r); decide) | ((with_reducible apply mul_l); decide) | ((with_reducible apply div_i); decide) | ((with_reducible apply in_R); decide) | (exact Nat.le_of_ble_eq_true rfl) | (simp [refsOf]; done) | (exact ⟨rfl, rfl, by decide⟩) | (exact ⟨rfl, rfl, rfl⟩) | ((with_reducible apply tgN_o); (focus rfl); (focus (first | assumption | trivial))))) | ((with_reducible apply Sm.vrP); (focus rfl)) | ((with_reducible apply Sm.vrO); (focus rfl)) | ((with_reducible apply Sm.augI); (focus rfl)) | ((with_reducible refine Sm.dicE ?_ ?_); (focus decide)) | ((with_reducible apply Sm.augS); (focus rfl)) | ((with_reducible apply Sm.augL); (focus rfl)) | (with_reducible refine iteTT ?_) | (with_reducible refine iteT ?_) | (with_reducible refine iteF ?_) | ((with_reducible refine iteB1 ?_ ?_); (focus rfl)) | ((with_reducible refine iteB0 ?_ ?_); (focus rfl)))))
local macro_rules | `(tactic| walk_at "lw n") => `(tactic| (try dsimp only [ent, List.map, Nat.reduceAdd, Nat.reduceSub, List.length_cons, List.length_nil, List.replicate_succ, List.replicate_zero, List.cons_append, List.nil_append, putBack, setOwn, List.getElem?_cons_zero, List.getElem?_cons_succ, List.set_cons_zero, List.set_cons_succ, Sm.nf]))
local macro_rules | `(tactic| walk_at "lw v") => `(tactic| (try simp only [pb1, pb2, pb3, pb4, pb5, pb6]))
/-! ### far_dry, first_dry -/
/-! ### the least of found -/
abbrev Fnd := Nat × Nat × Dd
def LexLe (a b : Fnd) : Prop := a.1 < b.1 ∨ (a.1 = b.1 ∧ a.2.1 ≤ b.2.1)
theorem LexLe.trans {a b c : Fnd} (h : LexLe a b) (k : LexLe b c) : LexLe a c := by unfold LexLe at *; omega
end Lw
-- F2
-- F3
-- F4
-- F5
namespace Lw
open PySem PySem.Spec PyProof.Rows L2
local macro_rules | `(tactic| walk_at "lw e") => `(tactic| (repeat (first | (with_reducible refine Stp.go ?_) | (with_reducible apply Exists.intro) | ((with_reducible refine And.intro ?_ ?_); · (first | (with_reducible exact Evl.ev) | ((fail_if_success (with_reducible refine Gd.keep ?_)); (fail_if_success (with_reducible refine Gd5.keep ?_)); rfl) | ((with_reducible apply mul_r); decide) | ((with_reducible apply mul_l); decide) | ((with_reducible apply div_i); decide) | ((with_reducible apply in_R); decide) | (exact Nat.le_of_ble_eq_true rfl) | (simp [refsOf]; done) | (exact ⟨rfl, rfl, by decide⟩) | (exact ⟨rfl, rfl, rfl⟩) | ((with_reducible apply tgN_o); (focus rfl); (focus (first | assumption | trivial))))) | ((with_reducible apply Sm.vrP); (focus rfl)) | ((with_reducible apply Sm.vrO); (focus rfl)) | ((with_reducible apply Sm.augI); (focus rfl)) | ((with_reducible refine Sm.dicE ?_ ?_); (focus decide)) | ((with_reducible apply Sm.augS); (focus rfl)) | ((with_reducible apply Sm.augL); (focus rfl)) | (with_reducible refine iteTT ?_) | (with_reducible refine iteT ?_) | (with_reducible refine iteF ?_) | ((with_reducible refine iteB1 ?_ ?_); (focus rfl)) | ((with_reducible refine iteB0 ?_ ?_); (focus rfl)))))
local macro_rules | `(tactic| walk_at "lw n") => `(tactic| (try dsimp only [ent, List.map, Nat.reduceAdd, Nat.reduceSub, List.length_cons, List.length_nil, List.replicate_succ, List.replicate_zero, List.cons_append, List.nil_append, putBack, setOwn, List.getElem?_cons_zero, List.getElem?_cons_succ, List.set_cons_zero, List.set_cons_succ, Sm.nf]))
local macro_rules | `(tactic| walk_at "lw v") => `(tactic| (try simp only [pb1, pb2, pb3, pb4, pb5, pb6]))
/-! ### a stair, levels and deeds such as these defs take -/
end Lw
-- F2
-- F3
-- F4
-- F5
namespace Lw
open PySem PySem.Spec PyProof.Rows L2
local macro_rules | `(tactic| walk_at "lw e") => `(tactic| (repeat (first | (with_reducible refine Stp.go ?_) | (with_reducible apply Exists.intro) | ((with_reducible refine And.intro ?_ ?_); · (first | (with_reducible exact Evl.ev) | ((fail_if_success (with_reducible refine Gd.keep ?_)); (fail_if_success (with_reducible refine Gd5.keep ?_)); rfl) | ((with_reducible apply mul_r); decide) | ((with_reducible apply mul_l); decide) | ((with_reducible apply div_i); decide) | ((with_reducible apply in_R); decide) | (exact Nat.le_of_ble_eq_true rfl) | (simp [refsOf]; done) | (exact ⟨rfl, rfl, by decide⟩) | (exact ⟨rfl, rfl, rfl⟩) | ((with_reducible apply tgN_o); (focus rfl); (focus (first | assumption | trivial))))) | ((with_reducible apply Sm.vrP); (focus rfl)) | ((with_reducible apply Sm.vrO); (focus rfl)) | ((with_reducible apply Sm.augI); (focus rfl)) | ((with_reducible refine Sm.dicE ?_ ?_); (focus decide)) | ((with_reducible apply Sm.augS); (focus rfl)) | ((with_reducible apply Sm.augL); (focus rfl)) | (with_reducible refine iteTT ?_) | (with_reducible refine iteT ?_) | (with_reducible refine iteF ?_) | ((with_reducible refine iteB1 ?_ ?_); (focus rfl)) | ((with_reducible refine iteB0 ?_ ?_); (focus rfl)))))
local macro_rules | `(tactic| walk_at "lw n") => `(tactic| (try dsimp only [ent, List.map, Nat.reduceAdd, Nat.reduceSub, List.length_cons, List.length_nil, List.replicate_succ, List.replicate_zero, List.cons_append, List.nil_append, putBack, setOwn, List.getElem?_cons_zero, List.getElem?_cons_succ, List.set_cons_zero, List.set_cons_succ, Sm.nf]))
local macro_rules | `(tactic| walk_at "lw v") => `(tactic| (try simp only [pb1, pb2, pb3, pb4, pb5, pb6]))
/-! ### drawn worlds fit -/
/-! ### more water is no less -/
inductive LeA : List Int → List Int → Prop
  | nil : LeA [] []
  | cons {x y : Int} {xs ys : List Int} : x ≤ y → LeA xs ys → LeA (x :: xs) (y :: ys)
theorem LeA.len {xs ys : List Int} (h : LeA xs ys) : xs.length = ys.length := by
  induction h with
  | nil => rfl
  | cons _ _ ih => rw [List.length_cons, List.length_cons, ih]
theorem LeA.get {xs ys : List Int} (h : LeA xs ys) : ∀ i, xs.getD i 0 ≤ ys.getD i 0 := by
  induction h with
  | nil => intro i; exact Int.le_refl _
  | cons hx _ ih =>
    intro i
    cases i with
    | zero => exact hx
    | succ i => exact ih i
theorem LeA.set {xs ys : List Int} (h : LeA xs ys) {x y : Int} (hxy : x ≤ y) : ∀ i, LeA (xs.set i x) (ys.set i y) := by
  induction h with
  | nil => intro i; exact .nil
  | cons hx hs ih =>
    intro i
    cases i with
    | zero => exact .cons hxy hs
    | succ i => exact .cons hx (ih i)
end Lw
-- F2
-- F3
-- F4
-- F5
namespace Lw
open PySem PySem.Spec PyProof.Rows L2
local macro_rules | `(tactic| walk_at "lw e") => `(tactic| (repeat (first | (with_reducible refine Stp.go ?_) | (with_reducible apply Exists.intro) | ((with_reducible refine And.intro ?_ ?_); · (first | (with_reducible exact Evl.ev) | ((fail_if_success (with_reducible refine Gd.keep ?_)); (fail_if_success (with_reducible refine Gd5.keep ?_)); rfl) | ((with_reducible apply mul_r); decide) | ((with_reducible apply mul_l); decide) | ((with_reducible apply div_i); decide) | ((with_reducible apply in_R); decide) | (exact Nat.le_of_ble_eq_true rfl) | (simp [refsOf]; done) | (exact ⟨rfl, rfl, by decide⟩) | (exact ⟨rfl, rfl, rfl⟩) | ((with_reducible apply tgN_o); (focus rfl); (focus (first | assumption | trivial))))) | ((with_reducible apply Sm.vrP); (focus rfl)) | ((with_reducible apply Sm.vrO); (focus rfl)) | ((with_reducible apply Sm.augI); (focus rfl)) | ((with_reducible refine Sm.dicE ?_ ?_); (focus decide)) | ((with_reducible apply Sm.augS); (focus rfl)) | ((with_reducible apply Sm.augL); (focus rfl)) | (with_reducible refine iteTT ?_) | (with_reducible refine iteT ?_) | (with_reducible refine iteF ?_) | ((with_reducible refine iteB1 ?_ ?_); (focus rfl)) | ((with_reducible refine iteB0 ?_ ?_); (focus rfl)))))
local macro_rules | `(tactic| walk_at "lw n") => `(tactic| (try dsimp only [ent, List.map, Nat.reduceAdd, Nat.reduceSub, List.length_cons, List.length_nil, List.replicate_succ, List.replicate_zero, List.cons_append, List.nil_append, putBack, setOwn, List.getElem?_cons_zero, List.getElem?_cons_succ, List.set_cons_zero, List.set_cons_succ, Sm.nf]))
local macro_rules | `(tactic| walk_at "lw v") => `(tactic| (try simp only [pb1, pb2, pb3, pb4, pb5, pb6]))
/-! ### stairs with wide pounds -/
structure PoundW (W : Int) (p : P3) : Prop where
  a0 : 0 ≤ p.1
  ab : p.1 ≤ p.2.1
  bw : p.2.1 ≤ W
  s1 : 1 ≤ p.2.2
  s2 : p.2.2 ≤ 10000000000000000
def Amt (A : Int) : Dd → Prop
  | .raise _ m => 1 ≤ m ∧ m ≤ A
  | .lower _ m => 1 ≤ m ∧ m ≤ A
  | _ => True
theorem Amt.mono {A B : Int} (h : A ≤ B) {d : Dd} (k : Amt A d) : Amt B d := by
  cases d with
  | raise l m => exact ⟨k.1, Int.le_trans k.2 h⟩
  | lower l m => exact ⟨k.1, Int.le_trans k.2 h⟩
  | _ => trivial
/-! ### strict walks -/
/-! ### levels stay within, as long as nothing is dry -/
end Lw
-- F2
-- F3
-- F4
-- F5
namespace Lw
open PySem PySem.Spec PyProof.Rows L2
local macro_rules | `(tactic| walk_at "lw e") => `(tactic| (repeat (first | (with_reducible refine Stp.go ?_) | (with_reducible apply Exists.intro) | ((with_reducible refine And.intro ?_ ?_); · (first | (with_reducible exact Evl.ev) | ((fail_if_success (with_reducible refine Gd.keep ?_)); (fail_if_success (with_reducible refine Gd5.keep ?_)); rfl) | ((with_reducible apply mul_r); decide) | ((with_reducible apply mul_l); decide) | ((with_reducible apply div_i); decide) | ((with_reducible apply in_R); decide) | (exact Nat.le_of_ble_eq_true rfl) | (simp [refsOf]; done) | (exact ⟨rfl, rfl, by decide⟩) | (exact ⟨rfl, rfl, rfl⟩) | ((with_reducible apply tgN_o); (focus rfl); (focus (first | assumption | trivial))))) | ((with_reducible apply Sm.vrP); (focus rfl)) | ((with_reducible apply Sm.vrO); (focus rfl)) | ((with_reducible apply Sm.augI); (focus rfl)) | ((with_reducible refine Sm.dicE ?_ ?_); (focus decide)) | ((with_reducible apply Sm.augS); (focus rfl)) | ((with_reducible apply Sm.augL); (focus rfl)) | (with_reducible refine iteTT ?_) | (with_reducible refine iteT ?_) | (with_reducible refine iteF ?_) | ((with_reducible refine iteB1 ?_ ?_); (focus rfl)) | ((with_reducible refine iteB0 ?_ ?_); (focus rfl)))))
local macro_rules | `(tactic| walk_at "lw n") => `(tactic| (try dsimp only [ent, List.map, Nat.reduceAdd, Nat.reduceSub, List.length_cons, List.length_nil, List.replicate_succ, List.replicate_zero, List.cons_append, List.nil_append, putBack, setOwn, List.getElem?_cons_zero, List.getElem?_cons_succ, List.set_cons_zero, List.set_cons_succ, Sm.nf]))
local macro_rules | `(tactic| walk_at "lw v") => `(tactic| (try simp only [pb1, pb2, pb3, pb4, pb5, pb6]))
/-! ### rounds as one row of deeds without end -/
/-! ### rounds put otherwise -/
end Lw
-- F2
-- F3
-- F4
-- F5
namespace Lw
open PySem PySem.Spec PyProof.Rows L2
local macro_rules | `(tactic| walk_at "lw e") => `(tactic| (repeat (first | (with_reducible refine Stp.go ?_) | (with_reducible apply Exists.intro) | ((with_reducible refine And.intro ?_ ?_); · (first | (with_reducible exact Evl.ev) | ((fail_if_success (with_reducible refine Gd.keep ?_)); (fail_if_success (with_reducible refine Gd5.keep ?_)); rfl) | ((with_reducible apply mul_r); decide) | ((with_reducible apply mul_l); decide) | ((with_reducible apply div_i); decide) | ((with_reducible apply in_R); decide) | (exact Nat.le_of_ble_eq_true rfl) | (simp [refsOf]; done) | (exact ⟨rfl, rfl, by decide⟩) | (exact ⟨rfl, rfl, rfl⟩) | ((with_reducible apply tgN_o); (focus rfl); (focus (first | assumption | trivial))))) | ((with_reducible apply Sm.vrP); (focus rfl)) | ((with_reducible apply Sm.vrO); (focus rfl)) | ((with_reducible apply Sm.augI); (focus rfl)) | ((with_reducible refine Sm.dicE ?_ ?_); (focus decide)) | ((with_reducible apply Sm.augS); (focus rfl)) | ((with_reducible apply Sm.augL); (focus rfl)) | (with_reducible refine iteTT ?_) | (with_reducible refine iteT ?_) | (with_reducible refine iteF ?_) | ((with_reducible refine iteB1 ?_ ?_); (focus rfl)) | ((with_reducible refine iteB0 ?_ ?_); (focus rfl)))))
local macro_rules | `(tactic| walk_at "lw n") => `(tactic| (try dsimp only [ent, List.map, Nat.reduceAdd, Nat.reduceSub, List.length_cons, List.length_nil, List.replicate_succ, List.replicate_zero, List.cons_append, List.nil_append, putBack, setOwn, List.getElem?_cons_zero, List.getElem?_cons_succ, List.set_cons_zero, List.set_cons_succ, Sm.nf]))
local macro_rules | `(tactic| walk_at "lw v") => `(tactic| (try simp only [pb1, pb2, pb3, pb4, pb5, pb6]))
/-! ### wide pounds, drawn levels in them -/
def PoundG (g : Nat) (p : Int × Int × Int) : Prop := ∃ a b s : Int, p = (a * g, (a + b) * g, s * g) ∧ 0 ≤ a ∧ a < 4 ∧ 0 ≤ b ∧ b < 200000 ∧ 1 ≤ s ∧ s < 5
theorem PoundI.g {g : Nat} {p : P3} (h : PoundI g p) : PoundG g p := by
  obtain ⟨a, b, s, rfl, h1, h2, h3, h4, h5, h6⟩ := h
  exact ⟨a, b, s, rfl, h1, h2, h3, by omega, h5, h6⟩
theorem PoundG.w {g : Nat} (hg1 : 1 ≤ g) (hg : g ≤ 1000000000000000) {p : P3} (h : PoundG g p) : PoundW 300000000000000000000 p := by
  obtain ⟨a, b, s, rfl, h1, h2, h3, h4, h5, h6⟩ := h
  have k1 : 0 ≤ a * (g : Int) := Int.mul_nonneg h1 (by omega)
  have k2 : (a + b) * (g : Int) = a * g + b * g := Int.add_mul _ _ _
  have k3 : 0 ≤ b * (g : Int) := Int.mul_nonneg h3 (by omega)
  have k4 : (a + b) * (g : Int) ≤ 200004 * g := Int.mul_le_mul_of_nonneg_right (by omega) (by omega)
  have e1 : 1 * 1 ≤ s * (g : Int) := Int.mul_le_mul h5 (by omega) (by omega) (by omega)
  have e2 : s * (g : Int) ≤ 4 * g := Int.mul_le_mul_of_nonneg_right (by omega) (by omega)
  exact ⟨k1, by show a * (g : Int) ≤ (a + b) * g; omega, by show (a + b) * (g : Int) ≤ _; omega, by show 1 ≤ s * (g : Int); omega, by show s * (g : Int) ≤ _; omega⟩
/-! ### a law that is right several times over each box -/
end Lw
-- F2
-- F3
-- F4
-- F5
namespace Lw
open PySem PySem.Spec PyProof.Rows L2
local macro_rules | `(tactic| walk_at "lw e") => `(tactic| (repeat (first | (with_reducible refine Stp.go ?_) | (with_reducible apply Exists.intro) | ((with_reducible refine And.intro ?_ ?_); · (first | (with_reducible exact Evl.ev) | ((fail_if_success (with_reducible refine Gd.keep ?_)); (fail_if_success (with_reducible refine Gd5.keep ?_)); rfl) | ((with_reducible apply mul_r); decide) | ((with_reducible apply mul_l); decide) | ((with_reducible apply div_i); decide) | ((with_reducible apply in_R); decide) | (exact Nat.le_of_ble_eq_true rfl) | (simp [refsOf]; done) | (exact ⟨rfl, rfl, by decide⟩) | (exact ⟨rfl, rfl, rfl⟩) | ((with_reducible apply tgN_o); (focus rfl); (focus (first | assumption | trivial))))) | ((with_reducible apply Sm.vrP); (focus rfl)) | ((with_reducible apply Sm.vrO); (focus rfl)) | ((with_reducible apply Sm.augI); (focus rfl)) | ((with_reducible refine Sm.dicE ?_ ?_); (focus decide)) | ((with_reducible apply Sm.augS); (focus rfl)) | ((with_reducible apply Sm.augL); (focus rfl)) | (with_reducible refine iteTT ?_) | (with_reducible refine iteT ?_) | (with_reducible refine iteF ?_) | ((with_reducible refine iteB1 ?_ ?_); (focus rfl)) | ((with_reducible refine iteB0 ?_ ?_); (focus rfl)))))
local macro_rules | `(tactic| walk_at "lw n") => `(tactic| (try dsimp only [ent, List.map, Nat.reduceAdd, Nat.reduceSub, List.length_cons, List.length_nil, List.replicate_succ, List.replicate_zero, List.cons_append, List.nil_append, putBack, setOwn, List.getElem?_cons_zero, List.getElem?_cons_succ, List.set_cons_zero, List.set_cons_succ, Sm.nf]))
local macro_rules | `(tactic| walk_at "lw v") => `(tactic| (try simp only [pb1, pb2, pb3, pb4, pb5, pb6]))
/-! ### things that may be compared -/
def Sh0 (e : Nat) (d : D) : Prop := d.canLay0 = true ∧ d.depth ≤ e
theorem Sh0.int (e : Nat) (i : Int) : Sh0 e (.int i) := ⟨rfl, Nat.zero_le _⟩
theorem Sh0.bool (e : Nat) (b : Bool) : Sh0 e (.bool b) := ⟨rfl, Nat.zero_le _⟩
theorem Sh0.non (e : Nat) : Sh0 e .none := ⟨rfl, Nat.zero_le _⟩
theorem Sh0.str (e : Nat) (w : String) : Sh0 e (.str w) := ⟨strOk_str w, Nat.zero_le _⟩
theorem Sh0.tup {e : Nat} {xs : List D} (h : ∀ x ∈ xs, Sh0 e x) : Sh0 (e + 1) (.tuple xs) := by
  refine ⟨lay_all fun x hx => (h x hx).1, ?_⟩
  unfold PyData.depth
  have := depth_all (e := e) fun x hx => (h x hx).2
  omega
theorem Sh0.lst {e : Nat} {xs : List D} (h : ∀ x ∈ xs, Sh0 e x) : Sh0 (e + 1) (.list xs) := by
  refine ⟨lay_all fun x hx => (h x hx).1, ?_⟩
  unfold PyData.depth
  have := depth_all (e := e) fun x hx => (h x hx).2
  omega
theorem Sh0.sh {e : Nat} {d : D} (h : Sh0 e d) (he : e ≤ 64) : SeqAt.shaped d = true := by
  unfold SeqAt.shaped
  rw [h.1, decide_eq_true (Nat.le_trans h.2 he)]
  rfl
theorem Sh0.mono {e e' : Nat} {d : D} (h : Sh0 e d) (he : e ≤ e') : Sh0 e' d := ⟨h.1, Nat.le_trans h.2 he⟩
end Lw
-- F2
-- F3
-- F4
-- F5
namespace Lw
open PySem PySem.Spec PyProof.Rows L2
local macro_rules | `(tactic| walk_at "lw e") => `(tactic| (repeat (first | (with_reducible refine Stp.go ?_) | (with_reducible apply Exists.intro) | ((with_reducible refine And.intro ?_ ?_); · (first | (with_reducible exact Evl.ev) | ((fail_if_success (with_reducible refine Gd.keep ?_)); (fail_if_success (with_reducible refine Gd5.keep ?_)); rfl) | ((with_reducible apply mul_r); decide) | ((with_reducible apply mul_l); decide) | ((with_reducible apply div_i); decide) | ((with_reducible apply in_R); decide) | (exact Nat.le_of_ble_eq_true rfl) | (simp [refsOf]; done) | (exact ⟨rfl, rfl, by decide⟩) | (exact ⟨rfl, rfl, rfl⟩) | ((with_reducible apply tgN_o); (focus rfl); (focus (first | assumption | trivial))))) | ((with_reducible apply Sm.vrP); (focus rfl)) | ((with_reducible apply Sm.vrO); (focus rfl)) | ((with_reducible apply Sm.augI); (focus rfl)) | ((with_reducible refine Sm.dicE ?_ ?_); (focus decide)) | ((with_reducible apply Sm.augS); (focus rfl)) | ((with_reducible apply Sm.augL); (focus rfl)) | (with_reducible refine iteTT ?_) | (with_reducible refine iteT ?_) | (with_reducible refine iteF ?_) | ((with_reducible refine iteB1 ?_ ?_); (focus rfl)) | ((with_reducible refine iteB0 ?_ ?_); (focus rfl)))))
local macro_rules | `(tactic| walk_at "lw n") => `(tactic| (try dsimp only [ent, List.map, Nat.reduceAdd, Nat.reduceSub, List.length_cons, List.length_nil, List.replicate_succ, List.replicate_zero, List.cons_append, List.nil_append, putBack, setOwn, List.getElem?_cons_zero, List.getElem?_cons_succ, List.set_cons_zero, List.set_cons_succ, Sm.nf]))
local macro_rules | `(tactic| walk_at "lw v") => `(tactic| (try simp only [pb1, pb2, pb3, pb4, pb5, pb6]))
/-! ### things of any size that are the same -/
def LeafS : D → Prop
  | .none => True
  | .bool _ => True
  | .int _ => True
  | .str w => Sh0 0 (.str w)
  | _ => False
def OkS : Nat → D → Prop
  | 0, d => LeafS d
  | e + 1, .list xs => xs.length ≤ 10000 ∧ ∀ x ∈ xs, OkS e x
  | e + 1, .tuple xs => xs.length ≤ 10000 ∧ ∀ x ∈ xs, OkS e x
  | _ + 1, d => LeafS d
theorem LeafS.sh {d : D} (h : LeafS d) : Sh0 0 d := by
  cases d with
  | none => exact Sh0.non 0
  | bool b => exact Sh0.bool 0 b
  | int i => exact Sh0.int 0 i
  | str w => exact h
  | list xs => exact h.elim
  | tuple xs => exact h.elim
  | dict xs => exact h.elim
theorem OkS.sh : ∀ {e : Nat} {d : D}, OkS e d → Sh0 e d
  | 0, d, h => LeafS.sh h
  | e + 1, d, h => by
    cases d with
    | none => exact Sh0.non _
    | bool b => exact Sh0.bool _ b
    | int i => exact Sh0.int _ i
    | str w => exact (show LeafS (.str w) from h).sh.mono (Nat.zero_le _)
    | list xs => exact Sh0.lst fun x hx => (h.2 x hx).sh
    | tuple xs => exact Sh0.tup fun x hx => (h.2 x hx).sh
    | dict xs => exact (show LeafS (.dict xs) from h).elim
theorem OkS.int (e : Nat) (i : Int) : OkS e (.int i) := by cases e <;> trivial
theorem OkS.bool (e : Nat) (b : Bool) : OkS e (.bool b) := by cases e <;> trivial
theorem OkS.non (e : Nat) : OkS e .none := by cases e <;> trivial
theorem OkS.str (e : Nat) (w : String) : OkS e (.str w) := by cases e <;> exact Sh0.str 0 w
theorem sameS : ∀ (e n : Nat) (d : D), OkS e d → e < n → e ≤ 64 → wpf (m_l_same n) [.pure d, .pure d] TrueQ := by
  intro e
  induction e with
  | zero =>
    intro n d h hn he
    obtain ⟨m, rfl⟩ : ∃ m, n = m + 1 := ⟨n - 1, by omega⟩
    have hs := h.sh.sh he
    show wpf (runFn (g_l_same (m_l_same m)) 4) _ _
    refine Sm.run ?_
    unfold g_l_same
    have hr : PyData.eqv d d = true := SeqAt.eqv_refl d h.sh.1
    cases d with
    | none => walk_at "lw e"; exact ⟨_, rfl, rfl⟩
    | bool b => walk_at "lw e"; exact ⟨_, rfl, by rw [hr]⟩
    | int i => walk_at "lw e"; exact ⟨_, rfl, by rw [hr]⟩
    | str x =>
      walk_at "lw e"
      refine iteB1 (decide_eq_true rfl) ?_
      walk_at "lw e"
      exact ⟨_, rfl, rfl⟩
    | list xs => exact h.elim
    | tuple xs => exact h.elim
    | dict xs => exact h.elim
  | succ e ih =>
    intro n d h hn he
    obtain ⟨m, rfl⟩ : ∃ m, n = m + 1 := ⟨n - 1, by omega⟩
    have hs := h.sh.sh he
    show wpf (runFn (g_l_same (m_l_same m)) 4) _ _
    refine Sm.run ?_
    unfold g_l_same
    have hr : PyData.eqv d d = true := SeqAt.eqv_refl d h.sh.1
    cases d with
    | none => walk_at "lw e"; exact ⟨_, rfl, rfl⟩
    | bool b => walk_at "lw e"; exact ⟨_, rfl, by rw [hr]⟩
    | int i => walk_at "lw e"; exact ⟨_, rfl, by rw [hr]⟩
    | str x =>
      walk_at "lw e"
      refine iteB1 (decide_eq_true rfl) ?_
      walk_at "lw e"
      exact ⟨_, rfl, rfl⟩
    | list xs =>
      have hl := h.1
      have hsl : sizeLine = 16777216 := rfl
      have hx := h.2
      walk_at "lw e"
      refine iteB1 (by rw [eqv_int]; exact decide_eq_true rfl) ?_
      walk_at "lw e"
      refine ⟨.inl ⟨rfl, rfl⟩, ?_⟩
      walk_at "lw e"
      refine Sm.lcPure (ds := zipD xs xs) (fun _ => .bool true) (by rw [zipD_len]; omega) ?_ ?_
      · intro d hd
        obtain ⟨a, ha, rfl⟩ := zip_self hd
        refine ⟨_, tgT2_o rfl trivial rfl trivial, ?_⟩
        walk_at "lw e"
        refine Sm.fmono (ih m a (hx a ha) (by omega) (by omega)) fun r o h => ?_
        obtain ⟨d, rfl, rfl⟩ := h
        refine ⟨nref, ?_⟩
        walk_at "lw v"
        walk_at "lw e"
        rfl
      · refine ⟨_, _, rfl, all_mk (p := fun _ => true), ?_⟩
        walk_at "lw e"
        refine ⟨_, rfl, ?_⟩
        rw [List.all_eq_true.2 (fun _ _ => rfl)]
    | tuple xs =>
      have hl := h.1
      have hsl : sizeLine = 16777216 := rfl
      have hx := h.2
      walk_at "lw e"
      refine iteB1 (by rw [eqv_int]; exact decide_eq_true rfl) ?_
      walk_at "lw e"
      refine ⟨.inr ⟨rfl, rfl⟩, ?_⟩
      walk_at "lw e"
      refine Sm.lcPure (ds := zipD xs xs) (fun _ => .bool true) (by rw [zipD_len]; omega) ?_ ?_
      · intro d hd
        obtain ⟨a, ha, rfl⟩ := zip_self hd
        refine ⟨_, tgT2_o rfl trivial rfl trivial, ?_⟩
        walk_at "lw e"
        refine Sm.fmono (ih m a (hx a ha) (by omega) (by omega)) fun r o h => ?_
        obtain ⟨d, rfl, rfl⟩ := h
        refine ⟨nref, ?_⟩
        walk_at "lw v"
        walk_at "lw e"
        rfl
      · refine ⟨_, _, rfl, all_mk (p := fun _ => true), ?_⟩
        walk_at "lw e"
        refine ⟨_, rfl, ?_⟩
        rw [List.all_eq_true.2 (fun _ _ => rfl)]
    | dict xs => exact h.elim
theorem same_same {e : Nat} {d : D} (h : OkS e d) (he : e < 10) : wpf (m_l_same 10) [.pure d, .pure d] TrueQ := sameS e 10 d h he (by omega)
end Lw
namespace K46
open PySem PySem.Spec PyProof.Rows L2 Lw
def g_p_bare_turns : MS :=
  (sq (asg (ife (tst (op2 gEq (vr 0) (cn (.str "low")))) (op2 gSubA (vr 1) (vr 2)) (op2 gSubA (vr 2) (vr 1))) (tgN 3))
  (retS (ife (tst (op2 gGt (vr 3) (cn (.int 0)))) (op2 gSubA (vr 3) (cn (.int 1))) (negV (vr 3)))))
def m_p_bare_turns : Fsem := runFn g_p_bare_turns 4
def g_l_table : MS :=
  (sq (dnew true 1)
  (sq (forS (itR1 (op2 gAddA (op2 gMulA (cn (.int 2)) (vr 0)) (cn (.int 1)))) (tgN 2) (forS (itR1 (op2 gAddA (op2 (g2I fun i j => if j < i then j else i) (vr 2) (vr 0)) (cn (.int 1)))) (tgN 3) (sq (asg (op2 gSubA (vr 2) (vr 3)) (tgN 4))
  (ifS (tst (op2 gLe (vr 4) (vr 0))) (sq (asg (dget2 1 (keyT (argV (cn (.str "high")) (argV (op2 gSubA (vr 3) (cn (.int 1))) (argV (vr 4) argN)))) (op2 gPowA (cn (.int 10)) (cn (.int 6)))) (tgN 5))
  (sq (asg (dget2 1 (keyT (argV (cn (.str "low")) (argV (vr 3) (argV (op2 gSubA (vr 4) (cn (.int 1))) argN)))) (op2 gPowA (cn (.int 10)) (cn (.int 6)))) (tgN 6))
  (sq (dput 1 (keyT (argV (cn (.str "low")) (argV (vr 3) (argV (vr 4) argN)))) (ife (tst (op2 gGt (vr 2) (cn (.int 0)))) (op2 (g2I fun i j => if j < i then j else i) (vr 5) (op2 gAddA (cn (.int 1)) (vr 6))) (cn (.int 0))))
  (dput 1 (keyT (argV (cn (.str "high")) (argV (vr 3) (argV (vr 4) argN)))) (ife (tst (op2 gGt (vr 2) (cn (.int 0)))) (op2 (g2I fun i j => if j < i then j else i) (vr 6) (op2 gAddA (cn (.int 1)) (vr 5))) (cn (.int 0))))))) skip))))
  (retS (vr 1))))
def m_l_table : Fsem := runFn g_l_table 7
def g_l_right : MS :=
  (sq (forS (itR1 (cn (.int 12))) (tgN 2) (sq (par3 3 4 5 (callE (m_l_take 4) (argR (vr 0) (argV (cn (.int 13)) argN))) (callE (m_l_take 4) (argR (vr 0) (argV (cn (.int 13)) argN))) (callE (m_l_take 4) (argR (vr 0) (argV (op2 gPowA (cn (.int 10)) (cn (.int 15))) argN))))
  (sq (asg (lstE (argV (dget 1 (keyT (argV (cn (.str "low")) (argV (vr 3) (argV (vr 4) argN))))) (argV (dget 1 (keyT (argV (cn (.str "high")) (argV (vr 3) (argV (vr 4) argN))))) argN))) (tgN 6))
  (sq (ifS (notT (tru (callE (m_l_same 10) (argV (lstE (argV (callE m_p_bare_turns (argV (cn (.str "low")) (argV (vr 3) (argV (vr 4) argN)))) (argV (callE m_p_bare_turns (argV (cn (.str "high")) (argV (vr 3) (argV (vr 4) argN)))) argN))) (argV (vr 6) argN))))) (retS (cn (.bool false))) skip)
  (sq (asg (lstE (argV (callE m_p_bare_turns (argV (cn (.str "low")) (argV (op2 gAddA (vr 3) (vr 5)) (argV (op2 gAddA (vr 4) (vr 5)) argN)))) (argV (callE m_p_bare_turns (argV (cn (.str "high")) (argV (op2 gAddA (vr 3) (vr 5)) (argV (op2 gAddA (vr 4) (vr 5)) argN)))) argN))) (tgN 7))
  (sq (ifS (notT (tru (callE (m_l_same 10) (argV (vr 7) (argV (vr 6) argN))))) (retS (cn (.bool false))) skip)
  (ifS (notT (tru (callE (m_l_same 10) (argV (lstE (argV (callE m_p_bare_turns (argV (cn (.str "high")) (argV (vr 4) (argV (vr 3) argN)))) (argV (callE m_p_bare_turns (argV (cn (.str "low")) (argV (vr 4) (argV (vr 3) argN)))) argN))) (argV (vr 6) argN))))) (retS (cn (.bool false))) skip)))))))
  (sq (asg (op2 gAddA (cn (.int 1)) (callE (m_l_take 4) (argR (vr 0) (argV (op2 gPowA (cn (.int 10)) (cn (.int 15))) argN)))) (tgN 8))
  (sq (asg (lstE (argV (callE m_p_bare_turns (argV (cn (.str "low")) (argV (vr 8) (argV (cn (.int 0)) argN)))) (argV (callE m_p_bare_turns (argV (cn (.str "low")) (argV (cn (.int 0)) (argV (vr 8) argN)))) argN))) (tgN 7))
  (sq (asg (op2 gAddA (vr 7) (lstE (argV (callE m_p_bare_turns (argV (cn (.str "high")) (argV (vr 8) (argV (cn (.int 0)) argN)))) (argV (callE m_p_bare_turns (argV (cn (.str "high")) (argV (cn (.int 0)) (argV (vr 8) argN)))) argN)))) (tgN 7))
  (sq (ifS (notT (tru (callE (m_l_same 10) (argV (vr 7) (argV (lstE (argV (op2 gSubA (vr 8) (cn (.int 1))) (argV (vr 8) (argV (vr 8) (argV (op2 gSubA (vr 8) (cn (.int 1))) argN))))) argN))))) (retS (cn (.bool false))) skip)
  (retS (callE (m_l_same 10) (argV (lstE (argV (callE m_p_bare_turns (argV (cn (.str "low")) (argV (cn (.int 0)) (argV (cn (.int 0)) argN)))) (argV (callE m_p_bare_turns (argV (cn (.str "high")) (argV (cn (.int 0)) (argV (cn (.int 0)) argN)))) argN))) (argV (lstE (argV (cn (.int 0)) (argV (cn (.int 0)) argN))) argN)))))))))
def m_l_right : Fsem := runFn g_l_right 9
def g_p_law : MS :=
  (sq (par2 1 2 false true (callE m_l_cells (argV (vr 0) (argV (cn (.int 4)) argN))) (callE m_l_table (argV (cn (.int 12)) argN)))
  (retS (cal1 gAll (lcE (itR1 (cal1 gLen (vr 1))) [3] (tgN 3) (ret true) (callF2 m_l_right (callE m_l_box (argV (vr 1) (argV (vr 3) argN))) (argR (vr 2) argN))))))
def m_p_law : Fsem := runFn g_p_law 4
end K46
-- F2
-- FD
namespace K46
open PySem PySem.Spec PyProof.Rows L2 Lw
local macro_rules | `(tactic| walk_at "lw e") => `(tactic| (repeat (first | (with_reducible refine Stp.go ?_) | (with_reducible apply Exists.intro) | ((with_reducible refine And.intro ?_ ?_); · (first | (with_reducible exact Evl.ev) | ((fail_if_success (with_reducible refine Gd.keep ?_)); rfl) | ((with_reducible apply mul_r); decide) | ((with_reducible apply mul_l); decide) | ((with_reducible apply div_i); decide) | ((with_reducible apply in_R); decide) | (exact Nat.le_of_ble_eq_true rfl) | (simp [refsOf]; done) | (exact ⟨rfl, rfl, by decide⟩) | (exact ⟨rfl, rfl, rfl⟩) | ((with_reducible apply tgN_o); (focus rfl); (focus (first | assumption | trivial))))) | ((with_reducible apply Sm.vrP); (focus rfl)) | ((with_reducible apply Sm.vrO); (focus rfl)) | ((with_reducible apply Sm.augI); (focus rfl)) | ((with_reducible refine Sm.dicE ?_ ?_); (focus decide)) | ((with_reducible apply Sm.augS); (focus rfl)) | ((with_reducible apply Sm.vrX); (focus rfl)) | ((with_reducible apply Sm.oD); (focus rfl)) | (with_reducible refine iteTT ?_) | (with_reducible refine iteT ?_) | (with_reducible refine iteF ?_) | ((with_reducible refine iteB1 ?_ ?_); (focus rfl)) | ((with_reducible refine iteB0 ?_ ?_); (focus rfl)))))
local macro_rules | `(tactic| walk_at "lw n") => `(tactic| (try dsimp only [ent, List.map, Nat.reduceAdd, Nat.reduceSub, List.length_cons, List.length_nil, List.replicate_succ, List.replicate_zero, List.cons_append, List.nil_append, putBack, setOwn, List.getElem?_cons_zero, List.getElem?_cons_succ, List.set_cons_zero, List.set_cons_succ, Sm.nf]))
local macro_rules | `(tactic| walk_at "lw v") => `(tactic| (try simp only [pb1, pb2, pb3, pb4]))
/-- the fewest bare turns from a low chamber -/
def lw (u d : Int) : Int := if u - d > 0 then u - d - 1 else -(u - d)
theorem bare_low (u d : Int) : wpf m_p_bare_turns [.pure (.str "low"), .pure (.int u), .pure (.int d)] (ValQ fun x => x = .int (lw u d)) := by
  refine Sm.run ?_
  unfold g_p_bare_turns
  walk_at "lw n"
  walk_at "lw e"
  by_cases h : 0 < u - d
  · refine iteDT (p := 0 < u - d) h ?_
    walk_at "lw n"
    walk_at "lw e"
    exact ⟨_, rfl, by unfold lw; rw [if_pos (by omega)]⟩
  · refine iteDF (p := 0 < u - d) h ?_
    walk_at "lw n"
    walk_at "lw e"
    exact ⟨_, rfl, by unfold lw; rw [if_neg (by omega)]⟩
theorem bare_high (u d : Int) : wpf m_p_bare_turns [.pure (.str "high"), .pure (.int u), .pure (.int d)] (ValQ fun x => x = .int (lw d u)) := by
  refine Sm.run ?_
  unfold g_p_bare_turns
  walk_at "lw n"
  walk_at "lw e"
  by_cases h : 0 < d - u
  · refine iteDT (p := 0 < d - u) h ?_
    walk_at "lw n"
    walk_at "lw e"
    exact ⟨_, rfl, by unfold lw; rw [if_pos (by omega)]⟩
  · refine iteDF (p := 0 < d - u) h ?_
    walk_at "lw n"
    walk_at "lw e"
    exact ⟨_, rfl, by unfold lw; rw [if_neg (by omega)]⟩
/-! ### the table -/
abbrev kL (u d : Int) : D := .tuple [.str "low", .int u, .int d]
abbrev kH (u d : Int) : D := .tuple [.str "high", .int u, .int d]
theorem kL_ok (u d : Int) : keyB (kL u d) = true := by
  show (true && (decide (u = u) && (decide (d = d) && true))) = true
  simp
theorem kH_ok (u d : Int) : keyB (kH u d) = true := by
  show (true && (decide (u = u) && (decide (d = d) && true))) = true
  simp
theorem kL_ne {u d a b : Int} (h : ¬ (u = a ∧ d = b)) : kL u d ≠ kL a b := fun e => by
  injection e with e
  injection e with e1 e2
  injection e2 with e2 e3
  injection e3 with e3 e4
  injection e2 with e2
  injection e3 with e3
  exact h ⟨e2, e3⟩
theorem kH_ne {u d a b : Int} (h : ¬ (u = a ∧ d = b)) : kH u d ≠ kH a b := fun e => by
  injection e with e
  injection e with e1 e2
  injection e2 with e2 e3
  injection e3 with e3 e4
  injection e2 with e2
  injection e3 with e3
  exact h ⟨e2, e3⟩
theorem kLH {u d a b : Int} : kL u d ≠ kH a b := fun e => by
  injection e with e
  injection e with e1 e2
  injection e1 with e1
  exact absurd e1 (by decide)
structure TabI (n u0 : Nat) (kvs : KVs) : Prop where
  kd : KdT kvs
  len : kvs.length ≤ 1 + 26 * n + 2 * u0
  at_ : ∀ u d : Nat, u ≤ 12 → d ≤ 12 → (u + d < n ∨ (u + d = n ∧ u < u0)) → getKv kvs (kL u d) = some (.int (lw u d)) ∧ getKv kvs (kH u d) = some (.int (lw d u))
  noH : ∀ d : Int, getKv kvs (kH (-1) d) = none
  noL : ∀ u : Int, getKv kvs (kL u (-1)) = none
theorem TabI.new : TabI 0 0 [(.bool true, .none)] :=
  ⟨⟨[], rfl⟩, Nat.le_refl _, fun u d _ _ h => by omega, fun _ => rfl, fun _ => rfl⟩
theorem TabI.next {n u0 : Nat} {kvs : KVs} (h : TabI n u0 kvs) (hu : u0 ≤ 13) (hc : n < u0 ∨ 12 < u0) : TabI (n + 1) 0 kvs :=
  ⟨h.kd, by have := h.len; omega, fun u d hu hd q => h.at_ u d hu hd (by omega), h.noH, h.noL⟩
theorem TabI.skip {n u0 : Nat} {kvs : KVs} (h : TabI n u0 kvs) (hd : 12 < (n : Int) - u0) : TabI n (u0 + 1) kvs :=
  ⟨h.kd, by have := h.len; omega, fun u d hu hd q => h.at_ u d hu hd (by omega), h.noH, h.noL⟩
/-- what the two new entries are -/
theorem TabI.rise {n u0 : Nat} {kvs : KVs} (h : TabI n u0 kvs) (hu : u0 ≤ n) (hu2 : u0 ≤ 12) (hd : (n : Int) - u0 ≤ 12) : (getKv kvs (kH ((u0 : Int) - 1) ((n : Int) - u0))).getD (.int 1000000) = .int (if u0 = 0 then 1000000 else lw ((n : Int) - u0) ((u0 : Int) - 1)) := by
  by_cases q : u0 = 0
  · subst q
    rw [if_pos rfl, show ((0 : Nat) : Int) - 1 = -1 from rfl, h.noH]
    rfl
  · rw [if_neg q]
    have := (h.at_ (u0 - 1) (n - u0) (by omega) (by omega) (by omega)).2
    rw [show (((u0 - 1 : Nat)) : Int) = (u0 : Int) - 1 by omega, show (((n - u0 : Nat)) : Int) = (n : Int) - u0 by omega] at this
    rw [this]
    rfl
theorem TabI.fall {n u0 : Nat} {kvs : KVs} (h : TabI n u0 kvs) (hu : u0 ≤ n) (hu2 : u0 ≤ 12) (hd : (n : Int) - u0 ≤ 12) : (getKv kvs (kL (u0 : Int) ((n : Int) - u0 - 1))).getD (.int 1000000) = .int (if u0 = n then 1000000 else lw (u0 : Int) ((n : Int) - u0 - 1)) := by
  by_cases q : u0 = n
  · subst q
    rw [if_pos rfl, show (u0 : Int) - u0 - 1 = -1 by omega, h.noL]
    rfl
  · rw [if_neg q]
    have := (h.at_ u0 (n - u0 - 1) (by omega) (by omega) (by omega)).1
    rw [show (((n - u0 - 1 : Nat)) : Int) = (n : Int) - u0 - 1 by omega] at this
    rw [this]
    rfl
theorem TabI.put {n u0 : Nat} {kvs : KVs} (h : TabI n u0 kvs) (hu : u0 ≤ n) (hu2 : u0 ≤ 12) (hd : (n : Int) - u0 ≤ 12) {a b : Int} (ha : a = lw (u0 : Int) ((n : Int) - u0)) (hb : b = lw ((n : Int) - u0) (u0 : Int)) :
    TabI n (u0 + 1) (putKv (putKv kvs (kL (u0 : Int) ((n : Int) - u0)) (.int a)) (kH (u0 : Int) ((n : Int) - u0)) (.int b)) := by
  subst ha hb
  refine ⟨(h.kd.put _ _).put _ _, ?_, fun u d hu' hd' q => ?_, fun d => ?_, fun u => ?_⟩
  · have h1 := putKv_len kvs (kL (u0 : Int) ((n : Int) - u0)) (.int (lw (u0 : Int) ((n : Int) - u0)))
    have h2 := putKv_len (putKv kvs (kL (u0 : Int) ((n : Int) - u0)) (.int (lw (u0 : Int) ((n : Int) - u0)))) (kH (u0 : Int) ((n : Int) - u0)) (.int (lw ((n : Int) - u0) (u0 : Int)))
    have := h.len
    omega
  · by_cases e : u = u0 ∧ u + d = n
    · obtain ⟨rfl, e⟩ := e
      have e2 : (n : Int) - u = d := by omega
      rw [e2, getKv_put_ne (fun z => kLH z.symm), getKv_put (kL_ok _ _), getKv_put (kH_ok _ _)]
      exact ⟨rfl, rfl⟩
    · have ne : ¬ ((u0 : Int) = u ∧ (n : Int) - u0 = d) := by omega
      rw [getKv_put_ne (fun z => kLH z.symm), getKv_put_ne (kL_ne ne), getKv_put_ne (kH_ne ne), getKv_put_ne kLH]
      exact h.at_ u d hu' hd' (by omega)
  · rw [getKv_put_ne (kH_ne (by omega)), getKv_put_ne kLH]
    exact h.noH d
  · rw [getKv_put_ne (fun z => kLH z.symm), getKv_put_ne (kL_ne (by omega))]
    exact h.noL u
theorem step_low {n u0 : Nat} (h1 : u0 ≤ n) (hu2 : u0 ≤ 12) (hd : (n : Int) - u0 ≤ 12) (hn : 0 < n) :
    (fun i j : Int => if j < i then j else i) (if u0 = 0 then 1000000 else lw ((n : Int) - u0) ((u0 : Int) - 1)) (1 + if u0 = n then 1000000 else lw (u0 : Int) ((n : Int) - u0 - 1)) = lw (u0 : Int) ((n : Int) - u0) := by
  unfold lw
  show (if (_ : Int) < _ then _ else _) = _
  repeat' split
  all_goals omega
theorem step_high {n u0 : Nat} (h1 : u0 ≤ n) (hu2 : u0 ≤ 12) (hd : (n : Int) - u0 ≤ 12) (hn : 0 < n) :
    (fun i j : Int => if j < i then j else i) (if u0 = n then 1000000 else lw (u0 : Int) ((n : Int) - u0 - 1)) (1 + if u0 = 0 then 1000000 else lw ((n : Int) - u0) ((u0 : Int) - 1)) = lw ((n : Int) - u0) (u0 : Int) := by
  unfold lw
  show (if (_ : Int) < _ then _ else _) = _
  repeat' split
  all_goals omega
theorem nfx {x : XD} : ∀ i, R.vx x ≠ .ref i := fun i z => by cases z
def TabQ (r : R) (_ : List S) : Prop := ∃ kvs, r = .vx (.dct kvs) ∧ TabI 25 0 kvs
def IO (i : Nat) (ς : En) : Prop := ∃ kvs o2 o3 o4 o5 o6, ς = [some (.pure (.int 12)), some (.vx (.odc kvs)), o2, o3, o4, o5, o6] ∧ TabI i 0 kvs ∧ Fr o2 ∧ Fr o3 ∧ Fr o4 ∧ Fr o5 ∧ Fr o6
def II (n j : Nat) (ς : En) : Prop := ∃ kvs o3 o4 o5 o6, ς = [some (.pure (.int 12)), some (.vx (.odc kvs)), some (.pure (.int n)), o3, o4, o5, o6] ∧ TabI n j kvs ∧ Fr o3 ∧ Fr o4 ∧ Fr o5 ∧ Fr o6
theorem table_ok : wpf m_l_table [.pure (.int 12)] TabQ := by
  refine Sm.run ?_
  unfold g_l_table
  walk_at "lw n"
  walk_at "lw e"
  refine Sm.loopInv IO ⟨_, _, _, _, _, _, rfl, TabI.new, trivial, trivial, trivial, trivial, trivial⟩ ?_ ?_
  · rintro n d ς hd ⟨kvs, o2, o3, o4, o5, o6, rfl, hT, f2, f3, f4, f5, f6⟩
    obtain ⟨hn, rfl⟩ := rng_at hd
    replace hn : n < 25 := hn
    refine ⟨_, tgN_o rfl f2, ?_⟩
    walk_at "lw n"
    walk_at "lw e"
    obtain ⟨m, hm, hm2⟩ : ∃ m : Nat, (fun i j : Int => if j < i then j else i) (n : Int) 12 + 1 = m ∧ m ≤ 13 ∧ (m = n + 1 ∨ m = 13) ∧ m ≤ n + 1 := by
      by_cases q : (12 : Int) < n
      · exact ⟨13, by show (if (12 : Int) < n then (12 : Int) else n) + 1 = _; rw [if_pos q]; rfl, by omega, by omega, by omega⟩
      · exact ⟨n + 1, by show (if (12 : Int) < n then (12 : Int) else n) + 1 = _; rw [if_neg q]; rfl, by omega, by omega, by omega⟩
    rw [hm]
    refine ⟨in_R (by omega), ?_⟩
    rw [Int.toNat_natCast]
    refine Sm.loopInv (II n) ⟨_, _, _, _, _, rfl, hT, f3, f4, f5, f6⟩ ?_ ?_
    · rintro u d ς hd ⟨kvs, o3, o4, o5, o6, rfl, hT, f3, f4, f5, f6⟩
      obtain ⟨hu, rfl⟩ := rng_at hd
      refine ⟨_, tgN_o rfl f3, ?_⟩
      walk_at "lw n"
      walk_at "lw e"
      have hc0 : u ≤ n := by omega
      by_cases hdn : (n : Int) - u ≤ 12
      · refine iteDT (p := (n : Int) - u ≤ 12) hdn ?_
        walk_at "lw n"
        walk_at "lw e"
        refine ⟨hT.kd.ok _, ?_⟩
        dsimp only
        rw [hT.rise hc0 (by omega) hdn]
        refine ⟨_, _, _, rfl, tgN_o rfl f5, ?_⟩
        walk_at "lw n"
        walk_at "lw e"
        refine ⟨hT.kd.ok _, ?_⟩
        dsimp only
        rw [hT.fall hc0 (by omega) hdn]
        refine ⟨_, _, _, rfl, tgN_o rfl f6, ?_⟩
        walk_at "lw n"
        walk_at "lw e"
        have hsl : sizeLine = 16777216 := rfl
        have hlen := hT.len
        have hl2 := putKv_len kvs (kL (u : Int) ((n : Int) - u)) (.int (lw (u : Int) ((n : Int) - u)))
        by_cases hn0 : (0 : Int) < n
        · have e1 := step_low hc0 (by omega) hdn (by omega)
          have e2 := step_high hc0 (by omega) hdn (by omega)
          refine iteDT (p := (0 : Int) < n) hn0 ?_
          walk_at "lw n"
          walk_at "lw e"
          refine ⟨hT.kd.ok _, by omega, ?_⟩
          walk_at "lw n"
          walk_at "lw e"
          refine iteDT (p := (0 : Int) < n) hn0 ?_
          walk_at "lw n"
          walk_at "lw e"
          refine ⟨(hT.kd.put _ _).ok _, Nat.le_trans (putKv_len _ _ _) (by omega), ?_⟩
          walk_at "lw n"
          exact ⟨_, _, _, _, _, rfl, hT.put hc0 (by omega) hdn e1 e2, trivial, trivial, trivial, trivial⟩
        · have e0 : n = 0 := by omega
          have e3 : u = 0 := by omega
          subst e0 e3
          refine iteDF (p := (0 : Int) < ((0 : Nat) : Int)) hn0 ?_
          walk_at "lw n"
          walk_at "lw e"
          refine ⟨hT.kd.ok _, by omega, ?_⟩
          walk_at "lw n"
          walk_at "lw e"
          refine ⟨(hT.kd.put _ _).ok _, Nat.le_trans (putKv_len _ _ _) (by omega), ?_⟩
          walk_at "lw n"
          exact ⟨_, _, _, _, _, rfl, hT.put (u0 := 0) hc0 (by omega) hdn rfl rfl, trivial, trivial, trivial, trivial⟩
      · refine iteDF (p := (n : Int) - u ≤ 12) hdn ?_
        walk_at "lw n"
        walk_at "lw e"
        exact ⟨_, _, _, _, _, rfl, hT.skip (by omega), trivial, trivial, f5, f6⟩
    · rintro ς ⟨kvs, o3, o4, o5, o6, rfl, hT, f3, f4, f5, f6⟩
      rw [rngD_len] at hT
      exact ⟨_, _, _, _, _, _, rfl, hT.next (by omega) (by omega), trivial, f3, f4, f5, f6⟩
  · rintro ς ⟨kvs, o2, o3, o4, o5, o6, rfl, hT, f2, f3, f4, f5, f6⟩
    walk_at "lw e"
    exact ⟨nfx, kvs, rfl, hT⟩
end K46
-- F2
-- FD
namespace K46
open PySem PySem.Spec PyProof.Rows L2 Lw
local macro_rules | `(tactic| walk_at "lw e") => `(tactic| (repeat (first | (with_reducible refine Stp.go ?_) | (with_reducible apply Exists.intro) | ((with_reducible refine And.intro ?_ ?_); · (first | (with_reducible exact Evl.ev) | ((fail_if_success (with_reducible refine Gd.keep ?_)); rfl) | ((with_reducible apply mul_r); decide) | ((with_reducible apply mul_l); decide) | ((with_reducible apply div_i); decide) | ((with_reducible apply in_R); decide) | (exact Nat.le_of_ble_eq_true rfl) | (simp [refsOf]; done) | (exact ⟨rfl, rfl, by decide⟩) | (exact ⟨rfl, rfl, rfl⟩) | ((with_reducible apply tgN_o); (focus rfl); (focus (first | assumption | trivial))))) | ((with_reducible apply Sm.vrP); (focus rfl)) | ((with_reducible apply Sm.vrO); (focus rfl)) | ((with_reducible apply Sm.augI); (focus rfl)) | ((with_reducible refine Sm.dicE ?_ ?_); (focus decide)) | ((with_reducible apply Sm.augS); (focus rfl)) | ((with_reducible apply Sm.vrX); (focus rfl)) | ((with_reducible apply Sm.oD); (focus rfl)) | (with_reducible refine iteTT ?_) | (with_reducible refine iteT ?_) | (with_reducible refine iteF ?_) | ((with_reducible refine iteB1 ?_ ?_); (focus rfl)) | ((with_reducible refine iteB0 ?_ ?_); (focus rfl)))))
local macro_rules | `(tactic| walk_at "lw n") => `(tactic| (try dsimp only [ent, List.map, Nat.reduceAdd, Nat.reduceSub, List.length_cons, List.length_nil, List.replicate_succ, List.replicate_zero, List.cons_append, List.nil_append, putBack, setOwn, List.getElem?_cons_zero, List.getElem?_cons_succ, List.set_cons_zero, List.set_cons_succ, Sm.nf]))
local macro_rules | `(tactic| walk_at "lw v") => `(tactic| (try simp only [pb1, pb2, pb3, pb4]))
theorem okl2 (a b : Int) : OkS 1 (.list [.int a, .int b]) := ⟨Nat.le_of_ble_eq_true rfl, fun x hx => by
  rcases List.mem_cons.1 hx with rfl | hx
  · exact OkS.int 0 _
  · rw [List.mem_singleton.1 hx]; exact OkS.int 0 _⟩
theorem okl4 (a b c d : Int) : OkS 1 (.list [.int a, .int b, .int c, .int d]) := ⟨Nat.le_of_ble_eq_true rfl, fun x hx => by
  simp only [List.mem_cons, List.not_mem_nil, or_false] at hx
  rcases hx with rfl | rfl | rfl | rfl <;> exact OkS.int 0 _⟩
theorem TabI.get {kvs : KVs} (h : TabI 25 0 kvs) {u d : Int} (h1 : 0 ≤ u) (h2 : u < 13) (h3 : 0 ≤ d) (h4 : d < 13) : getKv kvs (kL u d) = some (.int (lw u d)) ∧ getKv kvs (kH u d) = some (.int (lw d u)) := by
  have := h.at_ u.toNat d.toNat (by omega) (by omega) (by omega)
  rwa [Int.toNat_of_nonneg h1, Int.toNat_of_nonneg h3] at this
theorem lw_more (u d m : Int) : lw (u + m) (d + m) = lw u d := by
  unfold lw
  rw [show u + m - (d + m) = u - d by omega]
theorem lw_far {f : Int} (h : 1 ≤ f) : lw f 0 = f - 1 ∧ lw 0 f = f := by
  unfold lw
  constructor
  · rw [if_pos (by omega)]; omega
  · rw [if_neg (by omega)]; omega
theorem bare_lowE {u d x : Int} (h : lw u d = x) : wpf m_p_bare_turns [.pure (.str "low"), .pure (.int u), .pure (.int d)] (ValQ fun y => y = .int x) := h ▸ bare_low u d
theorem bare_highE {u d x : Int} (h : lw d u = x) : wpf m_p_bare_turns [.pure (.str "high"), .pure (.int u), .pure (.int d)] (ValQ fun y => y = .int x) := h ▸ bare_high u d
def IR (kvs : KVs) (i : Nat) (ς : En) : Prop := ∃ bs o2 o3 o4 o5 o6 o7 o8, ς = [some (.own true bs), some (.vx (.dct kvs)), o2, o3, o4, o5, o6, o7, o8] ∧ Box (1000 + 100 * (12 - i)) bs ∧ Fr o2 ∧ Fr o3 ∧ Fr o4 ∧ Fr o5 ∧ Fr o6 ∧ Fr o7 ∧ Fr o8
theorem right_ok {ds : List D} (hB : Box 1000000 ds) {kvs : KVs} (hT : TabI 25 0 kvs) : wpf m_l_right [.own true ds, .vx (.dct kvs)] TrueQ := by
  refine Sm.run ?_
  unfold g_l_right
  walk_at "lw n"
  walk_at "lw e"
  refine Sm.loopInv (IR kvs) ⟨_, _, _, _, _, _, _, _, rfl, hB.less (by omega), trivial, trivial, trivial, trivial, trivial, trivial, trivial⟩ ?_ ?_
  · rintro n d ς hd ⟨bs, o2, o3, o4, o5, o6, o7, o8, rfl, hb, f2, f3, f4, f5, f6, f7, f8⟩
    obtain ⟨hn, rfl⟩ := rng_at hd
    replace hn : n < 12 := hn
    refine ⟨_, tgN_o rfl f2, ?_⟩
    walk_at "lw n"
    walk_at "lw e"
    (refine Sm.fmono (take4 (c := 1000 + 100 * (12 - n) - 16) (Box.less hb (by omega)) (by omega) (by omega)) fun r o h => ?_; obtain ⟨v1, b1, rfl, l1, u1, h1, rfl⟩ := h; refine ⟨nref, ?_⟩; walk_at "lw n"; walk_at "lw e")
    (refine Sm.fmono (take4 (c := 1000 + 100 * (12 - n) - 32) (Box.less h1 (by omega)) (by omega) (by omega)) fun r o h => ?_; obtain ⟨v2, b2, rfl, l2, u2, h2, rfl⟩ := h; refine ⟨nref, ?_⟩; walk_at "lw n"; walk_at "lw e")
    (refine Sm.fmono (take4 (c := 1000 + 100 * (12 - n) - 48) (Box.less h2 (by omega)) (by omega) (by omega)) fun r o h => ?_; obtain ⟨v3, b3, rfl, l3, u3, h3, rfl⟩ := h; refine ⟨nref, ?_⟩; walk_at "lw n"; walk_at "lw e")
    refine ⟨⟨fr_free rfl f3, fr_free rfl f4, fr_free rfl f5⟩, ?_⟩
    walk_at "lw n"
    walk_at "lw e"
    refine ⟨hT.kd.ok _, (hT.get l1 u1 l2 u2).1, ?_⟩
    walk_at "lw e"
    refine ⟨hT.kd.ok _, (hT.get l1 u1 l2 u2).2, ?_⟩
    walk_at "lw e"
    walk_at "lw n"
    walk_at "lw e"
    (refine Sm.fmono (bare_low v1 v2) fun r o h => ?_; obtain ⟨d, rfl, rfl⟩ := h; refine ⟨nref, ?_⟩; walk_at "lw v"; walk_at "lw e")
    (refine Sm.fmono (bare_high v1 v2) fun r o h => ?_; obtain ⟨d, rfl, rfl⟩ := h; refine ⟨nref, ?_⟩; walk_at "lw v"; walk_at "lw e")
    (refine Sm.fmono (same_same (okl2 _ _) (by omega)) fun r o h => ?_; obtain ⟨d, rfl, rfl⟩ := h; refine ⟨nref, ?_⟩; walk_at "lw v"; walk_at "lw e")
    (refine Sm.fmono (bare_lowE (lw_more v1 v2 v3)) fun r o h => ?_; obtain ⟨d, rfl, rfl⟩ := h; refine ⟨nref, ?_⟩; walk_at "lw v"; walk_at "lw e")
    (refine Sm.fmono (bare_highE (lw_more v2 v1 v3)) fun r o h => ?_; obtain ⟨d, rfl, rfl⟩ := h; refine ⟨nref, ?_⟩; walk_at "lw v"; walk_at "lw e")
    walk_at "lw n"
    walk_at "lw e"
    (refine Sm.fmono (same_same (okl2 _ _) (by omega)) fun r o h => ?_; obtain ⟨d, rfl, rfl⟩ := h; refine ⟨nref, ?_⟩; walk_at "lw v"; walk_at "lw e")
    (refine Sm.fmono (bare_high v2 v1) fun r o h => ?_; obtain ⟨d, rfl, rfl⟩ := h; refine ⟨nref, ?_⟩; walk_at "lw v"; walk_at "lw e")
    (refine Sm.fmono (bare_low v2 v1) fun r o h => ?_; obtain ⟨d, rfl, rfl⟩ := h; refine ⟨nref, ?_⟩; walk_at "lw v"; walk_at "lw e")
    (refine Sm.fmono (same_same (okl2 _ _) (by omega)) fun r o h => ?_; obtain ⟨d, rfl, rfl⟩ := h; refine ⟨nref, ?_⟩; walk_at "lw v"; walk_at "lw e")
    exact ⟨_, _, _, _, _, _, _, _, rfl, h3.less (by omega), trivial, trivial, trivial, trivial, trivial, trivial, f8⟩
  · rintro ς ⟨bs, o2, o3, o4, o5, o6, o7, o8, rfl, hb, f2, f3, f4, f5, f6, f7, f8⟩
    walk_at "lw e"
    (refine Sm.fmono (take4 (c := 900) (Box.less hb (by omega)) (by omega) (by omega)) fun r o h => ?_; obtain ⟨v1, b1, rfl, l1, u1, h1, rfl⟩ := h; refine ⟨nref, ?_⟩; walk_at "lw n"; walk_at "lw e")
    have lf := lw_far (show 1 ≤ 1 + v1 by omega)
    walk_at "lw n"
    walk_at "lw e"
    (refine Sm.fmono (bare_lowE lf.1) fun r o h => ?_; obtain ⟨d, rfl, rfl⟩ := h; refine ⟨nref, ?_⟩; walk_at "lw v"; walk_at "lw e")
    (refine Sm.fmono (bare_lowE lf.2) fun r o h => ?_; obtain ⟨d, rfl, rfl⟩ := h; refine ⟨nref, ?_⟩; walk_at "lw v"; walk_at "lw e")
    walk_at "lw n"
    walk_at "lw e"
    (refine Sm.fmono (bare_highE lf.2) fun r o h => ?_; obtain ⟨d, rfl, rfl⟩ := h; refine ⟨nref, ?_⟩; walk_at "lw v"; walk_at "lw e")
    (refine Sm.fmono (bare_highE lf.1) fun r o h => ?_; obtain ⟨d, rfl, rfl⟩ := h; refine ⟨nref, ?_⟩; walk_at "lw v"; walk_at "lw e")
    walk_at "lw n"
    walk_at "lw e"
    (refine Sm.fmono (same_same (okl4 _ _ _ _) (by omega)) fun r o h => ?_; obtain ⟨d, rfl, rfl⟩ := h; refine ⟨nref, ?_⟩; walk_at "lw v"; walk_at "lw e")
    (refine Sm.fmono (bare_low 0 0) fun r o h => ?_; obtain ⟨d, rfl, rfl⟩ := h; refine ⟨nref, ?_⟩; walk_at "lw v"; walk_at "lw e")
    (refine Sm.fmono (bare_high 0 0) fun r o h => ?_; obtain ⟨d, rfl, rfl⟩ := h; refine ⟨nref, ?_⟩; walk_at "lw v"; walk_at "lw e")
    refine Sm.fmono (same_same (okl2 0 0) (by omega)) fun r o h => ?_
    obtain ⟨d, rfl, rfl⟩ := h
    refine ⟨nref, ?_⟩
    walk_at "lw v"
    walk_at "lw e"
    exact ⟨_, rfl, rfl⟩
theorem law_wp (ns : List Int) (hl : ns.length ≤ 63) : wpf m_p_law [.pure (ilist ns)] TrueQ := by
  refine Sm.run ?_
  unfold g_p_law
  walk_at "lw n"
  walk_at "lw e"
  refine Sm.fmono (cells_ok (s := 4) hl (by decide) (by decide)) fun r o h => ?_
  obtain ⟨cs, hcs, hc⟩ := h
  have hrr : ∀ i, r ≠ .ref i := by rcases hcs with rfl | rfl <;> (intro i z; cases z)
  have htd : ∀ ς, toD r ς = some (ilist cs, ς) := by rcases hcs with rfl | rfl <;> (intro ς; rfl)
  walk_at "lw v"
  refine ⟨hrr, _, _, htd _, ?_⟩
  walk_at "lw e"
  refine Sm.fmono table_ok fun r o h => ?_
  obtain ⟨kvs, rfl, hT⟩ := h
  walk_at "lw v"
  refine ⟨nfx, _, _, rfl, rfl, ⟨rfl, rfl, by decide⟩, ?_⟩
  walk_at "lw n"
  walk_at "lw e"
  refine ⟨in_R (by rw [List.length_map]; omega), ?_⟩
  walk_at "lw e"
  rw [List.length_map]
  have hsl : sizeLine = 16777216 := rfl
  refine Sm.lcPure (ds := rngD 0 ((cs.length : Int)).toNat) (fun _ => .bool true) (by rw [rngD_len]; omega) ?_ ?_
  · intro d hd
    obtain ⟨i, hi⟩ := List.mem_iff_getElem?.1 hd
    obtain ⟨hi, rfl⟩ := rng_at hi
    refine ⟨_, tgN_o rfl trivial, ?_⟩
    walk_at "lw e"
    refine Sm.fmono (box_ok (by omega)) fun r o h => ?_
    obtain ⟨ds, rfl, hb⟩ := h
    refine ⟨nfr, ?_⟩
    walk_at "lw v"
    walk_at "lw e"
    refine Sm.fmono (right_ok hb hT) fun r o h => ?_
    obtain ⟨d, rfl, rfl⟩ := h
    refine ⟨nref, ?_⟩
    walk_at "lw e"
    rfl
  · refine ⟨_, _, rfl, all_mk (p := fun _ => true), ?_⟩
    walk_at "lw e"
    refine ⟨_, rfl, ?_⟩
    rw [List.all_eq_true.2 (fun _ _ => rfl)]
end K46
namespace K46
open PySem PySem.Spec PyProof.Rows L2 Lw
theorem sem_law (ns : List Int) (hl : ns.length ≤ 63) (_hb : ∀ z ∈ ns, Builtin.Int.intBits z ≤ 1048576) : ∃ outs, m_p_law [.pure (.list (ns.map PyData.int))] = some (.pure (.bool true), outs) :=
  wpf_law (law_wp ns hl)
end K46
namespace K46
open PySem PySem.Spec PyProof.Rows L2 Lw
theorem sc_p_bare_turns : FnScope ["chamber", "ups", "downs", "more"] ["chamber", "ups", "downs"] (defScope s_p_bare_turns) := ⟨rfl, rfl, rfl, by decide +kernel, rfl, by decide +kernel, by decide +kernel⟩
theorem sc_l_box : FnScope ["_law_script", "_law_k", "_law_cell"] ["_law_script", "_law_k"] (defScope s_l_box) := ⟨rfl, rfl, rfl, by decide +kernel, rfl, by decide +kernel, by decide +kernel⟩
theorem sc_l_take : FnScope ["_law_box_here", "_law_size", "_law_found", "_law_step", "_law_once", "_law_twice"] ["_law_box_here", "_law_size"] (defScope s_l_take) := ⟨rfl, rfl, rfl, by decide +kernel, rfl, by decide +kernel, by decide +kernel⟩
theorem sc_l_folded : FnScope ["_law_script", "_law_size", "_law_cells_here", "_law_k", "_law_cell"] ["_law_script", "_law_size"] (defScope s_l_folded) := ⟨rfl, rfl, rfl, by decide +kernel, rfl, by decide +kernel, by decide +kernel⟩
theorem sc_l_cells : FnScope ["_law_script", "_law_size", "_law_cells_here"] ["_law_script", "_law_size"] (defScope s_l_cells) := ⟨rfl, rfl, rfl, by decide +kernel, rfl, by decide +kernel, by decide +kernel⟩
theorem sc_l_of : FnScope ["_law_box_here", "_law_some"] ["_law_box_here", "_law_some"] (defScope s_l_of) := ⟨rfl, rfl, rfl, by decide +kernel, rfl, by decide +kernel, by decide +kernel⟩
theorem sc_l_same : FnScope ["_law_found", "_law_due", "_law_one", "_law_other"] ["_law_found", "_law_due"] (defScope s_l_same) := ⟨rfl, rfl, rfl, by decide +kernel, rfl, by decide +kernel, by decide +kernel⟩
theorem sc_l_table : FnScope ["_law_cap", "_law_found", "_law_both", "_law_ups", "_law_downs", "_law_rise", "_law_fall"] ["_law_cap"] (defScope s_l_table) := ⟨rfl, rfl, rfl, by decide +kernel, rfl, by decide +kernel, by decide +kernel⟩
theorem sc_l_right : FnScope ["_law_box_here", "_law_table_here", "_law_turn", "_law_ups", "_law_downs", "_law_more", "_law_due", "_law_asked", "_law_far"] ["_law_box_here", "_law_table_here"] (defScope s_l_right) := ⟨rfl, rfl, rfl, by decide +kernel, rfl, by decide +kernel, by decide +kernel⟩
theorem sc_p_law : FnScope ["_law_script", "_law_cells_here", "_law_table_here", "_law_k"] ["_law_script"] (defScope s_p_law) := ⟨rfl, rfl, rfl, by decide +kernel, rfl, by decide +kernel, by decide +kernel⟩
section
variable {P : Program} {w : World} {K : PySem.W.Frag} {mg : Str → Option Value} {base : Heap} {f : Addr}
theorem b_p_bare_turns {t_LOW : Tok} (c_LOW : mg "LOW" = some (.str "low" t_LOW)) : ∀ (cdv : Value) (A : Around) (outer : List Env) (s : Shared) (H : Hp) (E : XK), A.guards = some [] → Room 0 (A.deeper (envOfC "bare_turns" (defScope s_p_bare_turns) s.heap.objs.size f cdv)) →
    PSsd (cxOf CX0 P w K mg base ["chamber", "ups", "downs", "more"] "bare_turns" (defScope s_p_bare_turns) f cdv A outer s H E).nox (defBody s_p_bare_turns) g_p_bare_turns := by
  intro cdv A outer s H E hgd hr
  unfold g_p_bare_turns
  exact (s_cons (s_asg (d_ife (d_tstC (op_eq.or (op_eqD hr.units)) (fun _ => Op2.or op2_eqS op2_eq) (d_var 0 (pv 0)) (d_gstr (pe_glob (by rfl) c_LOW ⟨_, rfl⟩)) (nomark _)) (d_subA (d_var 1 (pv 1)) (d_var 2 (pv 2))) (d_subA (d_var 2 (pv 2)) (d_var 1 (pv 1)))) (g_name (pg_name (i := 3) sc_p_bare_turns.nd rfl (by first | exact Or.inl rfl | exact Or.inr rfl))))
  (s_one (s_ret (d_ife (d_tstC op_gt (fun _ => o_gt) (d_var 3 (pv 3)) d_int (nomark _)) (d_subA (d_var 3 (pv 3)) d_int) (d_neg (d_var 3 (pv 3)))))))
theorem b_l_box (n_abs : mg "abs" = none) (n_int : mg "int" = none) (n_len : mg "len" = none) : ∀ (cdv : Value) (A : Around) (outer : List Env) (s : Shared) (H : Hp) (E : XK), A.guards = some [] → Room 0 (A.deeper (envOfC "_law_box" (defScope s_l_box) s.heap.objs.size f cdv)) →
    PSsd (cxOf CX0 P w K mg base ["_law_script", "_law_k", "_law_cell"] "_law_box" (defScope s_l_box) f cdv A outer s H E).nox (defBody s_l_box) g_l_box := by
  intro cdv A outer s H E hgd hr
  unfold g_l_box
  exact (s_cons (s_asg (d_ife (d_tstC op_lt (fun _ => o_lt) (d_var 1 (pv 1)) (d_len (by rfl) n_len (d_var 0 (pv 0))) (nomark _)) (d_ix (d_var 0 (pv 0)) (d_var 1 (pv 1))) d_int) (g_name (pg_name (i := 2) sc_l_box.nd rfl (by first | exact Or.inl rfl | exact Or.inr rfl))))
  (s_one (s_ret (d_lst (a_val (d_mulA (d_abs (by rfl) n_abs (d_var 2 (pv 2))) (d_toInt (by rfl) n_int (d_cmp op_ge (fun _ => o_ge) (d_abs (by rfl) n_abs (d_var 2 (pv 2))) (d_powA d_int d_int) (nomark _)))) (a_val (d_modA (d_mulA (d_addA (d_addA (d_modA (d_var 2 (pv 2)) d_int) (d_mulA d_int (d_var 1 (pv 1)))) d_int) d_int) d_int) (a_val d_int a_nil)))))))
theorem b_l_take (n_divmod : mg "divmod" = none) {n : Nat} {self : Fsem} (f_l_take : Fo P w K mg base "_law_take" ["_law_box_here", "_law_size"] self (0 + n)) : ∀ (cdv : Value) (A : Around) (outer : List Env) (s : Shared) (H : Hp) (E : XK), A.guards = some [] → Room (0 + n) (A.deeper (envOfC "_law_take" (defScope s_l_take) s.heap.objs.size f cdv)) →
    PSsd (cxOf CX0 P w K mg base ["_law_box_here", "_law_size", "_law_found", "_law_step", "_law_once", "_law_twice"] "_law_take" (defScope s_l_take) f cdv A outer s H E).nox (defBody s_l_take) (g_l_take self) := by
  intro cdv A outer s H E hgd hr
  unfold g_l_take
  exact (s_cons (s_if (d_tstC op_gt (fun _ => o_gt) (d_ix (d_var 0 (pv 0)) d_int) d_int (nomark _)) (s_cons (s_asg (d_divmod (by rfl) n_divmod (d_ix (d_var 0 (pv 0)) d_int) (d_var 1 (pv 1))) (g_tup (PG.or (pg_tup rfl (PGsd.ex (gs_cons (g_sub (pg_sub (PEd.ex (d_var 0 (pv 0))) (PEd.ex (d_sub d_int)) set_list)) (gs_cons (g_name (pg_name (i := 2) sc_l_take.nd rfl (by first | exact Or.inl rfl | exact Or.inr rfl))) gs_nil (pgs_cons (PGd.ex (g_name (pg_name (i := 2) sc_l_take.nd rfl (by first | exact Or.inl rfl | exact Or.inr rfl)))) (PGsd.ex gs_nil))) (pgs_cons (PGd.ex (g_sub (pg_sub (PEd.ex (d_var 0 (pv 0))) (PEd.ex (d_sub d_int)) set_list))) (PGsd.ex (gs_cons (g_name (pg_name (i := 2) sc_l_take.nd rfl (by first | exact Or.inl rfl | exact Or.inr rfl))) gs_nil (pgs_cons (PGd.ex (g_name (pg_name (i := 2) sc_l_take.nd rfl (by first | exact Or.inl rfl | exact Or.inr rfl)))) (PGsd.ex gs_nil)))))))) (pg_lst rfl (PGsd.ex (gs_cons (g_sub (pg_sub (PEd.ex (d_var 0 (pv 0))) (PEd.ex (d_sub d_int)) set_list)) (gs_cons (g_name (pg_name (i := 2) sc_l_take.nd rfl (by first | exact Or.inl rfl | exact Or.inr rfl))) gs_nil (pgs_cons (PGd.ex (g_name (pg_name (i := 2) sc_l_take.nd rfl (by first | exact Or.inl rfl | exact Or.inr rfl)))) (PGsd.ex gs_nil))) (pgs_cons (PGd.ex (g_sub (pg_sub (PEd.ex (d_var 0 (pv 0))) (PEd.ex (d_sub d_int)) set_list))) (PGsd.ex (gs_cons (g_name (pg_name (i := 2) sc_l_take.nd rfl (by first | exact Or.inl rfl | exact Or.inr rfl))) gs_nil (pgs_cons (PGd.ex (g_name (pg_name (i := 2) sc_l_take.nd rfl (by first | exact Or.inl rfl | exact Or.inr rfl)))) (PGsd.ex gs_nil)))))))))))
  (s_one (s_ret (d_var 2 (pv 2))))) s_nil)
  (s_cons (s_if (d_tstC op_gt (fun _ => o_gt) (d_var 1 (pv 1)) (d_powA d_int d_int) (nomark _)) (s_one (s_ret (d_modA (d_addA (Fo.call f_l_take hgd hr (by omega) (by rfl) rfl (a_ref (d_var 0 (pv 0)) (a_val (d_powA d_int d_int) a_nil)) (argR_len (argV_len (fun _ _ _ h => argN_len h)))) (d_mulA (d_powA d_int d_int) (Fo.call f_l_take hgd hr (by omega) (by rfl) rfl (a_ref (d_var 0 (pv 0)) (a_val (d_addA (d_divA (d_subA (d_var 1 (pv 1)) d_int) (d_powA d_int d_int)) d_int) a_nil)) (argR_len (argV_len (fun _ _ _ h => argN_len h)))))) (d_var 1 (pv 1))))) s_nil)
  (s_cons (s_asg (d_addA (d_ix (d_var 0 (pv 0)) d_int) d_int) (g_sub (pg_sub (PEd.ex (d_var 0 (pv 0))) (PEd.ex (d_sub d_int)) set_list)))
  (s_cons (s_asg (d_addA d_int (d_mulA (d_ix (d_var 0 (pv 0)) d_int) (d_ix (d_var 0 (pv 0)) d_int))) (g_name (pg_name (i := 3) sc_l_take.nd rfl (by first | exact Or.inl rfl | exact Or.inr rfl))))
  (s_cons (s_asg (d_modA (d_mulA (d_addA (d_ix (d_var 0 (pv 0)) d_int) (d_mulA d_int (d_ix (d_var 0 (pv 0)) d_int))) (d_var 3 (pv 3))) d_int) (g_name (pg_name (i := 4) sc_l_take.nd rfl (by first | exact Or.inl rfl | exact Or.inr rfl))))
  (s_cons (s_asg (d_modA (d_addA (d_mulA (d_var 4 (pv 4)) (d_addA (d_modA (d_var 4 (pv 4)) d_int) d_int)) (d_ix (d_var 0 (pv 0)) d_int)) d_int) (g_name (pg_name (i := 5) sc_l_take.nd rfl (by first | exact Or.inl rfl | exact Or.inr rfl))))
  (s_one (s_ret (d_modA (d_divA (d_modA (d_mulA (d_var 5 (pv 5)) (d_addA (d_modA (d_var 5 (pv 5)) d_int) d_int)) d_int) d_int) (d_var 1 (pv 1)))))))))))
theorem b_l_folded (n_enumerate : mg "enumerate" = none) (n_list : mg "list" = none) : ∀ (cdv : Value) (A : Around) (outer : List Env) (s : Shared) (H : Hp) (E : XK), A.guards = some [] → Room 0 (A.deeper (envOfC "_law_folded" (defScope s_l_folded) s.heap.objs.size f cdv)) →
    PSsd (cxOf CX0 P w K mg base ["_law_script", "_law_size", "_law_cells_here", "_law_k", "_law_cell"] "_law_folded" (defScope s_l_folded) f cdv A outer s H E).nox (defBody s_l_folded) g_l_folded := by
  intro cdv A outer s H E hgd hr
  unfold g_l_folded
  exact (s_cons (s_asgO (d_list (by rfl) n_list (d_sl (d_var 0 (pv 0)) o_none (o_some (d_var 1 (pv 1))))) (fun te h => ps_set (i := 2) sc_l_folded.nd rfl (by first | exact Or.inl rfl | exact Or.inr rfl) h))
  (s_cons (s_for PassesOwn.never rfl (i_enum (by rfl) n_enumerate (d_sl (d_var 0 (pv 0)) (o_some (d_var 1 (pv 1))) (o_some d_int))) (g_tup (PG.or (pg_tup rfl (PGsd.ex (gs_cons (g_name (pg_name (i := 3) sc_l_folded.nd rfl (by first | exact Or.inl rfl | exact Or.inr rfl))) (gs_cons (g_name (pg_name (i := 4) sc_l_folded.nd rfl (by first | exact Or.inl rfl | exact Or.inr rfl))) gs_nil (pgs_cons (PGd.ex (g_name (pg_name (i := 4) sc_l_folded.nd rfl (by first | exact Or.inl rfl | exact Or.inr rfl)))) (PGsd.ex gs_nil))) (pgs_cons (PGd.ex (g_name (pg_name (i := 3) sc_l_folded.nd rfl (by first | exact Or.inl rfl | exact Or.inr rfl)))) (PGsd.ex (gs_cons (g_name (pg_name (i := 4) sc_l_folded.nd rfl (by first | exact Or.inl rfl | exact Or.inr rfl))) gs_nil (pgs_cons (PGd.ex (g_name (pg_name (i := 4) sc_l_folded.nd rfl (by first | exact Or.inl rfl | exact Or.inr rfl)))) (PGsd.ex gs_nil)))))))) (pg_lst rfl (PGsd.ex (gs_cons (g_name (pg_name (i := 3) sc_l_folded.nd rfl (by first | exact Or.inl rfl | exact Or.inr rfl))) (gs_cons (g_name (pg_name (i := 4) sc_l_folded.nd rfl (by first | exact Or.inl rfl | exact Or.inr rfl))) gs_nil (pgs_cons (PGd.ex (g_name (pg_name (i := 4) sc_l_folded.nd rfl (by first | exact Or.inl rfl | exact Or.inr rfl)))) (PGsd.ex gs_nil))) (pgs_cons (PGd.ex (g_name (pg_name (i := 3) sc_l_folded.nd rfl (by first | exact Or.inl rfl | exact Or.inr rfl)))) (PGsd.ex (gs_cons (g_name (pg_name (i := 4) sc_l_folded.nd rfl (by first | exact Or.inl rfl | exact Or.inr rfl))) gs_nil (pgs_cons (PGd.ex (g_name (pg_name (i := 4) sc_l_folded.nd rfl (by first | exact Or.inl rfl | exact Or.inr rfl)))) (PGsd.ex gs_nil)))))))))) (s_one (s_asg (d_addA (d_ix (d_var 2 (pv 2)) (d_modA (d_var 3 (pv 3)) (d_var 1 (pv 1)))) (d_mulA (d_var 4 (pv 4)) (d_addA (d_var 3 (pv 3)) d_int))) (g_sub (pg_sub (PEd.ex (d_var 2 (pv 2))) (PEd.ex (d_sub (d_modA (d_var 3 (pv 3)) (d_var 1 (pv 1))))) set_list)))))
  (s_one (s_ret (d_var 2 (pv 2))))))
theorem b_l_cells (f_l_folded : Fo P w K mg base "_law_folded" ["_law_script", "_law_size"] m_l_folded 1) : ∀ (cdv : Value) (A : Around) (outer : List Env) (s : Shared) (H : Hp) (E : XK), A.guards = some [] → Room 1 (A.deeper (envOfC "_law_cells" (defScope s_l_cells) s.heap.objs.size f cdv)) →
    PSsd (cxOf CX0 P w K mg base ["_law_script", "_law_size", "_law_cells_here"] "_law_cells" (defScope s_l_cells) f cdv A outer s H E).nox (defBody s_l_cells) g_l_cells := by
  intro cdv A outer s H E hgd hr
  unfold g_l_cells
  exact (s_cons (s_asg (Fo.call f_l_folded hgd hr (by decide) (by rfl) rfl (a_val (d_var 0 (pv 0)) (a_val (d_var 1 (pv 1)) a_nil)) (argV_len (argV_len (fun _ _ _ h => argN_len h)))) (g_name (pg_name (i := 2) sc_l_cells.nd rfl (by first | exact Or.inl rfl | exact Or.inr rfl))))
  (s_one (s_ret (d_ife (d_tstC (op_ne.or (op_neD hr.units)) (fun _ => Op2.or op2_neS op2_ne) (d_var 2 (pv 2)) (d_lst a_nil) (nomark _)) (d_var 2 (pv 2)) (d_lst (a_val d_int a_nil))))))
theorem b_l_of (n_len : mg "len" = none) (f_l_take : Fo P w K mg base "_law_take" ["_law_box_here", "_law_size"] (m_l_take 4) 4) : ∀ (cdv : Value) (A : Around) (outer : List Env) (s : Shared) (H : Hp) (E : XK), A.guards = some [] → Room 4 (A.deeper (envOfC "_law_of" (defScope s_l_of) s.heap.objs.size f cdv)) →
    PSsd (cxOf CX0 P w K mg base ["_law_box_here", "_law_some"] "_law_of" (defScope s_l_of) f cdv A outer s H E).nox (defBody s_l_of) g_l_of := by
  intro cdv A outer s H E hgd hr
  unfold g_l_of
  exact (s_one (s_ret (d_ix (d_var 1 (pv 1)) (Fo.call f_l_take hgd hr (by decide) (by rfl) rfl (a_ref (d_var 0 (pv 0)) (a_val (d_len (by rfl) n_len (d_var 1 (pv 1))) a_nil)) (argR_len (argV_len (fun _ _ _ h => argN_len h)))))))
theorem b_l_same (n_all : mg "all" = none) (n_bool : mg "bool" = none) (n_int : mg "int" = none) (n_isinstance : mg "isinstance" = none) (n_len : mg "len" = none) (n_list : mg "list" = none) (n_str : mg "str" = none) (n_tuple : mg "tuple" = none) (n_zip : mg "zip" = none) {n : Nat} {self : Fsem} (f_l_same : Fo P w K mg base "_law_same" ["_law_found", "_law_due"] self (0 + n)) : ∀ (cdv : Value) (A : Around) (outer : List Env) (s : Shared) (H : Hp) (E : XK), A.guards = some [] → Room (0 + n) (A.deeper (envOfC "_law_same" (defScope s_l_same) s.heap.objs.size f cdv)) →
    PSsd (cxOf CX0 P w K mg base ["_law_found", "_law_due", "_law_one", "_law_other"] "_law_same" (defScope s_l_same) f cdv A outer s H E).nox (defBody s_l_same) (g_l_same self) := by
  intro cdv A outer s H E hgd hr
  unfold g_l_same
  exact (s_cons (s_if (d_tru (d_isiN [.list, .tuple] (by rfl) n_isinstance (d_var 1 (pv 1)) (ty_cons .list (pe_bltn (by rfl) n_list (by decide +kernel) rfl) (ty_cons .tuple (pe_bltn (by rfl) n_tuple (by decide +kernel) rfl) ty_nil)))) (s_cons (s_if (PWd.pt (w_or (d_tstC (op_ne.or (op_neD hr.units)) (fun _ => Op2.or op2_neS op2_ne) (d_isi1 .list (by rfl) n_isinstance (d_var 0 (pv 0)) (pe_bltn (by rfl) n_list (by decide +kernel) rfl)) (d_isi1 .list (by rfl) n_isinstance (d_var 1 (pv 1)) (pe_bltn (by rfl) n_list (by decide +kernel) rfl)) (nomark _)) (w_or1 (d_tstC (op_ne.or (op_neD hr.units)) (fun _ => Op2.or op2_neS op2_ne) (d_isi1 .tuple (by rfl) n_isinstance (d_var 0 (pv 0)) (pe_bltn (by rfl) n_tuple (by decide +kernel) rfl)) (d_isi1 .tuple (by rfl) n_isinstance (d_var 1 (pv 1)) (pe_bltn (by rfl) n_tuple (by decide +kernel) rfl)) (nomark _))))) (s_one (s_ret d_bl)) s_nil)
  (s_one (s_ret (d_and (d_cmp (op_eq.or (op_eqD hr.units)) (fun _ => Op2.or op2_eqS op2_eq) (d_len (by rfl) n_len (d_var 0 (pv 0))) (d_len (by rfl) n_len (d_var 1 (pv 1))) (nomark _)) (d_one (d_all rfl (by rfl) n_all (d_lc (own := [("_law_one", 2), ("_law_other", 3)]) rfl sc_l_same.nd (i_zip (by rfl) n_zip (d_var 0 (pv 0)) (d_var 1 (pv 1))) (blkOk_by (N := ["_law_found", "_law_due", "_law_one", "_law_other"]) (sc := defScope s_l_same) (own := [("_law_one", 2), ("_law_other", 3)]) (by decide +kernel)) (fun _ _ _ _ _ => (g_tup (PG.or (pg_tup rfl (PGsd.ex (gs_cons (g_name (pg_name (i := 2) sc_l_same.nd rfl (by first | exact Or.inl rfl | exact Or.inr rfl))) (gs_cons (g_name (pg_name (i := 3) sc_l_same.nd rfl (by first | exact Or.inl rfl | exact Or.inr rfl))) gs_nil (pgs_cons (PGd.ex (g_name (pg_name (i := 3) sc_l_same.nd rfl (by first | exact Or.inl rfl | exact Or.inr rfl)))) (PGsd.ex gs_nil))) (pgs_cons (PGd.ex (g_name (pg_name (i := 2) sc_l_same.nd rfl (by first | exact Or.inl rfl | exact Or.inr rfl)))) (PGsd.ex (gs_cons (g_name (pg_name (i := 3) sc_l_same.nd rfl (by first | exact Or.inl rfl | exact Or.inr rfl))) gs_nil (pgs_cons (PGd.ex (g_name (pg_name (i := 3) sc_l_same.nd rfl (by first | exact Or.inl rfl | exact Or.inr rfl)))) (PGsd.ex gs_nil)))))))) (pg_lst rfl (PGsd.ex (gs_cons (g_name (pg_name (i := 2) sc_l_same.nd rfl (by first | exact Or.inl rfl | exact Or.inr rfl))) (gs_cons (g_name (pg_name (i := 3) sc_l_same.nd rfl (by first | exact Or.inl rfl | exact Or.inr rfl))) gs_nil (pgs_cons (PGd.ex (g_name (pg_name (i := 3) sc_l_same.nd rfl (by first | exact Or.inl rfl | exact Or.inr rfl)))) (PGsd.ex gs_nil))) (pgs_cons (PGd.ex (g_name (pg_name (i := 2) sc_l_same.nd rfl (by first | exact Or.inl rfl | exact Or.inr rfl)))) (PGsd.ex (gs_cons (g_name (pg_name (i := 3) sc_l_same.nd rfl (by first | exact Or.inl rfl | exact Or.inr rfl))) gs_nil (pgs_cons (PGd.ex (g_name (pg_name (i := 3) sc_l_same.nd rfl (by first | exact Or.inl rfl | exact Or.inr rfl)))) (PGsd.ex gs_nil))))))))))) (fun _ _ _ _ _ => ts_nil) (fun _ _ _ _ _ => (Fo.call f_l_same hgd hr (by omega) (by rfl) rfl (a_val (d_var 2 (pv 2)) (a_val (d_var 3 (pv 3)) a_nil)) (argV_len (argV_len (fun _ _ _ h => argN_len h)))))))))))) s_nil)
  (s_cons (s_if (PWd.pt (w_or (d_tstC op_isN (fun _ => op2_is) (d_var 1 (pv 1)) d_non (nomark _)) (w_or1 (d_tru (d_isi1 .str (by rfl) n_isinstance (d_var 1 (pv 1)) (pe_bltn (by rfl) n_str (by decide +kernel) rfl)))))) (s_one (s_ret (d_and (d_cmp (op_eq.or (op_eqD hr.units)) (fun _ => Op2.or op2_eqS op2_eq) (d_var 0 (pv 0)) (d_var 1 (pv 1)) (nomark _)) (d_one (d_cmp (op_eq.or (op_eqD hr.units)) (fun _ => Op2.or op2_eqS op2_eq) (d_isi1 .str (by rfl) n_isinstance (d_var 0 (pv 0)) (pe_bltn (by rfl) n_str (by decide +kernel) rfl)) (d_isi1 .str (by rfl) n_isinstance (d_var 1 (pv 1)) (pe_bltn (by rfl) n_str (by decide +kernel) rfl)) (nomark _)))))) s_nil)
  (s_one (s_ret (d_and (d_isi1 .int (by rfl) n_isinstance (d_var 0 (pv 0)) (pe_bltn (by rfl) n_int (by decide +kernel) rfl)) (d_and (d_cmp (op_eq.or (op_eqD hr.units)) (fun _ => Op2.or op2_eqS op2_eq) (d_isi1 .bool (by rfl) n_isinstance (d_var 0 (pv 0)) (pe_bltn (by rfl) n_bool (by decide +kernel) rfl)) (d_isi1 .bool (by rfl) n_isinstance (d_var 1 (pv 1)) (pe_bltn (by rfl) n_bool (by decide +kernel) rfl)) (nomark _)) (d_one (d_cmp (op_eq.or (op_eqD hr.units)) (fun _ => Op2.or op2_eqS op2_eq) (d_var 0 (pv 0)) (d_var 1 (pv 1)) (nomark _)))))))))
theorem b_l_table (n_min : mg "min" = none) (n_range : mg "range" = none) : ∀ (cdv : Value) (A : Around) (outer : List Env) (s : Shared) (H : Hp) (E : XK), A.guards = some [] → Room 0 (A.deeper (envOfC "_law_table" (defScope s_l_table) s.heap.objs.size f cdv)) →
    PSsd (cxOf CX0 P w K mg base ["_law_cap", "_law_found", "_law_both", "_law_ups", "_law_downs", "_law_rise", "_law_fall"] "_law_table" (defScope s_l_table) f cdv A outer s H E).nox (defBody s_l_table) g_l_table := by
  intro cdv A outer s H E hgd hr
  unfold g_l_table
  exact (s_cons (s_dnewT (fun te h => ps_set (i := 1) sc_l_table.nd rfl (by first | exact Or.inl rfl | exact Or.inr rfl) h))
  (s_cons (s_for PassesOwn.never rfl (i_rng1 (by rfl) n_range (d_addA (d_mulA d_int (d_var 0 (pv 0))) d_int)) (g_name (pg_name (i := 2) sc_l_table.nd rfl (by first | exact Or.inl rfl | exact Or.inr rfl))) (s_one (s_for PassesOwn.never rfl (i_rng1 (by rfl) n_range (d_addA (d_min2 rfl (by rfl) n_min (d_var 2 (pv 2)) (d_var 0 (pv 0))) d_int)) (g_name (pg_name (i := 3) sc_l_table.nd rfl (by first | exact Or.inl rfl | exact Or.inr rfl))) (s_cons (s_asg (d_subA (d_var 2 (pv 2)) (d_var 3 (pv 3))) (g_name (pg_name (i := 4) sc_l_table.nd rfl (by first | exact Or.inl rfl | exact Or.inr rfl))))
  (s_one (s_if (d_tstC op_le (fun _ => o_le) (d_var 4 (pv 4)) (d_var 0 (pv 0)) (nomark _)) (s_cons (s_asg (d_dget2 (units1 hr) (pv 1) (k_tup (a_val d_str (a_val (d_subA (d_var 3 (pv 3)) d_int) (a_val (d_var 4 (pv 4)) a_nil)))) (d_powA d_int d_int)) (g_name (pg_name (i := 5) sc_l_table.nd rfl (by first | exact Or.inl rfl | exact Or.inr rfl))))
  (s_cons (s_asg (d_dget2 (units1 hr) (pv 1) (k_tup (a_val d_str (a_val (d_var 3 (pv 3)) (a_val (d_subA (d_var 4 (pv 4)) d_int) a_nil)))) (d_powA d_int d_int)) (g_name (pg_name (i := 6) sc_l_table.nd rfl (by first | exact Or.inl rfl | exact Or.inr rfl))))
  (s_cons (s_dput (units1 hr) (pv 1) (k_tup (a_val d_str (a_val (d_var 3 (pv 3)) (a_val (d_var 4 (pv 4)) a_nil)))) (d_ife (d_tstC op_gt (fun _ => o_gt) (d_var 2 (pv 2)) d_int (nomark _)) (d_min2 rfl (by rfl) n_min (d_var 5 (pv 5)) (d_addA d_int (d_var 6 (pv 6)))) d_int))
  (s_one (s_dput (units1 hr) (pv 1) (k_tup (a_val d_str (a_val (d_var 3 (pv 3)) (a_val (d_var 4 (pv 4)) a_nil)))) (d_ife (d_tstC op_gt (fun _ => o_gt) (d_var 2 (pv 2)) d_int (nomark _)) (d_min2 rfl (by rfl) n_min (d_var 6 (pv 6)) (d_addA d_int (d_var 5 (pv 5)))) d_int)))))) s_nil))))))
  (s_one (s_ret (d_var 1 (pv 1))))))
theorem b_l_right (n_range : mg "range" = none) (f_p_bare_turns : Fo P w K mg base "bare_turns" ["chamber", "ups", "downs"] m_p_bare_turns 1) (f_l_take : Fo P w K mg base "_law_take" ["_law_box_here", "_law_size"] (m_l_take 4) 4) (f_l_same : Fo P w K mg base "_law_same" ["_law_found", "_law_due"] (m_l_same 10) 10) : ∀ (cdv : Value) (A : Around) (outer : List Env) (s : Shared) (H : Hp) (E : XK), A.guards = some [] → Room 10 (A.deeper (envOfC "_law_right" (defScope s_l_right) s.heap.objs.size f cdv)) →
    PSsd (cxOf CX0 P w K mg base ["_law_box_here", "_law_table_here", "_law_turn", "_law_ups", "_law_downs", "_law_more", "_law_due", "_law_asked", "_law_far"] "_law_right" (defScope s_l_right) f cdv A outer s H E).nox (defBody s_l_right) g_l_right := by
  intro cdv A outer s H E hgd hr
  unfold g_l_right
  exact (s_cons (s_for PassesOwn.never rfl (i_rng1 (by rfl) n_range d_int) (g_name (pg_name (i := 2) sc_l_right.nd rfl (by first | exact Or.inl rfl | exact Or.inr rfl))) (s_cons (s_par3 (Fo.call f_l_take hgd hr (by decide) (by rfl) rfl (a_ref (d_var 0 (pv 0)) (a_val d_int a_nil)) (argR_len (argV_len (fun _ _ _ h => argN_len h)))) (Fo.call f_l_take hgd hr (by decide) (by rfl) rfl (a_ref (d_var 0 (pv 0)) (a_val d_int a_nil)) (argR_len (argV_len (fun _ _ _ h => argN_len h)))) (Fo.call f_l_take hgd hr (by decide) (by rfl) rfl (a_ref (d_var 0 (pv 0)) (a_val (d_powA d_int d_int) a_nil)) (argR_len (argV_len (fun _ _ _ h => argN_len h)))) (fun t h => ps_par3 (i := 3) (j := 4) (l := 5) rfl sc_l_right.nd rfl rfl rfl (by decide) (by decide) (by decide) rfl rfl rfl h (by rfl)))
  (s_cons (s_asg (d_lst (a_val (d_dget (units1 hr) (pv 1) (k_tup (a_val d_str (a_val (d_var 3 (pv 3)) (a_val (d_var 4 (pv 4)) a_nil))))) (a_val (d_dget (units1 hr) (pv 1) (k_tup (a_val d_str (a_val (d_var 3 (pv 3)) (a_val (d_var 4 (pv 4)) a_nil))))) a_nil))) (g_name (pg_name (i := 6) sc_l_right.nd rfl (by first | exact Or.inl rfl | exact Or.inr rfl))))
  (s_cons (s_if (d_notT (d_tru (Fo.call f_l_same hgd hr (by decide) (by rfl) rfl (a_val (d_lst (a_val (Fo.call f_p_bare_turns hgd hr (by decide) (by rfl) rfl (a_val d_str (a_val (d_var 3 (pv 3)) (a_val (d_var 4 (pv 4)) a_nil))) (argV_len (argV_len (argV_len (fun _ _ _ h => argN_len h))))) (a_val (Fo.call f_p_bare_turns hgd hr (by decide) (by rfl) rfl (a_val d_str (a_val (d_var 3 (pv 3)) (a_val (d_var 4 (pv 4)) a_nil))) (argV_len (argV_len (argV_len (fun _ _ _ h => argN_len h))))) a_nil))) (a_val (d_var 6 (pv 6)) a_nil)) (argV_len (argV_len (fun _ _ _ h => argN_len h)))))) (s_one (s_ret d_bl)) s_nil)
  (s_cons (s_asg (d_lst (a_val (Fo.call f_p_bare_turns hgd hr (by decide) (by rfl) rfl (a_val d_str (a_val (d_addA (d_var 3 (pv 3)) (d_var 5 (pv 5))) (a_val (d_addA (d_var 4 (pv 4)) (d_var 5 (pv 5))) a_nil))) (argV_len (argV_len (argV_len (fun _ _ _ h => argN_len h))))) (a_val (Fo.call f_p_bare_turns hgd hr (by decide) (by rfl) rfl (a_val d_str (a_val (d_addA (d_var 3 (pv 3)) (d_var 5 (pv 5))) (a_val (d_addA (d_var 4 (pv 4)) (d_var 5 (pv 5))) a_nil))) (argV_len (argV_len (argV_len (fun _ _ _ h => argN_len h))))) a_nil))) (g_name (pg_name (i := 7) sc_l_right.nd rfl (by first | exact Or.inl rfl | exact Or.inr rfl))))
  (s_cons (s_if (d_notT (d_tru (Fo.call f_l_same hgd hr (by decide) (by rfl) rfl (a_val (d_var 7 (pv 7)) (a_val (d_var 6 (pv 6)) a_nil)) (argV_len (argV_len (fun _ _ _ h => argN_len h)))))) (s_one (s_ret d_bl)) s_nil)
  (s_one (s_if (d_notT (d_tru (Fo.call f_l_same hgd hr (by decide) (by rfl) rfl (a_val (d_lst (a_val (Fo.call f_p_bare_turns hgd hr (by decide) (by rfl) rfl (a_val d_str (a_val (d_var 4 (pv 4)) (a_val (d_var 3 (pv 3)) a_nil))) (argV_len (argV_len (argV_len (fun _ _ _ h => argN_len h))))) (a_val (Fo.call f_p_bare_turns hgd hr (by decide) (by rfl) rfl (a_val d_str (a_val (d_var 4 (pv 4)) (a_val (d_var 3 (pv 3)) a_nil))) (argV_len (argV_len (argV_len (fun _ _ _ h => argN_len h))))) a_nil))) (a_val (d_var 6 (pv 6)) a_nil)) (argV_len (argV_len (fun _ _ _ h => argN_len h)))))) (s_one (s_ret d_bl)) s_nil))))))))
  (s_cons (s_asg (d_addA d_int (Fo.call f_l_take hgd hr (by decide) (by rfl) rfl (a_ref (d_var 0 (pv 0)) (a_val (d_powA d_int d_int) a_nil)) (argR_len (argV_len (fun _ _ _ h => argN_len h))))) (g_name (pg_name (i := 8) sc_l_right.nd rfl (by first | exact Or.inl rfl | exact Or.inr rfl))))
  (s_cons (s_asg (d_lst (a_val (Fo.call f_p_bare_turns hgd hr (by decide) (by rfl) rfl (a_val d_str (a_val (d_var 8 (pv 8)) (a_val d_int a_nil))) (argV_len (argV_len (argV_len (fun _ _ _ h => argN_len h))))) (a_val (Fo.call f_p_bare_turns hgd hr (by decide) (by rfl) rfl (a_val d_str (a_val d_int (a_val (d_var 8 (pv 8)) a_nil))) (argV_len (argV_len (argV_len (fun _ _ _ h => argN_len h))))) a_nil))) (g_name (pg_name (i := 7) sc_l_right.nd rfl (by first | exact Or.inl rfl | exact Or.inr rfl))))
  (s_cons (s_asg (d_addA (d_var 7 (pv 7)) (d_lst (a_val (Fo.call f_p_bare_turns hgd hr (by decide) (by rfl) rfl (a_val d_str (a_val (d_var 8 (pv 8)) (a_val d_int a_nil))) (argV_len (argV_len (argV_len (fun _ _ _ h => argN_len h))))) (a_val (Fo.call f_p_bare_turns hgd hr (by decide) (by rfl) rfl (a_val d_str (a_val d_int (a_val (d_var 8 (pv 8)) a_nil))) (argV_len (argV_len (argV_len (fun _ _ _ h => argN_len h))))) a_nil)))) (g_name (pg_name (i := 7) sc_l_right.nd rfl (by first | exact Or.inl rfl | exact Or.inr rfl))))
  (s_cons (s_if (d_notT (d_tru (Fo.call f_l_same hgd hr (by decide) (by rfl) rfl (a_val (d_var 7 (pv 7)) (a_val (d_lst (a_val (d_subA (d_var 8 (pv 8)) d_int) (a_val (d_var 8 (pv 8)) (a_val (d_var 8 (pv 8)) (a_val (d_subA (d_var 8 (pv 8)) d_int) a_nil))))) a_nil)) (argV_len (argV_len (fun _ _ _ h => argN_len h)))))) (s_one (s_ret d_bl)) s_nil)
  (s_one (s_ret (Fo.call f_l_same hgd hr (by decide) (by rfl) rfl (a_val (d_lst (a_val (Fo.call f_p_bare_turns hgd hr (by decide) (by rfl) rfl (a_val d_str (a_val d_int (a_val d_int a_nil))) (argV_len (argV_len (argV_len (fun _ _ _ h => argN_len h))))) (a_val (Fo.call f_p_bare_turns hgd hr (by decide) (by rfl) rfl (a_val d_str (a_val d_int (a_val d_int a_nil))) (argV_len (argV_len (argV_len (fun _ _ _ h => argN_len h))))) a_nil))) (a_val (d_lst (a_val d_int (a_val d_int a_nil))) a_nil)) (argV_len (argV_len (fun _ _ _ h => argN_len h)))))))))))
theorem b_p_law (n_all : mg "all" = none) (n_len : mg "len" = none) (n_range : mg "range" = none) (f_l_box : Fo P w K mg base "_law_box" ["_law_script", "_law_k"] m_l_box 1) (f_l_cells : Fo P w K mg base "_law_cells" ["_law_script", "_law_size"] m_l_cells 2) (f_l_table : Fo P w K mg base "_law_table" ["_law_cap"] m_l_table 1) (f_l_right : Fo P w K mg base "_law_right" ["_law_box_here", "_law_table_here"] m_l_right 11) : ∀ (cdv : Value) (A : Around) (outer : List Env) (s : Shared) (H : Hp) (E : XK), A.guards = some [] → Room 11 (A.deeper (envOfC "law" (defScope s_p_law) s.heap.objs.size f cdv)) →
    PSsd (cxOf CX0 P w K mg base ["_law_script", "_law_cells_here", "_law_table_here", "_law_k"] "law" (defScope s_p_law) f cdv A outer s H E).nox (defBody s_p_law) g_p_law := by
  intro cdv A outer s H E hgd hr
  unfold g_p_law
  exact (s_cons (s_parT2 (Fo.call f_l_cells hgd hr (by decide) (by rfl) rfl (a_val (d_var 0 (pv 0)) (a_val d_int a_nil)) (argV_len (argV_len (fun _ _ _ h => argN_len h)))) (Fo.call f_l_table hgd hr (by decide) (by rfl) rfl (a_val d_int a_nil) (argV_len (fun _ _ _ h => argN_len h))) (fun t h => ps_asg (pe_tup h) (pg_tup rfl (pgs_cons (pg_name (i := 1) sc_p_law.nd rfl (by first | exact Or.inl rfl | exact Or.inr rfl)) (pgs_cons (pg_name (i := 2) sc_p_law.nd rfl (by first | exact Or.inl rfl | exact Or.inr rfl)) pgs_nil)))))
  (s_one (s_ret (d_all rfl (by rfl) n_all (d_lc (own := [("_law_k", 3)]) rfl sc_p_law.nd (i_rng1 (by rfl) n_range (d_len (by rfl) n_len (d_var 1 (pv 1)))) (blkOk_by (N := ["_law_script", "_law_cells_here", "_law_table_here", "_law_k"]) (sc := defScope s_p_law) (own := [("_law_k", 3)]) (by decide +kernel)) (fun _ _ _ _ _ => (g_name (pg_name (i := 3) sc_p_law.nd rfl (by first | exact Or.inl rfl | exact Or.inr rfl)))) (fun _ _ _ _ _ => ts_nil) (fun _ _ _ _ _ => (Fo.callF2 f_l_right hgd hr (by decide) (by rfl) rfl (Fo.call f_l_box hgd hr (by decide) (by rfl) rfl (a_val (d_var 1 (pv 1)) (a_val (d_var 3 (pv 3)) a_nil)) (argV_len (argV_len (fun _ _ _ h => argN_len h)))) (a_ref (d_var 2 (pv 2)) a_nil) (argR_len (fun _ _ _ h => argN_len h)))))))))
end
end K46
namespace K46
open PySem PySem.Spec PyProof.Rows L2 Lw
open K46h
set_option maxHeartbeats 0 in
theorem facts {P : Program} {w : World} {K : PySem.W.Frag} {h : Heap} {mg : Str → Option Value} {f : Addr} (X : K.In h) (G : h.Ns mainGlobals mg) (hfa : mg ("law" : Str) = some (.ref f)) (c : He.SaysD fa fn K) :
    ∃ fd : FuncData, (∀ (s : Shared) (v : Value), BindsTo s fd ⟨[v], []⟩ [("_law_script", v)]) ∧ ∀ base : Heap, K.In base → base.Ns mainGlobals mg → FnG P w K mg base CX0 12 f fd ["_law_script"] (spF K 1 m_p_law) := by
  obtain ⟨fd_p_bare_turns, F_p_bare_turns⟩ := c.def_ 0 (d := dd_p_bare_turns) rfl
  obtain ⟨fd_l_box, F_l_box⟩ := c.def_ 1 (d := dd_l_box) rfl
  obtain ⟨fd_l_take, F_l_take⟩ := c.def_ 2 (d := dd_l_take) rfl
  obtain ⟨fd_l_folded, F_l_folded⟩ := c.def_ 3 (d := dd_l_folded) rfl
  obtain ⟨fd_l_cells, F_l_cells⟩ := c.def_ 4 (d := dd_l_cells) rfl
  obtain ⟨fd_l_of, F_l_of⟩ := c.def_ 5 (d := dd_l_of) rfl
  obtain ⟨fd_l_same, F_l_same⟩ := c.def_ 6 (d := dd_l_same) rfl
  obtain ⟨fd_l_table, F_l_table⟩ := c.def_ 7 (d := dd_l_table) rfl
  obtain ⟨fd_l_right, F_l_right⟩ := c.def_ 8 (d := dd_l_right) rfl
  obtain ⟨fd_p_law, F_p_law⟩ := c.def_ 9 (d := dd_p_law) rfl
  have n_abs := He.free_ok X G (c.fact 10 (f := .free "abs") rfl)
  have n_all := He.free_ok X G (c.fact 11 (f := .free "all") rfl)
  have n_bool := He.free_ok X G (c.fact 12 (f := .free "bool") rfl)
  have n_divmod := He.free_ok X G (c.fact 13 (f := .free "divmod") rfl)
  have n_enumerate := He.free_ok X G (c.fact 14 (f := .free "enumerate") rfl)
  have n_int := He.free_ok X G (c.fact 15 (f := .free "int") rfl)
  have n_isinstance := He.free_ok X G (c.fact 16 (f := .free "isinstance") rfl)
  have n_len := He.free_ok X G (c.fact 17 (f := .free "len") rfl)
  have n_list := He.free_ok X G (c.fact 18 (f := .free "list") rfl)
  have n_min := He.free_ok X G (c.fact 19 (f := .free "min") rfl)
  have n_range := He.free_ok X G (c.fact 20 (f := .free "range") rfl)
  have n_str := He.free_ok X G (c.fact 21 (f := .free "str") rfl)
  have n_tuple := He.free_ok X G (c.fact 22 (f := .free "tuple") rfl)
  have n_zip := He.free_ok X G (c.fact 23 (f := .free "zip") rfl)
  obtain ⟨t_LOW, c_LOW⟩ := He.str_ok X G (c.fact 24 rfl)
  have bi_p_bare_turns : Binds K fd_p_bare_turns ["chamber", "ups", "downs"] [] := F_p_bare_turns.bindsN fun _ _ _ _ _ _ us hl => match us, hl with | [_, _, _], _ => rfl
  have g_p_bare_turns := He.glo_ok X G (c.fact 0 (f := .glo "bare_turns") rfl)
  have bi_l_box : Binds K fd_l_box ["_law_script", "_law_k"] [] := F_l_box.bindsN fun _ _ _ _ _ _ us hl => match us, hl with | [_, _], _ => rfl
  have g_l_box := He.glo_ok X G (c.fact 1 (f := .glo "_law_box") rfl)
  have bi_l_take : Binds K fd_l_take ["_law_box_here", "_law_size"] [] := F_l_take.bindsN fun _ _ _ _ _ _ us hl => match us, hl with | [_, _], _ => rfl
  have g_l_take := He.glo_ok X G (c.fact 2 (f := .glo "_law_take") rfl)
  have bi_l_folded : Binds K fd_l_folded ["_law_script", "_law_size"] [] := F_l_folded.bindsN fun _ _ _ _ _ _ us hl => match us, hl with | [_, _], _ => rfl
  have g_l_folded := He.glo_ok X G (c.fact 3 (f := .glo "_law_folded") rfl)
  have bi_l_cells : Binds K fd_l_cells ["_law_script", "_law_size"] [] := F_l_cells.bindsN fun _ _ _ _ _ _ us hl => match us, hl with | [_, _], _ => rfl
  have g_l_cells := He.glo_ok X G (c.fact 4 (f := .glo "_law_cells") rfl)
  have bi_l_of : Binds K fd_l_of ["_law_box_here", "_law_some"] [] := F_l_of.bindsN fun _ _ _ _ _ _ us hl => match us, hl with | [_, _], _ => rfl
  have g_l_of := He.glo_ok X G (c.fact 5 (f := .glo "_law_of") rfl)
  have bi_l_same : Binds K fd_l_same ["_law_found", "_law_due"] [] := F_l_same.bindsN fun _ _ _ _ _ _ us hl => match us, hl with | [_, _], _ => rfl
  have g_l_same := He.glo_ok X G (c.fact 6 (f := .glo "_law_same") rfl)
  have bi_l_table : Binds K fd_l_table ["_law_cap"] [] := F_l_table.bindsN fun _ _ _ _ _ _ us hl => match us, hl with | [_], _ => rfl
  have g_l_table := He.glo_ok X G (c.fact 7 (f := .glo "_law_table") rfl)
  have bi_l_right : Binds K fd_l_right ["_law_box_here", "_law_table_here"] [] := F_l_right.bindsN fun _ _ _ _ _ _ us hl => match us, hl with | [_, _], _ => rfl
  have g_l_right := He.glo_ok X G (c.fact 8 (f := .glo "_law_right") rfl)
  have bi_p_law : Binds K fd_p_law ["_law_script"] [] := F_p_law.bindsN fun _ _ _ _ _ _ us hl => match us, hl with | [_], _ => rfl
  have g_p_law := He.glo_ok X G (c.fact 9 (f := .glo "law") rfl)
  have e := hfa.symm.trans g_p_law
  cases e
  refine ⟨fd_p_law, fun s v => F_p_law.bindsA (ps := ["_law_script"]) (fun _ _ _ _ _ _ us hl => match us, hl with | [_], _ => rfl) s [v] rfl, fun base _ _ => ?_⟩
  have f_p_bare_turns : Fo P w K mg base "bare_turns" ["chamber", "ups", "downs"] m_p_bare_turns 1 := FunD.mkG F_p_bare_turns sc_p_bare_turns (b_p_bare_turns c_LOW) g_p_bare_turns bi_p_bare_turns
  have f_l_box : Fo P w K mg base "_law_box" ["_law_script", "_law_k"] m_l_box 1 := FunD.mkG F_l_box sc_l_box (b_l_box n_abs n_int n_len) g_l_box bi_l_box
  have f_l_folded : Fo P w K mg base "_law_folded" ["_law_script", "_law_size"] m_l_folded 1 := FunD.mkG F_l_folded sc_l_folded (b_l_folded n_enumerate n_list) g_l_folded bi_l_folded
  have f_l_table : Fo P w K mg base "_law_table" ["_law_cap"] m_l_table 1 := FunD.mkG F_l_table sc_l_table (b_l_table n_min n_range) g_l_table bi_l_table
  have f_l_cells : Fo P w K mg base "_law_cells" ["_law_script", "_law_size"] m_l_cells 2 := FunD.mkG F_l_cells sc_l_cells (b_l_cells f_l_folded) g_l_cells bi_l_cells
  have f_l_take : ∀ n : Nat, Fo P w K mg base "_law_take" ["_law_box_here", "_law_size"] (m_l_take n) (0 + n) := by
    intro n
    induction n with
    | zero => exact fo_none g_l_take F_l_take.kp bi_l_take
    | succ n ih => exact FunD.mkG F_l_take sc_l_take (b_l_take n_divmod ih) g_l_take bi_l_take
  replace f_l_take := f_l_take 4
  have f_l_of : Fo P w K mg base "_law_of" ["_law_box_here", "_law_some"] m_l_of 5 := FunD.mkG F_l_of sc_l_of (b_l_of n_len f_l_take) g_l_of bi_l_of
  have f_l_same : ∀ n : Nat, Fo P w K mg base "_law_same" ["_law_found", "_law_due"] (m_l_same n) (0 + n) := by
    intro n
    induction n with
    | zero => exact fo_none g_l_same F_l_same.kp bi_l_same
    | succ n ih => exact FunD.mkG F_l_same sc_l_same (b_l_same n_all n_bool n_int n_isinstance n_len n_list n_str n_tuple n_zip ih) g_l_same bi_l_same
  replace f_l_same := f_l_same 10
  have f_l_right : Fo P w K mg base "_law_right" ["_law_box_here", "_law_table_here"] m_l_right 11 := FunD.mkG F_l_right sc_l_right (b_l_right n_range f_p_bare_turns f_l_take f_l_same) g_l_right bi_l_right
  exact FunD.mkFn F_p_law sc_p_law (b_p_law n_all n_len n_range f_l_box f_l_cells f_l_table f_l_right)
end K46
open PySem PySem.W PySem.Calls PyProof.Rows
set_option maxRecDepth 100000 in
set_option maxHeartbeats 0 in
theorem PySem.Challenge.cw_liftwater_k46_turns_with_no_boat_holds : PySem.Challenge.rw_liftwater_k46_turns_with_no_boat.Holds := by
  w_on; o_law
  refine HandSHeadRun.head_any (r := OpenLaw.row PySem.Challenge.rw_liftwater_k46_turns_with_no_boat) (q := view (OpenLaw.row PySem.Challenge.rw_liftwater_k46_turns_with_no_boat).prog [12]) (H := K46h.hk) (ob := K46h.ob) (M := 4000) (loose := K46h.loose) (d := HandSHeadRun.topDef (OpenLaw.row PySem.Challenge.rw_liftwater_k46_turns_with_no_boat).prog 12) (kwd := []) K46h.ob_eq
    (by kernel_rfl) (fun s => by kernel_rfl) K46h.run (by kernel_rfl) (by kernel_rfl) (by kernel_rfl) (by rfl) (by first | assumption | decide +kernel) (by decide +kernel) ⟨rfl, rfl, rfl, rfl, rfl, by decide +kernel⟩ ?hw ?hc
  case hw => w_witness2
  case hc =>
    refine Lw.walk_GE (l := PySem.Challenge.rw_liftwater_k46_turns_with_no_boat) (n := 63) (k := 12) (x := "_law_script") rfl (by decide) (by kernel_rfl) ⟨rfl, by decide, by decide⟩ ?F
    intro w mg fa h Y G hmg0
    obtain ⟨K, KX, c⟩ := Y
    have hmg : mg ("law" : PySem.Str) = some (.ref fa) := by
      have e : (HandSHeadRun.topDef (OpenLaw.row PySem.Challenge.rw_liftwater_k46_turns_with_no_boat).prog 12).name = ("law" : PySem.Str) := by kernel_rfl
      rw [← e]
      exact hmg0
    obtain ⟨fd, hb, hF⟩ := K46.facts (P := (PySem.Challenge.rw_liftwater_k46_turns_with_no_boat).prog) (w := w) KX G hmg c
    exact ⟨K, fd, _, KX, hb, fun H a ns hl hbits hS => Lw.law_sp (K46.sem_law ns hl hbits) hS, hF⟩
