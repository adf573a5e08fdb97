import PyProof.Rows.All
import HandS.ForMost
import HandS.ForExc
import HandS.IsInst
import HandS.WideBits
import HandS.TupAny
import HandS.TupMul
import HandS.Zip
import HandS.Rev
import HandS.Style
import HandS.Flow
import HandS.Conv
import HandS.EndBits
import PyProof.Rows.IntBool
import PyProof.ReprRoads
import HandS.TryOnly
import HandS.RevRange
import HandS.Head0
import HandS.More
import HandS.Head1
import HandS.Head2
import HandS.HeadEnd
import HandS.HeadHook1
import HandS.HeadHook2
import HandS.Defaults
import KE.GoesNew
import KE.DataMinMax
import KE.KTupSum
import KE.KRevSl
import HandS.Star
import KE.KDictZip
import HandS.TupLe
import KE.DataFind
import HandS.SortKw
import HandS.Small
import HandS.ListItems
import HandS.Strs
import HandS.SetFor
import PyProof.ReprLen
import KE.DatumOrd
import PySem.Challenge.RW_liftwater_k18_known_rows
set_option Elab.async false
set_option linter.all false
set_option maxRecDepth 100000
set_option maxHeartbeats 4000000
namespace K18
open PySem PySem.Spec PyProof.Rows L2
def topS (i : Nat) : Stmt := PySem.Challenge.pw_liftwater_k18_known_rows.main.body.getD i (.Pass ⟨0, 0, 0, 0⟩)
abbrev s_p_rows_at : Stmt := topS 1
abbrev s_p_lines_of : Stmt := topS 2
abbrev s_p_begins_waiting : Stmt := topS 3
abbrev s_p_stepped_on : Stmt := topS 4
abbrev s_p_merged : Stmt := topS 5
abbrev s_p_rows_from : Stmt := topS 6
abbrev s_p_row_at : Stmt := topS 7
abbrev s_p_lowest : Stmt := topS 8
abbrev s_p_bend_of : Stmt := topS 9
abbrev s_p_change_of : Stmt := topS 14
abbrev s_p_sums_of : Stmt := topS 16
abbrev s_p_led : Stmt := topS 18
abbrev s_p_table_of : Stmt := topS 19
abbrev s_p_tables_along : Stmt := topS 20
abbrev s_p_brim_table : Stmt := topS 21
abbrev s_p_table_behind : Stmt := topS 22
abbrev s_p_behind : Stmt := topS 23
abbrev s_p_row_behind : Stmt := topS 24
abbrev s_p_doubles_of : Stmt := topS 25
abbrev s_p_doubles_in : Stmt := topS 26
abbrev s_p_led_often : Stmt := topS 27
abbrev s_p_totals_of : Stmt := topS 29
abbrev s_p_levels_of : Stmt := topS 30
abbrev s_p_far_levels : Stmt := topS 32
abbrev s_p_far_totals : Stmt := topS 33
abbrev s_p_ran_over : Stmt := topS 34
abbrev s_p_rows_of : Stmt := topS 35
abbrev s_l_box : Stmt := topS 37
abbrev s_l_take : Stmt := topS 38
abbrev s_l_folded : Stmt := topS 39
abbrev s_l_same : Stmt := topS 40
abbrev s_l_cut : Stmt := topS 41
abbrev s_l_one_right : Stmt := topS 42
abbrev s_l_two_right : Stmt := topS 43
abbrev s_l_right : Stmt := topS 44
abbrev s_p_law : Stmt := topS 45
end K18
namespace K18h
open PySem PySem.Spec PyProof.Rows L2 K18
def dd_p_rows_at : He.DefD := ⟨("rows_at", none), "rows_at", "rows_at", defArgs s_p_rows_at, defBody s_p_rows_at, defScope s_p_rows_at, [], []⟩
def dd_p_lines_of : He.DefD := ⟨("lines_of", none), "lines_of", "lines_of", defArgs s_p_lines_of, defBody s_p_lines_of, defScope s_p_lines_of, [], []⟩
def dd_p_begins_waiting : He.DefD := ⟨("begins_waiting", none), "begins_waiting", "begins_waiting", defArgs s_p_begins_waiting, defBody s_p_begins_waiting, defScope s_p_begins_waiting, [], []⟩
def dd_p_stepped_on : He.DefD := ⟨("stepped_on", none), "stepped_on", "stepped_on", defArgs s_p_stepped_on, defBody s_p_stepped_on, defScope s_p_stepped_on, [], []⟩
def dd_p_merged : He.DefD := ⟨("merged", none), "merged", "merged", defArgs s_p_merged, defBody s_p_merged, defScope s_p_merged, [], []⟩
def dd_p_rows_from : He.DefD := ⟨("rows_from", none), "rows_from", "rows_from", defArgs s_p_rows_from, defBody s_p_rows_from, defScope s_p_rows_from, [], []⟩
def dd_p_row_at : He.DefD := ⟨("row_at", none), "row_at", "row_at", defArgs s_p_row_at, defBody s_p_row_at, defScope s_p_row_at, [], []⟩
def dd_p_lowest : He.DefD := ⟨("lowest", none), "lowest", "lowest", defArgs s_p_lowest, defBody s_p_lowest, defScope s_p_lowest, [], []⟩
def dd_p_bend_of : He.DefD := ⟨("bend_of", none), "bend_of", "bend_of", defArgs s_p_bend_of, defBody s_p_bend_of, defScope s_p_bend_of, [], []⟩
def dd_p_change_of : He.DefD := ⟨("change_of", none), "change_of", "change_of", defArgs s_p_change_of, defBody s_p_change_of, defScope s_p_change_of, [], []⟩
def dd_p_sums_of : He.DefD := ⟨("sums_of", none), "sums_of", "sums_of", defArgs s_p_sums_of, defBody s_p_sums_of, defScope s_p_sums_of, [], []⟩
def dd_p_led : He.DefD := ⟨("led", none), "led", "led", defArgs s_p_led, defBody s_p_led, defScope s_p_led, [], []⟩
def dd_p_table_of : He.DefD := ⟨("table_of", none), "table_of", "table_of", defArgs s_p_table_of, defBody s_p_table_of, defScope s_p_table_of, [], []⟩
def dd_p_tables_along : He.DefD := ⟨("tables_along", none), "tables_along", "tables_along", defArgs s_p_tables_along, defBody s_p_tables_along, defScope s_p_tables_along, [], []⟩
def dd_p_brim_table : He.DefD := ⟨("brim_table", none), "brim_table", "brim_table", defArgs s_p_brim_table, defBody s_p_brim_table, defScope s_p_brim_table, [], []⟩
def dd_p_table_behind : He.DefD := ⟨("table_behind", none), "table_behind", "table_behind", defArgs s_p_table_behind, defBody s_p_table_behind, defScope s_p_table_behind, [], []⟩
def dd_p_behind : He.DefD := ⟨("behind", none), "behind", "behind", defArgs s_p_behind, defBody s_p_behind, defScope s_p_behind, [], []⟩
def dd_p_row_behind : He.DefD := ⟨("row_behind", none), "row_behind", "row_behind", defArgs s_p_row_behind, defBody s_p_row_behind, defScope s_p_row_behind, [], []⟩
def dd_p_doubles_of : He.DefD := ⟨("doubles_of", none), "doubles_of", "doubles_of", defArgs s_p_doubles_of, defBody s_p_doubles_of, defScope s_p_doubles_of, [], []⟩
def dd_p_doubles_in : He.DefD := ⟨("doubles_in", none), "doubles_in", "doubles_in", defArgs s_p_doubles_in, defBody s_p_doubles_in, defScope s_p_doubles_in, [], []⟩
def dd_p_led_often : He.DefD := ⟨("led_often", none), "led_often", "led_often", defArgs s_p_led_often, defBody s_p_led_often, defScope s_p_led_often, [], []⟩
def dd_p_totals_of : He.DefD := ⟨("totals_of", none), "totals_of", "totals_of", defArgs s_p_totals_of, defBody s_p_totals_of, defScope s_p_totals_of, [], []⟩
def dd_p_levels_of : He.DefD := ⟨("levels_of", none), "levels_of", "levels_of", defArgs s_p_levels_of, defBody s_p_levels_of, defScope s_p_levels_of, [], []⟩
def dd_p_far_levels : He.DefD := ⟨("far_levels", none), "far_levels", "far_levels", defArgs s_p_far_levels, defBody s_p_far_levels, defScope s_p_far_levels, [], []⟩
def dd_p_far_totals : He.DefD := ⟨("far_totals", none), "far_totals", "far_totals", defArgs s_p_far_totals, defBody s_p_far_totals, defScope s_p_far_totals, [], []⟩
def dd_p_ran_over : He.DefD := ⟨("ran_over", none), "ran_over", "ran_over", defArgs s_p_ran_over, defBody s_p_ran_over, defScope s_p_ran_over, [], []⟩
def dd_p_rows_of : He.DefD := ⟨("rows_of", none), "rows_of", "rows_of", defArgs s_p_rows_of, defBody s_p_rows_of, defScope s_p_rows_of, [], []⟩
def dd_l_box : He.DefD := ⟨("_law_box", none), "_law_box", "_law_box", defArgs s_l_box, defBody s_l_box, defScope s_l_box, [], []⟩
def dd_l_take : He.DefD := ⟨("_law_take", none), "_law_take", "_law_take", defArgs s_l_take, defBody s_l_take, defScope s_l_take, [], []⟩
def dd_l_folded : He.DefD := ⟨("_law_folded", none), "_law_folded", "_law_folded", defArgs s_l_folded, defBody s_l_folded, defScope s_l_folded, [], []⟩
def dd_l_same : He.DefD := ⟨("_law_same", none), "_law_same", "_law_same", defArgs s_l_same, defBody s_l_same, defScope s_l_same, [], []⟩
def dd_l_cut : He.DefD := ⟨("_law_cut", none), "_law_cut", "_law_cut", defArgs s_l_cut, defBody s_l_cut, defScope s_l_cut, [], []⟩
def dd_l_one_right : He.DefD := ⟨("_law_one_right", none), "_law_one_right", "_law_one_right", defArgs s_l_one_right, defBody s_l_one_right, defScope s_l_one_right, [], []⟩
def dd_l_two_right : He.DefD := ⟨("_law_two_right", none), "_law_two_right", "_law_two_right", defArgs s_l_two_right, defBody s_l_two_right, defScope s_l_two_right, [], []⟩
def dd_l_right : He.DefD := ⟨("_law_right", none), "_law_right", "_law_right", defArgs s_l_right, defBody s_l_right, defScope s_l_right, [], []⟩
def dd_p_law : He.DefD := ⟨("law", none), "law", "law", defArgs s_p_law, defBody s_p_law, defScope s_p_law, [], []⟩
def fn : List He.DefD := [dd_p_rows_at, dd_p_lines_of, dd_p_begins_waiting, dd_p_stepped_on, dd_p_merged, dd_p_rows_from, dd_p_row_at, dd_p_lowest, dd_p_bend_of, dd_p_change_of, dd_p_sums_of, dd_p_led, dd_p_table_of, dd_p_tables_along, dd_p_brim_table, dd_p_table_behind, dd_p_behind, dd_p_row_behind, dd_p_doubles_of, dd_p_doubles_in, dd_p_led_often, dd_p_totals_of, dd_p_levels_of, dd_p_far_levels, dd_p_far_totals, dd_p_ran_over, dd_p_rows_of, dd_l_box, dd_l_take, dd_l_folded, dd_l_same, dd_l_cut, dd_l_one_right, dd_l_two_right, dd_l_right, dd_p_law]
def fa : List He.Fa := [.glo "rows_at", .glo "lines_of", .glo "begins_waiting", .glo "stepped_on", .glo "merged", .glo "rows_from", .glo "row_at", .glo "lowest", .glo "bend_of", .glo "change_of", .glo "sums_of", .glo "led", .glo "table_of", .glo "tables_along", .glo "brim_table", .glo "table_behind", .glo "behind", .glo "row_behind", .glo "doubles_of", .glo "doubles_in", .glo "led_often", .glo "totals_of", .glo "levels_of", .glo "far_levels", .glo "far_totals", .glo "ran_over", .glo "rows_of", .glo "_law_box", .glo "_law_take", .glo "_law_folded", .glo "_law_same", .glo "_law_cut", .glo "_law_one_right", .glo "_law_two_right", .glo "_law_right", .glo "law", .free "abs", .free "all", .free "bool", .free "divmod", .free "enumerate", .free "int", .free "isinstance", .free "len", .free "list", .free "max", .free "min", .free "range", .free "reversed", .free "str", .free "sum", .free "tuple", .free "zip", .str "FILL" "fill", .str "EMPTY" "empty", .str "RAISE" "raise"]
abbrev R : PySem.W.OpenRow := PySem.W.OpenLaw.row PySem.Challenge.rw_liftwater_k18_known_rows
abbrev hk : PySem.W.Hook := He.hookD 4 fa fn
def ob (s : PySem.W.SharedT) : He.AlD := He.obsDG 4 fa fn (HandSHeadRun.getT s)
theorem ob_eq (s : PySem.W.SharedT) : ob s = hk.obs s.abs := He.obsDG_eq (HandSHeadRun.getT_eq s)
def loose : List Str := (["rows_at", "lines_of", "begins_waiting", "stepped_on", "merged", "rows_from", "row_at", "lowest", "bend_of", "FILL", "EMPTY", "RAISE", "change_of", "sums_of", "led", "table_of", "tables_along", "brim_table", "table_behind", "behind", "row_behind", "doubles_of", "doubles_in", "led_often", "totals_of", "levels_of", "far_levels", "far_totals", "ran_over", "rows_of"] : List Str) ++ (["_law_box", "_law_take", "_law_folded", "_law_same", "_law_cut", "_law_one_right", "_law_two_right", "_law_right"] : List Str)
set_option maxHeartbeats 0 in
theorem run (w : World) : HandSHeadRun.RunEq R (PySem.W.view R.prog [45]) hk ob 4000 loose w := by
  intro os
  kernel_rfl
end K18h
namespace Lw
open PySem PySem.Spec PyProof.Rows L2
/-! ### data -/
abbrev D := PyData
theorem same_seqT {K : PySem.W.Frag} {H H' : Hp} {a : Addr} {xs : List V} (e : Same H H') (h : SqT K H a xs) : SqT K H' a xs := by
  rcases h with (h | ⟨o, h⟩) | h
  · exact .inl (.inl (e _ _ h))
  · exact .inl (.inr ⟨o, e _ _ h⟩)
  · exact .inr h
section
variable {K : PySem.W.Frag} {H H' : Hp}
mutual
theorem dp_same (e : Same H H') : ∀ {v : V} {d : D}, Dp K H v d → Dp K H' v d
  | _, _, .non => .non
  | _, _, .bl b => .bl b
  | _, _, .int i => .int i
  | _, _, .str x => .str x
  | _, _, .lst h hs => .lst (e.seq h) (dpa_same e hs)
  | _, _, .tup h hs => .tup (same_seqT e h) (dpa_same e hs)
theorem dpa_same (e : Same H H') : ∀ {vs : List V} {ds : List D}, DpAll K H vs ds → DpAll K H' vs ds
  | _, _, .nil => .nil
  | _, _, .cons h hs => .cons (dp_same e h) (dpa_same e hs)
end
theorem dpa_len : ∀ {vs : List V} {ds : List D}, DpAll K H vs ds → vs.length = ds.length
  | _, _, .nil => rfl
  | _, _, .cons _ hs => by rw [List.length_cons, List.length_cons, dpa_len hs]
theorem dpa_app : ∀ {vs ws : List V} {ds es : List D}, DpAll K H vs ds → DpAll K H ws es → DpAll K H (vs ++ ws) (ds ++ es)
  | _, _, _, _, .nil, k => k
  | _, _, _, _, .cons h hs, k => .cons h (dpa_app hs k)
theorem dpa_get : ∀ {vs : List V} {ds : List D} {i : Nat} {d : D}, DpAll K H vs ds → ds[i]? = some d → ∃ v, vs[i]? = some v ∧ Dp K H v d
  | _, _, _, _, .nil, e => by simp at e
  | _, _, 0, _, .cons h _, e => by simp at e; subst e; exact ⟨_, rfl, h⟩
  | _, _, i + 1, d, .cons _ hs, e => by
    obtain ⟨v, h1, h2⟩ := dpa_get (i := i) (d := d) hs (by simpa using e)
    exact ⟨v, by simpa using h1, h2⟩
theorem dpa_getV : ∀ {vs : List V} {ds : List D} {i : Nat} {v : V}, DpAll K H vs ds → vs[i]? = some v → ∃ d, ds[i]? = some d ∧ Dp K H v d
  | _, _, _, _, .nil, e => by simp at e
  | _, _, 0, _, .cons h _, e => by simp at e; subst e; exact ⟨_, rfl, h⟩
  | _, _, i + 1, d, .cons _ hs, e => by
    obtain ⟨v, h1, h2⟩ := dpa_getV (i := i) (v := d) hs (by simpa using e)
    exact ⟨v, by simpa using h1, h2⟩
theorem dpa_set {v : V} {d : D} (h : Dp K H v d) : ∀ {vs : List V} {ds : List D} (i : Nat), DpAll K H vs ds → DpAll K H (vs.set i v) (ds.set i d)
  | _, _, _, .nil => .nil
  | _, _, 0, .cons _ t => .cons h t
  | _, _, i + 1, .cons q t => .cons q (dpa_set h i t)
theorem dpa_take : ∀ {vs : List V} {ds : List D} (n : Nat), DpAll K H vs ds → DpAll K H (vs.take n) (ds.take n)
  | _, _, 0, _ => .nil
  | _, _, _ + 1, .nil => .nil
  | _, _, n + 1, .cons r t => .cons r (dpa_take n t)
theorem dpa_drop : ∀ {vs : List V} {ds : List D} (n : Nat), DpAll K H vs ds → DpAll K H (vs.drop n) (ds.drop n)
  | _, _, 0, r => r
  | _, _, _ + 1, .nil => .nil
  | _, _, n + 1, .cons _ t => dpa_drop n t
theorem dpa_rev : ∀ {vs : List V} {ds : List D}, DpAll K H vs ds → DpAll K H vs.reverse ds.reverse
  | _, _, .nil => .nil
  | _, _, .cons r t => by
    rw [List.reverse_cons, List.reverse_cons]
    exact dpa_app (dpa_rev t) (.cons r .nil)
theorem dpa_rep : ∀ (n : Nat) {vs : List V} {ds : List D}, DpAll K H vs ds → DpAll K H (List.replicate n vs).flatten (List.replicate n ds).flatten
  | 0, _, _, _ => .nil
  | n + 1, _, _, h => by
    rw [List.replicate_succ, List.replicate_succ, List.flatten_cons, List.flatten_cons]
    exact dpa_app h (dpa_rep n h)
theorem dp_none {v : V} (h : Dp K H v .none) : v = .non := by cases h; rfl
theorem dp_bool {v : V} {b : Bool} (h : Dp K H v (.bool b)) : v = .bl b := by cases h; rfl
theorem dp_int {v : V} {i : Int} (h : Dp K H v (.int i)) : v = .int i := by cases h; rfl
theorem dp_str {v : V} {x : Str} (h : Dp K H v (.str x)) : v = .str x := by cases h; rfl
theorem dp_list {v : V} {ds : List D} (h : Dp K H v (.list ds)) : ∃ a vs, v = .ref a ∧ SqL K H a vs ∧ DpAll K H vs ds := by
  cases h with | lst h hs => exact ⟨_, _, rfl, h, hs⟩
theorem dp_tuple {v : V} {ds : List D} (h : Dp K H v (.tuple ds)) : ∃ a vs, v = .ref a ∧ SqT K H a vs ∧ DpAll K H vs ds := by
  cases h with | tup h hs => exact ⟨_, _, rfl, h, hs⟩
theorem dpa_ints : ∀ {ns : List Int}, DpAll K H (ns.map V.int) (ns.map PyData.int)
  | [] => .nil
  | n :: ns => .cons (.int n) dpa_ints
theorem dpa_ints_inv : ∀ {vs : List V} {ns : List Int}, DpAll K H vs (ns.map PyData.int) → vs = ns.map V.int
  | _, [], .nil => rfl
  | _, n :: ns, .cons h t => by rw [dp_int h, dpa_ints_inv t]; rfl
theorem dpa_bools_inv : ∀ {vs : List V} {ns : List Bool}, DpAll K H vs (ns.map PyData.bool) → vs = ns.map V.bl
  | _, [], .nil => rfl
  | _, n :: ns, .cons h t => by rw [dp_bool h, dpa_bools_inv t]; rfl
end
/-! ### the state: slots that hold data, or a list of their own -/
inductive S where
  | pure (d : D)
  | own (par : Bool) (ds : List D)
abbrev En := List (Option S)
abbrev M (α : Type) := En → Option (α × En)
/-- what stood at a def's entry: the slots of lists of the caller's own, the heaps -/
structure Fx where
  A : Nat → Option Addr
  G0 : Hp
  H0 : Hp
structure Rel (K : PySem.W.Frag) (F : Fx) (ς : En) (G : Hp) (σ : L2.St) (H : Hp) : Prop where
  len : σ.length = ς.length
  sub : Same G H
  g0 : Same F.G0 G
  pu : ∀ (i : Nat) d, ς[i]? = some (some (.pure d)) → ∃ v, σ[i]? = some (some v) ∧ Dp K G v d
  ow : ∀ (i : Nat) b ds, ς[i]? = some (some (.own b ds)) → ∃ a vs, σ[i]? = some (some (.ref a)) ∧ H a = some (.lst vs) ∧ G a = none ∧ DpAll K G vs ds ∧ (b = true → F.A i = some a) ∧ (b = false → F.H0 a = none)
  ap : ∀ (i j : Nat) b c ds es a, ς[i]? = some (some (.own b ds)) → ς[j]? = some (some (.own c es)) → σ[i]? = some (some (.ref a)) → σ[j]? = some (some (.ref a)) → i = j
  par : ∀ i a, F.A i = some a → ∃ ds, ς[i]? = some (some (.own true ds))
  fr : ∀ a o, F.H0 a = some o → (∀ i, F.A i ≠ some a) → H a = some o
  nw : ∀ a, G a ≠ none → F.G0 a ≠ none ∨ F.H0 a = none
/-- what an expression gives -/
inductive R where
  | pure (d : D)
  | ref (i : Nat)
  | fresh (ds : List D)
def RepR (K : PySem.W.Frag) (F : Fx) (ς : En) (G : Hp) (σ : L2.St) (H : Hp) : R → V → Prop
  | .pure d, v => Dp K G v d
  | .ref i, v => σ[i]? = some (some v)
  | .fresh ds, v => ∃ a vs, v = .ref a ∧ H a = some (.lst vs) ∧ G a = none ∧ DpAll K G vs ds ∧ F.H0 a = none ∧ ∀ (i : Nat) b es, ς[i]? = some (some (.own b es)) → σ[i]? ≠ some (some (.ref a))
section
variable {K : PySem.W.Frag} {F : Fx} {ς : En} {G H : Hp} {σ : L2.St}
theorem same_upd {H : Hp} {p : Addr} {o : HO} (h : H p = none) : Same H (upd H p o) := fun b x e => by
  rw [upd_ne (ne_of_none e h)]; exact e
theorem same_upd2 {G H : Hp} {p : Addr} {o : HO} (h : Same G H) : Same (upd G p o) (upd H p o) := fun b x e => by
  by_cases hb : b = p
  · subst hb; rw [upd_same] at e ⊢; exact e
  · rw [upd_ne hb] at e ⊢; exact h _ _ e
theorem Rel.own_in (r : Rel K F ς G σ H) {i : Nat} {a : Addr} (h : F.A i = some a) : σ[i]? = some (some (.ref a)) ∧ ∃ vs, H a = some (.lst vs) := by
  obtain ⟨ds, e⟩ := r.par i a h
  obtain ⟨a', vs, e1, e2, _, _, e5, _⟩ := r.ow i true ds e
  have := e5 rfl
  rw [h] at this; cases this
  exact ⟨e1, vs, e2⟩
theorem Rel.new (r : Rel K F ς G σ H) {p : Addr} (h : H p = none) : F.H0 p = none := by
  cases q : F.H0 p with
  | none => rfl
  | some o =>
    by_cases hp : ∃ i, F.A i = some p
    · obtain ⟨i, hi⟩ := hp
      obtain ⟨_, vs, e⟩ := r.own_in hi
      rw [e] at h; cases h
    · have := r.fr p o q (fun i e => hp ⟨i, e⟩)
      rw [this] at h; cases h
theorem Rel.gnone (r : Rel K F ς G σ H) {p : Addr} (h : H p = none) : G p = none := r.sub.free h
/-- a new object, a datum from now on -/
theorem Rel.lay (r : Rel K F ς G σ H) {p : Addr} {o : HO} (h : H p = none) : Rel K F ς (upd G p o) σ (upd H p o) where
  len := r.len
  sub := same_upd2 r.sub
  g0 := r.g0.trans (same_upd (r.gnone h))
  pu := fun i d e => by
    obtain ⟨v, e1, e2⟩ := r.pu i d e
    exact ⟨v, e1, dp_same (same_upd (r.gnone h)) e2⟩
  ow := fun i b ds e => by
    obtain ⟨a, vs, e1, e2, e3, e4, e5⟩ := r.ow i b ds e
    have ne := ne_of_none e2 h
    exact ⟨a, vs, e1, by rw [upd_ne ne]; exact e2, by rw [upd_ne ne]; exact e3, dpa_same (same_upd (r.gnone h)) e4, e5⟩
  ap := r.ap
  par := r.par
  fr := fun a o' e na => by
    have := r.fr a o' e na
    rw [upd_ne (ne_of_none this h)]; exact this
  nw := fun a e => by
    by_cases ha : a = p
    · subst ha; exact .inr (r.new h)
    · rw [upd_ne ha] at e; exact r.nw a e
/-- a new list, nobody's yet -/
theorem Rel.layF (r : Rel K F ς G σ H) {p : Addr} {o : HO} (h : H p = none) : Rel K F ς G σ (upd H p o) where
  len := r.len
  sub := r.sub.trans (same_upd h)
  g0 := r.g0
  pu := r.pu
  ow := fun i b ds e => by
    obtain ⟨a, vs, e1, e2, e3, e4, e5⟩ := r.ow i b ds e
    have ne := ne_of_none e2 h
    exact ⟨a, vs, e1, by rw [upd_ne ne]; exact e2, e3, e4, e5⟩
  ap := r.ap
  par := r.par
  fr := fun a o' e na => by
    have := r.fr a o' e na
    rw [upd_ne (ne_of_none this h)]; exact this
  nw := r.nw
theorem Rel.repF (r : Rel K F ς G σ H) {p : Addr} {vs : List V} {ds : List D} (h : H p = none) (hd : DpAll K G vs ds) : RepR K F ς G σ (upd H p (.lst vs)) (.fresh ds) (.ref p) :=
  ⟨p, vs, rfl, upd_same, r.gnone h, hd, r.new h, fun i b es e q => by
    obtain ⟨a, ws, e1, e2, _⟩ := r.ow i b es e
    rw [q] at e1; cases e1
    rw [e2] at h; cases h⟩
theorem Rel.layD (r : Rel K F ς G σ H) {p : Addr} {vs : List V} {ds : List D} (h : H p = none) (hd : DpAll K G vs ds) : Dp K (upd G p (.tup vs)) (.ref p) (.tuple ds) :=
  .tup (.inl (.inl upd_same)) (dpa_same (same_upd (r.gnone h)) hd)
/-- freezing a list that is nobody's -/
theorem Rel.frzF (r : Rel K F ς G σ H) {v : V} {ds : List D} (h : RepR K F ς G σ H (.fresh ds) v) : ∃ G', Rel K F ς G' σ H ∧ Same G G' ∧ Dp K G' v (.list ds) := by
  obtain ⟨a, vs, rfl, h1, h2, h3, h4, h5⟩ := h
  refine ⟨upd G a (.lst vs), ⟨r.len, ?_, r.g0.trans (same_upd h2), ?_, ?_, r.ap, r.par, r.fr, ?_⟩, same_upd h2, .lst (.inl (.inl upd_same)) (dpa_same (same_upd h2) h3)⟩
  · intro b x e
    by_cases hb : b = a
    · subst hb; rw [upd_same] at e; rw [h1, e]
    · rw [upd_ne hb] at e; exact r.sub _ _ e
  · intro i d e
    obtain ⟨v, e1, e2⟩ := r.pu i d e
    exact ⟨v, e1, dp_same (same_upd h2) e2⟩
  · intro i b es e
    obtain ⟨c, ws, e1, e2, e3, e4, e5⟩ := r.ow i b es e
    have ne : c ≠ a := fun z => by subst z; exact h5 i b es e e1
    exact ⟨c, ws, e1, e2, by rw [upd_ne ne]; exact e3, dpa_same (same_upd h2) e4, e5⟩
  · intro c e
    by_cases hc : c = a
    · subst hc; exact .inr h4
    · rw [upd_ne hc] at e; exact r.nw c e
theorem get_set {α : Type} {l : List α} {i j : Nat} {x y : α} (h : (l.set i x)[j]? = some y) : (i = j ∧ x = y) ∨ (i ≠ j ∧ l[j]? = some y) := by
  by_cases e : i = j
  · subst e
    by_cases hl : i < l.length
    · rw [List.getElem?_set_self hl] at h; exact .inl ⟨rfl, Option.some.inj h⟩
    · rw [List.getElem?_eq_none (by rw [List.length_set]; omega)] at h; cases h
  · rw [List.getElem?_set_ne e] at h; exact .inr ⟨e, h⟩
def free (ς : En) (i : Nat) : Bool := match ς[i]? with
  | some (some (.own true _)) => false
  | some _ => true
  | none => false
theorem free_lt {i : Nat} (h : free ς i = true) : i < ς.length := by
  unfold free at h
  by_cases hl : i < ς.length
  · exact hl
  · rw [List.getElem?_eq_none (by omega)] at h; cases h
theorem free_no {i : Nat} {ds : List D} (h : free ς i = true) : ς[i]? ≠ some (some (.own true ds)) := fun e => by
  unfold free at h; rw [e] at h; cases h
/-- a slot takes a datum -/
theorem Rel.setP (r : Rel K F ς G σ H) {i : Nat} {v : V} {d : D} (hf : free ς i = true) (h : Dp K G v d) : Rel K F (ς.set i (some (.pure d))) G (σ.set i (some v)) H where
  len := by rw [List.length_set, List.length_set, r.len]
  sub := r.sub
  g0 := r.g0
  pu := fun j e q => by
    have hl : i < σ.length := by rw [r.len]; exact free_lt hf
    replace q := get_set q; rcases q with ⟨rfl, q⟩ | ⟨n, q⟩
    · cases q; exact ⟨v, List.getElem?_set_self hl, h⟩
    · rw [List.getElem?_set_ne n]; exact r.pu j e q
  ow := fun j b ds q => by
    replace q := get_set q; rcases q with ⟨rfl, q⟩ | ⟨n, q⟩
    · cases q
    · rw [List.getElem?_set_ne n]; exact r.ow j b ds q
  ap := fun j k b c ds es a q1 q2 q3 q4 => by
    replace q1 := get_set q1; rcases q1 with ⟨rfl, q1⟩ | ⟨n, q1⟩
    · cases q1
    replace q2 := get_set q2; rcases q2 with ⟨rfl, q2⟩ | ⟨m, q2⟩
    · cases q2
    rw [List.getElem?_set_ne n] at q3
    rw [List.getElem?_set_ne m] at q4
    exact r.ap j k b c ds es a q1 q2 q3 q4
  par := fun j a q => by
    obtain ⟨ds, e⟩ := r.par j a q
    have n : i ≠ j := fun z => by subst z; exact free_no hf e
    exact ⟨ds, by rw [List.getElem?_set_ne n]; exact e⟩
  fr := r.fr
  nw := r.nw
/-- a slot takes a new list as its own -/
theorem Rel.setO (r : Rel K F ς G σ H) {i : Nat} {v : V} {ds : List D} (hf : free ς i = true) (h : RepR K F ς G σ H (.fresh ds) v) : Rel K F (ς.set i (some (.own false ds))) G (σ.set i (some v)) H := by
  obtain ⟨a, vs, rfl, h1, h2, h3, h4, h5⟩ := h
  have hl : i < σ.length := by rw [r.len]; exact free_lt hf
  refine ⟨by rw [List.length_set, List.length_set, r.len], r.sub, r.g0, ?_, ?_, ?_, ?_, r.fr, r.nw⟩
  · intro j e q
    replace q := get_set q; rcases q with ⟨rfl, q⟩ | ⟨n, q⟩
    · cases q
    · rw [List.getElem?_set_ne n]; exact r.pu j e q
  · intro j b es q
    replace q := get_set q; rcases q with ⟨rfl, q⟩ | ⟨n, q⟩
    · cases q
      exact ⟨a, vs, List.getElem?_set_self hl, h1, h2, h3, (fun z => by cases z), fun _ => h4⟩
    · rw [List.getElem?_set_ne n]; exact r.ow j b es q
  · intro j k b c es fs a' q1 q2 q3 q4
    replace q1 := get_set q1; rcases q1 with ⟨rfl, q1⟩ | ⟨n, q1⟩
    · replace q2 := get_set q2; rcases q2 with ⟨rfl, q2⟩ | ⟨m, q2⟩
      · rfl
      · rw [List.getElem?_set_self hl] at q3; cases q3
        rw [List.getElem?_set_ne m] at q4
        exact absurd q4 (h5 k c fs q2)
    · replace q2 := get_set q2; rcases q2 with ⟨rfl, q2⟩ | ⟨m, q2⟩
      · rw [List.getElem?_set_self hl] at q4; cases q4
        rw [List.getElem?_set_ne n] at q3
        exact absurd q3 (h5 j b es q1)
      · rw [List.getElem?_set_ne n] at q3
        rw [List.getElem?_set_ne m] at q4
        exact r.ap j k b c es fs a' q1 q2 q3 q4
  · intro j a' q
    obtain ⟨es, e⟩ := r.par j a' q
    have n : i ≠ j := fun z => by subst z; exact free_no hf e
    exact ⟨es, by rw [List.getElem?_set_ne n]; exact e⟩
/-- a slot is forgotten -/
theorem Rel.setN (r : Rel K F ς G σ H) {i : Nat} {o : Option V} (hf : free ς i = true) : Rel K F (ς.set i none) G (σ.set i o) H where
  len := by rw [List.length_set, List.length_set, r.len]
  sub := r.sub
  g0 := r.g0
  pu := fun j e q => by
    replace q := get_set q; rcases q with ⟨rfl, q⟩ | ⟨n, q⟩
    · cases q
    · rw [List.getElem?_set_ne n]; exact r.pu j e q
  ow := fun j b ds q => by
    replace q := get_set q; rcases q with ⟨rfl, q⟩ | ⟨n, q⟩
    · cases q
    · rw [List.getElem?_set_ne n]; exact r.ow j b ds q
  ap := fun j k b c ds es a q1 q2 q3 q4 => by
    replace q1 := get_set q1; rcases q1 with ⟨rfl, q1⟩ | ⟨n, q1⟩
    · cases q1
    replace q2 := get_set q2; rcases q2 with ⟨rfl, q2⟩ | ⟨m, q2⟩
    · cases q2
    rw [List.getElem?_set_ne n] at q3
    rw [List.getElem?_set_ne m] at q4
    exact r.ap j k b c ds es a q1 q2 q3 q4
  par := fun j a q => by
    obtain ⟨ds, e⟩ := r.par j a q
    have n : i ≠ j := fun z => by subst z; exact free_no hf e
    exact ⟨ds, by rw [List.getElem?_set_ne n]; exact e⟩
  fr := r.fr
  nw := r.nw
/-- an own list is changed -/
theorem Rel.mut (r : Rel K F ς G σ H) {i : Nat} {b : Bool} {ds : List D} {a : Addr} {ws : List V} {es : List D} (hi : ς[i]? = some (some (.own b ds))) (ha : σ[i]? = some (some (.ref a))) (h : DpAll K G ws es) :
    Rel K F (ς.set i (some (.own b es))) G σ (upd H a (.lst ws)) := by
  obtain ⟨a', vs, e1, e2, e3, e4, e5, e6⟩ := r.ow i b ds hi
  rw [ha] at e1; cases e1
  have il : i < ς.length := (List.getElem?_eq_some_iff.mp hi).1
  refine ⟨by rw [List.length_set, r.len], ?_, r.g0, ?_, ?_, ?_, ?_, ?_, r.nw⟩
  · intro c o q
    have : c ≠ a := ne_of_none q e3
    rw [upd_ne this]; exact r.sub _ _ q
  · intro j d q
    replace q := get_set q; rcases q with ⟨rfl, q⟩ | ⟨n, q⟩
    · cases q
    · exact r.pu j d q
  · intro j c fs q
    replace q := get_set q; rcases q with ⟨rfl, q⟩ | ⟨n, q⟩
    · cases q
      exact ⟨a, ws, ha, upd_same, e3, h, e5, e6⟩
    · obtain ⟨x, xs, f1, f2, f3, f4, f5⟩ := r.ow j c fs q
      have ne : x ≠ a := fun z => by subst z; exact n (r.ap i j b c ds fs x hi q ha f1)
      exact ⟨x, xs, f1, by rw [upd_ne ne]; exact f2, f3, f4, f5⟩
  · intro j k c d fs gs x q1 q2 q3 q4
    replace q1 := get_set q1; rcases q1 with ⟨rfl, q1⟩ | ⟨n, q1⟩
    · replace q2 := get_set q2; rcases q2 with ⟨rfl, q2⟩ | ⟨m, q2⟩
      · rfl
      · exact r.ap i k b d ds gs x hi q2 q3 q4
    · replace q2 := get_set q2; rcases q2 with ⟨rfl, q2⟩ | ⟨m, q2⟩
      · exact r.ap j i c b fs ds x q1 hi q3 q4
      · exact r.ap j k c d fs gs x q1 q2 q3 q4
  · intro j x q
    by_cases e : i = j
    · subst e
      obtain ⟨fs, q2⟩ := r.par i x q
      rw [hi] at q2
      cases q2
      exact ⟨es, List.getElem?_set_self il⟩
    · rw [List.getElem?_set_ne e]; exact r.par j x q
  · intro x o q na
    have hx := r.fr x o q na
    have ne : x ≠ a := fun z => by
      subst z
      cases b with
      | true => exact na i (e5 rfl)
      | false => rw [e6 rfl] at q; cases q
    rw [upd_ne ne]; exact hx
/-- an own list becomes a datum -/
theorem Rel.frzO (r : Rel K F ς G σ H) {i : Nat} {ds : List D} (hi : ς[i]? = some (some (.own false ds))) :
    ∃ G' v, Rel K F (ς.set i (some (.pure (.list ds)))) G' σ H ∧ Same G G' ∧ σ[i]? = some (some v) ∧ Dp K G' v (.list ds) := by
  obtain ⟨a, vs, e1, e2, e3, e4, e5, e6⟩ := r.ow i false ds hi
  have hdp : Dp K (upd G a (.lst vs)) (.ref a) (.list ds) := .lst (.inl (.inl upd_same)) (dpa_same (same_upd e3) e4)
  refine ⟨upd G a (.lst vs), .ref a, ⟨by rw [List.length_set, r.len], ?_, r.g0.trans (same_upd e3), ?_, ?_, ?_, ?_, r.fr, ?_⟩, same_upd e3, e1, hdp⟩
  · intro b x e
    by_cases hb : b = a
    · subst hb; rw [upd_same] at e; rw [e2, e]
    · rw [upd_ne hb] at e; exact r.sub _ _ e
  · intro j d q
    replace q := get_set q; rcases q with ⟨rfl, q⟩ | ⟨n, q⟩
    · cases q; exact ⟨_, e1, hdp⟩
    · obtain ⟨v, f1, f2⟩ := r.pu j d q
      exact ⟨v, f1, dp_same (same_upd e3) f2⟩
  · intro j c fs q
    replace q := get_set q; rcases q with ⟨rfl, q⟩ | ⟨n, q⟩
    · cases q
    · obtain ⟨x, xs, f1, f2, f3, f4, f5⟩ := r.ow j c fs q
      have ne : x ≠ a := fun z => by subst z; exact n (r.ap i j false c ds fs x hi q e1 f1)
      exact ⟨x, xs, f1, f2, by rw [upd_ne ne]; exact f3, dpa_same (same_upd e3) f4, f5⟩
  · intro j k c d fs gs x q1 q2 q3 q4
    replace q1 := get_set q1; rcases q1 with ⟨rfl, q1⟩ | ⟨n, q1⟩
    · cases q1
    · replace q2 := get_set q2; rcases q2 with ⟨rfl, q2⟩ | ⟨m, q2⟩
      · cases q2
      · exact r.ap j k c d fs gs x q1 q2 q3 q4
  · intro j x q
    obtain ⟨fs, q2⟩ := r.par j x q
    have n : i ≠ j := fun z => by subst z; rw [hi] at q2; cases q2
    exact ⟨fs, by rw [List.getElem?_set_ne n]; exact q2⟩
  · intro c e
    by_cases hc : c = a
    · subst hc; exact .inr (e6 rfl)
    · rw [upd_ne hc] at e; exact r.nw c e
end
/-! ### readings -/
def toD : R → M D
  | .pure d => fun ς => some (d, ς)
  | .fresh ds => fun ς => some (.list ds, ς)
  | .ref i => fun ς => match ς[i]? with
    | some (some (.own false ds)) => some (.list ds, ς.set i (some (.pure (.list ds))))
    | some (some (.pure d)) => some (d, ς)
    | _ => none
def rdD : R → En → Option D
  | .pure d, _ => some d
  | .fresh ds, _ => some (.list ds)
  | .ref i, ς => match ς[i]? with
    | some (some (.own _ ds)) => some (.list ds)
    | some (some (.pure d)) => some d
    | _ => none
/-- what may be read at v: a datum, or a list whose items are data -/
def RdV (K : PySem.W.Frag) (G H : Hp) (v : V) (d : D) : Prop :=
  Dp K G v d ∨ ∃ a vs ds, v = .ref a ∧ d = .list ds ∧ H a = some (.lst vs) ∧ DpAll K G vs ds
section
variable {K : PySem.W.Frag} {F : Fx} {ς ς' : En} {G H : Hp} {σ : L2.St}
theorem toD_ok (r : Rel K F ς G σ H) {x : R} {v : V} {d : D} (h : RepR K F ς G σ H x v) (e : toD x ς = some (d, ς')) : ∃ G', Rel K F ς' G' σ H ∧ Same G G' ∧ Dp K G' v d := by
  cases x with
  | pure d' => cases e; exact ⟨G, r, Same.refl _, h⟩
  | fresh ds => cases e; exact r.frzF h
  | ref i =>
    unfold toD at e
    simp only at e
    split at e
    · rename_i ds q
      cases e
      obtain ⟨G', w, h1, h2, h3, h4⟩ := r.frzO q
      rw [show σ[i]? = some (some v) from h] at h3
      cases h3
      exact ⟨G', h1, h2, h4⟩
    · rename_i d' q
      cases e
      obtain ⟨w, h1, h2⟩ := r.pu i _ q
      rw [show σ[i]? = some (some v) from h] at h1
      cases h1
      exact ⟨G, r, Same.refl _, h2⟩
    · cases e
theorem rdD_ok (r : Rel K F ς G σ H) {x : R} {v : V} {d : D} (h : RepR K F ς G σ H x v) (e : rdD x ς = some d) : RdV K G H v d := by
  cases x with
  | pure d' => cases e; exact .inl h
  | fresh ds =>
    cases e
    obtain ⟨a, vs, rfl, h1, h2, h3, _⟩ := h
    exact .inr ⟨a, vs, ds, rfl, rfl, h1, h3⟩
  | ref i =>
    unfold rdD at e
    simp only at e
    split at e
    · rename_i b ds q
      cases e
      obtain ⟨a, vs, e1, e2, e3, e4, _⟩ := r.ow i _ _ q
      rw [show σ[i]? = some (some v) from h] at e1
      cases e1
      exact .inr ⟨a, vs, ds, rfl, rfl, e2, e4⟩
    · rename_i d' q
      cases e
      obtain ⟨w, h1, h2⟩ := r.pu i _ q
      rw [show σ[i]? = some (some v) from h] at h1
      cases h1
      exact .inl h2
    · cases e
theorem RdV.dp (r : Same G H) {v : V} {d : D} (h : RdV K G H v d) : Dp K H v d := by
  rcases h with h | ⟨a, vs, ds, rfl, rfl, h1, h2⟩
  · exact dp_same r h
  · exact .lst (.inl (.inl h1)) (dpa_same r h2)
theorem RdV.list (r : Same G H) {v : V} {ds : List D} (h : RdV K G H v (.list ds)) : ∃ a vs, v = .ref a ∧ SqL K H a vs ∧ DpAll K G vs ds := by
  rcases h with h | ⟨a, vs, ds', rfl, e, h1, h2⟩
  · obtain ⟨a, vs, rfl, h1, h2⟩ := dp_list h
    exact ⟨a, vs, rfl, r.seq h1, h2⟩
  · cases e; exact ⟨a, vs, rfl, .inl (.inl h1), h2⟩
theorem RdV.tuple (r : Same G H) {v : V} {ds : List D} (h : RdV K G H v (.tuple ds)) : ∃ a vs, v = .ref a ∧ SqT K H a vs ∧ DpAll K G vs ds := by
  rcases h with h | ⟨a, vs, ds', rfl, e, h1, h2⟩
  · obtain ⟨a, vs, rfl, h1, h2⟩ := dp_tuple h
    exact ⟨a, vs, rfl, same_seqT r h1, h2⟩
  · cases e
theorem RdV.int {v : V} {i : Int} (h : RdV K G H v (.int i)) : v = .int i := by
  rcases h with h | ⟨a, vs, ds', rfl, e, h1, h2⟩
  · exact dp_int h
  · cases e
theorem RdV.str {v : V} {i : Str} (h : RdV K G H v (.str i)) : v = .str i := by
  rcases h with h | ⟨a, vs, ds', rfl, e, h1, h2⟩
  · exact dp_str h
  · cases e
theorem RdV.bool {v : V} {i : Bool} (h : RdV K G H v (.bool i)) : v = .bl i := by
  rcases h with h | ⟨a, vs, ds', rfl, e, h1, h2⟩
  · exact dp_bool h
  · cases e
theorem RdV.none {v : V} (h : RdV K G H v .none) : v = .non := by
  rcases h with h | ⟨a, vs, ds', rfl, e, h1, h2⟩
  · exact dp_none h
  · cases e
/-- what stays readable while data grow: a datum, or a slot -/
theorem rep_keep {G' H' : Hp} {x : R} {v : V} (h : RepR K F ς G σ H x v) (hx : ∀ ds, x ≠ .fresh ds) (e : Same G G') : RepR K F ς' G' σ H' x v := by
  cases x with
  | pure d => exact dp_same e h
  | ref i => exact h
  | fresh ds => exact absurd rfl (hx ds)
end
end Lw
namespace Lw
open PySem PySem.Spec PyProof.Rows L2
/-! ### programs over the state -/
def ret {α : Type} (a : α) : M α := fun ς => some (a, ς)
def bd {α β : Type} (f : M α) (g : α → M β) : M β := fun ς => match f ς with
  | some (a, ς') => g a ς'
  | none => none
def lift {α : Type} (o : Option α) : M α := fun ς => match o with
  | some a => some (a, ς)
  | none => none
def rd (r : R) : M D := fun ς => match rdD r ς with
  | some d => some (d, ς)
  | none => none
def sub (f : M R) : M R := bd f fun r => match r with
  | .fresh ds => ret (.pure (.list ds))
  | r => ret r
def esc (f : M R) : M D := bd f toD
theorem bd_some {α β : Type} {f : M α} {g : α → M β} {ς : En} {x : β × En} (h : bd f g ς = some x) : ∃ a ς1, f ς = some (a, ς1) ∧ g a ς1 = some x := by
  unfold bd at h
  split at h
  · rename_i a ς1 e; exact ⟨a, ς1, e, h⟩
  · cases h
theorem lift_some {α : Type} {o : Option α} {ς ς' : En} {x : α} (h : lift o ς = some (x, ς')) : o = some x ∧ ς' = ς := by
  unfold lift at h
  split at h
  · cases h; exact ⟨rfl, rfl⟩
  · cases h
theorem rd_some {r : R} {ς ς' : En} {x : D} (h : rd r ς = some (x, ς')) : rdD r ς = some x ∧ ς' = ς := by
  unfold rd at h
  split at h
  · rename_i d e; cases h; exact ⟨e, rfl⟩
  · cases h
theorem sub_nf {f : M R} {ς ς' : En} {r : R} (h : sub f ς = some (r, ς')) : ∀ ds, r ≠ .fresh ds := by
  obtain ⟨a, ς1, _, h⟩ := bd_some h
  intro ds e
  subst e
  cases a <;> cases h
/-! ### readings by such programs -/
section
variable (K : PySem.W.Frag) (F : Fx)
def tEv (f : M R) : TE := fun σ H Q => ∃ ς G, Rel K F ς G σ H ∧ ∃ r ς', f ς = some (r, ς') ∧ ∀ v H' G', Rel K F ς' G' σ H' → Same G G' → RepR K F ς' G' σ H' r v → Q v H'
def tEvD (f : M D) : TE := fun σ H Q => ∃ ς G, Rel K F ς G σ H ∧ ∃ d ς', f ς = some (d, ς') ∧ ∀ v H' G', Rel K F ς' G' σ H' → Same G G' → Dp K G' v d → Q v H'
def tEvT (f : M Bool) : TT := fun σ H Q => ∃ ς G, Rel K F ς G σ H ∧ ∃ b ς', f ς = some (b, ς') ∧ ∀ H' G', Rel K F ς' G' σ H' → Same G G' → Q b H'
inductive Ar where
  | val (d : D)
  | ref (i : Nat)
def RepAr (G : Hp) (σ : L2.St) : Ar → V → Prop
  | .val d, v => Dp K G v d
  | .ref i, v => σ[i]? = some (some v)
def tEvA (f : M (List Ar)) : TA := fun σ H Q => ∃ ς G, Rel K F ς G σ H ∧ ∃ as ς', f ς = some (as, ς') ∧ ∀ vs H' G', Rel K F ς' G' σ H' → Same G G' → Paired (RepAr K G' σ) as vs → Q vs H'
end
theorem _root_.L2.PE.mono {X : Cx} {e : Expr} {t t' : TE} (h : PE X e t) (k : ∀ σ H Q, t' σ H Q → t σ H Q) : PE X e t' := ⟨fun pins s σ H Q I hw => h.run pins s σ H Q I (k σ H Q hw)⟩
theorem _root_.L2.PT.mono {X : Cx} {e : Expr} {t t' : TT} (h : PT X e t) (k : ∀ σ H Q, t' σ H Q → t σ H Q) : PT X e t' := ⟨fun pins s σ H Q I hw => h.run pins s σ H Q I (k σ H Q hw)⟩
theorem _root_.L2.PW.mono {X : Cx} {e : Expr} {t t' : TT} (h : PW X e t) (k : ∀ σ H Q, t' σ H Q → t σ H Q) : PW X e t' := ⟨fun w pins s σ H Q I hw => h.run w pins s σ H Q I (k σ H Q hw)⟩
theorem _root_.L2.PA.mono {X : Cx} {e : List Expr} {t t' : TA} (h : PA X e t) (k : ∀ σ H Q, t' σ H Q → t σ H Q) : PA X e t' := ⟨fun p pins s σ H Q I hw => h.run p pins s σ H Q I (k σ H Q hw)⟩
theorem _root_.L2.PS.mono {X : Cx} {e : Stmt} {t t' : TS} (h : PS X e t) (k : ∀ D σ H, t' D σ H → t D σ H) : PS X e t' := ⟨fun pins s σ H D I hw => h.run pins s σ H D I (k D σ H hw)⟩
theorem _root_.L2.PSs.mono {X : Cx} {e : List Stmt} {t t' : TS} (h : PSs X e t) (k : ∀ D σ H, t' D σ H → t D σ H) : PSs X e t' := ⟨fun pins s σ H D I hw => h.run pins s σ H D I (k D σ H hw)⟩
abbrev PEd (X : Cx) (e : Expr) (f : M R) : Prop := ∀ F : Fx, PE X e (tEv X.K F f)
abbrev PDd (X : Cx) (e : Expr) (f : M D) : Prop := ∀ F : Fx, PE X e (tEvD X.K F f)
abbrev PTd (X : Cx) (e : Expr) (f : M Bool) : Prop := ∀ F : Fx, PT X e (tEvT X.K F f)
abbrev PWd (X : Cx) (e : Expr) (f : M Bool) : Prop := ∀ F : Fx, PW X e (tEvT X.K F f)
abbrev PAd (X : Cx) (es : List Expr) (f : M (List Ar)) : Prop := ∀ F : Fx, PA X es (tEvA X.K F f)
section
variable {X : Cx} {F : Fx} {a b c e : Expr} {es : List Expr} {fa fb fc f : M R} {pos : Pos}
def vr (i : Nat) : M R := fun ς => match ς[i]? with
  | some (some (.pure d)) => some (.pure d, ς)
  | some (some (.own _ _)) => some (.ref i, ς)
  | _ => none
theorem d_var (i : Nat) {x : Str} (h : PE X (.Name x pos) (tVar i)) : PEd X (.Name x pos) (vr i) := fun F => h.mono fun σ H Q hq => by
  obtain ⟨ς, G, rl, r, ς', e, k⟩ := hq
  unfold vr at e
  split at e
  · rename_i d q
    cases e
    obtain ⟨v, h1, h2⟩ := rl.pu i d q
    exact ⟨v, h1, k v H G rl (Same.refl _) h2⟩
  · rename_i b ds q
    cases e
    obtain ⟨a, vs, h1, _⟩ := rl.ow i b ds q
    exact ⟨_, h1, k _ H G rl (Same.refl _) h1⟩
  · cases e
def cn (d : D) : M R := ret (.pure d)
theorem d_cn {v : V} {d : D} (h : PE X e (tC v)) (hd : ∀ G, Dp X.K G v d) : PEd X e (cn d) := fun F => h.mono fun σ H Q hq => by
  obtain ⟨ς, G, rl, r, ς', e, k⟩ := hq
  cases e
  exact k v H G rl (Same.refl _) (hd G)
theorem d_int {i : Int} {j : Nat} : PEd X (.Constant (.int i) j pos) (cn (.int i)) := d_cn pe_int fun _ => .int i
theorem d_str {x : Str} {j : Nat} : PEd X (.Constant (.str x) j pos) (cn (.str x)) := d_cn pe_str fun _ => .str x
theorem d_bl {x : Bool} {j : Nat} : PEd X (.Constant (.bool x) j pos) (cn (.bool x)) := d_cn pe_bl fun _ => .bl x
theorem d_non {j : Nat} : PEd X (.Constant .none j pos) (cn .none) := d_cn pe_non fun _ => .non
theorem d_gstr {x : Str} {z : Str} (h : PE X (.Name x pos) (tC (.str z))) : PEd X (.Name x pos) (cn (.str z)) := d_cn h fun _ => .str z
theorem d_sub (h : PEd X e f) : PEd X e (sub f) := fun F => (h F).mono fun σ H Q hq => by
  obtain ⟨ς, G, rl, r, ς', e, k⟩ := hq
  obtain ⟨r1, ς1, e1, e2⟩ := bd_some e
  refine ⟨ς, G, rl, r1, ς1, e1, fun v H' G' rl' s rep => ?_⟩
  cases r1 with
  | pure d => cases e2; exact k v H' G' rl' s rep
  | ref i => cases e2; exact k v H' G' rl' s rep
  | fresh ds =>
    cases e2
    obtain ⟨G2, rl2, s2, dp⟩ := rl'.frzF rep
    exact k v H' G2 rl2 (s.trans s2) dp
theorem d_esc (h : PEd X e f) : PDd X e (esc f) := fun F => (h F).mono fun σ H Q hq => by
  obtain ⟨ς, G, rl, d, ς', e, k⟩ := hq
  obtain ⟨r1, ς1, e1, e2⟩ := bd_some e
  refine ⟨ς, G, rl, r1, ς1, e1, fun v H' G' rl' s rep => ?_⟩
  obtain ⟨G2, rl2, s2, dp⟩ := toD_ok rl' rep e2
  exact k v H' G2 rl2 (s.trans s2) dp
/-! ### operators on data -/
structure Op2 (X : Cx) (F : Fx) (r2 : R2) (g : D → D → Option R) : Prop where
  run : ∀ (ς : En) (G : Hp) (σ : L2.St) (H : Hp) (x y : V) (dx dy : D) (r : R) (Q : VK), Rel X.K F ς G σ H → RdV X.K G H x dx → RdV X.K G H y dy → g dx dy = some r →
    (∀ v H' G', Rel X.K F ς G' σ H' → Same G G' → RepR X.K F ς G' σ H' r v → Q v H') → r2 x y H Q
def op2 (g : D → D → Option R) (fa fb : M R) : M R := bd (sub fa) fun a => bd (sub fb) fun b => bd (rd a) fun x => bd (rd b) fun y => lift (g x y)
theorem t_op2 {r2 : R2} {g : D → D → Option R} (o : Op2 X F r2 g) : ∀ σ H Q, tEv X.K F (op2 g fa fb) σ H Q → tOp r2 (tEv X.K F (sub fa)) (tEv X.K F (sub fb)) σ H Q := fun σ H Q hq => by
  obtain ⟨ς, G, rl, r, ς', e, k⟩ := hq
  obtain ⟨a, ς1, e1, q1⟩ := bd_some e
  obtain ⟨b, ς2, e2, q2⟩ := bd_some q1
  obtain ⟨x, ς3, e3', q3⟩ := bd_some q2
  obtain ⟨e3, rfl⟩ := rd_some e3'
  obtain ⟨y, ς4, e4', q4⟩ := bd_some q3
  obtain ⟨e4, rfl⟩ := rd_some e4'
  obtain ⟨e5, rfl⟩ := lift_some q4
  refine ⟨ς, G, rl, a, ς1, e1, fun v H1 G1 rl1 s1 rep1 => ⟨ς1, G1, rl1, b, ς', e2, fun w H2 G2 rl2 s2 rep2 => ?_⟩⟩
  have rep1' : RepR X.K F ς' G2 σ H2 a v := rep_keep rep1 (sub_nf e1) s2
  exact o.run ς' G2 σ H2 v w x y r Q rl2 (rdD_ok rl2 rep1' e3) (rdD_ok rl2 rep2 e4) e5 fun u H' G' rl' s rep => k u H' G' rl' (s1.trans (s2.trans s)) rep
theorem d_op {op : Operator} {r2 : R2} {g : D → D → Option R} (ho : OpR X (binaryOp op) r2) (o : ∀ F, Op2 X F r2 g) (ha : PEd X a fa) (hb : PEd X b fb) : PEd X (.BinOp a op b pos) (op2 g fa fb) :=
  fun F => PE.mono (pe_op ho (d_sub ha F) (d_sub hb F)) (t_op2 (o F))
theorem d_cmp {op : CmpOp} {r2 : R2} {g : D → D → Option R} (ho : OpR X (compareOp op) r2) (o : ∀ F, Op2 X F r2 g) (ha : PEd X a fa) (hb : PEd X b fb) (hm : behindInMarks op b = false) : PEd X (.Compare a [op] [b] pos) (op2 g fa fb) :=
  fun F => PE.mono (pe_cmpR ho (d_sub ha F) (d_sub hb F) hm) (t_op2 (o F))
/-- ints -/
def gI (C : Int → Int → Bool) (h : Int → Int → D) : D → D → Option R
  | .int i, .int j => if C i j then some (.pure (h i j)) else none
  | _, _ => none
def gI0 (h : Int → Int → D) : D → D → Option R
  | .int i, .int j => some (.pure (h i j))
  | _, _ => none
theorem op2_I {C : Int → Int → Prop} {c : Int → Int → Bool} {g : Int → Int → V} {h : Int → Int → D} (hc : ∀ i j, c i j = true → C i j) (hg : ∀ i j G, Dp X.K G (g i j) (h i j)) : Op2 X F (rI C g) (gI c h) := ⟨fun ς G σ H x y dx dy r Q rl hx hy e k => by
  cases dx with
  | int i =>
    cases dy with
    | int j =>
      replace e : (if c i j = true then some (R.pure (h i j)) else none) = some r := e
      by_cases q : c i j = true
      · rw [if_pos q] at e
        cases e
        exact ⟨i, j, hx.int, hy.int, hc i j q, k _ H G rl (Same.refl _) (hg i j G)⟩
      · rw [if_neg q] at e; cases e
    | _ => cases e
  | _ => cases e⟩
theorem op2_I0 {g : Int → Int → V} {h : Int → Int → D} (hg : ∀ i j G, Dp X.K G (g i j) (h i j)) : Op2 X F (rI0 g) (gI0 h) := ⟨fun ς G σ H x y dx dy r Q rl hx hy e k => by
  cases dx with
  | int i =>
    cases dy with
    | int j =>
      cases e
      exact ⟨i, j, hx.int, hy.int, k _ H G rl (Same.refl _) (hg i j G)⟩
    | _ => cases e
  | _ => cases e⟩
def orG (g g' : D → D → Option R) (x y : D) : Option R := match g x y with
  | some z => some z
  | none => g' x y
theorem Op2.or {r r' : R2} {g g' : D → D → Option R} (h : Op2 X F r g) (h' : Op2 X F r' g') : Op2 X F (fun x y H Q => r x y H Q ∨ r' x y H Q) (orG g g') := ⟨fun ς G σ H x y dx dy r Q rl hx hy e k => by
  unfold orG at e
  split at e
  · rename_i z q
    cases e
    exact .inl (h.run ς G σ H x y dx dy _ Q rl hx hy q k)
  · exact .inr (h'.run ς G σ H x y dx dy _ Q rl hx hy e k)⟩
theorem op2_sub : Op2 X F (rI0 fun i j => .int (i - j)) (gI0 fun i j => .int (i - j)) := op2_I0 fun _ _ _ => .int _
theorem op2_lt : Op2 X F (rI0 fun i j => .bl (decide (i < j))) (gI0 fun i j => .bool (decide (i < j))) := op2_I0 fun _ _ _ => .bl _
theorem op2_le : Op2 X F (rI0 fun i j => .bl (decide (i ≤ j))) (gI0 fun i j => .bool (decide (i ≤ j))) := op2_I0 fun _ _ _ => .bl _
theorem op2_gt : Op2 X F (rI0 fun i j => .bl (decide (j < i))) (gI0 fun i j => .bool (decide (j < i))) := op2_I0 fun _ _ _ => .bl _
theorem op2_ge : Op2 X F (rI0 fun i j => .bl (decide (j ≤ i))) (gI0 fun i j => .bool (decide (j ≤ i))) := op2_I0 fun _ _ _ => .bl _
def cMul (i j : Int) : Bool := (decide (-(2 ^ 64) < i) && decide (i < 2 ^ 64)) || (decide (-(2 ^ 64) < j) && decide (j < 2 ^ 64))
theorem op2_mulI : Op2 X F (rI CMul fun i j => .int (i * j)) (gI cMul fun i j => .int (i * j)) := op2_I (fun i j h => by
  unfold cMul at h
  simp only [Bool.or_eq_true, Bool.and_eq_true, decide_eq_true_eq] at h
  exact h) fun _ _ _ => .int _
def cDiv (_ j : Int) : Bool := decide (0 < j) && decide (j < 2 ^ 200)
theorem op2_fdiv : Op2 X F (rI CDivW fun i j => .int (i / j)) (gI cDiv fun i j => .int (i / j)) := op2_I (fun i j h => by
  unfold cDiv at h
  simp only [Bool.and_eq_true, decide_eq_true_eq] at h
  refine wide_div (b := 200) h.1 ?_ (by decide) (by decide)
  have h2 : j.toNat < 2 ^ 200 := by
    have := Int.toNat_lt (n := 2 ^ 200) (by omega : 0 ≤ j)
    rw [this]
    exact_mod_cast h.2
  omega) fun _ _ _ => .int _
theorem op2_mod : Op2 X F (rI (fun _ j => 0 < j) fun i j => .int (i % j)) (gI (fun _ j => decide (0 < j)) fun i j => .int (i % j)) := op2_I (fun i j h => of_decide_eq_true h) fun _ _ _ => .int _
def cPow (i j : Int) : Bool := decide (0 ≤ j) && decide (j ≤ 1000000) && decide (i.natAbs < 2 ^ 64)
theorem op2_pow : Op2 X F (rI CPow fun i j => .int (i ^ j.toNat)) (gI cPow fun i j => .int (i ^ j.toNat)) := op2_I (fun i j h => by
  unfold cPow at h
  simp only [Bool.and_eq_true, decide_eq_true_eq] at h
  exact ⟨h.1.1, h.1.2, h.2⟩) fun _ _ _ => .int _
end
end Lw
namespace Lw
open PySem PySem.Spec PyProof.Rows L2
section
variable {X : Cx} {F : Fx} {a b c e : Expr} {es : List Expr} {fa fb fc f : M R} {pos : Pos}
/-! ### + on texts, lists, tuples -/
def rCatL (K : PySem.W.Frag) : R2 := fun x y H Q => ∃ l b xs zs, x = .ref l ∧ y = .ref b ∧ SqL K H l xs ∧ SqL K H b zs ∧ xs.length + zs.length ≤ sizeLine ∧ ∀ p, H p = none → Q (.ref p) (upd H p (.lst (xs ++ zs)))
theorem op_catL : OpR X (binaryOp .Add) (rCatL X.K) := by
  intro pins s σ H x y v u Q I rx ry h
  obtain ⟨l, b, xs, zs, rfl, rfl, hH, hB, hz, q⟩ := h
  cases rx
  cases ry
  obtain ⟨its, r, pl, _⟩ := I.list hH
  obtain ⟨its2, r2, pl2, _⟩ := I.list hB
  obtain ⟨⟨cls, dd, data, sl⟩, ho, hc, n, hd⟩ := pl.isList
  obtain ⟨⟨cls2, dd2, data2, sl2⟩, ho2, hc2, n2, hd2⟩ := pl2.isList
  simp only at hc hd hc2 hd2
  subst hc hd hc2 hd2
  have e : its.toArray ++ its2.toArray = (its ++ its2).toArray := by simp
  have hl := r.length
  have hl2 := r2.length
  refine concat_meets ⟨_, ho, rfl⟩ ⟨_, ho2, rfl⟩ noFill_list_add seq_list_add PySem.F.slot_list_add PySem.F.entry_list_add (PySem.F.args_list_add_2 _ _) (list_addW l b its.toArray its2.toArray n n2 dd dd2 sl sl2 (by rw [List.size_toArray, List.size_toArray]; omega)) ⟨ho, ho2, ?_⟩
  rw [e]
  exact ⟨.ref _, _, I.lnew (t' := s.toks) (r.append r2) (by rw [List.length_append]; omega), rfl, q _ I.fresh⟩
def gStr : D → D → Option R
  | .str x, .str y => if x.length + y.length ≤ sizeLine then some (.pure (.str (x ++ y))) else none
  | _, _ => none
theorem op2_str : Op2 X F (fun x y H Q => ∃ i j, x = .str i ∧ y = .str j ∧ i.length + j.length ≤ sizeLine ∧ Q (.str (i ++ j)) H) gStr := ⟨fun ς G σ H x y dx dy r Q rl hx hy e k => by
  cases dx with
  | str i =>
    cases dy with
    | str j =>
      replace e : (if i.length + j.length ≤ sizeLine then some (R.pure (.str (i ++ j))) else none) = some r := e
      by_cases q : i.length + j.length ≤ sizeLine
      · rw [if_pos q] at e
        cases e
        exact ⟨i, j, hx.str, hy.str, q, k _ H G rl (Same.refl _) (.str _)⟩
      · rw [if_neg q] at e; cases e
    | _ => cases e
  | _ => cases e⟩
def gCatL : D → D → Option R
  | .list x, .list y => if x.length + y.length ≤ sizeLine then some (.fresh (x ++ y)) else none
  | _, _ => none
theorem op2_catL : Op2 X F (rCatL X.K) gCatL := ⟨fun ς G σ H x y dx dy r Q rl hx hy e k => by
  cases dx with
  | list i =>
    cases dy with
    | list j =>
      replace e : (if i.length + j.length ≤ sizeLine then some (R.fresh (i ++ j)) else none) = some r := e
      by_cases q : i.length + j.length ≤ sizeLine
      · rw [if_pos q] at e
        cases e
        obtain ⟨p, vs, rfl, h1, h2⟩ := hx.list rl.sub
        obtain ⟨p', vs', rfl, h1', h2'⟩ := hy.list rl.sub
        refine ⟨p, p', vs, vs', rfl, rfl, h1, h1', by rw [dpa_len h2, dpa_len h2']; exact q, fun z hz => ?_⟩
        exact k _ _ G (rl.layF hz) (Same.refl _) (rl.repF hz (dpa_app h2 h2'))
      · rw [if_neg q] at e; cases e
    | _ => cases e
  | _ => cases e⟩
def gCatT : D → D → Option R
  | .tuple x, .tuple y => if x.length + y.length ≤ sizeLine then some (.pure (.tuple (x ++ y))) else none
  | _, _ => none
theorem op2_catT : Op2 X F (rCatA X.K) gCatT := ⟨fun ς G σ H x y dx dy r Q rl hx hy e k => by
  cases dx with
  | tuple i =>
    cases dy with
    | tuple j =>
      replace e : (if i.length + j.length ≤ sizeLine then some (R.pure (.tuple (i ++ j))) else none) = some r := e
      by_cases q : i.length + j.length ≤ sizeLine
      · rw [if_pos q] at e
        cases e
        obtain ⟨p, vs, rfl, h1, h2⟩ := hx.tuple rl.sub
        obtain ⟨p', vs', rfl, h1', h2'⟩ := hy.tuple rl.sub
        refine ⟨p, p', vs, vs', rfl, rfl, h1, h1', by rw [dpa_len h2, dpa_len h2']; exact q, fun z => ?_, fun _ z => ?_, fun _ _ z hz => ?_⟩
        · subst z
          cases h2
          rcases hy with hy | ⟨_, _, _, _, e, _⟩
          · exact k _ H G rl (Same.refl _) hy
          · cases e
        · subst z
          cases h2'
          rw [List.append_nil] at k
          rcases hx with hx | ⟨_, _, _, _, e, _⟩
          · exact k _ H G rl (Same.refl _) hx
          · cases e
        · exact k _ _ _ (rl.lay hz) (same_upd (rl.gnone hz)) (rl.layD hz (dpa_app h2 h2'))
      · rw [if_neg q] at e; cases e
    | _ => cases e
  | _ => cases e⟩
theorem d_fdiv (ha : PEd X a fa) (hb : PEd X b fb) : PEd X (.BinOp a .FloorDiv b pos) (op2 (gI cDiv fun i j => .int (i / j)) fa fb) := d_op op_fdivW (fun _ => op2_fdiv) ha hb
theorem d_mod (ha : PEd X a fa) (hb : PEd X b fb) : PEd X (.BinOp a .Mod b pos) (op2 (gI (fun _ j => decide (0 < j)) fun i j => .int (i % j)) fa fb) := d_op op_mod (fun _ => op2_mod) ha hb
theorem d_pow (ha : PEd X a fa) (hb : PEd X b fb) : PEd X (.BinOp a .Pow b pos) (op2 (gI cPow fun i j => .int (i ^ j.toNat)) fa fb) := d_op op_pow (fun _ => op2_pow) ha hb
def gRepT : D → D → Option R
  | .tuple xs, .int k => if xs ≠ [] ∧ 2 ≤ k ∧ k ≤ 1000 ∧ xs.length ≤ 1000 then some (.pure (.tuple (List.replicate k.toNat xs).flatten)) else none
  | _, _ => none
theorem op2_repT : Op2 X F (rRepT X.K) gRepT := ⟨fun ς G σ H x y dx dy r Q rl hx hy e k => by
  cases dx with
  | tuple i =>
    cases dy with
    | int j =>
      replace e : (if i ≠ [] ∧ 2 ≤ j ∧ j ≤ 1000 ∧ i.length ≤ 1000 then some (R.pure (.tuple (List.replicate j.toNat i).flatten)) else none) = some r := e
      by_cases q : i ≠ [] ∧ 2 ≤ j ∧ j ≤ 1000 ∧ i.length ≤ 1000
      · rw [if_pos q] at e
        cases e
        obtain ⟨p, vs, rfl, h1, h2⟩ := hx.tuple rl.sub
        refine ⟨p, j, vs, rfl, hy.int, h1, fun z => q.1 (by subst z; cases h2; rfl), q.2.1, q.2.2.1, by rw [dpa_len h2]; exact q.2.2.2, fun z hz => ?_⟩
        exact k _ _ _ (rl.lay hz) (same_upd (rl.gnone hz)) (rl.layD hz (dpa_rep _ h2))
      · rw [if_neg q] at e; cases e
    | _ => cases e
  | _ => cases e⟩
/-! ### comparisons -/
/-- texts are held beside one another whatever signs they have -/
def gEqS : D → D → Option R
  | .str a, .str b => some (.pure (.bool (decide (a = b))))
  | _, _ => none
def gNeS : D → D → Option R
  | .str a, .str b => some (.pure (.bool (!decide (a = b))))
  | _, _ => none
def gEq0 (x y : D) : Option R := if SeqAt.shaped x = true ∧ SeqAt.shaped y = true then some (.pure (.bool (PyData.eqv x y))) else none
def gNe0 (x y : D) : Option R := if SeqAt.shaped x = true ∧ SeqAt.shaped y = true then some (.pure (.bool (!PyData.eqv x y))) else none
def gEq : D → D → Option R := orG gEqS gEq0
def gNe : D → D → Option R := orG gNeS gNe0
theorem op2_eqS : Op2 X F rEq gEqS := ⟨fun ς G σ H x y dx dy r Q rl hx hy e k => by
  cases dx with
  | str i =>
    cases dy with
    | str j =>
      cases e
      cases hx.str
      cases hy.str
      exact ⟨rfl, by
        have := k (.bl (decide (i = j))) H G rl (Same.refl _) (.bl _)
        rw [show decide (V.str i = V.str j) = decide (i = j) by simp]
        exact this⟩
    | _ => cases e
  | _ => cases e⟩
theorem op2_neS : Op2 X F rNe gNeS := ⟨fun ς G σ H x y dx dy r Q rl hx hy e k => by
  cases dx with
  | str i =>
    cases dy with
    | str j =>
      cases e
      cases hx.str
      cases hy.str
      exact ⟨rfl, by
        have := k (.bl (!decide (i = j))) H G rl (Same.refl _) (.bl _)
        rw [show decide (V.str i = V.str j) = decide (i = j) by simp]
        exact this⟩
    | _ => cases e
  | _ => cases e⟩
theorem op2_eq : Op2 X F (rEqD X.K) gEq0 := ⟨fun ς G σ H x y dx dy r Q rl hx hy e k => by
  unfold gEq0 at e
  split at e
  · rename_i q
    cases e
    exact ⟨dx, dy, hx.dp rl.sub, hy.dp rl.sub, q.1, q.2, k _ H G rl (Same.refl _) (.bl _)⟩
  · cases e⟩
theorem op2_ne : Op2 X F (rNeD X.K) gNe0 := ⟨fun ς G σ H x y dx dy r Q rl hx hy e k => by
  unfold gNe0 at e
  split at e
  · rename_i q
    cases e
    exact ⟨dx, dy, hx.dp rl.sub, hy.dp rl.sub, q.1, q.2, k _ H G rl (Same.refl _) (.bl _)⟩
  · cases e⟩
def isNone : D → Bool
  | .none => true
  | _ => false
theorem isNone_V {K : PySem.W.Frag} {G H : Hp} {x : V} {d : D} (h : RdV K G H x d) : decide (x = V.non) = isNone d := by
  rcases h with h | ⟨a, vs, ds, rfl, rfl, _⟩
  · cases h <;> first | exact decide_eq_true rfl | exact decide_eq_false (by intro z; cases z)
  · exact decide_eq_false (by intro z; cases z)
def gIs : D → D → Option R
  | x, .none => some (.pure (.bool (isNone x)))
  | _, _ => none
def gIsNot : D → D → Option R
  | x, .none => some (.pure (.bool (!isNone x)))
  | _, _ => none
theorem op2_is : Op2 X F (fun x y H Q => y = .non ∧ Q (.bl (decide (x = .non))) H) gIs := ⟨fun ς G σ H x y dx dy r Q rl hx hy e k => by
  cases dy with
  | none =>
    cases e
    exact ⟨hy.none, k _ H G rl (Same.refl _) (by rw [isNone_V hx]; exact .bl _)⟩
  | _ => cases e⟩
theorem op2_isNot : Op2 X F (fun x y H Q => y = .non ∧ Q (.bl (!decide (x = .non))) H) gIsNot := ⟨fun ς G σ H x y dx dy r Q rl hx hy e k => by
  cases dy with
  | none =>
    cases e
    exact ⟨hy.none, k _ H G rl (Same.refl _) (by rw [isNone_V hx]; exact .bl _)⟩
  | _ => cases e⟩
/-! ### x in data -/
def items : D → Option (List D)
  | .list ds => some ds
  | .tuple ds => some ds
  | _ => none
theorem items_ok {K : PySem.W.Frag} {G H : Hp} {x : V} {d : D} {ds : List D} (s : Same G H) (h : RdV K G H x d) (e : items d = some ds) : ∃ p xs, x = .ref p ∧ (SqL K H p xs ∨ SqT K H p xs) ∧ DpAll K G xs ds := by
  cases d with
  | list es => cases e; obtain ⟨p, vs, rfl, h1, h2⟩ := h.list s; exact ⟨p, vs, rfl, .inl h1, h2⟩
  | tuple es => cases e; obtain ⟨p, vs, rfl, h1, h2⟩ := h.tuple s; exact ⟨p, vs, rfl, .inr h1, h2⟩
  | _ => cases e
theorem units1 {k : Nat} {A : Around} (hr : Room k A) : A.units + 64 < cLine - 1 := by have := hr.un; omega
/-! ### a op b op c -/
def bOf : R → Option Bool
  | .pure (.bool b) => some b
  | _ => none
def chn (g g' : D → D → Option R) (fa fb fc : M R) : M R := bd (sub fa) fun a => bd (sub fb) fun b => bd (rd a) fun x => bd (rd b) fun y => bd (lift (g x y)) fun r => bd (lift (bOf r)) fun k =>
  if k = true then bd (sub fc) fun c => bd (rd b) fun y => bd (rd c) fun z => lift (g' y z) else ret (.pure (.bool false))
end
end Lw
namespace Lw
open PySem PySem.Spec PyProof.Rows L2
section
variable {X : Cx} {F : Fx} {a b c e : Expr} {es : List Expr} {fa fb fc f : M R} {ta tb : M Bool} {pos : Pos} {rest : List Expr}
/-! ### tests -/
def tst (f : M R) : M Bool := bd (sub f) fun r => bd (rd r) fun d => lift (match d with | .bool b => some b | _ => none)
def truD : D → Option Bool
  | .none => some false
  | .bool b => some b
  | .int i => some (i != 0)
  | .str x => if x.length ≤ sizeLine then some ((x.length : Int) != 0) else none
  | .list ds => some (!ds.isEmpty)
  | .tuple ds => some (!ds.isEmpty)
  | _ => none
def tru (f : M R) : M Bool := bd (sub f) fun r => bd (rd r) fun d => lift (truD d)
theorem t_tst : ∀ σ H Q, tEvT X.K F (tst f) σ H Q → (tEv X.K F (sub f)) σ H fun x H' => ∃ k, x = .bl k ∧ Q k H' := fun σ H Q hq => by
  obtain ⟨ς, G, rl, r, ς', e, k⟩ := hq
  obtain ⟨a, ς1, e1, q1⟩ := bd_some e
  obtain ⟨x, ς3, e3', q3⟩ := bd_some q1
  obtain ⟨e3, h3⟩ := rd_some e3'
  obtain ⟨e4, h4⟩ := lift_some q3
  subst h3 h4
  refine ⟨ς, G, rl, a, _, e1, fun v H1 G1 rl1 s1 rep1 => ?_⟩
  have rv := rdD_ok rl1 rep1 e3
  cases x with
  | bool b => cases e4; exact ⟨_, rv.bool, k H1 G1 rl1 s1⟩
  | _ => cases e4
theorem d_tstC {op : CmpOp} {r2 : R2} {g : D → D → Option R} (ho : OpR X (compareOp op) r2) (o : ∀ F, Op2 X F r2 g) (ha : PEd X a fa) (hb : PEd X b fb) (hm : behindInMarks op b = false) : PTd X (.Compare a [op] [b] pos) (tst (op2 g fa fb)) :=
  fun F => PT.mono (pt_cmpR ho (d_sub ha F) (d_sub hb F) hm) fun σ H Q hq => t_op2 (o F) σ H _ (by
    obtain ⟨ς, G, rl, r, ς', e, k⟩ := t_tst σ H Q hq
    obtain ⟨r1, ς1, e1, q1⟩ := bd_some e
    refine ⟨ς, G, rl, r1, ς1, e1, fun v H' G' rl' s rep => ?_⟩
    cases r1 with
    | pure d => cases q1; exact k v H' G' rl' s rep
    | ref i => cases q1; exact k v H' G' rl' s rep
    | fresh ds =>
      cases q1
      obtain ⟨G2, rl2, s2, dp⟩ := rl'.frzF rep
      exact k v H' G2 rl2 (s.trans s2) dp)
theorem truV_of {K : PySem.W.Frag} {G H : Hp} {x : V} {d : D} {k : Bool} (s : Same G H) (h : RdV K G H x d) (e : truD d = some k) : TruV K x H k := by
  cases d with
  | none => cases e; rw [h.none]; rfl
  | bool b => cases e; rw [h.bool]; rfl
  | int i => cases e; rw [h.int]; rfl
  | str y =>
    rw [h.str]
    unfold truD at e
    simp only at e
    split at e
    · rename_i q; cases e; exact ⟨q, rfl⟩
    · cases e
  | list ds =>
    cases e
    obtain ⟨p, vs, rfl, h1, h2⟩ := h.list s
    refine .inl ⟨vs, h1, ?_⟩
    cases h2 <;> rfl
  | tuple ds =>
    cases e
    obtain ⟨p, vs, rfl, h1, h2⟩ := h.tuple s
    refine .inr (.inl ⟨vs, h1, ?_⟩)
    cases h2 <;> rfl
  | dict _ => cases e
theorem d_tru (h : PEd X e f) (he : ∀ whole, isTrue e X.env whole = (do let v ← whole; standAt e.pos; holding [v] (truthy v)) := by intro _; rfl) : PTd X e (tru f) :=
  fun F => PT.mono (pt_truth (d_sub h F) he) fun σ H Q hq => by
    obtain ⟨ς, G, rl, r, ς', e, k⟩ := hq
    obtain ⟨a, ς1, e1, q1⟩ := bd_some e
    obtain ⟨x, ς3, e3', q3⟩ := bd_some q1
    obtain ⟨e3, h3⟩ := rd_some e3'
    obtain ⟨e4, h4⟩ := lift_some q3
    subst h3 h4
    exact ⟨ς, G, rl, a, _, e1, fun v H1 G1 rl1 s1 rep1 => ⟨_, truV_of rl1.sub (rdD_ok rl1 rep1 e3) e4, k H1 G1 rl1 s1⟩⟩
def andT (ta tb : M Bool) : M Bool := bd ta fun k => if k = true then tb else ret false
def orT (ta tb : M Bool) : M Bool := bd ta fun k => if k = true then ret true else tb
def notT (ta : M Bool) : M Bool := bd ta fun k => ret (!k)
theorem t_orT : ∀ σ H Q, tEvT X.K F (orT ta tb) σ H Q → tOr (tEvT X.K F ta) (tEvT X.K F tb) σ H Q := fun σ H Q hq => by
  obtain ⟨ς, G, rl, r, ς', e, k⟩ := hq
  obtain ⟨a, ς1, e1, q1⟩ := bd_some e
  refine ⟨ς, G, rl, a, ς1, e1, fun H1 G1 rl1 s1 => ?_⟩
  cases a with
  | true => rw [if_pos rfl] at q1 ⊢; cases q1; exact k H1 G1 rl1 s1
  | false => rw [if_neg (by decide)] at q1 ⊢; exact ⟨ς1, G1, rl1, r, ς', q1, fun H' G' rl' s => k H' G' rl' (s1.trans s)⟩
theorem w_or (ha : PTd X a ta) (hb : PWd X (.BoolOp .Or (b :: rest) pos) tb) : PWd X (.BoolOp .Or (a :: b :: rest) pos) (orT ta tb) := fun F => PW.mono (pw_or (ha F) (hb F)) t_orT
theorem w_or1 (ha : PTd X a ta) : PWd X (.BoolOp .Or [a] pos) ta := fun F => pw_or1 (ha F)
/-! ### and, or, not as values -/
def boolD : D → Option Bool
  | .bool b => some b
  | _ => none
def andV (fa fb : M R) : M R := bd (sub fa) fun r => bd (rd r) fun d => bd (lift (boolD d)) fun k => if k = true then fb else ret (.pure (.bool false))
def orV (fa fb : M R) : M R := bd (sub fa) fun r => bd (rd r) fun d => bd (lift (boolD d)) fun k => if k = true then ret (.pure (.bool true)) else fb
def notV (fa : M R) : M R := bd (sub fa) fun r => bd (rd r) fun d => bd (lift (boolD d)) fun k => ret (.pure (.bool !k))
theorem boolD_V {K : PySem.W.Frag} {G H : Hp} {x : V} {d : D} {k : Bool} (h : RdV K G H x d) (e : boolD d = some k) : x = .bl k := by
  cases d with
  | bool b => cases e; exact h.bool
  | _ => cases e
theorem d_and (ha : PEd X a fa) (hb : PEd X (.BoolOp .And (b :: rest) pos) fb) : PEd X (.BoolOp .And (a :: b :: rest) pos) (andV fa fb) := fun F => PE.mono (pe_and (d_sub ha F) (hb F)) fun σ H Q hq => by
  obtain ⟨ς, G, rl, r, ς', e, k⟩ := hq
  obtain ⟨a, ς1, e1, q1⟩ := bd_some e
  obtain ⟨x, ς3, e3', q3⟩ := bd_some q1
  obtain ⟨e3, h3⟩ := rd_some e3'
  obtain ⟨kk, ς4, e4', q4⟩ := bd_some q3
  obtain ⟨e4, h4⟩ := lift_some e4'
  subst h3 h4
  refine ⟨ς, G, rl, a, _, e1, fun v H1 G1 rl1 s1 rep1 => ⟨kk, boolD_V (rdD_ok rl1 rep1 e3) e4, ?_⟩⟩
  cases kk with
  | true => rw [if_pos rfl] at q4 ⊢; exact ⟨_, G1, rl1, r, ς', q4, fun v H' G' rl' s rep => k v H' G' rl' (s1.trans s) rep⟩
  | false => rw [if_neg (by decide)] at q4 ⊢; cases q4; exact k _ H1 G1 rl1 s1 (.bl _)
theorem d_one {op : BoolOp} (h : PEd X a fa) : PEd X (.BoolOp op [a] pos) fa := fun F => pe_one (h F)
def ife (t : M Bool) (fa fb : M R) : M R := bd t fun k => if k = true then fa else fb
theorem d_ife (hc : PTd X c ta) (ha : PEd X a fa) (hb : PEd X b fb) : PEd X (.IfExp c a b pos) (ife ta fa fb) := fun F => PE.mono (pe_ifExp (hc F) (ha F) (hb F)) fun σ H Q hq => by
  obtain ⟨ς, G, rl, r, ς', e, k⟩ := hq
  obtain ⟨a, ς1, e1, q1⟩ := bd_some e
  refine ⟨ς, G, rl, a, ς1, e1, fun H1 G1 rl1 s1 => ?_⟩
  cases a with
  | true => rw [if_pos rfl] at q1 ⊢; exact ⟨_, G1, rl1, r, ς', q1, fun v H' G' rl' s rep => k v H' G' rl' (s1.trans s) rep⟩
  | false => rw [if_neg (by decide)] at q1 ⊢; exact ⟨_, G1, rl1, r, ς', q1, fun v H' G' rl' s rep => k v H' G' rl' (s1.trans s) rep⟩
/-! ### unary minus -/
def negV (fa : M R) : M R := bd (sub fa) fun r => bd (rd r) fun d => lift (match d with | .int i => some (.pure (.int (-i))) | _ => none)
theorem d_neg (ha : PEd X a fa) : PEd X (.UnaryOp .USub a pos) (negV fa) := fun F => PE.mono (pe_un un_neg (d_sub ha F)) fun σ H Q hq => by
  obtain ⟨ς, G, rl, r, ς', e, k⟩ := hq
  obtain ⟨a, ς1, e1, q1⟩ := bd_some e
  obtain ⟨x, ς3, e3', q3⟩ := bd_some q1
  obtain ⟨e3, h3⟩ := rd_some e3'
  obtain ⟨e4, h4⟩ := lift_some q3
  subst h3 h4
  refine ⟨ς, G, rl, a, _, e1, fun v H1 G1 rl1 s1 rep1 => ?_⟩
  have rv := rdD_ok rl1 rep1 e3
  cases x with
  | int i => cases e4; exact ⟨i, rv.int, k _ H1 G1 rl1 s1 (.int _)⟩
  | _ => cases e4
/-! ### arguments, displays -/
def avs : List D → List Ar := List.map Ar.val
def argN : M (List Ar) := ret []
def argV (f : M R) (g : M (List Ar)) : M (List Ar) := bd (esc f) fun d => bd g fun as => ret (.val d :: as)
def argR (f : M R) (g : M (List Ar)) : M (List Ar) := bd f fun r => match r with
  | .ref i => bd g fun as => ret (.ref i :: as)
  | _ => lift none
theorem a_nil : PAd X [] argN := fun F => PA.mono pa_nil fun σ H Q hq => by
  obtain ⟨ς, G, rl, r, ς', e, k⟩ := hq
  cases e
  exact k [] H G rl (Same.refl _) .nil
theorem a_val {ga : M (List Ar)} (ha : PEd X a fa) (hr : PAd X es ga) (hs : starEach (a :: es) X.env = (false, eval a X.env) :: starEach es X.env := by rfl) : PAd X (a :: es) (argV fa ga) := fun F => PA.mono (pa_cons (d_esc ha F) (hr F) hs) fun σ H Q hq => by
  obtain ⟨ς, G, rl, r, ς', e, k⟩ := hq
  obtain ⟨d, ς1, e1, q1⟩ := bd_some e
  obtain ⟨as, ς2, e2, q2⟩ := bd_some q1
  cases q2
  exact ⟨ς, G, rl, d, ς1, e1, fun v H1 G1 rl1 s1 dp => ⟨ς1, G1, rl1, as, _, e2, fun vs H2 G2 rl2 s2 ps => k (v :: vs) H2 G2 rl2 (s1.trans s2) (.cons (dp_same s2 dp) ps)⟩⟩
theorem a_ref {ga : M (List Ar)} (ha : PEd X a fa) (hr : PAd X es ga) (hs : starEach (a :: es) X.env = (false, eval a X.env) :: starEach es X.env := by rfl) : PAd X (a :: es) (argR fa ga) := fun F => PA.mono (pa_cons (ha F) (hr F) hs) fun σ H Q hq => by
  obtain ⟨ς, G, rl, r, ς', e, k⟩ := hq
  obtain ⟨d, ς1, e1, q1⟩ := bd_some e
  refine ⟨ς, G, rl, d, ς1, e1, fun v H1 G1 rl1 s1 dp => ?_⟩
  cases d with
  | ref i =>
    obtain ⟨as, ς2, e2, q2⟩ := bd_some q1
    cases q2
    exact ⟨ς1, G1, rl1, as, _, e2, fun vs H2 G2 rl2 s2 ps => k (v :: vs) H2 G2 rl2 (s1.trans s2) (.cons dp ps)⟩
  | _ => cases q1
def vals : List Ar → Option (List D)
  | [] => some []
  | .val d :: as => match vals as with
    | some ds => some (d :: ds)
    | none => none
  | .ref _ :: _ => none
theorem vals_ok {K : PySem.W.Frag} {G : Hp} {σ : L2.St} : ∀ {as : List Ar} {vs : List V} {ds : List D}, Paired (RepAr K G σ) as vs → vals as = some ds → DpAll K G vs ds
  | _, _, _, .nil, e => by cases e; exact .nil
  | .val d :: as, _, ds, .cons h t, e => by
    unfold vals at e
    split at e
    · rename_i ds' q
      cases e
      exact .cons h (vals_ok t q)
    · cases e
  | .ref i :: as, _, _, .cons h t, e => by cases e
def small (n : Nat) : Bool := decide (n ≤ sizeLine)
def tupE (g : M (List Ar)) : M R := bd g fun as => bd (lift (vals as)) fun ds => if small ds.length = true then ret (.pure (.tuple ds)) else lift none
def lstE (g : M (List Ar)) : M R := bd g fun as => bd (lift (vals as)) fun ds => if small ds.length = true then ret (.fresh ds) else lift none
theorem d_tup {g : M (List Ar)} {k : Nat} (h : PAd X es g) : PEd X (.Tuple es k pos) (tupE g) := fun F => PE.mono (pe_tup (h F)) fun σ H Q hq => by
  obtain ⟨ς, G, rl, r, ς', e, k⟩ := hq
  obtain ⟨as, ς1, e1, q1⟩ := bd_some e
  obtain ⟨ds, ς2, e2', q2⟩ := bd_some q1
  obtain ⟨e2, h2⟩ := lift_some e2'
  subst h2
  refine ⟨ς, G, rl, as, _, e1, fun vs H1 G1 rl1 s1 ps => ?_⟩
  have da := vals_ok ps e2
  by_cases hs : small ds.length = true
  · rw [if_pos hs] at q2
    cases q2
    refine ⟨by rw [dpa_len da]; exact of_decide_eq_true hs, fun p hp => ?_⟩
    exact k _ _ _ (rl1.lay hp) (s1.trans (same_upd (rl1.gnone hp))) (rl1.layD hp da)
  · rw [if_neg hs] at q2; cases q2
theorem d_lst {g : M (List Ar)} (h : PAd X es g) : PEd X (.List es pos) (lstE g) := fun F => PE.mono (pe_lst (h F)) fun σ H Q hq => by
  obtain ⟨ς, G, rl, r, ς', e, k⟩ := hq
  obtain ⟨as, ς1, e1, q1⟩ := bd_some e
  obtain ⟨ds, ς2, e2', q2⟩ := bd_some q1
  obtain ⟨e2, h2⟩ := lift_some e2'
  subst h2
  refine ⟨ς, G, rl, as, _, e1, fun vs H1 G1 rl1 s1 ps => ?_⟩
  have da := vals_ok ps e2
  by_cases hs : small ds.length = true
  · rw [if_pos hs] at q2
    cases q2
    refine ⟨by rw [dpa_len da]; exact of_decide_eq_true hs, fun p hp => ?_⟩
    exact k _ _ _ (rl1.layF hp) s1 (rl1.repF hp da)
  · rw [if_neg hs] at q2; cases q2
/-! ### o[i] -/
def gIx : D → D → Option R
  | .list ds, .int i => (atI ds i).map R.pure
  | .tuple ds, .int i => (atI ds i).map R.pure
  | _, _ => none
theorem atI_dp {K : PySem.W.Frag} {G : Hp} {vs : List V} {ds : List D} {i : Int} {d : D} (h : DpAll K G vs ds) (e : atI ds i = some d) : ∃ v, atI vs i = some v ∧ Dp K G v d := by
  unfold atI at e ⊢
  rw [dpa_len h]
  cases q : ixN ds.length i with
  | none => rw [q] at e; cases e
  | some j => rw [q] at e; exact dpa_get h e
theorem op2_ix : Op2 X F (rIx X.K) gIx := ⟨fun ς G σ H x y dx dy r Q rl hx hy e k => by
  cases dx with
  | list ds =>
    cases dy with
    | int i =>
      cases q : atI ds i with
      | none => rw [gIx, q] at e; cases e
      | some d =>
        rw [gIx, q] at e; cases e
        obtain ⟨p, vs, rfl, h1, h2⟩ := hx.list rl.sub
        obtain ⟨v, e1, e2⟩ := atI_dp h2 q
        exact .inl ⟨p, vs, i, v, rfl, hy.int, h1, e1, k v H G rl (Same.refl _) e2⟩
    | _ => cases e
  | tuple ds =>
    cases dy with
    | int i =>
      cases q : atI ds i with
      | none => rw [gIx, q] at e; cases e
      | some d =>
        rw [gIx, q] at e; cases e
        obtain ⟨p, vs, rfl, h1, h2⟩ := hx.tuple rl.sub
        obtain ⟨v, e1, e2⟩ := atI_dp h2 q
        exact .inr (.inl ⟨p, vs, i, v, rfl, hy.int, h1, e1, k v H G rl (Same.refl _) e2⟩)
    | _ => cases e
  | _ => cases e⟩
theorem d_ix (ha : PEd X a fa) (hb : PEd X b fb) (hs : PlainIx b := by exact fun _ _ => rfl) : PEd X (.Subscript a b pos) (op2 gIx fa fb) := fun F => PE.mono (pe_ix ix_seq (d_sub ha F) (d_sub hb F) hs) (t_op2 op2_ix)
end
end Lw
namespace Lw
open PySem PySem.Spec PyProof.Rows L2
section
variable {X : Cx} {F : Fx} {a b c e : Expr} {es : List Expr} {fa fb fc f : M R} {pos p p2 : Pos} {x : Str}
/-! ### bools among intsD -/
def rIB (h : Int → Int → Int) : R2 := fun x y H Q => (∃ k j, x = .bl k ∧ y = .int j ∧ Q (.int (h (if k = true then 1 else 0) j)) H) ∨ ∃ i k, x = .int i ∧ y = .bl k ∧ Q (.int (h i (if k = true then 1 else 0))) H
theorem op_addB : OpR X (binaryOp .Add) (rIB (· + ·)) := by
  intro pins s σ H x y v u Q I rx ry h
  rcases h with ⟨k, j, rfl, rfl, q⟩ | ⟨i, k, rfl, rfl, q⟩
  · cases rx
    obtain ⟨t, rfl⟩ := ry
    exact PySem.IntBool.add_bool_int ⟨.int _, H, I.tok _, ⟨_, rfl⟩, q⟩
  · obtain ⟨t, rfl⟩ := rx
    cases ry
    exact PySem.add_int_bool ⟨.int _, H, I.tok _, ⟨_, rfl⟩, q⟩
theorem op_subB : OpR X (binaryOp .Sub) (rIB (· - ·)) := by
  intro pins s σ H x y v u Q I rx ry h
  rcases h with ⟨k, j, rfl, rfl, q⟩ | ⟨i, k, rfl, rfl, q⟩
  · cases rx
    obtain ⟨t, rfl⟩ := ry
    exact PySem.IntBool.sub_bool_int ⟨.int _, H, I.tok _, ⟨_, rfl⟩, q⟩
  · obtain ⟨t, rfl⟩ := rx
    cases ry
    exact PySem.IntBool.sub_int_bool ⟨.int _, H, I.tok _, ⟨_, rfl⟩, q⟩
def gIB (h : Int → Int → Int) : D → D → Option R
  | .bool k, .int j => some (.pure (.int (h (if k = true then 1 else 0) j)))
  | .int i, .bool k => some (.pure (.int (h i (if k = true then 1 else 0))))
  | _, _ => none
theorem op2_IB {h : Int → Int → Int} : Op2 X F (rIB h) (gIB h) := ⟨fun ς G σ H x y dx dy r Q rl hx hy e k => by
  cases dx with
  | bool i =>
    cases dy with
    | int j => cases e; exact .inl ⟨i, j, hx.bool, hy.int, k _ H G rl (Same.refl _) (.int _)⟩
    | _ => cases e
  | int i =>
    cases dy with
    | bool j => cases e; exact .inr ⟨i, j, hx.int, hy.bool, k _ H G rl (Same.refl _) (.int _)⟩
    | _ => cases e
  | _ => cases e⟩
/-! ### slices -/
def tEvO (K : PySem.W.Frag) (F : Fx) (f : M (Option Int)) : TO := fun σ H Q => ∃ ς G, Rel K F ς G σ H ∧ ∃ o ς', f ς = some (o, ς') ∧ ∀ H' G', Rel K F ς' G' σ H' → Same G G' → Q o H'
def ptN : M (Option Int) := ret none
def ptS (f : M R) : M (Option Int) := bd (sub f) fun r => bd (rd r) fun d => lift (match d with | .int i => some (some i) | _ => none)
theorem _root_.L2.PO.mono {o : Option Expr} {t t' : TO} (h : PO X o t) (k : ∀ σ H Q, t' σ H Q → t σ H Q) : PO X o t' := ⟨fun pins s σ H Q I hw => h.run pins s σ H Q I (k σ H Q hw)⟩
abbrev POd (X : Cx) (o : Option Expr) (f : M (Option Int)) : Prop := ∀ F : Fx, PO X o (tEvO X.K F f)
theorem o_none : POd X none ptN := fun F => PO.mono po_none fun σ H Q hq => by
  obtain ⟨ς, G, rl, r, ς', e, k⟩ := hq
  cases e
  exact k H G rl (Same.refl _)
theorem o_some (h : PEd X e f) : POd X (some e) (ptS f) := fun F => PO.mono (po_some (d_sub h F)) fun σ H Q hq => by
  obtain ⟨ς, G, rl, r, ς', e, k⟩ := hq
  obtain ⟨a, ς1, e1, q1⟩ := bd_some e
  obtain ⟨x, ς3, e3', q3⟩ := bd_some q1
  obtain ⟨e3, h3⟩ := rd_some e3'
  obtain ⟨e4, h4⟩ := lift_some q3
  subst h3 h4
  refine ⟨ς, G, rl, a, _, e1, fun v H1 G1 rl1 s1 rep1 => ?_⟩
  have rv := rdD_ok rl1 rep1 e3
  cases x with
  | int i => cases e4; exact ⟨i, rv.int, k H1 G1 rl1 s1⟩
  | _ => cases e4
def cutD (ds : List D) (lo hi : Option Int) : List D := (ds.drop (HT.sIx ds.length 0 lo)).take (HT.sIx ds.length ds.length hi - HT.sIx ds.length 0 lo)
def gSl (x : D) (lo hi : Option Int) : Option R := match x with
  | .list ds => some (.fresh (cutD ds lo hi))
  | .tuple ds => some (.pure (.tuple (cutD ds lo hi)))
  | _ => none
def slE (fa : M R) (fl fh : M (Option Int)) : M R := bd (sub fa) fun a => bd fl fun l => bd fh fun h => bd (rd a) fun x => lift (gSl x l h)
theorem d_sl {lo hi : Option Expr} {fl fh : M (Option Int)} (ha : PEd X a fa) (hl : POd X lo fl) (hh : POd X hi fh) : PEd X (.Subscript a (.Slice lo hi none p2) pos) (slE fa fl fh) :=
  fun F => PE.mono (pe_slice (sl_list.or sl_tupA) (d_sub ha F) (hl F) (hh F)) fun σ H Q hq => by
    obtain ⟨ς, G, rl, r, ς', e, k⟩ := hq
    obtain ⟨a, ς1, e1, q1⟩ := bd_some e
    obtain ⟨l, ς2, e2, q2⟩ := bd_some q1
    obtain ⟨h, ς3, e3, q3⟩ := bd_some q2
    obtain ⟨x, ς4, e4', q4⟩ := bd_some q3
    obtain ⟨e4, h4⟩ := rd_some e4'
    obtain ⟨e5, h5⟩ := lift_some q4
    subst h4 h5
    refine ⟨ς, G, rl, a, ς1, e1, fun v H1 G1 rl1 s1 rep1 => ⟨ς1, G1, rl1, l, ς2, e2, fun H2 G2 rl2 s2 => ⟨ς2, G2, rl2, h, _, e3, fun H3 G3 rl3 s3 => ?_⟩⟩⟩
    have rep1' := rep_keep (ς' := ς') (H' := H3) rep1 (sub_nf e1) (s2.trans s3)
    have rv := rdD_ok rl3 rep1' e4
    cases x with
    | list ds =>
      cases e5
      obtain ⟨p, vs, rfl, h1, h2⟩ := rv.list rl3.sub
      refine .inl ⟨p, vs, rfl, h1, fun z hz => ?_⟩
      have : DpAll X.K G3 (cutV vs l h) (cutD ds l h) := by
        unfold cutV cutD
        rw [dpa_len h2]
        exact dpa_take _ (dpa_drop _ h2)
      exact k _ _ G3 (rl3.layF hz) (s1.trans (s2.trans s3)) (rl3.repF hz this)
    | tuple ds =>
      cases e5
      obtain ⟨p, vs, e6, h1, h2⟩ := rv.tuple rl3.sub
      subst e6
      refine .inr ⟨p, vs, rfl, h1, fun z => ?_, fun _ z hz => ?_⟩
      · rw [dpa_len h2] at z
        have : cutD ds l h = ds := by
          unfold cutD
          rw [z.1, z.2]
          simp
        rw [this] at k
        rcases rv with rv | ⟨_, _, _, _, ee, _⟩
        · exact k _ H3 G3 rl3 (s1.trans (s2.trans s3)) rv
        · cases ee
      · have : DpAll X.K G3 (cutV vs l h) (cutD ds l h) := by
          unfold cutV cutD
          rw [dpa_len h2]
          exact dpa_take _ (dpa_drop _ h2)
        exact k _ _ _ (rl3.lay hz) (s1.trans (s2.trans (s3.trans (same_upd (rl3.gnone hz))))) (rl3.layD hz this)
    | _ => cases e5
def revE (fa : M R) : M R := bd (sub fa) fun a => bd (rd a) fun x => lift (match x with | .list ds => some (.fresh ds.reverse) | _ => none)
/-! ### built-ins by values -/
structure Call1 (X : Cx) (F : Fx) (r : List V → Hp → VK → Prop) (g : D → Option R) : Prop where
  run : ∀ (ς : En) (G : Hp) (σ : L2.St) (H : Hp) (x : V) (dx : D) (res : R) (Q : VK), Rel X.K F ς G σ H → RdV X.K G H x dx → g dx = some res →
    (∀ v H' G', Rel X.K F ς G' σ H' → Same G G' → RepR X.K F ς G' σ H' res v → Q v H') → r [x] H Q
structure Call2 (X : Cx) (F : Fx) (r : List V → Hp → VK → Prop) (g : D → D → Option R) : Prop where
  run : ∀ (ς : En) (G : Hp) (σ : L2.St) (H : Hp) (x y : V) (dx dy : D) (res : R) (Q : VK), Rel X.K F ς G σ H → RdV X.K G H x dx → RdV X.K G H y dy → g dx dy = some res →
    (∀ v H' G', Rel X.K F ς G' σ H' → Same G G' → RepR X.K F ς G' σ H' res v → Q v H') → r [x, y] H Q
def cal1 (g : D → Option R) (fa : M R) : M R := bd (sub fa) fun a => bd (rd a) fun x => lift (g x)
theorem t_cal1 {r : List V → Hp → VK → Prop} {g : D → Option R} (o : Call1 X F r g) : ∀ σ H Q, tEv X.K F (cal1 g fa) σ H Q → tCB r (tCons (tEv X.K F (sub fa)) tNil) σ H Q := fun σ H Q hq => by
  obtain ⟨ς, G, rl, r, ς', e, k⟩ := hq
  obtain ⟨a, ς1, e1, q1⟩ := bd_some e
  obtain ⟨x, ς4, e4', q4⟩ := bd_some q1
  obtain ⟨e4, h4⟩ := rd_some e4'
  obtain ⟨e5, h5⟩ := lift_some q4
  subst h4 h5
  exact ⟨ς, G, rl, a, _, e1, fun v H1 G1 rl1 s1 rep1 => o.run _ G1 σ H1 v x r Q rl1 (rdD_ok rl1 rep1 e4) e5 fun u H' G' rl' s rep => k u H' G' rl' (s1.trans s) rep⟩
theorem t_cal2 {r : List V → Hp → VK → Prop} {g : D → D → Option R} (o : Call2 X F r g) : ∀ σ H Q, tEv X.K F (op2 g fa fb) σ H Q → tCB r (tCons (tEv X.K F (sub fa)) (tCons (tEv X.K F (sub fb)) tNil)) σ H Q := fun σ H Q hq =>
  t_op2 (X := X) (F := F) (fa := fa) (fb := fb) (r2 := fun x y H Q => r [x, y] H Q) (g := g) ⟨o.run⟩ σ H Q hq
theorem d_callB1 {r : List V → Hp → VK → Prop} {g : D → Option R} {id : String} (hc : CallR X (.builtin id) r) (o : ∀ F, Call1 X F r g) (hg : Gl X x) (hm : X.mg x = none) (hv : bootBuiltins x = some (.builtin id)) (ha : PEd X a fa) (hn : x ≠ "__name__" := by decide) (hdb : (x == ("__debug__" : Str)) = false := by decide)
    (he : starEach [a] X.env = (false, eval a X.env) :: starEach [] X.env := by rfl) (hpl : (backTo pos (starEach [] X.env)).any (·.1) = false := by rfl) : PEd X (.Call (.Name x p) [a] [] pos) (cal1 g fa) :=
  fun F => PE.mono (pe_callB hc hg hm hv (pa_cons (d_sub ha F) pa_nil he) hn hdb he hpl) (t_cal1 (o F))
theorem d_callT1 {r : List V → Hp → VK → Prop} {g : D → Option R} {T : String} (hc : CallR X (.type T) r) (o : ∀ F, Call1 X F r g) (hg : Gl X x) (hm : X.mg x = none) (hv : bootBuiltins x = some (.type T)) (ha : PEd X a fa) (hn : x ≠ "__name__" := by decide) (hdb : (x == ("__debug__" : Str)) = false := by decide)
    (he : starEach [a] X.env = (false, eval a X.env) :: starEach [] X.env := by rfl) (hpl : (backTo pos (starEach [] X.env)).any (·.1) = false := by rfl) : PEd X (.Call (.Name x p) [a] [] pos) (cal1 g fa) :=
  fun F => PE.mono (pe_callTy hc hg hm hv (pa_cons (d_sub ha F) pa_nil he) hn hdb he hpl) (t_cal1 (o F))
theorem d_callB2 {r : List V → Hp → VK → Prop} {g : D → D → Option R} {id : String} (hc : CallR X (.builtin id) r) (o : ∀ F, Call2 X F r g) (hg : Gl X x) (hm : X.mg x = none) (hv : bootBuiltins x = some (.builtin id)) (ha : PEd X a fa) (hb : PEd X b fb) (hn : x ≠ "__name__" := by decide) (hdb : (x == ("__debug__" : Str)) = false := by decide)
    (he : starEach [a, b] X.env = (false, eval a X.env) :: starEach [b] X.env := by rfl) (he2 : starEach [b] X.env = (false, eval b X.env) :: starEach [] X.env := by rfl) (hpl : (backTo pos (starEach [b] X.env)).any (·.1) = false := by rfl) : PEd X (.Call (.Name x p) [a, b] [] pos) (op2 g fa fb) :=
  fun F => PE.mono (pe_callB hc hg hm hv (pa_cons (d_sub ha F) (pa_cons (d_sub hb F) pa_nil he2) he) hn hdb he hpl) (t_cal2 (o F))
theorem CallR.or {f : Value} {r r' : List V → Hp → VK → Prop} (h : CallR X f r) (h' : CallR X f r') : CallR X f (fun xs H Q => r xs H Q ∨ r' xs H Q) := by
  intro pins s σ H xs us Q I rv hq
  rcases hq with hq | hq
  · exact h pins s σ H xs us Q I rv hq
  · exact h' pins s σ H xs us Q I rv hq
def gAbs : D → Option R
  | .int i => some (.pure (.int (if i < 0 then -i else i)))
  | _ => none
theorem d_abs (hg : Gl X "abs") (hm : X.mg "abs" = none) (ha : PEd X a fa) (he : starEach [a] X.env = (false, eval a X.env) :: starEach [] X.env := by rfl) : PEd X (.Call (.Name "abs" p) [a] [] pos) (cal1 gAbs fa) := d_callB1 call_abs (fun F => ⟨fun ς G σ H x dx res Q rl hx e k => by
  cases dx with
  | int i => cases e; exact ⟨i, by rw [hx.int], k _ H G rl (Same.refl _) (.int _)⟩
  | _ => cases e⟩) hg hm (by decide +kernel) ha (he := he) (hpl := rfl)
def gInt : D → Option R
  | .int i => some (.pure (.int i))
  | .bool k => some (.pure (.int (if k = true then 1 else 0)))
  | _ => none
theorem d_toInt (hg : Gl X "int") (hm : X.mg "int" = none) (ha : PEd X a fa) (he : starEach [a] X.env = (false, eval a X.env) :: starEach [] X.env := by rfl) : PEd X (.Call (.Name "int" p) [a] [] pos) (cal1 gInt fa) := d_callT1 call_int1 (fun F => ⟨fun ς G σ H x dx res Q rl hx e k => by
  cases dx with
  | int i => cases e; exact .inl ⟨i, by rw [hx.int], k _ H G rl (Same.refl _) (.int _)⟩
  | bool i => cases e; exact .inr ⟨i, by rw [hx.bool], k _ H G rl (Same.refl _) (.int _)⟩
  | _ => cases e⟩) hg hm (by decide +kernel) ha (he := he) (hpl := rfl)
def gLen : D → Option R
  | .list ds => some (.pure (.int ds.length))
  | .tuple ds => some (.pure (.int ds.length))
  | .str x => if x.length ≤ sizeLine then some (.pure (.int x.length)) else none
  | _ => none
theorem d_len (hg : Gl X "len") (hm : X.mg "len" = none) (ha : PEd X a fa) (he : starEach [a] X.env = (false, eval a X.env) :: starEach [] X.env := by rfl) : PEd X (.Call (.Name "len" p) [a] [] pos) (cal1 gLen fa) := d_callB1 call_len (fun F => ⟨fun ς G σ H x dx res Q rl hx e k => by
  cases dx with
  | list ds =>
    cases e
    obtain ⟨q, vs, rfl, h1, h2⟩ := hx.list rl.sub
    exact ⟨_, ds.length, rfl, .inl ⟨vs, h1, (dpa_len h2).symm⟩, k _ H G rl (Same.refl _) (.int _)⟩
  | tuple ds =>
    cases e
    obtain ⟨q, vs, rfl, h1, h2⟩ := hx.tuple rl.sub
    exact ⟨_, ds.length, rfl, .inr ⟨vs, h1, (dpa_len h2).symm⟩, k _ H G rl (Same.refl _) (.int _)⟩
  | str y =>
    replace e : (if y.length ≤ sizeLine then some (R.pure (.int y.length)) else none) = some res := e
    by_cases q : y.length ≤ sizeLine
    · rw [if_pos q] at e; cases e
      exact ⟨.str y, y.length, by rw [hx.str], ⟨q, rfl⟩, k _ H G rl (Same.refl _) (.int _)⟩
    · rw [if_neg q] at e; cases e
  | _ => cases e⟩) hg hm PySem.boot_len ha (he := he) (hpl := rfl)
def gList (x : D) : Option R := match items x with
  | some ds => some (.fresh ds)
  | none => none
theorem d_list (hg : Gl X "list") (hm : X.mg "list" = none) (ha : PEd X a fa) (he : starEach [a] X.env = (false, eval a X.env) :: starEach [] X.env := by rfl) : PEd X (.Call (.Name "list" p) [a] [] pos) (cal1 gList fa) := d_callT1 call_list_of (fun F => ⟨fun ς G σ H x dx res Q rl hx e k => by
  unfold gList at e
  split at e
  · rename_i ds q
    cases e
    obtain ⟨l, vs, rfl, h1, h2⟩ := items_ok rl.sub hx q
    exact ⟨l, vs, rfl, h1, fun z hz => k _ _ G (rl.layF hz) (Same.refl _) (rl.repF hz h2)⟩
  · cases e⟩) hg hm (by decide +kernel) ha (he := he) (hpl := rfl)
def gTuple (x : D) : Option R := match items x with
  | some ds => some (.pure (.tuple ds))
  | none => none
theorem d_tuple (hg : Gl X "tuple") (hm : X.mg "tuple" = none) (ha : PEd X a fa) (he : starEach [a] X.env = (false, eval a X.env) :: starEach [] X.env := by rfl) : PEd X (.Call (.Name "tuple" p) [a] [] pos) (cal1 gTuple fa) := d_callT1 call_tuple_of (fun F => ⟨fun ς G σ H x dx res Q rl hx e k => by
  cases dx with
  | list ds =>
    cases e
    obtain ⟨q, vs, rfl, h1, h2⟩ := hx.list rl.sub
    exact ⟨q, vs, rfl, .inl ⟨h1, fun z hz => k _ _ _ (rl.lay hz) (same_upd (rl.gnone hz)) (rl.layD hz h2)⟩⟩
  | tuple ds =>
    cases e
    rcases hx with hx | ⟨_, _, _, _, ee, _⟩
    · obtain ⟨q, vs, e6, h1, h2⟩ := dp_tuple hx
      subst e6
      exact ⟨q, vs, rfl, .inr ⟨same_seqT rl.sub h1, k _ H G rl (Same.refl _) hx⟩⟩
    · cases ee
  | _ => cases e⟩) hg hm (by decide +kernel) ha (he := he) (hpl := rfl)
def bools : List D → Option (List Bool)
  | [] => some []
  | .bool b :: ds => match bools ds with
    | some bs => some (b :: bs)
    | none => none
  | _ :: _ => none
theorem bools_map : ∀ {ds : List D} {bs : List Bool}, bools ds = some bs → ds = bs.map PyData.bool
  | [], _, e => by cases e; rfl
  | .bool b :: ds, bs, e => by
    unfold bools at e
    split at e
    · rename_i bs' q
      cases e
      rw [bools_map q]; rfl
    · cases e
  | .none :: _, _, e => by cases e
  | .int _ :: _, _, e => by cases e
  | .str _ :: _, _, e => by cases e
  | .list _ :: _, _, e => by cases e
  | .tuple _ :: _, _, e => by cases e
  | .dict _ :: _, _, e => by cases e
def gAll : D → Option R
  | .list ds => match bools ds with
    | some bs => some (.pure (.bool (bs.all id)))
    | none => none
  | _ => none
theorem d_all (hc : X.calm = true) (hg : Gl X "all") (hm : X.mg "all" = none) (ha : PEd X a fa) (he : starEach [a] X.env = (false, eval a X.env) :: starEach [] X.env := by rfl) : PEd X (.Call (.Name "all" p) [a] [] pos) (cal1 gAll fa) := d_callB1 (cr_all hc) (fun F => ⟨fun ς G σ H x dx res Q rl hx e k => by
  cases dx with
  | list ds =>
    unfold gAll at e
    simp only at e
    split at e
    · rename_i bs q
      cases e
      obtain ⟨l, vs, rfl, h1, h2⟩ := hx.list rl.sub
      rw [bools_map q] at h2
      rw [dpa_bools_inv h2] at h1
      exact ⟨l, bs, rfl, h1, k _ H G rl (Same.refl _) (.bl _)⟩
    · cases e
  | _ => cases e⟩) hg hm (by decide +kernel) ha (he := he) (hpl := rfl)
def intsD : List D → Option (List Int)
  | [] => some []
  | .int b :: ds => match intsD ds with
    | some bs => some (b :: bs)
    | none => none
  | _ :: _ => none
theorem ints_map : ∀ {ds : List D} {bs : List Int}, intsD ds = some bs → ds = bs.map PyData.int
  | [], _, e => by cases e; rfl
  | .int b :: ds, bs, e => by
    unfold intsD at e
    split at e
    · rename_i bs' q
      cases e
      rw [ints_map q]; rfl
    · cases e
  | .none :: _, _, e => by cases e
  | .bool _ :: _, _, e => by cases e
  | .str _ :: _, _, e => by cases e
  | .list _ :: _, _, e => by cases e
  | .tuple _ :: _, _, e => by cases e
  | .dict _ :: _, _, e => by cases e
def g2I (h : Int → Int → Int) : D → D → Option R
  | .int i, .int j => some (.pure (.int (h i j)))
  | _, _ => none
theorem d_max2 (hc : X.calm = true) (hg : Gl X "max") (hm : X.mg "max" = none) (ha : PEd X a fa) (hb : PEd X b fb) (he : starEach [a, b] X.env = (false, eval a X.env) :: starEach [b] X.env := by rfl) (he2 : starEach [b] X.env = (false, eval b X.env) :: starEach [] X.env := by rfl) (hpl : (backTo pos (starEach [b] X.env)).any (·.1) = false := by rfl) :
    PEd X (.Call (.Name "max" p) [a, b] [] pos) (op2 (g2I fun i j => if j > i then j else i) fa fb) := d_callB2 (call_max2 hc) (fun F => ⟨fun ς G σ H x y dx dy res Q rl hx hy e k => by
  cases dx with
  | int i =>
    cases dy with
    | int j => cases e; exact ⟨i, j, by rw [hx.int, hy.int], k _ H G rl (Same.refl _) (.int _)⟩
    | _ => cases e
  | _ => cases e⟩) hg hm (by decide +kernel) ha hb (he := he) (he2 := he2) (hpl := hpl)
theorem d_min2 (hc : X.calm = true) (hg : Gl X "min") (hm : X.mg "min" = none) (ha : PEd X a fa) (hb : PEd X b fb) (he : starEach [a, b] X.env = (false, eval a X.env) :: starEach [b] X.env := by rfl) (he2 : starEach [b] X.env = (false, eval b X.env) :: starEach [] X.env := by rfl) (hpl : (backTo pos (starEach [b] X.env)).any (·.1) = false := by rfl) :
    PEd X (.Call (.Name "min" p) [a, b] [] pos) (op2 (g2I fun i j => if j < i then j else i) fa fb) := d_callB2 (call_min2 hc) (fun F => ⟨fun ς G σ H x y dx dy res Q rl hx hy e k => by
  cases dx with
  | int i =>
    cases dy with
    | int j => cases e; exact ⟨i, j, by rw [hx.int, hy.int], k _ H G rl (Same.refl _) (.int _)⟩
    | _ => cases e
  | _ => cases e⟩) hg hm (by decide +kernel) ha hb (he := he) (he2 := he2) (hpl := hpl)
/-- divmod of a number not below 0 -/
def gDm : D → D → Option R
  | .int i, .int j => if 0 < j ∧ j < 2 ^ 200 then some (.pure (.tuple [.int (i / j), .int (i % j)])) else none
  | _, _ => none
theorem divp_200 {i j : Int} (h : 0 < j ∧ j < 2 ^ 200) : CDivP i j := by
  obtain ⟨w1, w2⟩ : CDivW i j := by
    refine wide_div (b := 200) h.1 ?_ (by decide) (by decide)
    have h2 : j.toNat < 2 ^ 200 := by
      rw [Int.toNat_lt (n := 2 ^ 200) (by omega : 0 ≤ j)]
      exact_mod_cast h.2
    omega
  refine ⟨h.1, ?_⟩
  exact PyProof.noPylong_of_log2 w2
theorem d_divmod (hg : Gl X "divmod") (hm : X.mg "divmod" = none) (ha : PEd X a fa) (hb : PEd X b fb) (he : starEach [a, b] X.env = (false, eval a X.env) :: starEach [b] X.env := by rfl) (he2 : starEach [b] X.env = (false, eval b X.env) :: starEach [] X.env := by rfl) (hpl : (backTo pos (starEach [b] X.env)).any (·.1) = false := by rfl) :
    PEd X (.Call (.Name "divmod" p) [a, b] [] pos) (op2 gDm fa fb) := d_callB2 call_divmodW (fun F => ⟨fun ς G σ H x y dx dy res Q rl hx hy e k => by
  cases dx with
  | int i =>
    cases dy with
    | int j =>
      replace e : (if 0 < j ∧ j < 2 ^ 200 then some (R.pure (.tuple [.int (i / j), .int (i % j)])) else none) = some res := e
      by_cases q : 0 < j ∧ j < 2 ^ 200
      · rw [if_pos q] at e; cases e
        exact ⟨i, j, by rw [hx.int, hy.int], divp_200 q, fun z hz => k _ _ _ (rl.lay hz) (same_upd (rl.gnone hz)) (rl.layD hz (.cons (.int _) (.cons (.int _) .nil)))⟩
      · rw [if_neg q] at e; cases e
    | _ => cases e
  | _ => cases e⟩) hg hm (by decide +kernel) ha hb (he := he) (he2 := he2) (hpl := hpl)
end
end Lw
namespace Lw
open PySem PySem.Spec PyProof.Rows L2
section
variable {X : Cx} {a b c e : Expr} {es : List Expr} {fa fb fc f : M R} {pos p p1 p2 p3 : Pos} {x : Str}
/-! ### isinstance -/
inductive Tn where
  | int | bool | str | list | tuple
def Tn.name : Tn → String
  | .int => "int" | .bool => "bool" | .str => "str" | .list => "list" | .tuple => "tuple"
def tyN : D → String
  | .none => "NoneType" | .bool _ => "bool" | .int _ => "int" | .str _ => "str" | .list _ => "list" | .tuple _ => "tuple" | .dict _ => "dict"
def isD : Tn → D → Bool
  | .int, .int _ => true
  | .int, .bool _ => true
  | .bool, .bool _ => true
  | .str, .str _ => true
  | .list, .list _ => true
  | .tuple, .tuple _ => true
  | _, _ => false
theorem kit_isD (t : Tn) (d : D) : kitB (tyN d) t.name = some (isD t d) := by
  cases t <;> cases d <;> (dsimp only [tyN, isD, Tn.name]; decide +kernel)
theorem tyX_of {K : PySem.W.Frag} {H : Hp} {v : V} {d : D} (h : Dp K H v d) : TyX K H v (.type (tyN d)) := by
  cases h with
  | non => exact .base .non
  | bl b => exact .base (.bl b)
  | int i => exact .base (.int i)
  | str x => exact .base (.str x)
  | lst h _ =>
    rcases h with (h | ⟨o, h⟩) | ⟨o, _, _, h, hc, _⟩
    · exact .base (.lst h)
    · exact .base (.frz h)
    · exact .kList h hc
  | tup h _ =>
    rcases h with (h | ⟨o, h⟩) | ⟨o, _, _, h, hc, _⟩
    · exact .base (.tup h)
    · exact .fTuple h
    · exact .kTuple h hc
def isE (fa : M R) (ts : List Tn) : M R := bd (sub fa) fun r => bd (rd r) fun d => ret (.pure (.bool (ts.any fun t => isD t d)))
theorem kitAny_of {K : PySem.W.Frag} {d : D} : ∀ ts : List Tn, PySem.W.kitAny K (.type (tyN d)) (ts.map fun t => .type t.name) = some (ts.any fun t => isD t d)
  | [] => rfl
  | t :: ts => kitAny_cons (kit_ty (kit_isD t d)) (fun h => by rw [List.any_cons, h, Bool.false_or]; exact kitAny_of ts) (fun h => by rw [List.any_cons, h, Bool.true_or])
theorem clsV_of : ∀ ts : List Tn, Paired ClsV (ts.map fun t => V.ty t.name) (ts.map fun t => Value.type t.name)
  | [] => .nil
  | t :: ts => .cons (.ty _) (clsV_of ts)
theorem d_isi1 {y : Str} (t : Tn) (hg : Gl X "isinstance") (hm : X.mg "isinstance" = none) (ha : PEd X a fa) (hy : PE X (.Name y p2) (tC (.ty t.name))) (he : starEach [a, .Name y p2] X.env = (false, eval a X.env) :: starEach [.Name y p2] X.env := by rfl) :
    PEd X (.Call (.Name "isinstance" p) [a, .Name y p2] [] pos) (isE fa [t]) := fun F => PE.mono (pe_callB call_isi hg hm (by decide +kernel) (pa_cons (d_sub ha F) (pa_cons hy pa_nil) he) (he := he) (hpl := rfl)) fun σ H Q hq => by
  obtain ⟨ς, G, rl, r, ς', e, k⟩ := hq
  obtain ⟨a, ς1, e1, q1⟩ := bd_some e
  obtain ⟨d, ς3, e3', q3⟩ := bd_some q1
  obtain ⟨e3, h3⟩ := rd_some e3'
  subst h3
  cases q3
  refine ⟨ς, G, rl, a, _, e1, fun v H1 G1 rl1 s1 rep1 => ?_⟩
  have rv := rdD_ok rl1 rep1 e3
  exact ⟨v, .ty t.name, _, _, _, rfl, .ty _, tyX_of (rv.dp rl1.sub), kit_ty (kit_isD t d), k _ H1 G1 rl1 s1 (by rw [List.any_cons, List.any_nil, Bool.or_false]; exact .bl _)⟩
theorem tys_len (ts : List Tn) (h : ts.length ≤ 100) : (ts.map fun t => V.ty t.name).length ≤ sizeLine := by rw [List.length_map, sizeLine_eq]; omega
theorem d_isiN {tys : List Expr} {kk : Nat} (ts : List Tn) (hg : Gl X "isinstance") (hm : X.mg "isinstance" = none) (ha : PEd X a fa) (hy : PA X tys (fun σ H Q => Q (ts.map fun t => V.ty t.name) H)) (hl : ts.length ≤ 100 := by decide) (he : starEach [a, .Tuple tys kk p2] X.env = (false, eval a X.env) :: starEach [.Tuple tys kk p2] X.env := by rfl) :
    PEd X (.Call (.Name "isinstance" p) [a, .Tuple tys kk p2] [] pos) (isE fa ts) := fun F => PE.mono (pe_callB call_isiT hg hm (by decide +kernel) (pa_cons (d_sub ha F) (pa_cons (pe_tup hy) pa_nil) he) (he := he) (hpl := rfl)) fun σ H Q hq => by
  obtain ⟨ς, G, rl, r, ς', e, k⟩ := hq
  obtain ⟨a, ς1, e1, q1⟩ := bd_some e
  obtain ⟨d, ς3, e3', q3⟩ := bd_some q1
  obtain ⟨e3, h3⟩ := rd_some e3'
  subst h3
  cases q3
  refine ⟨ς, G, rl, a, _, e1, fun v H1 G1 rl1 s1 rep1 => ⟨tys_len ts hl, fun z hz => ?_⟩⟩
  have rv := rdD_ok rl1 rep1 e3
  have ty := tyX_of (dp_same (same_upd (o := .tup (ts.map fun t => V.ty t.name)) hz) (rv.dp rl1.sub))
  exact ⟨v, z, _, _, _, _, rfl, upd_same, clsV_of ts, ty, kitAny_of ts, k _ _ _ (rl1.lay hz) (s1.trans (same_upd (rl1.gnone hz))) (.bl _)⟩
/-- the types' names as arguments -/
theorem ty_nil : PA X [] (fun σ H Q => Q (([] : List Tn).map fun t => V.ty t.name) H) := pa_nil
theorem ty_cons {y : Str} {ts : List Tn} (t : Tn) (hy : PE X (.Name y p2) (tC (.ty t.name))) (h : PA X es (fun σ H Q => Q (ts.map fun t => V.ty t.name) H)) (he : starEach (.Name y p2 :: es) X.env = (false, eval (.Name y p2) X.env) :: starEach es X.env := by rfl) :
    PA X (.Name y p2 :: es) (fun σ H Q => Q ((t :: ts).map fun t => V.ty t.name) H) := pa_cons hy h he
/-! ### repr of data -/
end
/-! ### another entry to hold on to -/
section
variable {K : PySem.W.Frag} {F : Fx} {ς ς' : En} {G H G' H' : Hp} {σ σ' : L2.St}
noncomputable def Fx.now (F : Fx) (ς : En) (G : Hp) (σ : L2.St) (H : Hp) : Fx where
  A := F.A
  G0 := G
  H0 := fun a => @ite _ (∃ (i : Nat) (ds : List D), ς[i]? = some (some (.own false ds)) ∧ σ[i]? = some (some (.ref a))) (Classical.propDecidable _) none (H a)
theorem now_none (r : Rel K F ς G σ H) {a : Addr} (h : (F.now ς G σ H).H0 a = none) : F.H0 a = none := by
  by_cases q : ∃ (i : Nat) (ds : List D), ς[i]? = some (some (.own false ds)) ∧ σ[i]? = some (some (.ref a))
  · obtain ⟨i, ds, h1, h2⟩ := q
    obtain ⟨a', vs, e1, _, _, _, _, e6⟩ := r.ow i false ds h1
    rw [h2] at e1; cases e1
    exact e6 rfl
  · have h' : H a = none := by
      unfold Fx.now at h
      simp only at h
      rw [if_neg q] at h
      exact h
    exact r.new h'
theorem now_some (r : Rel K F ς G σ H) {a : Addr} {o : HO} (h : H a = some o) (q : ∀ (i : Nat) b ds, ς[i]? = some (some (.own b ds)) → σ[i]? ≠ some (some (.ref a))) : (F.now ς G σ H).H0 a = some o := by
  unfold Fx.now
  simp only
  rw [if_neg (by rintro ⟨i, ds, h1, h2⟩; exact q i _ _ h1 h2)]
  exact h
theorem Rel.now (r : Rel K F ς G σ H) : Rel K (F.now ς G σ H) ς G σ H where
  len := r.len
  sub := r.sub
  g0 := Same.refl _
  pu := r.pu
  ow := fun i b ds e => by
    obtain ⟨a, vs, e1, e2, e3, e4, e5, e6⟩ := r.ow i b ds e
    refine ⟨a, vs, e1, e2, e3, e4, e5, fun hb => ?_⟩
    subst hb
    unfold Fx.now
    simp only
    rw [if_pos ⟨i, ds, e, e1⟩]
  ap := r.ap
  par := r.par
  fr := fun a o h _ => by
    unfold Fx.now at h
    simp only at h
    split at h
    · cases h
    · exact h
  nw := fun a h => .inl h
theorem Rel.back (r : Rel K F ς G σ H) (r1 : Rel K (F.now ς G σ H) ς' G' σ' H') : Rel K F ς' G' σ' H' where
  len := r1.len
  sub := r1.sub
  g0 := r.g0.trans r1.g0
  pu := r1.pu
  ow := fun i b ds e => by
    obtain ⟨a, vs, e1, e2, e3, e4, e5, e6⟩ := r1.ow i b ds e
    exact ⟨a, vs, e1, e2, e3, e4, e5, fun hb => now_none r (e6 hb)⟩
  ap := r1.ap
  par := r1.par
  fr := fun a o h na => by
    have h1 := r.fr a o h na
    refine r1.fr a o ?_ na
    cases q : (F.now ς G σ H).H0 a with
    | none => rw [now_none r q] at h; cases h
    | some o' =>
      have := r.now.fr a o' q na
      rw [h1] at this; exact this.symm
  nw := fun a h => by
    rcases r1.nw a h with q | q
    · exact r.nw a q
    · exact .inr (now_none r q)
/-- a list that is nobody's stays so -/
theorem Rel.keepF (r : Rel K F ς G σ H) (r1 : Rel K (F.now ς G σ H) ς' G' σ' H') {a : Addr} {o : HO} (h1 : H a = some o) (h2 : G a = none) (h5 : ∀ (i : Nat) b es, ς[i]? = some (some (.own b es)) → σ[i]? ≠ some (some (.ref a))) :
    H' a = some o ∧ G' a = none ∧ ∀ (i : Nat) b es, ς'[i]? = some (some (.own b es)) → σ'[i]? ≠ some (some (.ref a)) := by
  have q := now_some r h1 h5
  have np : ∀ i, F.A i ≠ some a := fun i z => by
    obtain ⟨ds, e⟩ := r.par i a z
    exact h5 i _ _ e (r.own_in z).1
  refine ⟨r1.fr a o q np, ?_, fun i b es e z => ?_⟩
  · cases z : G' a with
    | none => rfl
    | some y =>
      rcases r1.nw a (by rw [z]; simp) with w | w
      · exact absurd h2 w
      · rw [q] at w; cases w
  · obtain ⟨a', vs, e1, _, _, _, e5, e6⟩ := r1.ow i b es e
    rw [z] at e1; cases e1
    cases b with
    | true => exact np i (e5 rfl)
    | false => rw [e6 rfl] at q; cases q
theorem Rel.keepR (r : Rel K F ς G σ H) (r1 : Rel K (F.now ς G σ H) ς' G' σ H') {x : R} {v : V} (h : RepR K F ς G σ H x v) : RepR K F ς' G' σ H' x v := by
  cases x with
  | pure d => exact dp_same r1.g0 h
  | ref i => exact h
  | fresh ds =>
    obtain ⟨a, vs, rfl, h1, h2, h3, h4, h5⟩ := h
    obtain ⟨k1, k2, k3⟩ := r.keepF r1 h1 h2 h5
    exact ⟨a, vs, rfl, k1, k2, dpa_same r1.g0 h3, h4, k3⟩
end
end Lw
namespace Lw
open PySem PySem.Spec PyProof.Rows L2
inductive Out where
  | nx (ς : En)
  | rt (r : R) (ς : En)
  | bk (ς : En)
  | ct (ς : En)
abbrev MS := En → Option Out
def EndsOk (K : PySem.W.Frag) (F : Fx) (G : Hp) (D : Ends) : Out → Prop
  | .nx ς' => ∀ σ' H' G', Rel K F ς' G' σ' H' → Same G G' → D.nx σ' H'
  | .rt r ς' => ∀ v σ' H' G', Rel K F ς' G' σ' H' → Same G G' → RepR K F ς' G' σ' H' r v → D.rt v H'
  | .bk ς' => ∀ σ' H' G', Rel K F ς' G' σ' H' → Same G G' → D.bk σ' H'
  | .ct ς' => ∀ σ' H' G', Rel K F ς' G' σ' H' → Same G G' → D.ct σ' H'
theorem EndsOk.mono {K : PySem.W.Frag} {F : Fx} {G G1 : Hp} {D : Ends} {o : Out} (s : Same G G1) (h : EndsOk K F G D o) : EndsOk K F G1 D o := by
  cases o with
  | nx ς => exact fun σ' H' G' r z => h σ' H' G' r (s.trans z)
  | rt r ς => exact fun v σ' H' G' r z => h v σ' H' G' r (s.trans z)
  | bk ς => exact fun σ' H' G' r z => h σ' H' G' r (s.trans z)
  | ct ς => exact fun σ' H' G' r z => h σ' H' G' r (s.trans z)
def tSt (K : PySem.W.Frag) (F : Fx) (g : MS) : TS := fun D σ H => ∃ ς G, Rel K F ς G σ H ∧ ∃ o, g ς = some o ∧ EndsOk K F G D o
abbrev PSd (X : Cx) (st : Stmt) (g : MS) : Prop := ∀ F : Fx, PS X st (tSt X.K F g)
abbrev PSsd (X : Cx) (st : List Stmt) (g : MS) : Prop := ∀ F : Fx, PSs X st (tSt X.K F g)
section
variable {X : Cx} {a b c e : Expr} {es : List Expr} {fa fb fc f : M R} {ta : M Bool} {pos p p1 p2 p3 : Pos} {x : Str} {st : Stmt} {sts rest : List Stmt} {g g1 g2 : MS}
def skip : MS := fun ς => some (.nx ς)
def sq (g1 g2 : MS) : MS := fun ς => match g1 ς with
  | some (.nx ς') => g2 ς'
  | o => o
theorem s_nil : PSsd X [] skip := fun F => PSs.mono pss_nil fun D σ H hq => by
  obtain ⟨ς, G, rl, o, e, k⟩ := hq
  cases e
  exact k σ H G rl (Same.refl _)
theorem s_cons (h1 : PSd X st g1) (h2 : PSsd X rest g2) : PSsd X (st :: rest) (sq g1 g2) := fun F => PSs.mono (pss_cons (h1 F) (h2 F)) fun D σ H hq => by
  obtain ⟨ς, G, rl, o, e, k⟩ := hq
  unfold sq at e
  split at e
  · rename_i ς1 q
    exact ⟨ς, G, rl, _, q, fun σ' H' G' rl' s => ⟨ς1, G', rl', o, e, k.mono s⟩⟩
  · rename_i q
    refine ⟨ς, G, rl, o, e, ?_⟩
    cases o with
    | nx ς1 => exact absurd e (q ς1)
    | rt r ς1 => exact k
    | bk ς1 => exact k
    | ct ς1 => exact k
theorem s_one (h1 : PSd X st g1) : PSsd X [st] g1 := fun F => pss_one (h1 F)
def brk : MS := fun ς => some (.bk ς)
def exS (f : M R) : MS := fun ς => match f ς with
  | some (_, ς') => some (.nx ς')
  | none => none
theorem s_expr (he : PEd X e f) (hs : swapsWith e none pos.line X.env = pure false := by rfl) : PSd X (.Expr e pos) (exS f) := fun F => PS.mono (ps_expr (he F) hs) fun D σ H hq => by
  obtain ⟨ς, G, rl, o, e, k⟩ := hq
  unfold exS at e
  split at e
  · rename_i r ς1 q
    cases e
    exact ⟨ς, G, rl, r, ς1, q, fun v H' G' rl' s _ => k σ H' G' rl' s⟩
  · cases e
def retS (f : M R) : MS := fun ς => match f ς with
  | some (.pure d, ς') => some (.rt (.pure d) ς')
  | some (.fresh ds, ς') => some (.rt (.fresh ds) ς')
  | some (.ref i, ς') => match ς'[i]? with
    | some (some (.own false ds)) => some (.rt (.fresh ds) (ς'.set i none))
    | some (some (.pure d)) => some (.rt (.pure d) ς')
    | _ => none
  | none => none
theorem Rel.move {K : PySem.W.Frag} {F : Fx} {ς : En} {G H : Hp} {σ : L2.St} (r : Rel K F ς G σ H) {i : Nat} {ds : List D} {v : V} (h : ς[i]? = some (some (.own false ds))) (hv : σ[i]? = some (some v)) :
    Rel K F (ς.set i none) G (σ.set i none) H ∧ RepR K F (ς.set i none) G (σ.set i none) H (.fresh ds) v := by
  have hf : free ς i = true := by unfold free; rw [h]
  obtain ⟨a, vs, e1, e2, e3, e4, _, e6⟩ := r.ow i false ds h
  rw [hv] at e1; cases e1
  refine ⟨r.setN hf, a, vs, rfl, e2, e3, e4, e6 rfl, fun j b es q z => ?_⟩
  replace q := get_set q; rcases q with ⟨rfl, q⟩ | ⟨n, q⟩
  · cases q
  · rw [List.getElem?_set_ne n] at z
    exact n (r.ap i j false b ds es a h q hv z)
theorem s_ret (he : PEd X e f) : PSd X (.Return (some e) pos) (retS f) := fun F => PS.mono (ps_ret (he F)) fun D σ H hq => by
  obtain ⟨ς, G, rl, o, e, k⟩ := hq
  unfold retS at e
  split at e
  · rename_i d ς1 q
    cases e
    exact ⟨ς, G, rl, _, ς1, q, fun v H' G' rl' s rep => k v σ H' G' rl' s rep⟩
  · rename_i ds ς1 q
    cases e
    exact ⟨ς, G, rl, _, ς1, q, fun v H' G' rl' s rep => k v σ H' G' rl' s rep⟩
  · rename_i i ς1 q
    refine ⟨ς, G, rl, _, ς1, q, fun v H' G' rl' s rep => ?_⟩
    split at e
    · rename_i ds q2
      cases e
      obtain ⟨r1, r2⟩ := rl'.move q2 rep
      exact k v _ H' G' r1 s r2
    · rename_i d q2
      cases e
      obtain ⟨w, h1, h2⟩ := rl'.pu i _ q2
      rw [show σ[i]? = some (some v) from rep] at h1
      cases h1
      exact k v σ H' G' rl' s h2
    · cases e
  · cases e
def ifS (t : M Bool) (g1 g2 : MS) : MS := fun ς => match t ς with
  | some (true, ς') => g1 ς'
  | some (false, ς') => g2 ς'
  | none => none
theorem s_if (hc : PTd X c ta) (h1 : PSsd X sts g1) (h2 : PSsd X rest g2) : PSd X (.If c sts rest pos) (ifS ta g1 g2) := fun F => PS.mono (ps_if (hc F) (h1 F) (h2 F)) fun D σ H hq => by
  obtain ⟨ς, G, rl, o, e, k⟩ := hq
  unfold ifS at e
  split at e
  · rename_i ς1 q
    refine ⟨ς, G, rl, true, ς1, q, fun H' G' rl' s => ?_⟩
    exact iteT ⟨ς1, G', rl', o, e, k.mono s⟩
  · rename_i ς1 q
    refine ⟨ς, G, rl, false, ς1, q, fun H' G' rl' s => ?_⟩
    exact iteF ⟨ς1, G', rl', o, e, k.mono s⟩
  · cases e
/-! ### targets -/
abbrev Tg := D → En → Option En
def tTg (K : PySem.W.Frag) (F : Fx) (vs : List Nat) (tg : Tg) : TG := fun v σ H Q => ∃ ς G d, Rel K F ς G σ H ∧ Dp K G v d ∧ ∃ ς', tg d ς = some ς' ∧ ∀ σ' H' G', Rel K F ς' G' σ' H' → Same G G' → wipe σ' vs = wipe σ vs → Q σ' H'
theorem _root_.L2.PG.mono {t t' : TG} {tg : Expr} (h : PG X tg t) (k : ∀ v σ H Q, t' v σ H Q → t v σ H Q) : PG X tg t' := ⟨fun pins s σ H v u Q I r hw => h.run pins s σ H v u Q I r (k v σ H Q hw)⟩
abbrev PGd (X : Cx) (e : Expr) (vs : List Nat) (tg : Tg) : Prop := ∀ F : Fx, PG X e (tTg X.K F vs tg)
def tgN (i : Nat) : Tg := fun d ς => if free ς i = true then some (ς.set i (some (.pure d))) else none
theorem wipe_set (σ : L2.St) (i : Nat) (o : Option V) : ∀ vs : List Nat, i ∈ vs → wipe (σ.set i o) vs = wipe σ vs
  | [], h => by cases h
  | j :: vs, h => by
    by_cases hm : i ∈ vs
    · unfold wipe; rw [wipe_set σ i o vs hm]
    · have e : i = j := by
        rcases List.mem_cons.mp h with e | e
        · exact e
        · exact absurd e hm
      subst e
      unfold wipe
      have : ∀ ws : List Nat, i ∉ ws → (wipe (σ.set i o) ws).set i none = (wipe σ ws).set i none := by
        intro ws
        induction ws with
        | nil => intro _; show (σ.set i o).set i none = σ.set i none; rw [List.set_set]
        | cons w ws ih =>
          intro hw
          have h1 : i ≠ w := fun z => hw (by rw [z]; exact List.mem_cons_self)
          have h2 : i ∉ ws := fun z => hw (List.mem_cons_of_mem _ z)
          show ((wipe (σ.set i o) ws).set w none).set i none = ((wipe σ ws).set w none).set i none
          rw [List.set_comm _ _ (Ne.symm h1), ih h2, List.set_comm _ _ h1]
      exact this vs hm
theorem g_name {i : Nat} (h : PG X (.Name x pos) (gName i)) : PGd X (.Name x pos) [i] (tgN i) := fun F => PG.mono h fun v σ H Q hq => by
  obtain ⟨ς, G, d, rl, hd, ς', e, k⟩ := hq
  unfold tgN at e
  split at e
  · rename_i q
    cases e
    exact k _ H G (rl.setP q hd) (Same.refl _) (wipe_set σ i _ [i] (by simp))
  · cases e
/-- several targets -/
abbrev Tgs := List D → En → Option En
def tTgs (K : PySem.W.Frag) (F : Fx) (vs : List Nat) (tg : Tgs) : TGs := fun ws σ H Q => ∃ ς G ds, Rel K F ς G σ H ∧ DpAll K G ws ds ∧ ∃ ς', tg ds ς = some ς' ∧ ∀ σ' H' G', Rel K F ς' G' σ' H' → Same G G' → wipe σ' vs = wipe σ vs → Q σ' H'
theorem _root_.L2.PGs.mono {t t' : TGs} {tg : List Expr} (h : PGs X tg t) (k : ∀ v σ H Q, t' v σ H Q → t v σ H Q) : PGs X tg t' := ⟨fun pins s σ H v u Q I r hw => h.run pins s σ H v u Q I r (k v σ H Q hw)⟩
abbrev PGsd (X : Cx) (e : List Expr) (vs : List Nat) (tg : Tgs) : Prop := ∀ F : Fx, PGs X e (tTgs X.K F vs tg)
def tgsN : Tgs := fun ds ς => match ds with
  | [] => some ς
  | _ => none
def tgsC (t : Tg) (u : Tgs) : Tgs := fun ds ς => match ds with
  | d :: r => match t d ς with
    | some ς' => u r ς'
    | none => none
  | [] => none
theorem gs_nil : PGsd X [] [] tgsN := fun F => PGs.mono pgs_nil fun v σ H Q hq => by
  obtain ⟨ς, G, ds, rl, hd, ς', e, k⟩ := hq
  cases hd with
  | nil => cases e; exact ⟨rfl, k σ H G rl (Same.refl _) rfl⟩
  | cons _ _ => cases e
theorem wipe_app (σ : L2.St) : ∀ vs ws : List Nat, wipe σ (vs ++ ws) = wipe (wipe σ ws) vs
  | [], _ => rfl
  | v :: vs, ws => by show (wipe σ (vs ++ ws)).set v none = (wipe (wipe σ ws) vs).set v none; rw [wipe_app σ vs ws]
theorem wipe_comm1 (σ : L2.St) (i : Nat) : ∀ vs : List Nat, wipe (σ.set i none) vs = (wipe σ vs).set i none
  | [] => rfl
  | v :: vs => by
    show (wipe (σ.set i none) vs).set v none = ((wipe σ vs).set v none).set i none
    rw [wipe_comm1 σ i vs]
    by_cases h : i = v
    · rw [h]
    · rw [List.set_comm _ _ h]
theorem wipe_comm (σ : L2.St) : ∀ vs ws : List Nat, wipe (wipe σ ws) vs = wipe (wipe σ vs) ws
  | [], _ => rfl
  | v :: vs, ws => by show (wipe (wipe σ ws) vs).set v none = wipe ((wipe σ vs).set v none) ws; rw [wipe_comm σ vs ws, wipe_comm1]
theorem gs_cons {e : Expr} {es : List Expr} {t : Tg} {u : Tgs} {vs ws : List Nat} (h1 : PGd X e vs t) (h2 : PGsd X es ws u) (hs : PGs X (e :: es) (gCons (fun v σ H Q => ∃ F, tTg X.K F vs t v σ H Q) (fun v σ H Q => ∃ F, tTgs X.K F ws u v σ H Q))) : PGsd X (e :: es) (vs ++ ws) (tgsC t u) := fun F => PGs.mono hs fun zs σ H Q hq => by
  obtain ⟨ς, G, ds, rl, hd, ς', e, k⟩ := hq
  cases hd with
  | nil => cases e
  | cons d1 d2 =>
    rename_i v r d ds'
    unfold tgsC at e
    simp only at e
    split at e
    · rename_i ς1 q
      refine ⟨v, r, rfl, F, ς, G, d, rl, d1, ς1, q, fun σ1 H1 G1 rl1 s1 w1 => ⟨F, ς1, G1, ds', rl1, dpa_same s1 d2, ς', e, fun σ2 H2 G2 rl2 s2 w2 => k σ2 H2 G2 rl2 (s1.trans s2) ?_⟩⟩
      rw [wipe_app, wipe_app, w2, wipe_comm, w1, wipe_comm]
    · cases e
theorem PGd.ex {e : Expr} {vs : List Nat} {t : Tg} (h : PGd X e vs t) : PG X e (fun v σ H Q => ∃ F, tTg X.K F vs t v σ H Q) := ⟨fun pins s σ H v u Q I r ⟨F, hw⟩ => (h F).run pins s σ H v u Q I r hw⟩
theorem PGsd.ex {e : List Expr} {vs : List Nat} {t : Tgs} (h : PGsd X e vs t) : PGs X e (fun v σ H Q => ∃ F, tTgs X.K F vs t v σ H Q) := ⟨fun pins s σ H v u Q I r ⟨F, hw⟩ => (h F).run pins s σ H v u Q I r hw⟩
theorem _root_.L2.PG.or {t t' : TG} {tg : Expr} (h : PG X tg t) (h' : PG X tg t') : PG X tg (fun v σ H Q => t v σ H Q ∨ t' v σ H Q) := ⟨fun pins s σ H v u Q I r hw => by
  rcases hw with hw | hw
  · exact h.run pins s σ H v u Q I r hw
  · exact h'.run pins s σ H v u Q I r hw⟩
def tgT (n : Nat) (u : Tgs) : Tg := fun d ς => match items d with
  | some ds => if ds.length = n then u ds ς else none
  | none => none
theorem g_tup {es : List Expr} {k n : Nat} {u : Tgs} {vs : List Nat} (h : PG X (.Tuple es k pos) (fun v σ H Q => gTup X.K n (fun v σ H Q => ∃ F, tTgs X.K F vs u v σ H Q) v σ H Q ∨ gLst X.K n (fun v σ H Q => ∃ F, tTgs X.K F vs u v σ H Q) v σ H Q)) : PGd X (.Tuple es k pos) vs (tgT n u) := fun F => PG.mono h fun v σ H Q hq => by
  obtain ⟨ς, G, d, rl, hd, ς', e, kk⟩ := hq
  unfold tgT at e
  split at e
  · rename_i ds q
    split at e
    · rename_i hl
      cases d with
      | list es =>
        cases q
        obtain ⟨a, ws, rfl, h1, h2⟩ := dp_list hd
        exact .inr ⟨a, ws, rfl, rl.sub.seq h1, by rw [dpa_len h2]; exact hl, F, ς, G, _, rl, h2, ς', e, kk⟩
      | tuple es =>
        cases q
        obtain ⟨a, ws, rfl, h1, h2⟩ := dp_tuple hd
        exact .inl ⟨a, ws, rfl, same_seqT rl.sub h1, by rw [dpa_len h2]; exact hl, F, ς, G, _, rl, h2, ς', e, kk⟩
      | _ => cases q
    · cases e
  · cases e
def tgS (fo fi : M R) : Tg := fun d ς => match fo ς with
  | some (.ref i, ς1) => match ptS fi ς1 with
    | some (some j, ς2) => match ς2[i]? with
      | some (some (.own b ds)) => match ixN ds.length j with
        | some n => some (ς2.set i (some (.own b (ds.set n d))))
        | none => none
      | _ => none
    | _ => none
  | _ => none
theorem PEd.ex {e : Expr} {f : M R} (h : PEd X e f) : PE X e (fun σ H Q => ∃ F, tEv X.K F f σ H Q) := ⟨fun pins s σ H Q I ⟨F, hw⟩ => (h F).run pins s σ H Q I hw⟩
theorem g_sub {o i : Expr} {fo fi : M R} (h : PG X (.Subscript o i pos) (gSub (fun σ H Q => ∃ F, tEv X.K F fo σ H Q) (fun σ H Q => ∃ F, tEv X.K F (sub fi) σ H Q) rSetL)) : PGd X (.Subscript o i pos) [] (tgS fo fi) := fun F => PG.mono h fun v σ H Q hq => by
  obtain ⟨ς, G, d, rl, hd, ς', e, k⟩ := hq
  unfold tgS at e
  split at e
  · rename_i n ς1 q1
    split at e
    · rename_i j ς2 q2
      split at e
      · rename_i b ds q3
        split at e
        · rename_i m q4
          cases e
          obtain ⟨r, ς3, e3, q5⟩ := bd_some q2
          obtain ⟨y, ς4, e4', q6⟩ := bd_some q5
          obtain ⟨e4, h4⟩ := rd_some e4'
          obtain ⟨e5, h5⟩ := lift_some q6
          subst h4 h5
          refine ⟨F, ς, G, rl, _, ς1, q1, fun ov H1 G1 rl1 s1 rep1 => ⟨F, ς1, G1, rl1, r, _, e3, fun iv H2 G2 rl2 s2 rep2 => ?_⟩⟩
          have ri := rdD_ok rl2 rep2 e4
          cases y with
          | int jj =>
            cases e5
            obtain ⟨a, ws, f1, f2, f3, f4, _⟩ := rl2.ow _ b ds q3
            rw [show σ[n]? = some (some ov) from rep1] at f1
            cases f1
            exact ⟨a, ws, j, m, rfl, ri.int, f2, by rw [dpa_len f4]; exact q4, k σ _ G2 (rl2.mut q3 rep1 (dpa_set (dp_same (s1.trans s2) hd) m f4)) (s1.trans s2) rfl⟩
          | _ => cases e5
        · cases e
      · cases e
    · cases e
  · cases e
/-- target = value -/
def asg (f : M R) (tg : Tg) : MS := fun ς => match esc f ς with
  | some (d, ς') => match tg d ς' with
    | some ς2 => some (.nx ς2)
    | none => none
  | none => none
theorem s_asg {tg : Expr} {vs : List Nat} {t : Tg} (he : PEd X e f) (hg : PGd X tg vs t) (hs : swapsWithSole [tg] e pos.line X.env = pure false := by rfl) (hw : swappedStores [tg] e X.env = pure none := by rfl) (h1 : (assignEach [tg] X.env).map (·.2) = [assign tg X.env] := by rfl) : PSd X (.Assign [tg] e pos) (asg f t) := fun F => PS.mono (ps_asg (d_esc he F) (hg F) hs hw h1) fun D σ H hq => by
  obtain ⟨ς, G, rl, o, e, k⟩ := hq
  unfold asg at e
  split at e
  · rename_i d ς1 q
    split at e
    · rename_i ς2 q2
      cases e
      exact ⟨ς, G, rl, d, ς1, q, fun v H' G' rl' s dp => ⟨ς1, G', d, rl', dp, ς2, q2, fun σ2 H2 G2 rl2 s2 _ => k σ2 H2 G2 rl2 (s.trans s2)⟩⟩
    · cases e
  · cases e
/-- name = a new list, the name's own -/
def asgO (i : Nat) (f : M R) : MS := fun ς => match f ς with
  | some (.fresh ds, ς') => if free ς' i = true then some (.nx (ς'.set i (some (.own false ds)))) else none
  | _ => none
theorem t_asgO {F : Fx} {i : Nat} : ∀ D σ H, tSt X.K F (asgO i f) D σ H → tAsg (tEv X.K F f) (gName i) D σ H := fun D σ H hq => by
  obtain ⟨ς, G, rl, o, e, k⟩ := hq
  unfold asgO at e
  split at e
  · rename_i ds ς1 q
    split at e
    · rename_i hf
      cases e
      exact ⟨ς, G, rl, _, ς1, q, fun v H' G' rl' s rep => k _ H' G' (rl'.setO hf rep) s⟩
    · cases e
  · cases e
theorem t_asgP {F : Fx} {i : Nat} : ∀ D σ H, tSt X.K F (asg f (tgN i)) D σ H → tAsg (tEv X.K F f) (gName i) D σ H := fun D σ H hq => by
  obtain ⟨ς, G, rl, o, e, k⟩ := hq
  unfold asg at e
  split at e
  · rename_i d ς1 q
    obtain ⟨r1, ς2, e1, e2⟩ := bd_some q
    split at e
    · rename_i ς3 q2
      cases e
      refine ⟨ς, G, rl, r1, ς2, e1, fun v H' G' rl' s rep => ?_⟩
      obtain ⟨G2, rl2, s2, dp⟩ := toD_ok rl' rep e2
      unfold tgN at q2
      split at q2
      · rename_i hf
        cases q2
        exact k _ H' G2 (rl2.setP hf dp) (s.trans s2)
      · cases q2
    · cases e
  · cases e
theorem s_asgO {i : Nat} (he : PEd X e f) (h : ∀ te : TE, PE X e te → PS X st (tAsg te (gName i))) : PSd X st (asgO i f) := fun F => PS.mono (h _ (he F)) t_asgO
/-- where the value is a comprehension -/
theorem s_asgL {i : Nat} {t : TE} (h : PS X st (tAsg t (gName i))) (ht : ∀ F σ H Q, tEv X.K F f σ H Q → t σ H Q) : PSd X st (asg f (tgN i)) := fun F => PS.mono h fun D σ H hq => ht F σ H _ (t_asgP D σ H hq)
/-! ### a, b = x, y in one go -/
def put (i : Nat) : R → Option (Option S)
  | .pure d => some (some (.pure d))
  | .fresh ds => some (some (.own false ds))
  | .ref _ => none
/-- what is to be stored: a datum, or (o) a new list as it is -/
def pv' (o : Bool) (f : M R) : M R := if o = true then f else bd (esc f) fun d => ret (.pure d)
theorem d_pv (o : Bool) (h : PEd X e f) : PEd X e (pv' o f) := by
  cases o with
  | true => exact h
  | false =>
    intro F
    refine PE.mono (d_esc h F) fun σ H Q hq => ?_
    obtain ⟨ς, G, rl, r, ς', e, k⟩ := hq
    obtain ⟨d, ς1, e1, q1⟩ := bd_some e
    cases q1
    exact ⟨ς, G, rl, d, _, e1, k⟩
def par2 (i j : Nat) (o1 o2 : Bool) (fa fb : M R) : MS := fun ς => match bd (pv' o1 fa) (fun x => bd (pv' o2 fb) fun y => ret (x, y)) ς with
  | some ((x, y), ς') => match put i x, put j y with
    | some s, some t => if free ς' i = true ∧ free (ς'.set i s) j = true ∧ i ≠ j then some (.nx ((ς'.set i s).set j t)) else none
    | _, _ => none
  | none => none
theorem Rel.put {K : PySem.W.Frag} {F : Fx} {ς : En} {G H : Hp} {σ : L2.St} (r : Rel K F ς G σ H) {i : Nat} {x : R} {v : V} {s : Option S} (hf : free ς i = true) (hs : put i x = some s) (h : RepR K F ς G σ H x v) : Rel K F (ς.set i s) G (σ.set i (some v)) H := by
  cases x with
  | pure d => cases hs; exact r.setP hf h
  | fresh ds => cases hs; exact r.setO hf h
  | ref k => cases hs
theorem s_par2 {i j : Nat} {o1 o2 : Bool} (ha : PEd X a fa) (hb : PEd X b fb) (h : ∀ t : TA, PA X [a, b] t → PS X st (tPar i j t)) (hs1 : starEach [a, b] X.env = (false, eval a X.env) :: starEach [b] X.env := by rfl) (hs2 : starEach [b] X.env = (false, eval b X.env) :: starEach [] X.env := by rfl) : PSd X st (par2 i j o1 o2 fa fb) := fun F =>
  PS.mono (h _ (pa_cons (PEd.ex (d_pv o1 ha)) (pa_cons (PEd.ex (d_pv o2 hb)) pa_nil hs2) hs1)) fun D σ H hq => by
    obtain ⟨ς, G, rl, o, e, k⟩ := hq
    unfold par2 at e
    split at e
    · rename_i x y ς' q
      obtain ⟨x', ς1, e1, q1⟩ := bd_some q
      obtain ⟨y', ς2, e2, q2⟩ := bd_some q1
      cases q2
      split at e
      · rename_i s t p1 p2
        split at e
        · rename_i hf
          cases e
          refine ⟨F, ς, G, rl, _, ς1, e1, fun v H1 G1 rl1 s1 rep1 => ⟨F.now ς1 G1 σ H1, ς1, G1, rl1.now, _, _, e2, fun w H2 G2 rl2 s2 rep2 => ⟨v, w, rfl, ?_⟩⟩⟩
          have rb := rl1.back rl2
          have rep1' := rl1.keepR rl2 rep1
          have ra := rb.put hf.1 p1 rep1'
          refine k _ H2 G2 (ra.put hf.2.1 p2 ?_) (s1.trans s2)
          cases y with
          | pure d => exact rep2
          | ref n => cases p2
          | fresh ds =>
            obtain ⟨a2, vs2, rfl, f1, f2, f3, f4, f5⟩ := rep2
            refine ⟨a2, vs2, rfl, f1, f2, f3, now_none rl1 f4, fun n b es z1 z2 => ?_⟩
            replace z1 := get_set z1; rcases z1 with ⟨rfl, z1⟩ | ⟨nn, z1⟩
            · have il : i < σ.length := by rw [rl.len] ; exact (by have := free_lt hf.1; rw [← rb.len] at this; rw [← rl.len]; exact this)
              rw [List.getElem?_set_self il] at z2
              have hv : v = .ref a2 := Option.some.inj (Option.some.inj z2)
              cases x with
              | pure d => cases p1; cases z1
              | ref n => cases p1
              | fresh ds1 =>
                obtain ⟨a1, vs1, e6, g1, g2, g3, g4, g5⟩ := rep1
                rw [hv] at e6
                cases e6
                rw [now_some rl1 g1 g5] at f4
                cases f4
            · rw [List.getElem?_set_ne nn] at z2
              exact f5 n b es z1 z2
        · cases e
      · cases e
    · cases e
def par3 (i j l : Nat) (fa fb fc : M R) : MS := fun ς => match bd (esc fa) (fun x => bd (esc fb) fun y => bd (esc fc) fun z => ret (x, y, z)) ς with
  | some ((x, y, z), ς') => if free ς' i = true ∧ free (ς'.set i (some (.pure x))) j = true ∧ free ((ς'.set i (some (.pure x))).set j (some (.pure y))) l = true then some (.nx (((ς'.set i (some (.pure x))).set j (some (.pure y))).set l (some (.pure z)))) else none
  | none => none
theorem PDd.ex {e : Expr} {f : M D} (h : PDd X e f) : PE X e (fun σ H Q => ∃ F, tEvD X.K F f σ H Q) := ⟨fun pins s σ H Q I ⟨F, hw⟩ => (h F).run pins s σ H Q I hw⟩
end
end Lw
namespace Lw
open PySem PySem.Spec PyProof.Rows L2
/-! ### what is walked -/
structure WalkD (K : PySem.W.Frag) (G : Hp) (J : It) (ds : List D) : Prop where
  stop : ∀ H, Same G H → J.stop ds.length H
  go : ∀ i H, i < ds.length → Same G H → J.go i H
  yld : ∀ (i : Nat) H x H' d, Same G H → J.yld i H x H' → ds[i]? = some d → (H' = H ∧ Dp K G x d) ∨ ∃ T xs es, x = .ref T ∧ H T = none ∧ H' = upd H T (.tup xs) ∧ d = .tuple es ∧ DpAll K G xs es
theorem WalkD.mono {K : PySem.W.Frag} {G G' : Hp} {J : It} {ds : List D} (w : WalkD K G J ds) (s : Same G G') : WalkD K G' J ds where
  stop := fun H h => w.stop H (s.trans h)
  go := fun i H hi h => w.go i H hi (s.trans h)
  yld := fun i H x H' d h y e => by
    rcases w.yld i H x H' d (s.trans h) y e with ⟨h1, h2⟩ | ⟨T, xs, es, h1, h2, h3, h4, h5⟩
    · exact .inl ⟨h1, dp_same s h2⟩
    · exact .inr ⟨T, xs, es, h1, h2, h3, h4, dpa_same s h5⟩
def tEvI (K : PySem.W.Frag) (F : Fx) (f : M (List D)) : TI := fun σ H R => ∃ ς G, Rel K F ς G σ H ∧ ∃ ds ς', f ς = some (ds, ς') ∧ ∀ J H' G', Rel K F ς' G' σ H' → Same G G' → WalkD K G' J ds → R J H'
theorem _root_.L2.PI.mono {X : Cx} {tg it : Expr} {t t' : TI} (h : PI X tg it t) (k : ∀ σ H R, t' σ H R → t σ H R) : PI X tg it t' := ⟨fun pins s σ H R I hw => h.run pins s σ H R I (k σ H R hw)⟩
theorem _root_.L2.PI.or {X : Cx} {tg it : Expr} {t t' : TI} (h : PI X tg it t) (h' : PI X tg it t') : PI X tg it (fun σ H R => t σ H R ∨ t' σ H R) := ⟨fun pins s σ H R I hw => by
  rcases hw with hw | hw
  · exact h.run pins s σ H R I hw
  · exact h'.run pins s σ H R I hw⟩
abbrev PId (X : Cx) (tg it : Expr) (f : M (List D)) : Prop := ∀ F : Fx, PI X tg it (tEvI X.K F f)
section
variable {X : Cx} {a b c e tg : Expr} {es : List Expr} {fa fb fc f : M R} {ta : M Bool} {pos p p1 p2 p3 : Pos} {x : Str} {st : Stmt} {sts rest : List Stmt} {g g1 g2 : MS}
variable {K : PySem.W.Frag} {G : Hp}
theorem walk_tup {l : Addr} {xs : List V} {ds : List D} (h : SqT K G l xs) (hd : DpAll K G xs ds) : WalkD K G (Itt K l) ds where
  stop := fun H s => ⟨xs, same_seqT s h, by rw [dpa_len hd]; exact Nat.le_refl _⟩
  go := fun i H hl s => by
    obtain ⟨v, e, _⟩ := dpa_get hd (List.getElem?_eq_getElem hl)
    exact ⟨xs, v, same_seqT s h, e⟩
  yld := fun i H x H' d s y e => by
    obtain ⟨y1, y2⟩ := y
    obtain ⟨v, e1, e2⟩ := dpa_get hd e
    have := y2 xs (same_seqT s h)
    rw [e1] at this; cases this
    exact .inl ⟨y1, e2⟩
/-- over a list or tuple -/
def itS (f : M R) : M (List D) := bd (esc f) fun d => lift (items d)
theorem i_seq (he : PEd X e f) : PId X tg e (itS f) := fun F => PI.mono (PI.or (pi_list (d_esc he F)) (pi_tup (d_esc he F))) fun σ H R hq => by
  obtain ⟨ς, G, rl, ds, ς', e, k⟩ := hq
  obtain ⟨d, ς1, e1, q1⟩ := bd_some e
  obtain ⟨e2, h2⟩ := lift_some q1
  subst h2
  cases d with
  | list es =>
    cases e2
    refine .inl ⟨ς, G, rl, _, _, e1, fun v H' G' rl' s dp => ?_⟩
    obtain ⟨l, vs, rfl, h1, h2⟩ := dp_list dp
    have w : WalkD X.K G' (Itl X.K l) ds := by
      constructor
      · exact fun H s => ⟨vs, s.seq h1, by rw [dpa_len h2]; exact Nat.le_refl _⟩
      · intro i H hl s
        obtain ⟨v, e, _⟩ := dpa_get h2 (List.getElem?_eq_getElem hl)
        exact ⟨vs, v, s.seq h1, e⟩
      · intro i H x H' d s y e
        obtain ⟨y1, y2⟩ := y
        obtain ⟨v, e1, e2⟩ := dpa_get h2 e
        have := y2 vs (s.seq h1)
        rw [e1] at this; cases this
        exact .inl ⟨y1, e2⟩
    exact ⟨l, rfl, ⟨vs, rl'.sub.seq h1⟩, k _ H' G' rl' s w⟩
  | tuple es =>
    cases e2
    refine .inr ⟨ς, G, rl, _, _, e1, fun v H' G' rl' s dp => ?_⟩
    obtain ⟨l, vs, rfl, h1, h2⟩ := dp_tuple dp
    exact ⟨l, rfl, ⟨vs, same_seqT rl'.sub h1⟩, k _ H' G' rl' s (walk_tup h1 h2)⟩
  | _ => cases e2
/-- range(n), range(a, b) -/
def rngD (lo : Int) : Nat → List D
  | 0 => []
  | n + 1 => .int lo :: rngD (lo + 1) n
theorem rngD_len : ∀ (n : Nat) (lo : Int), (rngD lo n).length = n
  | 0, _ => rfl
  | n + 1, lo => by rw [rngD, List.length_cons, rngD_len n]
theorem rngD_get : ∀ (n : Nat) (lo : Int) (i : Nat), i < n → (rngD lo n)[i]? = some (.int (lo + i))
  | 0, _, _, h => absurd h (Nat.not_lt_zero _)
  | n + 1, lo, 0, _ => by rw [rngD]; simp
  | n + 1, lo, i + 1, h => by
    rw [rngD, List.getElem?_cons_succ, rngD_get n (lo + 1) i (by omega)]
    congr 2
    push_cast
    omega
theorem walk_rng {lo : Int} {n : Nat} : WalkD K G (Itr lo n) (rngD lo n) where
  stop := fun H s => by rw [rngD_len]; exact Nat.le_refl _
  go := fun i H hl s => by rw [rngD_len] at hl; exact hl
  yld := fun i H x H' d s y e => by
    have hl := (List.getElem?_eq_some_iff.mp e).1
    rw [rngD_len] at hl
    rw [rngD_get n lo i hl] at e
    cases e
    obtain ⟨y1, rfl⟩ := y
    exact .inl ⟨y1, .int _⟩
def inR (i : Int) : Bool := decide (-(2 ^ 62) ≤ i) && decide (i < 2 ^ 62)
def itR1 (f : M R) : M (List D) := bd (sub f) fun r => bd (rd r) fun d => match d with
  | .int n => if inR n = true then ret (rngD 0 n.toNat) else lift none
  | _ => lift none
def itR2 (fa fb : M R) : M (List D) := bd (sub fa) fun r => bd (sub fb) fun r2 => bd (rd r) fun d => bd (rd r2) fun d2 => match d, d2 with
  | .int m, .int n => if inR m = true ∧ inR n = true then ret (rngD m (n - m).toNat) else lift none
  | _, _ => lift none
theorem i_rng1 (hg : Gl X "range") (hm : X.mg "range" = none) (ha : PEd X a fa) (hs : starEach [a] X.env = [(false, eval a X.env)] := by rfl) : PId X tg (.Call (.Name "range" p) [a] [] pos) (itR1 fa) := fun F => PI.mono (pi_range1 hg hm (pa_cons (d_sub ha F) pa_nil hs) hs) fun σ H R hq => by
  obtain ⟨ς, G, rl, ds, ς', e, k⟩ := hq
  obtain ⟨r, ς1, e1, q1⟩ := bd_some e
  obtain ⟨d, ς2, e2', q2⟩ := bd_some q1
  obtain ⟨e2, h2⟩ := rd_some e2'
  subst h2
  refine ⟨ς, G, rl, r, _, e1, fun v H1 G1 rl1 s1 rep1 => ?_⟩
  have rv := rdD_ok rl1 rep1 e2
  cases d with
  | int n =>
    by_cases hn : inR n = true
    · replace q2 : (if inR n = true then ret (rngD 0 n.toNat) else lift none) _ = some (ds, ς') := q2
      rw [if_pos hn] at q2
      cases q2
      unfold inR at hn
      simp only [Bool.and_eq_true, decide_eq_true_eq] at hn
      refine ⟨n, by rw [rv.int], hn.1, hn.2, k _ H1 G1 rl1 s1 ?_⟩
      exact walk_rng
    · replace q2 : (if inR n = true then ret (rngD 0 n.toNat) else lift none) _ = some (ds, ς') := q2
      rw [if_neg hn] at q2
      cases q2
  | _ => cases q2
theorem i_rng2 (hg : Gl X "range") (hm : X.mg "range" = none) (ha : PEd X a fa) (hb : PEd X b fb) (h : ∀ t : TA, PA X [a, b] t → PI X tg (.Call (.Name "range" p) [a, b] [] pos) (iRng2 t)) (hs1 : starEach [a, b] X.env = (false, eval a X.env) :: starEach [b] X.env := by rfl) (hs2 : starEach [b] X.env = (false, eval b X.env) :: starEach [] X.env := by rfl) : PId X tg (.Call (.Name "range" p) [a, b] [] pos) (itR2 fa fb) := fun F => PI.mono (h _ (pa_cons (d_sub ha F) (pa_cons (d_sub hb F) pa_nil hs2) hs1)) fun σ H R hq => by
  obtain ⟨ς, G, rl, ds, ς', e, k⟩ := hq
  obtain ⟨r, ς1, e1, q1⟩ := bd_some e
  obtain ⟨r2, ς2, e2, q2⟩ := bd_some q1
  obtain ⟨d, ς3, e3', q3⟩ := bd_some q2
  obtain ⟨e3, h3⟩ := rd_some e3'
  obtain ⟨d2, ς4, e4', q4⟩ := bd_some q3
  obtain ⟨e4, h4⟩ := rd_some e4'
  subst h3 h4
  refine ⟨ς, G, rl, r, _, e1, fun v H1 G1 rl1 s1 rep1 => ⟨ς1, G1, rl1, r2, _, e2, fun w H2 G2 rl2 s2 rep2 => ?_⟩⟩
  have rv := rdD_ok rl2 (rep_keep (ς' := ς4) (H' := H2) rep1 (sub_nf e1) s2) e3
  have rw' := rdD_ok rl2 rep2 e4
  cases d with
  | int m =>
    cases d2 with
    | int n =>
      replace q4 : (if inR m = true ∧ inR n = true then ret (rngD m (n - m).toNat) else lift none) _ = some (ds, ς') := q4
      by_cases hn : inR m = true ∧ inR n = true
      · rw [if_pos hn] at q4
        cases q4
        obtain ⟨h1, h2⟩ := hn
        unfold inR at h1 h2
        simp only [Bool.and_eq_true, decide_eq_true_eq] at h1 h2
        exact ⟨m, n, by rw [rv.int, rw'.int], ⟨h1.1, h1.2, h2.1, h2.2⟩, k _ H2 G2 rl2 (s1.trans s2) walk_rng⟩
      · rw [if_neg hn] at q4; cases q4
    | _ => cases q4
  | _ => cases q4
/-- enumerate(xs) of a list -/
def enumD : Nat → List D → List D
  | _, [] => []
  | i, d :: ds => .tuple [.int i, d] :: enumD (i + 1) ds
theorem enumD_len : ∀ (ds : List D) (i : Nat), (enumD i ds).length = ds.length
  | [], _ => rfl
  | d :: ds, i => by rw [enumD, List.length_cons, List.length_cons, enumD_len ds]
theorem enumD_get : ∀ (ds : List D) (i j : Nat), (enumD i ds)[j]? = (ds[j]?).map fun d => PyData.tuple [.int ((i + j : Nat) : Int), d]
  | [], _, _ => rfl
  | d :: ds, i, 0 => by rw [enumD]; simp
  | d :: ds, i, j + 1 => by
    rw [enumD, List.getElem?_cons_succ, List.getElem?_cons_succ, enumD_get ds (i + 1) j]
    congr
    funext d
    congr 4
    omega
def itE (f : M R) : M (List D) := bd (esc f) fun d => match d with
  | .list ds => ret (enumD 0 ds)
  | _ => lift none
theorem i_enum {elts : List Expr} {kk : Nat} (hg : Gl X "enumerate") (hm : X.mg "enumerate" = none) (ha : PEd X a fa) (hs : starEach [a] X.env = [(false, eval a X.env)] := by rfl) : PId X (.Tuple elts kk p2) (.Call (.Name "enumerate" p) [a] [] pos) (itE fa) := fun F => PI.mono (pi_enum hg hm (pa_cons (d_esc ha F) pa_nil hs) hs) fun σ H R hq => by
  obtain ⟨ς, G, rl, ds, ς', e, k⟩ := hq
  obtain ⟨d, ς1, e1, q1⟩ := bd_some e
  refine ⟨ς, G, rl, d, _, e1, fun v H1 G1 rl1 s1 dp => ?_⟩
  cases d with
  | list es =>
    cases q1
    obtain ⟨l, vs, rfl, h1, h2⟩ := dp_list dp
    refine ⟨l, vs, rfl, rl1.sub.seq h1, k _ H1 G1 rl1 s1 ⟨fun H s => ⟨vs, s.seq h1, by rw [enumD_len, dpa_len h2]; exact Nat.le_refl _⟩, fun i H hl s => ?_, fun i H x H' d s y e => ?_⟩⟩
    · rw [enumD_len] at hl
      obtain ⟨v, e, _⟩ := dpa_get h2 (List.getElem?_eq_getElem hl)
      exact ⟨vs, v, s.seq h1, e⟩
    · obtain ⟨T, z, rfl, hT, rfl, hz⟩ := y
      rw [enumD_get] at e
      cases q : es[i]? with
      | none => rw [q] at e; cases e
      | some d' =>
        rw [q] at e
        cases e
        obtain ⟨v, f1, f2⟩ := dpa_get h2 q
        have := hz vs (s.seq h1)
        rw [f1] at this; cases this
        refine .inr ⟨T, _, _, rfl, hT, rfl, rfl, .cons ?_ (.cons f2 .nil)⟩
        rw [Nat.zero_add]
        exact .int _
  | _ => cases q1
/-- zip of two lists or two tuples -/
def zipD : List D → List D → List D
  | a :: as, b :: bs => .tuple [a, b] :: zipD as bs
  | _, _ => []
theorem zipD_len : ∀ (xs ys : List D), (zipD xs ys).length = min xs.length ys.length
  | [], ys => by rw [zipD]; simp; simp
  | a :: as, [] => by rw [zipD]; simp; simp
  | a :: as, b :: bs => by rw [zipD, List.length_cons, zipD_len as bs, List.length_cons, List.length_cons]; omega
theorem zipD_get : ∀ (xs ys : List D) (i : Nat) (d : D), (zipD xs ys)[i]? = some d → ∃ a b, xs[i]? = some a ∧ ys[i]? = some b ∧ d = .tuple [a, b]
  | [], ys, i, d, e => by rw [zipD] at e; simp at e; simp
  | a :: as, [], i, d, e => by rw [zipD] at e; simp at e; simp
  | a :: as, b :: bs, 0, d, e => by rw [zipD] at e; simp at e; exact ⟨a, b, rfl, rfl, e.symm⟩
  | a :: as, b :: bs, i + 1, d, e => by
    rw [zipD, List.getElem?_cons_succ] at e
    obtain ⟨u, v, h1, h2, h3⟩ := zipD_get as bs i d e
    exact ⟨u, v, by rw [List.getElem?_cons_succ]; exact h1, by rw [List.getElem?_cons_succ]; exact h2, h3⟩
def itZ (fa fb : M R) : M (List D) := bd (esc fa) fun d => bd (esc fb) fun d2 => match d, d2 with
  | .list xs, .list ys => ret (zipD xs ys)
  | .tuple xs, .tuple ys => ret (zipD xs ys)
  | _, _ => lift none
theorem i_zip {elts : List Expr} {kk : Nat} (hg : Gl X "zip") (hm : X.mg "zip" = none) (ha : PEd X a fa) (hb : PEd X b fb) (hs1 : starEach [a, b] X.env = (false, eval a X.env) :: starEach [b] X.env := by rfl) (hs2 : starEach [b] X.env = (false, eval b X.env) :: starEach [] X.env := by rfl) (hpl : (backTo pos (starEach [b] X.env)).any (·.1) = false := by rfl) :
    PId X (.Tuple elts kk p2) (.Call (.Name "zip" p) [a, b] [] pos) (itZ fa fb) := fun F => PI.mono (RZ.pi_zipA hg hm (pa_cons (d_esc ha F) (pa_cons (d_esc hb F) pa_nil hs2) hs1) hs1 hpl) fun σ H R hq => by
  obtain ⟨ς, G, rl, ds, ς', e, k⟩ := hq
  obtain ⟨d, ς1, e1, q1⟩ := bd_some e
  obtain ⟨d2, ς2, e2, q2⟩ := bd_some q1
  refine ⟨ς, G, rl, d, _, e1, fun v H1 G1 rl1 s1 dp => ⟨ς1, G1, rl1, d2, ς2, e2, fun w H2 G2 rl2 s2 dp2 => ?_⟩⟩
  cases d with
  | list xs =>
    cases d2 with
    | list ys =>
      cases q2
      obtain ⟨l, vs, rfl, h1, h2⟩ := dp_list (dp_same s2 dp)
      obtain ⟨l2, ws, rfl, h3, h4⟩ := dp_list dp2
      refine ⟨l, l2, vs, ws, rfl, .inl ⟨rl2.sub.seq h1, rl2.sub.seq h3, k _ H2 G2 rl2 (s1.trans s2) ⟨fun H s => ⟨vs, ws, s.seq h1, s.seq h3, ?_⟩, fun i H hl s => ?_, fun i H x H' d s y e => ?_⟩⟩⟩
      · rw [zipD_len, dpa_len h2, dpa_len h4]; omega
      · rw [zipD_len] at hl
        obtain ⟨v, f1, _⟩ := dpa_get h2 (List.getElem?_eq_getElem (i := i) (by omega))
        obtain ⟨w, f2, _⟩ := dpa_get h4 (List.getElem?_eq_getElem (i := i) (by omega))
        exact ⟨vs, ws, v, w, s.seq h1, s.seq h3, f1, f2⟩
      · obtain ⟨T, u, z, rfl, hT, rfl, z1, z2⟩ := y
        obtain ⟨a', b', f1, f2, rfl⟩ := zipD_get xs ys i d e
        obtain ⟨v1, g1, g2⟩ := dpa_get h2 f1
        obtain ⟨v2, g3, g4⟩ := dpa_get h4 f2
        have t1 := z1 vs (s.seq h1)
        have t2 := z2 ws (s.seq h3)
        rw [g1] at t1; cases t1
        rw [g3] at t2; cases t2
        exact .inr ⟨T, _, _, rfl, hT, rfl, rfl, .cons g2 (.cons g4 .nil)⟩
    | _ => cases q2
  | tuple xs =>
    cases d2 with
    | tuple ys =>
      cases q2
      obtain ⟨l, vs, rfl, h1, h2⟩ := dp_tuple (dp_same s2 dp)
      obtain ⟨l2, ws, rfl, h3, h4⟩ := dp_tuple dp2
      refine ⟨l, l2, vs, ws, rfl, .inr ⟨same_seqT rl2.sub h1, same_seqT rl2.sub h3, k _ H2 G2 rl2 (s1.trans s2) ⟨fun H s => ⟨vs, ws, same_seqT s h1, same_seqT s h3, ?_⟩, fun i H hl s => ?_, fun i H x H' d s y e => ?_⟩⟩⟩
      · rw [zipD_len, dpa_len h2, dpa_len h4]; omega
      · rw [zipD_len] at hl
        obtain ⟨v, f1, _⟩ := dpa_get h2 (List.getElem?_eq_getElem (i := i) (by omega))
        obtain ⟨w, f2, _⟩ := dpa_get h4 (List.getElem?_eq_getElem (i := i) (by omega))
        exact ⟨vs, ws, v, w, same_seqT s h1, same_seqT s h3, f1, f2⟩
      · obtain ⟨T, u, z, rfl, hT, rfl, z1, z2⟩ := y
        obtain ⟨a', b', f1, f2, rfl⟩ := zipD_get xs ys i d e
        obtain ⟨v1, g1, g2⟩ := dpa_get h2 f1
        obtain ⟨v2, g3, g4⟩ := dpa_get h4 f2
        have t1 := z1 vs (same_seqT s h1)
        have t2 := z2 ws (same_seqT s h3)
        rw [g1] at t1; cases t1
        rw [g3] at t2; cases t2
        exact .inr ⟨T, _, _, rfl, hT, rfl, rfl, .cons g2 (.cons g4 .nil)⟩
    | _ => cases q2
  | _ => cases q2
/-! ### for -/
def loop (tg : Tg) (body : MS) : List D → MS
  | [], ς => some (.nx ς)
  | d :: ds, ς => match tg d ς with
    | some ς1 => match body ς1 with
      | some (.nx ς2) => loop tg body ds ς2
      | some (.ct ς2) => loop tg body ds ς2
      | some (.bk ς2) => some (.nx ς2)
      | some (.rt r ς2) => some (.rt r ς2)
      | none => none
    | none => none
def forS (f : M (List D)) (tg : Tg) (body : MS) : MS := fun ς => match f ς with
  | some (ds, ς1) => loop tg body ds ς1
  | none => none
theorem Rel.tupled {F : Fx} {ς : En} {σ : L2.St} {H : Hp} {J : It} {ds : List D} {i : Nat} {v : V} {H' : Hp} {d : D} (r : Rel K F ς G σ H) {G1 : Hp} (s1 : Same G1 G) (w : WalkD K G1 J ds) (y : J.yld i H v H') (e : ds[i]? = some d) : ∃ G', Rel K F ς G' σ H' ∧ Same G G' ∧ Dp K G' v d := by
  rcases w.yld i H v H' d (s1.trans r.sub) y e with ⟨rfl, h2⟩ | ⟨T, xs, es, rfl, h2, rfl, rfl, h5⟩
  · exact ⟨G, r, Same.refl _, dp_same s1 h2⟩
  · exact ⟨_, r.lay h2, same_upd (r.gnone h2), r.layD h2 (dpa_same s1 h5)⟩
theorem s_for {it : Expr} {fi : M (List D)} {vs : List Nat} {t : Tg} (hp : PassesOwn (model X.prog X.w) X.A X.env X.xe) (hc : X.calm = true) (hi : PId X tg it fi) (hg : PGd X tg vs t) (hb : PSsd X sts g) (hs : ∀ x, foldedSetIterable it X.env x = pure x := by intro _; rfl) : PSd X (.For tg it sts [] pos) (forS fi t g) := fun F =>
  PS.mono (ps_for hp hc (hi F) (hg F) (hb F) hs) fun D σ H hq => by
    obtain ⟨ς, G, rl, o, e, k⟩ := hq
    unfold forS at e
    split at e
    · rename_i ds ς1 q
      refine ⟨ς, G, rl, ds, ς1, q, fun J H1 G1 rl1 s1 wk => ?_⟩
      refine ⟨fun i m σ' H' => m = ds.length - i ∧ i ≤ ds.length ∧ ∃ ς' G' o', Rel X.K F ς' G' σ' H' ∧ Same G1 G' ∧ loop t g (ds.drop i) ς' = some o' ∧ EndsOk X.K F G' D o', ⟨ds.length, by simp, Nat.zero_le _, ς1, G1, o, rl1, Same.refl _, e, k.mono s1⟩, ?_⟩
      rintro i m σ' H' ⟨rfl, hi', ς', G', o', rl', s', e', k'⟩
      by_cases hlt : i < ds.length
      · rw [List.drop_eq_getElem_cons hlt, loop] at e'
        split at e'
        · rename_i ς2 q2
          refine .inr ⟨wk.go i H' hlt (s'.trans rl'.sub), fun σ3 H3 => ∃ ς3 G3 o3, Rel X.K F ς3 G3 σ3 H3 ∧ Same G1 G3 ∧ loop t g (ds.drop (i + 1)) ς3 = some o3 ∧ EndsOk X.K F G3 D o3, fun σ3 H3 h3 => ⟨ds.length - (i + 1), by omega, rfl, hlt, h3⟩, fun v H2 y => ?_⟩
          obtain ⟨G2, rl2, s2, dp2⟩ := rl'.tupled s' wk y (List.getElem?_eq_getElem hlt)
          refine ⟨ς', G2, _, rl2, dp2, ς2, q2, fun σ3 H3 G3 rl3 s3 _ => ?_⟩
          have s13 : Same G1 G3 := s'.trans (s2.trans s3)
          split at e'
          · rename_i ς4 q4
            exact ⟨ς2, G3, rl3, _, q4, fun σ5 H5 G5 rl5 s5 => ⟨ς4, G5, o', rl5, s13.trans s5, e', k'.mono (s2.trans (s3.trans s5))⟩⟩
          · rename_i ς4 q4
            exact ⟨ς2, G3, rl3, _, q4, fun σ5 H5 G5 rl5 s5 => ⟨ς4, G5, o', rl5, s13.trans s5, e', k'.mono (s2.trans (s3.trans s5))⟩⟩
          · rename_i ς4 q4
            cases e'
            exact ⟨ς2, G3, rl3, _, q4, fun σ5 H5 G5 rl5 s5 => k' σ5 H5 G5 rl5 (s2.trans (s3.trans s5))⟩
          · rename_i r ς4 q4
            cases e'
            exact ⟨ς2, G3, rl3, _, q4, fun v σ5 H5 G5 rl5 s5 rep => k' v σ5 H5 G5 rl5 (s2.trans (s3.trans s5)) rep⟩
          · cases e'
        · cases e'
      · have ei : i = ds.length := by omega
        subst ei
        rw [List.drop_length, loop] at e'
        cases e'
        exact .inl ⟨wk.stop H' (s'.trans rl'.sub), k' σ' H' G' rl' (Same.refl _)⟩
    · cases e
end
end Lw
namespace Lw
open PySem PySem.Spec PyProof.Rows L2
section
variable {K : PySem.W.Frag} {F : Fx} {ς ς' : En} {G H G' H' : Hp} {σ σ' : L2.St}
def wipeE (ς : En) : List Nat → En
  | [] => ς
  | v :: vs => (wipeE ς vs).set v none
def freeAll (ς : En) (vs : List Nat) : Bool := vs.all (free ς)
theorem free_set {i j : Nat} (h : free ς i = true) : free (ς.set j none) i = true := by
  unfold free at h ⊢
  by_cases e : j = i
  · subst e
    by_cases hl : j < ς.length
    · rw [List.getElem?_set_self hl]
    · rw [List.getElem?_eq_none (by omega)] at h; cases h
  · rw [List.getElem?_set_ne e]; exact h
theorem free_wipeE {i : Nat} (h : free ς i = true) : ∀ vs : List Nat, free (wipeE ς vs) i = true
  | [] => h
  | v :: vs => free_set (free_wipeE h vs)
theorem Rel.wiped (r : Rel K F ς G σ H) : ∀ vs : List Nat, freeAll ς vs = true → Rel K F (wipeE ς vs) G (wipe σ vs) H
  | [], _ => r
  | v :: vs, h => by
    unfold freeAll at h
    rw [List.all_cons, Bool.and_eq_true] at h
    exact (r.wiped vs h.2).setN (free_wipeE h.1 vs)
theorem Rel.unwipe {vs : List Nat} (r : Rel K F ς G (wipe σ vs) H) : Rel K F ς G σ H where
  len := by rw [← r.len, wipe_length]
  sub := r.sub
  g0 := r.g0
  pu := fun i d e => by
    obtain ⟨v, h1, h2⟩ := r.pu i d e
    exact ⟨v, (wipe_some h1).1, h2⟩
  ow := fun i b ds e => by
    obtain ⟨a, ws, h1, h2⟩ := r.ow i b ds e
    exact ⟨a, ws, (wipe_some h1).1, h2⟩
  ap := fun i j b c ds es a q1 q2 q3 q4 => by
    obtain ⟨a1, _, h1, _⟩ := r.ow i b ds q1
    obtain ⟨a2, _, h2, _⟩ := r.ow j c es q2
    have e1 := (wipe_some h1).1
    have e2 := (wipe_some h2).1
    rw [q3] at e1; cases e1
    rw [q4] at e2; cases e2
    exact r.ap i j b c ds es a q1 q2 h1 h2
  par := r.par
  fr := r.fr
  nw := r.nw
/-- something of nobody's is changed -/
theorem Rel.touch (r : Rel K F ς G σ H) {a : Addr} {o : HO} (h2 : G a = none) (h4 : F.H0 a = none) (h5 : ∀ (i : Nat) b es, ς[i]? = some (some (.own b es)) → σ[i]? ≠ some (some (.ref a))) : Rel K F ς G σ (upd H a o) where
  len := r.len
  sub := fun b x e => by
    rw [upd_ne (ne_of_none e h2)]; exact r.sub _ _ e
  g0 := r.g0
  pu := r.pu
  ow := fun i b ds e => by
    obtain ⟨a', vs, e1, e2, e3⟩ := r.ow i b ds e
    have ne : a' ≠ a := fun z => by subst z; exact h5 i b ds e e1
    exact ⟨a', vs, e1, by rw [upd_ne ne]; exact e2, e3⟩
  ap := r.ap
  par := r.par
  fr := fun b x e na => by
    rw [upd_ne (ne_of_none e h4)]; exact r.fr b x e na
  nw := r.nw
end
/-! ### [e for x in xs] -/
def lcLoop (vs : List Nat) (tg : Tg) (tt : M Bool) (fe : M R) : List D → List D → En → Option (List D × En)
  | [], acc, ς => some (acc, ς)
  | d :: ds, acc, ς => match tg d ς with
    | some ς1 => match tt ς1 with
      | some (true, ς2) => match esc fe ς2 with
        | some (y, ς3) => if freeAll ς3 vs = true ∧ acc.length < sizeLine then lcLoop vs tg tt fe ds (acc ++ [y]) (wipeE ς3 vs) else none
        | none => none
      | some (false, ς2) => if freeAll ς2 vs = true then lcLoop vs tg tt fe ds acc (wipeE ς2 vs) else none
      | none => none
    | none => none
def lcE (fi : M (List D)) (vs : List Nat) (tg : Tg) (tt : M Bool) (fe : M R) : M R := fun ς => match fi ς with
  | some (ds, ς1) => if freeAll ς1 vs = true then match lcLoop vs tg tt fe ds [] (wipeE ς1 vs) with
      | some (acc, ς2) => some (.fresh acc, ς2)
      | none => none
    else none
  | none => none
section
variable {X : Cx} {a b c e tg : Expr} {es : List Expr} {fa fb fc f fe : M R} {ta : M Bool} {pos p p1 p2 p3 : Pos} {x : Str} {st : Stmt} {sts rest : List Stmt} {g g1 g2 : MS}
abbrev gEx (K : PySem.W.Frag) (vs : List Nat) (t : Tg) : TG := fun v σ H Q => ∃ F, tTg K F vs t v σ H Q
abbrev tEx (K : PySem.W.Frag) (t : M Bool) : TT := fun σ H Q => ∃ F, tEvT K F t σ H Q
abbrev eEx (K : PySem.W.Frag) (f : M D) : TE := fun σ H Q => ∃ F, tEvD K F f σ H Q
theorem t_lc {K : PySem.W.Frag} {fi : M (List D)} {vs : List Nat} {t : Tg} (F : Fx) : ∀ σ H Q, tEv K F (lcE fi vs t ta fe) σ H Q → tLc (fun σ H R => ∃ F, tEvI K F fi σ H R) (gEx K vs t) (tEx K ta) (eEx K (esc fe)) vs σ H Q := fun σ H Q hq => by
  obtain ⟨ς, G, rl, r, ς', e, k⟩ := hq
  unfold lcE at e
  split at e
  · rename_i ds ς1 q1
    split at e
    · rename_i hf
      split at e
      · rename_i accF ς2 q2
        cases e
        refine ⟨F, ς, G, rl, ds, ς1, q1, fun J H1 G1 rl1 s1 wk L hL => ?_⟩
        refine ⟨fun i m H' => m = ds.length - i ∧ i ≤ ds.length ∧ ∃ ςi Gi acc accV, Rel K F ςi Gi (wipe σ vs) H' ∧ Same G1 Gi ∧ H' L = some (.lst accV) ∧ Gi L = none ∧ DpAll K Gi accV acc ∧ F.H0 L = none ∧ (∀ (n : Nat) b es, ςi[n]? = some (some (.own b es)) → (wipe σ vs)[n]? ≠ some (some (.ref L))) ∧ lcLoop vs t ta fe (ds.drop i) acc ςi = some (accF, ς'), ?_, ?_⟩
        · refine ⟨ds.length, by simp, Nat.zero_le _, wipeE ς1 vs, G1, [], [], (rl1.wiped vs hf).layF hL, Same.refl _, upd_same, rl1.gnone hL, .nil, rl1.new hL, fun n b es z w => ?_, q2⟩
          obtain ⟨a, ws, f1, f2, _⟩ := (rl1.wiped vs hf).ow n b es z
          rw [w] at f1; cases f1
          rw [hL] at f2; cases f2
        · rintro i m H' ⟨rfl, hi, ςi, Gi, acc, accV, rli, si, hLi, hGi, hdi, h0, hni, ei⟩
          by_cases hlt : i < ds.length
          · rw [List.drop_eq_getElem_cons hlt, lcLoop] at ei
            split at ei
            · rename_i ς3 q3
              refine .inr ⟨wk.go i H' hlt (si.trans rli.sub), fun H3 => ∃ ςi Gi acc accV, Rel K F ςi Gi (wipe σ vs) H3 ∧ Same G1 Gi ∧ H3 L = some (.lst accV) ∧ Gi L = none ∧ DpAll K Gi accV acc ∧ F.H0 L = none ∧ (∀ (n : Nat) b es, ςi[n]? = some (some (.own b es)) → (wipe σ vs)[n]? ≠ some (some (.ref L))) ∧ lcLoop vs t ta fe (ds.drop (i + 1)) acc ςi = some (accF, ς'), fun H3 h3 => ⟨ds.length - (i + 1), by omega, rfl, hlt, h3⟩, fun v H2 y => ?_⟩
              obtain ⟨G2, rl2, s2, dp2⟩ := rli.now.tupled si wk y (List.getElem?_eq_getElem hlt)
              refine ⟨F.now ςi Gi (wipe σ vs) H', ςi, G2, _, rl2, dp2, ς3, q3, fun σ3 H3 G3 rl3 s3 w3 => ⟨w3.trans (by
                  have : ∀ us : List Nat, wipe (wipe σ us) us = wipe σ us := by
                    intro us
                    induction us with
                    | nil => rfl
                    | cons u us ih =>
                      show (wipe ((wipe σ us).set u none) us).set u none = (wipe σ us).set u none
                      rw [wipe_comm1, List.set_set, ih]
                  exact this vs), ?_⟩⟩
              split at ei
              · rename_i ς4 q4
                refine ⟨F.now ςi Gi (wipe σ vs) H', ς3, G3, rl3, true, ς4, q4, fun H4 G4 rl4 s4 => ?_⟩
                refine iteT ?_
                split at ei
                · rename_i y5 ς5 q5
                  split at ei
                  · rename_i hf5
                    refine ⟨F.now ςi Gi (wipe σ vs) H', ς4, G4, rl4, y5, ς5, q5, fun u H5 G5 rl5 s5 dp5 => ?_⟩
                    obtain ⟨k1, k2, k3⟩ := rli.keepF rl5 hLi hGi hni
                    have hdi' : DpAll K G5 accV acc := dpa_same (s2.trans (s3.trans (s4.trans s5))) hdi
                    refine ⟨accV, k1, by rw [dpa_len hdi]; exact hf5.2, wipeE ς5 vs, G5, acc ++ [y5], accV ++ [u], ?_, si.trans (s2.trans (s3.trans (s4.trans s5))), upd_same, k2, dpa_app hdi' (.cons dp5 .nil), h0, ?_, ei⟩
                    · have rb := (rli.back rl5).wiped vs hf5.1
                      have w3' : wipe σ3 vs = wipe σ vs := by
                        rw [w3]
                        have : ∀ us : List Nat, wipe (wipe σ us) us = wipe σ us := by
                          intro us
                          induction us with
                          | nil => rfl
                          | cons u us ih =>
                            show (wipe ((wipe σ us).set u none) us).set u none = (wipe σ us).set u none
                            rw [wipe_comm1, List.set_set, ih]
                        exact this vs
                      rw [w3'] at rb
                      refine rb.touch k2 h0 fun n b es z1 z2 => ?_
                      obtain ⟨a6, ws6, f1, f2, _⟩ := rb.ow n b es z1
                      rw [z2] at f1; cases f1
                      have z3 : ς5[n]? = some (some (.own b es)) := by
                        have : ∀ us : List Nat, (wipeE ς5 us)[n]? = some (some (.own b es)) → ς5[n]? = some (some (.own b es)) := by
                          intro us
                          induction us with
                          | nil => exact fun h => h
                          | cons u us ih =>
                            intro h
                            have h' : ((wipeE ς5 us).set u none)[n]? = some (some (.own b es)) := h
                            replace h' := get_set h'; rcases h' with ⟨rfl, h'⟩ | ⟨_, h'⟩
                            · cases h'
                            · exact ih h'
                        exact this vs z1
                      rw [← w3'] at z2
                      exact k3 n b es z3 (wipe_some z2).1
                    · intro n b es z1 z2
                      have w3' : wipe σ3 vs = wipe σ vs := by
                        rw [w3]
                        have : ∀ us : List Nat, wipe (wipe σ us) us = wipe σ us := by
                          intro us
                          induction us with
                          | nil => rfl
                          | cons u us ih =>
                            show (wipe ((wipe σ us).set u none) us).set u none = (wipe σ us).set u none
                            rw [wipe_comm1, List.set_set, ih]
                        exact this vs
                      have z3 : ς5[n]? = some (some (.own b es)) := by
                        have : ∀ us : List Nat, (wipeE ς5 us)[n]? = some (some (.own b es)) → ς5[n]? = some (some (.own b es)) := by
                          intro us
                          induction us with
                          | nil => exact fun h => h
                          | cons u us ih =>
                            intro h
                            have h' : ((wipeE ς5 us).set u none)[n]? = some (some (.own b es)) := h
                            replace h' := get_set h'; rcases h' with ⟨rfl, h'⟩ | ⟨_, h'⟩
                            · cases h'
                            · exact ih h'
                        exact this vs z1
                      rw [← w3'] at z2
                      exact k3 n b es z3 (wipe_some z2).1
                  · cases ei
                · cases ei
              · rename_i ς4 q4
                refine ⟨F.now ςi Gi (wipe σ vs) H', ς3, G3, rl3, false, ς4, q4, fun H5 G5 rl5 s5 => ?_⟩
                refine iteF ?_
                split at ei
                · rename_i hf5
                  obtain ⟨k1, k2, k3⟩ := rli.keepF rl5 hLi hGi hni
                  have hdi' : DpAll K G5 accV acc := dpa_same (s2.trans (s3.trans s5)) hdi
                  have w3' : wipe σ3 vs = wipe σ vs := by
                    rw [w3]
                    have : ∀ us : List Nat, wipe (wipe σ us) us = wipe σ us := by
                      intro us
                      induction us with
                      | nil => rfl
                      | cons u us ih =>
                        show (wipe ((wipe σ us).set u none) us).set u none = (wipe σ us).set u none
                        rw [wipe_comm1, List.set_set, ih]
                    exact this vs
                  have rb := (rli.back rl5).wiped vs hf5
                  rw [w3'] at rb
                  refine ⟨wipeE ς4 vs, G5, acc, accV, rb, si.trans (s2.trans (s3.trans s5)), k1, k2, hdi', h0, fun n b es z1 z2 => ?_, ei⟩
                  have z3 : ς4[n]? = some (some (.own b es)) := by
                    have : ∀ us : List Nat, (wipeE ς4 us)[n]? = some (some (.own b es)) → ς4[n]? = some (some (.own b es)) := by
                      intro us
                      induction us with
                      | nil => exact fun h => h
                      | cons u us ih =>
                        intro h
                        have h' : ((wipeE ς4 us).set u none)[n]? = some (some (.own b es)) := h
                        replace h' := get_set h'; rcases h' with ⟨rfl, h'⟩ | ⟨_, h'⟩
                        · cases h'
                        · exact ih h'
                    exact this vs z1
                  rw [← w3'] at z2
                  exact k3 n b es z3 (wipe_some z2).1
                · cases ei
              · cases ei
            · cases ei
          · have eI : i = ds.length := by omega
            subst eI
            rw [List.drop_length, lcLoop] at ei
            cases ei
            refine .inl ⟨wk.stop H' (si.trans rli.sub), k _ H' Gi rli.unwipe (s1.trans si) ⟨L, accV, rfl, hLi, hGi, hdi, h0, fun n b es z1 z2 => ?_⟩⟩
            obtain ⟨a6, ws6, f1, f2, _⟩ := rli.ow n b es z1
            have := (wipe_some f1).1
            rw [z2] at this; cases this
            exact hni n b es z1 f1
      · cases e
    · cases e
  · cases e
theorem PId.ex {it : Expr} {fi : M (List D)} (h : PId X tg it fi) : PI X tg it (fun σ H R => ∃ F, tEvI X.K F fi σ H R) := ⟨fun pins s σ H R I ⟨F, hw⟩ => (h F).run pins s σ H R I hw⟩
theorem ts_nil : PTs X [] (tEx X.K (ret true)) := ⟨fun pins s σ H Q I ⟨F, ς, G, rl, b, ς', e, k⟩ => by
  cases e
  exact pts_nil.run pins s σ H Q I (k H G rl (Same.refl _))⟩
theorem ts_one {c : Expr} (h : PTd X c ta) : PTs X [c] (tEx X.K ta) := pts_one ⟨fun pins s σ H Q I ⟨F, hw⟩ => (h F).run pins s σ H Q I hw⟩
end
end Lw
namespace Lw
open PySem PySem.Spec PyProof.Rows L2
section
variable {X : Cx} {a b c e tg o : Expr} {es : List Expr} {fa fb fc f fe fo : M R} {ta : M Bool} {pos p p1 p2 p3 : Pos} {x : Str} {st : Stmt} {sts rest : List Stmt} {g g1 g2 : MS}
theorem d_lc {elt tg iter : Expr} {ifs : List Expr} {scope : Scope} {own : List (Str × Nat)} {fi : M (List D)} {t : Tg} (hc : X.calm = true) (hN : X.N.Nodup) (hi : PId X tg iter fi) (ok : BlkOk X.N X.env.scope scope own)
    (hg : ∀ (s : Shared) (H : Hp) (C : Addr) (cl : List (Str × Addr)) (fp : List Addr), PGd (X.blk s H scope (compEnvC scope cl C X.env) fp) tg (own.map (·.2)) t)
    (ht : ∀ (s : Shared) (H : Hp) (C : Addr) (cl : List (Str × Addr)) (fp : List Addr), PTs (X.blk s H scope (compEnvC scope cl C X.env) fp) ifs (tEx X.K ta))
    (he : ∀ (s : Shared) (H : Hp) (C : Addr) (cl : List (Str × Addr)) (fp : List Addr), PEd (X.blk s H scope (compEnvC scope cl C X.env) fp) elt fe) (hs : ∀ x, foldedSetIterable iter X.env x = pure x := by intro _; rfl) :
    PEd X (.ListComp elt [⟨tg, iter, ifs, 0⟩] scope pos) (lcE fi (own.map (·.2)) t ta fe) := fun F =>
  PE.mono (pe_lc hc hN hi.ex ok (fun s H C cl fp => (hg s H C cl fp).ex) ht (fun s H C cl fp => PDd.ex (d_esc (he s H C cl fp))) hs) (t_lc F)
/-! ### methods of an own list -/
def isOwn (i : Nat) : M Unit := fun ς => match ς[i]? with
  | some (some (.own _ _)) => some ((), ς)
  | _ => none
def mth (h : List D → List D → Option (D × List D)) (fo : M R) (ga : M (List Ar)) : M R := bd fo fun r => match r with
  | .ref i => bd (isOwn i) fun _ => bd ga fun as => bd (lift (vals as)) fun ws => fun ς => match ς[i]? with
    | some (some (.own b ds)) => match h ds ws with
      | some (d, ds') => some (.pure d, ς.set i (some (.own b ds')))
      | none => none
    | _ => none
  | _ => lift none
structure Mth (X : Cx) (r : V → List V → Hp → VK → Prop) (h : List D → List D → Option (D × List D)) : Prop where
  run : ∀ (G : Hp) (H : Hp) (l : Addr) (xs ws : List V) (ds es : List D) (d : D) (ds' : List D) (Q : VK), H l = some (.lst xs) → DpAll X.K G xs ds → DpAll X.K G ws es → h ds es = some (d, ds') →
    (∀ v xs', DpAll X.K G xs' ds' → Dp X.K G v d → Q v (upd H l (.lst xs'))) → r (.ref l) ws H Q
theorem d_mth {ga : M (List Ar)} {h : List D → List D → Option (D × List D)} {r : V → List V → Hp → VK → Prop} (m : Mth X r h) (ho : PEd X o fo) (ha : PAd X es ga) (hp : ∀ (to : TE) (t : TA), PE X o to → PA X es t → PE X e (tBM X.K "list" r to t)) : PEd X e (mth h fo ga) := fun F => PE.mono (hp _ _ (ho F) (ha F)) fun σ H Q hq => by
  obtain ⟨ς, G, rl, res, ς', e, k⟩ := hq
  obtain ⟨r0, ς1, e1, q1⟩ := bd_some e
  refine ⟨ς, G, rl, r0, ς1, e1, fun v H1 G1 rl1 s1 rep1 => ?_⟩
  cases r0 with
  | ref i =>
    obtain ⟨_, ς2, e2, q2⟩ := bd_some q1
    unfold isOwn at e2
    split at e2
    · rename_i b ds q3
      cases e2
      obtain ⟨l, xs, f1, f2, _⟩ := rl1.ow i b ds q3
      rw [show σ[i]? = some (some v) from rep1] at f1
      cases f1
      refine ⟨.inl ⟨rfl, _, SqL.of f2⟩, ?_⟩
      obtain ⟨as, ς3, e3, q4⟩ := bd_some q2
      obtain ⟨ws, ς4, e4', q5⟩ := bd_some q4
      obtain ⟨e4, h4⟩ := lift_some e4'
      subst h4
      refine ⟨ς1, G1, rl1, as, _, e3, fun vs H2 G2 rl2 s2 ps => ?_⟩
      split at q5
      · rename_i b2 ds2 q6
        split at q5
        · rename_i d ds' q7
          cases q5
          obtain ⟨l2, xs2, g1, g2, g3, g4, _⟩ := rl2.ow i b2 ds2 q6
          rw [show σ[i]? = some (some (.ref l)) from rep1] at g1
          cases g1
          exact m.run G2 H2 l xs2 vs ds2 ws d ds' Q g2 g4 (vals_ok ps e4) q7 fun w xs' hx hw => k w _ G2 (rl2.mut q6 rep1 hx) (s1.trans s2) hw
        · cases q5
      · cases q5
    · cases e2
  | _ => cases q1
def hApp : List D → List D → Option (D × List D)
  | ds, [d] => if ds.length < sizeLine then some (.none, ds ++ [d]) else none
  | _, _ => none
theorem m_append : Mth X rAppend hApp := ⟨fun G H l xs ws ds es d ds' Q h1 h2 h3 e k => by
  cases h3 with
  | nil => cases e
  | cons hv ht =>
    cases ht with
    | nil =>
      rename_i v dd
      replace e : (if ds.length < sizeLine then some (PyData.none, ds ++ [dd]) else none) = some (d, ds') := e
      by_cases q : ds.length < sizeLine
      · rw [if_pos q] at e
        cases e
        exact ⟨l, xs, v, rfl, rfl, h1, by rw [dpa_len h2]; exact q, k _ _ (dpa_app h2 (.cons hv .nil)) .non⟩
      · rw [if_neg q] at e; cases e
    | cons _ _ => cases e⟩
end
/-! ### a def, with nothing being shown around it -/
structure FnG (P : Program) (w : World) (K : PySem.W.Frag) (mg : Str → Option Value) (base : Heap) (CX : CXT) (k : Nat) (f : Addr) (fd : FuncData) (ps : List Str) (sp : Sp) : Prop where
  len : ∀ vs H Q E, sp vs H Q E → vs.length = ps.length
  run : ∀ (A : Around) (outer : List Env) (s : Shared) (H : Hp) (args : Args) (us : List Value) (vs : List V) (Q : VK) (E : XK), A.guards = some [] → Room k A → Env0 P w K mg base A outer s H →
    BindsTo s fd args (ps.zip us) → Vals vs us → sp vs H Q E → codeAny (model P w) A (.call (.ref f) args) (CR CX outer P w H s Q E) s
section
variable {P : Program} {w : World} {K : PySem.W.Frag} {mg : Str → Option Value} {base : Heap} {CX : CXT} {k : Nat} {f : Addr} {fd : FuncData} {ps : List Str} {sp : Sp}
theorem FnG.mono {j : Nat} (F : FnG P w K mg base CX j f fd ps sp) (h : j ≤ k) : FnG P w K mg base CX k f fd ps sp :=
  ⟨F.len, fun A outer s H args us vs Q E hg hr => F.run A outer s H args us vs Q E hg (hr.mono h)⟩
theorem fnG_of {name qual : Str} {params : Arguments} {body : List Stmt} {scope : Scope} {dV kV doc pm cdv ct oc : Value} {an od : Option Addr} {osl : Array (Option Value)} {N : List Str}
    (lk : K.lookup f = some ⟨oc, od, .func (PySem.W.fnOf name qual params body scope dV kV doc pm an cdv ct), osl⟩) (hcode : PySem.W.codeIn K cdv qual = true) (sc : FnScope N ps scope) (hlen : ∀ vs H Q E, sp vs H Q E → vs.length = ps.length)
    (hb0 : ∀ (A : Around) (outer : List Env) (s : Shared) (H : Hp) (vs : List V) (Q : VK) (E : XK), A.guards = some [] → Room k (A.deeper (envOfC qual scope s.heap.objs.size f cdv)) → sp vs H Q E →
      ∃ t, PSs (cxOf CX P w K mg base N qual scope f cdv A outer s H E) body t ∧ t { nx := fun _ H' => Q .non H', rt := Q } (L2.start N vs) H) : FnG P w K mg base CX (k + 1) f (PySem.W.fnOf name qual params body scope dV kV doc pm an cdv ct) ps sp := by
  constructor
  · exact hlen
  intro A outer s H args us vs Q E hgd room env bind rel prom
  have inK : K.In s.heap := env.mod.kin.keeps (fun b o e => (env.bs b o e).1)
  have noLim : s.heap.NoLimit := env.mod.nolimit.keeps (fun b o e => (env.bs b o e).1)
  have kinds : ∀ y ∈ ps.zip us, scope.names.lookup y.1 = some .local ∨ (scope.names.lookup y.1 = some .cell ∧ ((cellsFrom (s.heap.objs.size + 1) scope.names []).lookup y.1).isSome = true) := by
    rintro ⟨n, v⟩ hy
    rcases sc.par n (List.of_mem_zip hy).1 with loc | cel
    · exact Or.inl loc
    · exact Or.inr ⟨cel, PySem.W.cellsFrom_some _ _ _ (Or.inl cel)⟩
  refine codeAny_call_function room.depth (inK _ _ lk) rfl sc.co sc.gen rfl (PySem.W.codeRec_of inK hcode) (bind _ _ _ _ ?_)
  refine wpAny_newFunctionEnv_cells sc.kind kinds (fun env' he s1 inCall => ?_)
  subst he
  refine ⟨noLim.keeps inCall.toInCall.keep, codeAny_func ?_⟩
  obtain ⟨t, ht, hq⟩ := hb0 A outer s H vs Q E hgd (room.deeper _) prom
  have I0 : Inv (cxOf CX P w K mg base N qual scope f cdv A outer s H E) [] (L2.start N vs) H s1 := inv_start sc room.hd env (hlen vs H Q E prom) rel inCall
  refine wpAny_mono (ht.run [] s1 (L2.start N vs) H _ I0 hq) (fun fl s' hs => ?_) (fun _ _ hs => hs)
  cases fl with
  | ret u =>
    obtain ⟨v, σ', H', J, rv, q⟩ := hs
    exact ⟨v, H', J.os, J.bare, J.base, J.hok, rv, q⟩
  | next =>
    obtain ⟨σ', H', J, q⟩ := hs
    exact ⟨V.non, H', J.os, J.bare, J.base, J.hok, rfl, q⟩
  | brk => obtain ⟨_, _, _, q⟩ := hs; exact False.elim q
  | cont => obtain ⟨_, _, _, q⟩ := hs; exact False.elim q
end
section
variable {X : Cx} {CX : CXT} {k : Nat} {f : Addr} {fd : FuncData} {ps : List Str} {sp : Sp} {E : XK} {x : Str} {p pos : Pos} {e : Expr} {es : List Expr} {t : TA}
theorem pe_callG (G : FnG X.prog X.w X.K X.mg X.base CX k f fd ps sp) (hgd : X.A.guards = some []) (hr : Room k X.A) (hg : Gl X x) (hm : X.mg x = some (.ref f)) (hk : PySem.W.keepIn X.K (.ref f) = true) (hb : Binds X.K fd ps []) (hx : Passes CX X E)
    (ha : PA X (e :: es) t) (hdb : (x == ("__debug__" : Str)) = false := by decide) (he : starEach (e :: es) X.env = (false, eval e X.env) :: starEach es X.env := by rfl) (hpl : (backTo pos (starEach es X.env)).any (·.1) = false := by rfl) :
    PE X (.Call (.Name x p) (e :: es) [] pos) (fun σ H Q => t σ H fun vs H1 => sp vs H1 Q E) := by
  refine ⟨fun pins s σ H Q I h => wpAny_Call_Name_kw (ld_glob I hg hm ?_ hdb)⟩
  refine PySem.W.callWith_K (h₀ := X.base) I.ok.mod.kin hk (thn (ha.run pos pins s σ H _ I h) fun us s1 ⟨vs, H1, I1, r, q⟩ => ⟨I1.kIn, ?_⟩) he hpl
  have hl : (us ++ []).length = ps.length := by rw [List.append_nil, ← r.length]; exact G.len _ _ _ _ q
  have hb' := hb s1 us I1.kIn hl
  rw [List.append_nil] at hb'
  refine wpAny_call (codeAny_mono (G.run X.A X.stack s1 H1 ⟨us, []⟩ us vs Q E hgd hr I1.env0 hb' r q) fun r' s' hq => ?_)
  cases r' with
  | error er => exact hx pins σ H1 s1 er s' I1 hq
  | ok fl =>
    cases fl with
    | ret u => exact I1.after hq
    | next => exact False.elim hq
    | brk => exact False.elim hq
    | cont => exact False.elim hq
end
end Lw
namespace Lw
open PySem PySem.Spec PyProof.Rows L2
abbrev Fsem := List S → Option (R × List S)
structure ArgsOk (K : PySem.W.Frag) (ss : List S) (G : Hp) (vs : List V) (H : Hp) : Prop where
  len : vs.length = ss.length
  sub : Same G H
  pu : ∀ (i : Nat) d, ss[i]? = some (.pure d) → ∃ v, vs[i]? = some v ∧ Dp K G v d
  ow : ∀ (i : Nat) b ds, ss[i]? = some (.own b ds) → b = true ∧ ∃ a xs, vs[i]? = some (.ref a) ∧ H a = some (.lst xs) ∧ G a = none ∧ DpAll K G xs ds
  ap : ∀ (i j : Nat) b c ds es a, ss[i]? = some (.own b ds) → ss[j]? = some (.own c es) → vs[i]? = some (.ref a) → vs[j]? = some (.ref a) → i = j
def RepOut (K : PySem.W.Frag) (H G' H' : Hp) : R → V → Prop
  | .pure d, v => Dp K G' v d
  | .fresh ds, v => ∃ a xs, v = .ref a ∧ H' a = some (.lst xs) ∧ G' a = none ∧ DpAll K G' xs ds ∧ H a = none
  | .ref _, _ => False
structure RetOk (K : PySem.W.Frag) (ss : List S) (G : Hp) (vs : List V) (H : Hp) (r : R) (outs : List S) (v : V) (H' G' : Hp) : Prop where
  same : Same G G'
  sub : Same G' H'
  nw : ∀ a, G' a ≠ none → G a ≠ none ∨ H a = none
  fr : ∀ a o, H a = some o → (∀ (i : Nat) b ds, ss[i]? = some (.own b ds) → vs[i]? ≠ some (.ref a)) → H' a = some o
  ow : ∀ (i : Nat) b ds a, ss[i]? = some (.own b ds) → vs[i]? = some (.ref a) → ∃ ds' xs', outs[i]? = some (.own true ds') ∧ H' a = some (.lst xs') ∧ G' a = none ∧ DpAll K G' xs' ds'
  rep : RepOut K H G' H' r v
def spF (K : PySem.W.Frag) (n : Nat) (m : Fsem) : Sp := fun vs H Q _ => ∃ ss G, ss.length = n ∧ ArgsOk K ss G vs H ∧ ∃ r outs, m ss = some (r, outs) ∧ ∀ v H' G', RetOk K ss G vs H r outs v H' G' → Q v H'
/-! ### the call -/
def argS : List Ar → En → Option (List S)
  | [], _ => some []
  | .val d :: as, ς => match argS as ς with
    | some ss => some (.pure d :: ss)
    | none => none
  | .ref i :: as, ς => match ς[i]?, argS as ς with
    | some (some (.own _ ds)), some ss => some (.own true ds :: ss)
    | some (some (.pure d)), some ss => some (.pure d :: ss)
    | _, _ => none
def setOwn (ς : En) (i : Nat) (ds : List D) : En := match ς[i]? with
  | some (some (.own b _)) => ς.set i (some (.own b ds))
  | _ => ς
def putBack : List Ar → List S → En → En
  | .ref i :: as, .own _ ds :: os, ς => putBack as os (setOwn ς i ds)
  | _ :: as, _ :: os, ς => putBack as os ς
  | _, _, ς => ς
def refsOf : List Ar → List Nat
  | [] => []
  | .val _ :: as => refsOf as
  | .ref i :: as => i :: refsOf as
def callE (m : Fsem) (ga : M (List Ar)) : M R := bd ga fun as => fun ς => match argS as ς with
  | some ss => match m ss with
    | some (.ref _, _) => none
    | some (r, outs) => if (refsOf as).Nodup then some (r, putBack as outs ς) else none
    | none => none
  | none => none
theorem argS_len : ∀ {as : List Ar} {ς : En} {ss : List S}, argS as ς = some ss → ss.length = as.length
  | [], _, _, e => by cases e; rfl
  | .val d :: as, ς, ss, e => by
    unfold argS at e
    split at e
    · rename_i ss' q; cases e; rw [List.length_cons, List.length_cons, argS_len q]
    · cases e
  | .ref i :: as, ς, ss, e => by
    unfold argS at e
    split at e
    · rename_i q; cases e; rw [List.length_cons, List.length_cons, argS_len q]
    · rename_i q; cases e; rw [List.length_cons, List.length_cons, argS_len q]
    · cases e
theorem argS_get : ∀ {as : List Ar} {ς : En} {ss : List S} {k : Nat} {s : S}, argS as ς = some ss → ss[k]? = some s →
    (∃ d, as[k]? = some (.val d) ∧ s = .pure d) ∨ ∃ j, as[k]? = some (.ref j) ∧ ((∃ b ds, ς[j]? = some (some (.own b ds)) ∧ s = .own true ds) ∨ ∃ d, ς[j]? = some (some (.pure d)) ∧ s = .pure d)
  | [], _, _, _, _, e, h => by cases e; cases h
  | .val d :: as, ς, ss, k, s, e, h => by
    unfold argS at e
    split at e
    · rename_i ss' q
      cases e
      cases k with
      | zero => cases h; exact .inl ⟨d, rfl, rfl⟩
      | succ k =>
        have h' := argS_get (k := k) (s := s) q (by simpa using h)
        simpa using h'
    · cases e
  | .ref i :: as, ς, ss, k, s, e, h => by
    unfold argS at e
    split at e
    · rename_i b ds ss' q1 q
      cases e
      cases k with
      | zero => cases h; exact .inr ⟨i, rfl, .inl ⟨b, ds, q1, rfl⟩⟩
      | succ k =>
        have h' := argS_get (k := k) (s := s) q (by simpa using h)
        simpa using h'
    · rename_i d ss' q1 q
      cases e
      cases k with
      | zero => cases h; exact .inr ⟨i, rfl, .inr ⟨d, q1, rfl⟩⟩
      | succ k =>
        have h' := argS_get (k := k) (s := s) q (by simpa using h)
        simpa using h'
    · cases e
theorem argS_at : ∀ {as : List Ar} {ς : En} {ss : List S} {k j : Nat} {b : Bool} {ds : List D}, argS as ς = some ss → as[k]? = some (.ref j) → ς[j]? = some (some (.own b ds)) → ss[k]? = some (.own true ds)
  | [], _, _, _, _, _, _, e, h, _ => by cases h
  | .val d :: as, ς, ss, k, j, b, ds, e, h, hj => by
    unfold argS at e
    split at e
    · rename_i ss' q
      cases e
      cases k with
      | zero => cases h
      | succ k =>
        have h' := argS_at (k := k) q (by simpa using h) hj
        simpa using h'
    · cases e
  | .ref i :: as, ς, ss, k, j, b, ds, e, h, hj => by
    unfold argS at e
    split at e
    · rename_i b' ds' ss' q1 q
      cases e
      cases k with
      | zero =>
        cases h
        rw [hj] at q1
        cases q1
        rfl
      | succ k =>
        have h' := argS_at (k := k) q (by simpa using h) hj
        simpa using h'
    · rename_i d ss' q1 q
      cases e
      cases k with
      | zero =>
        cases h
        rw [hj] at q1
        cases q1
      | succ k =>
        have h' := argS_at (k := k) q (by simpa using h) hj
        simpa using h'
    · cases e
theorem paired_get {α β : Type} {Rr : α → β → Prop} : ∀ {as : List α} {bs : List β} {k : Nat} {x : α}, Paired Rr as bs → as[k]? = some x → ∃ y, bs[k]? = some y ∧ Rr x y
  | _, _, _, _, .nil, e => by simp at e
  | _, _, 0, _, .cons h _, e => by simp at e; subst e; exact ⟨_, rfl, h⟩
  | _, _, k + 1, x, .cons _ t, e => by
    obtain ⟨y, h1, h2⟩ := paired_get (k := k) (x := x) t (by simpa using e)
    exact ⟨y, by simpa using h1, h2⟩
theorem paired_len {α β : Type} {Rr : α → β → Prop} : ∀ {as : List α} {bs : List β}, Paired Rr as bs → as.length = bs.length
  | _, _, .nil => rfl
  | _, _, .cons _ t => by rw [List.length_cons, List.length_cons, paired_len t]
theorem refs_mem : ∀ {as : List Ar} {k j : Nat}, as[k]? = some (.ref j) → j ∈ refsOf as
  | [], _, _, h => by cases h
  | .val d :: as, 0, j, h => by cases h
  | .val d :: as, k + 1, j, h => refs_mem (as := as) (k := k) h
  | .ref i :: as, 0, j, h => by cases h; exact List.mem_cons_self
  | .ref i :: as, k + 1, j, h => List.mem_cons_of_mem _ (refs_mem (as := as) (k := k) h)
theorem mem_refs : ∀ {as : List Ar} {j : Nat}, j ∈ refsOf as → ∃ k : Nat, as[k]? = some (.ref j)
  | [], _, h => by cases h
  | .val d :: as, j, h => by obtain ⟨k, e⟩ := mem_refs (as := as) h; exact ⟨k + 1, e⟩
  | .ref i :: as, j, h => by
    rcases List.mem_cons.mp h with rfl | h
    · exact ⟨0, rfl⟩
    · obtain ⟨k, e⟩ := mem_refs (as := as) h; exact ⟨k + 1, e⟩
theorem setOwn_len (ς : En) (i : Nat) (ds : List D) : (setOwn ς i ds).length = ς.length := by
  unfold setOwn; split
  · rw [List.length_set]
  · rfl
theorem pb_nil (os : List S) (ς : En) : putBack [] os ς = ς := by cases os <;> rfl
theorem pb_nil2 (a : Ar) (as : List Ar) (ς : En) : putBack (a :: as) [] ς = ς := by cases a <;> rfl
theorem pb_val (d : D) (as : List Ar) (o : S) (os : List S) (ς : En) : putBack (.val d :: as) (o :: os) ς = putBack as os ς := by cases o <;> rfl
theorem pb_own (i : Nat) (as : List Ar) (b : Bool) (ds : List D) (os : List S) (ς : En) : putBack (.ref i :: as) (.own b ds :: os) ς = putBack as os (setOwn ς i ds) := rfl
theorem pb_pure (i : Nat) (as : List Ar) (d : D) (os : List S) (ς : En) : putBack (.ref i :: as) (.pure d :: os) ς = putBack as os ς := rfl
theorem putBack_len : ∀ (as : List Ar) (os : List S) (ς : En), (putBack as os ς).length = ς.length
  | [], _, ς => by rw [pb_nil]
  | a :: as, [], ς => by rw [pb_nil2]
  | .val d :: as, o :: os, ς => by rw [pb_val]; exact putBack_len as os ς
  | .ref i :: as, .own b ds :: os, ς => by rw [pb_own, putBack_len as os, setOwn_len]
  | .ref i :: as, .pure d :: os, ς => by rw [pb_pure]; exact putBack_len as os ς
theorem setOwn_ne {ς : En} {i j : Nat} {ds : List D} (h : i ≠ j) : (setOwn ς i ds)[j]? = ς[j]? := by
  unfold setOwn; split
  · rw [List.getElem?_set_ne h]
  · rfl
theorem setOwn_own {ς : En} {i : Nat} {b : Bool} {ds es : List D} (h : ς[i]? = some (some (.own b es))) : (setOwn ς i ds)[i]? = some (some (.own b ds)) := by
  unfold setOwn
  rw [h]
  exact List.getElem?_set_self (List.getElem?_eq_some_iff.mp h).1
theorem setOwn_not {ς : En} {i : Nat} {ds : List D} (h : ∀ b es, ς[i]? ≠ some (some (.own b es))) : setOwn ς i ds = ς := by
  unfold setOwn; split
  · rename_i b es q; exact absurd q (h b es)
  · rfl
/-- a slot that no argument is -/
theorem putBack_ne : ∀ {as : List Ar} {os : List S} {ς : En} {j : Nat}, j ∉ refsOf as → (putBack as os ς)[j]? = ς[j]?
  | [], _, ς, j, _ => by rw [pb_nil]
  | a :: as, [], ς, j, _ => by rw [pb_nil2]
  | .val d :: as, o :: os, ς, j, h => by rw [pb_val]; exact putBack_ne (as := as) h
  | .ref i :: as, .own b ds :: os, ς, j, h => by
    have h' : j ≠ i ∧ j ∉ refsOf as := ⟨fun z => h (by rw [z]; exact List.mem_cons_self), fun z => h (List.mem_cons_of_mem _ z)⟩
    rw [pb_own, putBack_ne h'.2, setOwn_ne (Ne.symm h'.1)]
  | .ref i :: as, .pure d :: os, ς, j, h => by
    have h' : j ∉ refsOf as := fun z => h (List.mem_cons_of_mem _ z)
    rw [pb_pure]; exact putBack_ne h'
/-- a slot without an own list stays -/
theorem putBack_not : ∀ {as : List Ar} {os : List S} {ς : En} {j : Nat}, (∀ b es, ς[j]? ≠ some (some (.own b es))) → (putBack as os ς)[j]? = ς[j]?
  | [], _, ς, j, _ => by rw [pb_nil]
  | a :: as, [], ς, j, _ => by rw [pb_nil2]
  | .val d :: as, o :: os, ς, j, h => by rw [pb_val]; exact putBack_not (as := as) h
  | .ref i :: as, .own b ds :: os, ς, j, h => by
    by_cases e : i = j
    · subst e
      rw [pb_own, setOwn_not h]
      exact putBack_not (as := as) h
    · have e2 := setOwn_ne (ς := ς) (ds := ds) e
      rw [pb_own, putBack_not (as := as) (by rw [e2]; exact h), e2]
  | .ref i :: as, .pure d :: os, ς, j, h => by rw [pb_pure]; exact putBack_not (as := as) h
theorem putBack_at : ∀ {as : List Ar} {os : List S} {ς : En} {k j : Nat} {b c : Bool} {ds es : List D}, (refsOf as).Nodup → as[k]? = some (.ref j) → os[k]? = some (.own c ds) → ς[j]? = some (some (.own b es)) → (putBack as os ς)[j]? = some (some (.own b ds))
  | [], _, _, _, _, _, _, _, _, _, h, _, _ => by cases h
  | _ :: _, [], _, _, _, _, _, _, _, _, _, h, _ => by cases h
  | .val d :: as, o :: os, ς, k, j, b, c, ds, es, nd, h1, h2, h3 => by
    cases k with
    | zero => cases h1
    | succ k => rw [pb_val]; exact putBack_at (as := as) (k := k) nd (by simpa using h1) (by simpa using h2) h3
  | .ref i :: as, .pure d :: os, ς, k, j, b, c, ds, es, nd, h1, h2, h3 => by
    cases k with
    | zero => cases h2
    | succ k => rw [pb_pure]; exact putBack_at (as := as) (k := k) (List.nodup_cons.mp nd).2 (by simpa using h1) (by simpa using h2) h3
  | .ref i :: as, .own b' ds' :: os, ς, k, j, b, c, ds, es, nd, h1, h2, h3 => by
    have nd' := List.nodup_cons.mp nd
    cases k with
    | zero =>
      cases h1; cases h2
      rw [pb_own, putBack_ne nd'.1, setOwn_own h3]
    | succ k =>
      have h1' : as[k]? = some (.ref j) := by simpa using h1
      have ne : i ≠ j := fun z => nd'.1 (by rw [z]; exact refs_mem (as := as) (k := k) h1')
      rw [pb_own]
      exact putBack_at (k := k) nd'.2 h1' (by simpa using h2) (by rw [setOwn_ne ne]; exact h3)
theorem putBack_is {j : Nat} {c : Bool} : ∀ (as : List Ar) (os : List S) (ς : En) (es : List D), ς[j]? = some (some (.own c es)) → ∃ es', (putBack as os ς)[j]? = some (some (.own c es'))
  | [], _, ς, es, h => by rw [pb_nil]; exact ⟨es, h⟩
  | a :: as, [], ς, es, h => by rw [pb_nil2]; exact ⟨es, h⟩
  | .val d :: as, o :: os, ς, es, h => by rw [pb_val]; exact putBack_is as os ς es h
  | .ref i :: as, .pure d :: os, ς, es, h => by rw [pb_pure]; exact putBack_is as os ς es h
  | .ref i :: as, .own b' ds' :: os, ς, es, h => by
    rw [pb_own]
    by_cases e : i = j
    · subst e; exact putBack_is as os _ ds' (setOwn_own h)
    · exact putBack_is as os _ es (by rw [setOwn_ne e]; exact h)
theorem putBack_own {as : List Ar} {os : List S} {ς : En} {j : Nat} {b : Bool} {ds : List D} (h : (putBack as os ς)[j]? = some (some (.own b ds))) : ∃ es, ς[j]? = some (some (.own b es)) := by
  by_cases q : ∃ c es, ς[j]? = some (some (.own c es))
  · obtain ⟨c, es, hq⟩ := q
    obtain ⟨es', e'⟩ := putBack_is as os ς es hq
    rw [h] at e'
    cases e'
    exact ⟨es, hq⟩
  · rw [putBack_not (fun c es z => q ⟨c, es, z⟩)] at h
    exact ⟨ds, h⟩
section
variable {K : PySem.W.Frag} {F : Fx} {ς : En} {G H G' H' : Hp} {σ : L2.St}
theorem Rel.args (r : Rel K F ς G σ H) {as : List Ar} {ss : List S} {vs : List V} (e : argS as ς = some ss) (ps : Paired (RepAr K G σ) as vs) (nd : (refsOf as).Nodup) : ArgsOk K ss G vs H where
  len := by rw [argS_len e, paired_len ps]
  sub := r.sub
  pu := fun i d h => by
    rcases argS_get e h with ⟨d', h1, h2⟩ | ⟨j, h1, ⟨b, ds, h2, h3⟩ | ⟨d', h2, h3⟩⟩
    · cases h2
      obtain ⟨v, k1, k2⟩ := paired_get ps h1
      exact ⟨v, k1, k2⟩
    · cases h3
    · cases h3
      obtain ⟨v, k1, k2⟩ := paired_get ps h1
      obtain ⟨w, k3, k4⟩ := r.pu j d h2
      rw [show σ[j]? = some (some v) from k2] at k3
      cases k3
      exact ⟨v, k1, k4⟩
  ow := fun i b ds h => by
    rcases argS_get e h with ⟨d', h1, h2⟩ | ⟨j, h1, ⟨b', ds', h2, h3⟩ | ⟨d', h2, h3⟩⟩
    · cases h2
    · cases h3
      obtain ⟨v, k1, k2⟩ := paired_get ps h1
      obtain ⟨a, xs, f1, f2, f3, f4, _⟩ := r.ow j b' ds h2
      rw [show σ[j]? = some (some v) from k2] at f1
      cases f1
      exact ⟨rfl, a, xs, k1, f2, f3, f4⟩
    · cases h3
  ap := fun i j b c ds es a h1 h2 h3 h4 => by
    rcases argS_get e h1 with ⟨d', _, q⟩ | ⟨m, g1, ⟨b', ds', g2, g3⟩ | ⟨d', _, q⟩⟩
    · cases q
    · rcases argS_get e h2 with ⟨d', _, q⟩ | ⟨n, g4, ⟨c', es', g5, g6⟩ | ⟨d', _, q⟩⟩
      · cases q
      · obtain ⟨v, k1, k2⟩ := paired_get ps g1
        obtain ⟨w, k3, k4⟩ := paired_get ps g4
        rw [h3] at k1; cases k1
        rw [h4] at k3; cases k3
        have emn := r.ap m n b' c' ds' es' a g2 g5 k2 k4
        subst emn
        have : ∀ (as : List Ar), (refsOf as).Nodup → ∀ (i j : Nat), as[i]? = some (.ref m) → as[j]? = some (.ref m) → i = j := by
          intro as
          induction as with
          | nil => intro _ i j h; cases h
          | cons x as ih =>
            intro nd i j hi hj
            cases x with
            | val d =>
              cases i with
              | zero => cases hi
              | succ i =>
                cases j with
                | zero => cases hj
                | succ j => rw [ih nd i j hi hj]
            | ref l =>
              have nd' := List.nodup_cons.mp nd
              cases i with
              | zero =>
                cases j with
                | zero => rfl
                | succ j => cases hi; exact absurd (refs_mem (as := as) (k := j) hj) nd'.1
              | succ i =>
                cases j with
                | zero => cases hj; exact absurd (refs_mem (as := as) (k := i) hi) nd'.1
                | succ j => rw [ih nd'.2 i j hi hj]
        exact this as nd i j g1 g4
      · cases q
    · cases q
theorem Rel.called (r : Rel K F ς G σ H) {as : List Ar} {ss outs : List S} {vs : List V} {res : R} {v : V} (e : argS as ς = some ss) (ps : Paired (RepAr K G σ) as vs) (nd : (refsOf as).Nodup) (t : RetOk K ss G vs H res outs v H' G') :
    Rel K F (putBack as outs ς) G' σ H' := by
  -- an own slot's list is not an argument's, unless it is that argument
  have away : ∀ (j : Nat) b ds a, ς[j]? = some (some (.own b ds)) → σ[j]? = some (some (.ref a)) → j ∉ refsOf as → ∀ (i : Nat) c es, ss[i]? = some (.own c es) → vs[i]? ≠ some (.ref a) := by
    intro j b ds a h1 h2 h3 i c es h4 h5
    rcases argS_get e h4 with ⟨d', _, q⟩ | ⟨m, g1, ⟨b', ds', g2, g3⟩ | ⟨d', _, q⟩⟩
    · cases q
    · obtain ⟨w, k1, k2⟩ := paired_get ps g1
      rw [h5] at k1; cases k1
      have := r.ap m j b' b ds' ds a g2 h1 k2 h2
      subst this
      exact h3 (refs_mem g1)
    · cases q
  refine ⟨by rw [putBack_len, r.len], t.sub, r.g0.trans t.same, ?_, ?_, ?_, ?_, ?_, ?_⟩
  · intro i d h
    have h' : ς[i]? = some (some (.pure d)) := by
      by_cases q : ∃ c es, ς[i]? = some (some (.own c es))
      · obtain ⟨c, es, hq⟩ := q
        exfalso
        by_cases hm : i ∈ refsOf as
        · obtain ⟨kk, hk⟩ := mem_refs hm
          have hs := argS_at e hk hq
          obtain ⟨v', k1, k2⟩ := paired_get ps hk
          obtain ⟨a, xs, f1, _⟩ := r.ow i c es hq
          rw [show σ[i]? = some (some v') from k2] at f1
          cases f1
          obtain ⟨ds', xs', o1, _⟩ := t.ow kk true es a hs k1
          rw [putBack_at nd hk o1 hq] at h
          cases h
        · rw [putBack_ne hm, hq] at h; cases h
      · rw [putBack_not (fun c es z => q ⟨c, es, z⟩)] at h; exact h
    obtain ⟨w, h1, h2⟩ := r.pu i d h'
    exact ⟨w, h1, dp_same t.same h2⟩
  · intro i b ds h
    obtain ⟨es, hq⟩ := putBack_own h
    obtain ⟨a, xs, f1, f2, f3, f4, f5⟩ := r.ow i b es hq
    by_cases hm : i ∈ refsOf as
    · obtain ⟨kk, hk⟩ := mem_refs hm
      have hs := argS_at e hk hq
      obtain ⟨v', k1, k2⟩ := paired_get ps hk
      rw [show σ[i]? = some (some v') from k2] at f1
      cases f1
      obtain ⟨ds', xs', o1, o2, o3, o4⟩ := t.ow kk true es a hs k1
      rw [putBack_at nd hk o1 hq] at h
      cases h
      exact ⟨a, xs', k2, o2, o3, o4, f5⟩
    · rw [putBack_ne hm, hq] at h
      cases h
      refine ⟨a, xs, f1, t.fr a _ f2 (away i b ds a hq f1 hm), ?_, dpa_same t.same f4, f5⟩
      cases z : G' a with
      | none => rfl
      | some y =>
        rcases t.nw a (by rw [z]; simp) with w | w
        · exact absurd f3 w
        · rw [f2] at w; cases w
  · intro i j b c ds es a h1 h2 h3 h4
    obtain ⟨_, q1⟩ := putBack_own h1
    obtain ⟨_, q2⟩ := putBack_own h2
    exact r.ap i j b c _ _ a q1 q2 h3 h4
  · intro i a h
    obtain ⟨ds, hq⟩ := r.par i a h
    by_cases hm : i ∈ refsOf as
    · obtain ⟨kk, hk⟩ := mem_refs hm
      have hs := argS_at e hk hq
      obtain ⟨v', k1, k2⟩ := paired_get ps hk
      obtain ⟨a', xs, f1, _⟩ := r.ow i true ds hq
      rw [show σ[i]? = some (some v') from k2] at f1
      cases f1
      obtain ⟨ds', xs', o1, _⟩ := t.ow kk true ds a' hs k1
      exact ⟨ds', putBack_at nd hk o1 hq⟩
    · exact ⟨ds, by rw [putBack_ne hm]; exact hq⟩
  · intro a o h na
    refine t.fr a o (r.fr a o h na) fun i c es h4 h5 => ?_
    rcases argS_get e h4 with ⟨d', _, q⟩ | ⟨m, g1, ⟨b', ds', g2, g3⟩ | ⟨d', _, q⟩⟩
    · cases q
    · obtain ⟨w, k1, k2⟩ := paired_get ps g1
      rw [h5] at k1; cases k1
      obtain ⟨a', xs, f1, _, _, _, f5, f6⟩ := r.ow m b' ds' g2
      rw [show σ[m]? = some (some (.ref a)) from k2] at f1
      cases f1
      cases b' with
      | true => exact na m (f5 rfl)
      | false => rw [f6 rfl] at h; cases h
    · cases q
  · intro a h
    rcases t.nw a h with w | w
    · exact r.nw a w
    · exact .inr (r.new w)
end
section
variable {X : Cx} {CX : CXT} {k n : Nat} {f : Addr} {fd : FuncData} {ps : List Str} {E : XK} {x : Str} {p pos : Pos} {e : Expr} {es : List Expr} {m : Fsem} {ga : M (List Ar)}
theorem d_call (G : FnG X.prog X.w X.K X.mg X.base CX k f fd ps (spF X.K n m)) (hgd : X.A.guards = some []) (hr : Room k X.A) (hg : Gl X x) (hm : X.mg x = some (.ref f)) (hk : PySem.W.keepIn X.K (.ref f) = true) (hb : Binds X.K fd ps []) (hx : Passes CX X E) (hn : (e :: es).length = n)
    (ha : PAd X (e :: es) ga) (hla : ∀ ς as ς', ga ς = some (as, ς') → as.length = (e :: es).length) (hdb : (x == ("__debug__" : Str)) = false := by decide) (he : starEach (e :: es) X.env = (false, eval e X.env) :: starEach es X.env := by rfl) (hpl : (backTo pos (starEach es X.env)).any (·.1) = false := by rfl) :
    PEd X (.Call (.Name x p) (e :: es) [] pos) (callE m ga) := fun F => PE.mono (pe_callG G hgd hr hg hm hk hb hx (ha F) hdb he hpl) fun σ H Q hq => by
  obtain ⟨ς, G, rl, r, ς', e', k⟩ := hq
  obtain ⟨as, ς1, e1, q1⟩ := bd_some e'
  refine ⟨ς, G, rl, as, ς1, e1, fun vs H1 G1 rl1 s1 pr => ?_⟩
  split at q1
  · rename_i ss q2
    split at q1
    · cases q1
    · rename_i r' outs hne q3
      split at q1
      · rename_i nd
        cases q1
        refine ⟨ss, G1, by rw [argS_len q2, hla _ _ _ e1, hn], rl1.args q2 pr nd, r, outs, q3, fun v H' G' t => k v H' G' (rl1.called q2 pr nd t) (s1.trans t.same) ?_⟩
        cases r with
        | pure d => exact t.rep
        | ref i => exact t.rep.elim
        | fresh ds =>
          obtain ⟨a, xs, rfl, h1, h2, h3, h4⟩ := t.rep
          refine ⟨a, xs, rfl, h1, h2, h3, rl1.new h4, fun i b es z1 z2 => ?_⟩
          obtain ⟨es', hq⟩ := putBack_own z1
          obtain ⟨a', _, f1, f2, _⟩ := rl1.ow i b es' hq
          rw [z2] at f1; cases f1
          rw [h4] at f2; cases f2
      · cases q1
    · cases q1
  · cases q1
end
theorem argN_len {ς : En} {as : List Ar} {ς' : En} (h : argN ς = some (as, ς')) : as.length = 0 := by cases h; rfl
theorem argV_len {f : M R} {g : M (List Ar)} {n : Nat} (hg : ∀ ς as ς', g ς = some (as, ς') → as.length = n) : ∀ ς as ς', argV f g ς = some (as, ς') → as.length = n + 1 := fun ς as ς' h => by
  obtain ⟨d, ς1, _, q⟩ := bd_some h
  obtain ⟨as', ς2, e2, q2⟩ := bd_some q
  cases q2
  rw [List.length_cons, hg _ _ _ e2]
theorem argR_len {f : M R} {g : M (List Ar)} {n : Nat} (hg : ∀ ς as ς', g ς = some (as, ς') → as.length = n) : ∀ ς as ς', argR f g ς = some (as, ς') → as.length = n + 1 := fun ς as ς' h => by
  obtain ⟨d, ς1, _, q⟩ := bd_some h
  cases d with
  | ref i =>
    obtain ⟨as', ς2, e2, q2⟩ := bd_some q
    cases q2
    rw [List.length_cons, hg _ _ _ e2]
  | _ => cases q
/-! ### the def -/
def ent (n : Nat) (ss : List S) : En := ss.map some ++ List.replicate (n - ss.length) none
def outsOf (ς : En) (k : Nat) : List S := (ς.take k).map fun o => o.getD (.pure .none)
def runFn (g : MS) (n : Nat) : Fsem := fun ss => match g (ent n ss) with
  | some (.rt (.ref _) _) => none
  | some (.rt r ς) => some (r, outsOf ς ss.length)
  | some (.nx ς) => some (.pure .none, outsOf ς ss.length)
  | _ => none
def fxOf (ss : List S) (vs : List V) (G H : Hp) : Fx where
  A := fun i => match ss[i]?, vs[i]? with
    | some (.own _ _), some (.ref a) => some a
    | _, _ => none
  G0 := G
  H0 := H
theorem ent_get {n : Nat} {ss : List S} {i : Nat} {s : S} (h : (ent n ss)[i]? = some (some s)) : ss[i]? = some s := by
  unfold ent at h
  by_cases hi : i < ss.length
  · rw [List.getElem?_append_left (by simpa using hi), List.getElem?_map] at h
    cases q : ss[i]? with
    | none => rw [q] at h; cases h
    | some z => rw [q] at h; cases h; rfl
  · rw [List.getElem?_append_right (by simpa using hi), List.getElem?_replicate] at h
    split at h <;> cases h
theorem ent_of {n : Nat} {ss : List S} {i : Nat} {s : S} (h : ss[i]? = some s) : (ent n ss)[i]? = some (some s) := by
  unfold ent
  have hi := (List.getElem?_eq_some_iff.mp h).1
  rw [List.getElem?_append_left (by simpa using hi), List.getElem?_map, h]
  rfl
theorem start_of {N : List Str} {vs : List V} {i : Nat} {v : V} (h : vs[i]? = some v) : (L2.start N vs)[i]? = some (some v) := by
  unfold L2.start
  have hi := (List.getElem?_eq_some_iff.mp h).1
  rw [List.getElem?_append_left (by simpa using hi), List.getElem?_map, h]
  rfl
theorem start_get {N : List Str} {vs : List V} {i : Nat} {v : V} (h : (L2.start N vs)[i]? = some (some v)) : vs[i]? = some v := by
  unfold L2.start at h
  by_cases hi : i < vs.length
  · rw [List.getElem?_append_left (by simpa using hi), List.getElem?_map] at h
    cases q : vs[i]? with
    | none => rw [q] at h; cases h
    | some z => rw [q] at h; cases h; rfl
  · rw [List.getElem?_append_right (by simpa using hi), List.getElem?_replicate] at h
    split at h <;> cases h
theorem rel_start {K : PySem.W.Frag} {ss : List S} {vs : List V} {G H : Hp} {N : List Str} (a : ArgsOk K ss G vs H) : Rel K (fxOf ss vs G H) (ent N.length ss) G (L2.start N vs) H where
  len := by unfold ent L2.start; simp only [List.length_append, List.length_map, List.length_replicate, a.len]
  sub := a.sub
  g0 := Same.refl _
  pu := fun i d h => by
    obtain ⟨v, h1, h2⟩ := a.pu i d (ent_get h)
    exact ⟨v, start_of h1, h2⟩
  ow := fun i b ds h => by
    have hs := ent_get h
    obtain ⟨rfl, z, xs, h1, h2, h3, h4⟩ := a.ow i b ds hs
    refine ⟨z, xs, start_of h1, h2, h3, h4, fun _ => ?_, fun q => by cases q⟩
    unfold fxOf
    simp only
    rw [hs, h1]
  ap := fun i j b c ds es z h1 h2 h3 h4 => a.ap i j b c ds es z (ent_get h1) (ent_get h2) (start_get h3) (start_get h4)
  par := fun i z h => by
    unfold fxOf at h
    simp only at h
    split at h
    · rename_i b ds a' q1 q2
      obtain ⟨rfl, _⟩ := a.ow i b ds q1
      exact ⟨ds, ent_of q1⟩
    · cases h
  fr := fun z o h _ => h
  nw := fun z h => .inl h
theorem ret_ok {K : PySem.W.Frag} {ss : List S} {vs : List V} {G H G' H' : Hp} {ς' : En} {σ' : L2.St} {r : R} {v : V} (a : ArgsOk K ss G vs H) (rl : Rel K (fxOf ss vs G H) ς' G' σ' H') (s : Same G G') (hr : ∀ i, r ≠ .ref i) (rep : RepR K (fxOf ss vs G H) ς' G' σ' H' r v) :
    RetOk K ss G vs H r (outsOf ς' ss.length) v H' G' where
  same := s
  sub := rl.sub
  nw := rl.nw
  fr := fun z o h na => by
    refine rl.fr z o h fun i q => ?_
    unfold fxOf at q
    simp only at q
    split at q
    · rename_i b ds a' q1 q2
      cases q
      exact na i b ds q1 q2
    · cases q
  ow := fun i b ds z h1 h2 => by
    have hA : (fxOf ss vs G H).A i = some z := by
      unfold fxOf
      simp only
      rw [h1, h2]
    obtain ⟨ds', e⟩ := rl.par i z hA
    obtain ⟨z', xs, f1, f2, f3, f4, f5, _⟩ := rl.ow i true ds' e
    have := f5 rfl
    rw [hA] at this; cases this
    refine ⟨ds', xs, ?_, f2, f3, f4⟩
    have hi := (List.getElem?_eq_some_iff.mp h1).1
    unfold outsOf
    rw [List.getElem?_map, List.getElem?_take_of_lt hi, e]
    rfl
  rep := by
    cases r with
    | pure d => exact rep
    | ref i => exact absurd rfl (hr i)
    | fresh ds =>
      obtain ⟨z, xs, rfl, h1, h2, h3, h4, _⟩ := rep
      exact ⟨z, xs, rfl, h1, h2, h3, h4⟩
theorem fn_body {X : Cx} {n : Nat} {N : List Str} {g : MS} {body : List Stmt} {vs : List V} {H : Hp} {Q : VK} {E : XK} (hb : PSsd X.nox body g) (h : spF X.K n (runFn g N.length) vs H Q E) :
    ∃ t, PSs X body t ∧ t { nx := fun _ H' => Q .non H', rt := Q } (L2.start N vs) H := by
  obtain ⟨ss, G, hl, a, r, outs, e2, q⟩ := h
  refine ⟨_, (hb (fxOf ss vs G H)).nox, ?_⟩
  unfold runFn at e2
  split at e2
  · cases e2
  · rename_i r' ς' hne q2
    cases e2
    exact ⟨ent N.length ss, G, rel_start a, _, q2, fun v σ' H' G' rl s rep => q v H' G' (ret_ok a rl s (fun i z => hne i z) rep)⟩
  · rename_i ς' q2
    cases e2
    exact ⟨ent N.length ss, G, rel_start a, _, q2, fun σ' H' G' rl s => q .non H' G' (ret_ok a rl s (fun i z => by cases z) .non)⟩
  · cases e2
end Lw
namespace Lw
open PySem PySem.Spec PyProof.Rows L2
/-! ### the law's own call -/
theorem law_go {P : Program} {w : World} {K : PySem.W.Frag} {mg mb : Str → Option Value} {k : Nat} {fa a : Addr} {fd : FuncData} {x : Str} {sp : Sp} {s₁ : Shared} {vs : List Value} {ns : List Int}
    (KX : K.In s₁.heap) (hns : s₁.heap.Ns mainGlobals mg) (hb : s₁.heap.Ns builtinsNs mb) (hbb : ∀ x : Str, x ≠ "__name__" → mb x = bootBuiltins x) (hlim : s₁.heap.NoLimit) (hg : s₁.gens = #[])
    (ha : s₁.heap.get? a = some { cls := .type "list", data := .seq vs.toArray }) (hi : IntsAre vs ns) (hl : ns.length ≤ sizeLine) (hr : Room k callerA)
    (F : ∀ base : Heap, K.In base → base.Ns mainGlobals mg → FnG P w K mg base CX0 k fa fd [x] sp) (hbind : ∀ (s : Shared) (u : Value), BindsTo s fd ⟨[u], []⟩ [(x, u)])
    (hsp : ∀ H : Hp, Only H → SqL K H a (ns.map V.int) → sp [.ref a] H (fun v _ => v = .bl true) fun _ _ _ => False) :
    codeAny (model P w) callerA (.call (.ref fa) ⟨[.ref a], []⟩) (fun r s' => r = .ok (.ret (.bool true)) ∧ OldK s₁.heap s'.heap ∧ s'.os = s₁.os ∧ AllBare s'.gens) s₁ := by
  have rv := vals_ints hi
  -- from any picture of the heap that tracks the script alone
  have main : ∀ H : Hp, Only H → SqL K H a (ns.map V.int) → HOk P w H s₁.heap → (∀ b, H b ≠ none → b = a) → (H a ≠ none → K.lookup a = none) →
      codeAny (model P w) callerA (.call (.ref fa) ⟨[.ref a], []⟩) (fun r s' => r = .ok (.ret (.bool true)) ∧ OldK s₁.heap s'.heap ∧ s'.os = s₁.os ∧ AllBare s'.gens) s₁ := by
    intro H hO hS hok hA hK
    have old : ∀ {b : Addr} {o : Obj}, s₁.heap.get? b = some o → H b = none → (hidT s₁.heap H).get? b = some o := fun e n => hidT_get e n
    have dicts : ∀ {b : Addr} {o : Obj} {es : Array DictEntry} {ep : Nat}, s₁.heap.get? b = some o → o.data = .dict es ep → H b = none := by
      intro b o es ep e d
      cases q : H b with
      | none => rfl
      | some u =>
        have e' : b = a := hA b (by rw [q]; simp)
        subst e'
        rw [ha] at e
        cases e
        exact absurd (show Data.seq vs.toArray _ = Data.dict es ep from d) (by intro z; cases z)
    have spaces : ∀ {b : Addr} {m : Str → Option Value}, s₁.heap.Ns b m → (hidT s₁.heap H).Ns b m := by
      rintro b m ⟨o, es, ep, e, d, r⟩
      exact ⟨o, es, ep, old e (dicts e d), d, r⟩
    have hKb : K.In (hidT s₁.heap H) := by
      intro b o e
      refine old (KX b o e) ?_
      cases q : H b with
      | none => rfl
      | some u =>
        have e' : b = a := hA b (by rw [q]; simp)
        subst e'
        rw [hK (by rw [q]; simp)] at e
        cases e
    have hM : Mod K mg (hidT s₁.heap H) := by
      obtain ⟨mc, h1, h2⟩ := hlim
      exact ⟨hKb, spaces hns, ⟨mb, spaces hb, hbb⟩, mc, spaces h1, h2⟩
    have noF : ∀ b : Addr, b ∉ (frs ([] : List Env)) := fun b z => absurd (show b ∈ ([] : List Addr) from z) (by simp)
    have e0 : Env0 P w K mg (hidT s₁.heap H) callerA [] s₁ H := ⟨rfl, hM, fun b o e => of_hidT e, Nat.le_of_eq (hidT_size _ _), trivial, fun b z => absurd z (noF b), hok, .of_eq hg⟩
    refine codeAny_mono ((F _ hKb (spaces hns)).run callerA [] s₁ H ⟨[.ref a], []⟩ [.ref a] [.ref a] _ _ rfl hr e0 (hbind s₁ (.ref a)) (.cons rfl .nil) (hsp H hO hS)) (fun r s' h => ?_)
    cases r with
    | error e => exact False.elim h
    | ok fl =>
      cases fl with
      | next => exact False.elim h
      | brk => exact False.elim h
      | cont => exact False.elim h
      | ret u =>
        obtain ⟨v, H', os, bare, un, hok', r', q⟩ := h
        cases (show v = .bl true from q)
        cases (show u = Value.bool true from r')
        refine ⟨rfl, OldK.of_keep (fun b o e => ?_), os, bare⟩
        cases z0 : H b with
        | none => exact un.keep b o e z0 (noF b) (by simp)
        | some u =>
          rcases hO b with z | ⟨ob, xs, z⟩
          · rw [z0] at z; cases z
          · have z2 := un.frzs b ob _ z
            obtain ⟨e1, _⟩ := hok b _ z
            obtain ⟨e2, _⟩ := hok' b _ z2
            rw [e] at e1
            cases e1
            exact e2
  cases hk : K.lookup a with
  | some o =>
    have e := KX a o hk
    rw [ha] at e
    cases e
    refine main (fun _ => none) (fun _ => Or.inl rfl) (Or.inr ⟨_, vs.toArray, _, hk, rfl, rfl, rfl, ?_, by simpa using rv⟩) (fun b u z => by cases z) (fun b z => absurd rfl z) (fun z => absurd rfl z)
    rw [List.size_toArray, hi.length]
    exact hl
  | none =>
    refine main (fun b => if b = a then some (.frz { cls := .type "list", data := .seq vs.toArray } (.lst (ns.map V.int))) else none) ?_ (Or.inl (Or.inr ⟨{ cls := .type "list", data := .seq vs.toArray }, if_pos rfl⟩)) ?_ ?_ (fun _ => hk)
    · intro b
      by_cases hb : b = a
      · exact Or.inr ⟨_, _, if_pos hb⟩
      · exact Or.inl (if_neg hb)
    · intro b u z
      by_cases hb : b = a
      · have z' := (if_pos hb).symm.trans z
        cases z'
        subst hb
        exact ⟨ha, by rw [List.length_map]; exact hl, vs, _, rv, ha⟩
      · have z' := (if_neg hb).symm.trans z
        cases z'
    · intro b z
      by_cases hb : b = a
      · exact hb
      · exact absurd (if_neg hb) z
/-- what the law must be worth -/
theorem law_sp {K : PySem.W.Frag} {m : Fsem} {H : Hp} {a : Addr} {ns : List Int} (h : ∃ outs, m [.pure (.list (ns.map PyData.int))] = some (.pure (.bool true), outs)) (hS : SqL K H a (ns.map V.int)) : spF K 1 m [.ref a] H (fun v _ => v = .bl true) fun _ _ _ => False := by
  obtain ⟨outs, e⟩ := h
  refine ⟨_, H, rfl, ⟨rfl, Same.refl _, fun i d h => ?_, fun i b ds h => ?_, fun i j b c ds es z h1 _ _ _ => ?_⟩, _, outs, e, fun v H' G' t => dp_bool t.rep⟩
  · cases i with
    | zero => cases h; exact ⟨_, rfl, .lst hS dpa_ints⟩
    | succ i => cases h
  · cases i with
    | zero => cases h
    | succ i => cases h
  · cases i with
    | zero => cases h1
    | succ i => cases h1
end Lw
namespace Lw
open PySem PySem.Spec PyProof.Rows L2
theorem tuple_mul1 (l : Addr) (items : Array Value) (n : Nat) (dd : Option Addr) (sl : Array (Option Value)) (u : Tok) :
    Meets (Builtin.«tuple.__mul__» ⟨[.ref l, .int 1 u], []⟩) (fun _ R s => s.heap.get? l = some { cls := .type "tuple", dict := dd, data := .seq items n, slots := sl } ∧ R (.ok (.ret (Value.ref l))) s) :=
  .of_wp fun prog w A R s h => by
    obtain ⟨hp, g, d, tk, os⟩ := s
    obtain ⟨hl, h⟩ := h
    have f1 := AutoSeq1.idx_int
    wp_walk using wpAny_loadPart' hl
    repeat (first
      | (refine wpAny_ite_false (decide_eq_false (by decide)) ?_; wp_walk using wpAny_loadPart' hl)
      | (refine wpAny_ite_true (decide_eq_true (by simp)) ?_; wp_walk using wpAny_loadPart' hl))
    exact ⟨_, rfl, h⟩
def rRepT1 (K : PySem.W.Frag) : R2 := fun x y H Q => ∃ l xs, x = .ref l ∧ y = .int 1 ∧ SqT K H l xs ∧ Q (.ref l) H
section
variable {X : Cx} {F : Fx} {a b c e : Expr} {es : List Expr} {fa fb fc f : M R} {ta : M Bool} {pos p p2 : Pos} {x : Str}
theorem op_repT1 : OpR X (binaryOp .Mult) (rRepT1 X.K) := by
  intro pins s σ H x y v u Q I rx ry h
  obtain ⟨l, xs, rfl, rfl, hT, q⟩ := h
  cases rx
  obtain ⟨t, rfl⟩ := ry
  obtain ⟨its, r, ⟨⟨cls, dd, data, sl⟩, ho, hc, n, hd⟩, hs⟩ := I.tuple hT
  simp only at hc hd
  subst hc hd
  exact wpAny_binaryOp_repeat_ref (T := "tuple") (U := "int") (by decide) ⟨_, ho, rfl⟩ (fun s' => typeIs_int s' 1 t) noFill_tuple_mul F.fills_int_mul F.slot_int_rmul repeat_tuple F.slot_int_index.lookup
    (call_meets F.slot_int_rmul (typeIs_int s 1 t) F.entry_int_rmul (F.args_int_rmul_2 _ _) (int_rmul_tuple 1 t l its.toArray n dd sl)
      ⟨ho, rfl, ⟨_, ho, rfl⟩, call_meets F.slot_tuple_mul ⟨_, ho, rfl⟩ F.entry_tuple_mul (F.args_tuple_mul_2 _ _) (tuple_mul1 l its.toArray n dd sl t) ⟨ho, .ref l, H, I, rfl, q⟩⟩)
def gRepT1 : D → D → Option R
  | .tuple xs, .int 1 => some (.pure (.tuple xs))
  | _, _ => none
theorem op2_repT1 : Op2 X F (rRepT1 X.K) gRepT1 := ⟨fun ς G σ H x y dx dy r Q rl hx hy e k => by
  cases dx with
  | tuple i =>
    cases dy with
    | int j =>
      by_cases q : j = 1
      · subst q
        cases e
        rcases hx with hx | ⟨_, _, _, _, ee, _⟩
        · obtain ⟨p, vs, rfl, h1, h2⟩ := dp_tuple hx
          exact ⟨p, vs, rfl, hy.int, same_seqT rl.sub h1, k _ H G rl (Same.refl _) hx⟩
        · cases ee
      · unfold gRepT1 at e
        split at e
        · rename_i h1 h2; cases h2; exact absurd rfl q
        · cases e
    | _ => cases e
  | _ => cases e⟩
def gMulA : D → D → Option R := orG (gI cMul fun i j => .int (i * j)) (orG gRepT gRepT1)
theorem d_mulA (ha : PEd X a fa) (hb : PEd X b fb) : PEd X (.BinOp a .Mult b pos) (op2 gMulA fa fb) := d_op (op_mul.or (op_repT.or op_repT1)) (fun _ => Op2.or op2_mulI (Op2.or op2_repT op2_repT1)) ha hb
def gAddA : D → D → Option R := orG (gI0 fun i j => .int (i + j)) (orG gStr (orG gCatL (orG gCatT (gIB (· + ·)))))
theorem d_addA (ha : PEd X a fa) (hb : PEd X b fb) : PEd X (.BinOp a .Add b pos) (op2 gAddA fa fb) :=
  d_op (op_add.or (op_add_str.or (op_catL.or (op_catA.or op_addB)))) (fun _ => Op2.or (op2_I0 fun _ _ _ => .int _) (Op2.or op2_str (Op2.or op2_catL (Op2.or op2_catT op2_IB)))) ha hb
def gSubA : D → D → Option R := orG (gI0 fun i j => .int (i - j)) (gIB (· - ·))
theorem d_subA (ha : PEd X a fa) (hb : PEd X b fb) : PEd X (.BinOp a .Sub b pos) (op2 gSubA fa fb) := d_op (op_sub.or op_subB) (fun _ => Op2.or op2_sub op2_IB) ha hb
def gDivA : D → D → Option R := gI cDiv fun i j => .int (i / j)
def gModA : D → D → Option R := gI (fun _ j => decide (0 < j)) fun i j => .int (i % j)
def gPowA : D → D → Option R := gI cPow fun i j => .int (i ^ j.toNat)
def gLt : D → D → Option R := gI0 fun i j => .bool (decide (i < j))
def gLe : D → D → Option R := gI0 fun i j => .bool (decide (i ≤ j))
def gGt : D → D → Option R := gI0 fun i j => .bool (decide (j < i))
def gGe : D → D → Option R := gI0 fun i j => .bool (decide (j ≤ i))
theorem d_divA (ha : PEd X a fa) (hb : PEd X b fb) : PEd X (.BinOp a .FloorDiv b pos) (op2 gDivA fa fb) := d_fdiv ha hb
theorem d_modA (ha : PEd X a fa) (hb : PEd X b fb) : PEd X (.BinOp a .Mod b pos) (op2 gModA fa fb) := d_mod ha hb
theorem d_powA (ha : PEd X a fa) (hb : PEd X b fb) : PEd X (.BinOp a .Pow b pos) (op2 gPowA fa fb) := d_pow ha hb
theorem o_lt : Op2 X F (rI0 fun i j => .bl (decide (i < j))) gLt := op2_lt
theorem o_le : Op2 X F (rI0 fun i j => .bl (decide (i ≤ j))) gLe := op2_le
theorem o_gt : Op2 X F (rI0 fun i j => .bl (decide (j < i))) gGt := op2_gt
theorem o_ge : Op2 X F (rI0 fun i j => .bl (decide (j ≤ i))) gGe := op2_ge
theorem _root_.Lw.PWd.pt (h : PWd X e ta) : PTd X e ta := fun F => (h F).pt
end
/-! ### a def by its name -/
def Fo (P : Program) (w : World) (K : PySem.W.Frag) (mg : Str → Option Value) (base : Heap) (x : Str) (ps : List Str) (m : Fsem) (k : Nat) : Prop :=
  ∃ (f : Addr) (fd : FuncData), FnG P w K mg base CX0 k f fd ps (spF K ps.length m) ∧ mg x = some (.ref f) ∧ PySem.W.keepIn K (.ref f) = true ∧ Binds K fd ps []
section
variable {X : Cx} {x : Str} {ps : List Str} {m : Fsem} {k j : Nat} {p pos : Pos} {e : Expr} {es : List Expr} {ga : M (List Ar)}
theorem Fo.call (h : Fo X.prog X.w X.K X.mg X.base x ps m j) (hgd : X.A.guards = some []) (hr : Room k X.A) (hj : j ≤ k) (hg : Gl X x) (hn : (e :: es).length = ps.length) (ha : PAd X (e :: es) ga) (hla : ∀ ς as ς', ga ς = some (as, ς') → as.length = (e :: es).length)
    (hdb : (x == ("__debug__" : Str)) = false := by decide) (he : starEach (e :: es) X.env = (false, eval e X.env) :: starEach es X.env := by rfl) (hpl : (backTo pos (starEach es X.env)).any (·.1) = false := by rfl) :
    PEd X (.Call (.Name x p) (e :: es) [] pos) (callE m ga) := by
  obtain ⟨f, fd, G, hm, hk, hb⟩ := h
  exact d_call G hgd (hr.mono hj) hg hm hk hb (pass0 (X := X)) hn ha hla hdb he hpl
end
theorem fo_none {P : Program} {w : World} {K : PySem.W.Frag} {mg : Str → Option Value} {base : Heap} {x : Str} {ps : List Str} {k : Nat} {f : Addr} {fd : FuncData} (hm : mg x = some (.ref f)) (hk : PySem.W.keepIn K (.ref f) = true) (hb : Binds K fd ps []) : Fo P w K mg base x ps (fun _ => none) k := by
  refine ⟨f, fd, ⟨fun vs H Q E h => ?_, fun A outer s H args us vs Q E _ _ _ _ _ h => ?_⟩, hm, hk, hb⟩
  · obtain ⟨_, _, _, _, _, _, e, _⟩ := h; cases e
  · obtain ⟨_, _, _, _, _, _, e, _⟩ := h; cases e
theorem FunD.mkFn {P : Program} {w : World} {K : PySem.W.Frag} {mg : Str → Option Value} {base : Heap} {k : Nat} {f : Addr} {fd : FuncData} {ps : List Str} {x : Str} {params : Arguments} {body : List Stmt} {scope : Scope} {dvs : List V} {kws : List (Str × V)} {N : List Str} {g : MS}
    (F : FunD K x x params body scope dvs kws f fd) (S : FnScope N ps scope)
    (hbody : ∀ (cdv : Value) (A : Around) (outer : List Env) (s : Shared) (H : Hp) (E : XK), A.guards = some [] → Room k (A.deeper (envOfC x scope s.heap.objs.size f cdv)) →
      PSsd (cxOf CX0 P w K mg base N x scope f cdv A outer s H E).nox body g) : FnG P w K mg base CX0 (k + 1) f fd ps (spF K ps.length (runFn g N.length)) := by
  obtain ⟨oc, od, dV, kV, doc, pm, an, cdv, ct, osl, rfl, lk, hcd, _, _⟩ := F.ex
  refine fnG_of lk hcd S (fun vs H Q E h => ?_) (fun A outer s H vs Q E hgd hr h => ?_)
  · obtain ⟨ss, G, hl, a, _⟩ := h
    rw [a.len, hl]
  · exact fn_body (hbody cdv A outer s H E hgd hr) h
theorem FunD.mkG {P : Program} {w : World} {K : PySem.W.Frag} {mg : Str → Option Value} {base : Heap} {k : Nat} {f : Addr} {fd : FuncData} {ps : List Str} {x : Str} {params : Arguments} {body : List Stmt} {scope : Scope} {dvs : List V} {kws : List (Str × V)} {N : List Str} {g : MS}
    (F : FunD K x x params body scope dvs kws f fd) (S : FnScope N ps scope)
    (hbody : ∀ (cdv : Value) (A : Around) (outer : List Env) (s : Shared) (H : Hp) (E : XK), A.guards = some [] → Room k (A.deeper (envOfC x scope s.heap.objs.size f cdv)) →
      PSsd (cxOf CX0 P w K mg base N x scope f cdv A outer s H E).nox body g) (hm : mg x = some (.ref f)) (hb : Binds K fd ps []) : Fo P w K mg base x ps (runFn g N.length) (k + 1) := ⟨f, fd, FunD.mkFn F S hbody, hm, F.kp, hb⟩
/-! ### a def that is handed a new list as its one argument -/
def finF (o : Option (R × List S)) (ς : En) : Option (R × En) := match o with
  | some (.ref _, _) => none
  | some (r, _) => some (r, ς)
  | none => none
def callF (m : Fsem) (fe : M R) : M R := bd fe fun r => match r with
  | .fresh ds => fun ς => finF (m [.own true ds]) ς
  | _ => lift none
section
variable {K : PySem.W.Frag} {F : Fx} {ς : En} {G H G' H' : Hp} {σ : L2.St}
theorem args1 (r : Rel K F ς G σ H) {ds : List D} {v : V} (h : RepR K F ς G σ H (.fresh ds) v) : ArgsOk K [.own true ds] G [v] H := by
  obtain ⟨a, xs, rfl, h1, h2, h3, _, _⟩ := h
  refine ⟨rfl, r.sub, fun i d q => ?_, fun i b es q => ?_, fun i j b c es fs z q1 q2 _ _ => ?_⟩
  · cases i with
    | zero => cases q
    | succ i => cases q
  · cases i with
    | zero => cases q; exact ⟨rfl, a, xs, rfl, h1, h2, h3⟩
    | succ i => cases q
  · cases i with
    | zero =>
      cases j with
      | zero => rfl
      | succ j => cases q2
    | succ i => cases q1
theorem Rel.called1 (r : Rel K F ς G σ H) {ds : List D} {v w : V} {res : R} {outs : List S} (h : RepR K F ς G σ H (.fresh ds) v) (t : RetOk K [.own true ds] G [v] H res outs w H' G') : Rel K F ς G' σ H' := by
  obtain ⟨a, xs, rfl, h1, h2, h3, h4, h5⟩ := h
  have away : ∀ b, b ≠ a → ∀ (i : Nat) c es, ([S.own true ds])[i]? = some (.own c es) → ([V.ref a])[i]? ≠ some (.ref b) := by
    intro b ne i c es q1 q2
    cases i with
    | zero => cases q2; exact ne rfl
    | succ i => cases q1
  refine ⟨r.len, t.sub, r.g0.trans t.same, ?_, ?_, r.ap, r.par, ?_, ?_⟩
  · intro i d e
    obtain ⟨u, e1, e2⟩ := r.pu i d e
    exact ⟨u, e1, dp_same t.same e2⟩
  · intro i b es e
    obtain ⟨c, ws, e1, e2, e3, e4, e5⟩ := r.ow i b es e
    have ne : c ≠ a := fun z => by subst z; exact h5 i b es e e1
    refine ⟨c, ws, e1, t.fr c _ e2 (away c ne), ?_, dpa_same t.same e4, e5⟩
    cases z : G' c with
    | none => rfl
    | some y =>
      rcases t.nw c (by rw [z]; simp) with q | q
      · exact absurd e3 q
      · rw [e2] at q; cases q
  · intro c o e na
    have ne : c ≠ a := fun z => by subst z; rw [h4] at e; cases e
    exact t.fr c o (r.fr c o e na) (away c ne)
  · intro c e
    rcases t.nw c e with q | q
    · exact r.nw c q
    · exact .inr (r.new q)
end
section
variable {X : Cx} {x : Str} {ps : List Str} {m : Fsem} {k j : Nat} {p pos : Pos} {e : Expr} {fe : M R}
theorem Fo.call1 (h : Fo X.prog X.w X.K X.mg X.base x ps m j) (hgd : X.A.guards = some []) (hr : Room k X.A) (hj : j ≤ k) (hg : Gl X x) (hn : 1 = ps.length) (he : PEd X e fe)
    (hdb : (x == ("__debug__" : Str)) = false := by decide) (hs : starEach [e] X.env = (false, eval e X.env) :: starEach [] X.env := by rfl) (hpl : (backTo pos (starEach [] X.env)).any (·.1) = false := by rfl) :
    PEd X (.Call (.Name x p) [e] [] pos) (callF m fe) := by
  obtain ⟨f, fd, G, hm, hk, hb⟩ := h
  intro F
  refine PE.mono (pe_callG G hgd (hr.mono hj) hg hm hk hb (pass0 (X := X)) (pa_cons (he F) pa_nil hs) hdb hs hpl) fun σ H Q hq => ?_
  obtain ⟨ς, G, rl, r, ς', e', kq⟩ := hq
  obtain ⟨r0, ς1, e1, q1⟩ := bd_some e'
  refine ⟨ς, G, rl, r0, ς1, e1, fun v H1 G1 rl1 s1 rep => ?_⟩
  cases r0 with
  | fresh ds =>
    replace q1 : finF (m [.own true ds]) ς1 = some (r, ς') := q1
    unfold finF at q1
    split at q1
    · cases q1
    · rename_i r' outs hne q3
      cases q1
      refine ⟨[.own true ds], G1, hn, args1 rl1 rep, r, outs, q3, fun u H' G' t => kq u H' G' (rl1.called1 rep t) (s1.trans t.same) ?_⟩
      cases r with
      | pure d => exact t.rep
      | ref i => exact t.rep.elim
      | fresh es =>
        obtain ⟨a, xs, rfl, h1, h2, h3, h4⟩ := t.rep
        refine ⟨a, xs, rfl, h1, h2, h3, rl1.new h4, fun i b es' z1 z2 => ?_⟩
        obtain ⟨a', _, f1, f2, _⟩ := rl1.ow i b es' z1
        rw [z2] at f1; cases f1
        rw [h4] at f2; cases f2
    · cases q1
  | _ => cases q1
end
theorem walk_GE {l : PySem.W.OpenLaw} {n k : Nat} {q : Program} {loose : List Str} {XP : (Str → Option Value) → Heap → Prop} {YP : World → Heap → Prop} {d : DefRec} {x : Str}
    (hn : l.most = some n) (hn2 : n ≤ sizeLine) (hdf : d.params.defaults = []) (hr : Room k callerA)
    (F : ∀ (w : World) (mg : Str → Option Value) (fa : Addr) (h : Heap), YP w h → h.Ns mainGlobals mg → mg d.name = some (.ref fa) →
      ∃ (K : PySem.W.Frag) (fd : FuncData) (sp : Sp), K.In h ∧ (∀ (s : Shared) (u : Value), BindsTo s fd ⟨[u], []⟩ [(x, u)]) ∧
        (∀ (H : Hp) (a : Addr) (ns : List Int), ns.length ≤ n → (∀ z ∈ ns, Builtin.Int.intBits z ≤ 1048576) → SqL K H a (ns.map V.int) → sp [.ref a] H (fun v _ => v = .bl true) fun _ _ _ => False) ∧
        ∀ base : Heap, K.In base → base.Ns mainGlobals mg → FnG l.prog w K mg base CX0 k fa fd [x] sp) :
    PySem.W.WalkO q loose XP YP l.row.toRowW d [] (fun f vs => PySem.call f vs) := by
  refine Att.attach_callB hn hdf (fun w s₀ s₁ mg mb fa o pm cd doc a vs ns G Y ho hd hcd hmg hobj hints hlen hbits hg => ?_)
  obtain ⟨K, fd, sp, KX, hb, hsp, hF⟩ := F w mg fa _ Y G.T.g hmg
  exact law_go KX G.T.g G.T.b G.T.builtins G.T.nolimit hg hobj hints (Nat.le_trans hlen hn2) hr hF hb (fun H _ hS => hsp H a ns hlen hbits hS)
end Lw
namespace Lw
open PySem PySem.Spec PyProof.Rows L2
/-! ### what a program over the state is worth -/
def wp {α : Type} (f : M α) (ς : En) (Q : α → En → Prop) : Prop := ∃ a ς', f ς = some (a, ς') ∧ Q a ς'
def wps (g : MS) (ς : En) (Q : Out → Prop) : Prop := ∃ o, g ς = some o ∧ Q o
def wpf (m : Fsem) (ss : List S) (Q : R → List S → Prop) : Prop := ∃ r o, m ss = some (r, o) ∧ Q r o
namespace Sm
section
variable {α β : Type} {ς : En} {i : Nat} {d : D} {ds : List D} {b : Bool}
theorem mono {f : M α} {Q Q' : α → En → Prop} (h : wp f ς Q) (k : ∀ a ς', Q a ς' → Q' a ς') : wp f ς Q' := by
  obtain ⟨a, ς', e, q⟩ := h; exact ⟨a, ς', e, k _ _ q⟩
theorem fmono {m : Fsem} {ss : List S} {Q Q' : R → List S → Prop} (h : wpf m ss Q) (k : ∀ r o, Q r o → Q' r o) : wpf m ss Q' := by
  obtain ⟨r, o, e, q⟩ := h; exact ⟨r, o, e, k _ _ q⟩
theorem ret {a : α} {Q : α → En → Prop} (h : Q a ς) : wp (Lw.ret a) ς Q := ⟨a, ς, rfl, h⟩
theorem bd {f : M α} {g : α → M β} {Q : β → En → Prop} (h : wp f ς fun a ς' => wp (g a) ς' Q) : wp (Lw.bd f g) ς Q := by
  obtain ⟨a, ς', e, a2, ς2, e2, q⟩ := h
  exact ⟨a2, ς2, by unfold Lw.bd; rw [e]; exact e2, q⟩
theorem cn {Q : R → En → Prop} (h : Q (.pure d) ς) : wp (Lw.cn d) ς Q := ⟨_, ς, rfl, h⟩
theorem vrP {Q : R → En → Prop} (e : ς[i]? = some (some (.pure d))) (h : Q (.pure d) ς) : wp (vr i) ς Q := ⟨_, ς, by unfold vr; rw [e], h⟩
theorem vrO {Q : R → En → Prop} (e : ς[i]? = some (some (.own b ds))) (h : Q (.ref i) ς) : wp (vr i) ς Q := ⟨_, ς, by unfold vr; rw [e], h⟩
theorem lift {o : Option α} {a : α} {Q : α → En → Prop} (e : o = some a) (h : Q a ς) : wp (Lw.lift o) ς Q := ⟨a, ς, by unfold Lw.lift; rw [e], h⟩
theorem rd {r : R} {Q : D → En → Prop} (e : rdD r ς = some d) (h : Q d ς) : wp (Lw.rd r) ς Q := ⟨d, ς, by unfold Lw.rd; rw [e], h⟩
/-- a value that is read at once -/
def nf : R → R
  | .fresh ds => .pure (.list ds)
  | r => r
theorem rd_nf (r : R) (ς : En) : rdD (nf r) ς = rdD r ς := by cases r <;> rfl
theorem sub {f : M R} {Q : R → En → Prop} (h : wp f ς fun r ς' => Q (nf r) ς') : wp (Lw.sub f) ς Q := by
  refine bd (mono h fun r ς' q => ?_)
  cases r <;> exact ret q
theorem op2 {g : D → D → Option R} {fa fb : M R} {Q : R → En → Prop} (h : wp fa ς fun a ς1 => wp fb ς1 fun b ς2 => ∃ x y r, rdD a ς2 = some x ∧ rdD b ς2 = some y ∧ g x y = some r ∧ Q r ς2) : wp (Lw.op2 g fa fb) ς Q := by
  refine bd (sub (mono h fun a ς1 h => bd (sub (mono h fun b ς2 h => ?_))))
  obtain ⟨x, y, r, e1, e2, e3, q⟩ := h
  exact bd (rd (by rw [rd_nf]; exact e1) (bd (rd (by rw [rd_nf]; exact e2) (lift e3 q))))
theorem cal1 {g : D → Option R} {fa : M R} {Q : R → En → Prop} (h : wp fa ς fun a ς1 => ∃ x r, rdD a ς1 = some x ∧ g x = some r ∧ Q r ς1) : wp (Lw.cal1 g fa) ς Q := by
  refine bd (sub (mono h fun a ς1 h => ?_))
  obtain ⟨x, r, e1, e3, q⟩ := h
  exact bd (rd (by rw [rd_nf]; exact e1) (lift e3 q))
theorem isE {ts : List Tn} {fa : M R} {Q : R → En → Prop} (h : wp fa ς fun a ς1 => ∃ x, rdD a ς1 = some x ∧ Q (.pure (.bool (ts.any fun t => isD t x))) ς1) : wp (Lw.isE fa ts) ς Q := by
  refine bd (sub (mono h fun a ς1 h => ?_))
  obtain ⟨x, e1, q⟩ := h
  exact bd (rd (by rw [rd_nf]; exact e1) (ret q))
theorem esc {f : M R} {Q : D → En → Prop} (h : wp f ς fun r ς1 => ∃ d ς2, toD r ς1 = some (d, ς2) ∧ Q d ς2) : wp (Lw.esc f) ς Q := by
  refine bd (mono h fun r ς1 h => ?_)
  obtain ⟨d, ς2, e, q⟩ := h
  exact ⟨d, ς2, e, q⟩
theorem tst {f : M R} {Q : Bool → En → Prop} (h : wp f ς fun r ς1 => ∃ b, rdD r ς1 = some (.bool b) ∧ Q b ς1) : wp (Lw.tst f) ς Q := by
  refine bd (sub (mono h fun a ς1 h => ?_))
  obtain ⟨x, e1, q⟩ := h
  exact bd (rd (by rw [rd_nf]; exact e1) (lift rfl q))
theorem tru {f : M R} {Q : Bool → En → Prop} (h : wp f ς fun r ς1 => ∃ d b, rdD r ς1 = some d ∧ truD d = some b ∧ Q b ς1) : wp (Lw.tru f) ς Q := by
  refine bd (sub (mono h fun a ς1 h => ?_))
  obtain ⟨x, b, e1, e2, q⟩ := h
  exact bd (rd (by rw [rd_nf]; exact e1) (lift e2 q))
theorem andT {ta tb : M Bool} {Q : Bool → En → Prop} (h : wp ta ς fun b ς1 => if b = true then wp tb ς1 Q else Q false ς1) : wp (Lw.andT ta tb) ς Q := by
  refine bd (mono h fun b ς1 h => ?_)
  cases b
  · rw [if_neg (by decide)] at h ⊢; exact ret h
  · rw [if_pos rfl] at h ⊢; exact h
theorem orT {ta tb : M Bool} {Q : Bool → En → Prop} (h : wp ta ς fun b ς1 => if b = true then Q true ς1 else wp tb ς1 Q) : wp (Lw.orT ta tb) ς Q := by
  refine bd (mono h fun b ς1 h => ?_)
  cases b
  · rw [if_neg (by decide)] at h ⊢; exact h
  · rw [if_pos rfl] at h ⊢; exact ret h
theorem notT {ta : M Bool} {Q : Bool → En → Prop} (h : wp ta ς fun b ς1 => Q (!b) ς1) : wp (Lw.notT ta) ς Q := bd (mono h fun b ς1 h => ret h)
theorem andV {fa fb : M R} {Q : R → En → Prop} (h : wp fa ς fun r ς1 => ∃ b, rdD r ς1 = some (.bool b) ∧ if b = true then wp fb ς1 Q else Q (.pure (.bool false)) ς1) : wp (Lw.andV fa fb) ς Q := by
  refine bd (sub (mono h fun a ς1 h => ?_))
  obtain ⟨b, e1, q⟩ := h
  refine bd (rd (by rw [rd_nf]; exact e1) (bd (lift rfl ?_)))
  cases b
  · rw [if_neg (by decide)] at q ⊢; exact ret q
  · rw [if_pos rfl] at q ⊢; exact q
theorem orV {fa fb : M R} {Q : R → En → Prop} (h : wp fa ς fun r ς1 => ∃ b, rdD r ς1 = some (.bool b) ∧ if b = true then Q (.pure (.bool true)) ς1 else wp fb ς1 Q) : wp (Lw.orV fa fb) ς Q := by
  refine bd (sub (mono h fun a ς1 h => ?_))
  obtain ⟨b, e1, q⟩ := h
  refine bd (rd (by rw [rd_nf]; exact e1) (bd (lift rfl ?_)))
  cases b
  · rw [if_neg (by decide)] at q ⊢; exact q
  · rw [if_pos rfl] at q ⊢; exact ret q
theorem notV {fa : M R} {Q : R → En → Prop} (h : wp fa ς fun r ς1 => ∃ b, rdD r ς1 = some (.bool b) ∧ Q (.pure (.bool !b)) ς1) : wp (Lw.notV fa) ς Q := by
  refine bd (sub (mono h fun a ς1 h => ?_))
  obtain ⟨b, e1, q⟩ := h
  exact bd (rd (by rw [rd_nf]; exact e1) (bd (lift rfl (ret q))))
theorem negV {fa : M R} {Q : R → En → Prop} (h : wp fa ς fun r ς1 => ∃ i, rdD r ς1 = some (.int i) ∧ Q (.pure (.int (-i))) ς1) : wp (Lw.negV fa) ς Q := by
  refine bd (sub (mono h fun a ς1 h => ?_))
  obtain ⟨b, e1, q⟩ := h
  exact bd (rd (by rw [rd_nf]; exact e1) (lift rfl q))
theorem ife {t : M Bool} {fa fb : M R} {Q : R → En → Prop} (h : wp t ς fun b ς1 => if b = true then wp fa ς1 Q else wp fb ς1 Q) : wp (Lw.ife t fa fb) ς Q := by
  refine bd (mono h fun b ς1 h => ?_)
  cases b
  · rw [if_neg (by decide)] at h ⊢; exact h
  · rw [if_pos rfl] at h ⊢; exact h
theorem chn {g g' : D → D → Option R} {fa fb fc : M R} {Q : R → En → Prop} (h : wp fa ς fun a ς1 => wp fb ς1 fun b ς2 => ∃ x y k, rdD a ς2 = some x ∧ rdD b ς2 = some y ∧ g x y = some (.pure (.bool k)) ∧
    if k = true then wp fc ς2 fun c ς3 => ∃ y z r, rdD b ς3 = some y ∧ rdD c ς3 = some z ∧ g' y z = some r ∧ Q r ς3 else Q (.pure (.bool false)) ς2) : wp (Lw.chn g g' fa fb fc) ς Q := by
  refine bd (sub (mono h fun a ς1 h => bd (sub (mono h fun b ς2 h => ?_))))
  obtain ⟨x, y, k, e1, e2, e3, q⟩ := h
  refine bd (rd (by rw [rd_nf]; exact e1) (bd (rd (by rw [rd_nf]; exact e2) (bd (lift e3 (bd (lift rfl ?_)))))))
  cases k
  · rw [if_neg (by decide)] at q ⊢; exact ret q
  · rw [if_pos rfl] at q ⊢
    refine bd (sub (mono q fun c ς3 h => ?_))
    obtain ⟨y, z, r, e1, e2, e3, q⟩ := h
    exact bd (rd (by rw [rd_nf]; exact e1) (bd (rd (by rw [rd_nf]; exact e2) (lift e3 q))))
theorem argN {Q : List Ar → En → Prop} (h : Q [] ς) : wp Lw.argN ς Q := ret h
theorem argV {f : M R} {g : M (List Ar)} {Q : List Ar → En → Prop} (h : wp f ς fun r ς1 => ∃ d ς2, toD r ς1 = some (d, ς2) ∧ wp g ς2 fun as ς3 => Q (.val d :: as) ς3) : wp (Lw.argV f g) ς Q :=
  bd (esc (mono h fun r ς1 ⟨d, ς2, e, q⟩ => ⟨d, ς2, e, bd (mono q fun as ς3 q => ret q)⟩))
theorem argR {f : M R} {g : M (List Ar)} {Q : List Ar → En → Prop} (h : wp f ς fun r ς1 => ∃ i, r = .ref i ∧ wp g ς1 fun as ς3 => Q (.ref i :: as) ς3) : wp (Lw.argR f g) ς Q := by
  refine bd (mono h fun r ς1 h => ?_)
  obtain ⟨i, rfl, q⟩ := h
  exact bd (mono q fun as ς3 q => ret q)
theorem tupE {g : M (List Ar)} {Q : R → En → Prop} (h : wp g ς fun as ς1 => ∃ ds, vals as = some ds ∧ ds.length ≤ sizeLine ∧ Q (.pure (.tuple ds)) ς1) : wp (Lw.tupE g) ς Q := by
  refine bd (mono h fun as ς1 h => ?_)
  obtain ⟨ds, e, hs, q⟩ := h
  refine bd (lift e ?_)
  rw [if_pos (show small ds.length = true from decide_eq_true hs)]
  exact ret q
theorem lstE {g : M (List Ar)} {Q : R → En → Prop} (h : wp g ς fun as ς1 => ∃ ds, vals as = some ds ∧ ds.length ≤ sizeLine ∧ Q (.fresh ds) ς1) : wp (Lw.lstE g) ς Q := by
  refine bd (mono h fun as ς1 h => ?_)
  obtain ⟨ds, e, hs, q⟩ := h
  refine bd (lift e ?_)
  rw [if_pos (show small ds.length = true from decide_eq_true hs)]
  exact ret q
theorem callE {m : Fsem} {g : M (List Ar)} {Q : R → En → Prop} (h : wp g ς fun as ς1 => ∃ ss, argS as ς1 = some ss ∧ (refsOf as).Nodup ∧ wpf m ss fun r outs => (∀ i, r ≠ .ref i) ∧ Q r (putBack as outs ς1)) : wp (Lw.callE m g) ς Q := by
  refine bd (mono h fun as ς1 h => ?_)
  obtain ⟨ss, e, nd, r, outs, e2, hr, q⟩ := h
  refine ⟨r, putBack as outs ς1, ?_, q⟩
  simp only [e, e2]
  cases r with
  | ref i => exact absurd rfl (hr i)
  | pure d => exact if_pos nd
  | fresh ds => exact if_pos nd
theorem callF {m : Fsem} {fe : M R} {Q : R → En → Prop} (h : wp fe ς fun r ς1 => ∃ ds, r = .fresh ds ∧ wpf m [.own true ds] fun r outs => (∀ i, r ≠ .ref i) ∧ Q r ς1) : wp (Lw.callF m fe) ς Q := by
  refine bd (mono h fun r ς1 h => ?_)
  obtain ⟨ds, rfl, r, outs, e2, hr, q⟩ := h
  refine ⟨r, ς1, ?_, q⟩
  show finF (m [.own true ds]) ς1 = _
  rw [e2]
  cases r with
  | ref i => exact absurd rfl (hr i)
  | pure d => rfl
  | fresh ds => rfl
theorem ptN {Q : Option Int → En → Prop} (h : Q none ς) : wp Lw.ptN ς Q := ret h
theorem ptS {f : M R} {Q : Option Int → En → Prop} (h : wp f ς fun r ς1 => ∃ i, rdD r ς1 = some (.int i) ∧ Q (some i) ς1) : wp (Lw.ptS f) ς Q := by
  refine bd (sub (mono h fun a ς1 h => ?_))
  obtain ⟨b, e1, q⟩ := h
  exact bd (rd (by rw [rd_nf]; exact e1) (lift rfl q))
theorem slE {fa : M R} {fl fh : M (Option Int)} {Q : R → En → Prop} (h : wp fa ς fun a ς1 => wp fl ς1 fun l ς2 => wp fh ς2 fun u ς3 => ∃ x r, rdD a ς3 = some x ∧ gSl x l u = some r ∧ Q r ς3) : wp (Lw.slE fa fl fh) ς Q := by
  refine bd (sub (mono h fun a ς1 h => bd (mono h fun l ς2 h => bd (mono h fun u ς3 h => ?_))))
  obtain ⟨x, r, e1, e2, q⟩ := h
  exact bd (rd (by rw [rd_nf]; exact e1) (lift e2 q))
theorem revE {fa : M R} {Q : R → En → Prop} (h : wp fa ς fun a ς1 => ∃ ds, rdD a ς1 = some (.list ds) ∧ Q (.fresh ds.reverse) ς1) : wp (Lw.revE fa) ς Q := by
  refine bd (sub (mono h fun a ς1 h => ?_))
  obtain ⟨ds, e1, q⟩ := h
  exact bd (rd (by rw [rd_nf]; exact e1) (lift rfl q))
theorem mth {hh : List D → List D → Option (D × List D)} {fo : M R} {ga : M (List Ar)} {Q : R → En → Prop} (h : wp fo ς fun r ς1 => ∃ i b ds, r = .ref i ∧ ς1[i]? = some (some (.own b ds)) ∧ wp ga ς1 fun as ς2 => ∃ ws b ds d ds', vals as = some ws ∧ ς2[i]? = some (some (.own b ds)) ∧ hh ds ws = some (d, ds') ∧ Q (.pure d) (ς2.set i (some (.own b ds')))) : wp (Lw.mth hh fo ga) ς Q := by
  refine bd (mono h fun r ς1 h => ?_)
  obtain ⟨i, b, ds, rfl, e, h⟩ := h
  refine bd ⟨(), ς1, by unfold isOwn; rw [e], bd (mono h fun as ς2 h => ?_)⟩
  obtain ⟨ws, b, ds, d, ds', e1, e2, e3, q⟩ := h
  refine bd (lift e1 ⟨_, _, ?_, q⟩)
  simp only [e2, e3]
/-- iterables -/
theorem itS {f : M R} {Q : List D → En → Prop} (h : wp f ς fun r ς1 => ∃ d ς2 ds, toD r ς1 = some (d, ς2) ∧ items d = some ds ∧ Q ds ς2) : wp (Lw.itS f) ς Q :=
  bd (esc (mono h fun r ς1 ⟨d, ς2, ds, e, e2, q⟩ => ⟨d, ς2, e, lift e2 q⟩))
theorem itR1 {f : M R} {Q : List D → En → Prop} (h : wp f ς fun r ς1 => ∃ n, rdD r ς1 = some (.int n) ∧ inR n = true ∧ Q (rngD 0 n.toNat) ς1) : wp (Lw.itR1 f) ς Q := by
  refine bd (sub (mono h fun a ς1 h => ?_))
  obtain ⟨n, e1, e2, q⟩ := h
  refine bd (rd (by rw [rd_nf]; exact e1) ?_)
  show wp (if inR n = true then Lw.ret (rngD 0 n.toNat) else Lw.lift none) ς1 Q
  rw [if_pos e2]
  exact ret q
theorem itR2 {fa fb : M R} {Q : List D → En → Prop} (h : wp fa ς fun r ς1 => wp fb ς1 fun r2 ς2 => ∃ m n, rdD r ς2 = some (.int m) ∧ rdD r2 ς2 = some (.int n) ∧ inR m = true ∧ inR n = true ∧ Q (rngD m (n - m).toNat) ς2) : wp (Lw.itR2 fa fb) ς Q := by
  refine bd (sub (mono h fun a ς1 h => bd (sub (mono h fun b ς2 h => ?_))))
  obtain ⟨m, n, e1, e2, h1, h2, q⟩ := h
  refine bd (rd (by rw [rd_nf]; exact e1) (bd (rd (by rw [rd_nf]; exact e2) ?_)))
  show wp (if inR m = true ∧ inR n = true then Lw.ret (rngD m (n - m).toNat) else Lw.lift none) ς2 Q
  rw [if_pos ⟨h1, h2⟩]
  exact ret q
theorem itE {f : M R} {Q : List D → En → Prop} (h : wp f ς fun r ς1 => ∃ ds ς2, toD r ς1 = some (.list ds, ς2) ∧ Q (enumD 0 ds) ς2) : wp (Lw.itE f) ς Q :=
  bd (esc (mono h fun r ς1 ⟨ds, ς2, e, q⟩ => ⟨_, ς2, e, ret q⟩))
theorem itZ {fa fb : M R} {Q : List D → En → Prop} (h : wp fa ς fun r ς1 => ∃ d ς2, toD r ς1 = some (d, ς2) ∧ wp fb ς2 fun r2 ς3 => ∃ d2 ς4 xs ys, toD r2 ς3 = some (d2, ς4) ∧ ((d = .list xs ∧ d2 = .list ys) ∨ (d = .tuple xs ∧ d2 = .tuple ys)) ∧ Q (zipD xs ys) ς4) : wp (Lw.itZ fa fb) ς Q := by
  refine bd (esc (mono h fun r ς1 h => ?_))
  obtain ⟨d, ς2, e, h⟩ := h
  refine ⟨d, ς2, e, bd (esc (mono h fun r2 ς3 h => ?_))⟩
  obtain ⟨d2, ς4, xs, ys, e2, h, q⟩ := h
  refine ⟨d2, ς4, e2, ?_⟩
  rcases h with ⟨rfl, rfl⟩ | ⟨rfl, rfl⟩ <;> exact ret q
/-- comprehensions -/
theorem lcE {fi : M (List D)} {vs : List Nat} {tg : Tg} {tt : M Bool} {fe : M R} {Q : R → En → Prop}
    (h : wp fi ς fun ds ς1 => freeAll ς1 vs = true ∧ ∃ acc ς2, lcLoop vs tg tt fe ds [] (wipeE ς1 vs) = some (acc, ς2) ∧ Q (.fresh acc) ς2) : wp (Lw.lcE fi vs tg tt fe) ς Q := by
  obtain ⟨ds, ς1, e, hf, acc, ς2, e2, q⟩ := h
  refine ⟨_, ς2, ?_, q⟩
  unfold Lw.lcE
  simp only [e, e2]
  rw [if_pos hf]
theorem lcInv {vs : List Nat} {tg : Tg} {fe : M R} {ds : List D} {Q : List D → En → Prop} (I : Nat → List D → En → Prop) (h0 : I 0 [] ς) (hlen : ds.length ≤ sizeLine)
    (hs : ∀ (i : Nat) d acc ς, ds[i]? = some d → acc.length = i → I i acc ς → ∃ ς1, tg d ς = some ς1 ∧ wp fe ς1 fun r ς2 => ∃ y ς3, toD r ς2 = some (y, ς3) ∧ freeAll ς3 vs = true ∧ I (i + 1) (acc ++ [y]) (wipeE ς3 vs))
    (hd : ∀ acc ς, acc.length = ds.length → I ds.length acc ς → Q acc ς) : ∃ acc ς2, lcLoop vs tg (Lw.ret true) fe ds [] ς = some (acc, ς2) ∧ Q acc ς2 := by
  have main : ∀ (n i : Nat) (acc : List D) (ς : En), n = ds.length - i → i ≤ ds.length → acc.length = i → I i acc ς → ∃ acc' ς2, lcLoop vs tg (Lw.ret true) fe (ds.drop i) acc ς = some (acc', ς2) ∧ Q acc' ς2 := by
    intro n
    induction n with
    | zero =>
      intro i acc ς hn hi ha hI
      have : i = ds.length := by omega
      subst this
      rw [List.drop_length]
      exact ⟨acc, ς, rfl, hd acc ς ha hI⟩
    | succ n ih =>
      intro i acc ς hn hi ha hI
      have hlt : i < ds.length := by omega
      rw [List.drop_eq_getElem_cons hlt]
      obtain ⟨ς1, e1, r, ς2, e2, y, ς3, e3, hf, hI'⟩ := hs i _ acc ς (List.getElem?_eq_getElem hlt) ha hI
      obtain ⟨acc', ς4, e4, q⟩ := ih (i + 1) (acc ++ [y]) (wipeE ς3 vs) (by omega) hlt (by simp [ha]) hI'
      refine ⟨acc', ς4, ?_, q⟩
      rw [lcLoop]
      have ee : Lw.esc fe ς1 = some (y, ς3) := by unfold Lw.esc Lw.bd; rw [e2]; exact e3
      simp only [e1, Lw.ret, ee]
      rw [if_pos ⟨hf, by omega⟩]
      exact e4
  have := main ds.length 0 [] ς (by omega) (by omega) rfl h0
  rw [List.drop_zero] at this
  exact this
end
section
variable {ς : En} {Q : Out → Prop} {g g1 g2 : MS} {f : M R}
theorem skip (h : Q (.nx ς)) : wps Lw.skip ς Q := ⟨_, rfl, h⟩
def andThen (g : MS) (Q : Out → Prop) : Out → Prop
  | .nx ς => wps g ς Q
  | o => Q o
theorem sq (h : wps g1 ς (andThen g2 Q)) : wps (Lw.sq g1 g2) ς Q := by
  obtain ⟨o, e, q⟩ := h
  cases o with
  | nx ς1 => obtain ⟨o2, e2, q2⟩ := q; exact ⟨o2, by unfold Lw.sq; rw [e]; exact e2, q2⟩
  | rt r ς1 => exact ⟨_, by unfold Lw.sq; rw [e], q⟩
  | bk ς1 => exact ⟨_, by unfold Lw.sq; rw [e], q⟩
  | ct ς1 => exact ⟨_, by unfold Lw.sq; rw [e], q⟩
theorem asg {tg : Tg} (h : wp f ς fun r ς1 => ∃ d ς2 ς3, toD r ς1 = some (d, ς2) ∧ tg d ς2 = some ς3 ∧ Q (.nx ς3)) : wps (Lw.asg f tg) ς Q := by
  obtain ⟨r, ς1, e, d, ς2, ς3, e2, e3, q⟩ := h
  refine ⟨.nx ς3, ?_, q⟩
  have ee : Lw.esc f ς = some (d, ς2) := by unfold Lw.esc Lw.bd; rw [e]; exact e2
  unfold Lw.asg
  simp only [ee, e3]
theorem asgO {i : Nat} (h : wp f ς fun r ς1 => ∃ ds, r = .fresh ds ∧ free ς1 i = true ∧ Q (.nx (ς1.set i (some (.own false ds))))) : wps (Lw.asgO i f) ς Q := by
  obtain ⟨r, ς1, e, ds, rfl, hf, q⟩ := h
  exact ⟨_, by unfold Lw.asgO; rw [e]; exact if_pos hf, q⟩
theorem exS (h : wp f ς fun _ ς1 => Q (.nx ς1)) : wps (Lw.exS f) ς Q := by
  obtain ⟨r, ς1, e, q⟩ := h
  exact ⟨_, by unfold Lw.exS; rw [e], q⟩
/-- what is handed back -/
def outR (Q : Out → Prop) : R → En → Prop
  | .pure d, ς => Q (.rt (.pure d) ς)
  | .fresh ds, ς => Q (.rt (.fresh ds) ς)
  | .ref i, ς => (∃ ds, ς[i]? = some (some (.own false ds)) ∧ Q (.rt (.fresh ds) (ς.set i none))) ∨ ∃ d, ς[i]? = some (some (.pure d)) ∧ Q (.rt (.pure d) ς)
theorem retS (h : wp f ς (outR Q)) : wps (Lw.retS f) ς Q := by
  obtain ⟨r, ς1, e, q⟩ := h
  unfold wps Lw.retS
  rw [e]
  cases r with
  | pure d => exact ⟨_, rfl, q⟩
  | fresh ds => exact ⟨_, rfl, q⟩
  | ref i =>
    rcases q with ⟨ds, e2, q⟩ | ⟨d, e2, q⟩
    · exact ⟨_, by simp only [e2], q⟩
    · exact ⟨_, by simp only [e2], q⟩
theorem ifS {t : M Bool} (h : wp t ς fun b ς1 => if b = true then wps g1 ς1 Q else wps g2 ς1 Q) : wps (Lw.ifS t g1 g2) ς Q := by
  obtain ⟨b, ς1, e, q⟩ := h
  unfold wps Lw.ifS
  rw [e]
  cases b
  · rw [if_neg (by decide)] at q; exact q
  · rw [if_pos rfl] at q; exact q
theorem forS {fi : M (List D)} {tg : Tg} (h : wp fi ς fun ds ς1 => wps (loop tg g ds) ς1 Q) : wps (Lw.forS fi tg g) ς Q := by
  obtain ⟨ds, ς1, e, o, e2, q⟩ := h
  exact ⟨o, by unfold Lw.forS; rw [e]; exact e2, q⟩
theorem loopInv {tg : Tg} {ds : List D} (I : Nat → En → Prop) (h0 : I 0 ς)
    (hs : ∀ (i : Nat) d ς, ds[i]? = some d → I i ς → ∃ ς1, tg d ς = some ς1 ∧ wps g ς1 fun o => match o with | .nx ς2 => I (i + 1) ς2 | .ct ς2 => I (i + 1) ς2 | .bk ς2 => Q (.nx ς2) | .rt r ς2 => Q (.rt r ς2))
    (hd : ∀ ς, I ds.length ς → Q (.nx ς)) : wps (loop tg g ds) ς Q := by
  have main : ∀ (n i : Nat) (ς : En), n = ds.length - i → i ≤ ds.length → I i ς → wps (loop tg g (ds.drop i)) ς Q := by
    intro n
    induction n with
    | zero =>
      intro i ς hn hi hI
      have : i = ds.length := by omega
      subst this
      rw [List.drop_length]
      exact ⟨_, rfl, hd ς hI⟩
    | succ n ih =>
      intro i ς hn hi hI
      have hlt : i < ds.length := by omega
      rw [List.drop_eq_getElem_cons hlt]
      obtain ⟨ς1, e1, o, e2, q⟩ := hs i _ ς (List.getElem?_eq_getElem hlt) hI
      unfold wps
      rw [loop]
      simp only [e1, e2]
      cases o with
      | nx ς2 => exact ih (i + 1) ς2 (by omega) hlt q
      | ct ς2 => exact ih (i + 1) ς2 (by omega) hlt q
      | bk ς2 => exact ⟨_, rfl, q⟩
      | rt r ς2 => exact ⟨_, rfl, q⟩
  have := main ds.length 0 ς (by omega) (by omega) h0
  rw [List.drop_zero] at this
  exact this
theorem par2 {i j : Nat} {o1 o2 : Bool} {fa fb : M R} (h : wp (pv' o1 fa) ς fun x ς1 => wp (pv' o2 fb) ς1 fun y ς2 => ∃ s t, put i x = some s ∧ put j y = some t ∧ (free ς2 i = true ∧ free (ς2.set i s) j = true ∧ i ≠ j) ∧ Q (.nx ((ς2.set i s).set j t))) : wps (Lw.par2 i j o1 o2 fa fb) ς Q := by
  obtain ⟨x, ς1, e1, y, ς2, e2, s, t, p1, p2, hf, q⟩ := h
  refine ⟨_, ?_, q⟩
  unfold Lw.par2
  have : Lw.bd (pv' o1 fa) (fun x => Lw.bd (pv' o2 fb) fun y => Lw.ret (x, y)) ς = some ((x, y), ς2) := by
    unfold Lw.bd
    rw [e1]
    simp only [e2, Lw.ret]
  rw [this]
  simp only [p1, p2]
  rw [if_pos hf]
theorem pvF {f : M R} {Q : R → En → Prop} (h : wp f ς fun r ς1 => ∃ d ς2, toD r ς1 = some (d, ς2) ∧ Q (.pure d) ς2) : wp (pv' false f) ς Q := by
  show wp (Lw.bd (Lw.esc f) fun d => Lw.ret (.pure d)) ς Q
  exact bd (esc (mono h fun r ς1 ⟨d, ς2, e, q⟩ => ⟨d, ς2, e, ret q⟩))
theorem pvT {f : M R} {Q : R → En → Prop} (h : wp f ς Q) : wp (pv' true f) ς Q := h
theorem par3 {i j l : Nat} {fa fb fc : M R} (h : wp fa ς fun a ς1 => ∃ x ς1', toD a ς1 = some (x, ς1') ∧ wp fb ς1' fun b ς2 => ∃ y ς2', toD b ς2 = some (y, ς2') ∧ wp fc ς2' fun c ς3 => ∃ z ς3', toD c ς3 = some (z, ς3') ∧
    (free ς3' i = true ∧ free (ς3'.set i (some (.pure x))) j = true ∧ free ((ς3'.set i (some (.pure x))).set j (some (.pure y))) l = true) ∧ Q (.nx (((ς3'.set i (some (.pure x))).set j (some (.pure y))).set l (some (.pure z))))) : wps (Lw.par3 i j l fa fb fc) ς Q := by
  obtain ⟨a, ς1, e1, x, ς1', t1, b, ς2, e2, y, ς2', t2, c, ς3, e3, z, ς3', t3, hf, q⟩ := h
  refine ⟨_, ?_, q⟩
  unfold Lw.par3
  have h1 : Lw.esc fa ς = some (x, ς1') := by unfold Lw.esc Lw.bd; rw [e1]; exact t1
  have h2 : Lw.esc fb ς1' = some (y, ς2') := by unfold Lw.esc Lw.bd; rw [e2]; exact t2
  have h3 : Lw.esc fc ς2' = some (z, ς3') := by unfold Lw.esc Lw.bd; rw [e3]; exact t3
  have : Lw.bd (Lw.esc fa) (fun x => Lw.bd (Lw.esc fb) fun y => Lw.bd (Lw.esc fc) fun z => Lw.ret (x, y, z)) ς = some ((x, y, z), ς3') := by
    unfold Lw.bd
    rw [h1]
    simp only [h2, h3, Lw.ret]
  rw [this]
  simp only
  rw [if_pos hf]
/-- a def by its body -/
def outF (n : Nat) (Q : R → List S → Prop) : Out → Prop
  | .rt r ς => (∀ i, r ≠ .ref i) ∧ Q r (outsOf ς n)
  | .nx ς => Q (.pure .none) (outsOf ς n)
  | _ => False
theorem run {n : Nat} {ss : List S} {Q : R → List S → Prop} (h : wps g (ent n ss) (outF ss.length Q)) : wpf (runFn g n) ss Q := by
  obtain ⟨o, e, q⟩ := h
  unfold wpf runFn
  rw [e]
  cases o with
  | nx ς => exact ⟨_, _, rfl, q⟩
  | rt r ς =>
    cases r with
    | ref i => exact absurd rfl (q.1 i)
    | pure d => exact ⟨_, _, rfl, q.2⟩
    | fresh ds => exact ⟨_, _, rfl, q.2⟩
  | bk ς => exact q.elim
  | ct ς => exact q.elim
theorem at_nx (h : wps g ς Q) : andThen g Q (.nx ς) := h
theorem at_rt {r : R} (h : Q (.rt r ς)) : andThen g Q (.rt r ς) := h
theorem oP {d : D} (h : Q (.rt (.pure d) ς)) : outR Q (.pure d) ς := h
theorem oF {ds : List D} (h : Q (.rt (.fresh ds) ς)) : outR Q (.fresh ds) ς := h
theorem oM {i : Nat} {ds : List D} (e : ς[i]? = some (some (.own false ds))) (h : Q (.rt (.fresh ds) (ς.set i none))) : outR Q (.ref i) ς := .inl ⟨ds, e, h⟩
theorem fP {n : Nat} {d : D} {Q : R → List S → Prop} (h : Q (.pure d) (outsOf ς n)) : outF n Q (.rt (.pure d) ς) := ⟨(fun i z => by cases z), h⟩
theorem fF {n : Nat} {ds : List D} {Q : R → List S → Prop} (h : Q (.fresh ds) (outsOf ς n)) : outF n Q (.rt (.fresh ds) ς) := ⟨(fun i z => by cases z), h⟩
end
end Sm
class Stp (G : Prop) (P : outParam Prop) : Prop where
  go : P → G
class Evl (e : Option R) (r : outParam R) : Prop where
  ev : e = some r
class Gd (G : Prop) : Prop where
  keep : G → G
class Gd5 (G : Prop) : Prop where
  keep : G → G
instance {a b : D} {x : Option R} : Gd (gMulA a b = x) := ⟨id⟩
instance {a b : D} {x : Option R} : Gd (gDivA a b = x) := ⟨id⟩
instance {a b : D} {x : Option R} : Gd (gDm a b = x) := ⟨id⟩
instance {i : Int} {b : Bool} : Gd (inR i = b) := ⟨id⟩
namespace Sm
section
variable {α β : Type} {ς : En} {i : Nat} {d : D} {ds : List D} {b : Bool}
instance stp_ret {a : α} {Q : α → En → Prop} : Stp (wp (Lw.ret a) ς Q) (Q a ς) := ⟨Sm.ret⟩
instance stp_cn {Q : R → En → Prop} : Stp (wp (Lw.cn d) ς Q) (Q (.pure d) ς) := ⟨Sm.cn⟩
instance stp_op2 {g : D → D → Option R} {fa fb : M R} {Q : R → En → Prop} : Stp (wp (Lw.op2 g fa fb) ς Q) (wp fa ς fun a ς1 => wp fb ς1 fun b ς2 => ∃ x y r, rdD a ς2 = some x ∧ rdD b ς2 = some y ∧ g x y = some r ∧ Q r ς2) := ⟨Sm.op2⟩
instance stp_cal1 {g : D → Option R} {fa : M R} {Q : R → En → Prop} : Stp (wp (Lw.cal1 g fa) ς Q) (wp fa ς fun a ς1 => ∃ x r, rdD a ς1 = some x ∧ g x = some r ∧ Q r ς1) := ⟨Sm.cal1⟩
instance stp_isE {ts : List Tn} {fa : M R} {Q : R → En → Prop} : Stp (wp (Lw.isE fa ts) ς Q) (wp fa ς fun a ς1 => ∃ x, rdD a ς1 = some x ∧ Q (.pure (.bool (ts.any fun t => isD t x))) ς1) := ⟨Sm.isE⟩
instance stp_esc {f : M R} {Q : D → En → Prop} : Stp (wp (Lw.esc f) ς Q) (wp f ς fun r ς1 => ∃ d ς2, toD r ς1 = some (d, ς2) ∧ Q d ς2) := ⟨Sm.esc⟩
instance stp_tst {f : M R} {Q : Bool → En → Prop} : Stp (wp (Lw.tst f) ς Q) (wp f ς fun r ς1 => ∃ b, rdD r ς1 = some (.bool b) ∧ Q b ς1) := ⟨Sm.tst⟩
instance stp_tru {f : M R} {Q : Bool → En → Prop} : Stp (wp (Lw.tru f) ς Q) (wp f ς fun r ς1 => ∃ d b, rdD r ς1 = some d ∧ truD d = some b ∧ Q b ς1) := ⟨Sm.tru⟩
instance stp_andT {ta tb : M Bool} {Q : Bool → En → Prop} : Stp (wp (Lw.andT ta tb) ς Q) (wp ta ς fun b ς1 => if b = true then wp tb ς1 Q else Q false ς1) := ⟨Sm.andT⟩
instance stp_orT {ta tb : M Bool} {Q : Bool → En → Prop} : Stp (wp (Lw.orT ta tb) ς Q) (wp ta ς fun b ς1 => if b = true then Q true ς1 else wp tb ς1 Q) := ⟨Sm.orT⟩
instance stp_notT {ta : M Bool} {Q : Bool → En → Prop} : Stp (wp (Lw.notT ta) ς Q) (wp ta ς fun b ς1 => Q (!b) ς1) := ⟨Sm.notT⟩
instance stp_andV {fa fb : M R} {Q : R → En → Prop} : Stp (wp (Lw.andV fa fb) ς Q) (wp fa ς fun r ς1 => ∃ b, rdD r ς1 = some (.bool b) ∧ if b = true then wp fb ς1 Q else Q (.pure (.bool false)) ς1) := ⟨Sm.andV⟩
instance stp_orV {fa fb : M R} {Q : R → En → Prop} : Stp (wp (Lw.orV fa fb) ς Q) (wp fa ς fun r ς1 => ∃ b, rdD r ς1 = some (.bool b) ∧ if b = true then Q (.pure (.bool true)) ς1 else wp fb ς1 Q) := ⟨Sm.orV⟩
instance stp_notV {fa : M R} {Q : R → En → Prop} : Stp (wp (Lw.notV fa) ς Q) (wp fa ς fun r ς1 => ∃ b, rdD r ς1 = some (.bool b) ∧ Q (.pure (.bool !b)) ς1) := ⟨Sm.notV⟩
instance stp_negV {fa : M R} {Q : R → En → Prop} : Stp (wp (Lw.negV fa) ς Q) (wp fa ς fun r ς1 => ∃ i, rdD r ς1 = some (.int i) ∧ Q (.pure (.int (-i))) ς1) := ⟨Sm.negV⟩
instance stp_ife {t : M Bool} {fa fb : M R} {Q : R → En → Prop} : Stp (wp (Lw.ife t fa fb) ς Q) (wp t ς fun b ς1 => if b = true then wp fa ς1 Q else wp fb ς1 Q) := ⟨Sm.ife⟩
instance stp_chn {g g' : D → D → Option R} {fa fb fc : M R} {Q : R → En → Prop} : Stp (wp (Lw.chn g g' fa fb fc) ς Q) (wp fa ς fun a ς1 => wp fb ς1 fun b ς2 => ∃ x y k, rdD a ς2 = some x ∧ rdD b ς2 = some y ∧ g x y = some (.pure (.bool k)) ∧     if k = true then wp fc ς2 fun c ς3 => ∃ y z r, rdD b ς3 = some y ∧ rdD c ς3 = some z ∧ g' y z = some r ∧ Q r ς3 else Q (.pure (.bool false)) ς2) := ⟨Sm.chn⟩
instance stp_argN {Q : List Ar → En → Prop} : Stp (wp Lw.argN ς Q) (Q [] ς) := ⟨Sm.argN⟩
instance stp_argV {f : M R} {g : M (List Ar)} {Q : List Ar → En → Prop} : Stp (wp (Lw.argV f g) ς Q) (wp f ς fun r ς1 => ∃ d ς2, toD r ς1 = some (d, ς2) ∧ wp g ς2 fun as ς3 => Q (.val d :: as) ς3) := ⟨Sm.argV⟩
instance stp_argR {f : M R} {g : M (List Ar)} {Q : List Ar → En → Prop} : Stp (wp (Lw.argR f g) ς Q) (wp f ς fun r ς1 => ∃ i, r = .ref i ∧ wp g ς1 fun as ς3 => Q (.ref i :: as) ς3) := ⟨Sm.argR⟩
instance stp_tupE {g : M (List Ar)} {Q : R → En → Prop} : Stp (wp (Lw.tupE g) ς Q) (wp g ς fun as ς1 => ∃ ds, vals as = some ds ∧ ds.length ≤ sizeLine ∧ Q (.pure (.tuple ds)) ς1) := ⟨Sm.tupE⟩
instance stp_lstE {g : M (List Ar)} {Q : R → En → Prop} : Stp (wp (Lw.lstE g) ς Q) (wp g ς fun as ς1 => ∃ ds, vals as = some ds ∧ ds.length ≤ sizeLine ∧ Q (.fresh ds) ς1) := ⟨Sm.lstE⟩
instance stp_callE {m : Fsem} {g : M (List Ar)} {Q : R → En → Prop} : Stp (wp (Lw.callE m g) ς Q) (wp g ς fun as ς1 => ∃ ss, argS as ς1 = some ss ∧ (refsOf as).Nodup ∧ wpf m ss fun r outs => (∀ i, r ≠ .ref i) ∧ Q r (putBack as outs ς1)) := ⟨Sm.callE⟩
instance stp_callF {m : Fsem} {fe : M R} {Q : R → En → Prop} : Stp (wp (Lw.callF m fe) ς Q) (wp fe ς fun r ς1 => ∃ ds, r = .fresh ds ∧ wpf m [.own true ds] fun r outs => (∀ i, r ≠ .ref i) ∧ Q r ς1) := ⟨Sm.callF⟩
instance stp_ptN {Q : Option Int → En → Prop} : Stp (wp Lw.ptN ς Q) (Q none ς) := ⟨Sm.ptN⟩
instance stp_ptS {f : M R} {Q : Option Int → En → Prop} : Stp (wp (Lw.ptS f) ς Q) (wp f ς fun r ς1 => ∃ i, rdD r ς1 = some (.int i) ∧ Q (some i) ς1) := ⟨Sm.ptS⟩
instance stp_slE {fa : M R} {fl fh : M (Option Int)} {Q : R → En → Prop} : Stp (wp (Lw.slE fa fl fh) ς Q) (wp fa ς fun a ς1 => wp fl ς1 fun l ς2 => wp fh ς2 fun u ς3 => ∃ x r, rdD a ς3 = some x ∧ gSl x l u = some r ∧ Q r ς3) := ⟨Sm.slE⟩
instance stp_revE {fa : M R} {Q : R → En → Prop} : Stp (wp (Lw.revE fa) ς Q) (wp fa ς fun a ς1 => ∃ ds, rdD a ς1 = some (.list ds) ∧ Q (.fresh ds.reverse) ς1) := ⟨Sm.revE⟩
instance stp_mth {hh : List D → List D → Option (D × List D)} {fo : M R} {ga : M (List Ar)} {Q : R → En → Prop} : Stp (wp (Lw.mth hh fo ga) ς Q) (wp fo ς fun r ς1 => ∃ i b ds, r = .ref i ∧ ς1[i]? = some (some (.own b ds)) ∧ wp ga ς1 fun as ς2 => ∃ ws b ds d ds', vals as = some ws ∧ ς2[i]? = some (some (.own b ds)) ∧ hh ds ws = some (d, ds') ∧ Q (.pure d) (ς2.set i (some (.own b ds')))) := ⟨Sm.mth⟩
instance stp_itS {f : M R} {Q : List D → En → Prop} : Stp (wp (Lw.itS f) ς Q) (wp f ς fun r ς1 => ∃ d ς2 ds, toD r ς1 = some (d, ς2) ∧ items d = some ds ∧ Q ds ς2) := ⟨Sm.itS⟩
instance stp_itR1 {f : M R} {Q : List D → En → Prop} : Stp (wp (Lw.itR1 f) ς Q) (wp f ς fun r ς1 => ∃ n, rdD r ς1 = some (.int n) ∧ inR n = true ∧ Q (rngD 0 n.toNat) ς1) := ⟨Sm.itR1⟩
instance stp_itR2 {fa fb : M R} {Q : List D → En → Prop} : Stp (wp (Lw.itR2 fa fb) ς Q) (wp fa ς fun r ς1 => wp fb ς1 fun r2 ς2 => ∃ m n, rdD r ς2 = some (.int m) ∧ rdD r2 ς2 = some (.int n) ∧ inR m = true ∧ inR n = true ∧ Q (rngD m (n - m).toNat) ς2) := ⟨Sm.itR2⟩
instance stp_itE {f : M R} {Q : List D → En → Prop} : Stp (wp (Lw.itE f) ς Q) (wp f ς fun r ς1 => ∃ ds ς2, toD r ς1 = some (.list ds, ς2) ∧ Q (enumD 0 ds) ς2) := ⟨Sm.itE⟩
instance stp_itZ {fa fb : M R} {Q : List D → En → Prop} : Stp (wp (Lw.itZ fa fb) ς Q) (wp fa ς fun r ς1 => ∃ d ς2, toD r ς1 = some (d, ς2) ∧ wp fb ς2 fun r2 ς3 => ∃ d2 ς4 xs ys, toD r2 ς3 = some (d2, ς4) ∧ ((d = .list xs ∧ d2 = .list ys) ∨ (d = .tuple xs ∧ d2 = .tuple ys)) ∧ Q (zipD xs ys) ς4) := ⟨Sm.itZ⟩
end
section
variable {ς : En} {Q : Out → Prop} {g g1 g2 : MS} {f : M R}
instance stp_skip  : Stp (wps Lw.skip ς Q) (Q (.nx ς)) := ⟨Sm.skip⟩
instance stp_sq  : Stp (wps (Lw.sq g1 g2) ς Q) (wps g1 ς (andThen g2 Q)) := ⟨Sm.sq⟩
instance stp_asg {tg : Tg} : Stp (wps (Lw.asg f tg) ς Q) (wp f ς fun r ς1 => ∃ d ς2 ς3, toD r ς1 = some (d, ς2) ∧ tg d ς2 = some ς3 ∧ Q (.nx ς3)) := ⟨Sm.asg⟩
instance stp_asgO {i : Nat} : Stp (wps (Lw.asgO i f) ς Q) (wp f ς fun r ς1 => ∃ ds, r = .fresh ds ∧ free ς1 i = true ∧ Q (.nx (ς1.set i (some (.own false ds))))) := ⟨Sm.asgO⟩
instance stp_exS  : Stp (wps (Lw.exS f) ς Q) (wp f ς fun _ ς1 => Q (.nx ς1)) := ⟨Sm.exS⟩
instance stp_retS  : Stp (wps (Lw.retS f) ς Q) (wp f ς (outR Q)) := ⟨Sm.retS⟩
instance stp_ifS {t : M Bool} : Stp (wps (Lw.ifS t g1 g2) ς Q) (wp t ς fun b ς1 => if b = true then wps g1 ς1 Q else wps g2 ς1 Q) := ⟨Sm.ifS⟩
instance stp_forS {fi : M (List D)} {tg : Tg} : Stp (wps (Lw.forS fi tg g) ς Q) (wp fi ς fun ds ς1 => wps (loop tg g ds) ς1 Q) := ⟨Sm.forS⟩
instance stp_par2 {i j : Nat} {o1 o2 : Bool} {fa fb : M R} : Stp (wps (Lw.par2 i j o1 o2 fa fb) ς Q) (wp (pv' o1 fa) ς fun x ς1 => wp (pv' o2 fb) ς1 fun y ς2 => ∃ s t, put i x = some s ∧ put j y = some t ∧ (free ς2 i = true ∧ free (ς2.set i s) j = true ∧ i ≠ j) ∧ Q (.nx ((ς2.set i s).set j t))) := ⟨Sm.par2⟩
instance stp_pvF {f : M R} {Q : R → En → Prop} : Stp (wp (pv' false f) ς Q) (wp f ς fun r ς1 => ∃ d ς2, toD r ς1 = some (d, ς2) ∧ Q (.pure d) ς2) := ⟨Sm.pvF⟩
instance stp_pvT {f : M R} {Q : R → En → Prop} : Stp (wp (pv' true f) ς Q) (wp f ς Q) := ⟨Sm.pvT⟩
instance stp_par3 {i j l : Nat} {fa fb fc : M R} : Stp (wps (Lw.par3 i j l fa fb fc) ς Q) (wp fa ς fun a ς1 => ∃ x ς1', toD a ς1 = some (x, ς1') ∧ wp fb ς1' fun b ς2 => ∃ y ς2', toD b ς2 = some (y, ς2') ∧ wp fc ς2' fun c ς3 => ∃ z ς3', toD c ς3 = some (z, ς3') ∧     (free ς3' i = true ∧ free (ς3'.set i (some (.pure x))) j = true ∧ free ((ς3'.set i (some (.pure x))).set j (some (.pure y))) l = true) ∧ Q (.nx (((ς3'.set i (some (.pure x))).set j (some (.pure y))).set l (some (.pure z))))) := ⟨Sm.par3⟩
instance stp_at_nx  : Stp (andThen g Q (.nx ς)) (wps g ς Q) := ⟨Sm.at_nx⟩
instance stp_at_rt {r : R} : Stp (andThen g Q (.rt r ς)) (Q (.rt r ς)) := ⟨Sm.at_rt⟩
instance stp_oP {d : D} : Stp (outR Q (.pure d) ς) (Q (.rt (.pure d) ς)) := ⟨Sm.oP⟩
instance stp_oF {ds : List D} : Stp (outR Q (.fresh ds) ς) (Q (.rt (.fresh ds) ς)) := ⟨Sm.oF⟩
instance stp_fP {n : Nat} {d : D} {Q : R → List S → Prop} : Stp (outF n Q (.rt (.pure d) ς)) (Q (.pure d) (outsOf ς n)) := ⟨Sm.fP⟩
instance stp_fF {n : Nat} {ds : List D} {Q : R → List S → Prop} : Stp (outF n Q (.rt (.fresh ds) ς)) (Q (.fresh ds) (outsOf ς n)) := ⟨Sm.fF⟩
end
end Sm
end Lw
namespace Lw
open PySem PySem.Spec PyProof.Rows L2
/-! ### rows of new tuples out of one, two or three sequences, each a list or a tuple -/
inductive Kd where
  | L
  | T
namespace Kd
def Sq (k : Kd) (K : PySem.W.Frag) (H : Hp) (a : Addr) (xs : List V) : Prop := match k with
  | L => SqL K H a xs
  | T => SqT K H a xs
def Is (k : Kd) (h : Heap) (a : Addr) (its : Array Value) : Prop := match k with
  | L => h.IsList a its
  | T => h.IsTuple a its
def Iter (k : Kd) (h : Heap) (it a : Addr) (i : Nat) : Prop := match k with
  | L => h.IsListIter it a i
  | T => h.IsTupleIter it a i
def ob (k : Kd) (a : Addr) : Obj := match k with
  | L => { cls := .type "list_iterator", data := .fields #[.ref a, .int 0 0] }
  | T => { cls := .type "tuple_iterator", data := .fields #[.ref a, .int 0 0] }
theorem begins (k : Kd) (a : Addr) (its : Array Value) : Begins (.ref a) (k.ob a) fun h => k.Is h a its := by
  cases k
  · exact begins_list a its
  · exact begins_tuple a its
theorem iter0 (k : Kd) {h : Heap} {it a : Addr} (e : h.get? it = some (k.ob a)) : k.Iter h it a 0 := by
  cases k
  · exact ⟨_, e, rfl, rfl⟩
  · exact ⟨_, e, rfl, rfl⟩
theorem draws (k : Kd) {P : Program} {w : World} {A : Around} (hh : A.handled = none) (it a : Addr) (ne : a ≠ it) (its : Array Value) :
    Draws P w A it [it, a] its.size (fun i v => its[i]? = some v) (fun i h => k.Iter h it a i ∧ k.Is h a its) := by
  cases k
  · exact Draws.list hh it a ne its
  · exact Draws.tuple hh it a ne its
theorem iterAt (k : Kd) {h h' : Heap} {it a : Addr} {i : Nat} (x : k.Iter h it a i) (e : ∀ o, h.get? it = some o → h'.get? it = some o) : k.Iter h' it a i := by
  cases k
  · exact Heap.IsListIter.at x e
  · exact Heap.IsTupleIter.at x e
theorem iterOb (k : Kd) {h : Heap} {it a : Addr} {i : Nat} (x : k.Iter h it a i) : ∃ o, h.get? it = some o ∧ ∀ v, o.data ≠ .cell v := by
  cases k
  · obtain ⟨o, e, _, d⟩ := x; exact ⟨o, e, fun v q => by rw [d] at q; cases q⟩
  · obtain ⟨o, e, _, d⟩ := x; exact ⟨o, e, fun v q => by rw [d] at q; cases q⟩
theorem inv (k : Kd) {X : Cx} {pins : List (Addr × Obj)} {σ : L2.St} {H : Hp} {s : Shared} {a : Addr} {xs : List V} (I : Inv X pins σ H s) (h : k.Sq X.K H a xs) : ∃ its : List Value, Vals xs its ∧ k.Is s.heap a its.toArray ∧ a < s.heap.objs.size := by
  cases k
  · obtain ⟨its, r, pl, _⟩ := I.list h
    exact ⟨its, r, pl.isList, pl.lt⟩
  · obtain ⟨its, r, pl, _⟩ := I.tuple h
    obtain ⟨o, e, _⟩ := id pl
    exact ⟨its, r, pl, Heap.lt_size e⟩
theorem same (k : Kd) {K : PySem.W.Frag} {H H' : Hp} {a : Addr} {xs : List V} (s : Same H H') (h : k.Sq K H a xs) : k.Sq K H' a xs := by
  cases k
  · exact s.seq h
  · exact same_seqT s h
theorem of_items {K : PySem.W.Frag} {H : Hp} {v : V} {d : D} {ds : List D} (h : Dp K H v d) (e : items d = some ds) : ∃ (k : Kd) (a : Addr) (xs : List V), v = .ref a ∧ k.Sq K H a xs ∧ DpAll K H xs ds := by
  cases d with
  | list es => cases e; obtain ⟨a, vs, rfl, h1, h2⟩ := dp_list h; exact ⟨L, a, vs, rfl, h1, h2⟩
  | tuple es => cases e; obtain ⟨a, vs, rfl, h1, h2⟩ := dp_tuple h; exact ⟨T, a, vs, rfl, h1, h2⟩
  | _ => cases e
end Kd
/-- rows given out one by one, each a new tuple -/
def ItG (ok : Hp → Prop) (n : Nat) (row : Nat → List V) : It :=
  ⟨fun i H => ok H ∧ i < n, fun i H v H' => ∃ p, v = .ref p ∧ H p = none ∧ H' = upd H p (.tup (row i)), fun i H => ok H ∧ n ≤ i⟩
theorem turn_g {P : Program} {w : World} {K : PySem.W.Frag} {tg : Expr} {ok : Hp → Prop} {n : Nat} {row : Nat → List V} {fp : List Addr} {it : Addr} {S : Nat → Heap → Prop} (hm : it ∈ fp) (hn : ∀ i, (row i).length ≤ sizeLine)
    (ho : ∀ i h, S i h → ∀ b ∈ fp, ∃ o, h.get? b = some o ∧ ∀ v, o.data ≠ .cell v)
    (hk : ∀ i h h', S i h → (∀ b ∈ fp, ∀ o, h.get? b = some o → h'.get? b = some o) → S i h')
    (hw : ∀ (X : Cx), X.prog = P → X.w = w → X.K = K → X.calm = true → ∀ (pins : List (Addr × Obj)) (s : Shared) (σ : L2.St) (H : Hp), Inv X pins σ H s → ok H → ∀ i, S i s.heap → ∃ fp' wr St, (∀ b ∈ wr, b ∈ fp) ∧
      GoesN P w X.A tg it fp' wr n (fun i h₀ v h => ∃ T vals, v = .ref T ∧ h₀.objs.size ≤ T ∧ Vals (row i) vals ∧ h.IsTuple T vals.toArray) St ∧ St i s.heap ∧ ∀ j h, St j h → S j h)
    (hs : ∀ (A : Around) (i : Nat) (s : Shared) (Q : Value → Shared → Prop) (E : Value → Shared → Prop), S i s.heap → Q (.ref it) s → wpAny (model P w) A (pyIter (.ref it)) Q E s) :
    Turn P w K tg (ItG ok n row) fp it (fun i h => i ≤ n ∧ S i h) where
  mem := hm
  obj := fun i h st => ho i h st.2
  keep := fun i h h' st k => ⟨st.1, hk i h h' st.2 k⟩
  item := by
    intro X hP hW hK hc i pins s σ H E I hf st hg
    obtain ⟨fp', wr, St, hwr, W, w0, w1⟩ := hw X hP hW hK hc pins s σ H I hg.1 i st.2
    refine W.goes i s (fun u s2 => ∃ x H', Inv X pins σ H' s2 ∧ RelV x u ∧ (ItG ok n row).yld i H x H' ∧ (i + 1 ≤ n ∧ S (i + 1) s2.heap) ∧ ∀ b ∈ fp, H' b = none) E hg.2 w0 fun v h' tk y st' hkk htk => ?_
    obtain ⟨T, vals, rfl, hT, hv, hI⟩ := y
    have hlt : ∀ b ∈ fp, b < s.heap.objs.size := fun b hb => by obtain ⟨o, e, _⟩ := ho i _ st.2 b hb; exact Heap.lt_size e
    subst hP hW
    have new : ObjOk X.prog X.w (upd H T (.tup (row i))) h' T (.tup (row i)) := ⟨hn i, vals, hv, hI⟩
    have I1 : Inv X pins σ (upd H T (.tup (row i))) { s with heap := h', toks := tk } := I.turnedNew (ch := fp) (fun b o hb q => hkk b o (fun z => hb (hwr b z)) q) hf hT new
    refine ⟨.ref T, _, I1, rfl, ⟨T, rfl, I.hok.fresh hT, rfl⟩, ⟨hg.2, w1 _ _ st'⟩, fun b hb => ?_⟩
    rw [upd_ne (Nat.ne_of_lt (Nat.lt_of_lt_of_le (hlt b hb) hT))]
    exact (hf b hb).1
  done := by
    intro X hP hW hK hc i pins s σ H E I hf st hg
    obtain ⟨fp', wr, St, hwr, W, w0, w1⟩ := hw X hP hW hK hc pins s σ H I hg.1 i st.2
    have e : i = n := Nat.le_antisymm st.1 hg.2
    subst e
    exact W.stops s (fun s1 => Inv X pins σ H s1) E w0 fun h' tk hkk htk => I.turnedL (ch := fp) (fun b o hb q => hkk b o (fun z => hb (hwr b z)) q) hf
  self := fun A i s Q E st h => hs A i s Q E st.2 h
end Lw
namespace Lw
open PySem PySem.Spec PyProof.Rows L2
theorem vals_at {xs : List V} {its : List Value} {i : Nat} (r : Vals xs its) (h : i < xs.length) {u : Value} (e : its.toArray[i]? = some u) : RelV (xs.getD i .non) u := by
  obtain ⟨u', e', r'⟩ := r.get (List.getElem?_eq_getElem h)
  have : its[i]? = some u := by simpa using e
  rw [this] at e'
  cases e'
  rw [List.getD_eq_getElem?_getD, List.getElem?_eq_getElem h]
  exact r'
theorem mem5 (N : Nat) : ∀ c ∈ [N + 4, N + 2, N + 3, N, N + 1], N ≤ c := fun c hc => by
  have : c = N + 4 ∨ c = N + 2 ∨ c = N + 3 ∨ c = N ∨ c = N + 1 := by simpa using hc
  omega
theorem mem6 (N : Nat) : ∀ c ∈ [N + 5, N + 3, N + 4, N, N + 1, N + 2], N ≤ c := fun c hc => by
  have : c = N + 5 ∨ c = N + 3 ∨ c = N + 4 ∨ c = N ∨ c = N + 1 ∨ c = N + 2 := by simpa using hc
  omega
theorem lt_ne {a N : Nat} (k : Nat) (h : a < N) : a ≠ N + k := by omega
def zS2 (k1 k2 : Kd) (z TI TO i1 i2 a b : Addr) (i : Nat) (h : Heap) : Prop := IsZip h z TI TO .none ∧ IsTupOf2 h TI (.ref i1) (.ref i2) ∧ (∃ x y, IsTupOf2 h TO x y) ∧ k1.Iter h i1 a i ∧ k2.Iter h i2 b i
theorem turn_z2 {P : Program} {w : World} {K : PySem.W.Frag} {elts : List Expr} {kk : Nat} {tpos : Pos} {k1 k2 : Kd} {z TI TO i1 i2 a b : Addr} {xs ys : List V} (SP : ZipSep2 z TI TO i1 i2 [i1, a] [i2, b]) (n1 : a ≠ i1) (n2 : b ≠ i2) :
    Turn P w K (.Tuple elts kk tpos) (ItG (fun H => k1.Sq K H a xs ∧ k2.Sq K H b ys) (min xs.length ys.length) (fun i => [xs.getD i .non, ys.getD i .non])) [z, TI, TO, i1, i2] z (fun i h => i ≤ min xs.length ys.length ∧ zS2 k1 k2 z TI TO i1 i2 a b i h) := by
  refine turn_g (by simp) (fun i => by show 2 ≤ sizeLine; decide) ?_ ?_ ?_ ?_
  · rintro i h ⟨e1, e2, ⟨x, y, e3⟩, e4, e5⟩ c hc
    have : c = z ∨ c = TI ∨ c = TO ∨ c = i1 ∨ c = i2 := by simpa using hc
    rcases this with rfl | rfl | rfl | rfl | rfl
    · exact ⟨_, e1, fun v q => nomatch q⟩
    · exact ⟨_, e2, fun v q => nomatch q⟩
    · exact ⟨_, e3, fun v q => nomatch q⟩
    · exact k1.iterOb e4
    · exact k2.iterOb e5
  · rintro i h h' ⟨e1, e2, ⟨x, y, e3⟩, e4, e5⟩ k
    exact ⟨k z (by simp) _ e1, k TI (by simp) _ e2, ⟨x, y, k TO (by simp) _ e3⟩, k1.iterAt e4 fun o q => k i1 (by simp) o q, k2.iterAt e5 fun o q => k i2 (by simp) o q⟩
  · intro X hP hW hK hc pins s σ H I hok i st
    subst hP hW hK
    obtain ⟨its, r1, s1, _⟩ := k1.inv I hok.1
    obtain ⟨its2, r2, s2, _⟩ := k2.inv I hok.2
    have hh : X.A.in1.handled = none := I.ok.hd hc
    have l1 := r1.length
    have l2 := r2.length
    have W := GoesN.zip2 (prog := X.prog) (w := X.w) (A := X.A) (elts := elts) (x1 := kk) (pos := tpos) SP (k1.draws hh i1 a n1 its.toArray) (k2.draws hh i2 b n2 its2.toArray)
    have en : min its.toArray.size its2.toArray.size = min xs.length ys.length := by rw [List.size_toArray, List.size_toArray, l1, l2]
    have W2 := W.mono (Y' := fun i h₀ v h => ∃ T vals, v = .ref T ∧ h₀.objs.size ≤ T ∧ Vals [xs.getD i .non, ys.getD i .non] vals ∧ h.IsTuple T vals.toArray) (fun i h₀ v h hi ⟨T, x, y, ev, hT, hx, hy, hI⟩ => ⟨T, [x, y], ev, hT, .cons (vals_at r1 (by omega) hx) (.cons (vals_at r2 (by omega) hy) .nil), hI⟩)
    rw [en] at W2
    exact ⟨_, [z, TO, i1, i2], _, by simp, W2, ⟨st.1, st.2.1, st.2.2.1, ⟨st.2.2.2.1, s1⟩, ⟨st.2.2.2.2, s2⟩⟩, fun j h e => ⟨e.1, e.2.1, e.2.2.1, e.2.2.2.1.1, e.2.2.2.2.1⟩⟩
  · exact fun A i s Q E st h => wpAny_pyIter_zip st.1 h
def iZipK (K : PySem.W.Frag) (ta : TA) : TI := fun σ H R => ta σ H fun vs H1 => ∃ (k1 k2 : Kd) (a b : Addr) (xs ys : List V), vs = [.ref a, .ref b] ∧ k1.Sq K H1 a xs ∧ k2.Sq K H1 b ys ∧
  R (ItG (fun H => k1.Sq K H a xs ∧ k2.Sq K H b ys) (min xs.length ys.length) (fun i => [xs.getD i .non, ys.getD i .non])) H1
section
variable {X : Cx} {e e2 e3 : Expr} {ta : TA} {p pos tpos : Pos} {elts : List Expr} {kk : Nat}
theorem fp_new {pins : List (Addr × Obj)} {σ : L2.St} {H : Hp} {s : Shared} (I : Inv X pins σ H s) {l : List Addr} (hl : ∀ c ∈ l, s.heap.objs.size ≤ c) : ∀ c ∈ l, FpOk X pins H c := fun c hc => I.fpOk (hl c hc) (I.hok.fresh (hl c hc))
theorem pi_zipK (hg : Gl X "zip") (hm : X.mg "zip" = none) (ha : PA X [e, e2] ta) (hs : starEach [e, e2] X.env = (false, eval e X.env) :: starEach [e2] X.env := by rfl) (hpl : (backTo pos (starEach [e2] X.env)).any (·.1) = false := by rfl) :
    PI X (.Tuple elts kk tpos) (.Call (.Name "zip" p) [e, e2] [] pos) (iZipK X.K ta) := by
  constructor
  intro pins s σ H R I h
  refine Call_ (ld_blt I hg hm PyProof.Rows.boot_zip (PyProof.Rows.callWith_type1 (thn (ha.run pos pins s σ H _ I h) fun us s1 ⟨vs, H1, I1, r1, q1⟩ => ?_) hs hpl))
  obtain ⟨k1, k2, a, b, xs, ys, ex, h1, h2, q⟩ := q1
  subst ex
  obtain ⟨u1, us1, rfl, ra, r1⟩ : ∃ u us', us = u :: us' ∧ RelV (.ref a) u ∧ Vals [.ref b] us' := by cases r1 with | cons x y => exact ⟨_, _, rfl, x, y⟩
  obtain ⟨u2, us2, rfl, rb, r1⟩ : ∃ u us', us1 = u :: us' ∧ RelV (.ref b) u ∧ Vals [] us' := by cases r1 with | cons x y => exact ⟨_, _, rfl, x, y⟩
  cases r1
  cases ra
  cases rb
  obtain ⟨its, v1, s1', l1⟩ := k1.inv I1 h1
  obtain ⟨its2, v2, s2', l2⟩ := k2.inv I1 h2
  refine zip_begins2 (k1.begins a its.toArray) (k2.begins b its2.toArray) s1' s2' fun h' hz hTI hTO g1 g2 hsz hk => wpAny_pyIter_zip hz ?_
  have I2 : Inv X pins σ H1 { s1 with heap := h' } := I1.kept (t' := s1.toks) hk
  refine ⟨s1.heap.objs.size + 4, [s1.heap.objs.size + 4, s1.heap.objs.size + 2, s1.heap.objs.size + 3, s1.heap.objs.size, s1.heap.objs.size + 1], _, _, H1, rfl, I2, turn_z2 ?_ (Nat.ne_of_lt l1) (Nat.ne_of_lt (Nat.lt_succ_of_lt l2)), ⟨Nat.zero_le _, hz, hTI, ⟨_, _, hTO⟩, k1.iter0 g1, k2.iter0 g2⟩, fp_new I1 ?_, q⟩
  · exact zip_sep2 (fun d hd => by cases List.mem_singleton.1 hd; exact l1) (fun d hd => by cases List.mem_singleton.1 hd; exact l2)
  · exact mem5 _
end
def zS3 (k1 k2 k3 : Kd) (z TI TO i1 i2 i3 a b c : Addr) (i : Nat) (h : Heap) : Prop := IsZip h z TI TO .none ∧ IsTupOf3 h TI (.ref i1) (.ref i2) (.ref i3) ∧ (∃ x y u, IsTupOf3 h TO x y u) ∧ k1.Iter h i1 a i ∧ k2.Iter h i2 b i ∧ k3.Iter h i3 c i
theorem turn_z3 {P : Program} {w : World} {K : PySem.W.Frag} {elts : List Expr} {kk : Nat} {tpos : Pos} {k1 k2 k3 : Kd} {z TI TO i1 i2 i3 a b c : Addr} {xs ys zs : List V} (SP : ZipSep3 z TI TO i1 i2 i3 [i1, a] [i2, b] [i3, c]) (n1 : a ≠ i1) (n2 : b ≠ i2) (n3 : c ≠ i3) :
    Turn P w K (.Tuple elts kk tpos) (ItG (fun H => k1.Sq K H a xs ∧ k2.Sq K H b ys ∧ k3.Sq K H c zs) (min (min xs.length ys.length) zs.length) (fun i => [xs.getD i .non, ys.getD i .non, zs.getD i .non])) [z, TI, TO, i1, i2, i3] z (fun i h => i ≤ min (min xs.length ys.length) zs.length ∧ zS3 k1 k2 k3 z TI TO i1 i2 i3 a b c i h) := by
  refine turn_g (by simp) (fun i => by show 3 ≤ sizeLine; decide) ?_ ?_ ?_ ?_
  · rintro i h ⟨e1, e2, ⟨x, y, u, e3⟩, e4, e5, e6⟩ d hc
    have : d = z ∨ d = TI ∨ d = TO ∨ d = i1 ∨ d = i2 ∨ d = i3 := by simpa using hc
    rcases this with rfl | rfl | rfl | rfl | rfl | rfl
    · exact ⟨_, e1, fun v q => nomatch q⟩
    · exact ⟨_, e2, fun v q => nomatch q⟩
    · exact ⟨_, e3, fun v q => nomatch q⟩
    · exact k1.iterOb e4
    · exact k2.iterOb e5
    · exact k3.iterOb e6
  · rintro i h h' ⟨e1, e2, ⟨x, y, u, e3⟩, e4, e5, e6⟩ k
    exact ⟨k z (by simp) _ e1, k TI (by simp) _ e2, ⟨x, y, u, k TO (by simp) _ e3⟩, k1.iterAt e4 fun o q => k i1 (by simp) o q, k2.iterAt e5 fun o q => k i2 (by simp) o q, k3.iterAt e6 fun o q => k i3 (by simp) o q⟩
  · intro X hP hW hK hc pins s σ H I hok i st
    subst hP hW hK
    obtain ⟨its, r1, s1, _⟩ := k1.inv I hok.1
    obtain ⟨its2, r2, s2, _⟩ := k2.inv I hok.2.1
    obtain ⟨its3, r3, s3, _⟩ := k3.inv I hok.2.2
    have hh : X.A.in1.handled = none := I.ok.hd hc
    have l1 := r1.length
    have l2 := r2.length
    have l3 := r3.length
    have W := GoesN.zip3 (prog := X.prog) (w := X.w) (A := X.A) (elts := elts) (x1 := kk) (pos := tpos) SP (k1.draws hh i1 a n1 its.toArray) (k2.draws hh i2 b n2 its2.toArray) (k3.draws hh i3 c n3 its3.toArray)
    have en : min (min its.toArray.size its2.toArray.size) its3.toArray.size = min (min xs.length ys.length) zs.length := by rw [List.size_toArray, List.size_toArray, List.size_toArray, l1, l2, l3]
    have W2 := W.mono (Y' := fun i h₀ v h => ∃ T vals, v = .ref T ∧ h₀.objs.size ≤ T ∧ Vals [xs.getD i .non, ys.getD i .non, zs.getD i .non] vals ∧ h.IsTuple T vals.toArray) (fun i h₀ v h hi ⟨T, x, y, u, ev, hT, hx, hy, hu, hI⟩ => ⟨T, [x, y, u], ev, hT, .cons (vals_at r1 (by omega) hx) (.cons (vals_at r2 (by omega) hy) (.cons (vals_at r3 (by omega) hu) .nil)), hI⟩)
    rw [en] at W2
    exact ⟨_, [z, TO, i1, i2, i3], _, by simp, W2, ⟨st.1, st.2.1, st.2.2.1, ⟨st.2.2.2.1, s1⟩, ⟨st.2.2.2.2.1, s2⟩, ⟨st.2.2.2.2.2, s3⟩⟩, fun j h e => ⟨e.1, e.2.1, e.2.2.1, e.2.2.2.1.1, e.2.2.2.2.1.1, e.2.2.2.2.2.1⟩⟩
  · exact fun A i s Q E st h => wpAny_pyIter_zip st.1 h
def iZipK3 (K : PySem.W.Frag) (ta : TA) : TI := fun σ H R => ta σ H fun vs H1 => ∃ (k1 k2 k3 : Kd) (a b c : Addr) (xs ys zs : List V), vs = [.ref a, .ref b, .ref c] ∧ k1.Sq K H1 a xs ∧ k2.Sq K H1 b ys ∧ k3.Sq K H1 c zs ∧
  R (ItG (fun H => k1.Sq K H a xs ∧ k2.Sq K H b ys ∧ k3.Sq K H c zs) (min (min xs.length ys.length) zs.length) (fun i => [xs.getD i .non, ys.getD i .non, zs.getD i .non])) H1
def eS (k1 : Kd) (e it a : Addr) (i : Nat) (h : Heap) : Prop := (∃ old, IsEnum h e it ((i : Nat) : Int) old) ∧ k1.Iter h it a i
theorem turn_e {P : Program} {w : World} {K : PySem.W.Frag} {elts : List Expr} {kk : Nat} {tpos : Pos} {k1 : Kd} {e it a : Addr} {xs : List V} (n1 : a ≠ it) (n2 : e ≠ it) (n3 : e ≠ a) :
    Turn P w K (.Tuple elts kk tpos) (ItG (fun H => k1.Sq K H a xs) xs.length (fun i => [.int ((i : Nat) : Int), xs.getD i .non])) [e, it] e (fun i h => i ≤ xs.length ∧ eS k1 e it a i h) := by
  refine turn_g (by simp) (fun i => by show 2 ≤ sizeLine; decide) ?_ ?_ ?_ ?_
  · rintro i h ⟨⟨old, e1⟩, e2⟩ d hc
    have : d = e ∨ d = it := by simpa using hc
    rcases this with rfl | rfl
    · exact ⟨_, e1, fun v q => nomatch q⟩
    · exact k1.iterOb e2
  · rintro i h h' ⟨⟨old, e1⟩, e2⟩ k
    exact ⟨⟨old, k e (by simp) _ e1⟩, k1.iterAt e2 fun o q => k it (by simp) o q⟩
  · intro X hP hW hK hc pins s σ H I hok i st
    subst hP hW hK
    obtain ⟨its, r1, s1, _⟩ := k1.inv I hok
    have hh : X.A.in1.handled = none := I.ok.hd hc
    have l1 := r1.length
    have W := GoesN.enumFrom (prog := X.prog) (w := X.w) (A := X.A) (elts := elts) (x1 := kk) (pos := tpos) 0 (k1.draws hh it a n1 its.toArray) e n2 (by simp [n2, n3]) (by simp)
    have en : its.toArray.size = xs.length := by rw [List.size_toArray, l1]
    have W2 := W.mono (Y' := fun i h₀ v h => ∃ T vals, v = .ref T ∧ h₀.objs.size ≤ T ∧ Vals [V.int ((i : Nat) : Int), xs.getD i .non] vals ∧ h.IsTuple T vals.toArray) (fun i h₀ v h hi ⟨T, t, x, ev, hT, hx, hI⟩ => ⟨T, [.int (0 + (i : Int)) t, x], ev, hT, .cons ⟨t, by rw [Int.zero_add]⟩ (.cons (vals_at r1 (by omega) hx) .nil), hI⟩)
    rw [en] at W2
    refine ⟨_, [e, it], _, by simp, W2, ⟨?_, st.2, s1⟩, fun j h q => ⟨?_, q.2.1⟩⟩
    · obtain ⟨old, q⟩ := st.1; exact ⟨old, by rw [Int.zero_add]; exact q⟩
    · obtain ⟨old, q⟩ := q.1; exact ⟨old, by rw [Int.zero_add] at q; exact q⟩
  · exact fun A i s Q E st h => wpAny_pyIter_enum st.1.choose_spec h
def iEnumK (K : PySem.W.Frag) (ta : TA) : TI := fun σ H R => ta σ H fun vs H1 => ∃ (k1 : Kd) (a : Addr) (xs : List V), vs = [.ref a] ∧ k1.Sq K H1 a xs ∧ R (ItG (fun H => k1.Sq K H a xs) xs.length (fun i => [.int ((i : Nat) : Int), xs.getD i .non])) H1
section
variable {X : Cx} {e e2 e3 : Expr} {ta : TA} {p pos tpos : Pos} {elts : List Expr} {kk : Nat}
theorem pi_zipK3 (hg : Gl X "zip") (hm : X.mg "zip" = none) (ha : PA X [e, e2, e3] ta) (hs : starEach [e, e2, e3] X.env = (false, eval e X.env) :: starEach [e2, e3] X.env := by rfl) (hpl : (backTo pos (starEach [e2, e3] X.env)).any (·.1) = false := by rfl) :
    PI X (.Tuple elts kk tpos) (.Call (.Name "zip" p) [e, e2, e3] [] pos) (iZipK3 X.K ta) := by
  constructor
  intro pins s σ H R I h
  refine Call_ (ld_blt I hg hm PyProof.Rows.boot_zip (PyProof.Rows.callWith_type1 (thn (ha.run pos pins s σ H _ I h) fun us s1 ⟨vs, H1, I1, r1, q1⟩ => ?_) hs hpl))
  obtain ⟨k1, k2, k3, a, b, c, xs, ys, zs, ex, h1, h2, h3, q⟩ := q1
  subst ex
  obtain ⟨u1, us1, rfl, ra, r1⟩ : ∃ u us', us = u :: us' ∧ RelV (.ref a) u ∧ Vals [.ref b, .ref c] us' := by cases r1 with | cons x y => exact ⟨_, _, rfl, x, y⟩
  obtain ⟨u2, us2, rfl, rb, r1⟩ : ∃ u us', us1 = u :: us' ∧ RelV (.ref b) u ∧ Vals [.ref c] us' := by cases r1 with | cons x y => exact ⟨_, _, rfl, x, y⟩
  obtain ⟨u3, us3, rfl, rc, r1⟩ : ∃ u us', us2 = u :: us' ∧ RelV (.ref c) u ∧ Vals [] us' := by cases r1 with | cons x y => exact ⟨_, _, rfl, x, y⟩
  cases r1
  cases ra
  cases rb
  cases rc
  obtain ⟨its, v1, s1', l1⟩ := k1.inv I1 h1
  obtain ⟨its2, v2, s2', l2⟩ := k2.inv I1 h2
  obtain ⟨its3, v3, s3', l3⟩ := k3.inv I1 h3
  refine zip_begins3 (k1.begins a its.toArray) (k2.begins b its2.toArray) (k3.begins c its3.toArray) s1' s2' s3' fun h' hz hTI hTO g1 g2 g3 hsz hk => wpAny_pyIter_zip hz ?_
  have I2 : Inv X pins σ H1 { s1 with heap := h' } := I1.kept (t' := s1.toks) hk
  refine ⟨s1.heap.objs.size + 5, [s1.heap.objs.size + 5, s1.heap.objs.size + 3, s1.heap.objs.size + 4, s1.heap.objs.size, s1.heap.objs.size + 1, s1.heap.objs.size + 2], _, _, H1, rfl, I2, turn_z3 ?_ (lt_ne 0 l1) (lt_ne 1 l2) (lt_ne 2 l3), ⟨Nat.zero_le _, hz, hTI, ⟨_, _, _, hTO⟩, k1.iter0 g1, k2.iter0 g2, k3.iter0 g3⟩, fp_new I1 ?_, q⟩
  · exact zip_sep3 (fun d hd => by cases List.mem_singleton.1 hd; exact l1) (fun d hd => by cases List.mem_singleton.1 hd; exact l2) (fun d hd => by cases List.mem_singleton.1 hd; exact l3)
  · exact mem6 _
theorem enum_new {v : Value} {o : Obj} {B : Heap → Prop} (b : Begins v o B) : Meets (Builtin.«enumerate.__new__» ⟨[.type "enumerate", v], []⟩) (fun _ R s => B s.heap ∧ R (.ok (.ret (.ref (s.heap.push o).objs.size))) { s with heap := (s.heap.push o).push { cls := .type "enumerate", data := .fields #[.none, .bool false, .ref s.heap.objs.size, rawInt 0, .none, .none] } }) := .of_wp fun prog w A R s h => by
  obtain ⟨hp, g, d, tk, os⟩ := s
  obtain ⟨hb, h⟩ := h
  have sb := sub_enumerate
  have qi : ∀ {A' : Around} {E : Value → Shared → Prop} {Q : Value → Shared → Prop}, Q (.ref hp.objs.size) ⟨hp.push o, g, d, tk, os⟩ → wpAny (model prog w) A' (pyIter v) Q E ⟨hp, g, d, tk, os⟩ := fun q => b.iter prog w _ _ ⟨hp, g, d, tk, os⟩ _ hb q
  wp_walk using qi
  refine wpAny_stack_any fun st => wpAny_pure ?_
  split
  · rename_i c _ _ _ _ _
    cases (c == Value.type "enumerate") <;> (wp_walk using qi; exact ⟨_, rfl, h⟩)
  · wp_walk using qi
    exact ⟨_, rfl, h⟩
theorem enum_call {P : Program} {w : World} {A : Around} {E : Value → Shared → Prop} {s : Shared} {v : Value} {o : Obj} {B : Heap → Prop} {Q : Value → Shared → Prop} (b : Begins v o B) (hb : B s.heap)
    (h : ∀ h', IsEnum h' (s.heap.objs.size + 1) s.heap.objs.size 0 .none → h'.get? s.heap.objs.size = some o → (∀ c u, s.heap.get? c = some u → h'.get? c = some u) → Q (.ref (s.heap.objs.size + 1)) { s with heap := h' }) :
    wpAny (model P w) A (call (.type "enumerate") [v]) Q E s := by
  refine callType_new F.called_enumerate (by decide) (F.typeCall_enumerate_1 _) (F.newCall_enumerate_1 _) (fun obj => F.args_object_init_2 obj _) F.entry_enumerate_new (enum_new b) ⟨hb, ?_⟩
  have hz : (s.heap.push o).objs.size = s.heap.objs.size + 1 := Heap.size_push ..
  show _ ∧ _
  rw [hz]
  have he := Heap.get?_push_size (s.heap.push o) (o := { cls := .type "enumerate", data := .fields #[.none, .bool false, .ref s.heap.objs.size, rawInt 0, .none, .none] }) rfl
  rw [hz] at he
  exact ⟨⟨_, he, rfl⟩, h _ he (Heap.get?_push_of_some _ (Heap.get?_push_size _ b.free)) fun c u x => Heap.get?_push_of_some _ (Heap.get?_push_of_some _ x)⟩
theorem pi_enumK (hg : Gl X "enumerate") (hm : X.mg "enumerate" = none) (ha : PA X [e] ta) (hs : starEach [e] X.env = [(false, eval e X.env)] := by rfl) : PI X (.Tuple elts kk tpos) (.Call (.Name "enumerate" p) [e] [] pos) (iEnumK X.K ta) := by
  constructor
  intro pins s σ H R I h
  refine Call_ (ld_blt I hg hm boot_enumerate (PyProof.Rows.callWith_type1 (thn (ha.run pos pins s σ H _ I h) fun us s1 ⟨vs, H1, I1, r1, q1⟩ => ?_) hs rfl))
  obtain ⟨k1, a, xs, ex, h1, q⟩ := q1
  subst ex
  obtain ⟨u1, us1, rfl, ra, r1⟩ : ∃ u us', us = u :: us' ∧ RelV (.ref a) u ∧ Vals [] us' := by cases r1 with | cons x y => exact ⟨_, _, rfl, x, y⟩
  cases r1
  cases ra
  obtain ⟨its, v1, s1', l1⟩ := k1.inv I1 h1
  refine enum_call (k1.begins a its.toArray) s1' fun h' he g1 hk => wpAny_pyIter_enum he ?_
  have I2 : Inv X pins σ H1 { s1 with heap := h' } := I1.kept (t' := s1.toks) hk
  refine ⟨s1.heap.objs.size + 1, [s1.heap.objs.size + 1, s1.heap.objs.size], _, _, H1, rfl, I2, turn_e (lt_ne 0 l1) (Nat.succ_ne_self _) (Ne.symm (lt_ne 1 l1)), ⟨Nat.zero_le _, ⟨.none, he⟩, k1.iter0 g1⟩, fp_new I1 ?_, q⟩
  intro c hc
  have : c = s1.heap.objs.size + 1 ∨ c = s1.heap.objs.size := by simpa using hc
  rcases this with rfl | rfl
  · exact Nat.le_succ _
  · exact Nat.le_refl _
end
/-- what is walked, in data -/
theorem walk_g {K : PySem.W.Frag} {G : Hp} {ok : Hp → Prop} {n : Nat} {row : Nat → List V} {ds : List D} (hok : ∀ H, Same G H → ok H) (hn : ds.length = n) (hr : ∀ (i : Nat) d, ds[i]? = some d → ∃ es, d = .tuple es ∧ DpAll K G (row i) es) : WalkD K G (ItG ok n row) ds where
  stop := fun H s => ⟨hok H s, by omega⟩
  go := fun i H hl s => ⟨hok H s, by omega⟩
  yld := fun i H x H' d s y e => by
    obtain ⟨p, rfl, hp, rfl⟩ := y
    obtain ⟨es, rfl, he⟩ := hr i d e
    exact .inr ⟨p, _, es, rfl, hp, rfl, rfl, he⟩
theorem dpa_getD {K : PySem.W.Frag} {G : Hp} {vs : List V} {ds : List D} {i : Nat} {d : D} (h : DpAll K G vs ds) (e : ds[i]? = some d) : Dp K G (vs.getD i .non) d := by
  obtain ⟨v, e1, e2⟩ := dpa_get h e
  rw [List.getD_eq_getElem?_getD, e1]
  exact e2
/-- three at once -/
def zipD3 : List D → List D → List D → List D
  | a :: as, b :: bs, c :: cs => .tuple [a, b, c] :: zipD3 as bs cs
  | _, _, _ => []
theorem zipD3_len : ∀ (xs ys zs : List D), (zipD3 xs ys zs).length = min (min xs.length ys.length) zs.length
  | [], ys, zs => by simp [zipD3]
  | a :: as, [], zs => by simp [zipD3]
  | a :: as, b :: bs, [] => by simp [zipD3]
  | a :: as, b :: bs, c :: cs => by rw [zipD3, List.length_cons, zipD3_len as bs cs, List.length_cons, List.length_cons, List.length_cons]; omega
theorem zipD3_get : ∀ (xs ys zs : List D) (i : Nat) (d : D), (zipD3 xs ys zs)[i]? = some d → ∃ a b c, xs[i]? = some a ∧ ys[i]? = some b ∧ zs[i]? = some c ∧ d = .tuple [a, b, c]
  | [], ys, zs, i, d, e => by simp [zipD3] at e
  | a :: as, [], zs, i, d, e => by simp [zipD3] at e
  | a :: as, b :: bs, [], i, d, e => by simp [zipD3] at e
  | a :: as, b :: bs, c :: cs, 0, d, e => by rw [zipD3] at e; simp at e; exact ⟨a, b, c, rfl, rfl, rfl, e.symm⟩
  | a :: as, b :: bs, c :: cs, i + 1, d, e => by
    rw [zipD3, List.getElem?_cons_succ] at e
    obtain ⟨u, v, w, h1, h2, h3, h4⟩ := zipD3_get as bs cs i d e
    exact ⟨u, v, w, by rw [List.getElem?_cons_succ]; exact h1, by rw [List.getElem?_cons_succ]; exact h2, by rw [List.getElem?_cons_succ]; exact h3, h4⟩
section
variable {X : Cx} {a b c : Expr} {fa fb fc : M R} {p pos p2 : Pos} {elts : List Expr} {kk : Nat}
def itZ2 (fa fb : M R) : M (List D) := bd (esc fa) fun d => bd (esc fb) fun d2 => bd (lift (items d)) fun xs => bd (lift (items d2)) fun ys => ret (zipD xs ys)
def itZ3 (fa fb fc : M R) : M (List D) := bd (esc fa) fun d => bd (esc fb) fun d2 => bd (esc fc) fun d3 => bd (lift (items d)) fun xs => bd (lift (items d2)) fun ys => bd (lift (items d3)) fun zs => ret (zipD3 xs ys zs)
def itEn (fa : M R) : M (List D) := bd (esc fa) fun d => bd (lift (items d)) fun xs => ret (enumD 0 xs)
theorem i_zip2 (hg : Gl X "zip") (hm : X.mg "zip" = none) (ha : PEd X a fa) (hb : PEd X b fb) (hs1 : starEach [a, b] X.env = (false, eval a X.env) :: starEach [b] X.env := by rfl) (hs2 : starEach [b] X.env = (false, eval b X.env) :: starEach [] X.env := by rfl) (hpl : (backTo pos (starEach [b] X.env)).any (·.1) = false := by rfl) :
    PId X (.Tuple elts kk p2) (.Call (.Name "zip" p) [a, b] [] pos) (itZ2 fa fb) := fun F => PI.mono (pi_zipK hg hm (pa_cons (d_esc ha F) (pa_cons (d_esc hb F) pa_nil hs2) hs1) hs1 hpl) fun σ H R hq => by
  obtain ⟨ς, G, rl, ds, ς', e, k⟩ := hq
  obtain ⟨d, ς1, e1, q1⟩ := bd_some e
  obtain ⟨d2, ς2, e2, q2⟩ := bd_some q1
  obtain ⟨xs, ς3, e3', q3⟩ := bd_some q2
  obtain ⟨e3, h3⟩ := lift_some e3'
  obtain ⟨ys, ς4, e4', q4⟩ := bd_some q3
  obtain ⟨e4, h4⟩ := lift_some e4'
  subst h3 h4
  cases q4
  refine ⟨ς, G, rl, d, _, e1, fun v H1 G1 rl1 s1 dp => ⟨ς1, G1, rl1, d2, _, e2, fun w H2 G2 rl2 s2 dp2 => ?_⟩⟩
  obtain ⟨k1, l1, vs, rfl, h1, g1⟩ := Kd.of_items (dp_same s2 dp) e3
  obtain ⟨k2, l2, ws, rfl, h2, g2⟩ := Kd.of_items dp2 e4
  refine ⟨k1, k2, l1, l2, vs, ws, rfl, k1.same rl2.sub h1, k2.same rl2.sub h2, k _ H2 G2 rl2 (s1.trans s2) (walk_g (fun H s => ⟨k1.same s h1, k2.same s h2⟩) (by rw [zipD_len, dpa_len g1, dpa_len g2]) fun i d e => ?_)⟩
  obtain ⟨x, y, f1, f2, rfl⟩ := zipD_get xs ys i d e
  exact ⟨_, rfl, .cons (dpa_getD g1 f1) (.cons (dpa_getD g2 f2) .nil)⟩
theorem i_zip3 (hg : Gl X "zip") (hm : X.mg "zip" = none) (ha : PEd X a fa) (hb : PEd X b fb) (hc : PEd X c fc) (hs1 : starEach [a, b, c] X.env = (false, eval a X.env) :: starEach [b, c] X.env := by rfl) (hs2 : starEach [b, c] X.env = (false, eval b X.env) :: starEach [c] X.env := by rfl) (hs3 : starEach [c] X.env = (false, eval c X.env) :: starEach [] X.env := by rfl) (hpl : (backTo pos (starEach [b, c] X.env)).any (·.1) = false := by rfl) :
    PId X (.Tuple elts kk p2) (.Call (.Name "zip" p) [a, b, c] [] pos) (itZ3 fa fb fc) := fun F => PI.mono (pi_zipK3 hg hm (pa_cons (d_esc ha F) (pa_cons (d_esc hb F) (pa_cons (d_esc hc F) pa_nil hs3) hs2) hs1) hs1 hpl) fun σ H R hq => by
  obtain ⟨ς, G, rl, ds, ς', e, k⟩ := hq
  obtain ⟨d, ς1, e1, q1⟩ := bd_some e
  obtain ⟨d2, ς2, e2, q2⟩ := bd_some q1
  obtain ⟨d3, ς2', e2', q2'⟩ := bd_some q2
  obtain ⟨xs, ς3, e3', q3⟩ := bd_some q2'
  obtain ⟨e3, h3⟩ := lift_some e3'
  obtain ⟨ys, ς4, e4', q4⟩ := bd_some q3
  obtain ⟨e4, h4⟩ := lift_some e4'
  obtain ⟨zs, ς5, e5', q5⟩ := bd_some q4
  obtain ⟨e5, h5⟩ := lift_some e5'
  subst h3 h4 h5
  cases q5
  refine ⟨ς, G, rl, d, _, e1, fun v H1 G1 rl1 s1 dp => ⟨ς1, G1, rl1, d2, _, e2, fun w H2 G2 rl2 s2 dp2 => ⟨ς2, G2, rl2, d3, _, e2', fun u H3 G3 rl3 s3 dp3 => ?_⟩⟩⟩
  obtain ⟨k1, l1, vs, rfl, h1, g1⟩ := Kd.of_items (dp_same (s2.trans s3) dp) e3
  obtain ⟨k2, l2, ws, rfl, h2, g2⟩ := Kd.of_items (dp_same s3 dp2) e4
  obtain ⟨k3, l3, us, rfl, h3, g3⟩ := Kd.of_items dp3 e5
  refine ⟨k1, k2, k3, l1, l2, l3, vs, ws, us, rfl, k1.same rl3.sub h1, k2.same rl3.sub h2, k3.same rl3.sub h3, k _ H3 G3 rl3 (s1.trans (s2.trans s3)) (walk_g (fun H s => ⟨k1.same s h1, k2.same s h2, k3.same s h3⟩) (by rw [zipD3_len, dpa_len g1, dpa_len g2, dpa_len g3]) fun i d e => ?_)⟩
  obtain ⟨x, y, z, f1, f2, f3, rfl⟩ := zipD3_get xs ys zs i d e
  exact ⟨_, rfl, .cons (dpa_getD g1 f1) (.cons (dpa_getD g2 f2) (.cons (dpa_getD g3 f3) .nil))⟩
theorem i_enumK (hg : Gl X "enumerate") (hm : X.mg "enumerate" = none) (ha : PEd X a fa) (hs : starEach [a] X.env = [(false, eval a X.env)] := by rfl) : PId X (.Tuple elts kk p2) (.Call (.Name "enumerate" p) [a] [] pos) (itEn fa) := fun F => PI.mono (pi_enumK hg hm (pa_cons (d_esc ha F) pa_nil hs) hs) fun σ H R hq => by
  obtain ⟨ς, G, rl, ds, ς', e, k⟩ := hq
  obtain ⟨d, ς1, e1, q1⟩ := bd_some e
  obtain ⟨xs, ς3, e3', q3⟩ := bd_some q1
  obtain ⟨e3, h3⟩ := lift_some e3'
  subst h3
  cases q3
  refine ⟨ς, G, rl, d, _, e1, fun v H1 G1 rl1 s1 dp => ?_⟩
  obtain ⟨k1, l1, vs, rfl, h1, g1⟩ := Kd.of_items dp e3
  refine ⟨k1, l1, vs, rfl, k1.same rl1.sub h1, k _ H1 G1 rl1 s1 (walk_g (fun H s => k1.same s h1) (by rw [enumD_len, dpa_len g1]) fun i d e => ?_)⟩
  rw [enumD_get] at e
  cases q : xs[i]? with
  | none => rw [q] at e; cases e
  | some d' =>
    rw [q] at e
    cases e
    refine ⟨_, rfl, .cons ?_ (.cons (dpa_getD g1 q) .nil)⟩
    rw [Nat.zero_add]
    exact .int _
end
namespace Sm
variable {ς : En}
theorem itZ2 {fa fb : M R} {Q : List D → En → Prop} (h : wp fa ς fun r ς1 => ∃ d ς2, toD r ς1 = some (d, ς2) ∧ wp fb ς2 fun r2 ς3 => ∃ d2 ς4, toD r2 ς3 = some (d2, ς4) ∧ ∃ xs ys, items d = some xs ∧ items d2 = some ys ∧ Q (zipD xs ys) ς4) : wp (Lw.itZ2 fa fb) ς Q := by
  refine bd (esc (mono h fun r ς1 h => ?_))
  obtain ⟨d, ς2, e, h⟩ := h
  refine ⟨d, ς2, e, bd (esc (mono h fun r2 ς3 h => ?_))⟩
  obtain ⟨d2, ς4, e2, xs, ys, i1, i2, q⟩ := h
  exact ⟨d2, ς4, e2, bd (lift i1 (bd (lift i2 (ret q))))⟩
theorem itZ3 {fa fb fc : M R} {Q : List D → En → Prop} (h : wp fa ς fun r ς1 => ∃ d ς2, toD r ς1 = some (d, ς2) ∧ wp fb ς2 fun r2 ς3 => ∃ d2 ς4, toD r2 ς3 = some (d2, ς4) ∧ wp fc ς4 fun r3 ς5 => ∃ d3 ς6, toD r3 ς5 = some (d3, ς6) ∧ ∃ xs ys zs, items d = some xs ∧ items d2 = some ys ∧ items d3 = some zs ∧ Q (zipD3 xs ys zs) ς6) : wp (Lw.itZ3 fa fb fc) ς Q := by
  refine bd (esc (mono h fun r ς1 h => ?_))
  obtain ⟨d, ς2, e, h⟩ := h
  refine ⟨d, ς2, e, bd (esc (mono h fun r2 ς3 h => ?_))⟩
  obtain ⟨d2, ς4, e2, h⟩ := h
  refine ⟨d2, ς4, e2, bd (esc (mono h fun r3 ς5 h => ?_))⟩
  obtain ⟨d3, ς6, e3, xs, ys, zs, i1, i2, i3, q⟩ := h
  exact ⟨d3, ς6, e3, bd (lift i1 (bd (lift i2 (bd (lift i3 (ret q))))))⟩
theorem itEn {f : M R} {Q : List D → En → Prop} (h : wp f ς fun r ς1 => ∃ d ς2, toD r ς1 = some (d, ς2) ∧ ∃ xs, items d = some xs ∧ Q (enumD 0 xs) ς2) : wp (Lw.itEn f) ς Q :=
  bd (esc (mono h fun r ς1 ⟨d, ς2, e, xs, i1, q⟩ => ⟨d, ς2, e, bd (lift i1 (ret q))⟩))
end Sm
namespace Sm
section
variable {ς : En}
instance stp_itZ2 {fa fb : M R} {Q : List D → En → Prop} : Stp (wp (Lw.itZ2 fa fb) ς Q) (wp fa ς fun r ς1 => ∃ d ς2, toD r ς1 = some (d, ς2) ∧ wp fb ς2 fun r2 ς3 => ∃ d2 ς4, toD r2 ς3 = some (d2, ς4) ∧ ∃ xs ys, items d = some xs ∧ items d2 = some ys ∧ Q (zipD xs ys) ς4) := ⟨Sm.itZ2⟩
instance stp_itZ3 {fa fb fc : M R} {Q : List D → En → Prop} : Stp (wp (Lw.itZ3 fa fb fc) ς Q) (wp fa ς fun r ς1 => ∃ d ς2, toD r ς1 = some (d, ς2) ∧ wp fb ς2 fun r2 ς3 => ∃ d2 ς4, toD r2 ς3 = some (d2, ς4) ∧ wp fc ς4 fun r3 ς5 => ∃ d3 ς6, toD r3 ς5 = some (d3, ς6) ∧ ∃ xs ys zs, items d = some xs ∧ items d2 = some ys ∧ items d3 = some zs ∧ Q (zipD3 xs ys zs) ς6) := ⟨Sm.itZ3⟩
instance stp_itEn {f : M R} {Q : List D → En → Prop} : Stp (wp (Lw.itEn f) ς Q) (wp f ς fun r ς1 => ∃ d ς2, toD r ς1 = some (d, ς2) ∧ ∃ xs, items d = some xs ∧ Q (enumD 0 xs) ς2) := ⟨Sm.itEn⟩
end
end Sm
end Lw
namespace Lw
open PySem PySem.Spec PyProof.Rows L2
/-! ### t[::-1] of a tuple -/
section
variable {P : Program} {w : World} {A : Around} {E : Value → Shared → Prop} {s : Shared}
theorem rev_applied {sl : Addr} {n : Nat} {u : Tok} {Q : Int × Int × Nat → Shared → Prop} (hs : s.heap.IsSliceOf sl .none .none (.int (-1) u)) (h : Q ((n : Int) - 1, -1, n) s) : wpAny (model P w) A (Builtin.Slice.sliceApplied (.ref sl) (pure (n : Int))) Q E s := by
  obtain ⟨os, f1, _, f2⟩ := id hs
  unfold Builtin.Slice.sliceApplied Builtin.Slice.sliceFields
  refine wpAny_bind (wpAny_bind (wpAny_field f1 f2 (x := .none) rfl (wpAny_bind (wpAny_field f1 f2 (x := .none) rfl (wpAny_bind (wpAny_field f1 f2 (x := .int (-1) u) rfl (wpAny_pure ?_)))))))
  refine wpAny_bind (slicePart_int ?_)
  show wpAny _ _ (if ((-1 : Int) == 0) = true then _ else _) _ _ s
  rw [if_neg (by decide)]
  refine wpAny_bind (slicePart_none (wpAny_bind (slicePart_none (wpAny_bind (wpAny_pure ?_)))))
  show wpAny _ _ (match Builtin.Slice.sliceAdjust none none (-1) (n : Int) with | (lo, hi) => pure (lo, (-1 : Int), Builtin.Slice.slicePlaces lo hi (-1))) _ _ s
  have e : Builtin.Slice.sliceAdjust none none (-1) (n : Int) = ((n : Int) - 1, -1) := by
    unfold Builtin.Slice.sliceAdjust
    simp
  rw [e]
  show wpAny _ _ (pure ((n : Int) - 1, (-1 : Int), Builtin.Slice.slicePlaces ((n : Int) - 1) (-1) (-1))) _ _ s
  have e2 : Builtin.Slice.slicePlaces ((n : Int) - 1) (-1) (-1) = n := by
    unfold Builtin.Slice.slicePlaces
    by_cases hn : n = 0
    · subst hn; simp
    · simp; omega
  rw [e2]
  exact wpAny_pure h
theorem rev_pick (xs : Array Value) : ((List.range xs.size).filterMap fun (k : Nat) => xs[((xs.size : Int) - 1 + (k : Int) * (-1)).toNat]?).toArray = xs.toList.reverse.toArray := by
  have e := PySem.W.krv_pick xs
  unfold slicePick at e
  rw [PySem.W.krv_bounds] at e
  replace e : ((sliceRange ((xs.size : Int) - 1) (-1) (-1)).filterMap (xs[·]?)).toArray = xs.toList.reverse.toArray := e
  rw [← e, PySem.W.krv_sliceRange, List.filterMap_map]
  have key : ∀ l : List Nat, (l.filterMap fun (k : Nat) => xs[((xs.size : Int) - 1 + (k : Int) * (-1)).toNat]?) = l.filterMap ((xs[·]?) ∘ fun k => xs.size - 1 - k) := by
    intro l
    induction l with
    | nil => rfl
    | cons k l ih =>
      have : xs[((xs.size : Int) - 1 + (k : Int) * (-1)).toNat]? = ((xs[·]?) ∘ fun k => xs.size - 1 - k) k := by
        show _ = xs[xs.size - 1 - k]?
        congr 1
        omega
      rw [List.filterMap_cons, List.filterMap_cons, ih, this]
  rw [key]
theorem rev_get {t sl : Addr} {its : Array Value} {u : Tok} {Q : Value → Shared → Prop} (ht : IsTup s.heap t its) (hs : s.heap.IsSliceOf sl .none .none (.int (-1) u)) (hz : its.size ≤ sizeLine)
    (h : Q (.ref s.heap.objs.size) { s with heap := s.heap.push { cls := .type "tuple", data := .seq its.toList.reverse.toArray } }) : wpAny (model P w) A (getItem (.ref t) (.ref sl)) Q E s := by
  have hd : sizeOk (.seq its.toList.reverse.toArray) := by
    show its.toList.reverse.toArray.size ≤ sizeLine
    rw [List.size_toArray, List.length_reverse, Array.length_toList]
    exact hz
  obtain ⟨os, f1, f2, _⟩ := id hs
  unfold getItem
  try with_reducible refine wpAny_holding ?_
  first | refine wpAny_bind (wpAny_pure ?_) | skip
  refine wpAny_bind (wpAny_sequenceKey ht.typeIs (by decide) (wpAny_bind (wpAny_callSpecial?_slot (name := Str.ofString "__getitem__") ht.typeIs PyProof.Rows.slot_tuple_getitem (wpAny_call_entry PyProof.Rows.slot_tuple_getitem ht.typeIs entry_tuple_getitem ?_ (args_tuple_getitem _ _)))))
  have tS : s.TypeIs (.ref sl) "slice" := ⟨os, f1, f2⟩
  show wpAny _ _ (Builtin.Tuple.tupleItemsOf (.ref t) >>= _) _ _ s
  refine wpAny_bind (tupleItemsOf_ ht (wpAny_bind (wpAny_typeOf tS ?_)))
  rw [if_pos (by decide)]
  refine wpAny_bind (rev_applied (n := its.size) hs ?_)
  show wpAny _ _ (if ((its.size : Int) - 1 == 0 && (-1 : Int) == 1 && its.size == its.size) = true then _ else _) _ _ s
  rw [if_neg (by simp), rev_pick]
  first
    | exact wpAny_bind (m := Builtin.Tuple.tupleExact _) (wpAny_newObj_type (wpAny_pure ⟨_, rfl, wpAny_pure h⟩) hd)
    | exact wpAny_bind (m := Builtin.Tuple.tupleExact _) (wpAny_newObj_type (wpAny_bind (wpAny_pure (wpAny_pure ⟨_, rfl, wpAny_pure h⟩))) hd)
    | exact wpAny_bind (wpAny_bind (m := Builtin.Tuple.tupleExact _) (wpAny_newObj_type (wpAny_pure (wpAny_pure ⟨_, rfl, wpAny_pure h⟩)) hd))
    | exact wpAny_bind (wpAny_bind (m := Builtin.Tuple.tupleExact _) (wpAny_newObj_type (wpAny_pure ⟨_, rfl, wpAny_pure h⟩) hd))
end
section
variable {X : Cx}
def tRevT (K : PySem.W.Frag) (te : TE) : TE := fun σ H Q => te σ H fun x H1 => ∃ a xs, x = .ref a ∧ SqT K H1 a xs ∧ ∀ p, H1 p = none → Q (.ref p) (upd H1 p (.tup xs.reverse))
theorem pe_revT {e : Expr} {te : TE} {k : Nat} {p1 p2 p3 pos : Pos} (he : PE X e te) : PE X (.Subscript e (.Slice none none (some (.UnaryOp .USub (.Constant (.int 1) k p1) p2)) p3) pos) (tRevT X.K te) := by
  constructor
  intro pins s σ H Q I h
  refine Subscript_ (thn (he.run pins s σ H _ I h) fun v s1 ⟨x, H1, I1, r1, a, xs, ex, hx, q⟩ => ?_)
  subst ex
  cases r1
  have hst : PO X (some (.UnaryOp .USub (.Constant (.int 1) k p1) p2)) (tPart (tUn (rU fun i => .int (-i)) (tC (.int 1)))) := po_some (pe_un un_neg pe_int)
  refine wpAny_Slice (thn (po_none.run pins s1 σ H1 (fun o H' => o = none ∧ H' = H1) I1 ⟨rfl, rfl⟩) fun vl s2 ⟨l, H2, I2, pl, el, e2⟩ => thn (po_none.run pins s2 σ H2 (fun o H' => o = none ∧ H' = H2) I2 ⟨rfl, rfl⟩) fun vu s3 ⟨u, H3, I3, pu, eu, e3⟩ => thn (hst.run pins s3 σ H3 (fun o H' => o = some (-1) ∧ H' = H3) I3 ⟨1, rfl, -1, rfl, rfl, rfl⟩) fun vs s4 ⟨o, H4, I4, ps, eo, e4⟩ => ?_)
  subst el e2 eu e3 eo e4
  cases pl
  cases pu
  obtain ⟨tk, rfl⟩ : ∃ tk, vs = .int (-1) tk := by cases ps; exact ⟨_, rfl⟩
  have I5 : Inv X pins σ H4 { s4 with heap := s4.heap.push { cls := .type "slice", data := .fields #[.none, .none, .int (-1) tk] } } := I4.kept (t' := s4.toks) fun b ob z => Heap.get?_push_of_some _ z
  obtain ⟨its, r, ht, hz⟩ := I5.tuple hx
  have hlen := r.length
  refine tail_any (ops := [.ref a, .ref s4.heap.objs.size]) ht.typeIs (PyProof.Rows.slot_tuple_getitem.lookup) (rev_get ht (Heap.IsSliceOf.new _ _ _ _) (by rw [List.size_toArray]; omega) ?_) (by with_unfolding_all rfl)
  refine ⟨.ref _, _, I5.laid (t' := s4.toks) (o := .tup xs.reverse) (fun b ob z => Heap.get?_push_of_some _ z) (Nat.le_refl _) ?_, rfl, q _ (I5.hok.fresh (Nat.le_refl _))⟩
  exact ⟨by rw [List.length_reverse]; exact hz, its.reverse, r.reverse, ⟨_, Heap.get?_push_size _ rfl, rfl, _, rfl⟩⟩
theorem _root_.L2.PE.or {e : Expr} {t t' : TE} (h : PE X e t) (h' : PE X e t') : PE X e (fun σ H Q => t σ H Q ∨ t' σ H Q) := ⟨fun pins s σ H Q I hw => by
  rcases hw with hw | hw
  · exact h.run pins s σ H Q I hw
  · exact h'.run pins s σ H Q I hw⟩
def gRev : D → Option R
  | .list ds => some (.fresh ds.reverse)
  | .tuple ds => some (.pure (.tuple ds.reverse))
  | _ => none
variable {a b c e : Expr} {fa fb fc f : M R} {pos p p1 p2 p3 : Pos} {x : Str}
theorem d_revA {k : Nat} (ha : PEd X a fa) : PEd X (.Subscript a (.Slice none none (some (.UnaryOp .USub (.Constant (.int 1) k p1) p2)) p3) pos) (cal1 gRev fa) :=
  fun F => PE.mono (PE.or (pe_revL (d_sub ha F)) (pe_revT (d_sub ha F))) fun σ H Q hq => by
    obtain ⟨ς, G, rl, r, ς', e, k⟩ := hq
    obtain ⟨a, ς1, e1, q1⟩ := bd_some e
    obtain ⟨x, ς4, e4', q4⟩ := bd_some q1
    obtain ⟨e4, h4⟩ := rd_some e4'
    obtain ⟨e5, h5⟩ := lift_some q4
    subst h4 h5
    cases x with
    | list ds =>
      refine .inl ⟨ς, G, rl, a, _, e1, fun v H1 G1 rl1 s1 rep1 => ?_⟩
      have rv := rdD_ok rl1 rep1 e4
      cases e5
      obtain ⟨p, vs, rfl, h1, h2⟩ := rv.list rl1.sub
      exact ⟨p, vs, rfl, h1, fun z hz => k _ _ G1 (rl1.layF hz) s1 (rl1.repF hz (dpa_rev h2))⟩
    | tuple ds =>
      refine .inr ⟨ς, G, rl, a, _, e1, fun v H1 G1 rl1 s1 rep1 => ?_⟩
      have rv := rdD_ok rl1 rep1 e4
      cases e5
      obtain ⟨p, vs, rfl, h1, h2⟩ := rv.tuple rl1.sub
      exact ⟨p, vs, rfl, h1, fun z hz => k _ _ _ (rl1.lay hz) (s1.trans (same_upd (rl1.gnone hz))) (rl1.layD hz (dpa_rev h2))⟩
    | _ => cases e5
/-! ### sum, min, max of a list or tuple -/
def rSumK (K : PySem.W.Frag) : List V → Hp → VK → Prop := fun vs H Q => ∃ (k : Kd) (a : Addr) (ns : List Int), vs = [V.ref a] ∧ k.Sq K H a (ns.map V.int) ∧ Q (.int ns.sum) H
theorem cr_sumK (hc : X.calm = true) : CallR X (.builtin "sum") (rSumK X.K) := by
  intro pins s σ H vs us Q I r h
  obtain ⟨k, a, ns, rfl, hs, q⟩ := h
  cases k with
  | L => exact cr_sum hc pins s σ H _ us Q I r ⟨a, ns, rfl, hs, q⟩
  | T =>
    obtain ⟨its, rv, hl, _⟩ := I.tuple hs
    rw [Vals.ref1 r]
    obtain ⟨xs, hx⟩ := rv.ints.allInts.items
    have hn : numsOf its.toArray.toList = ns := by rw [show its.toArray.toList = its from rfl, rv.ints.numsOf]
    rw [hx] at hl hn
    rw [nums_intItems] at hn
    refine PySem.W.ktm_sumG (I.ok.hd hc) hl fun h' tk t' hk => ⟨.int _, H, I.kept hk, ⟨t', ?_⟩, q⟩
    rw [preSum_eq, List.take_of_length_le (by simp), hn]
def gSumK (d : D) : Option R := match items d with
  | some ds => match intsD ds with
    | some bs => some (.pure (.int bs.sum))
    | none => none
  | none => none
theorem ints_rd {K : PySem.W.Frag} {G H : Hp} {v : V} {d : D} {ds : List D} {ns : List Int} (s : Same G H) (h : RdV K G H v d) (e : items d = some ds) (i : intsD ds = some ns) : ∃ (k : Kd) (a : Addr), v = .ref a ∧ k.Sq K H a (ns.map V.int) := by
  obtain ⟨k, a, xs, rfl, h1, h2⟩ := Kd.of_items (h.dp s) e
  rw [ints_map i] at h2
  rw [dpa_ints_inv h2] at h1
  exact ⟨k, a, rfl, h1⟩
theorem d_sumK (hc : X.calm = true) (hg : Gl X "sum") (hm : X.mg "sum" = none) (ha : PEd X a fa) (he : starEach [a] X.env = (false, eval a X.env) :: starEach [] X.env := by rfl) : PEd X (.Call (.Name "sum" p) [a] [] pos) (cal1 gSumK fa) := d_callB1 (cr_sumK hc) (fun F => ⟨fun ς G σ H x dx res Q rl hx e k => by
  unfold gSumK at e
  split at e
  · rename_i ds q
    split at e
    · rename_i bs q2
      cases e
      obtain ⟨kd, l, rfl, h1⟩ := ints_rd rl.sub hx q q2
      exact ⟨kd, l, bs, rfl, h1, k _ H G rl (Same.refl _) (.int _)⟩
    · cases e
  · cases e⟩) hg hm (by decide +kernel) ha (he := he) (hpl := rfl)
def rBest (K : PySem.W.Frag) (best : D → List D → D) : List V → Hp → VK → Prop := fun vs H Q => ∃ (k : Kd) (a : Addr) (xs : List V) (d : D) (ds : List D), vs = [V.ref a] ∧ k.Sq K H a xs ∧ DpAll K H xs (d :: ds) ∧ PySem.W.AlikeAll (d :: ds) ∧ PyData.depthAll (d :: ds) ≤ 60 ∧ ∀ v, v ∈ xs → Dp K H v (best d ds) → Q v H
theorem best_end {pins : List (Addr × Obj)} {σ : L2.St} {H : Hp} {s : Shared} {Q : VK} {xs : List V} {ds : List D} {its : List Value} {b : D} {i : Nat} {v : Value} {h' : Heap} {tk : Nat} {bs : List Addr} (I : Inv X pins σ H s) (hd : DpAll X.K H xs ds) (rv : Vals xs its) (e : its.toArray[i]? = some v) (hr : Reads h' v b bs) (hk : ∀ b o, s.heap.get? b = some o → h'.get? b = some o) (q : ∀ v, v ∈ xs → Dp X.K H v b → Q v H) :
    ∃ x H', Inv X pins σ H' { s with heap := h', toks := tk } ∧ RelV x v ∧ Q x H' := by
  have e' : its[i]? = some v := by simpa using e
  have hl := rv.length
  have hi : i < xs.length := by rw [hl]; exact (List.getElem?_eq_some_iff.mp e').1
  obtain ⟨u, e2, ru⟩ := rv.get (List.getElem?_eq_getElem hi)
  rw [e'] at e2
  cases e2
  obtain ⟨d, f1, f2⟩ := dpa_getV hd (List.getElem?_eq_getElem hi)
  obtain ⟨as, rd⟩ := Dp.reads I d _ _ f2 ru
  obtain ⟨z, _⟩ := PyProof.Rows.reads_det (fun b o e _ => hk b o e) rd hr
  subst z
  exact ⟨_, H, I.kept hk, ru, q _ (List.getElem_mem hi) f2⟩
theorem cr_minK' (hc : X.calm = true) (hu : X.A.units + 64 < cLine - 1) : CallR X (.builtin "min") (rBest X.K PySem.W.minD) := by
  intro pins s σ H vs us Q I r h
  obtain ⟨k, a, xs, d, ds, rfl, hs, hd, ha, hdp, q⟩ := h
  rw [Vals.ref1 r]
  cases k with
  | L =>
    obtain ⟨its, rv, hl, _⟩ := I.list hs
    obtain ⟨as, rs⟩ := Dp.readsAll I (d :: ds) xs its hd rv
    exact PySem.W.min_list_data (I.ok.hd hc) hl.isList rs ha (by omega) fun i v h' tk bs e hr hk => best_end I hd rv e hr hk q
  | T =>
    obtain ⟨its, rv, hl, _⟩ := I.tuple hs
    obtain ⟨as, rs⟩ := Dp.readsAll I (d :: ds) xs its hd rv
    exact PySem.W.min_tuple_data (I.ok.hd hc) hl rs ha (by omega) fun i v h' tk bs e hr hk => best_end I hd rv e hr hk q
theorem ints_alike (n : Int) (ns : List Int) : PySem.W.AlikeAll (PyData.int n :: ns.map PyData.int) := by
  have : PyData.int n :: ns.map PyData.int = (n :: ns).map PyData.int := rfl
  rw [this]
  constructor
  · intro x hx y hy
    obtain ⟨i, _, rfl⟩ := List.mem_map.1 hx
    obtain ⟨j, _, rfl⟩ := List.mem_map.1 hy
    unfold PySem.W.alike
    rfl
  · intro x hx z
    obtain ⟨i, _, rfl⟩ := List.mem_map.1 hx
    cases z
theorem ints_depth : ∀ ns : List Int, PyData.depthAll (ns.map PyData.int) ≤ 1
  | [] => by simp [PyData.depthAll]
  | n :: ns => by
    have := ints_depth ns
    simp only [List.map_cons, PyData.depthAll, PyData.depth]
    omega
def gMinK (d : D) : Option R := match items d with
  | some ds => match intsD ds with
    | some (n :: ns) => some (.pure (.int (ns.foldl min n)))
    | _ => none
  | none => none
theorem best_call {K : PySem.W.Frag} {F : Fx} {ς : En} {G H : Hp} {σ : L2.St} {x : V} {dx : D} {ds : List D} {n : Int} {ns : List Int} {Q : VK} {best : D → List D → D} {m : Int} (hb : best (.int n) (ns.map PyData.int) = .int m) (rl : Rel K F ς G σ H) (hx : RdV K G H x dx) (q : items dx = some ds) (q2 : intsD ds = some (n :: ns)) (k : Q (.int m) H) : rBest K best [x] H Q := by
  obtain ⟨kd, a, xs, rfl, h1, h2⟩ := Kd.of_items (hx.dp rl.sub) q
  rw [ints_map q2] at h2
  refine ⟨kd, a, xs, .int n, ns.map PyData.int, rfl, h1, h2, ints_alike n ns, ?_, fun v _ hv => ?_⟩
  · have := ints_depth (n :: ns)
    rw [List.map_cons] at this
    omega
  · rw [hb] at hv
    rw [dp_int hv]
    exact k
theorem d_minK (hc : X.calm = true) (hu : X.A.units + 64 < cLine - 1) (hg : Gl X "min") (hm : X.mg "min" = none) (ha : PEd X a fa) (he : starEach [a] X.env = (false, eval a X.env) :: starEach [] X.env := by rfl) : PEd X (.Call (.Name "min" p) [a] [] pos) (cal1 gMinK fa) := d_callB1 (cr_minK' hc hu) (fun F => ⟨fun ς G σ H x dx res Q rl hx e k => by
  unfold gMinK at e
  split at e
  · rename_i ds q
    split at e
    · rename_i n ns q2
      cases e
      exact best_call (PySem.W.minD_ints n ns) rl hx q q2 (k _ H G rl (Same.refl _) (.int _))
    · cases e
  · cases e⟩) hg hm (by decide +kernel) ha (he := he) (hpl := rfl)
end
end Lw
namespace Lw
open PySem PySem.Spec PyProof.Rows L2
section
variable {X : Cx} {a b c e tg : Expr} {es : List Expr} {fa fb fc f : M R} {ta : M Bool} {pos p p1 p2 p3 : Pos} {x : Str} {st : Stmt} {sts rest : List Stmt} {g g1 g2 : MS}
theorem relab_look {c : Str → NameKind → Bool} : ∀ {names : List (Str × NameKind)} {y : Str}, (names.lookup y = some .cell ∨ names.lookup y = some .free) → ((names.map fun (n, k) => if (k == NameKind.free && c n k) = true then (n, NameKind.cell) else (n, k)).lookup y = some .cell ∨ (names.map fun (n, k) => if (k == NameKind.free && c n k) = true then (n, NameKind.cell) else (n, k)).lookup y = some .free)
  | [], _, h => by simp at h
  | (n, k) :: r, y, h => by
    have ih := @relab_look c r y
    rw [List.map_cons]
    dsimp only
    by_cases e : (y == n) = true
    · simp only [List.lookup_cons, e] at h
      by_cases q : (k == NameKind.free && c n k) = true
      · rw [if_pos q]; simp [List.lookup_cons, e]
      · rw [if_neg q]; simpa [List.lookup_cons, e] using h
    · have e' : (y == n) = false := by simpa using e
      simp only [List.lookup_cons, e'] at h
      by_cases q : (k == NameKind.free && c n k) = true
      · rw [if_pos q]; simpa [List.lookup_cons, e'] using ih h
      · rw [if_neg q]; simpa [List.lookup_cons, e'] using ih h
theorem blkOk_n {N : List Str} {sc scope : Scope} {own : List (Str × Nat)} {cl : List (Str × Addr)} {C : Addr} {env0 : Env} (h : blkC N sc scope own = true) : BlkOk N (compEnvC sc cl C env0).scope scope own := by
  have o := blkOk_by h
  refine ⟨o.kind, o.uniq, o.ix, fun y hy hf => ?_, o.own⟩
  have := relab_look (c := fun n k => env0.scope.kind == .function && env0.kindOf n == some .cell) (o.free y hy hf)
  simpa [compEnvC, relabel, Bool.and_assoc] using this
/-! ### [*a, b, ..] -/
def argX (f : M R) (g : M (List Ar)) : M (List Ar) := bd (esc f) fun d => bd (lift (items d)) fun ds => bd g fun as => ret (avs ds ++ as)
theorem avs_ok {K : PySem.W.Frag} {G : Hp} {σ : L2.St} : ∀ {ds : List D} {vs : List V} {as : List Ar} {ws : List V}, DpAll K G vs ds → Paired (RepAr K G σ) as ws → Paired (RepAr K G σ) (avs ds ++ as) (vs ++ ws)
  | _, _, _, _, .nil, h => h
  | _, _, _, _, .cons r t, h => .cons r (avs_ok t h)
theorem a_star {ga : M (List Ar)} (ha : PEd X a fa) (hr : PAd X es ga) (hs : starEach (.Starred a p :: es) X.env = (true, eval a X.env) :: starEach es X.env := by rfl) : PAd X (.Starred a p :: es) (argX fa ga) := fun F => PA.mono (StX.pa_star (d_esc ha F) (hr F) hs) fun σ H Q hq => by
  obtain ⟨ς, G, rl, r, ς', e, k⟩ := hq
  obtain ⟨d, ς1, e1, q1⟩ := bd_some e
  obtain ⟨ds, ς3, e3', q3⟩ := bd_some q1
  obtain ⟨e3, h3⟩ := lift_some e3'
  subst h3
  obtain ⟨as, ς2, e2, q2⟩ := bd_some q3
  cases q2
  refine ⟨ς, G, rl, d, _, e1, fun v H1 G1 rl1 s1 dp => ?_⟩
  obtain ⟨kd, l, vs, rfl, h1, h2⟩ := Kd.of_items dp e3
  refine ⟨l, vs, rfl, ?_, _, G1, rl1, as, _, e2, fun ws H2 G2 rl2 s2 ps => k (vs ++ ws) H2 G2 rl2 (s1.trans s2) (avs_ok (dpa_same s2 h2) ps)⟩
  cases kd with
  | L => exact .inr (rl1.sub.seq h1)
  | T => exact .inl (same_seqT rl1.sub h1)
theorem vals_avs : ∀ {ds : List D} {as : List Ar} {es : List D}, vals as = some es → vals (avs ds ++ as) = some (ds ++ es)
  | [], _, _, h => h
  | d :: ds, as, es, h => by
    show (match vals (avs ds ++ as) with | some ws => some (d :: ws) | none => none) = _
    rw [vals_avs h]
    rfl
theorem Sm.argX {ς : En} {Q : List Ar → En → Prop} {f : M R} {g : M (List Ar)} (h : wp f ς fun r ς1 => ∃ d ς2, toD r ς1 = some (d, ς2) ∧ ∃ ds, items d = some ds ∧ wp g ς2 fun as ς3 => Q (avs ds ++ as) ς3) : wp (Lw.argX f g) ς Q :=
  Sm.bd (Sm.esc (Sm.mono h fun r ς1 ⟨d, ς2, e, ds, e2, q⟩ => ⟨d, ς2, e, Sm.bd (Sm.lift e2 (Sm.bd (Sm.mono q fun as ς3 q => Sm.ret q)))⟩))
/-! ### x += e, of numbers -/
def augI (i : Nat) (h : Int → Int → Int) (f : M R) : MS := fun ς => match ς[i]? with
  | some (some (.pure (.int m))) => match esc f ς with
    | some (.int n, ς1) => if free ς1 i = true then some (.nx (ς1.set i (some (.pure (.int (h m n)))))) else none
    | _ => none
  | _ => none
theorem s_augI {i : Nat} {h : Int → Int → Int} {op : Operator} (he : PEd X e f) (hs : ∀ te, PE X e te → PS X (.AugAssign (.Name x p) op e pos) (tAug i te (ipI h))) : PSd X (.AugAssign (.Name x p) op e pos) (augI i h f) := fun F => PS.mono (hs _ (d_esc he F)) fun D σ H hq => by
  obtain ⟨ς, G, rl, o, e, k⟩ := hq
  unfold augI at e
  split at e
  · rename_i m q
    split at e
    · rename_i n ς1 q1
      split at e
      · rename_i hf
        cases e
        obtain ⟨v, h1, h2⟩ := rl.pu i _ q
        rw [dp_int h2] at h1
        refine ⟨_, h1, ς, G, rl, _, _, q1, fun w H1 G1 rl1 s1 dp => ⟨m, n, rfl, dp_int dp, k _ H1 G1 (rl1.setP hf (.int _)) s1⟩⟩
      · cases e
    · cases e
  · cases e
theorem Sm.augI {ς : En} {Q : Out → Prop} {i : Nat} {h : Int → Int → Int} {m : Int} (e : ς[i]? = some (some (.pure (.int m)))) (hh : wp f ς fun r ς1 => ∃ n ς2, toD r ς1 = some (.int n, ς2) ∧ free ς2 i = true ∧ Q (.nx (ς2.set i (some (.pure (.int (h m n))))))) : wps (Lw.augI i h f) ς Q := by
  obtain ⟨r, ς1, e1, n, ς2, e2, hf, q⟩ := hh
  refine ⟨_, ?_, q⟩
  have ee : Lw.esc f ς = some (.int n, ς2) := by unfold Lw.esc Lw.bd; rw [e1]; exact e2
  unfold Lw.augI
  simp only [e, ee]
  exact if_pos hf
/-! ### [..] * n -/
theorem _root_.L2.PE.ex {t : Fx → TE} (h : ∀ F, PE X e (t F)) : PE X e (fun σ H Q => ∃ F, t F σ H Q) := ⟨fun pins s σ H Q I ⟨F, hw⟩ => (h F).run pins s σ H Q I hw⟩
def repE (fa : M R) (n : Nat) : M R := bd fa fun r => match r with
  | .fresh ds => if ds.length * n ≤ 1000 ∧ n ≤ 1000 then ret (.fresh (List.replicate n ds).flatten) else lift none
  | _ => lift none
theorem Sm.repE {ς : En} {Q : R → En → Prop} {n : Nat} (h : wp fa ς fun r ς1 => ∃ ds, r = .fresh ds ∧ (ds.length * n ≤ 1000 ∧ n ≤ 1000) ∧ Q (.fresh (List.replicate n ds).flatten) ς1) : wp (Lw.repE fa n) ς Q := by
  refine Sm.bd (Sm.mono h fun r ς1 ⟨ds, e, hl, q⟩ => ?_)
  subst e
  show wp (if ds.length * n ≤ 1000 ∧ n ≤ 1000 then Lw.ret (R.fresh (List.replicate n ds).flatten) else Lw.lift none) ς1 Q
  rw [if_pos hl]
  exact Sm.ret q
/-! ### {text: a, text: b}[x] -/
def dicE (s t : Str) (fa fb fi : M R) : M R := bd (esc fa) fun x => bd (esc fb) fun y => bd (esc fi) fun z => match z with
  | .str w => if w = s ∧ s ≠ t then ret (.pure x) else if w = t ∧ s ≠ t then ret (.pure y) else lift none
  | _ => lift none
variable {s t : Str}
theorem Sm.dicE {ς : En} {Q : R → En → Prop} (hst : s ≠ t) (h : wp fa ς fun r ς1 => ∃ x ς1', toD r ς1 = some (x, ς1') ∧ wp fb ς1' fun r2 ς2 => ∃ y ς2', toD r2 ς2 = some (y, ς2') ∧ wp fc ς2' fun r3 ς3 => ∃ w ς3', toD r3 ς3 = some (.str w, ς3') ∧ ((w = s ∧ Q (.pure x) ς3') ∨ (w = t ∧ Q (.pure y) ς3'))) : wp (Lw.dicE s t fa fb fc) ς Q := by
  refine Sm.bd (Sm.esc (Sm.mono h fun r ς1 ⟨x, ς1', e1, h⟩ => ⟨x, ς1', e1, Sm.bd (Sm.esc (Sm.mono h fun r2 ς2 ⟨y, ς2', e2, h⟩ => ⟨y, ς2', e2, Sm.bd (Sm.esc (Sm.mono h fun r3 ς3 ⟨w, ς3', e3, h⟩ => ⟨_, ς3', e3, ?_⟩))⟩))⟩))
  show wp (if w = s ∧ s ≠ t then Lw.ret (R.pure x) else if w = t ∧ s ≠ t then Lw.ret (R.pure y) else Lw.lift none) ς3' Q
  rcases h with ⟨rfl, q⟩ | ⟨rfl, q⟩
  · rw [if_pos ⟨rfl, hst⟩]; exact Sm.ret q
  · rw [if_neg (fun z => hst z.1.symm), if_pos ⟨rfl, hst⟩]; exact Sm.ret q
end
namespace Sm
section
variable {ς : En}
instance stp_argX {ς : En} {Q : List Ar → En → Prop} {f : M R} {g : M (List Ar)} : Stp (wp (Lw.argX f g) ς Q) (wp f ς fun r ς1 => ∃ d ς2, toD r ς1 = some (d, ς2) ∧ ∃ ds, items d = some ds ∧ wp g ς2 fun as ς3 => Q (avs ds ++ as) ς3) := ⟨Sm.argX⟩
instance stp_repE {ς : En} {Q : R → En → Prop} {n : Nat} : Stp (wp (Lw.repE fa n) ς Q) (wp fa ς fun r ς1 => ∃ ds, r = .fresh ds ∧ (ds.length * n ≤ 1000 ∧ n ≤ 1000) ∧ Q (.fresh (List.replicate n ds).flatten) ς1) := ⟨Sm.repE⟩
end
end Sm
end Lw
namespace Lw
open PySem PySem.Spec PyProof.Rows L2
/-! ### list(zip(a, b)) -/
end Lw
namespace Lw
open PySem PySem.Spec PyProof.Rows L2
variable {X : Cx} {e a b : Expr} {f fa fb : M R} {p p2 pos pos2 : Pos}
/-! ### list(zip(a, b)) -/
def lzE (fa fb : M R) : M R := bd (itZ2 fa fb) fun zs => if small zs.length = true then ret (.fresh zs) else lift none
theorem Sm.lzE {ς : En} {Q : R → En → Prop} (h : wp fa ς fun r ς1 => ∃ d ς2, toD r ς1 = some (d, ς2) ∧ wp fb ς2 fun r2 ς3 => ∃ d2 ς4, toD r2 ς3 = some (d2, ς4) ∧ ∃ xs ys, items d = some xs ∧ items d2 = some ys ∧ (zipD xs ys).length ≤ sizeLine ∧ Q (.fresh (zipD xs ys)) ς4) : wp (Lw.lzE fa fb) ς Q := by
  refine Sm.bd (Sm.itZ2 (Sm.mono h fun r ς1 ⟨d, ς2, e, q⟩ => ⟨d, ς2, e, Sm.mono q fun r2 ς3 ⟨d2, ς4, e2, xs, ys, e3, e4, hl, q⟩ => ⟨d2, ς4, e2, xs, ys, e3, e4, ?_⟩⟩))
  rw [if_pos (show small (zipD xs ys).length = true from decide_eq_true hl)]
  exact Sm.ret q
/-! ### reversed(a list or tuple) -/
section
variable {tg c : Expr} {fc : M R} {K : PySem.W.Frag} {G : Hp}
def itV (f : M R) : M (List D) := bd (esc f) fun d => bd (lift (items d)) fun xs => ret xs.reverse
theorem Sm.itV {ς : En} {Q : List D → En → Prop} (h : wp f ς fun r ς1 => ∃ d ς2, toD r ς1 = some (d, ς2) ∧ ∃ xs, items d = some xs ∧ Q xs.reverse ς2) : wp (Lw.itV f) ς Q :=
  Sm.bd (Sm.esc (Sm.mono h fun r ς1 ⟨d, ς2, e, xs, e2, q⟩ => ⟨d, ς2, e, Sm.bd (Sm.lift e2 (Sm.ret q))⟩))
/-! ### range(a, b, -1), reversed(range(..)) -/
theorem rngD_rget (n : Nat) (lo : Int) (i : Nat) (h : i < n) : (rngD lo n).reverse[i]? = some (.int (lo + (n : Int) - 1 - i)) := by
  rw [List.getElem?_reverse (by rw [rngD_len]; exact h), rngD_len, rngD_get n lo _ (by omega)]
  congr 2
  omega
theorem walk_dn {m lo : Int} {n : Nat} (hm : m = lo + (n : Int) - 1) : WalkD K G (Itc m (-1) n) (rngD lo n).reverse where
  stop := fun H s => by rw [List.length_reverse, rngD_len]; exact Nat.le_refl _
  go := fun i H hl s => by rw [List.length_reverse, rngD_len] at hl; exact hl
  yld := fun i H x H' d s y e => by
    have hl := (List.getElem?_eq_some_iff.mp e).1
    rw [List.length_reverse, rngD_len] at hl
    rw [rngD_rget n lo i hl] at e
    cases e
    obtain ⟨y1, rfl⟩ := y
    refine .inl ⟨y1, ?_⟩
    have : m + (i : Int) * (-1) = lo + (n : Int) - 1 - i := by omega
    rw [this]
    exact .int _
def gDn : D → D → D → Option (List D)
  | .int m, .int n, .int k => if k = -1 ∧ inR m = true ∧ inR n = true then some (rngD (n + 1) (m - n).toNat).reverse else none
  | _, _, _ => none
def itR3 (fa fb fc : M R) : M (List D) := bd (esc fa) fun x => bd (esc fb) fun y => bd (esc fc) fun z => lift (gDn x y z)
theorem Sm.itR3 {ς : En} {Q : List D → En → Prop} {fc : M R} (h : wp fa ς fun r ς1 => ∃ d ς2, toD r ς1 = some (d, ς2) ∧ wp fb ς2 fun r2 ς3 => ∃ d2 ς4, toD r2 ς3 = some (d2, ς4) ∧ wp fc ς4 fun r3 ς5 => ∃ d3 ς6, toD r3 ς5 = some (d3, ς6) ∧ ∃ xs, gDn d d2 d3 = some xs ∧ Q xs ς6) : wp (Lw.itR3 fa fb fc) ς Q :=
  Sm.bd (Sm.esc (Sm.mono h fun r ς1 ⟨d, ς2, e, q⟩ => ⟨d, ς2, e, Sm.bd (Sm.esc (Sm.mono q fun r2 ς3 ⟨d2, ς4, e2, q2⟩ => ⟨d2, ς4, e2, Sm.bd (Sm.esc (Sm.mono q2 fun r3 ς5 ⟨d3, ς6, e3, xs, e4, q3⟩ => ⟨d3, ς6, e3, Sm.lift e4 q3⟩))⟩))⟩))
def gRn1 : D → Option (List D)
  | .int n => if inR n = true then some (rngD 0 n.toNat).reverse else none
  | _ => none
def itRv1 (f : M R) : M (List D) := bd (esc f) fun x => lift (gRn1 x)
theorem i_revR1 (hg : Gl X "reversed") (hm : X.mg "reversed" = none) (hg2 : Gl X "range") (hm2 : X.mg "range" = none) (ha : PEd X a fa) (na : starEach [a] X.env = (false, eval a X.env) :: starEach [] X.env := by rfl) (hs : starEach [.Call (.Name "range" p2) [a] [] pos2] X.env = (false, eval (.Call (.Name "range" p2) [a] [] pos2) X.env) :: starEach [] X.env := by rfl) :
    PId X tg (.Call (.Name "reversed" p) [.Call (.Name "range" p2) [a] [] pos2] [] pos) (itRv1 fa) := fun F => PI.mono (pi_revR hg hm (prg_1 hg2 hm2 (d_esc ha F) na) hs) fun σ H R hq => by
  obtain ⟨ς, G, rl, ds, ς', e, k⟩ := hq
  obtain ⟨x, ς1, e1, q1⟩ := bd_some e
  obtain ⟨e4, h4⟩ := lift_some q1
  subst h4
  refine ⟨ς, G, rl, x, _, e1, fun v H1 G1 rl1 s1 dp1 => ?_⟩
  unfold gRn1 at e4
  split at e4
  · rename_i n
    split at e4
    · rename_i h1
      unfold inR at h1
      simp only [Bool.and_eq_true, decide_eq_true_eq] at h1
      cases e4
      refine ⟨n, by rw [dp_int dp1], by decide, by decide, h1.1, h1.2, k _ H1 G1 rl1 s1 ?_⟩
      have e0 : n - 0 = n := by omega
      rw [e0]
      exact walk_dn rfl
    · cases e4
  · cases e4
theorem Sm.itRv1 {ς : En} {Q : List D → En → Prop} (h : wp fa ς fun r ς1 => ∃ d ς2, toD r ς1 = some (d, ς2) ∧ ∃ xs, gRn1 d = some xs ∧ Q xs ς2) : wp (Lw.itRv1 fa) ς Q :=
  Sm.bd (Sm.esc (Sm.mono h fun r ς1 ⟨d, ς2, e, xs, e2, q⟩ => ⟨d, ς2, e, Sm.lift e2 q⟩))
def gRn2 : D → D → Option (List D)
  | .int m, .int n => if inR m = true ∧ inR n = true then some (rngD m (n - m).toNat).reverse else none
  | _, _ => none
def itRv2 (fa fb : M R) : M (List D) := bd (esc fa) fun x => bd (esc fb) fun y => lift (gRn2 x y)
theorem i_revR2 (hg : Gl X "reversed") (hm : X.mg "reversed" = none) (hg2 : Gl X "range") (hm2 : X.mg "range" = none) (ha : PEd X a fa) (hb : PEd X b fb) (na : starEach [a, b] X.env = (false, eval a X.env) :: starEach [b] X.env := by rfl) (nb : starEach [b] X.env = (false, eval b X.env) :: starEach [] X.env := by rfl) (hpl : (backTo pos2 (starEach [b] X.env)).any (·.1) = false := by rfl) (hs : starEach [.Call (.Name "range" p2) [a, b] [] pos2] X.env = (false, eval (.Call (.Name "range" p2) [a, b] [] pos2) X.env) :: starEach [] X.env := by rfl) :
    PId X tg (.Call (.Name "reversed" p) [.Call (.Name "range" p2) [a, b] [] pos2] [] pos) (itRv2 fa fb) := fun F => PI.mono (pi_revR hg hm (prg_2 hg2 hm2 (d_esc ha F) (d_esc hb F) na nb hpl) hs) fun σ H R hq => by
  obtain ⟨ς, G, rl, ds, ς', e, k⟩ := hq
  obtain ⟨x, ς1, e1, q1⟩ := bd_some e
  obtain ⟨y, ς2, e2, q2⟩ := bd_some q1
  obtain ⟨e4, h4⟩ := lift_some q2
  subst h4
  refine ⟨ς, G, rl, x, _, e1, fun v H1 G1 rl1 s1 dp1 => ⟨ς1, G1, rl1, y, _, e2, fun w H2 G2 rl2 s2 dp2 => ?_⟩⟩
  unfold gRn2 at e4
  split at e4
  · rename_i m n
    split at e4
    · rename_i hh
      obtain ⟨h1, h2⟩ := hh
      unfold inR at h1 h2
      simp only [Bool.and_eq_true, decide_eq_true_eq] at h1 h2
      cases e4
      exact ⟨m, n, by rw [dp_int dp1], by rw [dp_int dp2], h1.1, h1.2, h2.1, h2.2, k _ H2 G2 rl2 (s1.trans s2) (walk_dn rfl)⟩
    · cases e4
  · cases e4
theorem Sm.itRv2 {ς : En} {Q : List D → En → Prop} (h : wp fa ς fun r ς1 => ∃ d ς2, toD r ς1 = some (d, ς2) ∧ wp fb ς2 fun r2 ς3 => ∃ d2 ς4, toD r2 ς3 = some (d2, ς4) ∧ ∃ xs, gRn2 d d2 = some xs ∧ Q xs ς4) : wp (Lw.itRv2 fa fb) ς Q :=
  Sm.bd (Sm.esc (Sm.mono h fun r ς1 ⟨d, ς2, e, q⟩ => ⟨d, ς2, e, Sm.bd (Sm.esc (Sm.mono q fun r2 ς3 ⟨d2, ς4, e2, xs, e3, q2⟩ => ⟨d2, ς4, e2, Sm.lift e3 q2⟩))⟩))
end
/-! ### xs[i] += e, of a list of one's own -/
def augS (n : Nat) (fi : M R) (h : Int → Int → Int) (fe : M R) : MS := fun ς => match vr n ς with
  | some (.ref i, ς1) => match ptS fi ς1 with
    | some (some j, ς2) => match ς2[i]? with
      | some (some (.own _ ds)) => match ixN ds.length j with
        | some m => match ds[m]? with
          | some (.int x) => match esc fe ς2 with
            | some (.int y, ς3) => match ς3[i]? with
              | some (some (.own b ds')) => if ds'.length = ds.length then some (.nx (ς3.set i (some (.own b (ds'.set m (.int (h x y))))))) else none
              | _ => none
            | _ => none
          | _ => none
        | none => none
      | _ => none
    | _ => none
  | _ => none
theorem Sm.augS {ς : En} {Q : Out → Prop} {n : Nat} {fi fe : M R} {h : Int → Int → Int} {b : Bool} {ds : List D} (e0 : ς[n]? = some (some (.own b ds))) (hi : wp fi ς fun r ς1 => ∃ (j : Int) (m : Nat) (x : Int), rdD r ς1 = some (.int j) ∧ ς1[n]? = some (some (.own b ds)) ∧ ixN ds.length j = some m ∧ ds[m]? = some (.int x) ∧ wp fe ς1 fun r2 ς2 => ∃ (y : Int) (ς3 : En), toD r2 ς2 = some (.int y, ς3) ∧ ς3[n]? = some (some (.own b ds)) ∧ Q (.nx (ς3.set n (some (.own b (ds.set m (.int (h x y)))))))) : wps (Lw.augS n fi h fe) ς Q := by
  have hp : wp (Lw.ptS fi) ς fun r ς1 => ∃ (j : Int), r = some j ∧ ∃ (m : Nat) (x : Int), ς1[n]? = some (some (.own b ds)) ∧ ixN ds.length j = some m ∧ ds[m]? = some (.int x) ∧ wp fe ς1 fun r2 ς2 => ∃ (y : Int) (ς3 : En), toD r2 ς2 = some (.int y, ς3) ∧ ς3[n]? = some (some (.own b ds)) ∧ Q (.nx (ς3.set n (some (.own b (ds.set m (.int (h x y))))))) :=
    Sm.ptS (Sm.mono hi fun r ς1 ⟨j, m, x, e1, e2, e3, e4, e5⟩ => ⟨j, e1, j, rfl, m, x, e2, e3, e4, e5⟩)
  obtain ⟨r, ς1, e1, j, rfl, m, x, e2, e3, e4, r2, ς2, e5, y, ς3, e6, e7, q⟩ := hp
  refine ⟨_, ?_, q⟩
  have ee : Lw.esc fe ς1 = some (.int y, ς3) := by unfold Lw.esc Lw.bd; rw [e5]; exact e6
  have ev : Lw.vr n ς = some (.ref n, ς) := by unfold Lw.vr; rw [e0]
  unfold Lw.augS
  simp only [ev, e1, e2, e3, e4, ee, e7, if_true]
namespace Sm
section
variable {ς : En}
instance stp_lzE {ς : En} {Q : R → En → Prop} : Stp (wp (Lw.lzE fa fb) ς Q) (wp fa ς fun r ς1 => ∃ d ς2, toD r ς1 = some (d, ς2) ∧ wp fb ς2 fun r2 ς3 => ∃ d2 ς4, toD r2 ς3 = some (d2, ς4) ∧ ∃ xs ys, items d = some xs ∧ items d2 = some ys ∧ (zipD xs ys).length ≤ sizeLine ∧ Q (.fresh (zipD xs ys)) ς4) := ⟨Sm.lzE⟩
instance stp_itV {ς : En} {Q : List D → En → Prop} : Stp (wp (Lw.itV f) ς Q) (wp f ς fun r ς1 => ∃ d ς2, toD r ς1 = some (d, ς2) ∧ ∃ xs, items d = some xs ∧ Q xs.reverse ς2) := ⟨Sm.itV⟩
instance stp_itR3 {ς : En} {Q : List D → En → Prop} {fc : M R} : Stp (wp (Lw.itR3 fa fb fc) ς Q) (wp fa ς fun r ς1 => ∃ d ς2, toD r ς1 = some (d, ς2) ∧ wp fb ς2 fun r2 ς3 => ∃ d2 ς4, toD r2 ς3 = some (d2, ς4) ∧ wp fc ς4 fun r3 ς5 => ∃ d3 ς6, toD r3 ς5 = some (d3, ς6) ∧ ∃ xs, gDn d d2 d3 = some xs ∧ Q xs ς6) := ⟨Sm.itR3⟩
instance stp_itRv1 {ς : En} {Q : List D → En → Prop} : Stp (wp (Lw.itRv1 fa) ς Q) (wp fa ς fun r ς1 => ∃ d ς2, toD r ς1 = some (d, ς2) ∧ ∃ xs, gRn1 d = some xs ∧ Q xs ς2) := ⟨Sm.itRv1⟩
instance stp_itRv2 {ς : En} {Q : List D → En → Prop} : Stp (wp (Lw.itRv2 fa fb) ς Q) (wp fa ς fun r ς1 => ∃ d ς2, toD r ς1 = some (d, ς2) ∧ wp fb ς2 fun r2 ς3 => ∃ d2 ς4, toD r2 ς3 = some (d2, ς4) ∧ ∃ xs, gRn2 d d2 = some xs ∧ Q xs ς4) := ⟨Sm.itRv2⟩
end
end Sm
end Lw
namespace Lw
open PySem PySem.Spec PyProof.Rows L2
def g_l_box : MS :=
  (sq (asg (ife (tst (op2 gLt (vr 1) (cal1 gLen (vr 0)))) (op2 gIx (vr 0) (vr 1)) (cn (.int 0))) (tgN 2))
  (retS (lstE (argV (op2 gMulA (cal1 gAbs (vr 2)) (cal1 gInt (op2 gGe (cal1 gAbs (vr 2)) (op2 gPowA (cn (.int 10)) (cn (.int 18)))))) (argV (op2 gModA (op2 gMulA (op2 gAddA (op2 gAddA (op2 gModA (vr 2) (cn (.int 2147483629))) (op2 gMulA (cn (.int 15485863)) (vr 1))) (cn (.int 43))) (cn (.int 48271))) (cn (.int 2147483647))) (argV (cn (.int 0)) argN))))))
def m_l_box : Fsem := runFn g_l_box 3
def g_l_take (self : Fsem) : MS :=
  (sq (ifS (tst (op2 gGt (op2 gIx (vr 0) (cn (.int 0))) (cn (.int 0)))) (sq (asg (op2 gDm (op2 gIx (vr 0) (cn (.int 0))) (vr 1)) (tgT 2 (tgsC (tgS (vr 0) (cn (.int 0))) (tgsC (tgN 2) tgsN))))
  (retS (vr 2))) skip)
  (sq (ifS (tst (op2 gGt (vr 1) (op2 gPowA (cn (.int 10)) (cn (.int 7))))) (retS (op2 gModA (op2 gAddA (callE self (argR (vr 0) (argV (op2 gPowA (cn (.int 10)) (cn (.int 7))) argN))) (op2 gMulA (op2 gPowA (cn (.int 10)) (cn (.int 7))) (callE self (argR (vr 0) (argV (op2 gAddA (op2 gDivA (op2 gSubA (vr 1) (cn (.int 1))) (op2 gPowA (cn (.int 10)) (cn (.int 7)))) (cn (.int 1))) argN))))) (vr 1))) skip)
  (sq (asg (op2 gAddA (op2 gIx (vr 0) (cn (.int 2))) (cn (.int 1))) (tgS (vr 0) (cn (.int 2))))
  (sq (asg (op2 gAddA (cn (.int 69621)) (op2 gMulA (op2 gIx (vr 0) (cn (.int 2))) (op2 gIx (vr 0) (cn (.int 2))))) (tgN 3))
  (sq (asg (op2 gModA (op2 gMulA (op2 gAddA (op2 gIx (vr 0) (cn (.int 1))) (op2 gMulA (cn (.int 39373)) (op2 gIx (vr 0) (cn (.int 2))))) (vr 3)) (cn (.int 2147483587))) (tgN 4))
  (sq (asg (op2 gModA (op2 gAddA (op2 gMulA (vr 4) (op2 gAddA (op2 gModA (vr 4) (cn (.int 30011))) (cn (.int 5)))) (op2 gIx (vr 0) (cn (.int 2)))) (cn (.int 2147483563))) (tgN 5))
  (retS (op2 gModA (op2 gDivA (op2 gModA (op2 gMulA (vr 5) (op2 gAddA (op2 gModA (vr 5) (cn (.int 1013))) (cn (.int 3)))) (cn (.int 998244353))) (cn (.int 16))) (vr 1)))))))))
def m_l_take : Nat → Fsem
  | 0 => fun _ => none
  | n + 1 => runFn (g_l_take (m_l_take n)) 6
def g_l_folded : MS :=
  (sq (asgO 2 (cal1 gList (slE (vr 0) ptN (ptS (vr 1)))))
  (sq (forS (itE (slE (vr 0) (ptS (vr 1)) (ptS (cn (.int 63))))) (tgT 2 (tgsC (tgN 3) (tgsC (tgN 4) tgsN))) (asg (op2 gAddA (op2 gIx (vr 2) (op2 gModA (vr 3) (vr 1))) (op2 gMulA (vr 4) (op2 gAddA (vr 3) (cn (.int 2))))) (tgS (vr 2) (op2 gModA (vr 3) (vr 1)))))
  (retS (vr 2))))
def m_l_folded : Fsem := runFn g_l_folded 5
def g_l_same (self : Fsem) : MS :=
  (sq (ifS (tru (isE (vr 1) [.list, .tuple])) (sq (ifS (orT (tst (op2 gNe (isE (vr 0) [.list]) (isE (vr 1) [.list]))) (tst (op2 gNe (isE (vr 0) [.tuple]) (isE (vr 1) [.tuple])))) (retS (cn (.bool false))) skip)
  (retS (andV (op2 gEq (cal1 gLen (vr 0)) (cal1 gLen (vr 1))) (cal1 gAll (lcE (itZ (vr 0) (vr 1)) [2, 3] (tgT 2 (tgsC (tgN 2) (tgsC (tgN 3) tgsN))) (ret true) (callE self (argV (vr 2) (argV (vr 3) argN)))))))) skip)
  (sq (ifS (orT (tst (op2 gIs (vr 1) (cn .none))) (tru (isE (vr 1) [.str]))) (retS (andV (op2 gEq (vr 0) (vr 1)) (op2 gEq (isE (vr 0) [.str]) (isE (vr 1) [.str])))) skip)
  (retS (andV (isE (vr 0) [.int]) (andV (op2 gEq (isE (vr 0) [.bool]) (isE (vr 1) [.bool])) (op2 gEq (vr 0) (vr 1)))))))
def m_l_same : Nat → Fsem
  | 0 => fun _ => none
  | n + 1 => runFn (g_l_same (m_l_same n)) 4
end Lw
namespace Lw
open PySem PySem.Spec PyProof.Rows L2
def g_p_change_of : MS :=
  (sq (par2 2 3 false false (op2 gIx (vr 1) (cn (.int 0))) (op2 gIx (vr 1) (cn (.int 1))))
  (sq (ifS (tst (op2 gEq (vr 2) (cn (.str "fill")))) (retS (tupE (argV (vr 3) (argV (negV (op2 gIx (op2 gIx (vr 0) (op2 gSubA (vr 3) (cn (.int 1)))) (cn (.int 2)))) argN)))) skip)
  (sq (ifS (tst (op2 gEq (vr 2) (cn (.str "empty")))) (retS (tupE (argV (op2 gSubA (vr 3) (cn (.int 1))) (argV (op2 gIx (op2 gIx (vr 0) (op2 gSubA (vr 3) (cn (.int 1)))) (cn (.int 2))) argN)))) skip)
  (sq (ifS (tst (op2 gEq (vr 2) (cn (.str "raise")))) (retS (tupE (argV (vr 3) (argV (op2 gIx (vr 1) (cn (.int 2))) argN)))) skip)
  (retS (tupE (argV (vr 3) (argV (negV (op2 gIx (vr 1) (cn (.int 2)))) argN))))))))
def m_p_change_of : Fsem := runFn g_p_change_of 4
def g_p_sums_of : MS :=
  (sq (asg (lcE (itS (vr 1)) [3] (tgN 3) (ret true) (callE m_p_change_of (argV (vr 0) (argV (vr 3) argN)))) (tgN 2))
  (retS (cal1 gTuple (lcE (itR2 (cn (.int 1)) (op2 gAddA (cal1 gLen (vr 0)) (cn (.int 1)))) [6] (tgN 6) (ret true) (cal1 gSumK (lcE (itS (vr 2)) [4, 5] (tgT 2 (tgsC (tgN 4) (tgsC (tgN 5) tgsN))) (tst (op2 gGe (vr 4) (vr 6))) (vr 5)))))))
def m_p_sums_of : Fsem := runFn g_p_sums_of 7
end Lw
namespace Lw
open PySem PySem.Spec PyProof.Rows L2
end Lw
namespace Lw
open PySem PySem.Spec PyProof.Rows L2
section
variable {X : Cx} {a b c e tg : Expr} {es : List Expr} {fa fb fc f : M R} {pos p : Pos} {st : Stmt}
/-! ### x, y = a, b by the pair itself -/
theorem RepR.layF {K : PySem.W.Frag} {F : Fx} {ς : En} {G : Hp} {σ : L2.St} {H : Hp} {x : R} {v : V} {q : Addr} {o : HO} (h : RepR K F ς G σ H x v) (hq : H q = none) : RepR K F ς G σ (upd H q o) x v := by
  cases x with
  | pure d => exact h
  | ref i => exact h
  | fresh ds =>
    obtain ⟨a, vs, rfl, h1, h2⟩ := h
    have ne : a ≠ q := fun z => by subst z; rw [h1] at hq; cases hq
    exact ⟨a, vs, rfl, by rw [upd_ne ne]; exact h1, h2⟩
/-! ### x, y, z = a, b, [..] -/
def parL3 (i j l : Nat) (fa fb fc : M R) : MS := fun ς => match bd (esc fa) (fun x => bd (esc fb) fun y => bd fc fun z => ret (x, y, z)) ς with
  | some ((x, y, .fresh zs), ς') => if free ς' i = true ∧ free (ς'.set i (some (.pure x))) j = true ∧ free ((ς'.set i (some (.pure x))).set j (some (.pure y))) l = true then some (.nx (((ς'.set i (some (.pure x))).set j (some (.pure y))).set l (some (.own false zs)))) else none
  | _ => none
theorem Sm.parL3 {ς : En} {Q : Out → Prop} {i j l : Nat} (h : wp fa ς fun a ς1 => ∃ x ς1', toD a ς1 = some (x, ς1') ∧ wp fb ς1' fun b ς2 => ∃ y ς2', toD b ς2 = some (y, ς2') ∧ wp fc ς2' fun c ς3 => ∃ zs, c = .fresh zs ∧
    (free ς3 i = true ∧ free (ς3.set i (some (.pure x))) j = true ∧ free ((ς3.set i (some (.pure x))).set j (some (.pure y))) l = true) ∧ Q (.nx (((ς3.set i (some (.pure x))).set j (some (.pure y))).set l (some (.own false zs))))) : wps (Lw.parL3 i j l fa fb fc) ς Q := by
  obtain ⟨a, ς1, e1, x, ς1', t1, b, ς2, e2, y, ς2', t2, c, ς3, e3, zs, rfl, hf, q⟩ := h
  refine ⟨_, ?_, q⟩
  unfold Lw.parL3
  have h1 : Lw.esc fa ς = some (x, ς1') := by unfold Lw.esc Lw.bd; rw [e1]; exact t1
  have h2 : Lw.esc fb ς1' = some (y, ς2') := by unfold Lw.esc Lw.bd; rw [e2]; exact t2
  have : Lw.bd (Lw.esc fa) (fun x => Lw.bd (Lw.esc fb) fun y => Lw.bd fc fun z => Lw.ret (x, y, z)) ς = some ((x, y, .fresh zs), ς3) := by
    unfold Lw.bd
    rw [h1]
    simp only [h2, e3, Lw.ret]
  rw [this]
  simp only
  rw [if_pos hf]
/-! ### x is True, x is not True, of truths -/
end
namespace Sm
section
variable {ς : En}
instance stp_parL3 {ς : En} {Q : Out → Prop} {i j l : Nat} : Stp (wps (Lw.parL3 i j l fa fb fc) ς Q) (wp fa ς fun a ς1 => ∃ x ς1', toD a ς1 = some (x, ς1') ∧ wp fb ς1' fun b ς2 => ∃ y ς2', toD b ς2 = some (y, ς2') ∧ wp fc ς2' fun c ς3 => ∃ zs, c = .fresh zs ∧     (free ς3 i = true ∧ free (ς3.set i (some (.pure x))) j = true ∧ free ((ς3.set i (some (.pure x))).set j (some (.pure y))) l = true) ∧ Q (.nx (((ς3.set i (some (.pure x))).set j (some (.pure y))).set l (some (.own false zs))))) := ⟨Sm.parL3⟩
end
end Sm
end Lw
namespace Lw
open PySem PySem.Spec PyProof.Rows L2
def g_p_brim_table : MS :=
  (sq (asgO 1 (lstE argN))
  (sq (asg (tupE (argV (cn (.int 0)) argN)) (tgN 2))
  (sq (forS (itS (cal1 gRev (vr 0))) (tgN 3) (sq (asg (op2 gAddA (tupE (argV (cn (.int 0)) argN)) (cal1 gTuple (lcE (itS (vr 2)) [4] (tgN 4) (ret true) (op2 gAddA (op2 gIx (vr 3) (cn (.int 1))) (vr 4))))) (tgN 2))
  (exS (mth hApp (vr 1) (argV (vr 2) argN)))))
  (retS (cal1 gTuple (cal1 gRev (vr 1)))))))
def m_p_brim_table : Fsem := runFn g_p_brim_table 5
def g_p_table_behind : MS :=
  (sq (asg (callE m_p_change_of (argV (vr 0) (argV (vr 2) argN))) (tgT 2 (tgsC (tgN 3) (tgsC (tgN 4) tgsN))))
  (sq (asgO 5 (lstE argN))
  (sq (asg (tupE (argV (cn (.int 0)) argN)) (tgN 6))
  (sq (forS (itRv2 (cn (.int 1)) (op2 gAddA (cal1 gLen (vr 0)) (cn (.int 1)))) (tgN 7) (sq (asg (ife (tst (op2 gLe (vr 7) (vr 3))) (vr 4) (cn (.int 0))) (tgN 8))
  (sq (asg (lcE (itS (op2 gIx (vr 1) (op2 gSubA (vr 7) (cn (.int 1))))) [10] (tgN 10) (ret true) (op2 gAddA (vr 10) (vr 8))) (tgN 9))
  (sq (asg (op2 gIx (op2 gIx (vr 0) (op2 gSubA (vr 7) (cn (.int 1)))) (cn (.int 1))) (tgN 11))
  (sq (asg (op2 gAddA (tupE (argV (op2 gIx (vr 9) (cn (.int 0))) argN)) (cal1 gTuple (lcE (itZ2 (slE (vr 9) (ptS (cn (.int 1))) ptN) (vr 6)) [10, 12] (tgT 2 (tgsC (tgN 10) (tgsC (tgN 12) tgsN))) (ret true) (op2 (g2I fun i j => if j < i then j else i) (vr 10) (op2 gAddA (vr 11) (vr 12)))))) (tgN 6))
  (exS (mth hApp (vr 5) (argV (vr 6) argN))))))))
  (retS (cal1 gTuple (cal1 gRev (vr 5))))))))
def m_p_table_behind : Fsem := runFn g_p_table_behind 13
def g_p_tables_along : MS :=
  (sq (asg (callE m_p_brim_table (argV (vr 0) argN)) (tgN 2))
  (sq (asgO 3 (lstE (argV (vr 2) argN)))
  (sq (forS (itS (vr 1)) (tgN 4) (sq (asg (callE m_p_table_behind (argV (vr 0) (argV (vr 2) (argV (vr 4) argN)))) (tgN 2))
  (exS (mth hApp (vr 3) (argV (vr 2) argN)))))
  (retS (vr 3)))))
def m_p_tables_along : Fsem := runFn g_p_tables_along 5
def g_p_table_of : MS :=
  (retS (op2 gIx (callE m_p_tables_along (argV (vr 0) (argV (vr 1) argN))) (negV (cn (.int 1)))))
def m_p_table_of : Fsem := runFn g_p_table_of 2
def g_p_led : MS :=
  (sq (asg (lstE (argX (vr 1) (argV (cn (.int 0)) argN))) (tgN 2))
  (retS (cal1 gTuple (lcE (itEn (vr 0)) [5, 6] (tgT 2 (tgsC (tgN 5) (tgsC (tgN 6) tgsN))) (ret true) (cal1 gMinK (lcE (itZ2 (vr 6) (slE (vr 2) (ptS (vr 5)) ptN)) [3, 4] (tgT 2 (tgsC (tgN 3) (tgsC (tgN 4) tgsN))) (ret true) (op2 gAddA (vr 3) (vr 4))))))))
def m_p_led : Fsem := runFn g_p_led 7
def g_p_totals_of : MS :=
  (sq (asgO 1 (lstE argN))
  (sq (asg (cn (.int 0)) (tgN 2))
  (sq (forS (itS (cal1 gRev (vr 0))) (tgN 3) (sq (augI 2 (fun i j => i + j) (vr 3))
  (exS (mth hApp (vr 1) (argV (vr 2) argN)))))
  (retS (cal1 gTuple (cal1 gRev (vr 1)))))))
def m_p_totals_of : Fsem := runFn g_p_totals_of 4
def g_p_levels_of : MS :=
  (sq (asg (lstE (argX (slE (vr 0) (ptS (cn (.int 1))) ptN) (argV (cn (.int 0)) argN))) (tgN 1))
  (retS (cal1 gTuple (lcE (itZ2 (vr 0) (vr 1)) [2, 3] (tgT 2 (tgsC (tgN 2) (tgsC (tgN 3) tgsN))) (ret true) (op2 gSubA (vr 2) (vr 3))))))
def m_p_levels_of : Fsem := runFn g_p_levels_of 4
def g_p_row_behind : MS :=
  (retS (cal1 gTuple (lcE (itR1 (cal1 gLen (vr 1))) [3] (tgN 3) (ret true) (cal1 gMinK (lcE (itR1 (op2 gAddA (vr 3) (cn (.int 1)))) [2] (tgN 2) (ret true) (op2 gAddA (op2 gIx (vr 1) (vr 2)) (op2 gIx (op2 gIx (vr 0) (vr 2)) (op2 gSubA (vr 3) (vr 2)))))))))
def m_p_row_behind : Fsem := runFn g_p_row_behind 4
def g_p_behind : MS :=
  (sq (asg (lstE (argX (vr 0) (argV (tupE (argV (cn (.int 0)) argN)) argN))) (tgN 2))
  (retS (cal1 gTuple (lcE (itEn (vr 1)) [3, 4] (tgT 2 (tgsC (tgN 3) (tgsC (tgN 4) tgsN))) (ret true) (callE m_p_row_behind (argV (slE (vr 2) (ptS (vr 3)) ptN) (argV (vr 4) argN)))))))
def m_p_behind : Fsem := runFn g_p_behind 5
end Lw
namespace Lw
open PySem PySem.Spec PyProof.Rows L2
section
variable {X : Cx} {a b c e tg : Expr} {es : List Expr} {fa fb fc f : M R} {pos p : Pos} {st : Stmt}
/-! ### i >> j, i & j, i.bit_length() -/
def gShr : D → D → Option R := gI (fun _ j => decide (0 ≤ j)) fun i j => .int (i / 2 ^ j.toNat)
theorem d_shr (ha : PEd X a fa) (hb : PEd X b fb) : PEd X (.BinOp a .RShift b pos) (op2 gShr fa fb) := d_op op_shr (fun _ => op2_I (fun i j h => of_decide_eq_true h) fun _ _ _ => .int _) ha hb
def gAnd : D → D → Option R := gI0 fun i j => .int (Builtin.bitAnd i j)
theorem d_bitand (ha : PEd X a fa) (hb : PEd X b fb) : PEd X (.BinOp a .BitAnd b pos) (op2 gAnd fa fb) := d_op op_and (fun _ => op2_I0 fun _ _ _ => .int _) ha hb
def gBits : D → Option R
  | .int i => some (.pure (.int (Builtin.Int.intBits i : Nat)))
  | _ => none
theorem d_bits {apos : Pos} (ha : PEd X a fa) (hbase : attributeBase a "bit_length" X.env (eval a X.env) = eval a X.env := by rfl) (hline : (apos.endLine == pos.line) = true := by rfl) : PEd X (.Call (.Attribute a "bit_length" apos) [] [] pos) (cal1 gBits fa) := fun F => PE.mono (L2.pe_bits (d_sub ha F) hbase hline) fun σ H Q hq => by
  obtain ⟨ς, G, rl, r, ς', e, k⟩ := hq
  obtain ⟨a, ς1, e1, q1⟩ := bd_some e
  obtain ⟨x, ς3, e3', q3⟩ := bd_some q1
  obtain ⟨e3, h3⟩ := rd_some e3'
  obtain ⟨e4, h4⟩ := lift_some q3
  subst h3 h4
  refine ⟨ς, G, rl, a, _, e1, fun v H1 G1 rl1 s1 rep1 => ?_⟩
  have rv := rdD_ok rl1 rep1 e3
  cases x with
  | int i => cases e4; exact ⟨i, rv.int, k _ H1 G1 rl1 s1 (.int _)⟩
  | _ => cases e4
theorem shr_ok {i : Int} {k : Nat} : gShr (.int i) (.int (k : Int)) = some (.pure (.int (i / 2 ^ k))) := by
  show (if decide (0 ≤ (k : Int)) = true then some (R.pure (.int (i / 2 ^ (k : Int).toNat))) else none) = _
  rw [if_pos (decide_eq_true (by omega)), Int.toNat_natCast]
theorem and1_ok {n : Nat} : gAnd (.int (n : Int)) (.int 1) = some (.pure (.int ((n % 2 : Nat) : Int))) := by
  have e : Builtin.bitAnd (n : Int) 1 = ((n % 2 : Nat) : Int) := by
    rw [PyProof.Rows.bitAnd_m1]
    omega
  show some (R.pure (.int (Builtin.bitAnd (n : Int) 1))) = _
  rw [e]
end
end Lw
namespace Lw
open PySem PySem.Spec PyProof.Rows L2
def g_p_doubles_of : MS :=
  (sq (asg (cal1 gTuple (lcE (itS (vr 0)) [3] (tgN 3) (ret true) (cal1 gTuple (vr 3)))) (tgN 2))
  (sq (asgO 4 (lstE (argV (vr 2) argN)))
  (sq (forS (itR1 (op2 gSubA (cal1 gBits (vr 1)) (cn (.int 1)))) (tgN 5) (sq (asg (callE m_p_behind (argV (vr 2) (argV (vr 2) argN))) (tgN 2))
  (exS (mth hApp (vr 4) (argV (vr 2) argN)))))
  (retS (vr 4)))))
def m_p_doubles_of : Fsem := runFn g_p_doubles_of 6
def g_p_doubles_in : MS :=
  (retS (lcE (itEn (vr 0)) [2, 3] (tgT 2 (tgsC (tgN 2) (tgsC (tgN 3) tgsN))) (tru (op2 gAnd (op2 gShr (vr 1) (vr 2)) (cn (.int 1)))) (vr 3)))
def m_p_doubles_in : Fsem := runFn g_p_doubles_in 4
def g_p_led_often : MS :=
  (sq (asg (cal1 gTuple (vr 1)) (tgN 3))
  (sq (forS (itS (callE m_p_doubles_in (argV (vr 0) (argV (vr 2) argN)))) (tgN 4) (asg (callE m_p_led (argV (vr 4) (argV (vr 3) argN))) (tgN 3)))
  (retS (vr 3))))
def m_p_led_often : Fsem := runFn g_p_led_often 5
def g_p_far_totals : MS :=
  (retS (callE m_p_led_often (argV (callE m_p_doubles_of (argV (callE m_p_table_of (argV (vr 0) (argV (vr 2) argN))) (argV (vr 3) argN))) (argV (callE m_p_totals_of (argV (vr 1) argN)) (argV (vr 3) argN)))))
def m_p_far_totals : Fsem := runFn g_p_far_totals 4
def g_p_far_levels : MS :=
  (retS (callE m_p_levels_of (argV (callE m_p_far_totals (argV (vr 0) (argV (vr 1) (argV (vr 2) (argV (vr 3) argN))))) argN)))
def m_p_far_levels : Fsem := runFn g_p_far_levels 4
def g_p_ran_over : MS :=
  (sq (asg (callE m_p_totals_of (argV (vr 1) argN)) (tgN 4))
  (sq (asg (callE m_p_far_totals (argV (vr 0) (argV (vr 1) (argV (vr 2) (argV (vr 3) argN))))) (tgN 5))
  (retS (cal1 gTuple (lcE (itZ3 (vr 4) (callE m_p_sums_of (argV (vr 0) (argV (vr 2) argN))) (vr 5)) [6, 7, 8] (tgT 3 (tgsC (tgN 6) (tgsC (tgN 7) (tgsC (tgN 8) tgsN)))) (ret true) (op2 gSubA (op2 gAddA (vr 6) (op2 gMulA (vr 7) (vr 3))) (vr 8)))))))
def m_p_ran_over : Fsem := runFn g_p_ran_over 9
end Lw
namespace Lw
open PySem PySem.Spec PyProof.Rows L2
theorem list_mulW (l : Addr) (items : Array Value) (n : Nat) (dd : Option Addr) (sl : Array (Option Value)) (x : Int) (u : Tok) (hc0 : ¬(!Builtin.List.listFitsIndex x) = true) (hc1 : ¬items.size * x.toNat > (2 ^ 63 - 1) / 8) (hc2 : ¬Builtin.List.listTooLong (items.size * x.toNat) = true) :
    Meets (Builtin.«list.__mul__» ⟨[.ref l, .int x u], []⟩) (fun _ R s => s.heap.get? l = some { cls := .type "list", dict := dd, data := .seq items n, slots := sl } ∧ R (.ok (.ret (Value.ref s.heap.objs.size))) { s with heap := s.heap.push { cls := Value.type "list", data := Data.seq (List.foldl (fun x1 x2 => x1 ++ x2) #[] (List.replicate (if items.isEmpty = true then 0 else x.toNat) items)) }, toks := s.toks }) :=
  .of_wp fun prog w A R s h => by
    obtain ⟨hp, g, d, tk, os⟩ := s; obtain ⟨hl, h⟩ := h
    have hsz := AutoListH.joined_fits hc2
    have f1 := AutoSeq1.idx_int
    wp_walk using wpAny_loadPart' hl
    refine wpAny_ite_false (decide_eq_false (Nat.not_lt.mpr hsz)) ?_
    wp_walk using wpAny_loadPart' hl
    exact ⟨_, rfl, h⟩
theorem int_rmulW (a : Int) (t : Tok) (l : Addr) (items : Array Value) (n : Nat) (dd : Option Addr) (sl : Array (Option Value)) :
    Meets (Builtin.«int.__rmul__» ⟨[.int a t, .ref l], []⟩) (fun _ R s => s.heap.get? l = some { cls := .type "list", dict := dd, data := .seq items n, slots := sl } ∧ R (.ok (.ret Value.notImplemented)) s) :=
  .of_wp fun prog w A R s h => by obtain ⟨hp, g, d, tk, os⟩ := s; obtain ⟨hl, h⟩ := h; wp_walk using wpAny_loadPart' hl; exact ⟨_, rfl, h⟩
section
variable {X : Cx} {F : Fx} {a b c e tg : Expr} {es : List Expr} {fa fb fc f : M R} {pos p : Pos} {st : Stmt}
/-! ### a list, so many times -/
def rRepV (K : PySem.W.Frag) : R2 := fun x y H Q => ∃ l k xs, x = .ref l ∧ y = .int k ∧ SqL K H l xs ∧ -(2 ^ 63) ≤ k ∧ k < 2 ^ 63 ∧ xs.length * k.toNat ≤ sizeLine ∧
  ∀ p, H p = none → Q (.ref p) (upd H p (.lst (List.replicate k.toNat xs).flatten))
theorem op_repV : OpR X (binaryOp .Mult) (rRepV X.K) := by
  intro pins s σ H x y v u Q I rx ry h
  obtain ⟨l, k, xs, rfl, rfl, hH, h1, h2, hz, q⟩ := h
  cases rx
  obtain ⟨t, rfl⟩ := ry
  obtain ⟨its, r, pl, _⟩ := I.list hH
  have hl := r.length
  obtain ⟨⟨cls, dd, data, sl⟩, e, hc, n, hd⟩ := pl.isList
  simp only at hc hd
  subst hc hd
  have hlen : its.toArray.size * k.toNat ≤ sizeLine := by rw [List.size_toArray, ← hl]; exact hz
  have hcap : ¬ its.toArray.size * k.toNat > (2 ^ 63 - 1) / 8 := by
    have : (sizeLine : Nat) ≤ (2 ^ 63 - 1) / 8 := by decide
    omega
  have hfit : ¬ (!Builtin.List.listFitsIndex k) = true := by
    rw [fitsIndex_both h1 h2]
    exact Bool.false_ne_true
  have hlong : ¬ Builtin.List.listTooLong (its.toArray.size * k.toNat) = true := by
    rw [notLongL hlen]
    exact Bool.false_ne_true
  have hnew : List.foldl (fun x1 x2 => x1 ++ x2) #[] (List.replicate (if its.toArray.isEmpty = true then 0 else k.toNat) its.toArray) = (List.replicate k.toNat its).flatten.toArray := by
    have f0 : ∀ m : Nat, List.foldl (fun x1 x2 => x1 ++ x2) #[] (List.replicate m its.toArray) = (List.replicate m its).flatten.toArray := fun m => by
      have := foldl_rep its m []
      rw [List.nil_append] at this
      exact this
    rw [f0]
    cases its with
    | nil => simp
    | cons a r' => rw [if_neg (by simp)]
  refine wpAny_binaryOp_repeat_ref (T := "list") (U := "int") (by decide) ⟨_, e, rfl⟩ (fun s' => typeIs_int s' k t) noFill_list_mul F.fills_int_mul F.slot_int_rmul repeat_list F.slot_int_index.lookup
    (call_meets F.slot_int_rmul (typeIs_int s k t) F.entry_int_rmul (F.args_int_rmul_2 _ _) (int_rmulW k t l its.toArray n dd sl)
      ⟨e, rfl, ⟨_, e, rfl⟩, call_meets F.slot_list_mul ⟨_, e, rfl⟩ F.entry_list_mul (F.args_list_mul_2 _ _) (list_mulW l its.toArray n dd sl k t hfit hcap hlong) ⟨e, ?_⟩⟩)
  rw [hnew]
  exact ⟨.ref _, _, I.lnew (t' := s.toks) (r.rep k.toNat) (by rw [PyProof.Rows.lm_len_rep_flat, Nat.mul_comm]; exact hz), rfl, q _ I.fresh⟩
def gRepL : D → D → Option R
  | .list ds, .int n => if 0 ≤ n ∧ ds.length * n.toNat ≤ 1000000 ∧ n ≤ 1000000 then some (.fresh (List.replicate n.toNat ds).flatten) else none
  | _, _ => none
theorem op2_repL : Op2 X F (rRepV X.K) gRepL := ⟨fun ς G σ H x y dx dy r Q rl hx hy e k => by
  cases dx with
  | list ds =>
    cases dy with
    | int n =>
      replace e : (if 0 ≤ n ∧ ds.length * n.toNat ≤ 1000000 ∧ n ≤ 1000000 then some (R.fresh (List.replicate n.toNat ds).flatten) else none) = some r := e
      by_cases q : 0 ≤ n ∧ ds.length * n.toNat ≤ 1000000 ∧ n ≤ 1000000
      · rw [if_pos q] at e
        cases e
        obtain ⟨p, vs, rfl, h1, h2⟩ := hx.list rl.sub
        have hl := dpa_len h2
        have hs : sizeLine = 16777216 := rfl
        refine ⟨p, n, vs, rfl, hy.int, h1, by omega, by omega, by rw [hl]; omega, fun z hz => ?_⟩
        exact k _ _ G (rl.layF hz) (Same.refl _) (rl.repF hz (dpa_rep n.toNat h2))
      · rw [if_neg q] at e; cases e
    | _ => cases e
  | _ => cases e⟩
def gMulV : D → D → Option R := orG gMulA gRepL
theorem d_mulV (ha : PEd X a fa) (hb : PEd X b fb) : PEd X (.BinOp a .Mult b pos) (op2 gMulV fa fb) := d_op ((op_mul.or (op_repT.or op_repT1)).or op_repV) (fun _ => Op2.or (Op2.or op2_mulI (Op2.or op2_repT op2_repT1)) op2_repL) ha hb
theorem repL_ok {ds : List D} {n : Nat} (h : ds.length * n ≤ 1000000 ∧ n ≤ 1000000) : gMulV (.list ds) (.int (n : Int)) = some (.fresh (List.replicate n ds).flatten) := by
  show (if 0 ≤ (n : Int) ∧ ds.length * (n : Int).toNat ≤ 1000000 ∧ (n : Int) ≤ 1000000 then some (R.fresh (List.replicate (n : Int).toNat ds).flatten) else none) = _
  rw [if_pos (by rw [Int.toNat_natCast]; omega), Int.toNat_natCast]
end
end Lw
namespace Lw
open PySem PySem.Spec PyProof.Rows L2
/-! ### while -/
def whileL (tt : M Bool) (g : MS) : Nat → En → Option Out
  | 0, _ => none
  | n + 1, ς => match tt ς with
    | some (true, ς1) => match g ς1 with
      | some (.nx ς2) => whileL tt g n ς2
      | some (.ct ς2) => whileL tt g n ς2
      | some (.bk ς2) => some (.nx ς2)
      | some (.rt r ς2) => some (.rt r ς2)
      | none => none
    | some (false, ς1) => some (.nx ς1)
    | none => none
def whileN : Nat := 1000000000
def whileS (tt : M Bool) (g : MS) : MS := whileL tt g whileN
section
variable {X : Cx} {a b c e tg : Expr} {es : List Expr} {fa fb fc f fe : M R} {ta : M Bool} {pos p p1 p2 p3 : Pos} {x : Str} {st : Stmt} {sts rest : List Stmt} {g g1 g2 : MS}
theorem s_while (hp : PassesOwn (model X.prog X.w) X.A X.env X.xe) (hc : PTd X c ta) (hb : PSsd X sts g) : PSd X (.While c sts [] pos) (whileS ta g) := fun F =>
  PS.mono (ps_while hp (hc F) (hb F)) fun D σ H hq => by
    obtain ⟨ς, G, rl, o, e, k⟩ := hq
    refine ⟨fun m σ' H' => ∃ ς' G' o', Rel X.K F ς' G' σ' H' ∧ whileL ta g m ς' = some o' ∧ EndsOk X.K F G' D o', ⟨whileN, ς, G, o, rl, e, k⟩, ?_⟩
    rintro m σ' H' ⟨ς', G', o', rl', e', k'⟩
    cases m with
    | zero => cases e'
    | succ m =>
      rw [whileL] at e'
      split at e'
      · rename_i ς1 q
        refine ⟨ς', G', rl', true, ς1, q, fun H1 G1 rl1 s1 => iteT ?_⟩
        refine ⟨fun σ2 H2 => ∃ ς2 G2 o2, Rel X.K F ς2 G2 σ2 H2 ∧ whileL ta g m ς2 = some o2 ∧ EndsOk X.K F G2 D o2, fun σ2 H2 h => ⟨m, by omega, h⟩, ?_⟩
        split at e'
        · rename_i ς4 q4
          exact ⟨ς1, G1, rl1, _, q4, fun σ5 H5 G5 rl5 s5 => ⟨ς4, G5, o', rl5, e', k'.mono (s1.trans s5)⟩⟩
        · rename_i ς4 q4
          exact ⟨ς1, G1, rl1, _, q4, fun σ5 H5 G5 rl5 s5 => ⟨ς4, G5, o', rl5, e', k'.mono (s1.trans s5)⟩⟩
        · rename_i ς4 q4
          cases e'
          exact ⟨ς1, G1, rl1, _, q4, fun σ5 H5 G5 rl5 s5 => k' σ5 H5 G5 rl5 (s1.trans s5)⟩
        · rename_i r ς4 q4
          cases e'
          exact ⟨ς1, G1, rl1, _, q4, fun v σ5 H5 G5 rl5 s5 rep => k' v σ5 H5 G5 rl5 (s1.trans s5) rep⟩
        · cases e'
      · rename_i ς1 q
        cases e'
        exact ⟨ς', G', rl', false, ς1, q, fun H1 G1 rl1 s1 => iteF (k' σ' H1 G1 rl1 s1)⟩
      · cases e'
end
def Wq (I : Nat → En → Prop) (m : Nat) (Q : Out → Prop) : Out → Prop
  | .nx ς2 => ∃ m', m' < m ∧ I m' ς2
  | .ct ς2 => ∃ m', m' < m ∧ I m' ς2
  | .bk ς2 => Q (.nx ς2)
  | .rt r ς2 => Q (.rt r ς2)
theorem Sm.whileInv {ς : En} {tt : M Bool} {g : MS} {Q : Out → Prop} (I : Nat → En → Prop) {m0 : Nat} (h0 : I m0 ς) (hm : m0 < 1000000000)
    (hs : ∀ m ς, I m ς → wp tt ς fun b ς1 => if b = true then wps g ς1 (Wq I m Q) else Q (.nx ς1)) : wps (whileS tt g) ς Q := by
  have main : ∀ (n m : Nat) (ς : En), m < n → I m ς → wps (whileL tt g n) ς Q := by
    intro n
    induction n with
    | zero => intro m ς h; omega
    | succ n ih =>
      intro m ς h hI
      obtain ⟨b, ς1, e1, k⟩ := hs m ς hI
      cases b with
      | false =>
        rw [if_neg (by decide)] at k
        exact ⟨_, by rw [whileL, e1], k⟩
      | true =>
        rw [if_pos rfl] at k
        obtain ⟨o, e2, k⟩ := k
        cases o with
        | nx ς2 =>
          obtain ⟨m', hm', hI'⟩ := k
          obtain ⟨o2, e3, q⟩ := ih m' ς2 (by omega) hI'
          exact ⟨o2, by rw [whileL, e1]; simp only [e2]; exact e3, q⟩
        | ct ς2 =>
          obtain ⟨m', hm', hI'⟩ := k
          obtain ⟨o2, e3, q⟩ := ih m' ς2 (by omega) hI'
          exact ⟨o2, by rw [whileL, e1]; simp only [e2]; exact e3, q⟩
        | bk ς2 => exact ⟨_, by rw [whileL, e1]; simp only [e2], k⟩
        | rt r ς2 => exact ⟨_, by rw [whileL, e1]; simp only [e2], k⟩
  exact main whileN m0 ς hm h0
/-! ### two generators -/
theorem wipe_wipe (σ : L2.St) : ∀ us : List Nat, wipe (wipe σ us) us = wipe σ us
  | [] => rfl
  | u :: us => by
    show (wipe ((wipe σ us).set u none) us).set u none = (wipe σ us).set u none
    rw [wipe_comm1, List.set_set, wipe_wipe σ us]
theorem wipeE_own {ς : En} {n : Nat} {b : Bool} {es : List D} : ∀ us : List Nat, (wipeE ς us)[n]? = some (some (.own b es)) → ς[n]? = some (some (.own b es))
  | [], h => h
  | u :: us, h => by
    have h' : ((wipeE ς us).set u none)[n]? = some (some (.own b es)) := h
    replace h' := get_set h'; rcases h' with ⟨rfl, h'⟩ | ⟨_, h'⟩
    · cases h'
    · exact wipeE_own us h'
section
variable {K : PySem.W.Frag} {F : Fx} {L : Addr} {ς ς' : En} {G G' : Hp} {σ σ' : L2.St} {H H' : Hp} {acc : List D}
/-- the list that a comprehension fills, nobody's yet -/
structure LcI (K : PySem.W.Frag) (F : Fx) (L : Addr) (ς : En) (G : Hp) (σ : L2.St) (H : Hp) (acc : List D) : Prop where
  rel : Rel K F ς G σ H
  h0 : F.H0 L = none
  gn : G L = none
  ns : ∀ (n : Nat) b es, ς[n]? = some (some (.own b es)) → σ[n]? ≠ some (some (.ref L))
  ac : ∃ accV, H L = some (.lst accV) ∧ DpAll K G accV acc
theorem LcI.step (h : LcI K F L ς G σ H acc) (r : Rel K (F.now ς G σ H) ς' G' σ' H') (s : Same G G') : LcI K F L ς' G' σ' H' acc := by
  obtain ⟨accV, e, d⟩ := h.ac
  obtain ⟨k1, k2, k3⟩ := h.rel.keepF r e h.gn h.ns
  exact ⟨h.rel.back r, h.h0, k2, k3, accV, k1, dpa_same s d⟩
theorem LcI.wiped (h : LcI K F L ς G σ H acc) (vs : List Nat) (hf : freeAll ς vs = true) : LcI K F L (wipeE ς vs) G (wipe σ vs) H acc :=
  ⟨h.rel.wiped vs hf, h.h0, h.gn, fun n b es z1 z2 => h.ns n b es (wipeE_own vs z1) (wipe_some z2).1, h.ac⟩
theorem LcI.push (h : LcI K F L ς G σ H acc) {accV : List V} {u : V} {y : D} (e : H L = some (.lst accV)) (d : DpAll K G accV acc) (dp : Dp K G u y) : LcI K F L ς G σ (upd H L (.lst (accV ++ [u]))) (acc ++ [y]) :=
  ⟨h.rel.touch h.gn h.h0 h.ns, h.h0, h.gn, h.ns, _, upd_same, dpa_app d (.cons dp .nil)⟩
end
end Lw
namespace Lw
open PySem PySem.Spec PyProof.Rows L2
end Lw
namespace Lw
open PySem PySem.Spec PyProof.Rows L2
end Lw
namespace Lw
open PySem PySem.Spec PyProof.Rows L2
/-! ### min(xs, default = e) -/
def isNon : D → Bool
  | .none => true
  | _ => false
def alikeB (ds : List D) : Bool := ds.all (fun x => ds.all (PySem.W.alike x)) && ds.all fun x => !isNon x
theorem alikeB_all {ds : List D} (h : alikeB ds = true) : PySem.W.AlikeAll ds := by
  unfold alikeB at h
  rw [Bool.and_eq_true] at h
  refine ⟨fun x hx y hy => List.all_eq_true.1 (List.all_eq_true.1 h.1 x hx) y hy, fun x hx q => ?_⟩
  have := List.all_eq_true.1 h.2 x hx
  rw [q] at this
  cases this
def gMinD : D → D → Option R
  | .list ds, .none => if alikeB ds = true ∧ PyData.depthAll ds ≤ 60 then match ds with
      | [] => some (.pure .none)
      | y :: ys => some (.pure (PySem.W.minD y ys))
    else none
  | _, _ => none
section
variable {X : Cx} {a b c e o tg : Expr} {es : List Expr} {fa fb fc f fo : M R} {pos p apos cpos kpos : Pos} {st : Stmt}
def rMinD (K : PySem.W.Frag) : List V → List V → Hp → VK → Prop := fun xs zs H Q => ∃ (a : Addr) (vs : List V) (ds : List D) (v0 : V), xs = [.ref a] ∧ zs = [v0] ∧ SqL K H a vs ∧ DpAll K H vs ds ∧ alikeB ds = true ∧ PyData.depthAll ds ≤ 60 ∧ (ds = [] → Q v0 H) ∧ ∀ y ys, ds = y :: ys → ∀ (v : V) (i : Nat), vs[i]? = some v → ds[i]? = some (PySem.W.minD y ys) → Q v H
theorem best_at {pins : List (Addr × Obj)} {σ : L2.St} {H : Hp} {s : Shared} {Q : VK} {xs : List V} {ds : List D} {its : List Value} {b : D} {i : Nat} {v : Value} {h' : Heap} {tk : Nat} {bs : List Addr} (I : Inv X pins σ H s) (hd : DpAll X.K H xs ds) (rv : Vals xs its) (e : its.toArray[i]? = some v) (hr : Reads h' v b bs) (hk : ∀ b o, s.heap.get? b = some o → h'.get? b = some o) (q : ∀ (v : V) (i : Nat), xs[i]? = some v → ds[i]? = some b → Q v H) :
    ∃ x H', Inv X pins σ H' { s with heap := h', toks := tk } ∧ RelV x v ∧ Q x H' := by
  have e' : its[i]? = some v := by simpa using e
  have hl := rv.length
  have hi : i < xs.length := by rw [hl]; exact (List.getElem?_eq_some_iff.mp e').1
  obtain ⟨u, e2, ru⟩ := rv.get (List.getElem?_eq_getElem hi)
  rw [e'] at e2
  cases e2
  obtain ⟨d, f1, f2⟩ := dpa_getV hd (List.getElem?_eq_getElem hi)
  obtain ⟨as, rd⟩ := Dp.reads I d _ _ f2 ru
  obtain ⟨z, _⟩ := PyProof.Rows.reads_det (fun b o e _ => hk b o e) rd hr
  subst z
  exact ⟨_, H, I.kept hk, ru, q _ i (List.getElem?_eq_getElem hi) f1⟩
theorem cr_minD (hc : X.calm = true) (hu : X.A.units + 64 < cLine - 1) : CallRK X (.builtin "min") [Str.ofString "default"] (rMinD X.K) := by
  intro pins s σ H xs zs us ws Q I r1 r2 h
  obtain ⟨a, vs, ds, v0, rfl, rfl, hs, hd, ha, hdp, q0, q1⟩ := h
  rw [Vals.ref1 r1]
  obtain ⟨w0, rfl, ru⟩ := r2.one
  obtain ⟨its, rv, hl, _⟩ := I.list hs
  obtain ⟨as, rs⟩ := Dp.readsAll I ds vs its hd rv
  refine PySem.W.min_list_default (I.ok.hd hc) hl.isList rs (alikeB_all ha) (by omega) ?_ ?_
  · intro e0 h' tk hk
    exact ⟨v0, H, I.kept hk, ru, q0 e0⟩
  · intro y ys i v h' tk bs e0 e hr hk
    exact best_at I hd rv e hr hk (q1 y ys e0)
theorem d_minD (hc : X.calm = true) (hu : X.A.units + 64 < cLine - 1) (hg : Gl X "min") (hm : X.mg "min" = none) (ha : PEd X a fa) (hb : PEd X b fb)
    (he : backTo pos (starEach [a] X.env) = (false, eval a X.env) :: backTo pos (starEach [] X.env) := by rfl) (hpl : (backTo pos (starEach [a] X.env)).any (·.1) = false := by rfl) (hs : starEach [a] X.env = (false, eval a X.env) :: starEach [] X.env := by rfl)
    (hall : (backToKw pos (keywordEach [⟨some "default", b, kpos⟩] X.env)).all (·.1.isSome) = true := by rfl) (hnone : (backToKw pos (keywordEach [⟨some "default", b, kpos⟩] X.env)).any (·.1.isNone) = false := by rfl) (hks : (backToKw pos (keywordEach [⟨some "default", b, kpos⟩] X.env)).filterMap (·.1) = [Str.ofString "default"] := by rfl) :
    PEd X (.Call (.Name "min" p) [a] [⟨some "default", b, kpos⟩] pos) (op2 gMinD fa fb) := fun F =>
  PE.mono (pe_callBK (cr_minD hc hu) hg hm (by decide +kernel) (pa_cons (d_sub ha F) pa_nil hs) (pk_cons (d_sub hb F) pk_nil) (by decide) (by decide) he hpl hall hnone hks) fun σ H Q hq => by
    obtain ⟨ς, G, rl, r, ς', e, k⟩ := hq
    obtain ⟨a, ς1, e1, q1⟩ := bd_some e
    obtain ⟨b, ς2, e2, q2⟩ := bd_some q1
    obtain ⟨x, ς3, e3', q3⟩ := bd_some q2
    obtain ⟨e3, rfl⟩ := rd_some e3'
    obtain ⟨y, ς4, e4', q4⟩ := bd_some q3
    obtain ⟨e4, rfl⟩ := rd_some e4'
    obtain ⟨e5, rfl⟩ := lift_some q4
    refine ⟨ς, G, rl, a, ς1, e1, fun v H1 G1 rl1 s1 rep1 => ⟨ς1, G1, rl1, b, ς', e2, fun w H2 G2 rl2 s2 rep2 => ?_⟩⟩
    have rep1' : RepR X.K F ς' G2 σ H2 a v := rep_keep rep1 (sub_nf e1) s2
    have rx := rdD_ok rl2 rep1' e3
    have ry := rdD_ok rl2 rep2 e4
    cases x with
    | list ds =>
      cases y with
      | none =>
        replace e5 : (if alikeB ds = true ∧ PyData.depthAll ds ≤ 60 then (match ds with | [] => some (R.pure .none) | z :: zs => some (R.pure (PySem.W.minD z zs))) else none) = some r := e5
        by_cases q : alikeB ds = true ∧ PyData.depthAll ds ≤ 60
        · rw [if_pos q] at e5
          obtain ⟨p, vs, rfl, h1, h2⟩ := rx.list rl2.sub
          have hw := ry.none
          subst hw
          refine ⟨p, vs, ds, .non, rfl, rfl, h1, dpa_same rl2.sub h2, q.1, q.2, fun e0 => ?_, fun y ys e0 v i hv hi => ?_⟩
          · subst e0
            cases e5
            exact k _ H2 G2 rl2 (s1.trans s2) .non
          · subst e0
            cases e5
            obtain ⟨d, hd1, hd2⟩ := dpa_getV h2 hv
            rw [hi] at hd1
            cases hd1
            exact k _ H2 G2 rl2 (s1.trans s2) hd2
        · rw [if_neg q] at e5; cases e5
      | _ => cases e5
    | _ => cases e5
end
end Lw
namespace Lw
open PySem PySem.Spec PyProof.Rows L2
/-! ### a list of lists of one's own, in one slot -/
def NoOwn (ς : En) (σ : L2.St) (x : Addr) : Prop := ∀ (n : Nat) b es, ς[n]? = some (some (.own b es)) → σ[n]? ≠ some (some (.ref x))
structure Priv (F : Fx) (ς : En) (G : Hp) (σ : L2.St) (x : Addr) : Prop where
  g : G x = none
  h0 : F.H0 x = none
  no : NoOwn ς σ x
structure Nest (K : PySem.W.Frag) (F : Fx) (i : Nat) (ς : En) (G : Hp) (σ : L2.St) (H : Hp) (a : Addr) (as : List Addr) (dss : List (List D)) : Prop where
  rel : Rel K F ς G σ H
  sg : σ[i]? = some (some (.ref a))
  ha : H a = some (.lst (as.map V.ref))
  pa : Priv F ς G σ a
  na : a ∉ as
  nd : as.Nodup
  len : as.length = dss.length
  inn : ∀ (k : Nat) b ds, as[k]? = some b → dss[k]? = some ds → ∃ vs, H b = some (.lst vs) ∧ Priv F ς G σ b ∧ DpAll K G vs ds
section
variable {K : PySem.W.Frag} {F : Fx} {i : Nat} {ς ς' : En} {G G' : Hp} {σ σ' : L2.St} {H H' : Hp} {a : Addr} {as : List Addr} {dss : List (List D)}
theorem Nest.step (h : Nest K F i ς G σ H a as dss) (r : Rel K (F.now ς G σ H) ς' G' σ' H') (s : Same G G') (e1 : σ'[i]? = σ[i]?) : Nest K F i ς' G' σ' H' a as dss := by
  have ka := h.rel.keepF r h.ha h.pa.g h.pa.no
  refine ⟨h.rel.back r, e1.trans h.sg, ka.1, ⟨ka.2.1, h.pa.h0, ka.2.2⟩, h.na, h.nd, h.len, fun k b ds h1 h2 => ?_⟩
  obtain ⟨vs, u1, u2, u3⟩ := h.inn k b ds h1 h2
  have kb := h.rel.keepF r u1 u2.g u2.no
  exact ⟨vs, kb.1, ⟨kb.2.1, u2.h0, kb.2.2⟩, dpa_same s u3⟩
theorem nodup_ix {α : Type} : ∀ {l : List α} {i j : Nat} {x : α}, l.Nodup → l[i]? = some x → l[j]? = some x → i = j
  | [], i, j, x, _, h, _ => by simp at h
  | y :: l, 0, 0, x, _, _, _ => rfl
  | y :: l, 0, j + 1, x, nd, h1, h2 => by
    have h1 : some y = some x := h1
    cases h1
    exact absurd (List.mem_of_getElem? (l := l) (i := j) h2) (List.nodup_cons.1 nd).1
  | y :: l, i + 1, 0, x, nd, h1, h2 => by
    have h2 : some y = some x := h2
    cases h2
    exact absurd (List.mem_of_getElem? (l := l) (i := i) h1) (List.nodup_cons.1 nd).1
  | y :: l, i + 1, j + 1, x, nd, h1, h2 => congrArg (· + 1) (nodup_ix (List.nodup_cons.1 nd).2 h1 h2)
theorem Nest.push (h : Nest K F i ς G σ H a as dss) {k : Nat} {b : Addr} {ds : List D} {vs : List V} {u : V} {d : D} (h1 : as[k]? = some b) (h2 : dss[k]? = some ds) (hv : H b = some (.lst vs)) (dp : Dp K G u d) : Nest K F i ς G σ (upd H b (.lst (vs ++ [u]))) a as (dss.set k (ds ++ [d])) := by
  have hm := List.mem_of_getElem? h1
  have hab : a ≠ b := fun e => h.na (e ▸ hm)
  obtain ⟨vs', w1, w2, w3⟩ := h.inn k b ds h1 h2
  rw [hv] at w1
  cases w1
  refine ⟨h.rel.touch w2.g w2.h0 w2.no, h.sg, by rw [upd_ne hab]; exact h.ha, h.pa, h.na, h.nd, by rw [List.length_set]; exact h.len, fun k' b' ds' q1 q2 => ?_⟩
  by_cases e : k' = k
  · subst e
    rw [h1] at q1
    cases q1
    have hk : k' < dss.length := (List.getElem?_eq_some_iff.mp h2).1
    rw [List.getElem?_set_self hk] at q2
    cases q2
    exact ⟨_, upd_same, w2, dpa_app w3 (.cons dp .nil)⟩
  · rw [List.getElem?_set_ne (fun z => e z.symm)] at q2
    obtain ⟨ws, x1, x2, x3⟩ := h.inn k' b' ds' q1 q2
    have hbb : b' ≠ b := fun z => e (nodup_ix h.nd (z ▸ q1) h1)
    exact ⟨ws, by rw [upd_ne hbb]; exact x1, x2, x3⟩
theorem Rel.frzX (r : Rel K F ς G σ H) {b : Addr} {vs : List V} {ds : List D} (h1 : H b = some (.lst vs)) (h2 : G b = none) (h3 : DpAll K G vs ds) (h4 : F.H0 b = none) (h5 : NoOwn ς σ b) : Rel K F ς (upd G b (.lst vs)) σ H ∧ Dp K (upd G b (.lst vs)) (.ref b) (.list ds) := by
  refine ⟨⟨r.len, ?_, r.g0.trans (same_upd h2), ?_, ?_, r.ap, r.par, r.fr, ?_⟩, .lst (.inl (.inl upd_same)) (dpa_same (same_upd h2) h3)⟩
  · intro c x e
    by_cases hb : c = b
    · subst hb; rw [upd_same] at e; rw [h1, e]
    · rw [upd_ne hb] at e; exact r.sub _ _ e
  · intro i d e
    obtain ⟨v, e1, e2⟩ := r.pu i d e
    exact ⟨v, e1, dp_same (same_upd h2) e2⟩
  · intro i b' es e
    obtain ⟨c, ws, e1, e2, e3, e4, e5⟩ := r.ow i b' es e
    have ne : c ≠ b := fun z => by subst z; exact h5 i b' es e e1
    exact ⟨c, ws, e1, e2, by rw [upd_ne ne]; exact e3, dpa_same (same_upd h2) e4, e5⟩
  · intro c e
    by_cases hc : c = b
    · subst hc; exact .inr h4
    · rw [upd_ne hc] at e; exact r.nw c e
/-- all are data from now on -/
theorem Nest.frz (h : Nest K F i ς G σ H a as dss) : ∃ G', Rel K F ς G' σ H ∧ Same G G' ∧ RepR K F ς G' σ H (.fresh (dss.map PyData.list)) (.ref a) := by
  have main : ∀ k, k ≤ as.length → ∃ G', Rel K F ς G' σ H ∧ Same G G' ∧ G' a = none ∧ (∀ b ∈ as.drop k, G' b = none) ∧ DpAll K G' ((as.take k).map V.ref) ((dss.take k).map PyData.list) := by
    intro k
    induction k with
    | zero => intro _; exact ⟨G, h.rel, Same.refl _, h.pa.g, fun b hb => by
        obtain ⟨j, hj⟩ := List.mem_iff_getElem?.1 hb
        rw [List.drop_zero] at hj
        have hjl : j < dss.length := by have := (List.getElem?_eq_some_iff.mp hj).1; have := h.len; omega
        obtain ⟨vs, _, p, _⟩ := h.inn j b _ hj (List.getElem?_eq_getElem hjl)
        exact p.g, .nil⟩
    | succ k ih =>
      intro hk
      obtain ⟨G1, r1, s1, ga, gd, dp⟩ := ih (by omega)
      have hkl : k < as.length := by omega
      have hkd : k < dss.length := by have := h.len; omega
      have hak := List.getElem?_eq_getElem hkl
      obtain ⟨vs, u1, u2, u3⟩ := h.inn k as[k] dss[k] hak (List.getElem?_eq_getElem hkd)
      have hdr : as.drop k = as[k] :: as.drop (k + 1) := List.drop_eq_getElem_cons hkl
      have gk : G1 as[k] = none := gd _ (hdr ▸ List.mem_cons_self)
      obtain ⟨r2, d2⟩ := r1.frzX u1 gk (dpa_same s1 u3) u2.h0 u2.no
      have hnd : as[k] ∉ as.drop (k + 1) := by
        have := (h.nd.sublist (List.drop_sublist k as))
        rw [hdr] at this
        exact (List.nodup_cons.1 this).1
      have s2 : Same G1 (upd G1 as[k] (.lst vs)) := same_upd gk
      have hak2 : a ≠ as[k] := fun e => h.na (e ▸ List.getElem_mem hkl)
      refine ⟨_, r2, s1.trans s2, by rw [upd_ne hak2]; exact ga, fun b hb => ?_, ?_⟩
      · have : b ≠ as[k] := fun e => hnd (e ▸ hb)
        rw [upd_ne this]
        exact gd b (by rw [hdr]; exact List.mem_cons_of_mem _ hb)
      · rw [List.take_add_one, hak, List.take_add_one, List.getElem?_eq_getElem hkd, List.map_append, List.map_append]
        exact dpa_app (dpa_same s2 dp) (.cons d2 .nil)
  obtain ⟨G1, r1, s1, ga, _, dp⟩ := main as.length (Nat.le_refl _)
  rw [List.take_length, h.len, List.take_length] at dp
  exact ⟨G1, r1, s1, a, as.map V.ref, rfl, h.ha, ga, dp, h.pa.h0, h.pa.no⟩
/-! ### statements over it -/
abbrev MN := En → List (List D) → Option (En × List (List D))
def tN (K : PySem.W.Frag) (F : Fx) (i : Nat) (g : MN) : TS := fun D σ H => ∃ ς G a as dss, Nest K F i ς G σ H a as dss ∧ ∃ ς' dss', g ς dss = some (ς', dss') ∧ ∀ σ' H' G', Nest K F i ς' G' σ' H' a as dss' → Same G G' → D.nx σ' H'
def ixI (f : M R) : M Int := bd (sub f) fun r => bd (rd r) fun d => lift (match d with | .int j => some j | _ => none)
/-- xs[i].append(e) -/
def napp (fi fx : M R) : MN := fun ς dss => match ixI fi ς with
  | some (j, ς1) => match esc fx ς1 with
    | some (x, ς2) => match ixN dss.length j with
      | some k => match dss[k]? with
        | some ds => if ds.length < sizeLine then some (ς2, dss.set k (ds ++ [x])) else none
        | none => none
      | none => none
    | none => none
  | none => none
def nloop (t : Tg) (gb : MN) : List D → MN
  | [], ς, dss => some (ς, dss)
  | d :: ds, ς, dss => match t d ς with
    | some ς1 => match gb ς1 dss with
      | some (ς2, dss2) => nloop t gb ds ς2 dss2
      | none => none
    | none => none
def nfor (fi : M (List D)) (t : Tg) (gb : MN) : MN := fun ς dss => match fi ς with
  | some (ds, ς1) => nloop t gb ds ς1 dss
  | none => none
end
section
variable {X : Cx} {tg it arg ix o e : Expr} {sts : List Stmt} {pos p0 p1 p2 : Pos} {x : Str} {fi fx : M R} {i : Nat} {gb : MN}
theorem s_napp (hx : PE X (.Name x p0) (tVar i)) (hix : PEd X ix fi) (harg : PEd X arg fx) (hsx : PlainIx ix := by exact fun _ _ => rfl) (hp : ∀ (to : TE) (t : TA), PE X (.Subscript (.Name x p0) ix p1) to → PA X [arg] t → PE X e (tBM X.K "list" rAppend to t))
    (hst : starEach [arg] X.env = (false, eval arg X.env) :: starEach [] X.env := by rfl) (hs : swapsWith e none pos.line X.env = pure false := by rfl) : ∀ F, PS X (.Expr e pos) (tN X.K F i (napp fi fx)) := fun F => by
  refine PS.mono (ps_expr (hp _ _ (pe_ix ix_list hx (PEd.ex (d_sub hix)) hsx) (pa_cons (PDd.ex (d_esc harg)) pa_nil hst)) hs) fun D σ H hq => ?_
  obtain ⟨ς, G, a, as, dss, hN, ς', dss', e, k⟩ := hq
  unfold napp at e
  split at e
  · rename_i j ς1 q1
    split at e
    · rename_i xv ς2 q2
      split at e
      · rename_i kk q3
        split at e
        · rename_i ds q4
          split at e
          · rename_i hlen
            cases e
            obtain ⟨r1, ςa, e1, qa⟩ := bd_some q1
            obtain ⟨d, ςb, e2', qb⟩ := bd_some qa
            obtain ⟨e2, rfl⟩ := rd_some e2'
            obtain ⟨e3, rfl⟩ := lift_some qb
            have hd : d = .int j := by
              cases d with
              | int z => cases e3; rfl
              | _ => cases e3
            subst hd
            refine ⟨.ref a, hN.sg, ?_⟩
            refine ⟨F.now ς G σ H, ς, G, hN.rel.now, r1, ς1, e1, fun y H1 G1 rl1 s1 rep1 => ?_⟩
            have hy := (rdD_ok rl1 rep1 e2).int
            subst hy
            have h1 := hN.step rl1 s1 rfl
            have hkk : kk < as.length := by rw [hN.len]; exact (List.getElem?_eq_some_iff.mp q4).1
            have hb := List.getElem?_eq_getElem hkk
            obtain ⟨vs, u1, u2, u3⟩ := h1.inn kk _ ds hb q4
            refine ⟨a, as.map V.ref, j, .ref as[kk], rfl, rfl, SqL.of h1.ha, ?_, ?_⟩
            · unfold atI
              rw [List.length_map, h1.len, q3]
              show (as.map V.ref)[kk]? = _
              rw [List.getElem?_map, hb]
              rfl
            · refine ⟨.inl ⟨rfl, vs, SqL.of u1⟩, ?_⟩
              refine ⟨F.now ς G σ H, ς1, G1, rl1, xv, ς', q2, fun u H2 G2 rl2 s2 dp2 => ?_⟩
              have h2 := hN.step rl2 (s1.trans s2) rfl
              obtain ⟨vs2, w1, w2, w3⟩ := h2.inn kk _ ds hb q4
              exact ⟨as[kk], vs2, u, rfl, rfl, w1, by rw [dpa_len w3]; exact hlen, k σ _ G2 (h2.push hb q4 w1 dp2) (s1.trans s2)⟩
          · cases e
        · cases e
      · cases e
    · cases e
  · cases e
theorem s_nfor {fl : M (List D)} {t : Tg} {vs : List Nat} (hp : PassesOwn (model X.prog X.w) X.A X.env X.xe) (hc : X.calm = true) (hi : PId X tg it fl) (hg : PGd X tg vs t) (hv : i ∉ vs) (hb : ∀ F, PSs X sts (tN X.K F i gb)) (hs : ∀ x, foldedSetIterable it X.env x = pure x := by intro _; rfl) : ∀ F, PS X (.For tg it sts [] pos) (tN X.K F i (nfor fl t gb)) := fun F =>
  PS.mono (ps_for hp hc hi.ex hg.ex (hb F) hs) fun D σ H hq => by
    obtain ⟨ς, G, a, as, dss, hN, ς', dss', e, k⟩ := hq
    unfold nfor at e
    split at e
    · rename_i ds ς1 q
      refine ⟨F.now ς G σ H, ς, G, hN.rel.now, ds, ς1, q, fun J H1 G1 rl1 s1 wk => ?_⟩
      have h1 := hN.step rl1 s1 rfl
      refine ⟨fun j m σ' H' => m = ds.length - j ∧ j ≤ ds.length ∧ ∃ ςj Gj dssj, Nest X.K F i ςj Gj σ' H' a as dssj ∧ Same G1 Gj ∧ nloop t gb (ds.drop j) ςj dssj = some (ς', dss'), ⟨ds.length, by simp, Nat.zero_le _, ς1, G1, dss, h1, Same.refl _, e⟩, ?_⟩
      rintro j m σ' H' ⟨rfl, hj, ςj, Gj, dssj, hNj, sj, ej⟩
      by_cases hlt : j < ds.length
      · rw [List.drop_eq_getElem_cons hlt, nloop] at ej
        split at ej
        · rename_i ς2 q2
          split at ej
          · rename_i ς3 dss3 q3
            refine .inr ⟨wk.go j H' hlt (sj.trans hNj.rel.sub), fun σ3 H3 => ∃ ςj Gj dssj, Nest X.K F i ςj Gj σ3 H3 a as dssj ∧ Same G1 Gj ∧ nloop t gb (ds.drop (j + 1)) ςj dssj = some (ς', dss'), fun σ3 H3 h3 => ⟨ds.length - (j + 1), by omega, rfl, hlt, h3⟩, fun v H2 y => ?_⟩
            obtain ⟨G2, rl2, s2, dp2⟩ := hNj.rel.now.tupled sj wk y (List.getElem?_eq_getElem hlt)
            refine ⟨F.now ςj Gj σ' H', ςj, G2, _, rl2, dp2, ς2, q2, fun σ3 H3 G3 rl3 s3 w3 => ?_⟩
            have e1 : σ3[i]? = σ'[i]? := by
              rw [← wipe_out (σ := σ3) hv, w3, wipe_out hv]
            have h3 := hNj.step rl3 (s2.trans s3) e1
            exact ⟨ς2, G3, a, as, dssj, h3, ς3, dss3, q3, fun σ4 H4 G4 h4 s4 => ⟨ς3, G4, dss3, h4, sj.trans (s2.trans (s3.trans s4)), ej⟩⟩
          · cases ej
        · cases ej
      · have ejj : j = ds.length := by omega
        subst ejj
        rw [List.drop_length, nloop] at ej
        cases ej
        exact .inl ⟨wk.stop H' (sj.trans hNj.rel.sub), k σ' H' Gj hNj (s1.trans sj)⟩
    · cases e
theorem sn_one {st : Stmt} {g : MN} (h : ∀ F, PS X st (tN X.K F i g)) : ∀ F, PSs X [st] (tN X.K F i g) := fun F => pss_one (h F)
end
/-! ### xs = [[] for .. in ..]; ..; return xs -/
def nestS (i : Nat) (fl : M (List D)) (vs : List Nat) (t0 : Tg) (gN : MN) : MS := fun ς => match fl ς with
  | some (ds, ς1) => if freeAll ς1 vs = true then match lcLoop vs t0 (ret true) (lstE argN) ds [] (wipeE ς1 vs) with
      | some (_, ς2) => if free ς2 i = true then match gN (ς2.set i none) (List.replicate ds.length []) with
          | some (ς3, dss) => some (.rt (.fresh (dss.map PyData.list)) ς3)
          | none => none
        else none
      | none => none
    else none
  | none => none
theorem esc_nil (ς : En) : esc (lstE argN) ς = some (.list [], ς) := rfl
structure PL (K : PySem.W.Frag) (F : Fx) (L : Addr) (ς : En) (G : Hp) (σ : L2.St) (H : Hp) (as : List Addr) : Prop where
  rel : Rel K F ς G σ H
  ha : H L = some (.lst (as.map V.ref))
  pa : Priv F ς G σ L
  na : L ∉ as
  nd : as.Nodup
  inn : ∀ b ∈ as, H b = some (.lst []) ∧ Priv F ς G σ b
section
variable {K : PySem.W.Frag} {F : Fx} {L : Addr} {ς ς' : En} {G G' : Hp} {σ σ' : L2.St} {H H' : Hp} {as : List Addr}
theorem PL.step (h : PL K F L ς G σ H as) (r : Rel K (F.now ς G σ H) ς' G' σ' H') : PL K F L ς' G' σ' H' as := by
  have ka := h.rel.keepF r h.ha h.pa.g h.pa.no
  refine ⟨h.rel.back r, ka.1, ⟨ka.2.1, h.pa.h0, ka.2.2⟩, h.na, h.nd, fun b hb => ?_⟩
  obtain ⟨u1, u2⟩ := h.inn b hb
  have kb := h.rel.keepF r u1 u2.g u2.no
  exact ⟨kb.1, kb.2.1, u2.h0, kb.2.2⟩
theorem Priv.wiped (h : Priv F ς G σ L) (vs : List Nat) : Priv F (wipeE ς vs) G (wipe σ vs) L := ⟨h.g, h.h0, fun n b es z1 z2 => h.no n b es (wipeE_own vs z1) (wipe_some z2).1⟩
theorem PL.wiped (h : PL K F L ς G σ H as) (vs : List Nat) (hf : freeAll ς vs = true) : PL K F L (wipeE ς vs) G (wipe σ vs) H as :=
  ⟨h.rel.wiped vs hf, h.ha, h.pa.wiped vs, h.na, h.nd, fun b hb => ⟨(h.inn b hb).1, (h.inn b hb).2.wiped vs⟩⟩
theorem PL.push (h : PL K F L ς G σ H as) {p : Addr} (hp : H p = none) : PL K F L ς G σ (upd (upd H p (.lst [])) L (.lst (as.map V.ref ++ [.ref p]))) (as ++ [p]) := by
  have hpL : L ≠ p := fun e => by rw [← e, h.ha] at hp; cases hp
  have hpa : p ∉ as := fun m => by rw [(h.inn p m).1] at hp; cases hp
  have pp : Priv F ς G σ p := ⟨h.rel.gnone hp, h.rel.new hp, fun n b es z w => by
    obtain ⟨c, ws, f1, f2, _⟩ := h.rel.ow n b es z
    rw [w] at f1; cases f1
    rw [hp] at f2; cases f2⟩
  refine ⟨(h.rel.layF hp).touch h.pa.g h.pa.h0 h.pa.no, by rw [upd_same, List.map_append]; rfl, h.pa, fun m => ?_, ?_, fun b hb => ?_⟩
  · rcases List.mem_append.1 m with m | m
    · exact h.na m
    · exact hpL (List.mem_singleton.1 m)
  · rw [List.nodup_append]
    exact ⟨h.nd, by simp, fun a ha b hb => by rw [List.mem_singleton.1 hb]; exact fun e => hpa (e ▸ ha)⟩
  · rcases List.mem_append.1 hb with hb | hb
    · have hbL : b ≠ L := fun e => h.na (e ▸ hb)
      have hbp : b ≠ p := fun e => hpa (e ▸ hb)
      rw [upd_ne hbL, upd_ne hbp]
      exact h.inn b hb
    · rw [List.mem_singleton.1 hb, upd_ne (fun e => hpL e.symm), upd_same]
      exact ⟨rfl, pp⟩
end
theorem t_nest {K : PySem.W.Frag} {F : Fx} {i : Nat} {fl : M (List D)} {vs : List Nat} {t0 : Tg} {gN : MN} {D : Ends} {σ : L2.St} {H : Hp} (hq : tSt K F (nestS i fl vs t0 gN) D σ H) :
    tSeq (tAsg (tLc (fun σ H R => ∃ F, tEvI K F fl σ H R) (gEx K vs t0) (tEx K (ret true)) (tLst tNil) vs) (gName i)) (tSeq (tN K F i gN) (tRet (tVar i))) D σ H := by
  obtain ⟨ς, G, rl, o, e, k⟩ := hq
  unfold nestS at e
  split at e
  · rename_i ds ς1 q1
    split at e
    · rename_i hf
      split at e
      · rename_i accF ς2 q2
        split at e
        · rename_i hfi
          split at e
          · rename_i ς3 dss q3
            cases e
            refine ⟨F, ς, G, rl, ds, ς1, q1, fun J H1 G1 rl1 s1 wk L hL => ?_⟩
            have h0 : PL K F L (wipeE ς1 vs) G1 (wipe σ vs) (upd H1 L (.lst [])) [] := by
              refine ⟨(rl1.wiped vs hf).layF hL, upd_same, ⟨rl1.gnone hL, rl1.new hL, fun n b es z w => ?_⟩, by simp, by simp, fun b hb => by cases hb⟩
              obtain ⟨c, ws, f1, f2, _⟩ := (rl1.wiped vs hf).ow n b es z
              rw [w] at f1; cases f1
              rw [hL] at f2; cases f2
            refine ⟨fun j m H' => m = ds.length - j ∧ j ≤ ds.length ∧ ∃ ςj Gj as acc, PL K F L ςj Gj (wipe σ vs) H' as ∧ Same G1 Gj ∧ as.length = j ∧ acc.length = j ∧ lcLoop vs t0 (ret true) (lstE argN) (ds.drop j) acc ςj = some (accF, ς2), ⟨ds.length, by simp, Nat.zero_le _, _, G1, [], [], h0, Same.refl _, rfl, rfl, q2⟩, ?_⟩
            rintro j m H' ⟨rfl, hj, ςj, Gj, as, acc, hP, sj, hal, hacl, ej⟩
            by_cases hlt : j < ds.length
            · rw [List.drop_eq_getElem_cons hlt, lcLoop] at ej
              split at ej
              · rename_i ς4 q4
                simp only [ret, esc_nil] at ej
                split at ej
                · rename_i hf5
                  refine .inr ⟨wk.go j H' hlt (sj.trans hP.rel.sub), fun H3 => ∃ ςj Gj as acc, PL K F L ςj Gj (wipe σ vs) H3 as ∧ Same G1 Gj ∧ as.length = j + 1 ∧ acc.length = j + 1 ∧ lcLoop vs t0 (ret true) (lstE argN) (ds.drop (j + 1)) acc ςj = some (accF, ς2), fun H3 h3 => ⟨ds.length - (j + 1), by omega, rfl, hlt, h3⟩, fun v H2 y => ?_⟩
                  obtain ⟨G2, rl2, s2, dp2⟩ := hP.rel.now.tupled sj wk y (List.getElem?_eq_getElem hlt)
                  refine ⟨F.now ςj Gj (wipe σ vs) H', ςj, G2, _, rl2, dp2, ς4, q4, fun σ3 H3 G3 rl3 s3 w3 => ⟨w3.trans (wipe_wipe σ vs), ?_⟩⟩
                  have w3' : wipe σ3 vs = wipe σ vs := w3.trans (wipe_wipe σ vs)
                  refine ⟨F.now ςj Gj (wipe σ vs) H', ς4, G3, rl3, true, ς4, rfl, fun H4 G4 rl4 s4 => iteT ?_⟩
                  refine ⟨Nat.zero_le _, fun p hp => ?_⟩
                  have h4 := (hP.step rl4).wiped vs hf5.1
                  rw [w3'] at h4
                  have hpL : L ≠ p := fun e => by rw [← e, h4.ha] at hp; cases hp
                  refine ⟨as.map V.ref, by rw [upd_ne hpL]; exact h4.ha, by rw [List.length_map, hal, ← hacl]; exact hf5.2, ?_⟩
                  exact ⟨_, G4, as ++ [p], acc ++ [.list []], h4.push hp, sj.trans (s2.trans (s3.trans s4)), by rw [List.length_append, List.length_singleton, hal], by rw [List.length_append, List.length_singleton, hacl], ej⟩
                · cases ej
              · cases ej
            · have ejj : j = ds.length := by omega
              subst ejj
              rw [List.drop_length, lcLoop] at ej
              cases ej
              refine .inl ⟨wk.stop H' (sj.trans hP.rel.sub), ?_⟩
              have rlu := hP.rel.unwipe
              have hil : i < σ.length := by rw [rlu.len]; exact free_lt hfi
              have prv : ∀ x, Priv F ς2 Gj (wipe σ vs) x → Priv F (ς2.set i none) Gj (σ.set i (some (.ref L))) x := fun x p => ⟨p.g, p.h0, fun n b es z1 z2 => by
                have z3 : ς2[n]? = some (some (.own b es)) := by
                  rcases get_set z1 with ⟨_, h⟩ | ⟨_, h⟩
                  · cases h
                  · exact h
                have hni : i ≠ n := fun q => by
                  rcases get_set z1 with ⟨_, h⟩ | ⟨h, _⟩
                  · cases h
                  · exact h q
                rw [List.getElem?_set_ne hni] at z2
                obtain ⟨c, ws, f1, _⟩ := hP.rel.ow n b es z3
                have f2 := (wipe_some f1).1
                rw [z2] at f2; cases f2
                exact p.no n b es z3 f1⟩
              have hN : Nest K F i (ς2.set i none) Gj (σ.set i (some (.ref L))) H' L as (List.replicate ds.length []) := by
                refine ⟨rlu.setN hfi, List.getElem?_set_self hil, hP.ha, prv L hP.pa, hP.na, hP.nd, by rw [List.length_replicate]; exact hal, fun k b es h1 h2 => ?_⟩
                have : es = [] := List.eq_of_mem_replicate (List.mem_of_getElem? h2)
                subst this
                obtain ⟨u1, u2⟩ := hP.inn b (List.mem_of_getElem? h1)
                exact ⟨[], u1, prv b u2, .nil⟩
              refine ⟨_, Gj, L, as, _, hN, ς3, dss, q3, fun σ' H'' G' hN' s' => ?_⟩
              obtain ⟨G'', r1, s2, rep⟩ := hN'.frz
              exact ⟨.ref L, hN'.sg, k _ σ' H'' G'' r1 (s1.trans (sj.trans (s'.trans s2))) rep⟩
          · cases e
        · cases e
      · cases e
    · cases e
  · cases e
end Lw
namespace Lw
open PySem PySem.Spec PyProof.Rows L2
/-! ### a, rows = x, [list(row) for row in ..]; rows[k][a] = rows[k][a] - y -/
structure PQ (K : PySem.W.Frag) (F : Fx) (L : Addr) (ς : En) (G : Hp) (σ : L2.St) (H : Hp) (as : List Addr) (dss : List (List D)) : Prop where
  rel : Rel K F ς G σ H
  ha : H L = some (.lst (as.map V.ref))
  pa : Priv F ς G σ L
  na : L ∉ as
  nd : as.Nodup
  len : as.length = dss.length
  inn : ∀ (k : Nat) b ds, as[k]? = some b → dss[k]? = some ds → ∃ vs, H b = some (.lst vs) ∧ Priv F ς G σ b ∧ DpAll K G vs ds
section
variable {K : PySem.W.Frag} {F : Fx} {L : Addr} {ς ς' : En} {G G' : Hp} {σ σ' : L2.St} {H H' : Hp} {as : List Addr} {dss : List (List D)}
theorem PQ.step (h : PQ K F L ς G σ H as dss) (r : Rel K (F.now ς G σ H) ς' G' σ' H') : PQ K F L ς' G' σ' H' as dss := by
  have ka := h.rel.keepF r h.ha h.pa.g h.pa.no
  refine ⟨h.rel.back r, ka.1, ⟨ka.2.1, h.pa.h0, ka.2.2⟩, h.na, h.nd, h.len, fun k b ds h1 h2 => ?_⟩
  obtain ⟨vs, u1, u2, u3⟩ := h.inn k b ds h1 h2
  have kb := h.rel.keepF r u1 u2.g u2.no
  exact ⟨vs, kb.1, ⟨kb.2.1, u2.h0, kb.2.2⟩, dpa_same r.g0 u3⟩
theorem PQ.wiped (h : PQ K F L ς G σ H as dss) (vs : List Nat) (hf : freeAll ς vs = true) : PQ K F L (wipeE ς vs) G (wipe σ vs) H as dss :=
  ⟨h.rel.wiped vs hf, h.ha, h.pa.wiped vs, h.na, h.nd, h.len, fun k b ds h1 h2 => by
    obtain ⟨ws, u1, u2, u3⟩ := h.inn k b ds h1 h2
    exact ⟨ws, u1, u2.wiped vs, u3⟩⟩
theorem PQ.push (h : PQ K F L ς G σ H as dss) (r : Rel K (F.now ς G σ H) ς' G' σ' H') {es : List D} {v : V} (rep : RepR K (F.now ς G σ H) ς' G' σ' H' (.fresh es) v) :
    ∃ p, v = .ref p ∧ H' L = some (.lst (as.map V.ref)) ∧ PQ K F L ς' G' σ' (upd H' L (.lst (as.map V.ref ++ [.ref p]))) (as ++ [p]) (dss ++ [es]) := by
  obtain ⟨p, vs, rfl, f1, f2, f3, f4, f5⟩ := rep
  have hh := h.step r
  have hL : L ≠ p := fun e => by
    rw [← e, now_some h.rel h.ha h.pa.no] at f4
    cases f4
  have hpa : p ∉ as := fun m => by
    obtain ⟨k, hk⟩ := List.mem_iff_getElem?.1 m
    have hkl : k < dss.length := by have := (List.getElem?_eq_some_iff.mp hk).1; have := h.len; omega
    obtain ⟨ws, u1, u2, u3⟩ := h.inn k p _ hk (List.getElem?_eq_getElem hkl)
    rw [now_some h.rel u1 u2.no] at f4
    cases f4
  have pp : Priv F ς' G' σ' p := ⟨f2, now_none h.rel f4, f5⟩
  refine ⟨p, rfl, hh.ha, hh.rel.touch hh.pa.g hh.pa.h0 hh.pa.no, by rw [upd_same, List.map_append]; rfl, hh.pa, fun m => ?_, ?_, by rw [List.length_append, List.length_append, hh.len]; rfl, fun k b ds h1 h2 => ?_⟩
  · rcases List.mem_append.1 m with m | m
    · exact h.na m
    · exact hL (List.mem_singleton.1 m)
  · rw [List.nodup_append]
    exact ⟨h.nd, by simp, fun a ha b hb => by rw [List.mem_singleton.1 hb]; exact fun e => hpa (e ▸ ha)⟩
  · by_cases hk : k < as.length
    · rw [List.getElem?_append_left hk] at h1
      rw [List.getElem?_append_left (by rw [← h.len]; exact hk)] at h2
      have hbL : b ≠ L := fun e => h.na (e ▸ List.mem_of_getElem? h1)
      rw [upd_ne hbL]
      exact hh.inn k b ds h1 h2
    · rw [List.getElem?_append_right (by omega)] at h1
      rw [List.getElem?_append_right (by rw [← h.len]; omega)] at h2
      have e0 : k - as.length = 0 := by
        have := (List.getElem?_eq_some_iff.mp h1).1
        simp at this
        omega
      rw [e0] at h1
      rw [← h.len, e0] at h2
      cases h1
      cases h2
      rw [upd_ne (fun e => hL e.symm)]
      exact ⟨vs, f1, pp, f3⟩
theorem NoOwn.set {s : Option S} {w : Option V} {x : Addr} {i : Nat} (hs : ∀ b es, s ≠ some (.own b es)) (h : NoOwn ς σ x) : NoOwn (ς.set i s) (σ.set i w) x := fun n b es z1 z2 => by
  rcases get_set z1 with ⟨_, e⟩ | ⟨ni, e⟩
  · exact hs b es e
  · rw [List.getElem?_set_ne ni] at z2
    exact h n b es e z2
theorem NoOwn.unwipe {vs : List Nat} {x : Addr} (r : Rel K F ς G (wipe σ vs) H) (h : NoOwn ς (wipe σ vs) x) : NoOwn ς σ x := fun n b es z1 z2 => by
  obtain ⟨c, ws, f1, _⟩ := r.ow n b es z1
  have f2 := (wipe_some f1).1
  rw [z2] at f2; cases f2
  exact h n b es z1 f1
end
end Lw
namespace Lw
open PySem PySem.Spec PyProof.Rows L2
/-! ### a dict of one's own, numbers by numbers, in one slot -/
abbrev KI := List (Int × Int)
def kvD (kv : KI) : List (Key × V) := kv.map fun p => (.inl p.1, V.int p.2)
structure Dic (K : PySem.W.Frag) (F : Fx) (i : Nat) (ς : En) (G : Hp) (σ : L2.St) (H : Hp) (a : Addr) (kv : KI) : Prop where
  rel : Rel K F ς G σ H
  sg : σ[i]? = some (some (.ref a))
  ha : H a = some (.dK (kvD kv))
  pa : Priv F ς G σ a
abbrev MDi := En → KI → Option (En × KI)
def tDi (K : PySem.W.Frag) (F : Fx) (i : Nat) (g : MDi) : TS := fun D σ H => ∃ ς G a kv, Dic K F i ς G σ H a kv ∧ ∃ ς' kv', g ς kv = some (ς', kv') ∧ ∀ σ' H' G', Dic K F i ς' G' σ' H' a kv' → Same G G' → D.nx σ' H'
section
variable {K : PySem.W.Frag} {F : Fx} {i : Nat} {ς ς' : En} {G G' : Hp} {σ σ' : L2.St} {H H' : Hp} {a : Addr} {kv : KI}
theorem Dic.step (h : Dic K F i ς G σ H a kv) (r : Rel K (F.now ς G σ H) ς' G' σ' H') (s : Same G G') (e1 : σ'[i]? = σ[i]?) : Dic K F i ς' G' σ' H' a kv := by
  have ka := h.rel.keepF r h.ha h.pa.g h.pa.no
  exact ⟨h.rel.back r, e1.trans h.sg, ka.1, ⟨ka.2.1, h.pa.h0, ka.2.2⟩⟩
def dloop (t : Tg) (gb : MDi) : List D → MDi
  | [], ς, dss => some (ς, dss)
  | d :: ds, ς, dss => match t d ς with
    | some ς1 => match gb ς1 dss with
      | some (ς2, dss2) => dloop t gb ds ς2 dss2
      | none => none
    | none => none
def dfor (fi : M (List D)) (t : Tg) (gb : MDi) : MDi := fun ς dss => match fi ς with
  | some (ds, ς1) => dloop t gb ds ς1 dss
  | none => none
end
section
variable {X : Cx} {tg it arg ix o e : Expr} {sts : List Stmt} {pos p0 p1 p2 : Pos} {x : Str} {fi fx : M R} {i : Nat} {gb : MDi}
theorem s_dfor {fl : M (List D)} {t : Tg} {vs : List Nat} (hp : PassesOwn (model X.prog X.w) X.A X.env X.xe) (hc : X.calm = true) (hi : PId X tg it fl) (hg : PGd X tg vs t) (hv : i ∉ vs) (hb : ∀ F, PSs X sts (tDi X.K F i gb)) (hs : ∀ x, foldedSetIterable it X.env x = pure x := by intro _; rfl) : ∀ F, PS X (.For tg it sts [] pos) (tDi X.K F i (dfor fl t gb)) := fun F =>
  PS.mono (ps_for hp hc hi.ex hg.ex (hb F) hs) fun D σ H hq => by
    obtain ⟨ς, G, a, dss, hN, ς', dss', e, k⟩ := hq
    unfold dfor at e
    split at e
    · rename_i ds ς1 q
      refine ⟨F.now ς G σ H, ς, G, hN.rel.now, ds, ς1, q, fun J H1 G1 rl1 s1 wk => ?_⟩
      have h1 := hN.step rl1 s1 rfl
      refine ⟨fun j m σ' H' => m = ds.length - j ∧ j ≤ ds.length ∧ ∃ ςj Gj dssj, Dic X.K F i ςj Gj σ' H' a dssj ∧ Same G1 Gj ∧ dloop t gb (ds.drop j) ςj dssj = some (ς', dss'), ⟨ds.length, by simp, Nat.zero_le _, ς1, G1, dss, h1, Same.refl _, e⟩, ?_⟩
      rintro j m σ' H' ⟨rfl, hj, ςj, Gj, dssj, hNj, sj, ej⟩
      by_cases hlt : j < ds.length
      · rw [List.drop_eq_getElem_cons hlt, dloop] at ej
        split at ej
        · rename_i ς2 q2
          split at ej
          · rename_i ς3 dss3 q3
            refine .inr ⟨wk.go j H' hlt (sj.trans hNj.rel.sub), fun σ3 H3 => ∃ ςj Gj dssj, Dic X.K F i ςj Gj σ3 H3 a dssj ∧ Same G1 Gj ∧ dloop t gb (ds.drop (j + 1)) ςj dssj = some (ς', dss'), fun σ3 H3 h3 => ⟨ds.length - (j + 1), by omega, rfl, hlt, h3⟩, fun v H2 y => ?_⟩
            obtain ⟨G2, rl2, s2, dp2⟩ := hNj.rel.now.tupled sj wk y (List.getElem?_eq_getElem hlt)
            refine ⟨F.now ςj Gj σ' H', ςj, G2, _, rl2, dp2, ς2, q2, fun σ3 H3 G3 rl3 s3 w3 => ?_⟩
            have e1 : σ3[i]? = σ'[i]? := by
              rw [← wipe_out (σ := σ3) hv, w3, wipe_out hv]
            have h3 := hNj.step rl3 (s2.trans s3) e1
            exact ⟨ς2, G3, a, dssj, h3, ς3, dss3, q3, fun σ4 H4 G4 h4 s4 => ⟨ς3, G4, dss3, h4, sj.trans (s2.trans (s3.trans s4)), ej⟩⟩
          · cases ej
        · cases ej
      · have ejj : j = ds.length := by omega
        subst ejj
        rw [List.drop_length, dloop] at ej
        cases ej
        exact .inl ⟨wk.stop H' (sj.trans hNj.rel.sub), k σ' H' Gj hNj (s1.trans sj)⟩
    · cases e
end
/-! ### d[k] = min(m, d.get(k, m)) -/
def getI (kv : KI) (k : Int) : Option Int := (kv.find? fun p => decide (p.1 = k)).map (·.2)
def putI (kv : KI) (k v : Int) : KI := if (kv.any fun p => decide (p.1 = k)) = true then kv.map (fun p => if p.1 = k then (p.1, v) else p) else kv ++ [(k, v)]
theorem valV_kv (k : Int) : ∀ kv : KI, valV (kvD kv) (Sum.inl k : Key) = (getI kv k).map V.int
  | [] => rfl
  | p :: kv => by
    have ih := valV_kv k kv
    unfold valV getI kvD at *
    rw [List.map_cons, List.find?_cons, List.find?_cons]
    by_cases h : p.1 = k
    · have h2 : (Sum.inl p.1 : Key) = Sum.inl k := by rw [h]
      simp only [h, h2, decide_true]
      rfl
    · have h2 : ¬ (Sum.inl p.1 : Key) = Sum.inl k := fun e => h (Sum.inl.inj e)
      simp only [h, h2, decide_false]
      exact ih
theorem putK_kv (k v : Int) (kv : KI) : putK (kvD kv) (Sum.inl k : Key) (V.int v) = kvD (putI kv k v) := by
  have e0 : (kvD kv).any (fun q => decide (q.1 = (Sum.inl k : Key))) = kv.any fun p => decide (p.1 = k) := by
    unfold kvD
    rw [List.any_map]
    congr 1
    funext p
    show decide ((Sum.inl p.1 : Key) = Sum.inl k) = decide (p.1 = k)
    by_cases h : p.1 = k
    · rw [h]; simp
    · rw [decide_eq_false h, decide_eq_false (fun e => h (Sum.inl.inj e))]
  unfold putK putI
  rw [e0]
  split
  · unfold kvD
    rw [List.map_map, List.map_map]
    refine List.map_congr_left fun p _ => ?_
    show (if (Sum.inl p.1 : Key) = Sum.inl k then ((Sum.inl p.1 : Key), V.int v) else (Sum.inl p.1, V.int p.2)) = _
    by_cases h : p.1 = k
    · rw [if_pos (by rw [h])]
      show _ = (Sum.inl (if p.1 = k then (p.1, v) else p).1, V.int (if p.1 = k then (p.1, v) else p).2)
      rw [if_pos h]
    · rw [if_neg (fun e => h (Sum.inl.inj e))]
      show _ = (Sum.inl (if p.1 = k then (p.1, v) else p).1, V.int (if p.1 = k then (p.1, v) else p).2)
      rw [if_neg h]
  · unfold kvD
    rw [List.map_append]
    rfl
theorem Dic.put {K : PySem.W.Frag} {F : Fx} {i : Nat} {ς : En} {G : Hp} {σ : L2.St} {H : Hp} {a : Addr} {kv : KI} (h : Dic K F i ς G σ H a kv) (k v : Int) : Dic K F i ς G σ (upd H a (.dK (putK (kvD kv) (Sum.inl k) (V.int v)))) a (putI kv k v) :=
  ⟨h.rel.touch h.pa.g h.pa.h0 h.pa.no, h.sg, by rw [upd_same, putK_kv], h.pa⟩
def dset (is : Nat) (fm : M R) : MDi := fun ς kv => match ς[is]? with
  | some (some (.pure (.int k))) => match esc fm ς with
    | some (.int m, ς1) => match esc fm ς1 with
      | some (.int m2, ς2) => if kv.length < sizeLine then some (ς2, putI kv k (if (getI kv k).getD m2 < m then (getI kv k).getD m2 else m)) else none
      | _ => none
    | _ => none
  | _ => none
def rMin2 : List V → Hp → VK → Prop := fun xs H Q => ∃ i j, xs = [.int i, .int j] ∧ Q (.int (if j < i then j else i)) H
theorem t_dset {K : PySem.W.Frag} {F : Fx} {i is : Nat} {fm : M R} {D : Ends} {σ : L2.St} {H : Hp} (hq : tDi K F i (dset is fm) D σ H) :
    tAsg (tCB rMin2 (tCons (fun σ H Q => ∃ F, tEvD K F (esc fm) σ H Q) (tCons (tDGet2 (tVar i) (tVar is) (fun σ H Q => ∃ F, tEvD K F (esc fm) σ H Q)) tNil))) (gSub (tVar i) (tVar is) rSetD) D σ H := by
  obtain ⟨ς, G, a, kv, hN, ς', kv', e, k⟩ := hq
  unfold dset at e
  split at e
  · rename_i kk p1
    split at e
    · rename_i m ς1 q1
      split at e
      · rename_i m2 ς2 q2
        split at e
        · rename_i hl
          cases e
          obtain ⟨v1, s1, d1⟩ := hN.rel.pu _ _ p1
          have e1 : v1 = .int kk := by cases d1; rfl
          subst e1
          refine ⟨F.now ς G σ H, ς, G, hN.rel.now, .int m, ς1, q1, fun u H1 G1 rl1 s3 dp1 => ?_⟩
          have hu : u = .int m := by cases dp1; rfl
          subst hu
          have h1 := hN.step rl1 s3 rfl
          refine ⟨.ref a, h1.sg, a, rfl, .inl ⟨_, .inl h1.ha⟩, .int kk, s1, F.now ς1 G1 σ H1, ς1, G1, h1.rel.now, .int m2, ς', q2, fun u H2 G2 rl2 s4 dp2 => ?_⟩
          have hu : u = .int m2 := by cases dp2; rfl
          subst hu
          have h2 := h1.step rl2 s4 rfl
          refine ⟨valV (kvD kv) (Sum.inl kk), DGet.k (k := Sum.inl kk) h2.ha, ?_⟩
          rw [valV_kv]
          have eg : ((getI kv kk).map V.int).getD (.int m2) = .int ((getI kv kk).getD m2) := by cases getI kv kk <;> rfl
          rw [eg]
          refine ⟨m, (getI kv kk).getD m2, rfl, ?_⟩
          refine ⟨.ref a, h2.sg, .int kk, s1, a, _, rfl, DPut.k (k := Sum.inl kk) h2.ha (by unfold kvD; rw [List.length_map]; exact hl), ?_⟩
          exact k σ _ G2 (h2.put kk _) (s3.trans s4)
        · cases e
      · cases e
    · cases e
  · cases e
theorem s_dset {X : Cx} {i is : Nat} {fm : M R} {st : Stmt} (h : PS X st (tAsg (tCB rMin2 (tCons (fun σ H Q => ∃ F, tEvD X.K F (esc fm) σ H Q) (tCons (tDGet2 (tVar i) (tVar is) (fun σ H Q => ∃ F, tEvD X.K F (esc fm) σ H Q)) tNil))) (gSub (tVar i) (tVar is) rSetD))) : ∀ F, PS X st (tDi X.K F i (dset is fm)) := fun F => PS.mono h fun D σ H hq => t_dset hq
theorem sdi_one {X : Cx} {i : Nat} {st : Stmt} {g : MDi} (h : ∀ F, PS X st (tDi X.K F i g)) : ∀ F, PSs X [st] (tDi X.K F i g) := fun F => pss_one (h F)
end Lw
namespace Lw
open PySem PySem.Spec PyProof.Rows L2
/-! ### d = {}; ..; return list(d.items()) -/
section
variable {K : PySem.W.Frag} {F : Fx} {ς : En} {G H H' : Hp} {σ : L2.St}
theorem Rel.ext (r : Rel K F ς G σ H) (s : ∀ b o, H b = some o → H' b = some o) : Rel K F ς G σ H' :=
  ⟨r.len, fun b o e => s b o (r.sub b o e), r.g0, r.pu, fun i b ds e => by
    obtain ⟨a, vs, e1, e2, e3⟩ := r.ow i b ds e
    exact ⟨a, vs, e1, s _ _ e2, e3⟩, r.ap, r.par, fun a o h n => s a o (r.fr a o h n), r.nw⟩
theorem Rel.noOwn (r : Rel K F ς G σ H) {p : Addr} (h : H p = none) : NoOwn ς σ p := fun n b es z w => by
  obtain ⟨c, ws, f1, f2, _⟩ := r.ow n b es z
  rw [w] at f1; cases f1
  rw [h] at f2; cases f2
theorem Rel.frzT (r : Rel K F ς G σ H) {b : Addr} {vs : List V} {ds : List D} (h1 : H b = some (.tup vs)) (h2 : G b = none) (h3 : DpAll K G vs ds) (h4 : F.H0 b = none) (h5 : NoOwn ς σ b) : Rel K F ς (upd G b (.tup vs)) σ H ∧ Dp K (upd G b (.tup vs)) (.ref b) (.tuple ds) := by
  refine ⟨⟨r.len, ?_, r.g0.trans (same_upd h2), ?_, ?_, r.ap, r.par, r.fr, ?_⟩, .tup (.inl (.inl upd_same)) (dpa_same (same_upd h2) h3)⟩
  · intro c x e
    by_cases hb : c = b
    · subst hb; rw [upd_same] at e; rw [h1, e]
    · rw [upd_ne hb] at e; exact r.sub _ _ e
  · intro i d e
    obtain ⟨v, e1, e2⟩ := r.pu i d e
    exact ⟨v, e1, dp_same (same_upd h2) e2⟩
  · intro i b' es e
    obtain ⟨c, ws, e1, e2, e3, e4, e5⟩ := r.ow i b' es e
    have ne : c ≠ b := fun z => by subst z; exact h5 i b' es e e1
    exact ⟨c, ws, e1, e2, by rw [upd_ne ne]; exact e3, dpa_same (same_upd h2) e4, e5⟩
  · intro c e
    by_cases hc : c = b
    · subst hc; exact .inr h4
    · rw [upd_ne hc] at e; exact r.nw c e
def pairD (p : Int × Int) : D := .tuple [.int p.1, .int p.2]
theorem pairs_frz {H0 : Hp} : ∀ (kv : KI) {G : Hp} (r : Rel K F ς G σ H) (ts : List Addr) (p : Addr), (∀ t ∈ ts, F.H0 t = none ∧ NoOwn ς σ t) → p ∉ ts → G p = none → Paired (fun (t : Addr) (q : Key × V) => H t = some (.tup [kV q.1, q.2])) ts (kvD kv) →
    ∃ G', Rel K F ς G' σ H ∧ Same G G' ∧ G' p = none ∧ DpAll K G' (ts.map V.ref) (kv.map pairD)
  | [], G, r, ts, p, _, _, gp, h => by
    cases h
    exact ⟨G, r, Same.refl _, gp, .nil⟩
  | q :: kv, G, r, ts, p, ht, hp, gp, h => by
    cases h with
    | cons h0 hr =>
      rename_i t ts
      obtain ⟨n1, n2⟩ := ht t List.mem_cons_self
      have hpt : p ≠ t := fun e => hp (e ▸ List.mem_cons_self)
      have h0 : H t = some (.tup [.int q.1, .int q.2]) := h0
      have main : ∃ G1, Rel K F ς G1 σ H ∧ Same G G1 ∧ G1 p = none ∧ Dp K G1 (.ref t) (pairD q) := by
        cases e : G t with
        | none =>
          obtain ⟨r1, d1⟩ := r.frzT h0 e (.cons (.int q.1) (.cons (.int q.2) .nil)) n1 n2
          exact ⟨_, r1, same_upd e, by rw [upd_ne hpt]; exact gp, d1⟩
        | some o =>
          have := r.sub t o e
          rw [h0] at this
          cases this
          exact ⟨G, r, Same.refl _, gp, .tup (.inl (.inl e)) (.cons (.int q.1) (.cons (.int q.2) .nil))⟩
      obtain ⟨G1, r1, s1, g1, d1⟩ := main
      obtain ⟨G2, r2, s2, g2, d2⟩ := pairs_frz (H0 := H0) kv r1 ts p (fun t m => ht t (List.mem_cons_of_mem _ m)) (fun m => hp (List.mem_cons_of_mem _ m)) g1 hr
      exact ⟨G2, r2, s1.trans s2, g2, .cons (dp_same s2 d1) d2⟩
end
def dicS (i : Nat) (gN : MDi) : MS := fun ς => if free ς i = true then match gN (ς.set i none) [] with
    | some (ς3, kv) => some (.rt (.fresh (kv.map pairD)) ς3)
    | none => none
  else none
theorem t_dic {K : PySem.W.Frag} {F : Fx} {i : Nat} {gN : MDi} {D : Ends} {σ : L2.St} {H : Hp} (hq : tSt K F (dicS i gN) D σ H) :
    tSeq (tAsg tDNewK (gName i)) (tSeq (tDi K F i gN) (tRet (LiI.tListItems (tVar i)))) D σ H := by
  obtain ⟨ς, G, rl, o, e, k⟩ := hq
  unfold dicS at e
  split at e
  · rename_i hf
    split at e
    · rename_i ς3 kv q
      cases e
      intro p hp
      have hil : i < σ.length := by rw [rl.len]; exact free_lt hf
      have r1 := (rl.layF (o := .dK []) hp).setN (o := some (.ref p)) hf
      have no : NoOwn (ς.set i none) (σ.set i (some (.ref p))) p := NoOwn.set (fun _ _ => by simp) (rl.noOwn hp)
      refine ⟨_, G, p, [], ⟨r1, List.getElem?_set_self hil, upd_same, rl.gnone hp, rl.new hp, no⟩, ς3, kv, q, fun σ' H' G' hD s' => ?_⟩
      refine ⟨.ref p, hD.sg, p, kvD kv, rfl, hD.ha, fun H2 L ts hx hL ht hLt hl hpr => ?_⟩
      have r2 := hD.rel.ext hx
      obtain ⟨G2, r3, s3, g3, d3⟩ := pairs_frz (H0 := H2) kv r2 ts L (fun t m => ⟨hD.rel.new (ht t m), hD.rel.noOwn (ht t m)⟩) hLt (hD.rel.gnone hL) hpr
      exact k _ σ' H2 G2 r3 (s'.trans s3) ⟨L, _, rfl, hl, g3, d3, hD.rel.new hL, hD.rel.noOwn hL⟩
    · cases e
  · cases e
end Lw
namespace Lw
open PySem PySem.Spec PyProof.Rows L2
theorem un_small {u : Nat} (h : u + 64 < cLine - 1) : u + 1 < cLine := by omega
end Lw
namespace Lw
open PySem PySem.Spec PyProof.Rows L2
def g_p_stepped_on : MS :=
  (retS (lcE (itR2 (op2 gAddA (vr 2) (cn (.int 1))) (vr 3)) [5] (tgN 5) (ret true) (op2 gAddA (op2 gSubA (op2 gIx (op2 gIx (vr 0) (vr 2)) (op2 gSubA (vr 5) (vr 2))) (vr 4)) (op2 gIx (vr 1) (vr 5)))))
def m_p_stepped_on : Fsem := runFn g_p_stepped_on 6
def g_p_begins_waiting : MS :=
  (sq (asg (op2 gIx (op2 gIx (vr 0) (vr 2)) (cn (.int 0))) (tgN 3))
  (sq (asgO 4 (cal1 gList (vr 1)))
  (sq (forS (itRv2 (vr 2) (cal1 gLen (vr 1))) (tgN 5) (asg (cal1 gMinK (op2 gAddA (lstE (argV (op2 gIx (vr 4) (vr 5)) argN)) (callE m_p_stepped_on (argV (vr 0) (argR (vr 4) (argV (vr 5) (argV (cal1 gLen (vr 1)) (argV (vr 3) argN)))))))) (tgS (vr 4) (vr 5))))
  (sq (forS (itRv1 (vr 2)) (tgN 5) (asg (cal1 gMinK (callE m_p_stepped_on (argV (vr 0) (argR (vr 4) (argV (vr 5) (argV (op2 gAddA (vr 2) (cn (.int 1))) (argV (vr 3) argN))))))) (tgS (vr 4) (vr 5))))
  (retS (slE (vr 4) ptN (ptS (op2 gAddA (vr 2) (cn (.int 1))))))))))
def m_p_begins_waiting : Fsem := runFn g_p_begins_waiting 6
def g_p_lines_of : MS :=
  (sq (asg (lstE (argX (vr 0) (argV (tupE (argV (cn (.int 0)) argN)) argN))) (tgN 2))
  (sq (asg (lstE (argX (vr 1) (argV (cn (.int 0)) argN))) (tgN 3))
  (nestS 4 (itS (vr 3)) [5] (tgN 5) (nfor (itEn (vr 2)) (tgT 2 (tgsC (tgN 6) (tgsC (tgN 7) tgsN))) (nfor (itEn (callE m_p_begins_waiting (argV (vr 2) (argV (vr 3) (argV (vr 6) argN))))) (tgT 2 (tgsC (tgN 8) (tgsC (tgN 9) tgsN))) (napp (vr 8) (tupE (argV (op2 gIx (vr 7) (cn (.int 0))) (argV (vr 9) argN)))))))))
def m_p_lines_of : Fsem := runFn g_p_lines_of 10
def g_p_merged : MS :=
  (dicS 2 (dfor (itZ2 (vr 0) (vr 1)) (tgT 2 (tgsC (tgN 3) (tgsC (tgN 4) tgsN))) (dfor (itS (vr 4)) (tgT 2 (tgsC (tgN 5) (tgsC (tgN 6) tgsN))) (dset 5 (op2 gAddA (vr 6) (vr 3))))))
def m_p_merged : Fsem := runFn g_p_merged 7
def g_p_lowest : MS :=
  (retS (cal1 gMinK (lcE (itS (vr 0)) [2, 3] (tgT 2 (tgsC (tgN 2) (tgsC (tgN 3) tgsN))) (ret true) (op2 gAddA (vr 3) (op2 gMulA (vr 2) (vr 1))))))
def m_p_lowest : Fsem := runFn g_p_lowest 4
def g_p_row_at : MS :=
  (sq (asg (callE m_p_lowest (argV (vr 1) (argV (vr 0) argN))) (tgN 2))
  (sq (asg (op2 gSubA (callE m_p_lowest (argV (vr 1) (argV (op2 gAddA (vr 0) (cn (.int 1))) argN))) (vr 2)) (tgN 3))
  (retS (tupE (argV (vr 0) (argV (vr 3) (argV (op2 gSubA (vr 2) (op2 gMulA (vr 3) (vr 0))) argN)))))))
def m_p_row_at : Fsem := runFn g_p_row_at 4
def g_p_bend_of : MS :=
  (sq (asg (vr 0) (tgT 3 (tgsC (tgN 2) (tgsC (tgN 3) (tgsC (tgN 4) tgsN)))))
  (retS (op2 gMinD (lcE (itS (vr 1)) [5, 6] (tgT 2 (tgsC (tgN 5) (tgsC (tgN 6) tgsN))) (tst (op2 gLt (vr 5) (vr 3))) (op2 gDivA (op2 gSubA (vr 6) (vr 4)) (op2 gSubA (vr 3) (vr 5)))) (cn .none))))
def m_p_bend_of : Fsem := runFn g_p_bend_of 7
def g_p_rows_from : MS :=
  (sq (asgO 2 (lstE (argV (callE m_p_row_at (argV (vr 0) (argV (vr 1) argN))) argN)))
  (sq (asg (callE m_p_bend_of (argV (op2 gIx (vr 2) (negV (cn (.int 1)))) (argV (vr 1) argN))) (tgN 3))
  (sq (whileS (tst (op2 gIsNot (vr 3) (cn .none))) (sq (exS (mth hApp (vr 2) (argV (callE m_p_row_at (argV (vr 3) (argV (vr 1) argN))) argN)))
  (asg (callE m_p_bend_of (argV (op2 gIx (vr 2) (negV (cn (.int 1)))) (argV (vr 1) argN))) (tgN 3))))
  (retS (vr 2)))))
def m_p_rows_from : Fsem := runFn g_p_rows_from 4
def g_p_rows_at : MS :=
  (sq (asg (op2 gIx (lstE (argX (vr 0) (argV (tupE (argV (cn (.int 0)) argN)) argN))) (op2 gSubA (vr 2) (cn (.int 1)))) (tgN 3))
  (retS (callE m_p_rows_from (argV (cal1 gLen (vr 0)) (argV (callE m_p_merged (argV (vr 3) (argV (slE (vr 1) (ptS (op2 gSubA (vr 2) (cn (.int 1)))) ptN) argN))) argN)))))
def m_p_rows_at : Fsem := runFn g_p_rows_at 4
def g_p_rows_of : MS :=
  (sq (asg (callE m_p_lines_of (argV (callE m_p_table_of (argV (vr 0) (argV (vr 2) argN))) (argV (callE m_p_totals_of (argV (vr 1) argN)) argN))) (tgN 5))
  (retS (callE m_p_rows_at (argV (callE m_p_table_of (argV (vr 0) (argV (slE (vr 2) ptN (ptS (vr 3))) argN))) (argV (vr 5) (argV (vr 4) argN))))))
def m_p_rows_of : Fsem := runFn g_p_rows_of 6
end Lw
namespace Lw
open PySem PySem.Spec PyProof.Rows L2
/-! ### sorted(set(xs)) of a list of ints -/
end Lw
namespace Lw
open PySem PySem.Spec PyProof.Rows L2
/-! ### in numbers -/
def insU (k : Int) : List Int → List Int
  | [] => [k]
  | x :: xs => if k < x then k :: x :: xs else if k = x then x :: xs else x :: insU k xs
def sortU (ns : List Int) : List Int := ns.foldr insU []
def gSoSe : D → Option R
  | .list ds => match intsD ds with
    | some ns => if ns.length < 60 then some (.fresh ((sortU ns).map PyData.int)) else none
    | none => none
  | _ => none
def soseE (f : M R) : M R := bd (esc f) fun d => lift (gSoSe d)
theorem Sm.soseE {ς : En} {f : M R} {Q : R → En → Prop} (h : wp f ς fun r ς1 => ∃ d ς2, toD r ς1 = some (d, ς2) ∧ ∃ r2, gSoSe d = some r2 ∧ Q r2 ς2) : wp (Lw.soseE f) ς Q :=
  Sm.bd (Sm.esc (Sm.mono h fun r ς1 ⟨d, ς2, e, r2, e2, q⟩ => ⟨d, ς2, e, Sm.lift e2 q⟩))
namespace Sm
section
variable {ς : En}
instance stp_soseE {ς : En} {f : M R} {Q : R → En → Prop} : Stp (wp (Lw.soseE f) ς Q) (wp f ς fun r ς1 => ∃ d ς2, toD r ς1 = some (d, ς2) ∧ ∃ r2, gSoSe d = some r2 ∧ Q r2 ς2) := ⟨Sm.soseE⟩
end
end Sm
end Lw
namespace Lw
open PySem PySem.Spec PyProof.Rows L2
/-! ### xs += [..], of a list of one's own -/
def augL (i : Nat) (f : M R) : MS := fun ς => match ς[i]? with
  | some (some (.own _ _)) => match f ς with
    | some (.fresh es, ς1) => match ς1[i]? with
      | some (some (.own b ds)) => if ds.length + es.length ≤ sizeLine then some (.nx (ς1.set i (some (.own b (ds ++ es))))) else none
      | _ => none
    | _ => none
  | _ => none
theorem Sm.augL {ς : En} {Q : Out → Prop} {i : Nat} {f : M R} {b0 : Bool} {ds0 : List D} (e0 : ς[i]? = some (some (.own b0 ds0))) (h : wp f ς fun r ς1 => ∃ es b ds, r = .fresh es ∧ ς1[i]? = some (some (.own b ds)) ∧ ds.length + es.length ≤ sizeLine ∧ Q (.nx (ς1.set i (some (.own b (ds ++ es)))))) : wps (Lw.augL i f) ς Q := by
  obtain ⟨r, ς1, e1, es, b, ds, rfl, e2, hl, q⟩ := h
  exact ⟨_, by unfold Lw.augL; simp only [e0, e1, e2]; exact if_pos hl, q⟩
/-! ### t < u, tuples of ints -/
end Lw
namespace Lw
open PySem PySem.Spec PyProof.Rows L2
end Lw
namespace Lw
open PySem PySem.Spec PyProof.Rows L2
local macro_rules | `(tactic| walk_at "lw e") => `(tactic| (repeat (first | (with_reducible refine Stp.go ?_) | (with_reducible apply Exists.intro) | ((with_reducible refine And.intro ?_ ?_); · (first | (with_reducible exact Evl.ev) | ((fail_if_success (with_reducible refine Gd.keep ?_)); rfl) | ((with_reducible apply mul_r); decide) | ((with_reducible apply mul_l); decide) | ((with_reducible apply div_i); decide) | ((with_reducible apply in_R); decide) | (exact Nat.le_of_ble_eq_true rfl) | (simp [refsOf]; done) | (exact ⟨rfl, rfl, by decide⟩) | (exact ⟨rfl, rfl, rfl⟩))) | ((with_reducible apply Sm.vrP); (focus rfl)) | ((with_reducible apply Sm.vrO); (focus rfl)) | (with_reducible refine iteTT ?_) | (with_reducible refine iteT ?_) | (with_reducible refine iteF ?_) | ((with_reducible refine iteB1 ?_ ?_); (focus rfl)) | ((with_reducible refine iteB0 ?_ ?_); (focus rfl)))))
local macro_rules | `(tactic| walk_at "lw n") => `(tactic| (try dsimp only [ent, List.map, Nat.reduceAdd, Nat.reduceSub, List.length_cons, List.length_nil, List.replicate_succ, List.replicate_zero, List.cons_append, List.nil_append, putBack, setOwn, List.getElem?_cons_zero, List.getElem?_cons_succ, List.set_cons_zero, List.set_cons_succ, Sm.nf]))
local macro_rules | `(tactic| walk_at "lw v") => `(tactic| (try simp only [pb1, pb2, pb3, pb4]))
theorem pw_6 : gPowA (.int 10) (.int 6) = some (.pure (.int 1000000)) := rfl
theorem pw_7 : gPowA (.int 10) (.int 7) = some (.pure (.int 10000000)) := rfl
theorem pw_15 : gPowA (.int 10) (.int 15) = some (.pure (.int 1000000000000000)) := rfl
theorem pw_18 : gPowA (.int 10) (.int 18) = some (.pure (.int 1000000000000000000)) := rfl
theorem pw_19 : gPowA (.int 10) (.int 19) = some (.pure (.int 10000000000000000000)) := rfl
theorem pw_30 : gPowA (.int 10) (.int 30) = some (.pure (.int 1000000000000000000000000000000)) := rfl
theorem pw_40 : gPowA (.int 10) (.int 40) = some (.pure (.int 10000000000000000000000000000000000000000)) := rfl
instance : Evl (gPowA (.int 10) (.int 6)) (.pure (.int 1000000)) := ⟨pw_6⟩
instance : Evl (gPowA (.int 10) (.int 7)) (.pure (.int 10000000)) := ⟨pw_7⟩
instance : Evl (gPowA (.int 10) (.int 15)) (.pure (.int 1000000000000000)) := ⟨pw_15⟩
instance : Evl (gPowA (.int 10) (.int 18)) (.pure (.int 1000000000000000000)) := ⟨pw_18⟩
instance : Evl (gPowA (.int 10) (.int 19)) (.pure (.int 10000000000000000000)) := ⟨pw_19⟩
instance : Evl (gPowA (.int 10) (.int 30)) (.pure (.int 1000000000000000000000000000000)) := ⟨pw_30⟩
instance : Evl (gPowA (.int 10) (.int 40)) (.pure (.int 10000000000000000000000000000000000000000)) := ⟨pw_40⟩
theorem iteDT {p A B : Prop} [Decidable p] (hp : p) (h : A) : if decide p = true then A else B := by rw [if_pos (decide_eq_true hp)]; exact h
theorem iteDF {p A B : Prop} [Decidable p] (hp : ¬ p) (h : B) : if decide p = true then A else B := by rw [if_neg (by rw [decide_eq_false hp]; decide)]; exact h
theorem dm_int {i j : Int} (h : 0 < j ∧ j < 2 ^ 200) : gDm (.int i) (.int j) = some (.pure (.tuple [.int (i / j), .int (i % j)])) := if_pos h
theorem mul_i {i j : Int} (h : cMul i j = true) : gMulA (.int i) (.int j) = some (.pure (.int (i * j))) := by
  unfold gMulA orG gI; simp only [h, if_true]
theorem cMul_r {i j : Int} (h : -18446744073709551616 < j ∧ j < 18446744073709551616) : cMul i j = true := by
  unfold cMul
  rw [Bool.or_eq_true]
  exact .inr (by rw [Bool.and_eq_true]; exact ⟨decide_eq_true h.1, decide_eq_true h.2⟩)
theorem cMul_l {i j : Int} (h : -18446744073709551616 < i ∧ i < 18446744073709551616) : cMul i j = true := by
  unfold cMul
  rw [Bool.or_eq_true]
  exact .inl (by rw [Bool.and_eq_true]; exact ⟨decide_eq_true h.1, decide_eq_true h.2⟩)
theorem mul_r {i j : Int} (h : -18446744073709551616 < j ∧ j < 18446744073709551616) : gMulA (.int i) (.int j) = some (.pure (.int (i * j))) := mul_i (cMul_r h)
theorem mul_l {i j : Int} (h : -18446744073709551616 < i ∧ i < 18446744073709551616) : gMulA (.int i) (.int j) = some (.pure (.int (i * j))) := mul_i (cMul_l h)
theorem mod_i {i j : Int} (h : 0 < j) : gModA (.int i) (.int j) = some (.pure (.int (i % j))) := if_pos (decide_eq_true h)
theorem div_i {i j : Int} (h : 0 < j ∧ j < 2 ^ 200) : gDivA (.int i) (.int j) = some (.pure (.int (i / j))) := if_pos (by unfold cDiv; rw [Bool.and_eq_true]; exact ⟨decide_eq_true h.1, decide_eq_true h.2⟩)
local macro_rules | `(tactic| walk_at "lw e") => `(tactic| (repeat (first | (with_reducible refine Stp.go ?_) | (with_reducible apply Exists.intro) | ((with_reducible refine And.intro ?_ ?_); · (first | (with_reducible exact Evl.ev) | ((fail_if_success (with_reducible refine Gd.keep ?_)); rfl) | ((with_reducible apply mul_r); decide) | ((with_reducible apply mul_l); decide) | ((with_reducible apply div_i); decide) | ((with_reducible apply in_R); decide) | (exact Nat.le_of_ble_eq_true rfl) | (simp [refsOf]; done) | (exact ⟨rfl, rfl, by decide⟩) | (exact ⟨rfl, rfl, rfl⟩))) | ((with_reducible apply Sm.vrP); (focus rfl)) | ((with_reducible apply Sm.vrO); (focus rfl)) | (with_reducible refine iteTT ?_) | (with_reducible refine iteT ?_) | (with_reducible refine iteF ?_) | ((with_reducible refine iteB1 ?_ ?_); (focus rfl)) | ((with_reducible refine iteB0 ?_ ?_); (focus rfl)))))
local macro_rules | `(tactic| walk_at "lw n") => `(tactic| (try dsimp only [ent, List.map, Nat.reduceAdd, Nat.reduceSub, List.length_cons, List.length_nil, List.replicate_succ, List.replicate_zero, List.cons_append, List.nil_append, putBack, setOwn, List.getElem?_cons_zero, List.getElem?_cons_succ, List.set_cons_zero, List.set_cons_succ, Sm.nf]))
local macro_rules | `(tactic| walk_at "lw v") => `(tactic| (try simp only [pb1, pb2, pb3, pb4]))
/-- what is drawn from -/
def Box (c : Nat) (ds : List D) : Prop := ∃ x y z : Int, ds = [.int x, .int y, .int z] ∧ 0 ≤ x ∧ 0 ≤ y ∧ y < 2147483647 ∧ 0 ≤ z ∧ z + c ≤ 1000000
theorem Box.less {c c' : Nat} {ds : List D} (h : Box c ds) (k : c' ≤ c) : Box c' ds := by
  obtain ⟨x, y, z, e, h1, h2, h3, h4, h5⟩ := h
  exact ⟨x, y, z, e, h1, h2, h3, h4, by omega⟩
def TakeQ (c : Nat) (k : Int) (r : R) (outs : List S) : Prop := ∃ v ds', r = .pure (.int v) ∧ 0 ≤ v ∧ v < k ∧ Box c ds' ∧ outs = [.own true ds', .pure (.int k)]
theorem take_one {c : Nat} {ds : List D} {k : Int} (hb : Box (c + 1) ds) (h1 : 1 ≤ k) (h2 : k ≤ 10000000) (ms : Fsem) : wpf (runFn (g_l_take ms) 6) [.own true ds, .pure (.int k)] (TakeQ c k) := by
  obtain ⟨x, y, z, rfl, hx, hy, hy2, hz, hz2⟩ := hb
  refine Sm.run ?_
  unfold g_l_take
  walk_at "lw e"
  by_cases hx0 : 0 < x
  · refine iteDT hx0 ?_
    walk_at "lw e"
    refine ⟨dm_int ⟨by omega, by omega⟩, ?_⟩
    walk_at "lw e"
    refine ⟨x % k, [.int (x / k), .int y, .int z], rfl, Int.emod_nonneg _ (by omega), Int.emod_lt_of_pos _ (by omega), ⟨_, _, _, rfl, Int.ediv_nonneg hx (by omega), hy, hy2, hz, by omega⟩, rfl⟩
  · refine iteDF hx0 ?_
    walk_at "lw e"
    refine iteDF (by omega) ?_
    walk_at "lw e"
    have hz1 : (z + 1) * (z + 1) ≤ 1000001 * 1000001 := Int.mul_le_mul (by omega) (by omega) (by omega) (by omega)
    have hz0 : 0 ≤ (z + 1) * (z + 1) := Int.mul_nonneg (by omega) (by omega)
    refine ⟨mul_r (j := z + 1) ⟨by omega, by omega⟩, ?_⟩
    walk_at "lw e"
    refine ⟨mul_l (i := y + 39373 * (z + 1)) ⟨by omega, by omega⟩, ?_⟩
    walk_at "lw e"
    refine ⟨mul_l ⟨by omega, by omega⟩, ?_⟩
    walk_at "lw e"
    refine ⟨mul_l ⟨by omega, by omega⟩, ?_⟩
    walk_at "lw e"
    refine ⟨mod_i (by omega), ?_⟩
    walk_at "lw e"
    refine ⟨_, [.int x, .int y, .int (z + 1)], rfl, Int.emod_nonneg _ (by omega), Int.emod_lt_of_pos _ (by omega), ⟨_, _, _, rfl, hx, hy, hy2, by omega, by omega⟩, rfl⟩
theorem nref {d : D} : ∀ i, R.pure d ≠ .ref i := fun i z => by cases z
theorem nfr {ds : List D} : ∀ i, R.fresh ds ≠ .ref i := fun i z => by cases z
theorem pow7_pos (n : Nat) : (1 : Int) ≤ 10000000 ^ n := by
  induction n with
  | zero => decide
  | succ n ih => rw [Int.pow_succ]; omega
theorem take_ok (n : Nat) : ∀ (c : Nat) (ds : List D) (k : Int), Box (c + 2 ^ (n + 1)) ds → 1 ≤ k → k ≤ 10000000 ^ (n + 1) → k < 1000000000000000000000000000000 → wpf (m_l_take (n + 1)) [.own true ds, .pure (.int k)] (TakeQ c k) := by
  induction n with
  | zero =>
    intro c ds k hb h1 h2 _
    exact take_one (hb.less (by omega)) h1 (by omega) _
  | succ n ih =>
    intro c ds k hb h1 h2 h3
    by_cases hk : k ≤ 10000000
    · exact take_one (hb.less (by have : 0 < 2 ^ (n + 1 + 1) := Nat.two_pow_pos _; omega)) h1 hk _
    · obtain ⟨x, y, z, rfl, hx, hy, hy2, hz, hz2⟩ := hb
      have hq : 0 < (2 : Nat) ^ n := Nat.two_pow_pos n
      have hp : (2 : Nat) ^ (n + 1 + 1) = 2 ^ (n + 1) + 2 ^ (n + 1) := by rw [Nat.pow_succ]; omega
      have hk2 : (k - 1) / 10000000 + 1 ≤ 10000000 ^ (n + 1) := by
        have e : (10000000 : Int) ^ (n + 1 + 1) = 10000000 ^ (n + 1) * 10000000 := Int.pow_succ _ _
        rw [e] at h2
        omega
      have h7 : (10000000 : Int) ≤ 10000000 ^ (n + 1) := by
        have e : (10000000 : Int) ^ (n + 1) = 10000000 ^ n * 10000000 := Int.pow_succ _ _
        have : (1 : Int) ≤ 10000000 ^ n := pow7_pos n
        omega
      show wpf (runFn (g_l_take (m_l_take (n + 1))) 6) _ _
      refine Sm.run ?_
      unfold g_l_take
      walk_at "lw e"
      by_cases hx0 : 0 < x
      · refine iteDT hx0 ?_
        walk_at "lw e"
        refine ⟨dm_int ⟨by omega, by omega⟩, ?_⟩
        walk_at "lw e"
        exact ⟨x % k, [.int (x / k), .int y, .int z], rfl, Int.emod_nonneg _ (by omega), Int.emod_lt_of_pos _ (by omega), ⟨_, _, _, rfl, Int.ediv_nonneg hx (by omega), hy, hy2, hz, by omega⟩, rfl⟩
      · refine iteDF hx0 ?_
        walk_at "lw e"
        refine iteDT (by omega) ?_
        walk_at "lw e"
        refine Sm.fmono (ih (c + 2 ^ (n + 1)) _ 10000000 ⟨x, y, z, rfl, hx, hy, hy2, hz, by omega⟩ (by decide) h7 (by decide)) fun r o h => ?_
        obtain ⟨v1, ds1, rfl, a1, a2, hb1, rfl⟩ := h
        refine ⟨nref, ?_⟩
        walk_at "lw e"
        refine Sm.fmono (ih c _ ((k - 1) / 10000000 + 1) hb1 (by omega) hk2 (by omega)) fun r o h => ?_
        obtain ⟨v2, ds2, rfl, b1, b2, hb2, rfl⟩ := h
        refine ⟨nref, ?_⟩
        walk_at "lw e"
        refine ⟨mod_i (by omega), ?_⟩
        walk_at "lw e"
        exact ⟨_, ds2, rfl, Int.emod_nonneg _ (by omega), Int.emod_lt_of_pos _ (by omega), hb2, rfl⟩
theorem take4 {c : Nat} {ds : List D} {k : Int} (hb : Box (c + 16) ds) (h1 : 1 ≤ k) (h2 : k ≤ 10000000000000000000000000000) : wpf (m_l_take 4) [.own true ds, .pure (.int k)] (TakeQ c k) := take_ok 3 c ds k hb h1 h2 (by omega)
end Lw
namespace Lw
open PySem PySem.Spec PyProof.Rows L2
local macro_rules | `(tactic| walk_at "lw e") => `(tactic| (repeat (first | (with_reducible refine Stp.go ?_) | (with_reducible apply Exists.intro) | ((with_reducible refine And.intro ?_ ?_); · (first | (with_reducible exact Evl.ev) | ((fail_if_success (with_reducible refine Gd.keep ?_)); rfl) | ((with_reducible apply mul_r); decide) | ((with_reducible apply mul_l); decide) | ((with_reducible apply div_i); decide) | ((with_reducible apply in_R); decide) | (exact Nat.le_of_ble_eq_true rfl) | (simp [refsOf]; done) | (exact ⟨rfl, rfl, by decide⟩) | (exact ⟨rfl, rfl, rfl⟩))) | ((with_reducible apply Sm.vrP); (focus rfl)) | ((with_reducible apply Sm.vrO); (focus rfl)) | (with_reducible refine iteTT ?_) | (with_reducible refine iteT ?_) | (with_reducible refine iteF ?_) | ((with_reducible refine iteB1 ?_ ?_); (focus rfl)) | ((with_reducible refine iteB0 ?_ ?_); (focus rfl)))))
local macro_rules | `(tactic| walk_at "lw n") => `(tactic| (try dsimp only [ent, List.map, Nat.reduceAdd, Nat.reduceSub, List.length_cons, List.length_nil, List.replicate_succ, List.replicate_zero, List.cons_append, List.nil_append, putBack, setOwn, List.getElem?_cons_zero, List.getElem?_cons_succ, List.set_cons_zero, List.set_cons_succ, Sm.nf]))
local macro_rules | `(tactic| walk_at "lw v") => `(tactic| (try simp only [pb1, pb2, pb3, pb4]))
abbrev ilist (ns : List Int) : D := .list (ns.map PyData.int)
def cutI (ns : List Int) (lo hi : Option Int) : List Int := (ns.drop (HT.sIx ns.length 0 lo)).take (HT.sIx ns.length ns.length hi - HT.sIx ns.length 0 lo)
theorem cutD_ints (ns : List Int) (lo hi : Option Int) : cutD (ns.map PyData.int) lo hi = (cutI ns lo hi).map PyData.int := by
  unfold cutD cutI
  rw [List.length_map, List.map_take, List.map_drop]
theorem atI_ints {ns : List Int} {i : Int} (h0 : 0 ≤ i) (h1 : i < ns.length) : gIx (ilist ns) (.int i) = some (.pure (.int (ns.getD i.toNat 0))) := by
  have hl : i.toNat < ns.length := by omega
  have : atI (ns.map PyData.int) i = some (.int (ns.getD i.toNat 0)) := by
    unfold atI ixN
    rw [List.length_map]
    simp only [h0, if_true]
    rw [if_pos (by omega)]
    simp [hl]
  show (atI (ns.map PyData.int) i).map R.pure = _
  rw [this]; rfl
def BoxQ (r : R) (_ : List S) : Prop := ∃ ds, r = .fresh ds ∧ Box 1000000 ds
def IntQ (ς0 : En) (r : R) (ς1 : En) : Prop := ∃ i : Int, r = .pure (.int i) ∧ ς1 = ς0
def IntsQ (n : Nat) (r : R) (_ : List S) : Prop := ∃ cs : List Int, r = .fresh (cs.map PyData.int) ∧ cs.length ≤ n
theorem box_ok {ns : List Int} {k : Nat} (hk : k ≤ 100) : wpf m_l_box [.pure (ilist ns), .pure (.int k)] BoxQ := by
  refine Sm.run ?_
  unfold g_l_box
  refine Sm.sq (Sm.asg (Sm.mono (Q := IntQ (ent 3 [.pure (ilist ns), .pure (.int k)])) ?_ ?_))
  · walk_at "lw e"
    rw [List.length_map]
    by_cases h : (k : Int) < ns.length
    · refine iteDT h ?_
      walk_at "lw e"
      exact ⟨atI_ints (by omega) h, _, rfl, rfl⟩
    · refine iteDF h ?_
      walk_at "lw e"
      exact ⟨_, rfl, rfl⟩
  · rintro r ς1 ⟨cell, rfl, rfl⟩
    walk_at "lw e"
    refine ⟨mul_r (by split <;> omega), ?_⟩
    walk_at "lw e"
    refine ⟨_, rfl, _, _, _, rfl, ?_, Int.emod_nonneg _ (by decide), Int.emod_lt_of_pos _ (by decide), by decide, by decide⟩
    have h1 : 0 ≤ (if cell < 0 then -cell else cell) := by split <;> omega
    exact Int.mul_nonneg h1 (by split <;> omega)
theorem enum_ints {ns : List Int} : ∀ {i j : Nat} {d : D}, (enumD i (ns.map PyData.int))[j]? = some d → ∃ n, ns[j]? = some n ∧ d = .tuple [.int ((i + j : Nat) : Int), .int n] := by
  intro i j d h
  rw [enumD_get, List.getElem?_map] at h
  cases q : ns[j]? with
  | none => rw [q] at h; cases h
  | some n => rw [q] at h; cases h; exact ⟨n, rfl, rfl⟩
theorem set_ints (ns : List Int) (i : Nat) (n : Int) : (ns.map PyData.int).set i (.int n) = (ns.set i n).map PyData.int := by rw [List.map_set]
/-- a slot that may be written -/
def Fr : Option S → Prop
  | some (.own true _) => False
  | _ => True
theorem tgN_o {i : Nat} {x : D} {ς : En} {o : Option S} (h : ς[i]? = some o) (f : Fr o) : tgN i x ς = some (ς.set i (some (.pure x))) := by
  unfold tgN free
  rw [h]
  rcases o with _ | _ | ⟨_ | _, _⟩
  · rfl
  · rfl
  · rfl
  · exact f.elim
theorem tgsC_o {i : Nat} {x : D} {xs : List D} {u : Tgs} {ς : En} {o : Option S} (h : ς[i]? = some o) (f : Fr o) : tgsC (tgN i) u (x :: xs) ς = u xs (ς.set i (some (.pure x))) := by
  unfold tgsC
  simp only [tgN_o h f]
theorem tgT2_o {i j : Nat} {x y : D} {ς : En} {a b : Option S} (h1 : ς[i]? = some a) (f1 : Fr a) (h2 : (ς.set i (some (.pure x)))[j]? = some b) (f2 : Fr b) : tgT 2 (tgsC (tgN i) (tgsC (tgN j) tgsN)) (.tuple [x, y]) ς = some ((ς.set i (some (.pure x))).set j (some (.pure y))) := by
  show tgsC (tgN i) (tgsC (tgN j) tgsN) [x, y] ς = _
  rw [tgsC_o h1 f1, tgsC_o h2 f2]
  rfl
theorem tgT3_o {i j k : Nat} {x y z : D} {ς : En} {a b c : Option S} (h1 : ς[i]? = some a) (f1 : Fr a) (h2 : (ς.set i (some (.pure x)))[j]? = some b) (f2 : Fr b) (h3 : ((ς.set i (some (.pure x))).set j (some (.pure y)))[k]? = some c) (f3 : Fr c) : tgT 3 (tgsC (tgN i) (tgsC (tgN j) (tgsC (tgN k) tgsN))) (.tuple [x, y, z]) ς = some (((ς.set i (some (.pure x))).set j (some (.pure y))).set k (some (.pure z))) := by
  show tgsC (tgN i) (tgsC (tgN j) (tgsC (tgN k) tgsN)) [x, y, z] ς = _
  rw [tgsC_o h1 f1, tgsC_o h2 f2, tgsC_o h3 f3]
  rfl
theorem Sm.asgS {ς : En} {Q : Out → Prop} {f fo fi : M R} (h : wp f ς fun r ς1 => ∃ d ς2, toD r ς1 = some (d, ς2) ∧ wp fo ς2 fun r ς3 => ∃ i, r = .ref i ∧ wp fi ς3 fun r2 ς4 => ∃ j n b ds, rdD r2 ς4 = some (.int j) ∧ ς4[i]? = some (some (.own b ds)) ∧ ixN ds.length j = some n ∧ Q (.nx (ς4.set i (some (.own b (ds.set n d)))))) : wps (Lw.asg f (tgS fo fi)) ς Q := by
  refine Sm.asg (Sm.mono h fun r ς1 h => ?_)
  obtain ⟨d, ς2, e, r2, ς3, e2, i, rfl, r3, ς4, e3, j, n, b, ds, e4, e5, e6, q⟩ := h
  refine ⟨d, ς2, _, e, ?_, q⟩
  have hp : Lw.ptS fi ς3 = some (some j, ς4) := by
    obtain ⟨a, ς', ee, qq⟩ : wp (Lw.ptS fi) ς3 (fun a ς' => a = some j ∧ ς' = ς4) := Sm.ptS ⟨r3, ς4, e3, j, e4, rfl, rfl⟩
    obtain ⟨rfl, rfl⟩ := qq
    exact ee
  unfold tgS
  rw [e2]
  simp only [hp, e5, e6]
namespace Sm
section
variable {ς : En}
instance stp_asgS {ς : En} {Q : Out → Prop} {f fo fi : M R} : Stp (wps (Lw.asg f (tgS fo fi)) ς Q) (wp f ς fun r ς1 => ∃ d ς2, toD r ς1 = some (d, ς2) ∧ wp fo ς2 fun r ς3 => ∃ i, r = .ref i ∧ wp fi ς3 fun r2 ς4 => ∃ j n b ds, rdD r2 ς4 = some (.int j) ∧ ς4[i]? = some (some (.own b ds)) ∧ ixN ds.length j = some n ∧ Q (.nx (ς4.set i (some (.own b (ds.set n d)))))) := ⟨Sm.asgS⟩
end
end Sm
theorem ix_in {n : Nat} {i : Int} (h0 : 0 ≤ i) (h1 : i < n) : ixN n i = some i.toNat := by
  unfold ixN
  rw [if_pos h0, if_pos (by omega)]
local macro_rules | `(tactic| walk_at "lw e") => `(tactic| (repeat (first | (with_reducible refine Stp.go ?_) | (with_reducible apply Exists.intro) | ((with_reducible refine And.intro ?_ ?_); · (first | (with_reducible exact Evl.ev) | ((fail_if_success (with_reducible refine Gd.keep ?_)); rfl) | ((with_reducible apply mul_r); decide) | ((with_reducible apply mul_l); decide) | ((with_reducible apply div_i); decide) | ((with_reducible apply in_R); decide) | (exact Nat.le_of_ble_eq_true rfl) | (simp [refsOf]; done) | (exact ⟨rfl, rfl, by decide⟩) | (exact ⟨rfl, rfl, rfl⟩))) | ((with_reducible apply Sm.vrP); (focus rfl)) | ((with_reducible apply Sm.vrO); (focus rfl)) | (with_reducible refine iteTT ?_) | (with_reducible refine iteT ?_) | (with_reducible refine iteF ?_) | ((with_reducible refine iteB1 ?_ ?_); (focus rfl)) | ((with_reducible refine iteB0 ?_ ?_); (focus rfl)))))
local macro_rules | `(tactic| walk_at "lw n") => `(tactic| (try dsimp only [ent, List.map, Nat.reduceAdd, Nat.reduceSub, List.length_cons, List.length_nil, List.replicate_succ, List.replicate_zero, List.cons_append, List.nil_append, putBack, setOwn, List.getElem?_cons_zero, List.getElem?_cons_succ, List.set_cons_zero, List.set_cons_succ, Sm.nf]))
local macro_rules | `(tactic| walk_at "lw v") => `(tactic| (try simp only [pb1, pb2, pb3, pb4]))
theorem cut_lt {ns : List Int} {s : Nat} (h : 0 < (cutI ns (some (s : Int)) (some 63)).length) (hl : ns.length ≤ 63) : (cutI ns none (some (s : Int))).length = s := by
  unfold cutI at h ⊢
  simp only [List.length_take, List.length_drop] at h ⊢
  have e : ∀ d, HT.sIx ns.length d (some (s : Int)) = min s ns.length := by
    intro d
    unfold HT.sIx
    simp only
    split <;> omega
  rw [e] at h ⊢
  have e0 : HT.sIx ns.length 0 none = 0 := rfl
  rw [e0] at *
  omega
theorem folded_ok {ns : List Int} {s : Nat} (hl : ns.length ≤ 63) (h1 : 1 ≤ s) (h2 : s ≤ 60) : wpf m_l_folded [.pure (ilist ns), .pure (.int s)] (IntsQ s) := by
  refine Sm.run ?_
  unfold g_l_folded
  walk_at "lw e"
  rw [cutD_ints, cutD_ints]
  refine Sm.loopInv (fun _ ς => ∃ cs : List Int, ∃ a b, ς = [some (.pure (ilist ns)), some (.pure (.int s)), some (.own false (cs.map PyData.int)), a, b] ∧ cs.length = (cutI ns none (some (s : Int))).length ∧ Fr a ∧ Fr b) ⟨_, _, _, rfl, rfl, trivial, trivial⟩ ?_ ?_
  · rintro i d ς hd ⟨cs, a, b, rfl, hc, fa, fb⟩
    obtain ⟨n, hn, rfl⟩ := enum_ints hd
    refine ⟨_, tgT2_o rfl fa rfl fb, ?_⟩
    have hi : i < (cutI ns (some (s : Int)) (some 63)).length := by
      obtain ⟨h, -⟩ := List.getElem?_eq_some_iff.1 hn
      exact h
    have hlt : 0 < (cutI ns (some (s : Int)) (some 63)).length := by omega
    have hi63 : i < 63 := by
      unfold cutI at hi
      rw [List.length_take, List.length_drop] at hi
      omega
    have hcs : cs.length = s := hc.trans (cut_lt hlt hl)
    have hm : ((0 + i : Nat) : Int) % (s : Int) < s := Int.emod_lt_of_pos _ (by omega)
    have hm0 : 0 ≤ ((0 + i : Nat) : Int) % (s : Int) := Int.emod_nonneg _ (by omega)
    walk_at "lw e"
    refine ⟨mod_i (by omega), ?_⟩
    walk_at "lw e"
    refine ⟨atI_ints hm0 (by omega), ?_⟩
    walk_at "lw e"
    refine ⟨mul_r (by omega), ?_⟩
    walk_at "lw e"
    refine ⟨mod_i (by omega), ?_⟩
    walk_at "lw e"
    refine ⟨ix_in hm0 (by rw [List.length_map]; omega), ?_⟩
    dsimp only
    rw [set_ints]
    exact ⟨_, _, _, rfl, by rw [List.length_set]; exact hc, trivial, trivial⟩
  · rintro ς ⟨cs, a, b, rfl, hc, fa, fb⟩
    walk_at "lw e"
    refine Sm.oM rfl (Sm.fF ⟨cs, rfl, ?_⟩)
    rw [hc]
    unfold cutI
    rw [List.length_take, HT.sIx_nat]
    omega
end Lw
namespace Lw
open PySem PySem.Spec PyProof.Rows L2
local macro_rules | `(tactic| walk_at "lw e") => `(tactic| (repeat (first | (with_reducible refine Stp.go ?_) | (with_reducible apply Exists.intro) | ((with_reducible refine And.intro ?_ ?_); · (first | (with_reducible exact Evl.ev) | ((fail_if_success (with_reducible refine Gd.keep ?_)); rfl) | ((with_reducible apply mul_r); decide) | ((with_reducible apply mul_l); decide) | ((with_reducible apply div_i); decide) | ((with_reducible apply in_R); decide) | (exact Nat.le_of_ble_eq_true rfl) | (simp [refsOf]; done) | (exact ⟨rfl, rfl, by decide⟩) | (exact ⟨rfl, rfl, rfl⟩))) | ((with_reducible apply Sm.vrP); (focus rfl)) | ((with_reducible apply Sm.vrO); (focus rfl)) | (with_reducible refine iteTT ?_) | (with_reducible refine iteT ?_) | (with_reducible refine iteF ?_) | ((with_reducible refine iteB1 ?_ ?_); (focus rfl)) | ((with_reducible refine iteB0 ?_ ?_); (focus rfl)))))
local macro_rules | `(tactic| walk_at "lw n") => `(tactic| (try dsimp only [ent, List.map, Nat.reduceAdd, Nat.reduceSub, List.length_cons, List.length_nil, List.replicate_succ, List.replicate_zero, List.cons_append, List.nil_append, putBack, setOwn, List.getElem?_cons_zero, List.getElem?_cons_succ, List.set_cons_zero, List.set_cons_succ, Sm.nf]))
local macro_rules | `(tactic| walk_at "lw v") => `(tactic| (try simp only [pb1, pb2, pb3, pb4]))
/-- a leaf whose numbers are at most B -/
def lfb (B : Nat) : D → Bool
  | .none => true
  | .bool _ => true
  | .int i => decide (i.natAbs ≤ B)
  | .str x => PyData.strOk x
  | _ => false
/-- a thing at most e deep, its numbers at most B -/
def fnb (B : Nat) : Nat → D → Bool
  | 0, d => lfb B d
  | e + 1, d => match d with
    | .list xs => xs.all (fnb B e)
    | .tuple xs => xs.all (fnb B e)
    | d => lfb B d
theorem lfb_fnb {B e : Nat} {d : D} (h : lfb B d = true) : fnb B e d = true := by
  cases e with
  | zero => exact h
  | succ e => cases d <;> first | exact h | cases h
theorem lay_all {xs : List D} (h : ∀ x ∈ xs, PyData.canLay0 x = true) : PyData.canLayAll0 xs = true := by
  induction xs with
  | nil => rfl
  | cons x xs ih => rw [PyData.canLayAll0, h x (by simp), ih fun y hy => h y (by simp [hy])]; rfl
theorem depth_all {e : Nat} {xs : List D} (h : ∀ x ∈ xs, PyData.depth x ≤ e) : PyData.depthAll xs ≤ e := by
  induction xs with
  | nil => exact Nat.zero_le _
  | cons x xs ih => rw [PyData.depthAll]; exact Nat.max_le.2 ⟨h x (by simp), ih fun y hy => h y (by simp [hy])⟩
theorem fn_mono {B B' : Nat} (hB : B ≤ B') : ∀ (e e' : Nat) (d : D), e ≤ e' → fnb B e d = true → fnb B' e' d = true := by
  have hl : ∀ d, lfb B d = true → lfb B' d = true := fun d h => by
    cases d <;> first | exact h | (exact decide_eq_true (Nat.le_trans (of_decide_eq_true h) hB))
  intro e
  induction e with
  | zero => intro e' d _ h; exact lfb_fnb (hl d h)
  | succ e ih =>
    intro e' d he h
    obtain ⟨f, rfl⟩ : ∃ f, e' = f + 1 := ⟨e' - 1, by omega⟩
    cases d with
    | list xs =>
      have h' : xs.all (fnb B e) = true := h
      show xs.all (fnb B' f) = true
      rw [List.all_eq_true] at h' ⊢
      exact fun x m => ih f x (by omega) (h' x m)
    | tuple xs =>
      have h' : xs.all (fnb B e) = true := h
      show xs.all (fnb B' f) = true
      rw [List.all_eq_true] at h' ⊢
      exact fun x m => ih f x (by omega) (h' x m)
    | none => rfl
    | bool b => rfl
    | int i => exact hl (.int i) h
    | str i => exact hl (.str i) h
    | dict kv => cases h
theorem eqv_str {a b : Str} : PyData.eqv (.str a) (.str b) = decide (a = b) := by
  show (a == b) = decide (a = b)
  by_cases h : a = b <;> simp [h]
theorem ne_ok {x y : D} (hx : SeqAt.shaped x = true) (hy : SeqAt.shaped y = true) : gNe x y = some (.pure (.bool (!PyData.eqv x y))) := by
  have h0 : gNe0 x y = some (.pure (.bool (!PyData.eqv x y))) := if_pos ⟨hx, hy⟩
  cases x with
  | str a =>
    cases y with
    | str b => rw [eqv_str]; rfl
    | _ => exact h0
  | _ => exact h0
end Lw
namespace Lw
open PySem PySem.Spec PyProof.Rows L2
local macro_rules | `(tactic| walk_at "lw e") => `(tactic| (repeat (first | (with_reducible refine Stp.go ?_) | (with_reducible apply Exists.intro) | ((with_reducible refine And.intro ?_ ?_); · (first | (with_reducible exact Evl.ev) | ((fail_if_success (with_reducible refine Gd.keep ?_)); rfl) | ((with_reducible apply mul_r); decide) | ((with_reducible apply mul_l); decide) | ((with_reducible apply div_i); decide) | ((with_reducible apply in_R); decide) | (exact Nat.le_of_ble_eq_true rfl) | (simp [refsOf]; done) | (exact ⟨rfl, rfl, by decide⟩) | (exact ⟨rfl, rfl, rfl⟩))) | ((with_reducible apply Sm.vrP); (focus rfl)) | ((with_reducible apply Sm.vrO); (focus rfl)) | (with_reducible refine iteTT ?_) | (with_reducible refine iteT ?_) | (with_reducible refine iteF ?_) | ((with_reducible refine iteB1 ?_ ?_); (focus rfl)) | ((with_reducible refine iteB0 ?_ ?_); (focus rfl)))))
local macro_rules | `(tactic| walk_at "lw n") => `(tactic| (try dsimp only [ent, List.map, Nat.reduceAdd, Nat.reduceSub, List.length_cons, List.length_nil, List.replicate_succ, List.replicate_zero, List.cons_append, List.nil_append, putBack, setOwn, List.getElem?_cons_zero, List.getElem?_cons_succ, List.set_cons_zero, List.set_cons_succ, Sm.nf]))
local macro_rules | `(tactic| walk_at "lw v") => `(tactic| (try simp only [pb1, pb2, pb3, pb4]))
theorem at_list {xs : List D} {i : Int} (h0 : 0 ≤ i) (h1 : i < xs.length) : gIx (.list xs) (.int i) = some (.pure (xs.getD i.toNat .none)) := by
  have hl : i.toNat < xs.length := by omega
  have : atI xs i = some (xs.getD i.toNat .none) := by
    unfold atI ixN
    simp only [h0, if_true]
    rw [if_pos (by omega)]
    simp [hl]
  show (atI xs i).map R.pure = _
  rw [this]; rfl
theorem at_tup {xs : List D} {i : Int} (h0 : 0 ≤ i) (h1 : i < xs.length) : gIx (.tuple xs) (.int i) = some (.pure (xs.getD i.toNat .none)) := at_list h0 h1
/-- something was drawn: P holds of it -/
def DrawQ (c : Nat) (P : D → Prop) (rest : List S) (r : R) (outs : List S) : Prop := ∃ d ds', r = .pure d ∧ P d ∧ Box c ds' ∧ outs = .own true ds' :: rest
theorem rng_at {n i : Nat} {d : D} (h : (rngD 0 n)[i]? = some d) : i < n ∧ d = .int i := by
  have hl : i < n := by
    obtain ⟨h1, -⟩ := List.getElem?_eq_some_iff.1 h
    rw [rngD_len] at h1
    exact h1
  rw [rngD_get n 0 i hl] at h
  cases h
  exact ⟨hl, by rw [Int.zero_add]⟩
theorem in_R {i : Int} (h : -1000 ≤ i ∧ i ≤ 100000) : inR i = true := by
  unfold inR
  rw [Bool.and_eq_true]
  exact ⟨decide_eq_true (by omega), decide_eq_true (by omega)⟩
theorem app_ok {ds : List D} {d : D} (h : ds.length < 10000) : hApp ds [d] = some (.none, ds ++ [d]) := by
  unfold hApp
  have hs : sizeLine = 16777216 := rfl
  exact if_pos (by omega)
end Lw
namespace Lw
open PySem PySem.Spec PyProof.Rows L2
local macro_rules | `(tactic| walk_at "lw e") => `(tactic| (repeat (first | (with_reducible refine Stp.go ?_) | (with_reducible apply Exists.intro) | ((with_reducible refine And.intro ?_ ?_); · (first | (with_reducible exact Evl.ev) | ((fail_if_success (with_reducible refine Gd.keep ?_)); rfl) | ((with_reducible apply mul_r); decide) | ((with_reducible apply mul_l); decide) | ((with_reducible apply div_i); decide) | ((with_reducible apply in_R); decide) | (exact Nat.le_of_ble_eq_true rfl) | (simp [refsOf]; done) | (exact ⟨rfl, rfl, by decide⟩) | (exact ⟨rfl, rfl, rfl⟩))) | ((with_reducible apply Sm.vrP); (focus rfl)) | ((with_reducible apply Sm.vrO); (focus rfl)) | (with_reducible refine iteTT ?_) | (with_reducible refine iteT ?_) | (with_reducible refine iteF ?_) | ((with_reducible refine iteB1 ?_ ?_); (focus rfl)) | ((with_reducible refine iteB0 ?_ ?_); (focus rfl)))))
local macro_rules | `(tactic| walk_at "lw n") => `(tactic| (try dsimp only [ent, List.map, Nat.reduceAdd, Nat.reduceSub, List.length_cons, List.length_nil, List.replicate_succ, List.replicate_zero, List.cons_append, List.nil_append, putBack, setOwn, List.getElem?_cons_zero, List.getElem?_cons_succ, List.set_cons_zero, List.set_cons_succ, Sm.nf]))
local macro_rules | `(tactic| walk_at "lw v") => `(tactic| (try simp only [pb1, pb2, pb3, pb4]))
def ValQ (P : D → Prop) (r : R) (_ : List S) : Prop := ∃ d, r = .pure d ∧ P d
abbrev TrueQ : R → List S → Prop := ValQ fun d => d = .bool true
theorem iteB1 {b : Bool} {A B : Prop} (e : b = true) (h : A) : if b = true then A else B := by rw [if_pos e]; exact h
theorem iteB0 {b : Bool} {A B : Prop} (e : b = false) (h : B) : if b = true then A else B := by rw [if_neg (by rw [e]; decide)]; exact h
def lcQ (vs : List Nat) (tg : Tg) (tt : M Bool) (fe : M R) (ds : List D) (ς : En) (Q : List D → En → Prop) : Prop := ∃ acc ς2, lcLoop vs tg tt fe ds [] ς = some (acc, ς2) ∧ Q acc ς2
theorem Sm.lcE2 {ς : En} {fi : M (List D)} {vs : List Nat} {tg : Tg} {tt : M Bool} {fe : M R} {Q : R → En → Prop}
    (h : wp fi ς fun ds ς1 => freeAll ς1 vs = true ∧ lcQ vs tg tt fe ds (wipeE ς1 vs) fun acc ς2 => Q (.fresh acc) ς2) : wp (Lw.lcE fi vs tg tt fe) ς Q := Sm.lcE h
namespace Sm
section
variable {ς : En}
instance stp_lcE2 {ς : En} {fi : M (List D)} {vs : List Nat} {tg : Tg} {tt : M Bool} {fe : M R} {Q : R → En → Prop} : Stp (wp (Lw.lcE fi vs tg tt fe) ς Q) (wp fi ς fun ds ς1 => freeAll ς1 vs = true ∧ lcQ vs tg tt fe ds (wipeE ς1 vs) fun acc ς2 => Q (.fresh acc) ς2) := ⟨Sm.lcE2⟩
end
end Sm
theorem Sm.lcPure {ς : En} {vs : List Nat} {tg : Tg} {fe : M R} {ds : List D} {Q : List D → En → Prop} (f : D → D) (hlen : ds.length ≤ sizeLine)
    (hs : ∀ d ∈ ds, ∃ ς1, tg d ς = some ς1 ∧ wp fe ς1 fun r ς2 => ∃ ς3, toD r ς2 = some (f d, ς3) ∧ freeAll ς3 vs = true ∧ wipeE ς3 vs = ς)
    (hd : Q (ds.map f) ς) : lcQ vs tg (Lw.ret true) fe ds ς Q := by
  refine Sm.lcInv (fun i acc ς' => acc = (ds.take i).map f ∧ ς' = ς) ⟨by simp, rfl⟩ hlen ?_ ?_
  · rintro i d acc ς' hi _ ⟨rfl, rfl⟩
    obtain ⟨ς1, e1, h⟩ := hs d (List.mem_of_getElem? hi)
    refine ⟨ς1, e1, Sm.mono h fun r ς2 h => ?_⟩
    obtain ⟨ς3, e3, hf, hw⟩ := h
    refine ⟨_, ς3, e3, hf, ?_, hw⟩
    rw [List.take_add_one, hi]
    simp
  · rintro acc ς' _ ⟨rfl, rfl⟩
    rw [List.take_length]
    exact hd
local macro_rules | `(tactic| walk_at "lw e") => `(tactic| (repeat (first | (with_reducible refine Stp.go ?_) | (with_reducible apply Exists.intro) | ((with_reducible refine And.intro ?_ ?_); · (first | (with_reducible exact Evl.ev) | ((fail_if_success (with_reducible refine Gd.keep ?_)); rfl) | ((with_reducible apply mul_r); decide) | ((with_reducible apply mul_l); decide) | ((with_reducible apply div_i); decide) | ((with_reducible apply in_R); decide) | (exact Nat.le_of_ble_eq_true rfl) | (simp [refsOf]; done) | (exact ⟨rfl, rfl, by decide⟩) | (exact ⟨rfl, rfl, rfl⟩))) | ((with_reducible apply Sm.vrP); (focus rfl)) | ((with_reducible apply Sm.vrO); (focus rfl)) | (with_reducible refine iteTT ?_) | (with_reducible refine iteT ?_) | (with_reducible refine iteF ?_) | ((with_reducible refine iteB1 ?_ ?_); (focus rfl)) | ((with_reducible refine iteB0 ?_ ?_); (focus rfl)))))
local macro_rules | `(tactic| walk_at "lw n") => `(tactic| (try dsimp only [ent, List.map, Nat.reduceAdd, Nat.reduceSub, List.length_cons, List.length_nil, List.replicate_succ, List.replicate_zero, List.cons_append, List.nil_append, putBack, setOwn, List.getElem?_cons_zero, List.getElem?_cons_succ, List.set_cons_zero, List.set_cons_succ, Sm.nf]))
local macro_rules | `(tactic| walk_at "lw v") => `(tactic| (try simp only [pb1, pb2, pb3, pb4]))
theorem bools_mk : ∀ bs : List Bool, bools (bs.map PyData.bool) = some bs
  | [] => rfl
  | b :: bs => by rw [List.map_cons, bools, bools_mk bs]
theorem all_mk {xs : List D} {p : D → Bool} : gAll (.list (xs.map fun x => .bool (p x))) = some (.pure (.bool (xs.all p))) := by
  unfold gAll
  have : xs.map (fun x => PyData.bool (p x)) = (xs.map p).map PyData.bool := by rw [List.map_map]; rfl
  rw [this]
  simp only [bools_mk]
  rw [List.all_map]; rfl
theorem eqv_int {a b : Int} : PyData.eqv (.int a) (.int b) = decide (a = b) := by
  show (a == b) = decide (a = b)
  by_cases h : a = b <;> simp [h]
theorem pb0 {o : List S} {ς : En} : putBack [] o ς = ς := by cases o <;> rfl
theorem pbv {a : D} {as : List Ar} {o : List S} {ς : En} (h : ∀ o, putBack as o ς = ς) : putBack (.val a :: as) o ς = ς := by
  cases o with
  | nil => rfl
  | cons s o => exact h o
theorem pb1 {a : D} {o : List S} {ς : En} : putBack [.val a] o ς = ς := pbv fun _ => pb0
theorem pb2 {a b : D} {o : List S} {ς : En} : putBack [.val a, .val b] o ς = ς := pbv fun _ => pb1
theorem pb3 {a b c : D} {o : List S} {ς : En} : putBack [.val a, .val b, .val c] o ς = ς := pbv fun _ => pb2
theorem pb4 {a b c d : D} {o : List S} {ς : En} : putBack [.val a, .val b, .val c, .val d] o ς = ς := pbv fun _ => pb3
local macro_rules | `(tactic| walk_at "lw e") => `(tactic| (repeat (first | (with_reducible refine Stp.go ?_) | (with_reducible apply Exists.intro) | ((with_reducible refine And.intro ?_ ?_); · (first | (with_reducible exact Evl.ev) | ((fail_if_success (with_reducible refine Gd.keep ?_)); rfl) | ((with_reducible apply mul_r); decide) | ((with_reducible apply mul_l); decide) | ((with_reducible apply div_i); decide) | ((with_reducible apply in_R); decide) | (exact Nat.le_of_ble_eq_true rfl) | (simp [refsOf]; done) | (exact ⟨rfl, rfl, by decide⟩) | (exact ⟨rfl, rfl, rfl⟩))) | ((with_reducible apply Sm.vrP); (focus rfl)) | ((with_reducible apply Sm.vrO); (focus rfl)) | (with_reducible refine iteTT ?_) | (with_reducible refine iteT ?_) | (with_reducible refine iteF ?_) | ((with_reducible refine iteB1 ?_ ?_); (focus rfl)) | ((with_reducible refine iteB0 ?_ ?_); (focus rfl)))))
local macro_rules | `(tactic| walk_at "lw n") => `(tactic| (try dsimp only [ent, List.map, Nat.reduceAdd, Nat.reduceSub, List.length_cons, List.length_nil, List.replicate_succ, List.replicate_zero, List.cons_append, List.nil_append, putBack, setOwn, List.getElem?_cons_zero, List.getElem?_cons_succ, List.set_cons_zero, List.set_cons_succ, Sm.nf]))
local macro_rules | `(tactic| walk_at "lw v") => `(tactic| (try simp only [pb1, pb2, pb3, pb4]))
end Lw
namespace Lw
open PySem PySem.Spec PyProof.Rows L2
local macro_rules | `(tactic| walk_at "lw e") => `(tactic| (repeat (first | (with_reducible refine Stp.go ?_) | (with_reducible apply Exists.intro) | ((with_reducible refine And.intro ?_ ?_); · (first | (with_reducible exact Evl.ev) | ((fail_if_success (with_reducible refine Gd.keep ?_)); rfl) | ((with_reducible apply mul_r); decide) | ((with_reducible apply mul_l); decide) | ((with_reducible apply div_i); decide) | ((with_reducible apply in_R); decide) | (exact Nat.le_of_ble_eq_true rfl) | (simp [refsOf]; done) | (exact ⟨rfl, rfl, by decide⟩) | (exact ⟨rfl, rfl, rfl⟩))) | ((with_reducible apply Sm.vrP); (focus rfl)) | ((with_reducible apply Sm.vrO); (focus rfl)) | (with_reducible refine iteTT ?_) | (with_reducible refine iteT ?_) | (with_reducible refine iteF ?_) | ((with_reducible refine iteB1 ?_ ?_); (focus rfl)) | ((with_reducible refine iteB0 ?_ ?_); (focus rfl)))))
local macro_rules | `(tactic| walk_at "lw n") => `(tactic| (try dsimp only [ent, List.map, Nat.reduceAdd, Nat.reduceSub, List.length_cons, List.length_nil, List.replicate_succ, List.replicate_zero, List.cons_append, List.nil_append, putBack, setOwn, List.getElem?_cons_zero, List.getElem?_cons_succ, List.set_cons_zero, List.set_cons_succ, Sm.nf]))
local macro_rules | `(tactic| walk_at "lw v") => `(tactic| (try simp only [pb1, pb2, pb3, pb4]))
theorem strOk_str (s : String) : PyData.strOk (Str.ofString s) = true := by
  rw [PySem.Str.ofString_eq_toList]
  unfold PyData.strOk
  simp only [List.all_toArray, List.all_map, List.all_eq_true, Function.comp]
  intro c _
  exact decide_eq_true (by
    have := c.valid
    rcases this with h | h
    · exact Nat.lt_trans h (by decide)
    · exact h.2)
end Lw
namespace Lw
open PySem PySem.Spec PyProof.Rows L2
local macro_rules | `(tactic| walk_at "lw e") => `(tactic| (repeat (first | (with_reducible refine Stp.go ?_) | (with_reducible apply Exists.intro) | ((with_reducible refine And.intro ?_ ?_); · (first | (with_reducible exact Evl.ev) | ((fail_if_success (with_reducible refine Gd.keep ?_)); rfl) | ((with_reducible apply mul_r); decide) | ((with_reducible apply mul_l); decide) | ((with_reducible apply div_i); decide) | ((with_reducible apply in_R); decide) | (exact Nat.le_of_ble_eq_true rfl) | (simp [refsOf]; done) | (exact ⟨rfl, rfl, by decide⟩) | (exact ⟨rfl, rfl, rfl⟩))) | ((with_reducible apply Sm.vrP); (focus rfl)) | ((with_reducible apply Sm.vrO); (focus rfl)) | (with_reducible refine iteTT ?_) | (with_reducible refine iteT ?_) | (with_reducible refine iteF ?_) | ((with_reducible refine iteB1 ?_ ?_); (focus rfl)) | ((with_reducible refine iteB0 ?_ ?_); (focus rfl)))))
local macro_rules | `(tactic| walk_at "lw n") => `(tactic| (try dsimp only [ent, List.map, Nat.reduceAdd, Nat.reduceSub, List.length_cons, List.length_nil, List.replicate_succ, List.replicate_zero, List.cons_append, List.nil_append, putBack, setOwn, List.getElem?_cons_zero, List.getElem?_cons_succ, List.set_cons_zero, List.set_cons_succ, Sm.nf]))
local macro_rules | `(tactic| walk_at "lw v") => `(tactic| (try simp only [pb1, pb2, pb3, pb4]))
theorem tix0 {w : D} {r : List D} : gIx (.tuple (w :: r)) (.int 0) = some (.pure w) := at_tup (xs := w :: r) (by decide) (by rw [List.length_cons]; omega)
theorem tix1 {w y : D} {r : List D} : gIx (.tuple (w :: y :: r)) (.int 1) = some (.pure y) := at_tup (xs := w :: y :: r) (by decide) (by rw [List.length_cons, List.length_cons]; omega)
theorem tix2 {w y z : D} {r : List D} : gIx (.tuple (w :: y :: z :: r)) (.int 2) = some (.pure z) := at_tup (xs := w :: y :: z :: r) (by decide) (by rw [List.length_cons, List.length_cons, List.length_cons]; omega)
instance {w : D} {r : List D} : Evl (gIx (.tuple (w :: r)) (.int 0)) (.pure w) := ⟨tix0⟩
instance {w y : D} {r : List D} : Evl (gIx (.tuple (w :: y :: r)) (.int 1)) (.pure y) := ⟨tix1⟩
instance {w y z : D} {r : List D} : Evl (gIx (.tuple (w :: y :: z :: r)) (.int 2)) (.pure z) := ⟨tix2⟩
local macro_rules | `(tactic| walk_at "lw e") => `(tactic| (repeat (first | (with_reducible refine Stp.go ?_) | (with_reducible apply Exists.intro) | ((with_reducible refine And.intro ?_ ?_); · (first | (with_reducible exact Evl.ev) | ((fail_if_success (with_reducible refine Gd.keep ?_)); rfl) | ((with_reducible apply mul_r); decide) | ((with_reducible apply mul_l); decide) | ((with_reducible apply div_i); decide) | ((with_reducible apply in_R); decide) | (exact Nat.le_of_ble_eq_true rfl) | (simp [refsOf]; done) | (exact ⟨rfl, rfl, by decide⟩) | (exact ⟨rfl, rfl, rfl⟩))) | ((with_reducible apply Sm.vrP); (focus rfl)) | ((with_reducible apply Sm.vrO); (focus rfl)) | (with_reducible refine iteTT ?_) | (with_reducible refine iteT ?_) | (with_reducible refine iteF ?_) | ((with_reducible refine iteB1 ?_ ?_); (focus rfl)) | ((with_reducible refine iteB0 ?_ ?_); (focus rfl)))))
local macro_rules | `(tactic| walk_at "lw n") => `(tactic| (try dsimp only [ent, List.map, Nat.reduceAdd, Nat.reduceSub, List.length_cons, List.length_nil, List.replicate_succ, List.replicate_zero, List.cons_append, List.nil_append, putBack, setOwn, List.getElem?_cons_zero, List.getElem?_cons_succ, List.set_cons_zero, List.set_cons_succ, Sm.nf]))
local macro_rules | `(tactic| walk_at "lw v") => `(tactic| (try simp only [pb1, pb2, pb3, pb4]))
theorem wpf_law {m : Fsem} {ss : List S} (h : wpf m ss TrueQ) : ∃ outs, m ss = some (.pure (.bool true), outs) := by
  obtain ⟨r, o, e, d, rfl, rfl⟩ := h
  exact ⟨o, e⟩
end Lw
namespace Lw
open PySem PySem.Spec PyProof.Rows L2
local macro_rules | `(tactic| walk_at "lw e") => `(tactic| (repeat (first | (with_reducible refine Stp.go ?_) | (with_reducible apply Exists.intro) | ((with_reducible refine And.intro ?_ ?_); · (first | (with_reducible exact Evl.ev) | ((fail_if_success (with_reducible refine Gd.keep ?_)); rfl) | ((with_reducible apply mul_r); decide) | ((with_reducible apply mul_l); decide) | ((with_reducible apply div_i); decide) | ((with_reducible apply in_R); decide) | (exact Nat.le_of_ble_eq_true rfl) | (simp [refsOf]; done) | (exact ⟨rfl, rfl, by decide⟩) | (exact ⟨rfl, rfl, rfl⟩))) | ((with_reducible apply Sm.vrP); (focus rfl)) | ((with_reducible apply Sm.vrO); (focus rfl)) | (with_reducible refine iteTT ?_) | (with_reducible refine iteT ?_) | (with_reducible refine iteF ?_) | ((with_reducible refine iteB1 ?_ ?_); (focus rfl)) | ((with_reducible refine iteB0 ?_ ?_); (focus rfl)))))
local macro_rules | `(tactic| walk_at "lw n") => `(tactic| (try dsimp only [ent, List.map, Nat.reduceAdd, Nat.reduceSub, List.length_cons, List.length_nil, List.replicate_succ, List.replicate_zero, List.cons_append, List.nil_append, putBack, setOwn, List.getElem?_cons_zero, List.getElem?_cons_succ, List.set_cons_zero, List.set_cons_succ, Sm.nf]))
local macro_rules | `(tactic| walk_at "lw v") => `(tactic| (try simp only [pb1, pb2, pb3, pb4]))
theorem iteTT {A B : Prop} (h : A) : if True then A else B := by rw [if_pos trivial]; exact h
local macro_rules | `(tactic| walk_at "lw e") => `(tactic| (repeat (first | (with_reducible refine Stp.go ?_) | (with_reducible apply Exists.intro) | ((with_reducible refine And.intro ?_ ?_); · (first | (with_reducible exact Evl.ev) | ((fail_if_success (with_reducible refine Gd.keep ?_)); rfl) | ((with_reducible apply mul_r); decide) | ((with_reducible apply mul_l); decide) | ((with_reducible apply div_i); decide) | ((with_reducible apply in_R); decide) | (exact Nat.le_of_ble_eq_true rfl) | (simp [refsOf]; done) | (exact ⟨rfl, rfl, by decide⟩) | (exact ⟨rfl, rfl, rfl⟩))) | ((with_reducible apply Sm.vrP); (focus rfl)) | ((with_reducible apply Sm.vrO); (focus rfl)) | (with_reducible refine iteTT ?_) | (with_reducible refine iteT ?_) | (with_reducible refine iteF ?_) | ((with_reducible refine iteB1 ?_ ?_); (focus rfl)) | ((with_reducible refine iteB0 ?_ ?_); (focus rfl)))))
local macro_rules | `(tactic| walk_at "lw n") => `(tactic| (try dsimp only [ent, List.map, Nat.reduceAdd, Nat.reduceSub, List.length_cons, List.length_nil, List.replicate_succ, List.replicate_zero, List.cons_append, List.nil_append, putBack, setOwn, List.getElem?_cons_zero, List.getElem?_cons_succ, List.set_cons_zero, List.set_cons_succ, Sm.nf]))
local macro_rules | `(tactic| walk_at "lw v") => `(tactic| (try simp only [pb1, pb2, pb3, pb4]))
theorem w_intk {k : Nat} {i : Int} (h : i.natAbs < 2 ^ k) : (PyData.int i).weight ≤ k := by
  show (if i == 0 then 0 else i.natAbs.log2 + 1) ≤ k
  split
  · omega
  · rename_i h0
    have h0 : i.natAbs ≠ 0 := by
      intro z
      exact h0 (by simp [Int.natAbs_eq_zero.1 z])
    have := (Nat.log2_lt (k := k) h0).2 h
    omega
def DatQ (P : D → Prop) (r : R) (_ : List S) : Prop := ∃ d, (r = .pure d ∨ ∃ xs, r = .fresh xs ∧ d = .list xs) ∧ P d
theorem DatQ.ref {P : D → Prop} {r : R} {o : List S} (h : DatQ P r o) : ∀ i, r ≠ .ref i := by
  obtain ⟨d, rfl | ⟨xs, rfl, rfl⟩, -⟩ := h <;> (intro i z; cases z)
end Lw
namespace Lw
open PySem PySem.Spec PyProof.Rows L2
local macro_rules | `(tactic| walk_at "lw e") => `(tactic| (repeat (first | (with_reducible refine Stp.go ?_) | (with_reducible apply Exists.intro) | ((with_reducible refine And.intro ?_ ?_); · (first | (with_reducible exact Evl.ev) | ((fail_if_success (with_reducible refine Gd.keep ?_)); rfl) | ((with_reducible apply mul_r); decide) | ((with_reducible apply mul_l); decide) | ((with_reducible apply div_i); decide) | ((with_reducible apply in_R); decide) | (exact Nat.le_of_ble_eq_true rfl) | (simp [refsOf]; done) | (exact ⟨rfl, rfl, by decide⟩) | (exact ⟨rfl, rfl, rfl⟩) | ((with_reducible apply tgN_o); (focus rfl); (focus (first | assumption | trivial))))) | ((with_reducible apply Sm.vrP); (focus rfl)) | ((with_reducible apply Sm.vrO); (focus rfl)) | ((with_reducible apply Sm.augI); (focus rfl)) | ((with_reducible refine Sm.dicE ?_ ?_); (focus decide)) | (with_reducible refine iteTT ?_) | (with_reducible refine iteT ?_) | (with_reducible refine iteF ?_) | ((with_reducible refine iteB1 ?_ ?_); (focus rfl)) | ((with_reducible refine iteB0 ?_ ?_); (focus rfl)))))
local macro_rules | `(tactic| walk_at "lw n") => `(tactic| (try dsimp only [ent, List.map, Nat.reduceAdd, Nat.reduceSub, List.length_cons, List.length_nil, List.replicate_succ, List.replicate_zero, List.cons_append, List.nil_append, putBack, setOwn, List.getElem?_cons_zero, List.getElem?_cons_succ, List.set_cons_zero, List.set_cons_succ, Sm.nf]))
local macro_rules | `(tactic| walk_at "lw v") => `(tactic| (try simp only [pb1, pb2, pb3, pb4]))
/-- a law that is right over two boxes at least, one for each folded cell -/
theorem law_ok2 {right : Fsem} {k : Nat} (h1 : 1 ≤ k) (h2 : k ≤ 60) (hr : ∀ ds, Box 1000000 ds → wpf right [.own true ds] TrueQ) (ns : List Int) (hl : ns.length ≤ 63) : wpf (runFn (sq (asg (callE m_l_folded (argV (vr 0) (argV (cn (.int k)) argN))) (tgN 1))
  (retS (cal1 gAll (lcE (itR1 (op2 (g2I fun i j => if j > i then j else i) (cn (.int 2)) (cal1 gLen (vr 1)))) [2] (tgN 2) (ret true) (callF right (callE m_l_box (argV (vr 1) (argV (vr 2) argN)))))))) 3) [.pure (ilist ns)] TrueQ := by
  refine Sm.run ?_
  walk_at "lw n"
  walk_at "lw e"
  refine Sm.fmono (folded_ok hl h1 h2) fun r o h => ?_
  obtain ⟨cs, rfl, hc⟩ := h
  walk_at "lw v"
  refine ⟨nfr, _, _, _, rfl, rfl, ?_⟩
  walk_at "lw n"
  walk_at "lw e"
  rw [List.length_map]
  obtain ⟨m, hm, hm2⟩ : ∃ m : Nat, (fun i j : Int => if j > i then j else i) 2 (cs.length : Int) = m ∧ m ≤ 62 := by
    by_cases q : (cs.length : Int) > 2
    · exact ⟨cs.length, if_pos q, by omega⟩
    · exact ⟨2, if_neg q, by omega⟩
  rw [hm]
  refine ⟨in_R (by omega), ?_⟩
  walk_at "lw e"
  have hsl : sizeLine = 16777216 := rfl
  refine Sm.lcPure (ds := rngD 0 ((m : Int)).toNat) (fun _ => .bool true) (by rw [rngD_len]; omega) ?_ ?_
  · intro d hd
    obtain ⟨i, hi⟩ := List.mem_iff_getElem?.1 hd
    obtain ⟨hi, rfl⟩ := rng_at hi
    refine ⟨_, tgN_o rfl trivial, ?_⟩
    walk_at "lw e"
    refine Sm.fmono (box_ok (by omega)) fun r o h => ?_
    obtain ⟨ds, rfl, hb⟩ := h
    refine ⟨nfr, ?_⟩
    walk_at "lw v"
    walk_at "lw e"
    refine Sm.fmono (hr ds hb) fun r o h => ?_
    obtain ⟨d, rfl, rfl⟩ := h
    refine ⟨nref, ?_⟩
    walk_at "lw e"
    rfl
  · refine ⟨_, _, rfl, all_mk (p := fun _ => true), ?_⟩
    walk_at "lw e"
    refine ⟨_, rfl, ?_⟩
    rw [List.all_eq_true.2 (fun _ _ => rfl)]
end Lw
namespace Lw
open PySem PySem.Spec PyProof.Rows L2
local macro_rules | `(tactic| walk_at "lw e") => `(tactic| (repeat (first | (with_reducible refine Stp.go ?_) | (with_reducible apply Exists.intro) | ((with_reducible refine And.intro ?_ ?_); · (first | (with_reducible exact Evl.ev) | ((fail_if_success (with_reducible refine Gd.keep ?_)); rfl) | ((with_reducible apply mul_r); decide) | ((with_reducible apply mul_l); decide) | ((with_reducible apply div_i); decide) | ((with_reducible apply in_R); decide) | (exact Nat.le_of_ble_eq_true rfl) | (simp [refsOf]; done) | (exact ⟨rfl, rfl, by decide⟩) | (exact ⟨rfl, rfl, rfl⟩) | ((with_reducible apply tgN_o); (focus rfl); (focus (first | assumption | trivial))))) | ((with_reducible apply Sm.vrP); (focus rfl)) | ((with_reducible apply Sm.vrO); (focus rfl)) | ((with_reducible apply Sm.augI); (focus rfl)) | ((with_reducible refine Sm.dicE ?_ ?_); (focus decide)) | (with_reducible refine iteTT ?_) | (with_reducible refine iteT ?_) | (with_reducible refine iteF ?_) | ((with_reducible refine iteB1 ?_ ?_); (focus rfl)) | ((with_reducible refine iteB0 ?_ ?_); (focus rfl)))))
local macro_rules | `(tactic| walk_at "lw n") => `(tactic| (try dsimp only [ent, List.map, Nat.reduceAdd, Nat.reduceSub, List.length_cons, List.length_nil, List.replicate_succ, List.replicate_zero, List.cons_append, List.nil_append, putBack, setOwn, List.getElem?_cons_zero, List.getElem?_cons_succ, List.set_cons_zero, List.set_cons_succ, Sm.nf]))
local macro_rules | `(tactic| walk_at "lw v") => `(tactic| (try simp only [pb1, pb2, pb3, pb4]))
/-! ### tuples of numbers -/
def it (ns : List Int) : D := .tuple (ns.map PyData.int)
def il (ns : List Int) : D := .list (ns.map PyData.int)
/-- a list or tuple of these numbers -/
def Seq (t : D) (ns : List Int) : Prop := t = il ns ∨ t = it ns
theorem Seq.items {t : D} {ns : List Int} (h : Seq t ns) : items t = some (ns.map PyData.int) := by rcases h with rfl | rfl <;> rfl
theorem ints_mk : ∀ ns : List Int, intsD (ns.map PyData.int) = some ns
  | [] => rfl
  | n :: ns => by rw [List.map_cons, intsD, ints_mk ns]
theorem sumK_ok {t : D} {ns : List Int} (h : Seq t ns) : gSumK t = some (.pure (.int ns.sum)) := by
  unfold gSumK
  rw [h.items]
  simp only [ints_mk]
theorem minK_ok {t : D} {n : Int} {ns : List Int} (h : Seq t (n :: ns)) : gMinK t = some (.pure (.int (ns.foldl min n))) := by
  unfold gMinK
  rw [h.items]
  simp only [ints_mk]
theorem rev_any {t : D} {ds : List D} (h : items t = some ds) : ∃ r d, gRev t = some r ∧ (∀ ς, toD r ς = some (d, ς)) ∧ items d = some ds.reverse := by
  cases t with
  | list xs => cases h; exact ⟨_, .list ds.reverse, rfl, fun ς => rfl, rfl⟩
  | tuple xs => cases h; exact ⟨_, .tuple ds.reverse, rfl, fun ς => rfl, rfl⟩
  | _ => cases h
theorem cut_from (ds : List D) (i : Nat) : cutD ds (some (i : Int)) none = ds.drop i := by
  unfold cutD
  rw [show HT.sIx ds.length 0 (some (i : Int)) = min i ds.length from HT.sIx_nat _ _ i, show HT.sIx ds.length ds.length none = ds.length from rfl]
  by_cases hi : i ≤ ds.length
  · rw [Nat.min_eq_left hi, List.take_of_length_le (by rw [List.length_drop]; omega)]
  · rw [Nat.min_eq_right (by omega), List.drop_length, List.drop_eq_nil_of_le (by omega), List.take_nil]
/-- t[i:] -/
theorem sl_from {t : D} {ds : List D} (h : items t = some ds) (i : Nat) : ∃ r d, gSl t (some (i : Int)) none = some r ∧ (∀ ς, toD r ς = some (d, ς)) ∧ (∀ ς, rdD r ς = some d) ∧ items d = some (ds.drop i) ∧ ((∃ xs, t = .list xs) → d = .list (ds.drop i)) ∧ ((∃ xs, t = .tuple xs) → d = .tuple (ds.drop i)) := by
  have key : cutD ds (some (i : Int)) none = ds.drop i := by
    unfold cutD
    rw [show HT.sIx ds.length 0 (some (i : Int)) = min i ds.length from HT.sIx_nat _ _ i, show HT.sIx ds.length ds.length none = ds.length from rfl]
    by_cases hi : i ≤ ds.length
    · rw [Nat.min_eq_left hi, List.take_of_length_le (by rw [List.length_drop]; omega)]
    · rw [Nat.min_eq_right (by omega), List.drop_length, List.drop_eq_nil_of_le (by omega), List.take_nil]
  cases t with
  | list xs => cases h; exact ⟨.fresh (ds.drop i), .list (ds.drop i), by rw [← key]; rfl, fun ς => rfl, fun ς => rfl, rfl, fun _ => rfl, fun ⟨_, z⟩ => by cases z⟩
  | tuple xs => cases h; exact ⟨.pure (.tuple (ds.drop i)), .tuple (ds.drop i), by rw [← key]; rfl, fun ς => rfl, fun ς => rfl, rfl, fun ⟨_, z⟩ => (by cases z), fun _ => rfl⟩
  | _ => cases h
theorem rng_map {α : Type} (f : D → α) : ∀ (n : Nat) (lo : Int), (rngD lo n).map f = (List.range n).map fun (i : Nat) => f (.int (lo + i))
  | 0, _ => rfl
  | n + 1, lo => by
    rw [rngD, List.map_cons, rng_map f n (lo + 1), List.range_succ_eq_map, List.map_cons, List.map_map]
    congr 1
    · simp
    · apply List.map_congr_left
      intro i _
      show f _ = f _
      congr 2
      push_cast
      omega
theorem zip_ints : ∀ (xs ys : List Int), zipD (xs.map PyData.int) (ys.map PyData.int) = (List.zip xs ys).map fun p => PyData.tuple [.int p.1, .int p.2]
  | [], ys => by simp [zipD]
  | x :: xs, [] => by simp [zipD]
  | x :: xs, y :: ys => by rw [List.map_cons, List.map_cons, zipD, zip_ints xs ys, List.zip_cons_cons, List.map_cons]
theorem catL_ok {x y : List D} (h : x.length + y.length ≤ 1000000) : gAddA (.list x) (.list y) = some (.fresh (x ++ y)) := by
  have hs : sizeLine = 16777216 := rfl
  have e : gCatL (.list x) (.list y) = some (.fresh (x ++ y)) := if_pos (by omega)
  unfold gAddA orG
  simp only [gI0, gStr, e]
theorem catT_ok {x y : List D} (h : x.length + y.length ≤ 1000000) : gAddA (.tuple x) (.tuple y) = some (.pure (.tuple (x ++ y))) := by
  have hs : sizeLine = 16777216 := rfl
  have e : gCatT (.tuple x) (.tuple y) = some (.pure (.tuple (x ++ y))) := if_pos (by omega)
  unfold gAddA orG
  simp only [gI0, gStr, gCatL, e]
/-! ### things that are fine -/
def Fine (B e w : Nat) (d : D) : Prop := fnb B e d = true ∧ d.weight ≤ w
theorem Fine.int {B e w : Nat} {i : Int} (h : i.natAbs ≤ B) (hw : B < 2 ^ w) : Fine B e w (.int i) := ⟨lfb_fnb (decide_eq_true h), w_intk (Nat.lt_of_le_of_lt h hw)⟩
theorem Fine.bool {B e : Nat} {b : Bool} : Fine B e 1 (.bool b) := ⟨lfb_fnb rfl, by cases b <;> decide⟩
theorem Fine.mono {B e w w' : Nat} {d : D} (h : Fine B e w d) (hw : w ≤ w') : Fine B e w' d := ⟨h.1, Nat.le_trans h.2 hw⟩
theorem w_all_le {k : Nat} {xs : List D} (h : ∀ x ∈ xs, x.weight ≤ k) : PyData.weightAll xs ≤ (k + 1) * xs.length := by
  induction xs with
  | nil => exact Nat.zero_le _
  | cons x xs ih =>
    have h1 := h x (by simp)
    have h2 := ih fun y hy => h y (by simp [hy])
    rw [PyData.weightAll, List.length_cons, Nat.mul_add]
    omega
theorem Fine.tup {B e w n : Nat} {xs : List D} (h : ∀ x ∈ xs, Fine B e w x) (hn : xs.length ≤ n) : Fine B (e + 1) ((w + 1) * n) (.tuple xs) :=
  ⟨List.all_eq_true.2 fun x m => (h x m).1, Nat.le_trans (w_all_le fun x m => (h x m).2) (Nat.mul_le_mul_left _ hn)⟩
theorem Fine.lst {B e w n : Nat} {xs : List D} (h : ∀ x ∈ xs, Fine B e w x) (hn : xs.length ≤ n) : Fine B (e + 1) ((w + 1) * n) (.list xs) :=
  ⟨List.all_eq_true.2 fun x m => (h x m).1, Nat.le_trans (w_all_le fun x m => (h x m).2) (Nat.mul_le_mul_left _ hn)⟩
theorem Fine.it {B e w n : Nat} {ns : List Int} (h : ∀ i ∈ ns, i.natAbs ≤ B) (hw : B < 2 ^ w) (hn : ns.length ≤ n) : Fine B (e + 1) ((w + 1) * n) (it ns) :=
  Fine.tup (fun x m => by obtain ⟨i, hi, rfl⟩ := List.mem_map.1 m; exact Fine.int (h i hi) hw) (by rw [List.length_map]; exact hn)
end Lw
namespace Lw
open PySem PySem.Spec PyProof.Rows L2
local macro_rules | `(tactic| walk_at "lw e") => `(tactic| (repeat (first | (with_reducible refine Stp.go ?_) | (with_reducible apply Exists.intro) | ((with_reducible refine And.intro ?_ ?_); · (first | (with_reducible exact Evl.ev) | ((fail_if_success (with_reducible refine Gd.keep ?_)); rfl) | ((with_reducible apply mul_r); decide) | ((with_reducible apply mul_l); decide) | ((with_reducible apply div_i); decide) | ((with_reducible apply in_R); decide) | (exact Nat.le_of_ble_eq_true rfl) | (simp [refsOf]; done) | (exact ⟨rfl, rfl, by decide⟩) | (exact ⟨rfl, rfl, rfl⟩) | ((with_reducible apply tgN_o); (focus rfl); (focus (first | assumption | trivial))))) | ((with_reducible apply Sm.vrP); (focus rfl)) | ((with_reducible apply Sm.vrO); (focus rfl)) | ((with_reducible apply Sm.augI); (focus rfl)) | ((with_reducible refine Sm.dicE ?_ ?_); (focus decide)) | (with_reducible refine iteTT ?_) | (with_reducible refine iteT ?_) | (with_reducible refine iteF ?_) | ((with_reducible refine iteB1 ?_ ?_); (focus rfl)) | ((with_reducible refine iteB0 ?_ ?_); (focus rfl)))))
local macro_rules | `(tactic| walk_at "lw n") => `(tactic| (try dsimp only [ent, List.map, Nat.reduceAdd, Nat.reduceSub, List.length_cons, List.length_nil, List.replicate_succ, List.replicate_zero, List.cons_append, List.nil_append, putBack, setOwn, List.getElem?_cons_zero, List.getElem?_cons_succ, List.set_cons_zero, List.set_cons_succ, Sm.nf]))
local macro_rules | `(tactic| walk_at "lw v") => `(tactic| (try simp only [pb1, pb2, pb3, pb4]))
/-! ### stairs, deeds, what they add -/
def pd (p : Int × Int × Int) : D := .tuple [.int p.1, .int p.2.1, .int p.2.2]
def Stair (st : D) (ps : List (Int × Int × Int)) : Prop := st = .tuple (ps.map pd) ∨ st = .list (ps.map pd)
theorem Stair.items {st : D} {ps : List (Int × Int × Int)} (h : Stair st ps) : items st = some (ps.map pd) := by rcases h with rfl | rfl <;> rfl
theorem Stair.len {st : D} {ps : List (Int × Int × Int)} (h : Stair st ps) : gLen st = some (.pure (.int ps.length)) := by
  rcases h with rfl | rfl
  · show some (R.pure (.int ((ps.map pd).length : Nat))) = _; rw [List.length_map]
  · show some (R.pure (.int ((ps.map pd).length : Nat))) = _; rw [List.length_map]
def pAt (ps : List (Int × Int × Int)) (i : Nat) : Int × Int × Int := ps.getD i (0, 0, 0)
theorem Stair.ix {st : D} {ps : List (Int × Int × Int)} (h : Stair st ps) {i : Int} (h0 : 0 ≤ i) (h1 : i < ps.length) : gIx st (.int i) = some (.pure (pd (pAt ps i.toNat))) := by
  have hlt : i.toNat < ps.length := by omega
  have key : (ps.map pd).getD i.toNat .none = pd (pAt ps i.toNat) := by
    unfold pAt
    rw [List.getD_eq_getElem?_getD, List.getElem?_map, List.getElem?_eq_getElem hlt, List.getD_eq_getElem?_getD, List.getElem?_eq_getElem hlt]
    rfl
  rcases h with rfl | rfl
  · rw [at_tup h0 (by rw [List.length_map]; exact h1), key]
  · rw [at_list h0 (by rw [List.length_map]; exact h1), key]
inductive Dd where
  | fill (l : Nat)
  | empty (l : Nat)
  | raise (l : Nat) (m : Int)
  | lower (l : Nat) (m : Int)
def Dd.at : Dd → Nat
  | .fill l => l
  | .empty l => l
  | .raise l _ => l
  | .lower l _ => l
def dd : Dd → D
  | .fill l => .tuple [.str "fill", .int l]
  | .empty l => .tuple [.str "empty", .int l]
  | .raise l m => .tuple [.str "raise", .int l, .int m]
  | .lower l m => .tuple [.str "lower", .int l, .int m]
def sz (ps : List (Int × Int × Int)) (l : Nat) : Int := (pAt ps (l - 1)).2.2
def chg (ps : List (Int × Int × Int)) : Dd → Int × Int
  | .fill l => (l, -sz ps l)
  | .empty l => ((l : Int) - 1, sz ps l)
  | .raise l m => (l, m)
  | .lower l m => (l, -m)
/-- the deed is of the stair -/
def Dd.On (n : Nat) (d : Dd) : Prop := 1 ≤ d.at ∧ d.at ≤ n
/-- what deeds add to pound j and all above it -/
def addTo (ps : List (Int × Int × Int)) (j : Int) (d : Dd) : Int := if (chg ps d).1 ≥ j then (chg ps d).2 else 0
def sumAt (ps : List (Int × Int × Int)) (ds : List Dd) (j : Int) : Int := (ds.map (addTo ps j)).sum
def sums (ps : List (Int × Int × Int)) (ds : List Dd) : List Int := (List.range ps.length).map fun (i : Nat) => sumAt ps ds (1 + (i : Int))
theorem sumAt_app (ps : List (Int × Int × Int)) (a b : List Dd) (j : Int) : sumAt ps (a ++ b) j = sumAt ps a j + sumAt ps b j := by
  unfold sumAt; rw [List.map_append, List.sum_append]
theorem sums_len (ps : List (Int × Int × Int)) (ds : List Dd) : (sums ps ds).length = ps.length := by unfold sums; rw [List.length_map, List.length_range]
theorem Sm.lcFil {ς : En} {vs : List Nat} {tg : Tg} {tt : M Bool} {fe : M R} {ds : List D} {Q : List D → En → Prop} (p : D → Bool) (f : D → D) (hlen : ds.length ≤ sizeLine)
    (hs : ∀ d ∈ ds, ∃ ς1, tg d ς = some ς1 ∧ wp tt ς1 fun b ς2 => b = p d ∧ freeAll ς2 vs = true ∧ wipeE ς2 vs = ς ∧ (p d = true → wp fe ς2 fun r ς3 => ∃ ς4, toD r ς3 = some (f d, ς4) ∧ freeAll ς4 vs = true ∧ wipeE ς4 vs = ς))
    (hd : Q ((ds.filter p).map f) ς) : lcQ vs tg tt fe ds ς Q := by
  have main : ∀ (es : List D) (acc : List D), (∀ d ∈ es, d ∈ ds) → acc.length + es.length ≤ sizeLine → lcLoop vs tg tt fe es acc ς = some (acc ++ (es.filter p).map f, ς) := by
    intro es
    induction es with
    | nil => intro acc _ _; rw [lcLoop]; simp
    | cons d es ih =>
      intro acc hm hl
      obtain ⟨ς1, e1, b, ς2, e2, hb, hf, hw, hfe⟩ := hs d (hm d (by simp))
      rw [List.length_cons] at hl
      rw [lcLoop]
      simp only [e1, e2]
      cases q : p d with
      | true =>
        rw [q] at hb
        subst hb
        obtain ⟨r, ς3, e3, ς4, e4, hf4, hw4⟩ := hfe q
        have ee : Lw.esc fe ς2 = some (f d, ς4) := by unfold Lw.esc Lw.bd; rw [e3]; exact e4
        simp only [ee]
        rw [if_pos ⟨hf4, by omega⟩, hw4, ih _ (fun x hx => hm x (by simp [hx])) (by rw [List.length_append, List.length_singleton]; omega), List.filter_cons_of_pos q]
        simp
      | false =>
        rw [q] at hb
        subst hb
        simp only
        rw [if_pos hf, hw, ih _ (fun x hx => hm x (by simp [hx])) (by omega), List.filter_cons_of_neg (by rw [q]; decide)]
  exact ⟨_, ς, main ds [] (fun d h => h) (by simpa using hlen), by simpa using hd⟩
theorem fil_sum (ps : List (Int × Int × Int)) (j : Int) : ∀ ds : List Dd, ((ds.filter fun d => decide (j ≤ (chg ps d).1)).map fun d => (chg ps d).2).sum = sumAt ps ds j
  | [] => rfl
  | d :: ds => by
    have ih := fil_sum ps j ds
    unfold sumAt at ih ⊢
    rw [List.map_cons, List.sum_cons, ← ih]
    unfold addTo
    by_cases h : j ≤ (chg ps d).1
    · rw [if_pos h]; simp [List.filter_cons, h]
    · rw [if_neg h]; simp [List.filter_cons, h]
def pr (p : Int × Int) : D := .tuple [.int p.1, .int p.2]
def chgD (ps : List (Int × Int × Int)) (d : Dd) : D := pr (chg ps d)
def undd : D → Dd
  | .tuple [.str s, .int l] => if s = "fill" then .fill l.toNat else .empty l.toNat
  | .tuple [.str s, .int l, .int m] => if s = "raise" then .raise l.toNat m else .lower l.toNat m
  | _ => .fill 0
def Deeds (t : D) (ds : List Dd) : Prop := t = .list (ds.map dd) ∨ t = .tuple (ds.map dd)
theorem Deeds.items {t : D} {ds : List Dd} (h : Deeds t ds) : items t = some (ds.map dd) := by rcases h with rfl | rfl <;> rfl
def gePr (j : Int) : D → Bool
  | .tuple [.int a, _] => decide (j ≤ a)
  | _ => false
def sndPr : D → D
  | .tuple [_, b] => b
  | d => d
end Lw
namespace Lw
open PySem PySem.Spec PyProof.Rows L2
local macro_rules | `(tactic| walk_at "lw e") => `(tactic| (repeat (first | (with_reducible refine Stp.go ?_) | (with_reducible apply Exists.intro) | ((with_reducible refine And.intro ?_ ?_); · (first | (with_reducible exact Evl.ev) | ((fail_if_success (with_reducible refine Gd.keep ?_)); rfl) | ((with_reducible apply mul_r); decide) | ((with_reducible apply mul_l); decide) | ((with_reducible apply div_i); decide) | ((with_reducible apply in_R); decide) | (exact Nat.le_of_ble_eq_true rfl) | (simp [refsOf]; done) | (exact ⟨rfl, rfl, by decide⟩) | (exact ⟨rfl, rfl, rfl⟩) | ((with_reducible apply tgN_o); (focus rfl); (focus (first | assumption | trivial))))) | ((with_reducible apply Sm.vrP); (focus rfl)) | ((with_reducible apply Sm.vrO); (focus rfl)) | ((with_reducible apply Sm.augI); (focus rfl)) | ((with_reducible refine Sm.dicE ?_ ?_); (focus decide)) | (with_reducible refine iteTT ?_) | (with_reducible refine iteT ?_) | (with_reducible refine iteF ?_) | ((with_reducible refine iteB1 ?_ ?_); (focus rfl)) | ((with_reducible refine iteB0 ?_ ?_); (focus rfl)))))
local macro_rules | `(tactic| walk_at "lw n") => `(tactic| (try dsimp only [ent, List.map, Nat.reduceAdd, Nat.reduceSub, List.length_cons, List.length_nil, List.replicate_succ, List.replicate_zero, List.cons_append, List.nil_append, putBack, setOwn, List.getElem?_cons_zero, List.getElem?_cons_succ, List.set_cons_zero, List.set_cons_succ, Sm.nf]))
local macro_rules | `(tactic| walk_at "lw v") => `(tactic| (try simp only [pb1, pb2, pb3, pb4]))
def addPre : Nat → Int → List Int → List Int
  | 0, _, xs => xs
  | _ + 1, _, [] => []
  | i + 1, m, x :: xs => (x + m) :: addPre i m xs
theorem addPre_get (m : Int) : ∀ (i : Nat) (xs : List Int) (a : Nat), (addPre i m xs)[a]? = if a < i then (xs[a]?).map (· + m) else xs[a]?
  | 0, xs, a => by simp [addPre]
  | i + 1, [], a => by simp [addPre]
  | i + 1, x :: xs, 0 => by simp [addPre]
  | i + 1, x :: xs, a + 1 => by
    rw [addPre, List.getElem?_cons_succ, List.getElem?_cons_succ, addPre_get m i xs a]
    by_cases h : a < i
    · rw [if_pos h, if_pos (by omega)]
    · rw [if_neg h, if_neg (by omega)]
theorem addPre_sums (ps : List (Int × Int × Int)) (ds : List Dd) (d : Dd) (c : Nat) (hc : (chg ps d).1 = c) : addPre c (chg ps d).2 (sums ps ds) = sums ps (ds ++ [d]) := by
  apply List.ext_getElem?
  intro a
  rw [addPre_get]
  unfold sums
  rw [List.getElem?_map, List.getElem?_map]
  by_cases h : a < ps.length
  · rw [List.getElem?_range h]
    simp only [Option.map_some]
    rw [sumAt_app]
    have : sumAt ps [d] (1 + (a : Int)) = if a < c then (chg ps d).2 else 0 := by
      unfold sumAt addTo
      rw [List.map_cons, List.map_nil, List.sum_cons, List.sum_nil, hc]
      by_cases q : a < c
      · rw [if_pos (by omega), if_pos q]; omega
      · rw [if_neg (by omega), if_neg q]; omega
    rw [this]
    by_cases q : a < c
    · rw [if_pos q, if_pos q]
    · rw [if_neg q, if_neg q]; simp
  · rw [List.getElem?_eq_none (by rw [List.length_range]; omega)]
    simp
end Lw
namespace Lw
open PySem PySem.Spec PyProof.Rows L2
local macro_rules | `(tactic| walk_at "lw e") => `(tactic| (repeat (first | (with_reducible refine Stp.go ?_) | (with_reducible apply Exists.intro) | ((with_reducible refine And.intro ?_ ?_); · (first | (with_reducible exact Evl.ev) | ((fail_if_success (with_reducible refine Gd.keep ?_)); rfl) | ((with_reducible apply mul_r); decide) | ((with_reducible apply mul_l); decide) | ((with_reducible apply div_i); decide) | ((with_reducible apply in_R); decide) | (exact Nat.le_of_ble_eq_true rfl) | (simp [refsOf]; done) | (exact ⟨rfl, rfl, by decide⟩) | (exact ⟨rfl, rfl, rfl⟩) | ((with_reducible apply tgN_o); (focus rfl); (focus (first | assumption | trivial))))) | ((with_reducible apply Sm.vrP); (focus rfl)) | ((with_reducible apply Sm.vrO); (focus rfl)) | ((with_reducible apply Sm.augI); (focus rfl)) | ((with_reducible refine Sm.dicE ?_ ?_); (focus decide)) | (with_reducible refine iteTT ?_) | (with_reducible refine iteT ?_) | (with_reducible refine iteF ?_) | ((with_reducible refine iteB1 ?_ ?_); (focus rfl)) | ((with_reducible refine iteB0 ?_ ?_); (focus rfl)))))
local macro_rules | `(tactic| walk_at "lw n") => `(tactic| (try dsimp only [ent, List.map, Nat.reduceAdd, Nat.reduceSub, List.length_cons, List.length_nil, List.replicate_succ, List.replicate_zero, List.cons_append, List.nil_append, putBack, setOwn, List.getElem?_cons_zero, List.getElem?_cons_succ, List.set_cons_zero, List.set_cons_succ, Sm.nf]))
local macro_rules | `(tactic| walk_at "lw v") => `(tactic| (try simp only [pb1, pb2, pb3, pb4]))
/-! ### stones -/
theorem foldl_min_le : ∀ (xs : List Int) (a : Int), xs.foldl min a ≤ a ∧ ∀ x ∈ xs, xs.foldl min a ≤ x
  | [], a => ⟨by simp, fun x h => by cases h⟩
  | y :: ys, a => by
    obtain ⟨h1, h2⟩ := foldl_min_le ys (min a y)
    rw [List.foldl_cons]
    refine ⟨by omega, fun x hx => ?_⟩
    rcases List.mem_cons.1 hx with rfl | hx
    · omega
    · exact h2 x hx
theorem foldl_min_mem : ∀ (xs : List Int) (a : Int), xs.foldl min a = a ∨ xs.foldl min a ∈ xs
  | [], a => .inl rfl
  | y :: ys, a => by
    rw [List.foldl_cons]
    rcases foldl_min_mem ys (min a y) with h | h
    · rw [h]
      by_cases q : a ≤ y
      · rw [Int.min_eq_left q]; exact .inl rfl
      · rw [Int.min_eq_right (by omega)]; exact .inr (by simp)
    · exact .inr (by simp [h])
/-! ### a lap by draws -/
end Lw
-- F2
namespace Lw
open PySem PySem.Spec PyProof.Rows L2
local macro_rules | `(tactic| walk_at "lw e") => `(tactic| (repeat (first | (with_reducible refine Stp.go ?_) | (with_reducible apply Exists.intro) | ((with_reducible refine And.intro ?_ ?_); · (first | (with_reducible exact Evl.ev) | ((fail_if_success (with_reducible refine Gd.keep ?_)); rfl) | ((with_reducible apply mul_r); decide) | ((with_reducible apply mul_l); decide) | ((with_reducible apply div_i); decide) | ((with_reducible apply in_R); decide) | (exact Nat.le_of_ble_eq_true rfl) | (simp [refsOf]; done) | (exact ⟨rfl, rfl, by decide⟩) | (exact ⟨rfl, rfl, rfl⟩) | ((with_reducible apply tgN_o); (focus rfl); (focus (first | assumption | trivial))))) | ((with_reducible apply Sm.vrP); (focus rfl)) | ((with_reducible apply Sm.vrO); (focus rfl)) | ((with_reducible apply Sm.augI); (focus rfl)) | ((with_reducible refine Sm.dicE ?_ ?_); (focus decide)) | ((with_reducible apply Sm.augS); (focus rfl)) | (with_reducible refine iteTT ?_) | (with_reducible refine iteT ?_) | (with_reducible refine iteF ?_) | ((with_reducible refine iteB1 ?_ ?_); (focus rfl)) | ((with_reducible refine iteB0 ?_ ?_); (focus rfl)))))
local macro_rules | `(tactic| walk_at "lw n") => `(tactic| (try dsimp only [ent, List.map, Nat.reduceAdd, Nat.reduceSub, List.length_cons, List.length_nil, List.replicate_succ, List.replicate_zero, List.cons_append, List.nil_append, putBack, setOwn, List.getElem?_cons_zero, List.getElem?_cons_succ, List.set_cons_zero, List.set_cons_succ, Sm.nf]))
local macro_rules | `(tactic| walk_at "lw v") => `(tactic| (try simp only [pb1, pb2, pb3, pb4]))
/-! ### stairs, deeds as tuples or lists, at any depth -/
theorem ix_items {t : D} {ds : List D} (h : items t = some ds) {i : Int} (h0 : 0 ≤ i) (h1 : i < ds.length) : gIx t (.int i) = some (.pure (ds.getD i.toNat .none)) := by
  cases t with
  | list es => cases h; exact at_list h0 h1
  | tuple es => cases h; exact at_tup h0 h1
  | _ => cases h
def Pnd (x : D) (p : Int × Int × Int) : Prop := items x = some [.int p.1, .int p.2.1, .int p.2.2]
structure StairG (st : D) (xs : List D) (ps : List (Int × Int × Int)) : Prop where
  its : items st = some xs
  len : xs.length = ps.length
  ok : ∀ (i : Nat) x p, xs[i]? = some x → ps[i]? = some p → Pnd x p
theorem Pnd.of (p : Int × Int × Int) : Pnd (pd p) p := rfl
theorem Stair.gen {st : D} {ps : List (Int × Int × Int)} (h : Stair st ps) : StairG st (ps.map pd) ps := ⟨h.items, List.length_map _, fun i x p h1 h2 => by
  rw [List.getElem?_map, h2] at h1
  cases h1
  exact Pnd.of p⟩
theorem StairG.ix {st : D} {xs : List D} {ps : List (Int × Int × Int)} (h : StairG st xs ps) {l : Nat} (h0 : 1 ≤ l) (h1 : l ≤ ps.length) : ∃ x, gIx st (.int ((l : Int) - 1)) = some (.pure x) ∧ Pnd x (pAt ps (l - 1)) := by
  have hl := h.len
  have hlt : l - 1 < xs.length := by omega
  have hlp : l - 1 < ps.length := by omega
  refine ⟨xs.getD (l - 1) .none, ?_, ?_⟩
  · rw [ix_items h.its (by omega) (by omega)]
    congr 4
    omega
  · refine h.ok (l - 1) _ _ ?_ ?_
    · rw [List.getD_eq_getElem?_getD, List.getElem?_eq_getElem hlt]; rfl
    · unfold pAt; rw [List.getD_eq_getElem?_getD, List.getElem?_eq_getElem hlp]; rfl
theorem items_cases {t : D} {ds : List D} (h : items t = some ds) : t = .list ds ∨ t = .tuple ds := by
  cases t with
  | list es => cases h; exact .inl rfl
  | tuple es => cases h; exact .inr rfl
  | _ => cases h
theorem Pnd.b {x : D} {p : Int × Int × Int} (h : Pnd x p) : gIx x (.int 1) = some (.pure (.int p.2.1)) := by rcases items_cases h with rfl | rfl <;> rfl
theorem Pnd.c {x : D} {p : Int × Int × Int} (h : Pnd x p) : gIx x (.int 2) = some (.pure (.int p.2.2)) := by rcases items_cases h with rfl | rfl <;> rfl
/-- the parts of a deed -/
def dl : Dd → List D
  | .fill l => [.str "fill", .int l]
  | .empty l => [.str "empty", .int l]
  | .raise l m => [.str "raise", .int l, .int m]
  | .lower l m => [.str "lower", .int l, .int m]
def Dt (t : D) (d : Dd) : Prop := items t = some (dl d)
theorem Dt.of (d : Dd) : Dt (dd d) d := by cases d <;> rfl
theorem changeG {st t : D} {xs : List D} {ps : List (Int × Int × Int)} {d : Dd} (hs : StairG st xs ps) (ht : Dt t d) (hd : d.On ps.length) : wpf m_p_change_of [.pure st, .pure t] (ValQ fun x => x = .tuple [.int (chg ps d).1, .int (chg ps d).2]) := by
  obtain ⟨h1, h2⟩ := hd
  have ix : ∀ l : Nat, 1 ≤ l → l ≤ ps.length → ∃ x, gIx st (.int ((l : Int) - 1)) = some (.pure x) ∧ gIx x (.int 2) = some (.pure (.int (sz ps l))) := fun l a b => by
    obtain ⟨x, i1, i2⟩ := hs.ix a b
    exact ⟨x, i1, i2.c⟩
  refine Sm.run ?_
  unfold g_p_change_of
  walk_at "lw n"
  cases d with
  | fill l =>
    obtain ⟨x, i1, i2⟩ := ix l h1 h2
    rcases items_cases ht with rfl | rfl
    all_goals
      walk_at "lw e"
      refine ⟨i1, ?_⟩
      walk_at "lw e"
      refine ⟨i2, ?_⟩
      walk_at "lw e"
      exact ⟨_, rfl, rfl⟩
  | empty l =>
    obtain ⟨x, i1, i2⟩ := ix l h1 h2
    rcases items_cases ht with rfl | rfl
    all_goals
      walk_at "lw e"
      refine ⟨i1, ?_⟩
      walk_at "lw e"
      refine ⟨i2, ?_⟩
      walk_at "lw e"
      exact ⟨_, rfl, rfl⟩
  | raise l m => rcases items_cases ht with rfl | rfl <;> (walk_at "lw e"; exact ⟨_, rfl, rfl⟩)
  | lower l m => rcases items_cases ht with rfl | rfl <;> (walk_at "lw e"; exact ⟨_, rfl, rfl⟩)
/-! ### running over -/
abbrev Pz := (Int × Int × Int) × Int
def spill (m : Int) : Int := if m > 0 then m else 0
/-- levels, what ran over out of each pound, what ran over out of the lowest -/
def ov : List Pz → List Int × List Int × Int
  | [] => ([], [], 0)
  | z :: zs => ((z.2 + (ov zs).2.2 - spill (z.2 + (ov zs).2.2 - z.1.2.1)) :: (ov zs).1, spill (z.2 + (ov zs).2.2 - z.1.2.1) :: (ov zs).2.1, spill (z.2 + (ov zs).2.2 - z.1.2.1))
theorem ov_len : ∀ zs : List Pz, (ov zs).1.length = zs.length ∧ (ov zs).2.1.length = zs.length
  | [] => ⟨rfl, rfl⟩
  | z :: zs => by
    obtain ⟨h1, h2⟩ := ov_len zs
    exact ⟨by rw [ov, List.length_cons, h1]; rfl, by rw [ov, List.length_cons, h2]; rfl⟩
end Lw
-- F2
namespace Lw
open PySem PySem.Spec PyProof.Rows L2
local macro_rules | `(tactic| walk_at "lw e") => `(tactic| (repeat (first | (with_reducible refine Stp.go ?_) | (with_reducible apply Exists.intro) | ((with_reducible refine And.intro ?_ ?_); · (first | (with_reducible exact Evl.ev) | ((fail_if_success (with_reducible refine Gd.keep ?_)); rfl) | ((with_reducible apply mul_r); decide) | ((with_reducible apply mul_l); decide) | ((with_reducible apply div_i); decide) | ((with_reducible apply in_R); decide) | (exact Nat.le_of_ble_eq_true rfl) | (simp [refsOf]; done) | (exact ⟨rfl, rfl, by decide⟩) | (exact ⟨rfl, rfl, rfl⟩) | ((with_reducible apply tgN_o); (focus rfl); (focus (first | assumption | trivial))))) | ((with_reducible apply Sm.vrP); (focus rfl)) | ((with_reducible apply Sm.vrO); (focus rfl)) | ((with_reducible apply Sm.augI); (focus rfl)) | ((with_reducible refine Sm.dicE ?_ ?_); (focus decide)) | ((with_reducible apply Sm.augS); (focus rfl)) | (with_reducible refine iteTT ?_) | (with_reducible refine iteT ?_) | (with_reducible refine iteF ?_) | ((with_reducible refine iteB1 ?_ ?_); (focus rfl)) | ((with_reducible refine iteB0 ?_ ?_); (focus rfl)))))
local macro_rules | `(tactic| walk_at "lw n") => `(tactic| (try dsimp only [ent, List.map, Nat.reduceAdd, Nat.reduceSub, List.length_cons, List.length_nil, List.replicate_succ, List.replicate_zero, List.cons_append, List.nil_append, putBack, setOwn, List.getElem?_cons_zero, List.getElem?_cons_succ, List.set_cons_zero, List.set_cons_succ, Sm.nf]))
local macro_rules | `(tactic| walk_at "lw v") => `(tactic| (try simp only [pb1, pb2, pb3, pb4]))
/-! ### one deed -/
def add1 (ls : List Int) (p m : Int) : List Int := if p > 0 then ls.set (p.toNat - 1) (ls.getD (p.toNat - 1) 0 + m) else ls
theorem add1_len (ls : List Int) (p m : Int) : (add1 ls p m).length = ls.length := by unfold add1; split <;> simp
theorem chg_on {ps : List (Int × Int × Int)} {d : Dd} {n : Nat} (h : d.On n) : 0 ≤ (chg ps d).1 ∧ (chg ps d).1 ≤ n := by
  obtain ⟨h1, h2⟩ := h
  cases d with
  | fill l => exact ⟨by show (0 : Int) ≤ l; omega, by show (l : Int) ≤ n; have : l ≤ n := h2; omega⟩
  | empty l => have a : 1 ≤ l := h1; have b : l ≤ n := h2; exact ⟨by show (0 : Int) ≤ (l : Int) - 1; omega, by show (l : Int) - 1 ≤ n; omega⟩
  | raise l m => exact ⟨by show (0 : Int) ≤ l; omega, by show (l : Int) ≤ n; have : l ≤ n := h2; omega⟩
  | lower l m => exact ⟨by show (0 : Int) ≤ l; omega, by show (l : Int) ≤ n; have : l ≤ n := h2; omega⟩
def chD (b : Bool) : D := .str (if b = true then "high" else "low")
def Chs (t : D) (bs : List Bool) : Prop := items t = some (bs.map chD)
def turn (bs : List Bool) : Dd → List Bool
  | .fill l => bs.set (l - 1) true
  | .empty l => bs.set (l - 1) false
  | _ => bs
theorem turn_len (bs : List Bool) (d : Dd) : (turn bs d).length = bs.length := by cases d <;> simp [turn]
def shut (bs : List Bool) : Dd → Bool
  | .fill l => bs.getD (l - 1) false
  | .empty l => !bs.getD (l - 1) false
  | _ => false
theorem Chs.ix {t : D} {bs : List Bool} (h : Chs t bs) {l : Nat} (h0 : 1 ≤ l) (h1 : l ≤ bs.length) : gIx t (.int ((l : Int) - 1)) = some (.pure (chD (bs.getD (l - 1) false))) := by
  have hlt : l - 1 < bs.length := by omega
  rw [ix_items h (by omega) (by rw [List.length_map]; omega)]
  have e : ((l : Int) - 1).toNat = l - 1 := by omega
  rw [e, List.getD_eq_getElem?_getD, List.getElem?_map, List.getD_eq_getElem?_getD, List.getElem?_eq_getElem hlt]
  rfl
def asks (ps : List (Int × Int × Int)) (d : Dd) : Int := (pAt ps ((chg ps d).1.toNat - 1)).1 - (chg ps d).2
def dry (ps : List (Int × Int × Int)) (ls : List Int) (d : Dd) : Bool := if (chg ps d).2 ≥ 0 then false else decide (ls.getD ((chg ps d).1.toNat - 1) 0 < asks ps d)
end Lw
-- F2
namespace Lw
open PySem PySem.Spec PyProof.Rows L2
local macro_rules | `(tactic| walk_at "lw e") => `(tactic| (repeat (first | (with_reducible refine Stp.go ?_) | (with_reducible apply Exists.intro) | ((with_reducible refine And.intro ?_ ?_); · (first | (with_reducible exact Evl.ev) | ((fail_if_success (with_reducible refine Gd.keep ?_)); rfl) | ((with_reducible apply mul_r); decide) | ((with_reducible apply mul_l); decide) | ((with_reducible apply div_i); decide) | ((with_reducible apply in_R); decide) | (exact Nat.le_of_ble_eq_true rfl) | (simp [refsOf]; done) | (exact ⟨rfl, rfl, by decide⟩) | (exact ⟨rfl, rfl, rfl⟩) | ((with_reducible apply tgN_o); (focus rfl); (focus (first | assumption | trivial))))) | ((with_reducible apply Sm.vrP); (focus rfl)) | ((with_reducible apply Sm.vrO); (focus rfl)) | ((with_reducible apply Sm.augI); (focus rfl)) | ((with_reducible refine Sm.dicE ?_ ?_); (focus decide)) | ((with_reducible apply Sm.augS); (focus rfl)) | (with_reducible refine iteTT ?_) | (with_reducible refine iteT ?_) | (with_reducible refine iteF ?_) | ((with_reducible refine iteB1 ?_ ?_); (focus rfl)) | ((with_reducible refine iteB0 ?_ ?_); (focus rfl)))))
local macro_rules | `(tactic| walk_at "lw n") => `(tactic| (try dsimp only [ent, List.map, Nat.reduceAdd, Nat.reduceSub, List.length_cons, List.length_nil, List.replicate_succ, List.replicate_zero, List.cons_append, List.nil_append, putBack, setOwn, List.getElem?_cons_zero, List.getElem?_cons_succ, List.set_cons_zero, List.set_cons_succ, Sm.nf]))
local macro_rules | `(tactic| walk_at "lw v") => `(tactic| (try simp only [pb1, pb2, pb3, pb4]))
/-! ### fault_of, done, gone -/
def aft (ps : List (Int × Int × Int)) (ls : List Int) (d : Dd) : List Int := (ov (ps.zip (add1 ls (chg ps d).1 (chg ps d).2))).1
def spl (ps : List (Int × Int × Int)) (ls : List Int) (d : Dd) : List Int := (ov (ps.zip (add1 ls (chg ps d).1 (chg ps d).2))).2.1
theorem aft_len {ps : List (Int × Int × Int)} {ls : List Int} {d : Dd} (hl : ls.length = ps.length) : (aft ps ls d).length = ps.length ∧ (spl ps ls d).length = ps.length := by
  obtain ⟨h1, h2⟩ := ov_len (ps.zip (add1 ls (chg ps d).1 (chg ps d).2))
  have e : (ps.zip (add1 ls (chg ps d).1 (chg ps d).2)).length = ps.length := by rw [List.length_zip, add1_len, hl]; omega
  exact ⟨by unfold aft; rw [h1, e], by unfold spl; rw [h2, e]⟩
def sD (ls : List Int) (bs : List Bool) : D := .tuple [it ls, .tuple (bs.map chD)]
def Let (ps : List (Int × Int × Int)) (ls : List Int) (bs : List Bool) (d : Dd) : Prop := shut bs d = false ∧ dry ps ls d = false
end Lw
-- F2
namespace Lw
open PySem PySem.Spec PyProof.Rows L2
local macro_rules | `(tactic| walk_at "lw e") => `(tactic| (repeat (first | (with_reducible refine Stp.go ?_) | (with_reducible apply Exists.intro) | ((with_reducible refine And.intro ?_ ?_); · (first | (with_reducible exact Evl.ev) | ((fail_if_success (with_reducible refine Gd.keep ?_)); rfl) | ((with_reducible apply mul_r); decide) | ((with_reducible apply mul_l); decide) | ((with_reducible apply div_i); decide) | ((with_reducible apply in_R); decide) | (exact Nat.le_of_ble_eq_true rfl) | (simp [refsOf]; done) | (exact ⟨rfl, rfl, by decide⟩) | (exact ⟨rfl, rfl, rfl⟩) | ((with_reducible apply tgN_o); (focus rfl); (focus (first | assumption | trivial))))) | ((with_reducible apply Sm.vrP); (focus rfl)) | ((with_reducible apply Sm.vrO); (focus rfl)) | ((with_reducible apply Sm.augI); (focus rfl)) | ((with_reducible refine Sm.dicE ?_ ?_); (focus decide)) | ((with_reducible apply Sm.augS); (focus rfl)) | (with_reducible refine iteTT ?_) | (with_reducible refine iteT ?_) | (with_reducible refine iteF ?_) | ((with_reducible refine iteB1 ?_ ?_); (focus rfl)) | ((with_reducible refine iteB0 ?_ ?_); (focus rfl)))))
local macro_rules | `(tactic| walk_at "lw n") => `(tactic| (try dsimp only [ent, List.map, Nat.reduceAdd, Nat.reduceSub, List.length_cons, List.length_nil, List.replicate_succ, List.replicate_zero, List.cons_append, List.nil_append, putBack, setOwn, List.getElem?_cons_zero, List.getElem?_cons_succ, List.set_cons_zero, List.set_cons_succ, Sm.nf]))
local macro_rules | `(tactic| walk_at "lw v") => `(tactic| (try simp only [pb1, pb2, pb3, pb4]))
structure DeedsG (t : D) (ts : List D) (ds : List Dd) : Prop where
  its : items t = some ts
  len : ts.length = ds.length
  ok : ∀ (i : Nat) x d, ts[i]? = some x → ds[i]? = some d → Dt x d
abbrev Gs := List Int × List Bool × List Int
def gst (ps : List (Int × Int × Int)) (s : Gs) (d : Dd) : Gs := (aft ps s.1 d, turn s.2.1 d, (s.2.2.zip (spl ps s.1 d)).map fun p => p.1 + p.2)
def gn (ps : List (Int × Int × Int)) (s : Gs) (ds : List Dd) : Gs := ds.foldl (gst ps) s
end Lw
-- F2
namespace Lw
open PySem PySem.Spec PyProof.Rows L2
local macro_rules | `(tactic| walk_at "lw e") => `(tactic| (repeat (first | (with_reducible refine Stp.go ?_) | (with_reducible apply Exists.intro) | ((with_reducible refine And.intro ?_ ?_); · (first | (with_reducible exact Evl.ev) | ((fail_if_success (with_reducible refine Gd.keep ?_)); rfl) | ((with_reducible apply mul_r); decide) | ((with_reducible apply mul_l); decide) | ((with_reducible apply div_i); decide) | ((with_reducible apply in_R); decide) | (exact Nat.le_of_ble_eq_true rfl) | (simp [refsOf]; done) | (exact ⟨rfl, rfl, by decide⟩) | (exact ⟨rfl, rfl, rfl⟩) | ((with_reducible apply tgN_o); (focus rfl); (focus (first | assumption | trivial))))) | ((with_reducible apply Sm.vrP); (focus rfl)) | ((with_reducible apply Sm.vrO); (focus rfl)) | ((with_reducible apply Sm.augI); (focus rfl)) | ((with_reducible refine Sm.dicE ?_ ?_); (focus decide)) | ((with_reducible apply Sm.augS); (focus rfl)) | (with_reducible refine iteTT ?_) | (with_reducible refine iteT ?_) | (with_reducible refine iteF ?_) | ((with_reducible refine iteB1 ?_ ?_); (focus rfl)) | ((with_reducible refine iteB0 ?_ ?_); (focus rfl)))))
local macro_rules | `(tactic| walk_at "lw n") => `(tactic| (try dsimp only [ent, List.map, Nat.reduceAdd, Nat.reduceSub, List.length_cons, List.length_nil, List.replicate_succ, List.replicate_zero, List.cons_append, List.nil_append, putBack, setOwn, List.getElem?_cons_zero, List.getElem?_cons_succ, List.set_cons_zero, List.set_cons_succ, Sm.nf]))
local macro_rules | `(tactic| walk_at "lw v") => `(tactic| (try simp only [pb1, pb2, pb3, pb4]))
/-! ### sums_of, stairs and deeds as lists or tuples -/
theorem StairG.glen {st : D} {xs : List D} {ps : List (Int × Int × Int)} (h : StairG st xs ps) : gLen st = some (.pure (.int ps.length)) := by
  rcases items_cases h.its with rfl | rfl
  · show some (R.pure (.int (xs.length : Nat))) = _; rw [h.len]
  · show some (R.pure (.int (xs.length : Nat))) = _; rw [h.len]
def undg (x : D) : Dd := undd (.tuple ((items x).getD []))
theorem undg_dt {x : D} {d : Dd} (h : Dt x d) : undg x = d := by
  unfold undg
  rw [show items x = some (dl d) from h]
  cases d <;> rfl
theorem DeedsG.mem {t : D} {ts : List D} {ds : List Dd} (h : DeedsG t ts ds) {x : D} (hx : x ∈ ts) : ∃ d ∈ ds, Dt x d := by
  obtain ⟨i, hi⟩ := List.mem_iff_getElem?.1 hx
  have hil := (List.getElem?_eq_some_iff.mp hi).1
  rw [h.len] at hil
  exact ⟨ds[i], List.getElem_mem hil, h.ok i x _ hi (List.getElem?_eq_getElem hil)⟩
theorem DeedsG.map {α : Type} {t : D} {ts : List D} {ds : List Dd} (h : DeedsG t ts ds) (f : Dd → α) : ts.map (fun x => f (undg x)) = ds.map f := by
  apply List.ext_getElem?
  intro i
  rw [List.getElem?_map, List.getElem?_map]
  by_cases hi : i < ts.length
  · have hj : i < ds.length := by rw [← h.len]; exact hi
    rw [List.getElem?_eq_getElem hi, List.getElem?_eq_getElem hj]
    show some (f (undg ts[i])) = some (f ds[i])
    rw [undg_dt (h.ok i _ _ (List.getElem?_eq_getElem hi) (List.getElem?_eq_getElem hj))]
  · have hj : ¬ i < ds.length := by rw [← h.len]; exact hi
    rw [List.getElem?_eq_none (by omega), List.getElem?_eq_none (by omega)]
    rfl
theorem sumsG {st t : D} {xs ts : List D} {ps : List (Int × Int × Int)} {ds : List Dd} (hs : StairG st xs ps) (ht : DeedsG t ts ds) (hl : ds.length ≤ 1000) (hp : ps.length ≤ 1000) (hd : ∀ d ∈ ds, d.On ps.length) : wpf m_p_sums_of [.pure st, .pure t] (ValQ fun x => x = it (sums ps ds)) := by
  have hsl : sizeLine = 16777216 := rfl
  have htl := ht.len
  refine Sm.run ?_
  unfold g_p_sums_of
  walk_at "lw n"
  walk_at "lw e"
  refine ⟨ht.its, ?_⟩
  walk_at "lw e"
  refine Sm.lcPure (fun x => chgD ps (undg x)) (by omega) ?_ ?_
  · intro x hx
    obtain ⟨d, hm, hdt⟩ := ht.mem hx
    refine ⟨_, tgN_o rfl trivial, ?_⟩
    walk_at "lw n"
    walk_at "lw e"
    (refine Sm.fmono (changeG hs hdt (hd d hm)) fun r o h => ?_; obtain ⟨d, rfl, rfl⟩ := h; refine ⟨nref, ?_⟩; walk_at "lw v"; walk_at "lw e")
    rw [undg_dt hdt]
    first | rfl | exact ⟨rfl, rfl, rfl⟩ | exact ⟨_, rfl, rfl, rfl⟩
  · have e1 : List.map (fun x => chgD ps (undg x)) ts = ds.map (chgD ps) := ht.map (chgD ps)
    rw [e1]
    walk_at "lw e"
    refine ⟨hs.glen, ?_⟩
    walk_at "lw e"
    refine ⟨in_R (by omega), ?_⟩
    walk_at "lw e"
    have e2 : ((ps.length : Int) + 1 - 1).toNat = ps.length := by omega
    rw [e2]
    refine Sm.lcPure (fun x => match x with | .int j => .int (sumAt ps ds j) | x => x) (by rw [rngD_len]; omega) ?_ ?_
    · intro x hx
      obtain ⟨i, hi⟩ := List.mem_iff_getElem?.1 hx
      have hil := (List.getElem?_eq_some_iff.mp hi).1
      rw [rngD_len] at hil
      rw [rngD_get _ _ _ hil] at hi
      cases hi
      refine ⟨_, tgN_o rfl trivial, ?_⟩
      walk_at "lw n"
      walk_at "lw e"
      refine Sm.lcFil (gePr (1 + (i : Int))) sndPr (by rw [List.length_map]; omega) ?_ ?_
      · intro y hy
        obtain ⟨d, hm, rfl⟩ := List.mem_map.1 hy
        refine ⟨_, tgT2_o rfl trivial rfl trivial, ?_⟩
        walk_at "lw n"
        refine Sm.tst (Sm.op2 (Sm.vrP rfl (Sm.vrP rfl ⟨_, _, _, rfl, rfl, rfl, _, rfl, rfl, rfl, rfl, fun _ => ?_⟩)))
        walk_at "lw e"
        first | rfl | exact ⟨rfl, rfl, rfl⟩ | exact ⟨_, rfl, rfl, rfl⟩
      · have e3 : ((ds.map (chgD ps)).filter (gePr (1 + (i : Int)))).map sndPr = (((ds.filter fun d => decide ((1 + (i : Int)) ≤ (chg ps d).1)).map fun d => (chg ps d).2)).map PyData.int := by
          rw [List.filter_map, List.map_map, List.map_map]
          rfl
        rw [e3]
        refine ⟨_, _, rfl, sumK_ok (.inl rfl), ?_⟩
        rw [fil_sum]
        first | rfl | exact ⟨rfl, rfl, rfl⟩ | exact ⟨_, rfl, rfl, rfl⟩
    · walk_at "lw e"
      refine ⟨_, rfl, ?_⟩
      rw [rng_map]
      show PyData.tuple _ = PyData.tuple _
      unfold sums
      rw [List.map_map]
      rfl
end Lw
-- F2
namespace Lw
open PySem PySem.Spec PyProof.Rows L2
local macro_rules | `(tactic| walk_at "lw e") => `(tactic| (repeat (first | (with_reducible refine Stp.go ?_) | (with_reducible apply Exists.intro) | ((with_reducible refine And.intro ?_ ?_); · (first | (with_reducible exact Evl.ev) | ((fail_if_success (with_reducible refine Gd.keep ?_)); rfl) | ((with_reducible apply mul_r); decide) | ((with_reducible apply mul_l); decide) | ((with_reducible apply div_i); decide) | ((with_reducible apply in_R); decide) | (exact Nat.le_of_ble_eq_true rfl) | (simp [refsOf]; done) | (exact ⟨rfl, rfl, by decide⟩) | (exact ⟨rfl, rfl, rfl⟩) | ((with_reducible apply tgN_o); (focus rfl); (focus (first | assumption | trivial))))) | ((with_reducible apply Sm.vrP); (focus rfl)) | ((with_reducible apply Sm.vrO); (focus rfl)) | ((with_reducible apply Sm.augI); (focus rfl)) | ((with_reducible refine Sm.dicE ?_ ?_); (focus decide)) | ((with_reducible apply Sm.augS); (focus rfl)) | (with_reducible refine iteTT ?_) | (with_reducible refine iteT ?_) | (with_reducible refine iteF ?_) | ((with_reducible refine iteB1 ?_ ?_); (focus rfl)) | ((with_reducible refine iteB0 ?_ ?_); (focus rfl)))))
local macro_rules | `(tactic| walk_at "lw n") => `(tactic| (try dsimp only [ent, List.map, Nat.reduceAdd, Nat.reduceSub, List.length_cons, List.length_nil, List.replicate_succ, List.replicate_zero, List.cons_append, List.nil_append, putBack, setOwn, List.getElem?_cons_zero, List.getElem?_cons_succ, List.set_cons_zero, List.set_cons_succ, Sm.nf]))
local macro_rules | `(tactic| walk_at "lw v") => `(tactic| (try simp only [pb1, pb2, pb3, pb4]))
/-! ### laps whose turns are let -/
def turns (bs : List Bool) (ds : List Dd) : List Bool := ds.foldl turn bs
structure Runs (bs : List Bool) (ds : List Dd) (bs' : List Bool) : Prop where
  fin : turns bs ds = bs'
  ok : ∀ (i : Nat) d, ds[i]? = some d → shut (turns bs (ds.take i)) d = false
theorem Runs.nil (bs : List Bool) : Runs bs [] bs := ⟨rfl, fun i d h => by simp at h⟩
end Lw
-- F2
namespace Lw
open PySem PySem.Spec PyProof.Rows L2
local macro_rules | `(tactic| walk_at "lw e") => `(tactic| (repeat (first | (with_reducible refine Stp.go ?_) | (with_reducible apply Exists.intro) | ((with_reducible refine And.intro ?_ ?_); · (first | (with_reducible exact Evl.ev) | ((fail_if_success (with_reducible refine Gd.keep ?_)); rfl) | ((with_reducible apply mul_r); decide) | ((with_reducible apply mul_l); decide) | ((with_reducible apply div_i); decide) | ((with_reducible apply in_R); decide) | (exact Nat.le_of_ble_eq_true rfl) | (simp [refsOf]; done) | (exact ⟨rfl, rfl, by decide⟩) | (exact ⟨rfl, rfl, rfl⟩) | ((with_reducible apply tgN_o); (focus rfl); (focus (first | assumption | trivial))))) | ((with_reducible apply Sm.vrP); (focus rfl)) | ((with_reducible apply Sm.vrO); (focus rfl)) | ((with_reducible apply Sm.augI); (focus rfl)) | ((with_reducible refine Sm.dicE ?_ ?_); (focus decide)) | ((with_reducible apply Sm.augS); (focus rfl)) | (with_reducible refine iteTT ?_) | (with_reducible refine iteT ?_) | (with_reducible refine iteF ?_) | ((with_reducible refine iteB1 ?_ ?_); (focus rfl)) | ((with_reducible refine iteB0 ?_ ?_); (focus rfl)))))
local macro_rules | `(tactic| walk_at "lw n") => `(tactic| (try dsimp only [ent, List.map, Nat.reduceAdd, Nat.reduceSub, List.length_cons, List.length_nil, List.replicate_succ, List.replicate_zero, List.cons_append, List.nil_append, putBack, setOwn, List.getElem?_cons_zero, List.getElem?_cons_succ, List.set_cons_zero, List.set_cons_succ, Sm.nf]))
local macro_rules | `(tactic| walk_at "lw v") => `(tactic| (try simp only [pb1, pb2, pb3, pb4]))
/-! ### sums of laps, lock by lock -/
theorem Runs.tail {bs bs' : List Bool} {d : Dd} {ds : List Dd} (h : Runs bs (d :: ds) bs') : shut bs d = false ∧ Runs (turn bs d) ds bs' := by
  refine ⟨h.ok 0 d rfl, ⟨h.fin, fun i e he => ?_⟩⟩
  exact h.ok (i + 1) e (by rw [List.getElem?_cons_succ]; exact he)
end Lw
-- F2
namespace Lw
open PySem PySem.Spec PyProof.Rows L2
local macro_rules | `(tactic| walk_at "lw e") => `(tactic| (repeat (first | (with_reducible refine Stp.go ?_) | (with_reducible apply Exists.intro) | ((with_reducible refine And.intro ?_ ?_); · (first | (with_reducible exact Evl.ev) | ((fail_if_success (with_reducible refine Gd.keep ?_)); rfl) | ((with_reducible apply mul_r); decide) | ((with_reducible apply mul_l); decide) | ((with_reducible apply div_i); decide) | ((with_reducible apply in_R); decide) | (exact Nat.le_of_ble_eq_true rfl) | (simp [refsOf]; done) | (exact ⟨rfl, rfl, by decide⟩) | (exact ⟨rfl, rfl, rfl⟩) | ((with_reducible apply tgN_o); (focus rfl); (focus (first | assumption | trivial))))) | ((with_reducible apply Sm.vrP); (focus rfl)) | ((with_reducible apply Sm.vrO); (focus rfl)) | ((with_reducible apply Sm.augI); (focus rfl)) | ((with_reducible refine Sm.dicE ?_ ?_); (focus decide)) | ((with_reducible apply Sm.augS); (focus rfl)) | (with_reducible refine iteTT ?_) | (with_reducible refine iteT ?_) | (with_reducible refine iteF ?_) | ((with_reducible refine iteB1 ?_ ?_); (focus rfl)) | ((with_reducible refine iteB0 ?_ ?_); (focus rfl)))))
local macro_rules | `(tactic| walk_at "lw n") => `(tactic| (try dsimp only [ent, List.map, Nat.reduceAdd, Nat.reduceSub, List.length_cons, List.length_nil, List.replicate_succ, List.replicate_zero, List.cons_append, List.nil_append, putBack, setOwn, List.getElem?_cons_zero, List.getElem?_cons_succ, List.set_cons_zero, List.set_cons_succ, Sm.nf]))
local macro_rules | `(tactic| walk_at "lw v") => `(tactic| (try simp only [pb1, pb2, pb3, pb4]))
end Lw
-- F2
namespace Lw
open PySem PySem.Spec PyProof.Rows L2
local macro_rules | `(tactic| walk_at "lw e") => `(tactic| (repeat (first | (with_reducible refine Stp.go ?_) | (with_reducible apply Exists.intro) | ((with_reducible refine And.intro ?_ ?_); · (first | (with_reducible exact Evl.ev) | ((fail_if_success (with_reducible refine Gd.keep ?_)); rfl) | ((with_reducible apply mul_r); decide) | ((with_reducible apply mul_l); decide) | ((with_reducible apply div_i); decide) | ((with_reducible apply in_R); decide) | (exact Nat.le_of_ble_eq_true rfl) | (simp [refsOf]; done) | (exact ⟨rfl, rfl, by decide⟩) | (exact ⟨rfl, rfl, rfl⟩) | ((with_reducible apply tgN_o); (focus rfl); (focus (first | assumption | trivial))))) | ((with_reducible apply Sm.vrP); (focus rfl)) | ((with_reducible apply Sm.vrO); (focus rfl)) | ((with_reducible apply Sm.augI); (focus rfl)) | ((with_reducible refine Sm.dicE ?_ ?_); (focus decide)) | ((with_reducible apply Sm.augS); (focus rfl)) | (with_reducible refine iteTT ?_) | (with_reducible refine iteT ?_) | (with_reducible refine iteF ?_) | ((with_reducible refine iteB1 ?_ ?_); (focus rfl)) | ((with_reducible refine iteB0 ?_ ?_); (focus rfl)))))
local macro_rules | `(tactic| walk_at "lw n") => `(tactic| (try dsimp only [ent, List.map, Nat.reduceAdd, Nat.reduceSub, List.length_cons, List.length_nil, List.replicate_succ, List.replicate_zero, List.cons_append, List.nil_append, putBack, setOwn, List.getElem?_cons_zero, List.getElem?_cons_succ, List.set_cons_zero, List.set_cons_succ, Sm.nf]))
local macro_rules | `(tactic| walk_at "lw v") => `(tactic| (try simp only [pb1, pb2, pb3, pb4]))
end Lw
-- F2
namespace Lw
open PySem PySem.Spec PyProof.Rows L2
local macro_rules | `(tactic| walk_at "lw e") => `(tactic| (repeat (first | (with_reducible refine Stp.go ?_) | (with_reducible apply Exists.intro) | ((with_reducible refine And.intro ?_ ?_); · (first | (with_reducible exact Evl.ev) | ((fail_if_success (with_reducible refine Gd.keep ?_)); rfl) | ((with_reducible apply mul_r); decide) | ((with_reducible apply mul_l); decide) | ((with_reducible apply div_i); decide) | ((with_reducible apply in_R); decide) | (exact Nat.le_of_ble_eq_true rfl) | (simp [refsOf]; done) | (exact ⟨rfl, rfl, by decide⟩) | (exact ⟨rfl, rfl, rfl⟩) | ((with_reducible apply tgN_o); (focus rfl); (focus (first | assumption | trivial))))) | ((with_reducible apply Sm.vrP); (focus rfl)) | ((with_reducible apply Sm.vrO); (focus rfl)) | ((with_reducible apply Sm.augI); (focus rfl)) | ((with_reducible refine Sm.dicE ?_ ?_); (focus decide)) | ((with_reducible apply Sm.augS); (focus rfl)) | (with_reducible refine iteTT ?_) | (with_reducible refine iteT ?_) | (with_reducible refine iteF ?_) | ((with_reducible refine iteB1 ?_ ?_); (focus rfl)) | ((with_reducible refine iteB0 ?_ ?_); (focus rfl)))))
local macro_rules | `(tactic| walk_at "lw n") => `(tactic| (try dsimp only [ent, List.map, Nat.reduceAdd, Nat.reduceSub, List.length_cons, List.length_nil, List.replicate_succ, List.replicate_zero, List.cons_append, List.nil_append, putBack, setOwn, List.getElem?_cons_zero, List.getElem?_cons_succ, List.set_cons_zero, List.set_cons_succ, Sm.nf]))
local macro_rules | `(tactic| walk_at "lw v") => `(tactic| (try simp only [pb1, pb2, pb3, pb4]))
theorem pw_9 : gPowA (.int 10) (.int 9) = some (.pure (.int 1000000000)) := rfl
theorem pw_12 : gPowA (.int 10) (.int 12) = some (.pure (.int 1000000000000)) := rfl
theorem pw_17 : gPowA (.int 10) (.int 17) = some (.pure (.int 100000000000000000)) := rfl
theorem pw_20 : gPowA (.int 10) (.int 20) = some (.pure (.int 100000000000000000000)) := rfl
theorem pw_60 : gPowA (.int 10) (.int 60) = some (.pure (.int 1000000000000000000000000000000000000000000000000000000000000)) := rfl
instance : Evl (gPowA (.int 10) (.int 9)) (.pure (.int 1000000000)) := ⟨pw_9⟩
instance : Evl (gPowA (.int 10) (.int 12)) (.pure (.int 1000000000000)) := ⟨pw_12⟩
instance : Evl (gPowA (.int 10) (.int 17)) (.pure (.int 100000000000000000)) := ⟨pw_17⟩
instance : Evl (gPowA (.int 10) (.int 20)) (.pure (.int 100000000000000000000)) := ⟨pw_20⟩
instance : Evl (gPowA (.int 10) (.int 60)) (.pure (.int 1000000000000000000000000000000000000000000000000000000000000)) := ⟨pw_60⟩
def PoundI (g : Nat) (p : Int × Int × Int) : Prop := ∃ a b s : Int, p = (a * g, (a + b) * g, s * g) ∧ 0 ≤ a ∧ a < 4 ∧ 0 ≤ b ∧ b < 30 ∧ 1 ≤ s ∧ s < 5
theorem pound_b {g : Nat} (hg : g ≤ 1000000000000000) {p : Int × Int × Int} (h : PoundI g p) : 0 ≤ p.1 ∧ p.1 ≤ p.2.1 ∧ p.2.1 ≤ 40000000000000000 := by
  obtain ⟨a, b, s, rfl, h1, h2, h3, h4, h5, h6⟩ := h
  have k1 : 0 ≤ a * g := Int.mul_nonneg h1 (by omega)
  have k2 : (a + b) * g = a * g + b * g := Int.add_mul _ _ _
  have k3 : 0 ≤ b * g := Int.mul_nonneg h3 (by omega)
  have k4 : (a + b) * g ≤ 40 * g := Int.mul_le_mul_of_nonneg_right (by omega) (by omega)
  refine ⟨k1, ?_, ?_⟩
  · show a * g ≤ (a + b) * g; omega
  · show (a + b) * g ≤ _; omega
end Lw
-- F2
-- F3
namespace Lw
open PySem PySem.Spec PyProof.Rows L2
local macro_rules | `(tactic| walk_at "lw e") => `(tactic| (repeat (first | (with_reducible refine Stp.go ?_) | (with_reducible apply Exists.intro) | ((with_reducible refine And.intro ?_ ?_); · (first | (with_reducible exact Evl.ev) | ((fail_if_success (with_reducible refine Gd.keep ?_)); rfl) | ((with_reducible apply mul_r); decide) | ((with_reducible apply mul_l); decide) | ((with_reducible apply div_i); decide) | ((with_reducible apply in_R); decide) | (exact Nat.le_of_ble_eq_true rfl) | (simp [refsOf]; done) | (exact ⟨rfl, rfl, by decide⟩) | (exact ⟨rfl, rfl, rfl⟩) | ((with_reducible apply tgN_o); (focus rfl); (focus (first | assumption | trivial))))) | ((with_reducible apply Sm.vrP); (focus rfl)) | ((with_reducible apply Sm.vrO); (focus rfl)) | ((with_reducible apply Sm.augI); (focus rfl)) | ((with_reducible refine Sm.dicE ?_ ?_); (focus decide)) | ((with_reducible apply Sm.augS); (focus rfl)) | (with_reducible refine iteTT ?_) | (with_reducible refine iteT ?_) | (with_reducible refine iteF ?_) | ((with_reducible refine iteB1 ?_ ?_); (focus rfl)) | ((with_reducible refine iteB0 ?_ ?_); (focus rfl)))))
local macro_rules | `(tactic| walk_at "lw n") => `(tactic| (try dsimp only [ent, List.map, Nat.reduceAdd, Nat.reduceSub, List.length_cons, List.length_nil, List.replicate_succ, List.replicate_zero, List.cons_append, List.nil_append, putBack, setOwn, List.getElem?_cons_zero, List.getElem?_cons_succ, List.set_cons_zero, List.set_cons_succ, Sm.nf]))
local macro_rules | `(tactic| walk_at "lw v") => `(tactic| (try simp only [pb1, pb2, pb3, pb4]))
/-! ### totals, great stairs on which nothing runs over -/
def tots (xs : List Int) : List Int := (List.range xs.length).map fun i => (xs.drop i).sum
theorem tots_len (xs : List Int) : (tots xs).length = xs.length := by unfold tots; rw [List.length_map, List.length_range]
theorem tots_get (xs : List Int) (i : Nat) : (tots xs)[i]? = if i < xs.length then some (xs.drop i).sum else none := by
  unfold tots
  rw [List.getElem?_map]
  by_cases h : i < xs.length
  · rw [List.getElem?_range h, if_pos h]; rfl
  · rw [List.getElem?_eq_none (by rw [List.length_range]; omega), if_neg h]; rfl
theorem sum_set : ∀ (xs : List Int) (k : Nat) (v : Int), k < xs.length → (xs.set k v).sum = xs.sum + (v - xs.getD k 0)
  | [], k, v, h => by simp at h
  | x :: xs, 0, v, _ => by simp; omega
  | x :: xs, k + 1, v, h => by
    rw [List.set_cons_succ, List.sum_cons, List.sum_cons, sum_set xs k v (by simpa using h)]
    simp only [List.getD_cons_succ]
    omega
theorem tots_add1 {ls : List Int} {c : Nat} {m : Int} (hc : c ≤ ls.length) : tots (add1 ls (c : Int) m) = addPre c m (tots ls) := by
  apply List.ext_getElem?
  intro a
  rw [addPre_get, tots_get, tots_get, add1_len]
  by_cases h : a < ls.length
  · rw [if_pos h, if_pos h]
    unfold add1
    by_cases h0 : (c : Int) > 0
    · rw [if_pos h0, Int.toNat_natCast]
      by_cases q : a < c
      · rw [if_pos q]
        have e : (ls.set (c - 1) (ls.getD (c - 1) 0 + m)).drop a = (ls.drop a).set (c - 1 - a) (ls.getD (c - 1) 0 + m) := by
          rw [List.drop_set, if_neg (by omega)]
        rw [e, sum_set _ _ _ (by rw [List.length_drop]; omega)]
        have e2 : (ls.drop a).getD (c - 1 - a) 0 = ls.getD (c - 1) 0 := by
          rw [List.getD_eq_getElem?_getD, List.getD_eq_getElem?_getD, List.getElem?_drop]
          congr 2
          omega
        rw [e2]
        simp only [Option.map_some]
        congr 1
        omega
      · rw [if_neg q]
        have e : (ls.set (c - 1) (ls.getD (c - 1) 0 + m)).drop a = ls.drop a := by
          rw [List.drop_set, if_pos (by omega)]
        rw [e]
    · rw [if_neg h0]
      rw [if_neg (by omega)]
  · rw [if_neg h, if_neg h]
    simp
theorem ov_flat : ∀ zs : List Pz, (∀ z ∈ zs, z.2 ≤ z.1.2.1) → ov zs = (zs.map (·.2), zs.map (fun _ => 0), 0)
  | [], _ => rfl
  | z :: zs, h => by
    have h1 := h z (by simp)
    have ih := ov_flat zs fun y hy => h y (by simp [hy])
    rw [ov, ih]
    have e : spill (z.2 + 0 - z.1.2.1) = 0 := by unfold spill; rw [if_neg (by omega)]
    dsimp only
    rw [e]
    simp
/-- the stair with the same locks and pounds so great -/
def greatS (F : Int) (ps : List (Int × Int × Int)) : List (Int × Int × Int) := ps.map fun p => (0, 2 * F, p.2.2)
theorem greatS_len (F : Int) (ps : List (Int × Int × Int)) : (greatS F ps).length = ps.length := List.length_map _
theorem great_sz (F : Int) (ps : List (Int × Int × Int)) {l : Nat} (h0 : 1 ≤ l) (h1 : l ≤ ps.length) : sz (greatS F ps) l = sz ps l := by
  have hlt : l - 1 < ps.length := by omega
  unfold sz pAt greatS
  rw [List.getD_eq_getElem?_getD, List.getElem?_map, List.getD_eq_getElem?_getD, List.getElem?_eq_getElem hlt]
  rfl
theorem great_chg (F : Int) {ps : List (Int × Int × Int)} {d : Dd} (h : d.On ps.length) : chg (greatS F ps) d = chg ps d := by
  obtain ⟨h0, h1⟩ := h
  cases d with
  | fill l => show ((l : Int), -sz (greatS F ps) l) = _; rw [great_sz F ps (l := l) h0 h1]; rfl
  | empty l => show ((l : Int) - 1, sz (greatS F ps) l) = _; rw [great_sz F ps (l := l) h0 h1]; rfl
  | raise l m => rfl
  | lower l m => rfl
theorem great_most {F : Int} {ps : List (Int × Int × Int)} {ls : List Int} (h : ∀ l ∈ ls, l ≤ 2 * F) : ∀ z ∈ (greatS F ps).zip ls, z.2 ≤ z.1.2.1 := by
  intro z hz
  have h1 := (List.of_mem_zip hz).1
  have h2 := (List.of_mem_zip hz).2
  unfold greatS at h1
  obtain ⟨p, _, e⟩ := List.mem_map.1 h1
  rw [← e]
  exact h _ h2
theorem zip_snd {F : Int} {ps : List (Int × Int × Int)} {ls : List Int} (h : ls.length = ps.length) : ((greatS F ps).zip ls).map (·.2) = ls := by
  have := List.map_snd_zip (l₁ := greatS F ps) (l₂ := ls) (by rw [greatS_len]; omega)
  exact this
/-- what stands in the midst behind so many deeds -/
structure Mid (F B : Int) (ps : List (Int × Int × Int)) (bs : List Bool) (ds : List Dd) (s : Gs) : Prop where
  len : s.1.length = ps.length
  bd : ∀ l ∈ s.1, F - B * ds.length ≤ l ∧ l ≤ F + B * ds.length
  tot : tots s.1 = ((tots (ps.map fun _ => F)).zip (sums ps ds)).map fun p => p.1 + p.2
  ch : s.2.1 = turns bs ds
  ran : s.2.2 = ps.map fun _ => 0
theorem add1_mem {ls : List Int} {p m l : Int} (h : l ∈ add1 ls p m) : l ∈ ls ∨ ∃ x ∈ ls, l = x + m := by
  unfold add1 at h
  split at h
  · rename_i hp
    by_cases hlt : p.toNat - 1 < ls.length
    · rcases List.mem_or_eq_of_mem_set h with h | h
      · exact .inl h
      · refine .inr ⟨ls.getD (p.toNat - 1) 0, ?_, h⟩
        rw [List.getD_eq_getElem?_getD, List.getElem?_eq_getElem hlt]
        exact List.getElem_mem hlt
    · rw [List.set_eq_of_length_le (by omega)] at h
      exact .inl h
  · exact .inl h
theorem zip_addPre (c : Nat) (m : Int) : ∀ (xs ys : List Int), addPre c m ((xs.zip ys).map fun p => p.1 + p.2) = (xs.zip (addPre c m ys)).map fun p => p.1 + p.2 := by
  induction c with
  | zero => intro xs ys; rfl
  | succ c ih =>
    intro xs ys
    cases xs with
    | nil => simp [addPre]
    | cons x xs =>
      cases ys with
      | nil => simp [addPre]
      | cons y ys =>
        rw [List.zip_cons_cons, List.map_cons, addPre, ih, addPre, List.zip_cons_cons, List.map_cons]
        congr 1
        dsimp only
        omega
theorem Mid.step {F B : Int} {ps : List (Int × Int × Int)} {bs : List Bool} {ds : List Dd} {d : Dd} {s : Gs} (h : Mid F B ps bs ds s) (ho : d.On ps.length) (hb : -B ≤ (chg ps d).2 ∧ (chg ps d).2 ≤ B) (hF : B * (ds.length + 1) ≤ F) : Mid F B ps bs (ds ++ [d]) (gst (greatS F ps) s d) := by
  have hc := chg_on (ps := ps) ho
  have ec : ((chg ps d).1.toNat : Int) = (chg ps d).1 := by omega
  have eB : B * ((ds ++ [d]).length : Nat) = B * ds.length + B := by
    rw [List.length_append, List.length_singleton]; push_cast; rw [Int.mul_add, Int.mul_one]
  have hB0 : 0 ≤ B := by omega
  have eB2 : B * ((ds.length : Int) + 1) = B * ds.length + B := by rw [Int.mul_add, Int.mul_one]
  have bd2 : ∀ l ∈ add1 s.1 (chg ps d).1 (chg ps d).2, F - B * ((ds ++ [d]).length : Nat) ≤ l ∧ l ≤ F + B * ((ds ++ [d]).length : Nat) := by
    intro l hm
    rw [eB]
    rcases add1_mem hm with hm | ⟨x, hx, rfl⟩
    · have := h.bd l hm; omega
    · have := h.bd x hx; omega
  have hmost : ∀ l ∈ add1 s.1 (chg ps d).1 (chg ps d).2, l ≤ 2 * F := fun l hm => by
    have := bd2 l hm
    omega
  have fl := ov_flat ((greatS F ps).zip (add1 s.1 (chg ps d).1 (chg ps d).2)) (great_most hmost)
  have ea : aft (greatS F ps) s.1 d = add1 s.1 (chg ps d).1 (chg ps d).2 := by
    unfold aft
    rw [great_chg F ho, fl]
    exact zip_snd (by rw [add1_len]; exact h.len)
  have es : spl (greatS F ps) s.1 d = ps.map fun _ => 0 := by
    unfold spl
    rw [great_chg F ho, fl]
    show List.map (fun _ => (0 : Int)) ((greatS F ps).zip (add1 s.1 (chg ps d).1 (chg ps d).2)) = _
    rw [List.map_const', List.map_const', List.length_zip, greatS_len, add1_len, h.len, Nat.min_self]
  refine ⟨?_, ?_, ?_, ?_, ?_⟩
  · show (aft (greatS F ps) s.1 d).length = _
    rw [ea, add1_len]; exact h.len
  · intro l hm
    rw [show (gst (greatS F ps) s d).1 = aft (greatS F ps) s.1 d from rfl, ea] at hm
    exact bd2 l hm
  · show tots (aft (greatS F ps) s.1 d) = _
    rw [ea, ← ec, tots_add1 (by rw [h.len]; omega), h.tot, zip_addPre, addPre_sums ps ds d _ ec.symm]
  · show turn s.2.1 d = _
    rw [h.ch]
    unfold turns
    rw [List.foldl_append]
    rfl
  · show ((s.2.2.zip (spl (greatS F ps) s.1 d)).map fun p => p.1 + p.2) = _
    rw [h.ran, es]
    generalize ps = qs
    induction qs with
    | nil => rfl
    | cons q qs ih => rw [List.map_cons, List.zip_cons_cons, List.map_cons, ih]; rfl
end Lw
-- F2
-- F3
namespace Lw
open PySem PySem.Spec PyProof.Rows L2
local macro_rules | `(tactic| walk_at "lw e") => `(tactic| (repeat (first | (with_reducible refine Stp.go ?_) | (with_reducible apply Exists.intro) | ((with_reducible refine And.intro ?_ ?_); · (first | (with_reducible exact Evl.ev) | ((fail_if_success (with_reducible refine Gd.keep ?_)); rfl) | ((with_reducible apply mul_r); decide) | ((with_reducible apply mul_l); decide) | ((with_reducible apply div_i); decide) | ((with_reducible apply in_R); decide) | (exact Nat.le_of_ble_eq_true rfl) | (simp [refsOf]; done) | (exact ⟨rfl, rfl, by decide⟩) | (exact ⟨rfl, rfl, rfl⟩) | ((with_reducible apply tgN_o); (focus rfl); (focus (first | assumption | trivial))))) | ((with_reducible apply Sm.vrP); (focus rfl)) | ((with_reducible apply Sm.vrO); (focus rfl)) | ((with_reducible apply Sm.augI); (focus rfl)) | ((with_reducible refine Sm.dicE ?_ ?_); (focus decide)) | ((with_reducible apply Sm.augS); (focus rfl)) | (with_reducible refine iteTT ?_) | (with_reducible refine iteT ?_) | (with_reducible refine iteF ?_) | ((with_reducible refine iteB1 ?_ ?_); (focus rfl)) | ((with_reducible refine iteB0 ?_ ?_); (focus rfl)))))
local macro_rules | `(tactic| walk_at "lw n") => `(tactic| (try dsimp only [ent, List.map, Nat.reduceAdd, Nat.reduceSub, List.length_cons, List.length_nil, List.replicate_succ, List.replicate_zero, List.cons_append, List.nil_append, putBack, setOwn, List.getElem?_cons_zero, List.getElem?_cons_succ, List.set_cons_zero, List.set_cons_succ, Sm.nf]))
local macro_rules | `(tactic| walk_at "lw v") => `(tactic| (try simp only [pb1, pb2, pb3, pb4]))
/-! ### running over, by the law's own loop -/
abbrev P3 := Int × Int × Int
end Lw
-- F2
-- F3
namespace Lw
open PySem PySem.Spec PyProof.Rows L2
local macro_rules | `(tactic| walk_at "lw e") => `(tactic| (repeat (first | (with_reducible refine Stp.go ?_) | (with_reducible apply Exists.intro) | ((with_reducible refine And.intro ?_ ?_); · (first | (with_reducible exact Evl.ev) | ((fail_if_success (with_reducible refine Gd.keep ?_)); rfl) | ((with_reducible apply mul_r); decide) | ((with_reducible apply mul_l); decide) | ((with_reducible apply div_i); decide) | ((with_reducible apply in_R); decide) | (exact Nat.le_of_ble_eq_true rfl) | (simp [refsOf]; done) | (exact ⟨rfl, rfl, by decide⟩) | (exact ⟨rfl, rfl, rfl⟩) | ((with_reducible apply tgN_o); (focus rfl); (focus (first | assumption | trivial))))) | ((with_reducible apply Sm.vrP); (focus rfl)) | ((with_reducible apply Sm.vrO); (focus rfl)) | ((with_reducible apply Sm.augI); (focus rfl)) | ((with_reducible refine Sm.dicE ?_ ?_); (focus decide)) | ((with_reducible apply Sm.augS); (focus rfl)) | (with_reducible refine iteTT ?_) | (with_reducible refine iteT ?_) | (with_reducible refine iteF ?_) | ((with_reducible refine iteB1 ?_ ?_); (focus rfl)) | ((with_reducible refine iteB0 ?_ ?_); (focus rfl)))))
local macro_rules | `(tactic| walk_at "lw n") => `(tactic| (try dsimp only [ent, List.map, Nat.reduceAdd, Nat.reduceSub, List.length_cons, List.length_nil, List.replicate_succ, List.replicate_zero, List.cons_append, List.nil_append, putBack, setOwn, List.getElem?_cons_zero, List.getElem?_cons_succ, List.set_cons_zero, List.set_cons_succ, Sm.nf]))
local macro_rules | `(tactic| walk_at "lw v") => `(tactic| (try simp only [pb1, pb2, pb3, pb4]))
/-! ### the law's own step -/
/-- what takes takes something -/
def Takes (ps : List P3) : Dd → Prop
  | .fill l => 1 ≤ sz ps l
  | .lower _ m => 1 ≤ m
  | .empty l => 1 ≤ sz ps l
  | .raise _ m => 1 ≤ m
end Lw
-- F2
-- F3
namespace Lw
open PySem PySem.Spec PyProof.Rows L2
local macro_rules | `(tactic| walk_at "lw e") => `(tactic| (repeat (first | (with_reducible refine Stp.go ?_) | (with_reducible apply Exists.intro) | ((with_reducible refine And.intro ?_ ?_); · (first | (with_reducible exact Evl.ev) | ((fail_if_success (with_reducible refine Gd.keep ?_)); rfl) | ((with_reducible apply mul_r); decide) | ((with_reducible apply mul_l); decide) | ((with_reducible apply div_i); decide) | ((with_reducible apply in_R); decide) | (exact Nat.le_of_ble_eq_true rfl) | (simp [refsOf]; done) | (exact ⟨rfl, rfl, by decide⟩) | (exact ⟨rfl, rfl, rfl⟩) | ((with_reducible apply tgN_o); (focus rfl); (focus (first | assumption | trivial))))) | ((with_reducible apply Sm.vrP); (focus rfl)) | ((with_reducible apply Sm.vrO); (focus rfl)) | ((with_reducible apply Sm.augI); (focus rfl)) | ((with_reducible refine Sm.dicE ?_ ?_); (focus decide)) | ((with_reducible apply Sm.augS); (focus rfl)) | (with_reducible refine iteTT ?_) | (with_reducible refine iteT ?_) | (with_reducible refine iteF ?_) | ((with_reducible refine iteB1 ?_ ?_); (focus rfl)) | ((with_reducible refine iteB0 ?_ ?_); (focus rfl)))))
local macro_rules | `(tactic| walk_at "lw n") => `(tactic| (try dsimp only [ent, List.map, Nat.reduceAdd, Nat.reduceSub, List.length_cons, List.length_nil, List.replicate_succ, List.replicate_zero, List.cons_append, List.nil_append, putBack, setOwn, List.getElem?_cons_zero, List.getElem?_cons_succ, List.set_cons_zero, List.set_cons_succ, Sm.nf]))
local macro_rules | `(tactic| walk_at "lw v") => `(tactic| (try simp only [pb1, pb2, pb3, pb4]))
/-! ### the law's own walk -/
def okD (s : Gs) : D := .tuple [sD s.1 s.2.1, it s.2.2, .none]
def badD (s : Gs) (i : Nat) (w : Str) (a : Nat) : D := .tuple [sD s.1 s.2.1, it s.2.2, .tuple [.int i, .str w, .int a]]
def wk (ps : List P3) (loose : Bool) : Gs → List Dd → Nat → D
  | s, [], _ => okD s
  | s, d :: ds, i => if loose = false ∧ shut s.2.1 d = true then badD s i "shut" d.at
    else if loose = false ∧ dry ps s.1 d = true then badD s i "dry" d.at else wk ps loose (gst ps s d) ds (i + 1)
end Lw
-- F2
-- F3
namespace Lw
open PySem PySem.Spec PyProof.Rows L2
local macro_rules | `(tactic| walk_at "lw e") => `(tactic| (repeat (first | (with_reducible refine Stp.go ?_) | (with_reducible apply Exists.intro) | ((with_reducible refine And.intro ?_ ?_); · (first | (with_reducible exact Evl.ev) | ((fail_if_success (with_reducible refine Gd.keep ?_)); rfl) | ((with_reducible apply mul_r); decide) | ((with_reducible apply mul_l); decide) | ((with_reducible apply div_i); decide) | ((with_reducible apply in_R); decide) | (exact Nat.le_of_ble_eq_true rfl) | (simp [refsOf]; done) | (exact ⟨rfl, rfl, by decide⟩) | (exact ⟨rfl, rfl, rfl⟩) | ((with_reducible apply tgN_o); (focus rfl); (focus (first | assumption | trivial))))) | ((with_reducible apply Sm.vrP); (focus rfl)) | ((with_reducible apply Sm.vrO); (focus rfl)) | ((with_reducible apply Sm.augI); (focus rfl)) | ((with_reducible refine Sm.dicE ?_ ?_); (focus decide)) | ((with_reducible apply Sm.augS); (focus rfl)) | (with_reducible refine iteTT ?_) | (with_reducible refine iteT ?_) | (with_reducible refine iteF ?_) | ((with_reducible refine iteB1 ?_ ?_); (focus rfl)) | ((with_reducible refine iteB0 ?_ ?_); (focus rfl)))))
local macro_rules | `(tactic| walk_at "lw n") => `(tactic| (try dsimp only [ent, List.map, Nat.reduceAdd, Nat.reduceSub, List.length_cons, List.length_nil, List.replicate_succ, List.replicate_zero, List.cons_append, List.nil_append, putBack, setOwn, List.getElem?_cons_zero, List.getElem?_cons_succ, List.set_cons_zero, List.set_cons_succ, Sm.nf]))
local macro_rules | `(tactic| walk_at "lw v") => `(tactic| (try simp only [pb1, pb2, pb3, pb4]))
/-! ### tables -/
abbrev Tab := List (List Int)
def fmin : List Int → Int
  | [] => 0
  | x :: xs => xs.foldl min x
theorem foldl_min_cons (a b : Int) (l : List Int) : (b :: l).foldl min a = min a (l.foldl min b) := by
  induction l generalizing a b with
  | nil => rfl
  | cons c l ih =>
    rw [List.foldl_cons, ih (min a b) c, ih b c]
    omega
theorem fmin_cons {x : Int} {xs : List Int} (h : xs ≠ []) : fmin (x :: xs) = min x (fmin xs) := by
  cases xs with
  | nil => exact absurd rfl h
  | cons y ys => exact foldl_min_cons x y ys
def ev (row parts : List Int) : Int := fmin (List.zipWith (· + ·) row parts)
theorem ev_cons {a x : Int} {r xs : List Int} (h1 : r ≠ []) (h2 : xs ≠ []) : ev (a :: r) (x :: xs) = min (a + x) (ev r xs) := by
  unfold ev
  rw [List.zipWith_cons_cons, fmin_cons]
  cases r with
  | nil => exact absurd rfl h1
  | cons b r => cases xs with
    | nil => exact absurd rfl h2
    | cons y ys => simp
theorem ev_add (m : Int) : ∀ (r xs : List Int), r.length = xs.length → r ≠ [] → ev (r.map (· + m)) xs = ev r xs + m
  | [], _, _, h => absurd rfl h
  | [a], [x], _, _ => by show a + m + x = a + x + m; omega
  | a :: b :: r, x :: y :: xs, h, _ => by
    rw [List.map_cons, ev_cons (by simp) (by simp), ev_cons (by simp) (by simp), ev_add m (b :: r) (y :: xs) (by simpa using h) (by simp)]
    omega
theorem ev_addl (m : Int) (r xs : List Int) (h : r.length = xs.length) (h0 : r ≠ []) : ev (r.map (m + ·)) xs = m + ev r xs := by
  have e : r.map (m + ·) = r.map (· + m) := List.map_congr_left fun a _ => by show m + a = a + m; omega
  rw [e, ev_add m r xs h h0]
  omega
theorem ev_min (q : Int) (r : List Int) : ∀ (ab xs : List Int), r.length = xs.length → ab.length = xs.length → r ≠ [] → ev (List.zipWith (fun a b => min a (q + b)) r ab) xs = min (ev r xs) (q + ev ab xs) := by
  induction r with
  | nil => intro ab xs _ _ h; exact absurd rfl h
  | cons a r ih =>
    intro ab xs h1 h2 _
    obtain ⟨x, xs, rfl⟩ : ∃ x ys, xs = x :: ys := by cases xs with | nil => simp at h1 | cons x ys => exact ⟨x, ys, rfl⟩
    obtain ⟨b, ab, rfl⟩ : ∃ x ys, ab = x :: ys := by cases ab with | nil => simp at h2 | cons x ys => exact ⟨x, ys, rfl⟩
    have h1' : r.length = xs.length := by simpa using h1
    have h2' : ab.length = xs.length := by simpa using h2
    by_cases hr : r = []
    · subst hr
      have hx : xs = [] := List.length_eq_zero_iff.1 h1'.symm
      subst hx
      have hb : ab = [] := List.length_eq_zero_iff.1 h2'
      subst hb
      show min a (q + b) + x = min (a + x) (q + (b + x))
      omega
    · have hx : xs ≠ [] := fun e => hr (List.length_eq_zero_iff.1 (by rw [h1', e]; rfl))
      have hb : ab ≠ [] := fun e => hx (List.length_eq_zero_iff.1 (by rw [← h2', e]; rfl))
      have hz : List.zipWith (fun a b => min a (q + b)) r ab ≠ [] := fun e => by
        have := congrArg List.length e
        rw [List.length_zipWith, h1', h2', Nat.min_self] at this
        exact hx (List.length_eq_zero_iff.1 this)
      rw [List.zipWith_cons_cons, ev_cons hz hx, ev_cons hr hx, ev_cons hb hx, ih ab xs h1' h2' hr]
      omega
def ledT : Tab → List Int → List Int
  | [], _ => []
  | row :: rows, parts => ev row parts :: ledT rows parts.tail
def hd0 (t : Tab) : List Int := t.headD [0]
def Shp : Nat → Tab → Prop
  | 0, t => t = []
  | n + 1, t => ∃ row rows, t = row :: rows ∧ row.length = n + 2 ∧ Shp n rows
theorem Shp.len : ∀ {n : Nat} {t : Tab}, Shp n t → t.length = n
  | 0, _, h => by rw [show _ = [] from h]; rfl
  | n + 1, _, ⟨row, rows, e, _, h⟩ => by rw [e, List.length_cons, h.len]
theorem Shp.hd : ∀ {n : Nat} {t : Tab}, Shp n t → (hd0 t).length = n + 1
  | 0, _, h => by rw [show _ = [] from h]; rfl
  | n + 1, _, ⟨row, rows, e, h, _⟩ => by rw [e]; exact h
theorem ev_hd {n : Nat} {t : Tab} {T : List Int} (h : Shp n t) (hT : T.length = n) : ev (hd0 t) (T ++ [0]) = (ledT t (T ++ [0])).headD 0 := by
  cases n with
  | zero =>
    rw [show t = [] from h, List.length_eq_zero_iff.1 hT]
    rfl
  | succ n =>
    obtain ⟨row, rows, rfl, _, _⟩ := h
    rfl
def brimT : List P3 → Tab
  | [] => []
  | p :: ps => (0 :: (hd0 (brimT ps)).map (p.2.1 + ·)) :: brimT ps
theorem brim_shp : ∀ ps : List P3, Shp ps.length (brimT ps)
  | [] => rfl
  | p :: ps => ⟨_, _, rfl, by rw [List.length_cons, List.length_map, (brim_shp ps).hd], brim_shp ps⟩
def behT : List P3 → Tab → Nat → Int → Tab
  | p :: ps, row :: rows, c, m => (((row.map (· + if 1 ≤ c then m else 0)).headD 0) :: List.zipWith (fun a b => min a (p.2.1 + b)) (row.map (· + if 1 ≤ c then m else 0)).tail (hd0 (behT ps rows (c - 1) m))) :: behT ps rows (c - 1) m
  | _, _, _, _ => []
theorem beh_shp : ∀ {ps : List P3} {t : Tab} {c : Nat} {m : Int}, Shp ps.length t → Shp ps.length (behT ps t c m)
  | [], t, c, m, h => rfl
  | p :: ps, t, c, m, h => by
    obtain ⟨row, rows, rfl, h1, h2⟩ := h
    have ih := beh_shp (ps := ps) (c := c - 1) (m := m) h2
    refine ⟨_, _, rfl, ?_, ih⟩
    rw [List.length_cons, List.length_zipWith, List.length_tail, List.length_map, ih.hd, h1]
    omega
/-- running over, by totals -/
def ovT : List P3 → List Int → List Int
  | p :: ps, u :: us => min u (p.2.1 + (ovT ps us).headD 0) :: ovT ps us
  | _, _ => []
theorem ledT_brim : ∀ (ps : List P3) (T : List Int), T.length = ps.length → ledT (brimT ps) (T ++ [0]) = ovT ps T
  | [], T, h => by cases T <;> rfl
  | p :: ps, [], h => by simp at h
  | p :: ps, u :: us, h => by
    have hl : us.length = ps.length := by simpa using h
    have ih := ledT_brim ps us hl
    have sh := brim_shp ps
    rw [brimT, List.cons_append, ledT, ovT, List.tail_cons, ih]
    congr 1
    have hne : hd0 (brimT ps) ≠ [] := fun e => by have := sh.hd; rw [e] at this; simp at this
    rw [ev_cons (by simp [hne]) (by simp), ev_addl _ _ _ (by rw [sh.hd, List.length_append, hl]; rfl) hne, ev_hd sh hl, ih]
    omega
theorem ledT_beh : ∀ (ps : List P3) (t : Tab) (c : Nat) (m : Int) (T : List Int), Shp ps.length t → T.length = ps.length → ledT (behT ps t c m) (T ++ [0]) = ovT ps (addPre c m (ledT t (T ++ [0])))
  | [], t, c, m, T, h, hT => by
    have : t = [] := h
    subst this
    cases c <;> rfl
  | p :: ps, t, c, m, T, h, hT => by
    obtain ⟨row, rows, rfl, h1, h2⟩ := h
    cases T with
    | nil => simp at hT
    | cons x xs =>
    have hl : xs.length = ps.length := by simpa using hT
    have ih := ledT_beh ps rows (c - 1) m xs h2 hl
    have sh := beh_shp (ps := ps) (c := c - 1) (m := m) h2
    have hrow : row.length = (x :: (xs ++ [0])).length := by rw [h1, List.length_cons, List.length_append, hl]; rfl
    obtain ⟨k, hk⟩ : ∃ k, (if 1 ≤ c then m else 0) = k := ⟨_, rfl⟩
    have e1 : addPre c m (ledT (row :: rows) (x :: xs ++ [0])) = (ev row (x :: (xs ++ [0])) + k) :: addPre (c - 1) m (ledT rows (xs ++ [0])) := by
      rw [List.cons_append, ledT, List.tail_cons]
      cases c with
      | zero => rw [← hk]; simp [addPre]
      | succ c => rw [← hk, addPre]; simp
    rw [e1, behT, List.cons_append, ledT, List.tail_cons, ih, ovT, hk]
    congr 1
    cases row with
    | nil => simp at h1
    | cons a r =>
      have hr : r.length = ps.length + 1 := by simpa using h1
      have hrn : r ≠ [] := fun e => by rw [e] at hr; simp at hr
      have hab : (hd0 (behT ps rows (c - 1) m)).length = (xs ++ [0]).length := by rw [sh.hd, List.length_append, hl]; rfl
      have hrx : r.length = (xs ++ [0]).length := by rw [hr, List.length_append, hl]; rfl
      rw [List.map_cons, List.headD_cons, List.tail_cons]
      have hz : List.zipWith (fun a b => min a (p.2.1 + b)) (r.map (· + k)) (hd0 (behT ps rows (c - 1) m)) ≠ [] := fun e => by
        have := congrArg List.length e
        rw [List.length_zipWith, List.length_map, hab, hrx] at this
        simp at this
      rw [ev_cons hz (by simp), ev_min _ _ _ _ (by rw [List.length_map]; exact hrx) hab (by simpa using hrn), ev_add _ _ _ hrx hrn, ev_hd sh hl, ih, ev_cons hrn (by simp)]
      omega
theorem tots_cons (x : Int) (xs : List Int) : tots (x :: xs) = (x + xs.sum) :: tots xs := by
  unfold tots
  rw [List.length_cons, List.range_succ_eq_map, List.map_cons, List.map_map]
  simp
theorem tots_hd : ∀ xs : List Int, (tots xs).headD 0 = xs.sum
  | [] => rfl
  | x :: xs => by rw [tots_cons, List.headD_cons, List.sum_cons]
theorem ov_sum : ∀ zs : List Pz, (ov zs).1.sum + (ov zs).2.2 = (zs.map (·.2)).sum
  | [] => rfl
  | z :: zs => by
    have ih := ov_sum zs
    rw [ov, List.map_cons, List.sum_cons, List.sum_cons, ← ih]
    dsimp only
    omega
theorem tots_ov : ∀ (ps : List P3) (ls : List Int), ls.length = ps.length → tots (ov (ps.zip ls)).1 = ovT ps (tots ls)
  | [], [], _ => rfl
  | p :: ps, l :: ls, h => by
    have hl : ls.length = ps.length := by simpa using h
    have ih := tots_ov ps ls hl
    have hs := ov_sum (ps.zip ls)
    rw [List.map_snd_zip (by omega)] at hs
    have hh := tots_hd (ov (ps.zip ls)).1
    rw [List.zip_cons_cons, ov, tots_cons, tots_cons, ovT, ← ih, hh]
    congr 1
    dsimp only
    unfold spill
    split <;> omega
theorem tots_aft {ps : List P3} {ls : List Int} {d : Dd} (hl : ls.length = ps.length) (ho : d.On ps.length) : tots (aft ps ls d) = ovT ps (addPre (chg ps d).1.toNat (chg ps d).2 (tots ls)) := by
  have hc := chg_on (ps := ps) ho
  have ec : ((chg ps d).1.toNat : Int) = (chg ps d).1 := by omega
  unfold aft
  rw [tots_ov ps _ (by rw [add1_len]; exact hl)]
  congr 1
  conv => lhs; rw [← ec]
  exact tots_add1 (by omega)
def tabStep (ps : List P3) (t : Tab) (d : Dd) : Tab := behT ps t (chg ps d).1.toNat (chg ps d).2
def tabOf (ps : List P3) (ds : List Dd) : Tab := ds.foldl (tabStep ps) (brimT ps)
theorem tab_shp {ps : List P3} : ∀ (ds : List Dd) (t : Tab), Shp ps.length t → Shp ps.length (ds.foldl (tabStep ps) t)
  | [], t, h => h
  | d :: ds, t, h => tab_shp ds _ (beh_shp h)
theorem tabOf_shp (ps : List P3) (ds : List Dd) : Shp ps.length (tabOf ps ds) := tab_shp ds _ (brim_shp ps)
/-- levels behind deeds, leasts and chambers left aside -/
def lvs (ps : List P3) (ls : List Int) (ds : List Dd) : List Int := ds.foldl (aft ps) ls
theorem led_along {ps : List P3} {T : List Int} (hT : T.length = ps.length) : ∀ (ds : List Dd) (t : Tab) (ls : List Int), Shp ps.length t → ls.length = ps.length → (∀ d ∈ ds, d.On ps.length) → ledT t (T ++ [0]) = tots ls → ledT (ds.foldl (tabStep ps) t) (T ++ [0]) = tots (lvs ps ls ds)
  | [], t, ls, _, _, _, h => h
  | d :: ds, t, ls, hs, hl, ho, h => by
    refine led_along hT ds (tabStep ps t d) (aft ps ls d) (beh_shp hs) (aft_len hl).1 (fun e m => ho e (by simp [m])) ?_
    unfold tabStep
    rw [ledT_beh ps t _ _ T hs hT, h, tots_aft hl (ho d (by simp))]
theorem led_tab {ps : List P3} {ls : List Int} {ds : List Dd} (hl : ls.length = ps.length) (ho : ∀ d ∈ ds, d.On ps.length) : ledT (tabOf ps ds) (tots ls ++ [0]) = tots (lvs ps (ov (ps.zip ls)).1 ds) := by
  have hT : (tots ls).length = ps.length := by rw [tots_len]; exact hl
  refine led_along hT ds _ _ (brim_shp ps) (by rw [(ov_len _).1, List.length_zip]; omega) ho ?_
  rw [ledT_brim ps _ hT, tots_ov ps ls hl]
end Lw
-- F2
-- F3
namespace Lw
open PySem PySem.Spec PyProof.Rows L2
local macro_rules | `(tactic| walk_at "lw e") => `(tactic| (repeat (first | (with_reducible refine Stp.go ?_) | (with_reducible apply Exists.intro) | ((with_reducible refine And.intro ?_ ?_); · (first | (with_reducible exact Evl.ev) | ((fail_if_success (with_reducible refine Gd.keep ?_)); rfl) | ((with_reducible apply mul_r); decide) | ((with_reducible apply mul_l); decide) | ((with_reducible apply div_i); decide) | ((with_reducible apply in_R); decide) | (exact Nat.le_of_ble_eq_true rfl) | (simp [refsOf]; done) | (exact ⟨rfl, rfl, by decide⟩) | (exact ⟨rfl, rfl, rfl⟩) | ((with_reducible apply tgN_o); (focus rfl); (focus (first | assumption | trivial))))) | ((with_reducible apply Sm.vrP); (focus rfl)) | ((with_reducible apply Sm.vrO); (focus rfl)) | ((with_reducible apply Sm.augI); (focus rfl)) | ((with_reducible refine Sm.dicE ?_ ?_); (focus decide)) | ((with_reducible apply Sm.augS); (focus rfl)) | (with_reducible refine iteTT ?_) | (with_reducible refine iteT ?_) | (with_reducible refine iteF ?_) | ((with_reducible refine iteB1 ?_ ?_); (focus rfl)) | ((with_reducible refine iteB0 ?_ ?_); (focus rfl)))))
local macro_rules | `(tactic| walk_at "lw n") => `(tactic| (try dsimp only [ent, List.map, Nat.reduceAdd, Nat.reduceSub, List.length_cons, List.length_nil, List.replicate_succ, List.replicate_zero, List.cons_append, List.nil_append, putBack, setOwn, List.getElem?_cons_zero, List.getElem?_cons_succ, List.set_cons_zero, List.set_cons_succ, Sm.nf]))
local macro_rules | `(tactic| walk_at "lw v") => `(tactic| (try simp only [pb1, pb2, pb3, pb4]))
def tabD (t : Tab) : D := .tuple (t.map it)
structure TabG (tv : D) (xs : List D) (t : Tab) : Prop where
  its : items tv = some xs
  len : xs.length = t.length
  ok : ∀ (i : Nat) x r, xs[i]? = some x → t[i]? = some r → Seq x r
theorem TabG.of (t : Tab) : TabG (tabD t) (t.map it) t := ⟨rfl, List.length_map _, fun i x r h1 h2 => by
  rw [List.getElem?_map, h2] at h1
  cases h1
  exact .inr rfl⟩
def plusD (k : Int) : D → D
  | .int m => .int (k + m)
  | d => d
def IBt (st : D) (ps : List P3) (i : Nat) (ς : En) : Prop := ∃ o3 : Option S, ς = [some (.pure st), some (.own false ((brimT (ps.drop (ps.length - i))).reverse.map it)), some (.pure (it (hd0 (brimT (ps.drop (ps.length - i)))))), o3, none] ∧ Fr o3
theorem brim_ok {st : D} {xs : List D} {ps : List P3} (hs : StairG st xs ps) (hp : ps.length ≤ 1000) : wpf m_p_brim_table [.pure st] (ValQ fun x => x = tabD (brimT ps)) := by
  have hsl : sizeLine = 16777216 := rfl
  obtain ⟨r, d, r1, r2, r3⟩ := rev_any hs.its
  have hxl := hs.len
  refine Sm.run ?_
  unfold g_p_brim_table
  walk_at "lw n"
  walk_at "lw e"
  refine ⟨r1, _, _, _, r2 _, r3, ?_⟩
  refine Sm.loopInv (IBt st ps) ⟨none, ?_, trivial⟩ ?_ ?_
  · rw [Nat.sub_zero, List.drop_length]; rfl
  · rintro i x ς hx ⟨o3, rfl, f3⟩
    have hi : i < ps.length := by have := (List.getElem?_eq_some_iff.mp hx).1; rw [List.length_reverse] at this; omega
    rw [List.getElem?_reverse (by omega)] at hx
    obtain ⟨k, hk⟩ : ∃ k, ps.length - 1 - i = k := ⟨_, rfl⟩
    rw [show xs.length - 1 - i = k by omega] at hx
    have hkl : k < ps.length := by omega
    have hpn := hs.ok k x _ hx (List.getElem?_eq_getElem hkl)
    have sh := brim_shp (ps.drop (k + 1))
    have hh := sh.hd
    rw [List.length_drop] at hh
    have ed : ps.drop k = ps[k] :: ps.drop (k + 1) := List.drop_eq_getElem_cons hkl
    rw [show ps.length - i = k + 1 by omega]
    refine ⟨_, tgN_o rfl f3, ?_⟩
    walk_at "lw n"
    walk_at "lw e"
    refine Sm.lcPure (plusD ps[k].2.1) (by rw [List.length_map]; omega) ?_ ?_
    · intro y hy
      obtain ⟨m, hm, rfl⟩ := List.mem_map.1 hy
      refine ⟨_, tgN_o rfl trivial, ?_⟩
      walk_at "lw n"
      walk_at "lw e"
      refine ⟨hpn.b, ?_⟩
      walk_at "lw e"
      first | rfl | exact ⟨rfl, rfl⟩
    have em : ((hd0 (brimT (ps.drop (k + 1)))).map PyData.int).map (plusD ps[k].2.1) = ((hd0 (brimT (ps.drop (k + 1)))).map (ps[k].2.1 + ·)).map PyData.int := by
      rw [List.map_map, List.map_map]; rfl
    rw [em]
    dsimp only [wipeE]
    walk_at "lw n"
    walk_at "lw e"
    refine ⟨catT_ok (by simp; omega), ?_⟩
    walk_at "lw e"
    walk_at "lw n"
    walk_at "lw e"
    refine ⟨app_ok (by rw [List.length_map, List.length_reverse, sh.len, List.length_drop]; omega), ?_⟩
    refine ⟨some (.pure x), ?_, trivial⟩
    rw [show ps.length - (i + 1) = k by omega, ed]
    have eb : brimT (ps[k] :: ps.drop (k + 1)) = (0 :: (hd0 (brimT (ps.drop (k + 1)))).map (ps[k].2.1 + ·)) :: brimT (ps.drop (k + 1)) := rfl
    rw [eb, List.reverse_cons, List.map_append]
    rfl
  · rintro ς ⟨o3, rfl, f3⟩
    rw [List.length_reverse, hxl, Nat.sub_self, List.drop_zero]
    walk_at "lw e"
    refine ⟨_, rfl, ?_⟩
    unfold tabD
    show PyData.tuple _ = PyData.tuple _
    rw [← List.map_reverse, List.reverse_reverse]
/-! ### table_behind -/
def mnD (q : Int) : D → D
  | .tuple [.int a, .int b] => .int (if q + b < a then q + b else a)
  | d => d
def adD (k : Int) : D → D
  | .int h => .int (h + k)
  | d => d
theorem mn_map (q : Int) : ∀ (xs ys : List Int), ((List.zip xs ys).map fun p => PyData.tuple [.int p.1, .int p.2]).map (mnD q) = (List.zipWith (fun a b => min a (q + b)) xs ys).map PyData.int
  | [], _ => rfl
  | _ :: _, [] => rfl
  | x :: xs, y :: ys => by
    rw [List.zip_cons_cons, List.map_cons, List.map_cons, mn_map q xs ys, List.zipWith_cons_cons, List.map_cons]
    congr 1
    show PyData.int (if q + y < x then q + y else x) = _
    congr 1
    omega
theorem Shp.dropS : ∀ {n : Nat} {t : Tab} (k : Nat), Shp n t → k ≤ n → Shp (n - k) (t.drop k)
  | n, t, 0, h, _ => h
  | 0, t, k + 1, h, hk => by omega
  | n + 1, t, k + 1, h, hk => by
    obtain ⟨row, rows, rfl, _, h2⟩ := h
    rw [List.drop_succ_cons, show n + 1 - (k + 1) = n - k by omega]
    exact Shp.dropS k h2 (by omega)
theorem Shp.row {n : Nat} {t : Tab} {k : Nat} (h : Shp n t) (hk : k < n) : ∃ a r, t.drop k = (a :: r) :: t.drop (k + 1) ∧ t[k]? = some (a :: r) ∧ r.length = n - k := by
  have hd := h.dropS k (by omega)
  rw [show n - k = (n - k - 1) + 1 by omega] at hd
  obtain ⟨row, rows, e, hl, _⟩ := hd
  have hlt : k < t.length := by rw [h.len]; exact hk
  rw [List.drop_eq_getElem_cons hlt] at e ⊢
  injection e with e1 e2
  cases row with
  | nil => simp at hl
  | cons a r => exact ⟨a, r, by rw [e1], by rw [List.getElem?_eq_getElem hlt, e1], by rw [List.length_cons] at hl; omega⟩
theorem lix0 {w : D} {r : List D} : gIx (.list (w :: r)) (.int 0) = some (.pure w) := at_list (xs := w :: r) (by decide) (by rw [List.length_cons]; omega)
def ITb (st tv dv : D) (ps : List P3) (t : Tab) (c : Nat) (m : Int) (i : Nat) (ς : En) : Prop := ∃ o7 o8 o9 o11 : Option S, ς = [some (.pure st), some (.pure tv), some (.pure dv), some (.pure (.int (c : Int))), some (.pure (.int m)), some (.own false ((behT (ps.drop (ps.length - i)) (t.drop (ps.length - i)) (c - (ps.length - i)) m).reverse.map it)), some (.pure (it (hd0 (behT (ps.drop (ps.length - i)) (t.drop (ps.length - i)) (c - (ps.length - i)) m)))), o7, o8, o9, none, o11, none] ∧ Fr o7 ∧ Fr o8 ∧ Fr o9 ∧ Fr o11
theorem rn2_ok {n : Nat} (h : n ≤ 1000) : gRn2 (.int 1) (.int ((n : Int) + 1)) = some (rngD 1 n).reverse := by
  show (if inR 1 = true ∧ inR ((n : Int) + 1) = true then some (rngD 1 ((n : Int) + 1 - 1).toNat).reverse else none) = _
  rw [if_pos ⟨in_R (by omega), in_R (by omega)⟩, show ((n : Int) + 1 - 1).toNat = n by omega]
theorem behind1_ok {st dv : D} {xs : List D} {ps : List P3} {t : Tab} {d : Dd} (hs : StairG st xs ps) (hd : Dt dv d) (ho : d.On ps.length) (hp : ps.length ≤ 1000) (ht : Shp ps.length t) : wpf m_p_table_behind [.pure st, .pure (tabD t), .pure dv] (ValQ fun x => x = tabD (tabStep ps t d)) := by
  have hsl : sizeLine = 16777216 := rfl
  have hc := chg_on (ps := ps) ho
  have ec : ((chg ps d).1.toNat : Int) = (chg ps d).1 := by omega
  unfold tabStep
  have hch := changeG hs hd ho
  rw [← ec] at hch
  generalize (chg ps d).1.toNat = c at hch ec
  generalize (chg ps d).2 = m at hch
  refine Sm.run ?_
  unfold g_p_table_behind
  walk_at "lw n"
  walk_at "lw e"
  (refine Sm.fmono (hch) fun r o h => ?_; obtain ⟨d, rfl, rfl⟩ := h; refine ⟨nref, ?_⟩; walk_at "lw v"; walk_at "lw e")
  walk_at "lw n"
  walk_at "lw e"
  refine ⟨hs.glen, Sm.cn ⟨_, _, _, rfl, rfl, rfl, _, _, rfl, _, rn2_ok hp, ?_⟩⟩
  refine Sm.loopInv (ITb st (tabD t) dv ps t c m) ⟨none, none, none, none, ?_, trivial, trivial, trivial, trivial⟩ ?_ ?_
  · rw [Nat.sub_zero, List.drop_length, show t.drop ps.length = [] by rw [← ht.len, List.drop_length]]; rfl
  · rintro i x ς hx ⟨o7, o8, o9, o11, rfl, f7, f8, f9, f11⟩
    have hi : i < ps.length := by have := (List.getElem?_eq_some_iff.mp hx).1; rw [List.length_reverse, rngD_len] at this; omega
    rw [List.getElem?_reverse (by rw [rngD_len]; omega), rngD_len, rngD_get _ _ _ (by omega)] at hx
    cases hx
    obtain ⟨k, hk⟩ : ∃ k, ps.length - 1 - i = k := ⟨_, rfl⟩
    rw [hk, show ps.length - i = k + 1 by omega]
    have hkl : k < ps.length := by omega
    have ekn : (1 : Int) + k - 1 = (k : Int) := by omega
    obtain ⟨a, r, ed, eg, hr⟩ := ht.row hkl
    have edp : ps.drop k = ps[k] :: ps.drop (k + 1) := List.drop_eq_getElem_cons hkl
    have ix1 : gIx (tabD t) (.int ((1 : Int) + k - 1)) = some (.pure (it (a :: r))) := by
      rw [ekn, ix_items (t := tabD t) rfl (by omega) (by rw [List.length_map, ht.len]; omega), Int.toNat_natCast, List.getD_eq_getElem?_getD, List.getElem?_map, eg]
      rfl
    obtain ⟨px, ix2, hpx⟩ := hs.ix (l := k + 1) (by omega) (by omega)
    have epx : pAt ps (k + 1 - 1) = ps[k] := by
      unfold pAt
      rw [Nat.add_sub_cancel, List.getD_eq_getElem?_getD, List.getElem?_eq_getElem hkl]
      rfl
    rw [epx] at hpx
    have ix2' : gIx st (.int ((1 : Int) + k - 1)) = some (.pure px) := by rw [← ix2]; congr 2; omega
    have sh := beh_shp (ps := ps.drop (k + 1)) (t := t.drop (k + 1)) (c := c - (k + 1)) (m := m) (by rw [List.length_drop]; exact ht.dropS (k + 1) (by omega))
    have shh := sh.hd
    rw [List.length_drop] at shh
    refine ⟨_, tgN_o rfl f7, ?_⟩
    walk_at "lw n"
    obtain ⟨q, hq⟩ : ∃ q : Int, (if 1 ≤ c - k then m else 0) = q := ⟨_, rfl⟩
    refine Sm.sq ?_
    refine Sm.asg (Sm.ife (Sm.tst (Sm.op2 (Sm.vrP rfl (Sm.vrP rfl ⟨_, _, _, rfl, rfl, rfl, _, rfl, ?_⟩)))))
    have hite : ∀ {A B : Prop}, (q = m → A) → (q = 0 → B) → if decide ((1 : Int) + k ≤ (c : Int)) = true then A else B := by
      intro A B hA hB
      by_cases h : (1 : Int) + k ≤ (c : Int)
      · refine iteDT h (hA ?_); rw [← hq, if_pos (by omega)]
      · refine iteDF h (hB ?_); rw [← hq, if_neg (by omega)]
    have rest : Sm.andThen (sq (asg (lcE (itS (op2 gIx (vr 1) (op2 gSubA (vr 7) (cn (.int 1))))) [10] (tgN 10) (ret true) (op2 gAddA (vr 10) (vr 8))) (tgN 9))
  (sq (asg (op2 gIx (op2 gIx (vr 0) (op2 gSubA (vr 7) (cn (.int 1)))) (cn (.int 1))) (tgN 11))
  (sq (asg (op2 gAddA (tupE (argV (op2 gIx (vr 9) (cn (.int 0))) argN)) (cal1 gTuple (lcE (itZ2 (slE (vr 9) (ptS (cn (.int 1))) ptN) (vr 6)) [10, 12] (tgT 2 (tgsC (tgN 10) (tgsC (tgN 12) tgsN))) (ret true) (op2 (g2I fun i j => if j < i then j else i) (vr 10) (op2 gAddA (vr 11) (vr 12)))))) (tgN 6))
  (exS (mth hApp (vr 5) (argV (vr 6) argN)))))) (fun o => match o with | .nx ς2 => ITb st (tabD t) dv ps t c m (i + 1) ς2 | .ct ς2 => ITb st (tabD t) dv ps t c m (i + 1) ς2 | .bk ς2 => Sm.andThen (retS (cal1 gTuple (cal1 gRev (vr 5)))) (Sm.outF 3 (ValQ fun x => x = tabD (behT ps t c m))) (.nx ς2) | .rt r ς2 => Sm.andThen (retS (cal1 gTuple (cal1 gRev (vr 5)))) (Sm.outF 3 (ValQ fun x => x = tabD (behT ps t c m))) (.rt r ς2))
        (.nx [some (.pure st), some (.pure (tabD t)), some (.pure dv), some (.pure (.int (c : Int))), some (.pure (.int m)), some (.own false ((behT (ps.drop (k + 1)) (t.drop (k + 1)) (c - (k + 1)) m).reverse.map it)), some (.pure (it (hd0 (behT (ps.drop (k + 1)) (t.drop (k + 1)) (c - (k + 1)) m)))), some (.pure (.int ((1 : Int) + k))), some (.pure (.int q)), o9, none, o11, none]) := by
      have fin : ITb st (tabD t) dv ps t c m (i + 1) [some (.pure st), some (.pure (tabD t)), some (.pure dv), some (.pure (.int (c : Int))), some (.pure (.int m)), some (.own false ((behT (ps.drop (k + 1)) (t.drop (k + 1)) (c - (k + 1)) m).reverse.map it ++ [.tuple ([.int (a + q)] ++ (List.zipWith (fun a b => min a (ps[k].2.1 + b)) (r.map (· + q)) (hd0 (behT (ps.drop (k + 1)) (t.drop (k + 1)) (c - (k + 1)) m))).map PyData.int)])), some (.pure (.tuple ([.int (a + q)] ++ (List.zipWith (fun a b => min a (ps[k].2.1 + b)) (r.map (· + q)) (hd0 (behT (ps.drop (k + 1)) (t.drop (k + 1)) (c - (k + 1)) m))).map PyData.int))), some (.pure (.int ((1 : Int) + k))), some (.pure (.int q)), some (.pure (.list (((a :: r).map (· + q)).map PyData.int))), none, some (.pure (.int ps[k].2.1)), none] := by
        refine ⟨some (.pure (.int ((1 : Int) + k))), some (.pure (.int q)), some (.pure (.list (((a :: r).map (· + q)).map PyData.int))), some (.pure (.int ps[k].2.1)), ?_, trivial, trivial, trivial, trivial⟩
        have eb : behT (ps.drop k) (t.drop k) (c - k) m = ((a + q) :: List.zipWith (fun a b => min a (ps[k].2.1 + b)) (r.map (· + q)) (hd0 (behT (ps.drop (k + 1)) (t.drop (k + 1)) (c - (k + 1)) m))) :: behT (ps.drop (k + 1)) (t.drop (k + 1)) (c - (k + 1)) m := by
          rw [edp, ed, behT, hq, show c - k - 1 = c - (k + 1) by omega]
          rfl
        rw [show ps.length - (i + 1) = k by omega, eb, List.reverse_cons, List.map_append]
        rfl
      have em : ((a :: r).map PyData.int).map (adD q) = ((a :: r).map (· + q)).map PyData.int := by rw [List.map_map, List.map_map]; rfl
      refine Sm.at_nx ?_
      walk_at "lw e"
      refine ⟨ix1, ?_⟩
      walk_at "lw e"
      refine Sm.lcPure (adD q) (by rw [List.length_map, List.length_cons]; omega) ?_ ?_
      · intro y hy
        obtain ⟨n, hn, rfl⟩ := List.mem_map.1 hy
        refine ⟨_, tgN_o rfl trivial, ?_⟩
        walk_at "lw n"
        walk_at "lw e"
        first | rfl | exact ⟨rfl, rfl⟩
      rw [em]
      dsimp only [wipeE]
      refine ⟨_, _, _, rfl, tgN_o rfl f9, ?_⟩
      walk_at "lw n"
      walk_at "lw e"
      refine ⟨ix2', ?_⟩
      walk_at "lw e"
      refine ⟨hpx.b, ?_⟩
      refine ⟨_, _, _, rfl, tgN_o rfl f11, ?_⟩
      walk_at "lw n"
      walk_at "lw e"
      refine ⟨lix0, ?_⟩
      walk_at "lw e"
      have ecut : cutD (PyData.int (a + q) :: (r.map (· + q)).map PyData.int) (some 1) none = (r.map (· + q)).map PyData.int := by
        rw [show (some (1 : Int)) = some ((1 : Nat) : Int) from rfl, cut_from]; rfl
      rw [ecut, zip_ints]
      refine Sm.lcPure (mnD ps[k].2.1) (by simp; omega) ?_ ?_
      · intro y hy
        obtain ⟨p, hm, rfl⟩ := List.mem_map.1 hy
        refine ⟨_, tgT2_o rfl trivial rfl trivial, ?_⟩
        walk_at "lw n"
        walk_at "lw e"
        first | rfl | exact ⟨rfl, rfl⟩
      rw [mn_map]
      dsimp only [wipeE]
      walk_at "lw n"
      walk_at "lw e"
      refine ⟨catT_ok (by simp; omega), ?_⟩
      walk_at "lw e"
      walk_at "lw n"
      walk_at "lw e"
      refine ⟨app_ok (by rw [List.length_map, List.length_reverse, sh.len, List.length_drop]; omega), ?_⟩
      exact fin
    refine hite (fun e => ?_) (fun e => ?_)
    · refine Sm.vrP rfl ⟨_, _, _, rfl, tgN_o rfl f8, ?_⟩
      rw [e] at rest
      exact rest
    · refine Sm.cn ⟨_, _, _, rfl, tgN_o rfl f8, ?_⟩
      rw [e] at rest
      exact rest
  · rintro ς ⟨o7, o8, o9, o11, rfl, f7, f8, f9, f11⟩
    rw [List.length_reverse, rngD_len, Nat.sub_self, List.drop_zero, List.drop_zero, Nat.sub_zero]
    walk_at "lw e"
    refine ⟨_, rfl, ?_⟩
    unfold tabD
    show PyData.tuple _ = PyData.tuple _
    rw [← List.map_reverse, List.reverse_reverse]
end Lw
-- F2
-- F3
namespace Lw
open PySem PySem.Spec PyProof.Rows L2
local macro_rules | `(tactic| walk_at "lw e") => `(tactic| (repeat (first | (with_reducible refine Stp.go ?_) | (with_reducible apply Exists.intro) | ((with_reducible refine And.intro ?_ ?_); · (first | (with_reducible exact Evl.ev) | ((fail_if_success (with_reducible refine Gd.keep ?_)); rfl) | ((with_reducible apply mul_r); decide) | ((with_reducible apply mul_l); decide) | ((with_reducible apply div_i); decide) | ((with_reducible apply in_R); decide) | (exact Nat.le_of_ble_eq_true rfl) | (simp [refsOf]; done) | (exact ⟨rfl, rfl, by decide⟩) | (exact ⟨rfl, rfl, rfl⟩) | ((with_reducible apply tgN_o); (focus rfl); (focus (first | assumption | trivial))))) | ((with_reducible apply Sm.vrP); (focus rfl)) | ((with_reducible apply Sm.vrO); (focus rfl)) | ((with_reducible apply Sm.augI); (focus rfl)) | ((with_reducible refine Sm.dicE ?_ ?_); (focus decide)) | ((with_reducible apply Sm.augS); (focus rfl)) | (with_reducible refine iteTT ?_) | (with_reducible refine iteT ?_) | (with_reducible refine iteF ?_) | ((with_reducible refine iteB1 ?_ ?_); (focus rfl)) | ((with_reducible refine iteB0 ?_ ?_); (focus rfl)))))
local macro_rules | `(tactic| walk_at "lw n") => `(tactic| (try dsimp only [ent, List.map, Nat.reduceAdd, Nat.reduceSub, List.length_cons, List.length_nil, List.replicate_succ, List.replicate_zero, List.cons_append, List.nil_append, putBack, setOwn, List.getElem?_cons_zero, List.getElem?_cons_succ, List.set_cons_zero, List.set_cons_succ, Sm.nf]))
local macro_rules | `(tactic| walk_at "lw v") => `(tactic| (try simp only [pb1, pb2, pb3, pb4]))
/-- the tables ahead of each deed, and behind the last -/
def along (ps : List P3) (ds : List Dd) : List Tab := (List.range (ds.length + 1)).map fun i => tabOf ps (ds.take i)
theorem tabOf_snoc {ps : List P3} {ds : List Dd} {i : Nat} {d : Dd} (h : ds[i]? = some d) : tabOf ps (ds.take (i + 1)) = tabStep ps (tabOf ps (ds.take i)) d := by
  unfold tabOf
  rw [List.take_add_one, h, List.foldl_append]
  rfl
def FreshQ (P : List D → Prop) (r : R) (_ : List S) : Prop := ∃ ds, r = .fresh ds ∧ P ds
def ITa (st t : D) (ps : List P3) (ds : List Dd) (i : Nat) (ς : En) : Prop := ∃ o4 : Option S, ς = [some (.pure st), some (.pure t), some (.pure (tabD (tabOf ps (ds.take i)))), some (.own false (((List.range (i + 1)).map fun j => tabOf ps (ds.take j)).map tabD)), o4] ∧ Fr o4
theorem along_ok {st t : D} {xs ts : List D} {ps : List P3} {ds : List Dd} (hs : StairG st xs ps) (ht : DeedsG t ts ds) (ho : ∀ d ∈ ds, d.On ps.length) (hp : ps.length ≤ 1000) (hl : ds.length ≤ 1000) : wpf m_p_tables_along [.pure st, .pure t] (FreshQ fun x => x = (along ps ds).map tabD) := by
  refine Sm.run ?_
  unfold g_p_tables_along
  walk_at "lw n"
  walk_at "lw e"
  (refine Sm.fmono (brim_ok hs hp) fun r o h => ?_; obtain ⟨d, rfl, rfl⟩ := h; refine ⟨nref, ?_⟩; walk_at "lw v"; walk_at "lw e")
  walk_at "lw n"
  walk_at "lw e"
  refine ⟨ht.its, ?_⟩
  refine Sm.loopInv (ITa st t ps ds) ⟨none, ?_, trivial⟩ ?_ ?_
  · rfl
  · rintro i x ς hx ⟨o4, rfl, f4⟩
    have hi : i < ds.length := by have := (List.getElem?_eq_some_iff.mp hx).1; have := ht.len; omega
    have hd := ht.ok i x _ hx (List.getElem?_eq_getElem hi)
    have hq : ds[i]? = some ds[i] := List.getElem?_eq_getElem hi
    have hm := List.getElem_mem hi
    refine ⟨_, tgN_o rfl f4, ?_⟩
    walk_at "lw n"
    walk_at "lw e"
    (refine Sm.fmono (behind1_ok hs hd (ho _ hm) hp (tabOf_shp ps (ds.take i))) fun r o h => ?_; obtain ⟨d, rfl, rfl⟩ := h; refine ⟨nref, ?_⟩; walk_at "lw v"; walk_at "lw e")
    walk_at "lw n"
    walk_at "lw e"
    refine ⟨app_ok (by simp; omega), ?_⟩
    refine ⟨some (.pure x), ?_, trivial⟩
    rw [← tabOf_snoc hq, List.range_succ (n := i + 1), List.map_append, List.map_append]
    rfl
  · rintro ς ⟨o4, rfl, f4⟩
    rw [ht.len, List.take_length]
    refine Sm.at_nx (Sm.retS (Sm.vrO rfl (Sm.oM rfl (Sm.fF ⟨_, rfl, rfl⟩))))
theorem last_ok {t : Tab} {ts : List Tab} (h : ts ≠ []) (e : ts.getLast h = t) : gIx (.list (ts.map tabD)) (.int (-1)) = some (.pure (tabD t)) := by
  have hl : 0 < ts.length := List.length_pos_iff.2 h
  have e1 : atI (ts.map tabD) (-1) = some (tabD t) := by
    unfold atI ixN
    rw [List.length_map, if_neg (by decide), if_pos (by omega)]
    show (ts.map tabD)[(_ : Int).toNat]? = _
    have e2 : (-1 + (ts.length : Int)).toNat = ts.length - 1 := by omega
    rw [e2, List.getElem?_map, List.getElem?_eq_getElem (by omega), ← e, List.getLast_eq_getElem]
    rfl
  show (atI (ts.map tabD) (-1)).map R.pure = _
  rw [e1]; rfl
theorem along_last (ps : List P3) (ds : List Dd) : ∃ h : along ps ds ≠ [], (along ps ds).getLast h = tabOf ps ds := by
  have hne : along ps ds ≠ [] := fun e => by have := congrArg List.length e; simp [along] at this
  refine ⟨hne, ?_⟩
  rw [List.getLast_eq_getElem]
  unfold along
  simp
theorem table_ok {st t : D} {xs ts : List D} {ps : List P3} {ds : List Dd} (hs : StairG st xs ps) (ht : DeedsG t ts ds) (ho : ∀ d ∈ ds, d.On ps.length) (hp : ps.length ≤ 1000) (hl : ds.length ≤ 1000) : wpf m_p_table_of [.pure st, .pure t] (ValQ fun x => x = tabD (tabOf ps ds)) := by
  obtain ⟨hne, e⟩ := along_last ps ds
  refine Sm.run ?_
  unfold g_p_table_of
  walk_at "lw n"
  walk_at "lw e"
  refine Sm.fmono (along_ok hs ht ho hp hl) fun r o h => ?_
  obtain ⟨z, rfl, rfl⟩ := h
  refine ⟨nfr, ?_⟩
  walk_at "lw v"
  walk_at "lw e"
  refine ⟨last_ok hne e, ?_⟩
  walk_at "lw e"
  exact ⟨_, rfl, rfl⟩
/-! ### led -/
def sumD : D → D
  | .tuple [.int a, .int b] => .int (a + b)
  | d => d
theorem sum_map : ∀ (xs ys : List Int), ((List.zip xs ys).map fun p => PyData.tuple [.int p.1, .int p.2]).map sumD = (List.zipWith (· + ·) xs ys).map PyData.int
  | [], _ => rfl
  | _ :: _, [] => rfl
  | x :: xs, y :: ys => by rw [List.zip_cons_cons, List.map_cons, List.map_cons, sum_map xs ys, List.zipWith_cons_cons, List.map_cons]; rfl
theorem fmin_ok {ns : List Int} (h : ns ≠ []) : gMinK (.list (ns.map PyData.int)) = some (.pure (.int (fmin ns))) := by
  cases ns with
  | nil => exact absurd rfl h
  | cons n ns => exact minK_ok (.inl rfl)
theorem ledT_get : ∀ (t : Tab) (parts : List Int) (i : Nat), (ledT t parts)[i]? = (t[i]?).map fun r => ev r (parts.drop i)
  | [], _, _ => by simp [ledT]
  | row :: rows, parts, 0 => by simp [ledT]
  | row :: rows, parts, i + 1 => by
    rw [ledT, List.getElem?_cons_succ, List.getElem?_cons_succ, ledT_get rows parts.tail i]
    congr 1
    funext r
    rw [List.drop_tail]
theorem led_ok {tv Tv : D} {xs : List D} {t : Tab} {T : List Int} (ht : TabG tv xs t) (hT : Seq Tv T) (hs : Shp T.length t) (hl : T.length ≤ 1000) : wpf m_p_led [.pure tv, .pure Tv] (ValQ fun x => x = it (ledT t (T ++ [0]))) := by
  have hsl : sizeLine = 16777216 := rfl
  have htl := hs.len
  have hxl := ht.len
  refine Sm.run ?_
  unfold g_p_led
  walk_at "lw n"
  walk_at "lw e"
  refine ⟨hT.items, ?_⟩
  walk_at "lw e"
  refine ⟨vals_avs rfl, by simp; omega, ?_⟩
  have ep : T.map PyData.int ++ [.int 0] = (T ++ [0]).map PyData.int := by rw [List.map_append]; rfl
  rw [ep]
  walk_at "lw e"
  walk_at "lw n"
  walk_at "lw e"
  refine ⟨ht.its, ?_⟩
  walk_at "lw e"
  let f : D → D := fun d => match d with | .tuple [.int i, _] => .int (ev (t.getD i.toNat []) ((T ++ [0]).drop i.toNat)) | d => d
  refine Sm.lcPure f (by rw [enumD_len]; omega) ?_ ?_
  · intro d hd
    obtain ⟨i, hi⟩ := List.mem_iff_getElem?.1 hd
    rw [enumD_get] at hi
    cases q : xs[i]? with
    | none => rw [q] at hi; cases hi
    | some x =>
      rw [q] at hi
      cases hi
      have hix : i < xs.length := (List.getElem?_eq_some_iff.mp q).1
      have hrow := ht.ok i x _ q (List.getElem?_eq_getElem (by omega))
      obtain ⟨a, r, e1, e2, e3⟩ := hs.row (k := i) (by omega)
      have er : t[i]'(by omega) = a :: r := by rw [List.getElem?_eq_getElem (by omega)] at e2; exact Option.some.inj e2
      rw [er] at hrow
      rw [Nat.zero_add]
      refine ⟨_, tgT2_o rfl trivial rfl trivial, ?_⟩
      walk_at "lw n"
      walk_at "lw e"
      refine ⟨hrow.items, rfl, ?_⟩
      walk_at "lw e"
      rw [cut_from, ← List.map_drop, zip_ints]
      refine Sm.lcPure sumD (by simp; omega) ?_ ?_
      · intro y hy
        obtain ⟨p, hm, rfl⟩ := List.mem_map.1 hy
        refine ⟨_, tgT2_o rfl trivial rfl trivial, ?_⟩
        walk_at "lw n"
        walk_at "lw e"
        first | rfl | exact ⟨rfl, rfl⟩
      rw [sum_map]
      have hne : List.zipWith (· + ·) (a :: r) ((T ++ [0]).drop i) ≠ [] := fun e => by
        have := congrArg List.length e
        simp at this
        omega
      refine ⟨_, _, rfl, fmin_ok hne, ?_⟩
      have ef : f (.tuple [.int (i : Int), x]) = .int (fmin (List.zipWith (· + ·) (a :: r) ((T ++ [0]).drop i))) := by
        show PyData.int (ev (t.getD (i : Int).toNat []) ((T ++ [0]).drop (i : Int).toNat)) = _
        rw [Int.toNat_natCast, List.getD_eq_getElem?_getD, e2]
        rfl
      rw [ef]
      first | rfl | exact ⟨rfl, rfl⟩ | exact ⟨_, rfl, rfl, rfl⟩
  · walk_at "lw e"
    refine ⟨_, rfl, ?_⟩
    show PyData.tuple _ = PyData.tuple _
    congr 1
    apply List.ext_getElem?
    intro i
    rw [List.getElem?_map, List.getElem?_map, enumD_get, ledT_get]
    by_cases h : i < t.length
    · rw [List.getElem?_eq_getElem (by omega : i < xs.length), List.getElem?_eq_getElem h]
      show some (f (.tuple [.int ((0 + i : Nat) : Int), xs[i]])) = _
      show some (PyData.int (ev (t.getD ((0 + i : Nat) : Int).toNat []) ((T ++ [0]).drop ((0 + i : Nat) : Int).toNat))) = _
      rw [Nat.zero_add, Int.toNat_natCast, List.getD_eq_getElem?_getD, List.getElem?_eq_getElem h]
      rfl
    · rw [List.getElem?_eq_none (by omega), List.getElem?_eq_none (by omega)]
      rfl
/-! ### is_table of a table -/
/-! ### totals and levels -/
theorem totals_ok {t : D} {xs : List Int} (ht : Seq t xs) (hl : xs.length ≤ 100) : wpf m_p_totals_of [.pure t] (ValQ fun d => d = it (tots xs)) := by
  obtain ⟨r, dd, h1, h2, h3⟩ := rev_any ht.items
  refine Sm.run ?_
  unfold g_p_totals_of
  walk_at "lw n"
  walk_at "lw e"
  refine ⟨h1, _, _, _, h2 _, h3, ?_⟩
  refine Sm.loopInv (fun i ς => ∃ o, ς = [some (.pure t), some (.own false ((tots (xs.drop (xs.length - i))).reverse.map PyData.int)), some (.pure (.int (xs.drop (xs.length - i)).sum)), o] ∧ Fr o ∧ i ≤ xs.length) ⟨none, ?_, trivial, Nat.zero_le _⟩ ?_ ?_
  · rw [Nat.sub_zero, List.drop_length]; rfl
  · rintro i d ς hd ⟨o, rfl, fo, hi⟩
    have hil : i < xs.length := by have := (List.getElem?_eq_some_iff.mp hd).1; simpa using this
    have hd' : d = .int (xs[xs.length - 1 - i]'(by omega)) := by
      rw [List.getElem?_reverse (by simpa using hil)] at hd
      rw [List.length_map, List.getElem?_map, List.getElem?_eq_getElem (by omega)] at hd
      exact (Option.some.inj hd).symm
    subst hd'
    refine ⟨_, tgN_o rfl fo, ?_⟩
    walk_at "lw n"
    walk_at "lw e"
    refine ⟨app_ok (by simp [tots_len]; omega), ?_⟩
    walk_at "lw n"
    have e1 : xs.drop (xs.length - (i + 1)) = xs[xs.length - 1 - i]'(by omega) :: xs.drop (xs.length - i) := by
      have : xs.length - (i + 1) = xs.length - 1 - i := by omega
      rw [this, List.drop_eq_getElem_cons (by omega)]
      congr 2
      omega
    refine ⟨some (.pure (.int (xs[xs.length - 1 - i]'(by omega)))), ?_, trivial, by omega⟩
    rw [e1, tots_cons]
    simp only [List.sum_cons, List.reverse_cons, List.map_append, List.map_cons, List.map_nil, List.map_reverse]
    rw [Int.add_comm]
  · rintro ς ⟨o, rfl, fo, hi⟩
    have en : (List.map PyData.int xs).reverse.length = xs.length := by simp
    rw [en, Nat.sub_self, List.drop_zero]
    walk_at "lw e"
    refine ⟨_, rfl, ?_⟩
    show PyData.tuple _ = PyData.tuple _
    rw [List.map_reverse, List.reverse_reverse]
def levs : List Int → List Int
  | [] => []
  | x :: xs => (x - xs.headD 0) :: levs xs
theorem levs_tots : ∀ xs, levs (tots xs) = xs
  | [] => rfl
  | x :: xs => by rw [tots_cons, levs, tots_hd, levs_tots xs]; congr 1; omega
theorem levs_zip : ∀ xs : List Int, (List.zip xs (xs.drop 1 ++ [0])).map (fun p => p.1 - p.2) = levs xs
  | [] => rfl
  | [x] => by simp [levs]
  | x :: y :: r => by
    have ih := levs_zip (y :: r)
    rw [levs]
    simp only [List.drop_succ_cons, List.drop_zero, List.cons_append, List.zip_cons_cons, List.map_cons, List.headD_cons] at ih ⊢
    rw [ih]
def subD : D → D
  | .tuple [.int a, .int b] => .int (a - b)
  | d => d
theorem levels_ok {t : D} {xs : List Int} (ht : Seq t xs) (hl : xs.length ≤ 100) : wpf m_p_levels_of [.pure t] (ValQ fun d => d = it (levs xs)) := by
  obtain ⟨r, dd, h1, h2, h3, h4, _⟩ := sl_from ht.items 1
  have hsl : sizeLine = 16777216 := rfl
  refine Sm.run ?_
  unfold g_p_levels_of
  walk_at "lw n"
  walk_at "lw e"
  refine ⟨h1, _, _, h2 _, _, h4, ?_⟩
  walk_at "lw e"
  refine ⟨vals_avs rfl, by simp; omega, ?_⟩
  walk_at "lw e"
  walk_at "lw n"
  walk_at "lw e"
  refine ⟨ht.items, rfl, ?_⟩
  walk_at "lw e"
  have ez : zipD (xs.map PyData.int) (List.drop 1 (xs.map PyData.int) ++ [.int 0]) = (List.zip xs (xs.drop 1 ++ [0])).map fun p => PyData.tuple [.int p.1, .int p.2] := by
    rw [← zip_ints, List.map_append, List.map_drop]; rfl
  rw [ez]
  refine Sm.lcPure subD (by simp; omega) ?_ ?_
  · intro d hd
    obtain ⟨p, hp, rfl⟩ := List.mem_map.1 hd
    refine ⟨_, tgT2_o rfl trivial rfl trivial, ?_⟩
    walk_at "lw n"
    walk_at "lw e"
    first | rfl | exact ⟨rfl, rfl⟩ | exact ⟨_, rfl, rfl, rfl⟩
  · walk_at "lw e"
    refine ⟨_, rfl, ?_⟩
    rw [List.map_map, ← levs_zip xs]
    show PyData.tuple _ = PyData.tuple _
    rw [List.map_map]
    rfl
end Lw
-- F2
-- F3
namespace Lw
open PySem PySem.Spec PyProof.Rows L2
local macro_rules | `(tactic| walk_at "lw e") => `(tactic| (repeat (first | (with_reducible refine Stp.go ?_) | (with_reducible apply Exists.intro) | ((with_reducible refine And.intro ?_ ?_); · (first | (with_reducible exact Evl.ev) | ((fail_if_success (with_reducible refine Gd.keep ?_)); rfl) | ((with_reducible apply mul_r); decide) | ((with_reducible apply mul_l); decide) | ((with_reducible apply div_i); decide) | ((with_reducible apply in_R); decide) | (exact Nat.le_of_ble_eq_true rfl) | (simp [refsOf]; done) | (exact ⟨rfl, rfl, by decide⟩) | (exact ⟨rfl, rfl, rfl⟩) | ((with_reducible apply tgN_o); (focus rfl); (focus (first | assumption | trivial))))) | ((with_reducible apply Sm.vrP); (focus rfl)) | ((with_reducible apply Sm.vrO); (focus rfl)) | ((with_reducible apply Sm.augI); (focus rfl)) | ((with_reducible refine Sm.dicE ?_ ?_); (focus decide)) | ((with_reducible apply Sm.augS); (focus rfl)) | (with_reducible refine iteTT ?_) | (with_reducible refine iteT ?_) | (with_reducible refine iteF ?_) | ((with_reducible refine iteB1 ?_ ?_); (focus rfl)) | ((with_reducible refine iteB0 ?_ ?_); (focus rfl)))))
local macro_rules | `(tactic| walk_at "lw n") => `(tactic| (try dsimp only [ent, List.map, Nat.reduceAdd, Nat.reduceSub, List.length_cons, List.length_nil, List.replicate_succ, List.replicate_zero, List.cons_append, List.nil_append, putBack, setOwn, List.getElem?_cons_zero, List.getElem?_cons_succ, List.set_cons_zero, List.set_cons_succ, Sm.nf]))
local macro_rules | `(tactic| walk_at "lw v") => `(tactic| (try simp only [pb1, pb2, pb3, pb4]))
/-! ### how great a table's numbers are -/
/-! ### a table is read off -/
theorem fmin_mem : ∀ {zs : List Int}, zs ≠ [] → fmin zs ∈ zs
  | [], h => absurd rfl h
  | z :: zs, _ => by
    rcases foldl_min_mem zs z with e | e
    · show zs.foldl min z ∈ _; rw [e]; simp
    · exact List.mem_cons_of_mem _ e
theorem fmin_le : ∀ {zs : List Int} {x : Int}, x ∈ zs → fmin zs ≤ x
  | z :: zs, x, h => by
    have := foldl_min_le zs z
    rcases List.mem_cons.1 h with rfl | h
    · exact this.1
    · exact this.2 x h
theorem fmin_pick {zs : List Int} {k : Nat} {z : Int} (h : zs[k]? = some z) (hz : ∀ x ∈ zs, z ≤ x) : fmin zs = z := by
  have hm := List.mem_of_getElem? h
  have h1 := fmin_le hm
  have h2 := hz _ (fmin_mem (fun e => by rw [e] at hm; cases hm))
  omega
end Lw
-- F2
-- F3
namespace Lw
open PySem PySem.Spec PyProof.Rows L2
local macro_rules | `(tactic| walk_at "lw e") => `(tactic| (repeat (first | (with_reducible refine Stp.go ?_) | (with_reducible apply Exists.intro) | ((with_reducible refine And.intro ?_ ?_); · (first | (with_reducible exact Evl.ev) | ((fail_if_success (with_reducible refine Gd.keep ?_)); rfl) | ((with_reducible apply mul_r); decide) | ((with_reducible apply mul_l); decide) | ((with_reducible apply div_i); decide) | ((with_reducible apply in_R); decide) | (exact Nat.le_of_ble_eq_true rfl) | (simp [refsOf]; done) | (exact ⟨rfl, rfl, by decide⟩) | (exact ⟨rfl, rfl, rfl⟩) | ((with_reducible apply tgN_o); (focus rfl); (focus (first | assumption | trivial))))) | ((with_reducible apply Sm.vrP); (focus rfl)) | ((with_reducible apply Sm.vrO); (focus rfl)) | ((with_reducible apply Sm.augI); (focus rfl)) | ((with_reducible refine Sm.dicE ?_ ?_); (focus decide)) | ((with_reducible apply Sm.augS); (focus rfl)) | (with_reducible refine iteTT ?_) | (with_reducible refine iteT ?_) | (with_reducible refine iteF ?_) | ((with_reducible refine iteB1 ?_ ?_); (focus rfl)) | ((with_reducible refine iteB0 ?_ ?_); (focus rfl)))))
local macro_rules | `(tactic| walk_at "lw n") => `(tactic| (try dsimp only [ent, List.map, Nat.reduceAdd, Nat.reduceSub, List.length_cons, List.length_nil, List.replicate_succ, List.replicate_zero, List.cons_append, List.nil_append, putBack, setOwn, List.getElem?_cons_zero, List.getElem?_cons_succ, List.set_cons_zero, List.set_cons_succ, Sm.nf]))
local macro_rules | `(tactic| walk_at "lw v") => `(tactic| (try simp only [pb1, pb2, pb3, pb4]))
/-! ### the law's own reading of a table -/
end Lw
-- F2
-- F3
namespace Lw
open PySem PySem.Spec PyProof.Rows L2
local macro_rules | `(tactic| walk_at "lw e") => `(tactic| (repeat (first | (with_reducible refine Stp.go ?_) | (with_reducible apply Exists.intro) | ((with_reducible refine And.intro ?_ ?_); · (first | (with_reducible exact Evl.ev) | ((fail_if_success (with_reducible refine Gd.keep ?_)); rfl) | ((with_reducible apply mul_r); decide) | ((with_reducible apply mul_l); decide) | ((with_reducible apply div_i); decide) | ((with_reducible apply in_R); decide) | (exact Nat.le_of_ble_eq_true rfl) | (simp [refsOf]; done) | (exact ⟨rfl, rfl, by decide⟩) | (exact ⟨rfl, rfl, rfl⟩) | ((with_reducible apply tgN_o); (focus rfl); (focus (first | assumption | trivial))))) | ((with_reducible apply Sm.vrP); (focus rfl)) | ((with_reducible apply Sm.vrO); (focus rfl)) | ((with_reducible apply Sm.augI); (focus rfl)) | ((with_reducible refine Sm.dicE ?_ ?_); (focus decide)) | ((with_reducible apply Sm.augS); (focus rfl)) | (with_reducible refine iteTT ?_) | (with_reducible refine iteT ?_) | (with_reducible refine iteF ?_) | ((with_reducible refine iteB1 ?_ ?_); (focus rfl)) | ((with_reducible refine iteB0 ?_ ?_); (focus rfl)))))
local macro_rules | `(tactic| walk_at "lw n") => `(tactic| (try dsimp only [ent, List.map, Nat.reduceAdd, Nat.reduceSub, List.length_cons, List.length_nil, List.replicate_succ, List.replicate_zero, List.cons_append, List.nil_append, putBack, setOwn, List.getElem?_cons_zero, List.getElem?_cons_succ, List.set_cons_zero, List.set_cons_succ, Sm.nf]))
local macro_rules | `(tactic| walk_at "lw v") => `(tactic| (try simp only [pb1, pb2, pb3, pb4]))
theorem deeds_gen (ds : List Dd) : DeedsG (.list (ds.map dd)) (ds.map dd) ds := ⟨rfl, List.length_map _, fun i x d h1 h2 => by
  rw [List.getElem?_map, h2] at h1
  cases h1
  exact Dt.of d⟩
/-- deeds whose numbers are small -/
def D9 (g : Nat) : Dd → Prop
  | .raise _ m => 1 ≤ m ∧ m ≤ 9 * g
  | .lower _ m => 1 ≤ m ∧ m ≤ 9 * g
  | _ => True
theorem sumAt_bd {ps : List (Int × Int × Int)} {ds : List Dd} {j : Int} {B : Nat} (h : ∀ d ∈ ds, (chg ps d).2.natAbs ≤ B) : (sumAt ps ds j).natAbs ≤ ds.length * B := by
  induction ds with
  | nil => simp [sumAt]
  | cons d ds ih =>
    have h1 := h d (by simp)
    have h2 := ih fun e he => h e (by simp [he])
    have e : sumAt ps (d :: ds) j = addTo ps j d + sumAt ps ds j := by unfold sumAt; rw [List.map_cons, List.sum_cons]
    have e3 : (addTo ps j d).natAbs ≤ B := by unfold addTo; split; exact h1; simp
    rw [e, List.length_cons, Nat.add_mul]
    omega
/-- deeds of a stair, at most so many -/
def LotN (N n g : Nat) (ds : List Dd) : Prop := ds.length ≤ N ∧ ∀ d ∈ ds, d.On n ∧ D9 g d
/-! ### the first numbers of a table's rows -/
def hds (t : Tab) : List Int := t.map fun r => r.headD 0
theorem hds_brim : ∀ ps : List P3, hds (brimT ps) = ps.map fun _ => 0
  | [] => rfl
  | p :: ps => by
    have ih := hds_brim ps
    unfold hds at ih ⊢
    rw [brimT, List.map_cons, List.map_cons, ih]
    rfl
theorem hds_beh : ∀ (ps : List P3) (t : Tab) (c : Nat) (m : Int), Shp ps.length t → hds (behT ps t c m) = addPre c m (hds t)
  | [], t, c, m, h => by
    have : t = [] := h
    subst this
    cases c <;> rfl
  | p :: ps, t, c, m, h => by
    obtain ⟨row, rows, rfl, h1, h2⟩ := h
    have ih := hds_beh ps rows (c - 1) m h2
    unfold hds at ih ⊢
    rw [behT, List.map_cons, ih, List.map_cons, List.headD_cons]
    cases row with
    | nil => simp at h1
    | cons a r =>
      cases c with
      | zero => simp [addPre]
      | succ c => simp [addPre]
theorem sums_nil (ps : List P3) : sums ps [] = ps.map fun _ => 0 := by
  unfold sums
  apply List.ext_getElem?
  intro i
  rw [List.getElem?_map, List.getElem?_map]
  by_cases h : i < ps.length
  · rw [List.getElem?_range h, List.getElem?_eq_getElem h]; rfl
  · rw [List.getElem?_eq_none (by rw [List.length_range]; omega), List.getElem?_eq_none (by omega)]; rfl
theorem hds_tab {ps : List P3} {ds : List Dd} (ho : ∀ d ∈ ds, d.On ps.length) : hds (tabOf ps ds) = sums ps ds := by
  have main : ∀ k, k ≤ ds.length → hds (tabOf ps (ds.take k)) = sums ps (ds.take k) := by
    intro k
    induction k with
    | zero => intro _; rw [List.take_zero, sums_nil]; exact hds_brim ps
    | succ k ih =>
      intro hk
      obtain ⟨d, hd⟩ : ∃ d, ds[k]? = some d := ⟨_, List.getElem?_eq_getElem (by omega)⟩
      have hc := chg_on (ps := ps) (ho d (List.mem_of_getElem? hd))
      have ec : (chg ps d).1 = ((chg ps d).1.toNat : Int) := by omega
      rw [tabOf_snoc hd]
      unfold tabStep
      rw [hds_beh ps _ _ _ (tabOf_shp ps _), ih (by omega), addPre_sums ps _ d _ ec, List.take_add_one, hd]
      rfl
  have := main ds.length (Nat.le_refl _)
  rwa [List.take_length] at this
/-! ### any levels -/
end Lw
-- F2
-- F3
namespace Lw
open PySem PySem.Spec PyProof.Rows L2
local macro_rules | `(tactic| walk_at "lw e") => `(tactic| (repeat (first | (with_reducible refine Stp.go ?_) | (with_reducible apply Exists.intro) | ((with_reducible refine And.intro ?_ ?_); · (first | (with_reducible exact Evl.ev) | ((fail_if_success (with_reducible refine Gd.keep ?_)); rfl) | ((with_reducible apply mul_r); decide) | ((with_reducible apply mul_l); decide) | ((with_reducible apply div_i); decide) | ((with_reducible apply in_R); decide) | (exact Nat.le_of_ble_eq_true rfl) | (simp [refsOf]; done) | (exact ⟨rfl, rfl, by decide⟩) | (exact ⟨rfl, rfl, rfl⟩) | ((with_reducible apply tgN_o); (focus rfl); (focus (first | assumption | trivial))))) | ((with_reducible apply Sm.vrP); (focus rfl)) | ((with_reducible apply Sm.vrO); (focus rfl)) | ((with_reducible apply Sm.augI); (focus rfl)) | ((with_reducible refine Sm.dicE ?_ ?_); (focus decide)) | ((with_reducible apply Sm.augS); (focus rfl)) | (with_reducible refine iteTT ?_) | (with_reducible refine iteT ?_) | (with_reducible refine iteF ?_) | ((with_reducible refine iteB1 ?_ ?_); (focus rfl)) | ((with_reducible refine iteB0 ?_ ?_); (focus rfl)))))
local macro_rules | `(tactic| walk_at "lw n") => `(tactic| (try dsimp only [ent, List.map, Nat.reduceAdd, Nat.reduceSub, List.length_cons, List.length_nil, List.replicate_succ, List.replicate_zero, List.cons_append, List.nil_append, putBack, setOwn, List.getElem?_cons_zero, List.getElem?_cons_succ, List.set_cons_zero, List.set_cons_succ, Sm.nf]))
local macro_rules | `(tactic| walk_at "lw v") => `(tactic| (try simp only [pb1, pb2, pb3, pb4]))
/-! ### tables behind one another -/
def rowB (rows : Tab) (row : List Int) : List Int := (List.range row.length).map fun p => fmin ((List.range (p + 1)).map fun b => row.getD b 0 + (rows.getD b []).getD (p - b) 0)
theorem rowB_len (rows : Tab) (row : List Int) : (rowB rows row).length = row.length := by simp [rowB]
def compT : Tab → Tab → Tab
  | r :: rs, o :: os => rowB ((r :: rs) ++ [[0]]) o :: compT rs os
  | _, _ => []
theorem comp_shp : ∀ {n : Nat} {one other : Tab}, Shp n one → Shp n other → Shp n (compT one other)
  | 0, _, _, h1, h2 => by rw [show _ = [] from h1]; rfl
  | n + 1, _, _, ⟨r, rs, e1, l1, s1⟩, ⟨o, os, e2, l2, s2⟩ => by
    rw [e1, e2]
    exact ⟨_, _, rfl, by rw [rowB_len]; exact l2, comp_shp s1 s2⟩
theorem getD_some {xs : List Int} {i : Nat} (h : i < xs.length) : xs[i]? = some (xs.getD i 0) := by
  rw [List.getD_eq_getElem?_getD, List.getElem?_eq_getElem h]; rfl
/-- the least is one of them -/
theorem ev_att {row parts : List Int} (h : row.length = parts.length) (h0 : 0 < row.length) : ∃ q, q < row.length ∧ ev row parts = row.getD q 0 + parts.getD q 0 := by
  have hne : List.zipWith (· + ·) row parts ≠ [] := fun e => by have := congrArg List.length e; rw [List.length_zipWith, ← h, Nat.min_self, List.length_nil] at this; omega
  obtain ⟨q, hq⟩ := List.mem_iff_getElem?.1 (fmin_mem hne)
  rw [List.getElem?_zipWith] at hq
  have hl : q < row.length := by
    cases e : row[q]? with
    | none => rw [e] at hq; cases hq
    | some x => exact (List.getElem?_eq_some_iff.mp e).1
  rw [getD_some hl, getD_some (by omega)] at hq
  exact ⟨q, hl, (Option.some.inj hq).symm⟩
theorem ev_le {row parts : List Int} (h : row.length = parts.length) {q : Nat} (hq : q < row.length) : ev row parts ≤ row.getD q 0 + parts.getD q 0 := by
  refine fmin_le (List.mem_of_getElem? (i := q) ?_)
  rw [List.getElem?_zipWith, getD_some hq, getD_some (by omega)]
theorem drop_getD (xs : List Int) (b q : Nat) : (xs.drop b).getD q 0 = xs.getD (b + q) 0 := by
  rw [List.getD_eq_getElem?_getD, List.getElem?_drop, List.getD_eq_getElem?_getD]
/-- rows, each so long that it reaches to the last place -/
def Rws (m : Nat) (rows : Tab) : Prop := rows.length = m + 1 ∧ ∀ b, b ≤ m → (rows.getD b []).length = m + 1 - b
theorem Shp.rws {m : Nat} {t : Tab} (h : Shp m t) : Rws m (t ++ [[0]]) := by
  have hl := h.len
  refine ⟨by rw [List.length_append, hl]; rfl, fun b hb => ?_⟩
  by_cases hlt : b < m
  · obtain ⟨a, r, _, e2, e3⟩ := h.row hlt
    rw [List.getD_eq_getElem?_getD, List.getElem?_append_left (by omega), e2]
    show (a :: r).length = _
    rw [List.length_cons]
    omega
  · have : b = m := by omega
    subst this
    rw [List.getD_eq_getElem?_getD, List.getElem?_append_right (by omega), hl, Nat.sub_self]
    show 1 = _
    omega
theorem fmin_map_att {n : Nat} (f : Nat → Int) : ∃ b, b < n + 1 ∧ fmin ((List.range (n + 1)).map f) = f b := by
  have hne : (List.range (n + 1)).map f ≠ [] := fun e => by have := congrArg List.length e; simp at this
  obtain ⟨b, hb, e⟩ := List.mem_map.1 (fmin_mem hne)
  exact ⟨b, List.mem_range.1 hb, e.symm⟩
theorem fmin_map_le {n b : Nat} (f : Nat → Int) (h : b < n + 1) : fmin ((List.range (n + 1)).map f) ≤ f b := fmin_le (List.mem_map.2 ⟨b, List.mem_range.2 h, rfl⟩)
theorem rowB_get {rows : Tab} {row : List Int} {p : Nat} (h : p < row.length) : (rowB rows row).getD p 0 = fmin ((List.range (p + 1)).map fun b => row.getD b 0 + (rows.getD b []).getD (p - b) 0) := by
  unfold rowB
  rw [List.getD_eq_getElem?_getD, List.getElem?_map, List.getElem?_range h]
  rfl
theorem ev_comp {m : Nat} {rows : Tab} {row parts L : List Int} (hr : Rws m rows) (h1 : row.length = m + 1) (h2 : parts.length = m + 1) (h3 : L.length = m + 1) (hL : ∀ b, b ≤ m → L.getD b 0 = ev (rows.getD b []) (parts.drop b)) : ev (rowB rows row) parts = ev row L := by
  have l1 : (rowB rows row).length = parts.length := by rw [rowB_len]; omega
  have le1 : ev (rowB rows row) parts ≤ ev row L := by
    obtain ⟨b, hb, e1⟩ := ev_att (row := row) (parts := L) (by omega) (by omega)
    have hbl := hr.2 b (by omega)
    obtain ⟨q, hq, e2⟩ := ev_att (row := rows.getD b []) (parts := parts.drop b) (by rw [hbl, List.length_drop]; omega) (by omega)
    have e3 := ev_le l1 (q := b + q) (by rw [rowB_len]; omega)
    rw [rowB_get (by omega)] at e3
    have e4 := fmin_map_le (n := b + q) (b := b) (fun b' => row.getD b' 0 + (rows.getD b' []).getD (b + q - b') 0) (by omega)
    rw [show b + q - b = q by omega] at e4
    rw [e1, hL b (by omega), e2, drop_getD]
    omega
  have le2 : ev row L ≤ ev (rowB rows row) parts := by
    obtain ⟨p, hp, e1⟩ := ev_att l1 (by rw [rowB_len]; omega)
    rw [rowB_len] at hp
    rw [rowB_get hp] at e1
    obtain ⟨b, hb, e2⟩ := fmin_map_att (n := p) (fun b' => row.getD b' 0 + (rows.getD b' []).getD (p - b') 0)
    have hbl := hr.2 b (by omega)
    have e3 := ev_le (row := row) (parts := L) (by omega) (q := b) (by omega)
    have e4 := ev_le (row := rows.getD b []) (parts := parts.drop b) (by rw [hbl, List.length_drop]; omega) (q := p - b) (by omega)
    rw [drop_getD, show b + (p - b) = p by omega] at e4
    rw [hL b (by omega)] at e3
    omega
  omega
theorem ledT_len : ∀ (t : Tab) (parts : List Int), (ledT t parts).length = t.length
  | [], _ => rfl
  | r :: rs, parts => by rw [ledT, List.length_cons, List.length_cons, ledT_len rs]
theorem L_rows {m : Nat} {t : Tab} {T : List Int} (h : Shp m t) (hT : T.length = m) : ∀ b, b ≤ m → (ledT t (T ++ [0]) ++ [0]).getD b 0 = ev ((t ++ [[0]]).getD b []) ((T ++ [0]).drop b) := by
  intro b hb
  have hl := h.len
  by_cases hlt : b < m
  · rw [List.getD_eq_getElem?_getD, List.getElem?_append_left (by rw [ledT_len]; omega), ledT_get, List.getD_eq_getElem?_getD, List.getElem?_append_left (by omega), List.getElem?_eq_getElem (by omega : b < t.length)]
    rfl
  · have : b = m := by omega
    subst this
    rw [List.getD_eq_getElem?_getD, List.getElem?_append_right (by rw [ledT_len]; omega), ledT_len, hl, Nat.sub_self, List.getD_eq_getElem?_getD, List.getElem?_append_right (by omega), hl, Nat.sub_self]
    have : (T ++ [0]).drop b = [0] := by rw [List.drop_append, hT, Nat.sub_self, List.drop_eq_nil_of_le (by omega)]; rfl
    rw [this]
    rfl
theorem led_comp : ∀ {n : Nat} {one other : Tab} {T : List Int}, Shp n one → Shp n other → T.length = n → ledT (compT one other) (T ++ [0]) = ledT other (ledT one (T ++ [0]) ++ [0])
  | 0, _, _, T, h1, h2, hT => by
    rw [show _ = [] from h1, show _ = [] from h2]
    rfl
  | n + 1, one, other, T, h1, h2, hT => by
    obtain ⟨r, rs, e1, l1, s1⟩ := h1
    obtain ⟨o, os, e2, l2, s2⟩ := h2
    cases T with
    | nil => simp at hT
    | cons x xs =>
      have hx : xs.length = n := by simpa using hT
      have S1 : Shp (n + 1) (r :: rs) := ⟨r, rs, rfl, l1, s1⟩
      rw [e1, e2, compT, ledT, ledT]
      congr 1
      · exact ev_comp S1.rws l2 (by simp; omega) (by rw [List.length_append, ledT_len, S1.len]; rfl) (L_rows S1 hT)
      · rw [List.cons_append, List.tail_cons, led_comp s1 s2 hx, ledT, List.tail_cons, List.cons_append, List.tail_cons]
/-! ### so often -/
def iter {α : Type} (f : α → α) : Nat → α → α
  | 0, x => x
  | k + 1, x => iter f k (f x)
theorem iter_add {α : Type} (f : α → α) (a b : Nat) (x : α) : iter f (a + b) x = iter f b (iter f a x) := by
  induction a generalizing x with
  | zero => rw [Nat.zero_add]; rfl
  | succ a ih => rw [show a + 1 + b = (a + b) + 1 by omega]; exact ih (f x)
theorem iter_succ {α : Type} (f : α → α) (a : Nat) (x : α) : iter f (a + 1) x = f (iter f a x) := iter_add f a 1 x
def Led (t : Tab) (T : List Int) : List Int := ledT t (T ++ [0])
theorem iterLed_len {n : Nat} {t : Tab} (h : Shp n t) : ∀ (k : Nat) {T : List Int}, T.length = n → (iter (Led t) k T).length = n
  | 0, T, hT => hT
  | k + 1, T, hT => iterLed_len h k (by unfold Led; rw [ledT_len, h.len])
def dbl (t : Tab) : Nat → Tab
  | 0 => t
  | k + 1 => compT (dbl t k) (dbl t k)
theorem dbl_shp {n : Nat} {t : Tab} (h : Shp n t) : ∀ k, Shp n (dbl t k)
  | 0 => h
  | k + 1 => comp_shp (dbl_shp h k) (dbl_shp h k)
theorem dbl_led {n : Nat} {t : Tab} (h : Shp n t) : ∀ (k : Nat) {T : List Int}, T.length = n → Led (dbl t k) T = iter (Led t) (2 ^ k) T
  | 0, T, hT => rfl
  | k + 1, T, hT => by
    have hd := dbl_shp h k
    have hl : (Led (dbl t k) T).length = n := by unfold Led; rw [ledT_len, hd.len]
    rw [Nat.pow_succ, Nat.mul_two, iter_add, ← dbl_led h k hT, ← dbl_led h k hl]
    exact led_comp hd hd hT
/-- whether a bit is set -/
def bit (m i : Nat) : Bool := m / 2 ^ i % 2 != 0
theorem mod_succ (m i : Nat) : m % 2 ^ (i + 1) = m % 2 ^ i + (if bit m i = true then 2 ^ i else 0) := by
  rw [Nat.mod_pow_succ]
  congr 1
  unfold bit
  have h := Nat.mod_lt (m / 2 ^ i) (show 0 < 2 by omega)
  by_cases e : m / 2 ^ i % 2 = 0
  · rw [e]; simp
  · have : m / 2 ^ i % 2 = 1 := by omega
    rw [this]; simp
theorem bits_led {n : Nat} {t : Tab} (h : Shp n t) (m : Nat) {T : List Int} (hT : T.length = n) : ∀ i, (((List.range i).filter (bit m)).map (dbl t)).foldl (fun U s => Led s U) T = iter (Led t) (m % 2 ^ i) T
  | 0 => by rw [Nat.pow_zero, Nat.mod_one]; rfl
  | i + 1 => by
    have ih := bits_led h m hT i
    rw [List.range_succ, List.filter_append, List.map_append, List.foldl_append, ih, mod_succ]
    have hl := iterLed_len h (m % 2 ^ i) hT
    by_cases e : bit m i = true
    · rw [if_pos e, iter_add]
      simp only [List.filter_cons, e, if_true, List.filter_nil, List.map_cons, List.map_nil, List.foldl_cons, List.foldl_nil]
      exact dbl_led h i hl
    · rw [if_neg e]
      simp only [List.filter_cons, e, List.filter_nil, List.map_nil, List.foldl_nil]
      rfl
end Lw
-- F2
-- F3
namespace Lw
open PySem PySem.Spec PyProof.Rows L2
local macro_rules | `(tactic| walk_at "lw e") => `(tactic| (repeat (first | (with_reducible refine Stp.go ?_) | (with_reducible apply Exists.intro) | ((with_reducible refine And.intro ?_ ?_); · (first | (with_reducible exact Evl.ev) | ((fail_if_success (with_reducible refine Gd.keep ?_)); rfl) | ((with_reducible apply mul_r); decide) | ((with_reducible apply mul_l); decide) | ((with_reducible apply div_i); decide) | ((with_reducible apply in_R); decide) | (exact Nat.le_of_ble_eq_true rfl) | (simp [refsOf]; done) | (exact ⟨rfl, rfl, by decide⟩) | (exact ⟨rfl, rfl, rfl⟩) | ((with_reducible apply tgN_o); (focus rfl); (focus (first | assumption | trivial))))) | ((with_reducible apply Sm.vrP); (focus rfl)) | ((with_reducible apply Sm.vrO); (focus rfl)) | ((with_reducible apply Sm.augI); (focus rfl)) | ((with_reducible refine Sm.dicE ?_ ?_); (focus decide)) | ((with_reducible apply Sm.augS); (focus rfl)) | (with_reducible refine iteTT ?_) | (with_reducible refine iteT ?_) | (with_reducible refine iteF ?_) | ((with_reducible refine iteB1 ?_ ?_); (focus rfl)) | ((with_reducible refine iteB0 ?_ ?_); (focus rfl)))))
local macro_rules | `(tactic| walk_at "lw n") => `(tactic| (try dsimp only [ent, List.map, Nat.reduceAdd, Nat.reduceSub, List.length_cons, List.length_nil, List.replicate_succ, List.replicate_zero, List.cons_append, List.nil_append, putBack, setOwn, List.getElem?_cons_zero, List.getElem?_cons_succ, List.set_cons_zero, List.set_cons_succ, Sm.nf]))
local macro_rules | `(tactic| walk_at "lw v") => `(tactic| (try simp only [pb1, pb2, pb3, pb4]))
theorem seq_ix {t : D} {xs : List Int} (ht : Seq t xs) {i : Nat} (h : i < xs.length) : gIx t (.int (i : Int)) = some (.pure (.int (xs.getD i 0))) := by
  rw [ix_items ht.items (by omega) (by rw [List.length_map]; omega), Int.toNat_natCast, List.getD_eq_getElem?_getD, List.getElem?_map, List.getElem?_eq_getElem h, List.getD_eq_getElem?_getD, List.getElem?_eq_getElem h]
  rfl
theorem seq_len {t : D} {xs : List Int} (ht : Seq t xs) : gLen t = some (.pure (.int xs.length)) := by
  rcases ht with rfl | rfl
  · show some (R.pure (.int ((xs.map PyData.int).length : Nat))) = _; rw [List.length_map]
  · show some (R.pure (.int ((xs.map PyData.int).length : Nat))) = _; rw [List.length_map]
theorem TabG.ix {tv : D} {xs : List D} {t : Tab} (h : TabG tv xs t) {i : Nat} (hi : i < t.length) : ∃ x, gIx tv (.int (i : Int)) = some (.pure x) ∧ Seq x (t.getD i []) := by
  have hl := h.len
  refine ⟨xs.getD i .none, ?_, ?_⟩
  · rw [ix_items h.its (by omega) (by omega), Int.toNat_natCast]
  · refine h.ok i _ _ ?_ ?_
    · rw [List.getD_eq_getElem?_getD, List.getElem?_eq_getElem (by omega)]; rfl
    · rw [List.getD_eq_getElem?_getD, List.getElem?_eq_getElem hi]; rfl
def addAt (row : List Int) (rows : Tab) (p : Nat) : D → D
  | .int b => .int (row.getD b.toNat 0 + (rows.getD b.toNat []).getD (p - b.toNat) 0)
  | d => d
theorem addAt_map (row : List Int) (rows : Tab) (p : Nat) : (rngD 0 (p + 1)).map (addAt row rows p) = ((List.range (p + 1)).map fun b => row.getD b 0 + (rows.getD b []).getD (p - b) 0).map PyData.int := by
  rw [rng_map, List.map_map]
  refine List.map_congr_left fun b _ => ?_
  show PyData.int (row.getD (0 + (b : Int)).toNat 0 + (rows.getD (0 + (b : Int)).toNat []).getD (p - (0 + (b : Int)).toNat) 0) = _
  rw [Int.zero_add, Int.toNat_natCast]
  rfl
def rbAt (row : List Int) (rows : Tab) : D → D
  | .int p => .int ((rowB rows row).getD p.toNat 0)
  | d => d
theorem row_behind_ok {rv wv : D} {xs : List D} {rows : Tab} {row : List Int} (hr : TabG rv xs rows) (hw : Seq wv row) (hl : row.length ≤ 1000) (h1 : row.length ≤ rows.length) (h2 : ∀ b, b < row.length → row.length - b ≤ (rows.getD b []).length) : wpf m_p_row_behind [.pure rv, .pure wv] (ValQ fun x => x = it (rowB rows row)) := by
  have hsl : sizeLine = 16777216 := rfl
  refine Sm.run ?_
  unfold g_p_row_behind
  walk_at "lw n"
  walk_at "lw e"
  refine ⟨seq_len hw, ?_⟩
  walk_at "lw e"
  refine ⟨in_R (by omega), ?_⟩
  walk_at "lw e"
  rw [Int.toNat_natCast]
  refine Sm.lcPure (rbAt row rows) (by rw [rngD_len]; omega) ?_ ?_
  · intro y hy
    obtain ⟨p, hp0⟩ := List.mem_iff_getElem?.1 hy
    obtain ⟨hp, rfl⟩ := rng_at hp0
    refine ⟨_, tgN_o rfl trivial, ?_⟩
    walk_at "lw n"
    walk_at "lw e"
    refine ⟨in_R (by omega), ?_⟩
    walk_at "lw e"
    rw [show ((p : Int) + 1).toNat = p + 1 by omega]
    refine Sm.lcPure (addAt row rows p) (by rw [rngD_len]; omega) ?_ ?_
    · intro z hz
      obtain ⟨b, hb⟩ := List.mem_iff_getElem?.1 hz
      obtain ⟨hb, rfl⟩ := rng_at hb
      obtain ⟨x, i1, i2⟩ := hr.ix (i := b) (by omega)
      have h2b := h2 b (by omega)
      have epb : (p : Int) - (b : Int) = ((p - b : Nat) : Int) := by omega
      have i3 : gIx x (.int ((p : Int) - (b : Int))) = some (.pure (.int ((rows.getD b []).getD (p - b) 0))) := by
        rw [epb]; exact seq_ix i2 (by omega)
      refine ⟨_, tgN_o rfl trivial, ?_⟩
      walk_at "lw n"
      walk_at "lw e"
      refine ⟨seq_ix hw (by omega), ?_⟩
      walk_at "lw e"
      refine ⟨i1, ?_⟩
      walk_at "lw e"
      refine ⟨i3, ?_⟩
      walk_at "lw e"
      first | rfl | exact ⟨rfl, rfl⟩ | exact ⟨_, rfl, rfl, rfl⟩
    rw [addAt_map]
    have hne : ((List.range (p + 1)).map fun b => row.getD b 0 + (rows.getD b []).getD (p - b) 0) ≠ [] := fun e => by have := congrArg List.length e; simp at this
    refine ⟨_, _, rfl, fmin_ok hne, ?_⟩
    have ef : rbAt row rows (.int (p : Int)) = .int (fmin ((List.range (p + 1)).map fun b => row.getD b 0 + (rows.getD b []).getD (p - b) 0)) := by
      show PyData.int ((rowB rows row).getD (p : Int).toNat 0) = _
      rw [Int.toNat_natCast, rowB_get hp]
    rw [ef]
    first | rfl | exact ⟨rfl, rfl⟩ | exact ⟨_, rfl, rfl, rfl⟩
  · walk_at "lw e"
    refine ⟨_, rfl, ?_⟩
    unfold it
    congr 1
    rw [rng_map]
    apply List.ext_getElem?
    intro i
    rw [List.getElem?_map, List.getElem?_map]
    by_cases h : i < row.length
    · rw [List.getElem?_range h, getD_some (xs := rowB rows row) (by rw [rowB_len]; exact h)]
      show some (PyData.int ((rowB rows row).getD (0 + (i : Int)).toNat 0)) = _
      rw [Int.zero_add, Int.toNat_natCast]
      rfl
    · rw [List.getElem?_eq_none (by rw [List.length_range]; omega), List.getElem?_eq_none (by rw [rowB_len]; omega)]
      rfl
theorem comp_get : ∀ {n : Nat} {one other : Tab} (i : Nat), Shp n one → Shp n other → (compT one other)[i]? = (other[i]?).map fun o => rowB ((one ++ [[0]]).drop i) o
  | 0, _, _, i, h1, h2 => by rw [show _ = [] from h1, show _ = [] from h2]; simp [compT]
  | n + 1, _, _, i, ⟨r, rs, e1, l1, s1⟩, ⟨o, os, e2, l2, s2⟩ => by
    rw [e1, e2, compT]
    cases i with
    | zero => rfl
    | succ i => rw [List.getElem?_cons_succ, List.getElem?_cons_succ, comp_get i s1 s2, List.cons_append, List.drop_succ_cons]
def rowAt (one other : Tab) : D → D
  | .tuple [.int i, _] => it (rowB ((one ++ [[0]]).drop i.toNat) (other.getD i.toNat []))
  | d => d
theorem behind_ok {ov1 tv : D} {xs ys : List D} {n : Nat} {one other : Tab} (h1 : TabG ov1 xs one) (h2 : TabG tv ys other) (s1 : Shp n one) (s2 : Shp n other) (hn : n ≤ 100) : wpf m_p_behind [.pure ov1, .pure tv] (ValQ fun x => x = tabD (compT one other)) := by
  have hsl : sizeLine = 16777216 := rfl
  have l1 := s1.len
  have l2 := s2.len
  have x1 := h1.len
  have y1 := h2.len
  have rws := s1.rws
  refine Sm.run ?_
  unfold g_p_behind
  walk_at "lw n"
  walk_at "lw e"
  refine ⟨h1.its, ?_⟩
  walk_at "lw e"
  refine ⟨vals_avs rfl, by simp; omega, ?_⟩
  walk_at "lw e"
  walk_at "lw n"
  walk_at "lw e"
  refine ⟨h2.its, ?_⟩
  walk_at "lw e"
  refine Sm.lcPure (rowAt one other) (by rw [enumD_len]; omega) ?_ ?_
  · intro d hd
    obtain ⟨i, hi⟩ := List.mem_iff_getElem?.1 hd
    rw [enumD_get] at hi
    cases q : ys[i]? with
    | none => rw [q] at hi; cases hi
    | some y =>
      rw [q] at hi
      cases hi
      have hil : i < ys.length := (List.getElem?_eq_some_iff.mp q).1
      have hy := h2.ok i y _ q (List.getElem?_eq_getElem (by omega))
      obtain ⟨a, r, _, e2, e3⟩ := s2.row (k := i) (by omega)
      have er : other[i]'(by omega) = a :: r := by rw [List.getElem?_eq_getElem (by omega)] at e2; exact Option.some.inj e2
      rw [er] at hy
      have hd2 : TabG (.list ((xs ++ [PyData.tuple [.int 0]]).drop i)) ((xs ++ [PyData.tuple [.int 0]]).drop i) ((one ++ [[0]]).drop i) := by
        refine ⟨rfl, by simp; omega, fun j x r h3 h4 => ?_⟩
        rw [List.getElem?_drop] at h3 h4
        by_cases hj : i + j < xs.length
        · rw [List.getElem?_append_left hj] at h3
          rw [List.getElem?_append_left (by omega)] at h4
          exact h1.ok _ x r h3 h4
        · rw [List.getElem?_append_right (by omega)] at h3 h4
          rw [x1] at h3
          cases k : i + j - one.length with
          | zero => rw [k] at h3 h4; cases h3; cases h4; exact .inr rfl
          | succ k' => rw [k] at h3; cases h3
      have hrb := row_behind_ok (row := a :: r) hd2 hy (by rw [List.length_cons]; omega) (by simp; omega) (fun b hb => by
        rw [List.length_cons] at hb ⊢
        have := rws.2 (i + b) (by omega)
        rw [List.getD_eq_getElem?_getD, List.getElem?_drop, ← List.getD_eq_getElem?_getD]
        omega)
      rw [Nat.zero_add]
      refine ⟨_, tgT2_o rfl trivial rfl trivial, ?_⟩
      walk_at "lw n"
      walk_at "lw e"
      rw [cut_from]
      (refine Sm.fmono (hrb) fun r o h => ?_; obtain ⟨d, rfl, rfl⟩ := h; refine ⟨nref, ?_⟩; walk_at "lw v"; walk_at "lw e")
      have ef : rowAt one other (.tuple [.int (i : Int), y]) = it (rowB ((one ++ [[0]]).drop i) (a :: r)) := by
        show it (rowB ((one ++ [[0]]).drop (i : Int).toNat) (other.getD (i : Int).toNat [])) = _
        rw [Int.toNat_natCast, List.getD_eq_getElem?_getD, e2]
        rfl
      rw [ef]
      first | rfl | exact ⟨rfl, rfl⟩ | exact ⟨rfl, rfl, rfl⟩ | exact ⟨_, rfl, rfl, rfl⟩
  · walk_at "lw e"
    refine ⟨_, rfl, ?_⟩
    unfold tabD
    congr 1
    apply List.ext_getElem?
    intro i
    rw [List.getElem?_map, List.getElem?_map, enumD_get, comp_get i s1 s2]
    by_cases h : i < other.length
    · rw [List.getElem?_eq_getElem (by omega : i < ys.length), List.getElem?_eq_getElem h]
      show some (it (rowB ((one ++ [[0]]).drop ((0 + i : Nat) : Int).toNat) (other.getD ((0 + i : Nat) : Int).toNat []))) = _
      rw [Nat.zero_add, Int.toNat_natCast, List.getD_eq_getElem?_getD, List.getElem?_eq_getElem h]
      rfl
    · rw [List.getElem?_eq_none (by omega), List.getElem?_eq_none (by omega)]
      rfl
end Lw
-- F2
-- F3
namespace Lw
open PySem PySem.Spec PyProof.Rows L2
local macro_rules | `(tactic| walk_at "lw e") => `(tactic| (repeat (first | (with_reducible refine Stp.go ?_) | (with_reducible apply Exists.intro) | ((with_reducible refine And.intro ?_ ?_); · (first | (with_reducible exact Evl.ev) | ((fail_if_success (with_reducible refine Gd.keep ?_)); rfl) | ((with_reducible apply mul_r); decide) | ((with_reducible apply mul_l); decide) | ((with_reducible apply div_i); decide) | ((with_reducible apply in_R); decide) | (exact Nat.le_of_ble_eq_true rfl) | (simp [refsOf]; done) | (exact ⟨rfl, rfl, by decide⟩) | (exact ⟨rfl, rfl, rfl⟩) | ((with_reducible apply tgN_o); (focus rfl); (focus (first | assumption | trivial))))) | ((with_reducible apply Sm.vrP); (focus rfl)) | ((with_reducible apply Sm.vrO); (focus rfl)) | ((with_reducible apply Sm.augI); (focus rfl)) | ((with_reducible refine Sm.dicE ?_ ?_); (focus decide)) | ((with_reducible apply Sm.augS); (focus rfl)) | (with_reducible refine iteTT ?_) | (with_reducible refine iteT ?_) | (with_reducible refine iteF ?_) | ((with_reducible refine iteB1 ?_ ?_); (focus rfl)) | ((with_reducible refine iteB0 ?_ ?_); (focus rfl)))))
local macro_rules | `(tactic| walk_at "lw n") => `(tactic| (try dsimp only [ent, List.map, Nat.reduceAdd, Nat.reduceSub, List.length_cons, List.length_nil, List.replicate_succ, List.replicate_zero, List.cons_append, List.nil_append, putBack, setOwn, List.getElem?_cons_zero, List.getElem?_cons_succ, List.set_cons_zero, List.set_cons_succ, Sm.nf]))
local macro_rules | `(tactic| walk_at "lw v") => `(tactic| (try simp only [pb1, pb2, pb3, pb4]))
/-- how many doubles are wanted -/
def dn (m : Nat) : Nat := Builtin.Int.intBits (m : Int) - 1 + 1
theorem lt_dn (m : Nat) : m < 2 ^ dn m := by
  unfold dn Builtin.Int.intBits
  by_cases h : m = 0
  · subst h; decide
  · rw [if_neg (by simpa using h), Int.natAbs_natCast, Nat.add_sub_cancel]
    exact Nat.lt_log2_self
theorem dn_le {m k : Nat} (h : m < 2 ^ k) (hk : 1 ≤ k) : dn m ≤ k ∧ Builtin.Int.intBits (m : Int) ≤ k := by
  unfold dn Builtin.Int.intBits
  by_cases h0 : m = 0
  · subst h0; rw [if_pos (by rfl)]; omega
  · rw [if_neg (by simpa using h0), Int.natAbs_natCast]
    have := (Nat.log2_lt h0).2 h
    omega
theorem tup_rows {tv : D} {xs : List D} {t : Tab} (h : TabG tv xs t) : ∀ x ∈ xs, ∃ r, Seq x r ∧ gTuple x = some (.pure (it r)) := by
  intro x hx
  obtain ⟨i, hi⟩ := List.mem_iff_getElem?.1 hx
  have hil : i < xs.length := (List.getElem?_eq_some_iff.mp hi).1
  have := h.ok i x _ hi (List.getElem?_eq_getElem (by have := h.len; omega))
  exact ⟨_, this, by rcases this with rfl | rfl <;> rfl⟩
def tupD : D → D
  | .list xs => .tuple xs
  | d => d
theorem tup_map {tv : D} {xs : List D} {t : Tab} (h : TabG tv xs t) : xs.map tupD = t.map it := by
  apply List.ext_getElem?
  intro i
  rw [List.getElem?_map, List.getElem?_map]
  have hl := h.len
  by_cases hi : i < xs.length
  · have := h.ok i _ _ (List.getElem?_eq_getElem hi) (List.getElem?_eq_getElem (by omega))
    rw [List.getElem?_eq_getElem hi, List.getElem?_eq_getElem (by omega)]
    show some (tupD xs[i]) = some (it t[i])
    congr 1
    rcases this with e | e <;> rw [e] <;> rfl
  · rw [List.getElem?_eq_none (by omega), List.getElem?_eq_none (by omega)]; rfl
def dbls (t : Tab) (k : Nat) : List D := ((List.range k).map (dbl t)).map tabD
def IDb (tv : D) (m : Nat) (t : Tab) (i : Nat) (ς : En) : Prop := ∃ o5 : Option S, ς = [some (.pure tv), some (.pure (.int (m : Int))), some (.pure (tabD (dbl t i))), none, some (.own false (dbls t (i + 1))), o5] ∧ Fr o5
theorem doubles_ok {tv : D} {xs : List D} {t : Tab} {n m : Nat} (h : TabG tv xs t) (hs : Shp n t) (hn : n ≤ 100) (hm : m < 2 ^ 200) : wpf m_p_doubles_of [.pure tv, .pure (.int (m : Int))] (FreshQ fun x => x = dbls t (dn m)) := by
  have hsl : sizeLine = 16777216 := rfl
  have hb := dn_le hm (by decide)
  have hxl := h.len
  have htl := hs.len
  refine Sm.run ?_
  unfold g_p_doubles_of
  walk_at "lw n"
  walk_at "lw e"
  refine ⟨h.its, ?_⟩
  walk_at "lw e"
  refine Sm.lcPure tupD (by omega) ?_ ?_
  · intro x hx
    obtain ⟨r, sr, gr⟩ := tup_rows h x hx
    refine ⟨_, tgN_o rfl trivial, ?_⟩
    walk_at "lw n"
    refine Sm.cal1 (Sm.vrP rfl ⟨_, _, rfl, gr, ?_⟩)
    have ef : tupD x = it r := by rcases sr with rfl | rfl <;> rfl
    rw [ef]
    first | rfl | exact ⟨rfl, rfl⟩ | exact ⟨_, rfl, rfl, rfl⟩
  rw [tup_map h]
  dsimp only [wipeE]
  walk_at "lw n"
  walk_at "lw e"
  walk_at "lw n"
  walk_at "lw e"
  refine ⟨in_R (by omega), ?_⟩
  have el : (((Builtin.Int.intBits (m : Int) : Nat) : Int) - 1).toNat = Builtin.Int.intBits (m : Int) - 1 := by omega
  refine Sm.loopInv (IDb tv m t) ⟨none, rfl, trivial⟩ ?_ ?_
  · rintro i x ς hx ⟨o5, rfl, f5⟩
    have hi : i < 200 := by have := (List.getElem?_eq_some_iff.mp hx).1; rw [rngD_len] at this; omega
    have hd := dbl_shp hs i
    refine ⟨_, tgN_o rfl f5, ?_⟩
    walk_at "lw n"
    walk_at "lw e"
    (refine Sm.fmono (behind_ok (TabG.of (dbl t i)) (TabG.of (dbl t i)) hd hd hn) fun r o h => ?_; obtain ⟨d, rfl, rfl⟩ := h; refine ⟨nref, ?_⟩; walk_at "lw v"; walk_at "lw e")
    walk_at "lw n"
    walk_at "lw e"
    refine ⟨app_ok (by unfold dbls; simp; omega), ?_⟩
    refine ⟨some (.pure x), ?_, trivial⟩
    unfold dbls
    rw [List.range_succ (n := i + 1), List.map_append, List.map_append]
    rfl
  · rintro ς ⟨o5, rfl, f5⟩
    rw [rngD_len, el]
    refine Sm.at_nx (Sm.retS (Sm.vrO rfl (Sm.oM rfl (Sm.fF ⟨_, rfl, rfl⟩))))
def bitD (m : Nat) : D → Bool
  | .tuple [.int i, _] => bit m i.toNat
  | _ => false
def sndD : D → D
  | .tuple [_, x] => x
  | d => d
theorem enum_rng (f : Nat → D) (k : Nat) : enumD 0 ((List.range k).map f) = (List.range k).map fun (i : Nat) => PyData.tuple [.int (i : Int), f i] := by
  apply List.ext_getElem?
  intro i
  rw [enumD_get, List.getElem?_map, List.getElem?_map]
  by_cases h : i < k
  · rw [List.getElem?_range h, Nat.zero_add]; rfl
  · rw [List.getElem?_eq_none (by rw [List.length_range]; omega)]; rfl
theorem in_ok' {t : Tab} {m k : Nat} (hk : k ≤ 1000) : wpf m_p_doubles_in [.pure (.list (dbls t k)), .pure (.int (m : Int))] (FreshQ fun x => x = ((((List.range k).filter (bit m)).map (dbl t)).map tabD)) := by
  have hsl : sizeLine = 16777216 := rfl
  refine Sm.run ?_
  unfold g_p_doubles_in
  walk_at "lw n"
  walk_at "lw e"
  have ee : enumD 0 (dbls t k) = (List.range k).map fun (i : Nat) => PyData.tuple [.int (i : Int), tabD (dbl t i)] := by
    unfold dbls
    rw [List.map_map]
    exact enum_rng (tabD ∘ dbl t) k
  rw [ee]
  refine Sm.lcFil (bitD m) sndD (by simp; omega) ?_ ?_
  · intro d hd
    obtain ⟨i, hi, rfl⟩ := List.mem_map.1 hd
    have hi := List.mem_range.1 hi
    have e1 : ((m : Int) / 2 ^ i) = ((m / 2 ^ i : Nat) : Int) := by push_cast; rfl
    refine ⟨_, tgT2_o rfl trivial rfl trivial, ?_⟩
    walk_at "lw n"
    have hg : gAnd (.int ((m : Int) / 2 ^ i)) (.int 1) = some (.pure (.int ((m / 2 ^ i % 2 : Nat) : Int))) := by rw [e1]; exact and1_ok
    refine Sm.tru (Sm.op2 (Sm.op2 (Sm.vrP rfl (Sm.vrP rfl ⟨_, _, _, rfl, rfl, shr_ok, Sm.cn ⟨_, _, _, rfl, rfl, hg, _, _, rfl, rfl, ?_, rfl, rfl, fun _ => ?_⟩⟩))))
    · show (((m / 2 ^ i % 2 : Nat) : Int) != 0) = bit m (i : Int).toNat
      rw [Int.toNat_natCast]
      unfold bit
      cases q : m / 2 ^ i % 2 with
      | zero => rfl
      | succ j =>
        rw [bne_iff_ne.2 (by omega), bne_iff_ne.2 (by omega)]
    · walk_at "lw e"
      first | rfl | exact ⟨rfl, rfl⟩ | exact ⟨rfl, rfl, rfl⟩ | exact ⟨_, rfl, rfl, rfl⟩
  · refine Sm.oF (Sm.fF ⟨_, rfl, ?_⟩)
    rw [List.filter_map, List.map_map, List.map_map]
    rfl
def ILo (dv Tv : D) (m : Nat) (ts : List Tab) (T : List Int) (i : Nat) (ς : En) : Prop := ∃ o4 : Option S, ς = [some (.pure dv), some (.pure Tv), some (.pure (.int (m : Int))), some (.pure (it ((ts.take i).foldl (fun U s => Led s U) T))), o4] ∧ Fr o4
theorem led_often_ok {Tv : D} {t : Tab} {T : List Int} {m k : Nat} (hT : Seq Tv T) (hs : Shp T.length t) (hn : T.length ≤ 100) (hk : k ≤ 1000) (hm : m < 2 ^ k) : wpf m_p_led_often [.pure (.list (dbls t k)), .pure Tv, .pure (.int (m : Int))] (ValQ fun x => x = it (iter (Led t) m T)) := by
  have g1 : gTuple Tv = some (.pure (it T)) := by rcases hT with rfl | rfl <;> rfl
  refine Sm.run ?_
  unfold g_p_led_often
  walk_at "lw n"
  walk_at "lw e"
  refine ⟨g1, ?_⟩
  walk_at "lw e"
  walk_at "lw n"
  walk_at "lw e"
  refine Sm.fmono (in_ok' hk) fun r o h => ?_
  obtain ⟨z, rfl, rfl⟩ := h
  refine ⟨nfr, ?_⟩
  walk_at "lw v"
  walk_at "lw e"
  refine Sm.loopInv (ILo (.list (dbls t k)) Tv m (((List.range k).filter (bit m)).map (dbl t)) T) ⟨none, rfl, trivial⟩ ?_ ?_
  · rintro i x ς hx ⟨o4, rfl, f4⟩
    rw [List.getElem?_map] at hx
    cases q : (((List.range k).filter (bit m)).map (dbl t))[i]? with
    | none => rw [q] at hx; cases hx
    | some s =>
      rw [q] at hx
      cases hx
      have hall : ∀ (ts : List Tab) (U : List Int), (∀ s ∈ ts, Shp T.length s) → U.length = T.length → (ts.foldl (fun U s => Led s U) U).length = T.length := by
        intro ts
        induction ts with
        | nil => intro U _ h; exact h
        | cons s ts ih =>
          intro U hts hU
          refine ih _ (fun s hs => hts s (by simp [hs])) ?_
          show (ledT s (U ++ [0])).length = _
          rw [ledT_len, (hts s (by simp)).len]
      have hsh : ∀ s ∈ ((List.range k).filter (bit m)).map (dbl t), Shp T.length s := fun s hs' => by
        obtain ⟨j, _, rfl⟩ := List.mem_map.1 hs'
        exact dbl_shp hs j
      have hUl := hall ((((List.range k).filter (bit m)).map (dbl t)).take i) T (fun s m => hsh s (List.mem_of_mem_take m)) rfl
      have hss := hsh s (List.mem_of_getElem? q)
      refine ⟨_, tgN_o rfl f4, ?_⟩
      walk_at "lw n"
      walk_at "lw e"
      (refine Sm.fmono (led_ok (TabG.of s) (.inr rfl) (by rw [hUl]; exact hss) (by omega)) fun r o h => ?_; obtain ⟨d, rfl, rfl⟩ := h; refine ⟨nref, ?_⟩; walk_at "lw v"; walk_at "lw e")
      walk_at "lw n"
      refine ⟨some (.pure (tabD s)), ?_, trivial⟩
      rw [List.take_add_one, q, List.foldl_append]
      rfl
  · rintro ς ⟨o4, rfl, f4⟩
    rw [List.length_map, List.take_length, bits_led hs m rfl k, Nat.mod_eq_of_lt hm]
    walk_at "lw e"
    exact ⟨_, rfl, rfl⟩
theorem far_totals_ok {st lv dv : D} {xs ts : List D} {ps : List P3} {ls : List Int} {ds : List Dd} {m : Nat} (hs : StairG st xs ps) (hv : Seq lv ls) (hd : DeedsG dv ts ds) (ho : ∀ d ∈ ds, d.On ps.length) (hp : ps.length ≤ 100) (hl : ls.length = ps.length) (hdl : ds.length ≤ 1000) (hm : m < 2 ^ 200) :
    wpf m_p_far_totals [.pure st, .pure lv, .pure dv, .pure (.int (m : Int))] (ValQ fun x => x = it (iter (Led (tabOf ps ds)) m (tots ls))) := by
  have sp := tabOf_shp ps ds
  have tl : (tots ls).length = ps.length := by rw [tots_len]; exact hl
  refine Sm.run ?_
  unfold g_p_far_totals
  walk_at "lw n"
  walk_at "lw e"
  (refine Sm.fmono (table_ok hs hd ho (by omega) hdl) fun r o h => ?_; obtain ⟨d, rfl, rfl⟩ := h; refine ⟨nref, ?_⟩; walk_at "lw v"; walk_at "lw e")
  refine Sm.fmono (doubles_ok (TabG.of (tabOf ps ds)) sp hp hm) fun r o h => ?_
  obtain ⟨z, rfl, rfl⟩ := h
  refine ⟨nfr, ?_⟩
  walk_at "lw v"
  walk_at "lw e"
  (refine Sm.fmono (totals_ok hv (by omega)) fun r o h => ?_; obtain ⟨d, rfl, rfl⟩ := h; refine ⟨nref, ?_⟩; walk_at "lw v"; walk_at "lw e")
  (refine Sm.fmono (led_often_ok (T := tots ls) (.inr rfl) (by rw [tl]; exact sp) (by omega) (Nat.le_trans (dn_le hm (by decide)).1 (by decide)) (lt_dn m)) fun r o h => ?_; obtain ⟨d, rfl, rfl⟩ := h; refine ⟨nref, ?_⟩; walk_at "lw v"; walk_at "lw e")
  exact ⟨_, rfl, rfl⟩
theorem far_levels_ok {st lv dv : D} {xs ts : List D} {ps : List P3} {ls : List Int} {ds : List Dd} {m : Nat} (hs : StairG st xs ps) (hv : Seq lv ls) (hd : DeedsG dv ts ds) (ho : ∀ d ∈ ds, d.On ps.length) (hp : ps.length ≤ 100) (hl : ls.length = ps.length) (hdl : ds.length ≤ 1000) (hm : m < 2 ^ 200) :
    wpf m_p_far_levels [.pure st, .pure lv, .pure dv, .pure (.int (m : Int))] (ValQ fun x => x = it (levs (iter (Led (tabOf ps ds)) m (tots ls)))) := by
  have sp := tabOf_shp ps ds
  have tl : (tots ls).length = ps.length := by rw [tots_len]; exact hl
  have il := iterLed_len sp m tl
  refine Sm.run ?_
  unfold g_p_far_levels
  walk_at "lw n"
  walk_at "lw e"
  (refine Sm.fmono (far_totals_ok hs hv hd ho hp hl hdl hm) fun r o h => ?_; obtain ⟨d, rfl, rfl⟩ := h; refine ⟨nref, ?_⟩; walk_at "lw v"; walk_at "lw e")
  (refine Sm.fmono (levels_ok (xs := iter (Led (tabOf ps ds)) m (tots ls)) (.inr rfl) (by omega)) fun r o h => ?_; obtain ⟨d, rfl, rfl⟩ := h; refine ⟨nref, ?_⟩; walk_at "lw v"; walk_at "lw e")
  exact ⟨_, rfl, rfl⟩
end Lw
-- F2
-- F3
namespace Lw
open PySem PySem.Spec PyProof.Rows L2
local macro_rules | `(tactic| walk_at "lw e") => `(tactic| (repeat (first | (with_reducible refine Stp.go ?_) | (with_reducible apply Exists.intro) | ((with_reducible refine And.intro ?_ ?_); · (first | (with_reducible exact Evl.ev) | ((fail_if_success (with_reducible refine Gd.keep ?_)); rfl) | ((with_reducible apply mul_r); decide) | ((with_reducible apply mul_l); decide) | ((with_reducible apply div_i); decide) | ((with_reducible apply in_R); decide) | (exact Nat.le_of_ble_eq_true rfl) | (simp [refsOf]; done) | (exact ⟨rfl, rfl, by decide⟩) | (exact ⟨rfl, rfl, rfl⟩) | ((with_reducible apply tgN_o); (focus rfl); (focus (first | assumption | trivial))))) | ((with_reducible apply Sm.vrP); (focus rfl)) | ((with_reducible apply Sm.vrO); (focus rfl)) | ((with_reducible apply Sm.augI); (focus rfl)) | ((with_reducible refine Sm.dicE ?_ ?_); (focus decide)) | ((with_reducible apply Sm.augS); (focus rfl)) | (with_reducible refine iteTT ?_) | (with_reducible refine iteT ?_) | (with_reducible refine iteF ?_) | ((with_reducible refine iteB1 ?_ ?_); (focus rfl)) | ((with_reducible refine iteB0 ?_ ?_); (focus rfl)))))
local macro_rules | `(tactic| walk_at "lw n") => `(tactic| (try dsimp only [ent, List.map, Nat.reduceAdd, Nat.reduceSub, List.length_cons, List.length_nil, List.replicate_succ, List.replicate_zero, List.cons_append, List.nil_append, putBack, setOwn, List.getElem?_cons_zero, List.getElem?_cons_succ, List.set_cons_zero, List.set_cons_succ, Sm.nf]))
local macro_rules | `(tactic| walk_at "lw v") => `(tactic| (try simp only [pb1, pb2, pb3, pb4]))
/-! ### levels none above its most -/
def Below (ps : List P3) (ls : List Int) : Prop := ls.length = ps.length ∧ ∀ z ∈ ps.zip ls, z.2 ≤ z.1.2.1
theorem Below.ov {ps : List P3} {ls : List Int} (h : Below ps ls) : (ov (ps.zip ls)).1 = ls := by
  rw [ov_flat _ h.2]
  exact List.map_snd_zip (by rw [h.1]; exact Nat.le_refl _)
theorem ov_most : ∀ (ps : List P3) (ls : List Int), ls.length = ps.length → Below ps (ov (ps.zip ls)).1
  | [], [], _ => ⟨rfl, fun z h => by cases h⟩
  | p :: ps, l :: ls, h => by
    have ih := ov_most ps ls (by simpa using h)
    rw [List.zip_cons_cons, ov]
    refine ⟨by rw [List.length_cons, List.length_cons, ih.1], fun z hz => ?_⟩
    rw [List.zip_cons_cons] at hz
    rcases List.mem_cons.1 hz with rfl | hz
    · dsimp only
      unfold spill
      split <;> omega
    · exact ih.2 z hz
theorem aft_below {ps : List P3} {ls : List Int} {d : Dd} (hl : ls.length = ps.length) : Below ps (aft ps ls d) := ov_most ps _ (by rw [add1_len]; exact hl)
theorem lvs_below {ps : List P3} : ∀ (ds : List Dd) {ls : List Int}, Below ps ls → Below ps (lvs ps ls ds)
  | [], ls, h => h
  | d :: ds, ls, h => lvs_below ds (aft_below h.1)
theorem Led_lvs {ps : List P3} {ls : List Int} {ds : List Dd} (h : Below ps ls) (ho : ∀ d ∈ ds, d.On ps.length) : Led (tabOf ps ds) (tots ls) = tots (lvs ps ls ds) := by
  have := led_tab h.1 ho
  rw [h.ov] at this
  exact this
def rnd (ps : List P3) (ds : List Dd) (ls : List Int) : List Int := lvs ps ls ds
theorem iter_below {ps : List P3} {ds : List Dd} : ∀ (m : Nat) {ls : List Int}, Below ps ls → Below ps (iter (rnd ps ds) m ls)
  | 0, ls, h => h
  | m + 1, ls, h => iter_below m (lvs_below ds h)
theorem iter_led {ps : List P3} {ds : List Dd} (ho : ∀ d ∈ ds, d.On ps.length) : ∀ (m : Nat) {ls : List Int}, Below ps ls → iter (Led (tabOf ps ds)) m (tots ls) = tots (iter (rnd ps ds) m ls)
  | 0, ls, h => rfl
  | m + 1, ls, h => by
    show iter (Led (tabOf ps ds)) m (Led (tabOf ps ds) (tots ls)) = tots (iter (rnd ps ds) m (rnd ps ds ls))
    rw [Led_lvs h ho]
    exact iter_led ho m (lvs_below ds h)
/-! ### what ran over, by totals -/
def ran3 (a b c : List Int) (m : Int) : List Int := (List.range a.length).map fun j => a.getD j 0 + b.getD j 0 * m - c.getD j 0
def ranD (m : Int) : D → D
  | .tuple [.int a, .int b, .int c] => .int (a + b * m - c)
  | d => d
theorem zip3_map (m : Int) : ∀ (a b c : List Int), b.length = a.length → c.length = a.length → (zipD3 (a.map PyData.int) (b.map PyData.int) (c.map PyData.int)).map (ranD m) = (ran3 a b c m).map PyData.int
  | [], [], [], _, _ => rfl
  | x :: a, y :: b, z :: c, h1, h2 => by
    have ih := zip3_map m a b c (by simpa using h1) (by simpa using h2)
    rw [List.map_cons, List.map_cons, List.map_cons, zipD3, List.map_cons, ih]
    unfold ran3
    rw [List.length_cons, List.range_succ_eq_map, List.map_cons, List.map_cons, List.map_map, List.map_map, List.map_map]
    rfl
theorem ran_over_ok {st lv dv : D} {xs ts : List D} {ps : List P3} {ls : List Int} {ds : List Dd} {m : Nat} (hs : StairG st xs ps) (hv : Seq lv ls) (hd : DeedsG dv ts ds) (ho : ∀ d ∈ ds, d.On ps.length) (hp : ps.length ≤ 100) (hl : ls.length = ps.length) (hdl : ds.length ≤ 1000) (hm : m < 2 ^ 200) (hsb : ∀ x ∈ sums ps ds, x.natAbs ≤ 10000000000000000000) :
    wpf m_p_ran_over [.pure st, .pure lv, .pure dv, .pure (.int (m : Int))] (ValQ fun x => x = it (ran3 (tots ls) (sums ps ds) (iter (Led (tabOf ps ds)) m (tots ls)) m)) := by
  have hsl : sizeLine = 16777216 := rfl
  have sp := tabOf_shp ps ds
  have tl : (tots ls).length = ps.length := by rw [tots_len]; exact hl
  have il := iterLed_len sp m tl
  have sl := sums_len ps ds
  refine Sm.run ?_
  unfold g_p_ran_over
  walk_at "lw n"
  walk_at "lw e"
  (refine Sm.fmono (totals_ok hv (by omega)) fun r o h => ?_; obtain ⟨d, rfl, rfl⟩ := h; refine ⟨nref, ?_⟩; walk_at "lw v"; walk_at "lw e")
  walk_at "lw n"
  walk_at "lw e"
  (refine Sm.fmono (far_totals_ok hs hv hd ho hp hl hdl hm) fun r o h => ?_; obtain ⟨d, rfl, rfl⟩ := h; refine ⟨nref, ?_⟩; walk_at "lw v"; walk_at "lw e")
  walk_at "lw n"
  walk_at "lw e"
  (refine Sm.fmono (sumsG hs hd hdl (by omega) ho) fun r o h => ?_; obtain ⟨d, rfl, rfl⟩ := h; refine ⟨nref, ?_⟩; walk_at "lw v"; walk_at "lw e")
  refine Sm.lcPure (ranD (m : Int)) (by rw [zipD3_len]; simp; omega) ?_ ?_
  · intro y hy
    obtain ⟨i, hi⟩ := List.mem_iff_getElem?.1 hy
    obtain ⟨a, b, c, h1, h2, h3, rfl⟩ := zipD3_get _ _ _ _ _ hi
    rw [List.getElem?_map] at h1 h2 h3
    cases q1 : (tots ls)[i]? with
    | none => rw [q1] at h1; cases h1
    | some a' =>
      cases q2 : (sums ps ds)[i]? with
      | none => rw [q2] at h2; cases h2
      | some b' =>
        cases q3 : (iter (Led (tabOf ps ds)) m (tots ls))[i]? with
        | none => rw [q3] at h3; cases h3
        | some c' =>
          rw [q1] at h1
          rw [q2] at h2
          rw [q3] at h3
          cases h1
          cases h2
          cases h3
          have hb := hsb b' (List.mem_of_getElem? q2)
          refine ⟨_, tgT3_o rfl trivial rfl trivial rfl trivial, ?_⟩
          walk_at "lw n"
          walk_at "lw e"
          refine ⟨mul_l (by omega), ?_⟩
          walk_at "lw e"
          first | rfl | exact ⟨rfl, rfl⟩ | exact ⟨rfl, rfl, rfl⟩ | exact ⟨_, rfl, rfl, rfl⟩
  rw [zip3_map _ _ _ _ (by omega) (by omega)]
  walk_at "lw e"
  exact ⟨_, rfl, rfl⟩
end Lw
-- F2
-- F3
namespace Lw
open PySem PySem.Spec PyProof.Rows L2
local macro_rules | `(tactic| walk_at "lw e") => `(tactic| (repeat (first | (with_reducible refine Stp.go ?_) | (with_reducible apply Exists.intro) | ((with_reducible refine And.intro ?_ ?_); · (first | (with_reducible exact Evl.ev) | ((fail_if_success (with_reducible refine Gd.keep ?_)); rfl) | ((with_reducible apply mul_r); decide) | ((with_reducible apply mul_l); decide) | ((with_reducible apply div_i); decide) | ((with_reducible apply in_R); decide) | (exact Nat.le_of_ble_eq_true rfl) | (simp [refsOf]; done) | (exact ⟨rfl, rfl, by decide⟩) | (exact ⟨rfl, rfl, rfl⟩) | ((with_reducible apply tgN_o); (focus rfl); (focus (first | assumption | trivial))))) | ((with_reducible apply Sm.vrP); (focus rfl)) | ((with_reducible apply Sm.vrO); (focus rfl)) | ((with_reducible apply Sm.augI); (focus rfl)) | ((with_reducible refine Sm.dicE ?_ ?_); (focus decide)) | ((with_reducible apply Sm.augS); (focus rfl)) | (with_reducible refine iteTT ?_) | (with_reducible refine iteT ?_) | (with_reducible refine iteF ?_) | ((with_reducible refine iteB1 ?_ ?_); (focus rfl)) | ((with_reducible refine iteB0 ?_ ?_); (focus rfl)))))
local macro_rules | `(tactic| walk_at "lw n") => `(tactic| (try dsimp only [ent, List.map, Nat.reduceAdd, Nat.reduceSub, List.length_cons, List.length_nil, List.replicate_succ, List.replicate_zero, List.cons_append, List.nil_append, putBack, setOwn, List.getElem?_cons_zero, List.getElem?_cons_succ, List.set_cons_zero, List.set_cons_succ, Sm.nf]))
local macro_rules | `(tactic| walk_at "lw v") => `(tactic| (try simp only [pb1, pb2, pb3, pb4]))
/-! ### levels drawn below the most -/
def FlatP (ps : List P3) (ns : List Int) : Prop := ∀ (i : Nat) n, ns[i]? = some n → ∃ p, ps[i]? = some p ∧ n ≤ p.2.1 ∧ n.natAbs ≤ 200000000000000000
theorem FlatP.below {ps : List P3} {ns : List Int} (h : FlatP ps ns) (hl : ns.length = ps.length) : Below ps ns ∧ ∀ n ∈ ns, n.natAbs ≤ 200000000000000000 := by
  refine ⟨⟨hl, fun z hz => ?_⟩, fun n hn => ?_⟩
  · obtain ⟨i, hi⟩ := List.mem_iff_getElem?.1 hz
    obtain ⟨h1, h2⟩ := List.getElem?_zip_eq_some.1 hi
    obtain ⟨p, hp, hle, _⟩ := h i _ h2
    rw [h1] at hp
    cases hp
    exact hle
  · obtain ⟨i, hi⟩ := List.mem_iff_getElem?.1 hn
    obtain ⟨p, _, _, hb⟩ := h i n hi
    exact hb
end Lw
-- F2
-- F3
namespace Lw
open PySem PySem.Spec PyProof.Rows L2
local macro_rules | `(tactic| walk_at "lw e") => `(tactic| (repeat (first | (with_reducible refine Stp.go ?_) | (with_reducible apply Exists.intro) | ((with_reducible refine And.intro ?_ ?_); · (first | (with_reducible exact Evl.ev) | ((fail_if_success (with_reducible refine Gd.keep ?_)); rfl) | ((with_reducible apply mul_r); decide) | ((with_reducible apply mul_l); decide) | ((with_reducible apply div_i); decide) | ((with_reducible apply in_R); decide) | (exact Nat.le_of_ble_eq_true rfl) | (simp [refsOf]; done) | (exact ⟨rfl, rfl, by decide⟩) | (exact ⟨rfl, rfl, rfl⟩) | ((with_reducible apply tgN_o); (focus rfl); (focus (first | assumption | trivial))))) | ((with_reducible apply Sm.vrP); (focus rfl)) | ((with_reducible apply Sm.vrO); (focus rfl)) | ((with_reducible apply Sm.augI); (focus rfl)) | ((with_reducible refine Sm.dicE ?_ ?_); (focus decide)) | ((with_reducible apply Sm.augS); (focus rfl)) | (with_reducible refine iteTT ?_) | (with_reducible refine iteT ?_) | (with_reducible refine iteF ?_) | ((with_reducible refine iteB1 ?_ ?_); (focus rfl)) | ((with_reducible refine iteB0 ?_ ?_); (focus rfl)))))
local macro_rules | `(tactic| walk_at "lw n") => `(tactic| (try dsimp only [ent, List.map, Nat.reduceAdd, Nat.reduceSub, List.length_cons, List.length_nil, List.replicate_succ, List.replicate_zero, List.cons_append, List.nil_append, putBack, setOwn, List.getElem?_cons_zero, List.getElem?_cons_succ, List.set_cons_zero, List.set_cons_succ, Sm.nf]))
local macro_rules | `(tactic| walk_at "lw v") => `(tactic| (try simp only [pb1, pb2, pb3, pb4]))
theorem pw_4 : gPowA (.int 10) (.int 4) = some (.pure (.int 10000)) := rfl
theorem pw_11 : gPowA (.int 10) (.int 11) = some (.pure (.int 100000000000)) := rfl
theorem pw_13 : gPowA (.int 10) (.int 13) = some (.pure (.int 10000000000000)) := rfl
theorem pw_14 : gPowA (.int 10) (.int 14) = some (.pure (.int 100000000000000)) := rfl
theorem pw_16 : gPowA (.int 10) (.int 16) = some (.pure (.int 10000000000000000)) := rfl
instance : Evl (gPowA (.int 10) (.int 4)) (.pure (.int 10000)) := ⟨pw_4⟩
instance : Evl (gPowA (.int 10) (.int 11)) (.pure (.int 100000000000)) := ⟨pw_11⟩
instance : Evl (gPowA (.int 10) (.int 13)) (.pure (.int 10000000000000)) := ⟨pw_13⟩
instance : Evl (gPowA (.int 10) (.int 14)) (.pure (.int 100000000000000)) := ⟨pw_14⟩
instance : Evl (gPowA (.int 10) (.int 16)) (.pure (.int 10000000000000000)) := ⟨pw_16⟩
theorem pb5 {a b c d e : D} {o : List S} {ς : En} : putBack [.val a, .val b, .val c, .val d, .val e] o ς = ς := pbv fun _ => pb4
theorem pb6 {a b c d e f : D} {o : List S} {ς : En} : putBack [.val a, .val b, .val c, .val d, .val e, .val f] o ς = ς := pbv fun _ => pb5
theorem cut_toN (ds : List D) (i : Nat) : cutD ds none (some (i : Int)) = ds.take i := by
  unfold cutD
  rw [show HT.sIx ds.length ds.length (some (i : Int)) = min i ds.length from HT.sIx_nat _ _ i, show HT.sIx ds.length 0 none = 0 from rfl, List.drop_zero, Nat.sub_zero]
  by_cases h : i ≤ ds.length
  · rw [Nat.min_eq_left h]
  · rw [Nat.min_eq_right (by omega), List.take_of_length_le (Nat.le_refl _), List.take_of_length_le (by omega)]
theorem sl_to {t : D} {ds : List D} (h : items t = some ds) (i : Nat) : ∃ r d, gSl t none (some (i : Int)) = some r ∧ (∀ ς, toD r ς = some (d, ς)) ∧ items d = some (ds.take i) := by
  cases t with
  | list xs => cases h; exact ⟨.fresh (ds.take i), .list (ds.take i), by rw [← cut_toN]; rfl, fun ς => rfl, rfl⟩
  | tuple xs => cases h; exact ⟨.pure (.tuple (ds.take i)), .tuple (ds.take i), by rw [← cut_toN]; rfl, fun ς => rfl, rfl⟩
  | _ => cases h
theorem DeedsG.take {t d : D} {ts : List D} {ds : List Dd} (h : DeedsG t ts ds) {i : Nat} (hi : items d = some (ts.take i)) : DeedsG d (ts.take i) (ds.take i) := by
  have hl := h.len
  refine ⟨hi, by rw [List.length_take, List.length_take, hl], fun j x e h1 h2 => ?_⟩
  by_cases hj : j < i
  · rw [List.getElem?_take_of_lt hj] at h1 h2
    exact h.ok j x e h1 h2
  · rw [List.getElem?_take_eq_none (by omega)] at h1
    cases h1
/-! ### a stair, a round, levels below the most -/
structure Rnd (g : Nat) (ps : List P3) (ds : List Dd) (ns : List Int) : Prop where
  g1 : 1 ≤ g
  g2 : g ≤ 1000000000000000
  x1 : 1 ≤ ps.length
  x2 : ps.length ≤ 6
  hp : ∀ p ∈ ps, PoundI g p
  hd : LotN 40 ps.length g ds
  hb : Below ps ns
  nb : ∀ n ∈ ns, n.natAbs ≤ 200000000000000000
section
variable {g : Nat} {ps : List P3} {ds : List Dd} {ns : List Int}
theorem Rnd.on (e : Rnd g ps ds ns) : ∀ d ∈ ds, d.On ps.length := fun d m => (e.hd.2 d m).1
theorem Rnd.len (e : Rnd g ps ds ns) (m : Nat) : (iter (rnd ps ds) m ns).length = ps.length := (iter_below m e.hb).1
theorem Rnd.take (e : Rnd g ps ds ns) (k : Nat) : LotN 40 ps.length g (ds.take k) := ⟨by have := e.hd.1; rw [List.length_take]; omega, fun d m => e.hd.2 d (List.mem_of_mem_take m)⟩
end
end Lw
-- F2
-- F3
-- F4
namespace Lw
open PySem PySem.Spec PyProof.Rows L2
local macro_rules | `(tactic| walk_at "lw e") => `(tactic| (repeat (first | (with_reducible refine Stp.go ?_) | (with_reducible apply Exists.intro) | ((with_reducible refine And.intro ?_ ?_); · (first | (with_reducible exact Evl.ev) | ((fail_if_success (with_reducible refine Gd.keep ?_)); rfl) | ((with_reducible apply mul_r); decide) | ((with_reducible apply mul_l); decide) | ((with_reducible apply div_i); decide) | ((with_reducible apply in_R); decide) | (exact Nat.le_of_ble_eq_true rfl) | (simp [refsOf]; done) | (exact ⟨rfl, rfl, by decide⟩) | (exact ⟨rfl, rfl, rfl⟩) | ((with_reducible apply tgN_o); (focus rfl); (focus (first | assumption | trivial))))) | ((with_reducible apply Sm.vrP); (focus rfl)) | ((with_reducible apply Sm.vrO); (focus rfl)) | ((with_reducible apply Sm.augI); (focus rfl)) | ((with_reducible refine Sm.dicE ?_ ?_); (focus decide)) | ((with_reducible apply Sm.augS); (focus rfl)) | (with_reducible refine iteTT ?_) | (with_reducible refine iteT ?_) | (with_reducible refine iteF ?_) | ((with_reducible refine iteB1 ?_ ?_); (focus rfl)) | ((with_reducible refine iteB0 ?_ ?_); (focus rfl)))))
local macro_rules | `(tactic| walk_at "lw n") => `(tactic| (try dsimp only [ent, List.map, Nat.reduceAdd, Nat.reduceSub, List.length_cons, List.length_nil, List.replicate_succ, List.replicate_zero, List.cons_append, List.nil_append, putBack, setOwn, List.getElem?_cons_zero, List.getElem?_cons_succ, List.set_cons_zero, List.set_cons_succ, Sm.nf]))
local macro_rules | `(tactic| walk_at "lw v") => `(tactic| (try simp only [pb1, pb2, pb3, pb4, pb5, pb6]))
theorem spill_nn (m : Int) : 0 ≤ spill m := by unfold spill; split <;> omega
end Lw
-- F2
-- F3
namespace Lw
open PySem PySem.Spec PyProof.Rows L2
local macro_rules | `(tactic| walk_at "lw e") => `(tactic| (repeat (first | (with_reducible refine Stp.go ?_) | (with_reducible apply Exists.intro) | ((with_reducible refine And.intro ?_ ?_); · (first | (with_reducible exact Evl.ev) | ((fail_if_success (with_reducible refine Gd.keep ?_)); rfl) | ((with_reducible apply mul_r); decide) | ((with_reducible apply mul_l); decide) | ((with_reducible apply div_i); decide) | ((with_reducible apply in_R); decide) | (exact Nat.le_of_ble_eq_true rfl) | (simp [refsOf]; done) | (exact ⟨rfl, rfl, by decide⟩) | (exact ⟨rfl, rfl, rfl⟩) | ((with_reducible apply tgN_o); (focus rfl); (focus (first | assumption | trivial))))) | ((with_reducible apply Sm.vrP); (focus rfl)) | ((with_reducible apply Sm.vrO); (focus rfl)) | ((with_reducible apply Sm.augI); (focus rfl)) | ((with_reducible refine Sm.dicE ?_ ?_); (focus decide)) | ((with_reducible apply Sm.augS); (focus rfl)) | (with_reducible refine iteTT ?_) | (with_reducible refine iteT ?_) | (with_reducible refine iteF ?_) | ((with_reducible refine iteB1 ?_ ?_); (focus rfl)) | ((with_reducible refine iteB0 ?_ ?_); (focus rfl)))))
local macro_rules | `(tactic| walk_at "lw n") => `(tactic| (try dsimp only [ent, List.map, Nat.reduceAdd, Nat.reduceSub, List.length_cons, List.length_nil, List.replicate_succ, List.replicate_zero, List.cons_append, List.nil_append, putBack, setOwn, List.getElem?_cons_zero, List.getElem?_cons_succ, List.set_cons_zero, List.set_cons_succ, Sm.nf]))
local macro_rules | `(tactic| walk_at "lw v") => `(tactic| (try simp only [pb1, pb2, pb3, pb4]))
def TpF (F : Int) (n p : Nat) : List Int := (List.range n).map fun a => if a = p then -F else F
theorem TpF_len (F : Int) (n p : Nat) : (TpF F n p).length = n := by simp [TpF]
theorem partsF_at {F : Int} {n p i : Nat} (h : i < n) : (TpF F n p ++ [0])[i]? = some (if i = p then -F else F) := by
  rw [List.getElem?_append_left (by rw [TpF_len]; exact h)]
  unfold TpF
  rw [List.getElem?_map, List.getElem?_range h]
  rfl
theorem partsF_end {F : Int} {n p : Nat} : (TpF F n p ++ [0])[n]? = some 0 := by
  rw [List.getElem?_append_right (by rw [TpF_len]; omega), TpF_len, Nat.sub_self]
  rfl
theorem evF_read {F : Int} {B : Nat} (hF : 4 * (B : Int) < F) {n p a : Nat} {row : List Int} {x : Int} (hp : p ≤ n) (ha : a ≤ p) (hr : row.length = n + 1 - a) (hb : ∀ y ∈ row, y.natAbs ≤ B) (hx : row[p - a]? = some x) : ev row ((TpF F n p ++ [0]).drop a) + (if p < n then F else 0) = x := by
  have hxb := hb x (List.mem_of_getElem? hx)
  have key : ∀ y ∈ List.zipWith (· + ·) row ((TpF F n p ++ [0]).drop a), x - (if p < n then F else 0) ≤ y := by
    intro y hy
    obtain ⟨i, hi⟩ := List.mem_iff_getElem?.1 hy
    rw [List.getElem?_zipWith] at hi
    split at hi
    · rename_i u v hu hv
      cases hi
      have hub := hb u (List.mem_of_getElem? hu)
      have hil : i < row.length := (List.getElem?_eq_some_iff.mp hu).1
      rw [List.getElem?_drop] at hv
      by_cases h1 : a + i < n
      · rw [partsF_at h1] at hv
        cases hv
        by_cases h2 : a + i = p
        · have : p - a = i := by omega
          rw [this] at hx
          rw [hx] at hu
          cases hu
          rw [if_pos h2, if_pos (by omega)]
          omega
        · rw [if_neg h2]
          split <;> omega
      · have e : a + i = n := by omega
        rw [e, partsF_end] at hv
        cases hv
        by_cases h2 : p < n
        · rw [if_pos h2]; omega
        · rw [if_neg h2]
          have : p - a = i := by omega
          rw [this] at hx
          rw [hx] at hu
          cases hu
          omega
    · cases hi
  have hget : (List.zipWith (· + ·) row ((TpF F n p ++ [0]).drop a))[p - a]? = some (x - (if p < n then F else 0)) := by
    rw [List.getElem?_zipWith, hx, List.getElem?_drop, show a + (p - a) = p by omega]
    by_cases h : p < n
    · rw [partsF_at h, if_pos rfl, if_pos h]
      rfl
    · rw [show p = n by omega, partsF_end, if_neg (by omega)]
      simp
  unfold ev
  rw [fmin_pick hget key]
  omega
theorem led_get : ∀ (t : Tab) (parts : List Int) (a : Nat), (ledT t parts)[a]? = (t[a]?).map fun r => ev r (parts.drop a)
  | [], _, _ => rfl
  | row :: rows, parts, 0 => rfl
  | row :: rows, parts, a + 1 => by
    show (ledT rows parts.tail)[a]? = _
    rw [led_get rows parts.tail a]
    simp
theorem Shp.rowl : ∀ {n : Nat} {t : Tab}, Shp n t → ∀ {a : Nat} {r : List Int}, t[a]? = some r → r.length = n + 1 - a ∧ a < n
  | 0, _, h, a, r, e => by rw [show _ = [] from h] at e; cases e
  | n + 1, _, ⟨row, rows, e0, h1, h2⟩, 0, r, e => by
    rw [e0] at e
    cases e
    omega
  | n + 1, _, ⟨row, rows, e0, h1, h2⟩, a + 1, r, e => by
    rw [e0] at e
    have := h2.rowl (a := a) e
    omega
theorem tab_bdd (t : Tab) : ∃ B : Nat, ∀ row ∈ t, ∀ x ∈ row, x.natAbs ≤ B := by
  have hr : ∀ r : List Int, ∃ B : Nat, ∀ x ∈ r, x.natAbs ≤ B := by
    intro r
    induction r with
    | nil => exact ⟨0, by simp⟩
    | cons x r ih =>
      obtain ⟨B, hB⟩ := ih
      refine ⟨B + x.natAbs, ?_⟩
      intro y hy
      rcases List.mem_cons.1 hy with rfl | hy
      · omega
      · have := hB y hy; omega
  induction t with
  | nil => exact ⟨0, by simp⟩
  | cons r t ih =>
    obtain ⟨B, hB⟩ := ih
    obtain ⟨C, hC⟩ := hr r
    refine ⟨B + C, ?_⟩
    intro row hrow x hx
    rcases List.mem_cons.1 hrow with rfl | h
    · have := hC x hx; omega
    · have := hB row h x hx; omega
theorem tab_uniq {n : Nat} {t u : Tab} (ht : Shp n t) (hu : Shp n u) (h : ∀ T : List Int, T.length = n → Led t T = Led u T) : t = u := by
  obtain ⟨B, hB⟩ := tab_bdd t
  obtain ⟨C, hC⟩ := tab_bdd u
  refine List.ext_getElem? fun a => ?_
  cases e1 : t[a]? with
  | none =>
    have h1 := List.getElem?_eq_none_iff.1 e1
    rw [ht.len] at h1
    rw [List.getElem?_eq_none_iff.2 (by rw [hu.len]; exact h1)]
  | some r =>
    have ⟨hrl, han⟩ := ht.rowl e1
    have h2 : a < u.length := by rw [hu.len]; exact han
    have e2 : u[a]? = some (u[a]) := List.getElem?_eq_getElem h2
    rw [e2]
    have ⟨hsl, _⟩ := hu.rowl e2
    congr 1
    refine List.ext_getElem? fun j => ?_
    by_cases hj : j < n + 1 - a
    · have e3 : r[j]? = some (r[j]'(by omega)) := List.getElem?_eq_getElem (by omega)
      have e4 : (u[a])[j]? = some ((u[a])[j]'(by omega)) := List.getElem?_eq_getElem (by omega)
      have hT := h (TpF (4 * (B + C) + 1) n (a + j)) (TpF_len _ _ _)
      have g : (Led t (TpF (4 * (B + C) + 1) n (a + j)))[a]? = (Led u (TpF (4 * (B + C) + 1) n (a + j)))[a]? := by rw [hT]
      unfold Led at g
      rw [led_get, led_get, e1, e2] at g
      have g' : ev r (List.drop a (TpF (4 * (B + C) + 1) n (a + j) ++ [0])) = ev (u[a]) (List.drop a (TpF (4 * (B + C) + 1) n (a + j) ++ [0])) := Option.some.inj g
      have k1 := evF_read (F := 4 * (B + C) + 1) (B := B + C) (by omega) (n := n) (p := a + j) (a := a) (by omega) (by omega) hrl (fun y hy => by have := hB r (List.mem_of_getElem? e1) y hy; omega) (by rw [show a + j - a = j by omega]; exact e3)
      have k2 := evF_read (F := 4 * (B + C) + 1) (B := B + C) (by omega) (n := n) (p := a + j) (a := a) (by omega) (by omega) hsl (fun y hy => by have := hC _ (List.mem_of_getElem? e2) y hy; omega) (by rw [show a + j - a = j by omega]; exact e4)
      rw [e3, e4, ← k1, ← k2, g']
    · rw [List.getElem?_eq_none_iff.2 (by omega), List.getElem?_eq_none_iff.2 (by omega)]
theorem Led_comp {n : Nat} {one other : Tab} {T : List Int} (h1 : Shp n one) (h2 : Shp n other) (hT : T.length = n) : Led (compT one other) T = Led other (Led one T) := led_comp h1 h2 hT
/-- u is t, m times (m at least 1) -/
def Pow (n : Nat) (t : Tab) (m : Nat) (u : Tab) : Prop := Shp n u ∧ ∀ T : List Int, T.length = n → Led u T = iter (Led t) m T
theorem Pow.uniq {n m : Nat} {t u v : Tab} (h : Pow n t m u) (h' : Pow n t m v) : u = v := tab_uniq h.1 h'.1 fun T hT => by rw [h.2 T hT, h'.2 T hT]
theorem Pow.one {n : Nat} {t : Tab} (h : Shp n t) : Pow n t 1 t := ⟨h, fun T hT => rfl⟩
theorem Pow.add {n a b : Nat} {t u v : Tab} (ht : Shp n t) (h : Pow n t a u) (h' : Pow n t b v) : Pow n t (a + b) (compT u v) := ⟨comp_shp h.1 h'.1, fun T hT => by rw [Led_comp h.1 h'.1 hT, h.2 T hT, h'.2 _ (iterLed_len ht a hT), iter_add]⟩
end Lw
-- F2
-- F3
namespace Lw
open PySem PySem.Spec PyProof.Rows L2
local macro_rules | `(tactic| walk_at "lw e") => `(tactic| (repeat (first | (with_reducible refine Stp.go ?_) | (with_reducible apply Exists.intro) | ((with_reducible refine And.intro ?_ ?_); · (first | (with_reducible exact Evl.ev) | ((fail_if_success (with_reducible refine Gd.keep ?_)); rfl) | ((with_reducible apply mul_r); decide) | ((with_reducible apply mul_l); decide) | ((with_reducible apply div_i); decide) | ((with_reducible apply in_R); decide) | (exact Nat.le_of_ble_eq_true rfl) | (simp [refsOf]; done) | (exact ⟨rfl, rfl, by decide⟩) | (exact ⟨rfl, rfl, rfl⟩) | ((with_reducible apply tgN_o); (focus rfl); (focus (first | assumption | trivial))))) | ((with_reducible apply Sm.vrP); (focus rfl)) | ((with_reducible apply Sm.vrO); (focus rfl)) | ((with_reducible apply Sm.augI); (focus rfl)) | ((with_reducible refine Sm.dicE ?_ ?_); (focus decide)) | ((with_reducible apply Sm.augS); (focus rfl)) | (with_reducible refine iteTT ?_) | (with_reducible refine iteT ?_) | (with_reducible refine iteF ?_) | ((with_reducible refine iteB1 ?_ ?_); (focus rfl)) | ((with_reducible refine iteB0 ?_ ?_); (focus rfl)))))
local macro_rules | `(tactic| walk_at "lw n") => `(tactic| (try dsimp only [ent, List.map, Nat.reduceAdd, Nat.reduceSub, List.length_cons, List.length_nil, List.replicate_succ, List.replicate_zero, List.cons_append, List.nil_append, putBack, setOwn, List.getElem?_cons_zero, List.getElem?_cons_succ, List.set_cons_zero, List.set_cons_succ, Sm.nf]))
local macro_rules | `(tactic| walk_at "lw v") => `(tactic| (try simp only [pb1, pb2, pb3, pb4]))
def bl (m : Nat) : List Nat := (List.range (dn m)).filter (bit m)
end Lw
-- F2
-- F3
namespace Lw
open PySem PySem.Spec PyProof.Rows L2
local macro_rules | `(tactic| walk_at "lw e") => `(tactic| (repeat (first | (with_reducible refine Stp.go ?_) | (with_reducible apply Exists.intro) | ((with_reducible refine And.intro ?_ ?_); · (first | (with_reducible exact Evl.ev) | ((fail_if_success (with_reducible refine Gd.keep ?_)); rfl) | ((with_reducible apply mul_r); decide) | ((with_reducible apply mul_l); decide) | ((with_reducible apply div_i); decide) | ((with_reducible apply in_R); decide) | (exact Nat.le_of_ble_eq_true rfl) | (simp [refsOf]; done) | (exact ⟨rfl, rfl, by decide⟩) | (exact ⟨rfl, rfl, rfl⟩) | ((with_reducible apply tgN_o); (focus rfl); (focus (first | assumption | trivial))))) | ((with_reducible apply Sm.vrP); (focus rfl)) | ((with_reducible apply Sm.vrO); (focus rfl)) | ((with_reducible apply Sm.augI); (focus rfl)) | ((with_reducible refine Sm.dicE ?_ ?_); (focus decide)) | ((with_reducible apply Sm.augS); (focus rfl)) | (with_reducible refine iteTT ?_) | (with_reducible refine iteT ?_) | (with_reducible refine iteF ?_) | ((with_reducible refine iteB1 ?_ ?_); (focus rfl)) | ((with_reducible refine iteB0 ?_ ?_); (focus rfl)))))
local macro_rules | `(tactic| walk_at "lw n") => `(tactic| (try dsimp only [ent, List.map, Nat.reduceAdd, Nat.reduceSub, List.length_cons, List.length_nil, List.replicate_succ, List.replicate_zero, List.cons_append, List.nil_append, putBack, setOwn, List.getElem?_cons_zero, List.getElem?_cons_succ, List.set_cons_zero, List.set_cons_succ, Sm.nf]))
local macro_rules | `(tactic| walk_at "lw v") => `(tactic| (try simp only [pb1, pb2, pb3, pb4]))
def TbB (B : Nat) (t : Tab) : Prop := ∀ row ∈ t, ∀ x ∈ row, x.natAbs ≤ B
theorem TbB.le {A B : Nat} {t : Tab} (h : TbB A t) (hl : A ≤ B) : TbB B t := fun r hr x hx => Nat.le_trans (h r hr x hx) hl
end Lw
-- F2
-- F3
namespace Lw
open PySem PySem.Spec PyProof.Rows L2
local macro_rules | `(tactic| walk_at "lw e") => `(tactic| (repeat (first | (with_reducible refine Stp.go ?_) | (with_reducible apply Exists.intro) | ((with_reducible refine And.intro ?_ ?_); · (first | (with_reducible exact Evl.ev) | ((fail_if_success (with_reducible refine Gd.keep ?_)); rfl) | ((with_reducible apply mul_r); decide) | ((with_reducible apply mul_l); decide) | ((with_reducible apply div_i); decide) | ((with_reducible apply in_R); decide) | (exact Nat.le_of_ble_eq_true rfl) | (simp [refsOf]; done) | (exact ⟨rfl, rfl, by decide⟩) | (exact ⟨rfl, rfl, rfl⟩) | ((with_reducible apply tgN_o); (focus rfl); (focus (first | assumption | trivial))))) | ((with_reducible apply Sm.vrP); (focus rfl)) | ((with_reducible apply Sm.vrO); (focus rfl)) | ((with_reducible apply Sm.augI); (focus rfl)) | ((with_reducible refine Sm.dicE ?_ ?_); (focus decide)) | ((with_reducible apply Sm.augS); (focus rfl)) | (with_reducible refine iteTT ?_) | (with_reducible refine iteT ?_) | (with_reducible refine iteF ?_) | ((with_reducible refine iteB1 ?_ ?_); (focus rfl)) | ((with_reducible refine iteB0 ?_ ?_); (focus rfl)))))
local macro_rules | `(tactic| walk_at "lw n") => `(tactic| (try dsimp only [ent, List.map, Nat.reduceAdd, Nat.reduceSub, List.length_cons, List.length_nil, List.replicate_succ, List.replicate_zero, List.cons_append, List.nil_append, putBack, setOwn, List.getElem?_cons_zero, List.getElem?_cons_succ, List.set_cons_zero, List.set_cons_succ, Sm.nf]))
local macro_rules | `(tactic| walk_at "lw v") => `(tactic| (try simp only [pb1, pb2, pb3, pb4]))
end Lw
-- F2
-- F3
namespace Lw
open PySem PySem.Spec PyProof.Rows L2
local macro_rules | `(tactic| walk_at "lw e") => `(tactic| (repeat (first | (with_reducible refine Stp.go ?_) | (with_reducible apply Exists.intro) | ((with_reducible refine And.intro ?_ ?_); · (first | (with_reducible exact Evl.ev) | ((fail_if_success (with_reducible refine Gd.keep ?_)); rfl) | ((with_reducible apply mul_r); decide) | ((with_reducible apply mul_l); decide) | ((with_reducible apply div_i); decide) | ((with_reducible apply in_R); decide) | (exact Nat.le_of_ble_eq_true rfl) | (simp [refsOf]; done) | (exact ⟨rfl, rfl, by decide⟩) | (exact ⟨rfl, rfl, rfl⟩) | ((with_reducible apply tgN_o); (focus rfl); (focus (first | assumption | trivial))))) | ((with_reducible apply Sm.vrP); (focus rfl)) | ((with_reducible apply Sm.vrO); (focus rfl)) | ((with_reducible apply Sm.augI); (focus rfl)) | ((with_reducible refine Sm.dicE ?_ ?_); (focus decide)) | ((with_reducible apply Sm.augS); (focus rfl)) | (with_reducible refine iteTT ?_) | (with_reducible refine iteT ?_) | (with_reducible refine iteF ?_) | ((with_reducible refine iteB1 ?_ ?_); (focus rfl)) | ((with_reducible refine iteB0 ?_ ?_); (focus rfl)))))
local macro_rules | `(tactic| walk_at "lw n") => `(tactic| (try dsimp only [ent, List.map, Nat.reduceAdd, Nat.reduceSub, List.length_cons, List.length_nil, List.replicate_succ, List.replicate_zero, List.cons_append, List.nil_append, putBack, setOwn, List.getElem?_cons_zero, List.getElem?_cons_succ, List.set_cons_zero, List.set_cons_succ, Sm.nf]))
local macro_rules | `(tactic| walk_at "lw v") => `(tactic| (try simp only [pb1, pb2, pb3, pb4]))
end Lw
-- F2
-- F3
-- F4
namespace Lw
open PySem PySem.Spec PyProof.Rows L2
local macro_rules | `(tactic| walk_at "lw e") => `(tactic| (repeat (first | (with_reducible refine Stp.go ?_) | (with_reducible apply Exists.intro) | ((with_reducible refine And.intro ?_ ?_); · (first | (with_reducible exact Evl.ev) | ((fail_if_success (with_reducible refine Gd.keep ?_)); rfl) | ((with_reducible apply mul_r); decide) | ((with_reducible apply mul_l); decide) | ((with_reducible apply div_i); decide) | ((with_reducible apply in_R); decide) | (exact Nat.le_of_ble_eq_true rfl) | (simp [refsOf]; done) | (exact ⟨rfl, rfl, by decide⟩) | (exact ⟨rfl, rfl, rfl⟩) | ((with_reducible apply tgN_o); (focus rfl); (focus (first | assumption | trivial))))) | ((with_reducible apply Sm.vrP); (focus rfl)) | ((with_reducible apply Sm.vrO); (focus rfl)) | ((with_reducible apply Sm.augI); (focus rfl)) | ((with_reducible refine Sm.dicE ?_ ?_); (focus decide)) | ((with_reducible apply Sm.augS); (focus rfl)) | (with_reducible refine iteTT ?_) | (with_reducible refine iteT ?_) | (with_reducible refine iteF ?_) | ((with_reducible refine iteB1 ?_ ?_); (focus rfl)) | ((with_reducible refine iteB0 ?_ ?_); (focus rfl)))))
local macro_rules | `(tactic| walk_at "lw n") => `(tactic| (try dsimp only [ent, List.map, Nat.reduceAdd, Nat.reduceSub, List.length_cons, List.length_nil, List.replicate_succ, List.replicate_zero, List.cons_append, List.nil_append, putBack, setOwn, List.getElem?_cons_zero, List.getElem?_cons_succ, List.set_cons_zero, List.set_cons_succ, Sm.nf]))
local macro_rules | `(tactic| walk_at "lw v") => `(tactic| (try simp only [pb1, pb2, pb3, pb4, pb5, pb6]))
/-- levels from the least to the most -/
def Within (ps : List P3) (ls : List Int) : Prop := Below ps ls ∧ ∀ z ∈ ps.zip ls, z.1.1 ≤ z.2
theorem Within.len {ps : List P3} {ls : List Int} (h : Within ps ls) : ls.length = ps.length := h.1.1
theorem ov_lo : ∀ (ps : List P3) (ls : List Int), ls.length = ps.length → (∀ p ∈ ps, p.1 ≤ p.2.1) → (∀ z ∈ ps.zip ls, z.1.1 ≤ z.2) → ∀ z ∈ ps.zip (ov (ps.zip ls)).1, z.1.1 ≤ z.2
  | [], _, _, _, _ => fun z hz => by simp at hz
  | p :: ps, [], h, _, _ => by simp at h
  | p :: ps, l :: ls, h, hp, hz => by
    have ih := ov_lo ps ls (by simpa using h) (fun q m => hp q (by simp [m])) (fun z m => hz z (by rw [List.zip_cons_cons]; simp [m]))
    intro z m
    rw [List.zip_cons_cons] at m
    simp only [ov, List.zip_cons_cons, List.mem_cons] at m
    rcases m with rfl | m
    · have h1 := hp p (by simp)
      have h2 : p.1 ≤ l := hz (p, l) (by rw [List.zip_cons_cons]; simp)
      have h3 : 0 ≤ (ov (ps.zip ls)).2.2 := by
        cases ps.zip ls with
        | nil => exact Int.le_refl _
        | cons y ys => exact spill_nn _
      show p.1 ≤ l + (ov (ps.zip ls)).2.2 - spill (l + (ov (ps.zip ls)).2.2 - p.2.1)
      unfold spill
      split <;> omega
    · exact ih z m
theorem zip_ix {α β : Type} {xs : List α} {ys : List β} {z : α × β} (h : z ∈ xs.zip ys) : ∃ i : Nat, xs[i]? = some z.1 ∧ ys[i]? = some z.2 := by
  obtain ⟨i, hi⟩ := List.mem_iff_getElem?.1 h
  exact ⟨i, List.getElem?_zip_eq_some.1 hi⟩
theorem Within.at {ps : List P3} {ls : List Int} (h : Within ps ls) {i : Nat} {p : P3} {l : Int} (h1 : ps[i]? = some p) (h2 : ls[i]? = some l) : p.1 ≤ l ∧ l ≤ p.2.1 := by
  have hm : (p, l) ∈ ps.zip ls := List.mem_of_getElem? (List.getElem?_zip_eq_some (z := (p, l)).2 ⟨h1, h2⟩)
  exact ⟨h.2 _ hm, h.1.2 _ hm⟩
theorem Within.aft {ps : List P3} {ls : List Int} {d : Dd} (h : Within ps ls) (hp : ∀ p ∈ ps, p.1 ≤ p.2.1) (hd : dry ps ls d = false) : Within ps (aft ps ls d) := by
  have hl := h.len
  refine ⟨aft_below hl, ?_⟩
  unfold Lw.aft
  refine ov_lo ps _ (by rw [add1_len]; exact hl) hp ?_
  rintro ⟨pz, lz⟩ hz
  obtain ⟨i, h1, h2⟩ := zip_ix hz
  have h1 : ps[i]? = some pz := h1
  have h2 : (add1 ls (chg ps d).1 (chg ps d).2)[i]? = some lz := h2
  show pz.1 ≤ lz
  have hi : i < ls.length := by have := (List.getElem?_eq_some_iff.mp h1).1; omega
  have h3 := h.at h1 (getD_some hi)
  unfold add1 at h2
  split at h2
  · by_cases q : i = (chg ps d).1.toNat - 1
    · subst q
      rw [List.getElem?_set_self hi] at h2
      have h2 := Option.some.inj h2
      unfold dry at hd
      by_cases q2 : (chg ps d).2 ≥ 0
      · omega
      · rw [if_neg q2] at hd
        have hd := of_decide_eq_false hd
        have e : pAt ps ((chg ps d).1.toNat - 1) = pz := by unfold pAt; rw [List.getD_eq_getElem?_getD, h1]; rfl
        unfold asks at hd
        rw [e] at hd
        omega
    · rw [List.getElem?_set_ne (fun e => q e.symm), getD_some hi] at h2
      rw [← Option.some.inj h2]
      exact h3.1
  · rw [getD_some hi] at h2
    rw [← Option.some.inj h2]
    exact h3.1
theorem Within.bd {g : Nat} (hg : g ≤ 1000000000000000) {ps : List P3} {ls : List Int} (h : Within ps ls) (hp : ∀ p ∈ ps, PoundI g p) : ∀ l ∈ ls, 0 ≤ l ∧ l ≤ 40000000000000000 := by
  intro l hm
  obtain ⟨i, hi⟩ := List.mem_iff_getElem?.1 hm
  have hl : i < ps.length := by have := (List.getElem?_eq_some_iff.mp hi).1; have := h.len; omega
  have := h.at (List.getElem?_eq_getElem hl) hi
  have := pound_b hg (hp _ (List.getElem_mem hl))
  omega
end Lw
-- F2
-- F3
-- F4
namespace Lw
open PySem PySem.Spec PyProof.Rows L2
local macro_rules | `(tactic| walk_at "lw e") => `(tactic| (repeat (first | (with_reducible refine Stp.go ?_) | (with_reducible apply Exists.intro) | ((with_reducible refine And.intro ?_ ?_); · (first | (with_reducible exact Evl.ev) | ((fail_if_success (with_reducible refine Gd.keep ?_)); rfl) | ((with_reducible apply mul_r); decide) | ((with_reducible apply mul_l); decide) | ((with_reducible apply div_i); decide) | ((with_reducible apply in_R); decide) | (exact Nat.le_of_ble_eq_true rfl) | (simp [refsOf]; done) | (exact ⟨rfl, rfl, by decide⟩) | (exact ⟨rfl, rfl, rfl⟩) | ((with_reducible apply tgN_o); (focus rfl); (focus (first | assumption | trivial))))) | ((with_reducible apply Sm.vrP); (focus rfl)) | ((with_reducible apply Sm.vrO); (focus rfl)) | ((with_reducible apply Sm.augI); (focus rfl)) | ((with_reducible refine Sm.dicE ?_ ?_); (focus decide)) | ((with_reducible apply Sm.augS); (focus rfl)) | (with_reducible refine iteTT ?_) | (with_reducible refine iteT ?_) | (with_reducible refine iteF ?_) | ((with_reducible refine iteB1 ?_ ?_); (focus rfl)) | ((with_reducible refine iteB0 ?_ ?_); (focus rfl)))))
local macro_rules | `(tactic| walk_at "lw n") => `(tactic| (try dsimp only [ent, List.map, Nat.reduceAdd, Nat.reduceSub, List.length_cons, List.length_nil, List.replicate_succ, List.replicate_zero, List.cons_append, List.nil_append, putBack, setOwn, List.getElem?_cons_zero, List.getElem?_cons_succ, List.set_cons_zero, List.set_cons_succ, Sm.nf]))
local macro_rules | `(tactic| walk_at "lw v") => `(tactic| (try simp only [pb1, pb2, pb3, pb4, pb5, pb6]))
/-! ### raises -/
/-- a raise of no less than nothing -/
def Dd.Rain (n : Nat) : Dd → Prop
  | .raise l m => 1 ≤ l ∧ l ≤ n ∧ 0 ≤ m
  | _ => False
theorem Dd.Rain.on {n : Nat} {d : Dd} (h : d.Rain n) : d.On n := by
  cases d with
  | raise l m => exact ⟨h.1, h.2.1⟩
  | _ => exact h.elim
/-! ### lowering: nothing runs over -/
/-! ### all numbers so many times as great -/
end Lw
-- F2
-- F3
-- F4
namespace Lw
open PySem PySem.Spec PyProof.Rows L2
local macro_rules | `(tactic| walk_at "lw e") => `(tactic| (repeat (first | (with_reducible refine Stp.go ?_) | (with_reducible apply Exists.intro) | ((with_reducible refine And.intro ?_ ?_); · (first | (with_reducible exact Evl.ev) | ((fail_if_success (with_reducible refine Gd.keep ?_)); rfl) | ((with_reducible apply mul_r); decide) | ((with_reducible apply mul_l); decide) | ((with_reducible apply div_i); decide) | ((with_reducible apply in_R); decide) | (exact Nat.le_of_ble_eq_true rfl) | (simp [refsOf]; done) | (exact ⟨rfl, rfl, by decide⟩) | (exact ⟨rfl, rfl, rfl⟩) | ((with_reducible apply tgN_o); (focus rfl); (focus (first | assumption | trivial))))) | ((with_reducible apply Sm.vrP); (focus rfl)) | ((with_reducible apply Sm.vrO); (focus rfl)) | ((with_reducible apply Sm.augI); (focus rfl)) | ((with_reducible refine Sm.dicE ?_ ?_); (focus decide)) | ((with_reducible apply Sm.augS); (focus rfl)) | (with_reducible refine iteTT ?_) | (with_reducible refine iteT ?_) | (with_reducible refine iteF ?_) | ((with_reducible refine iteB1 ?_ ?_); (focus rfl)) | ((with_reducible refine iteB0 ?_ ?_); (focus rfl)))))
local macro_rules | `(tactic| walk_at "lw n") => `(tactic| (try dsimp only [ent, List.map, Nat.reduceAdd, Nat.reduceSub, List.length_cons, List.length_nil, List.replicate_succ, List.replicate_zero, List.cons_append, List.nil_append, putBack, setOwn, List.getElem?_cons_zero, List.getElem?_cons_succ, List.set_cons_zero, List.set_cons_succ, Sm.nf]))
local macro_rules | `(tactic| walk_at "lw v") => `(tactic| (try simp only [pb1, pb2, pb3, pb4, pb5, pb6]))
theorem le_most {g : Nat} (hg : g ≤ 1000000000000000) {ps : List P3} (hp : ∀ p ∈ ps, PoundI g p) : ∀ p ∈ ps, p.1 ≤ p.2.1 := fun p m => (pound_b hg (hp p m)).2.1
theorem ch_fine {bs : List Bool} (h : bs.length ≤ 6) : Fine 1000000000000000000 1 ((60 + 1) * 6) (.tuple (bs.map chD)) := by
  refine Fine.tup (fun x hx => ?_) (by rw [List.length_map]; exact h)
  obtain ⟨b, _, rfl⟩ := List.mem_map.1 hx
  cases b
  · exact ⟨lfb_fnb (strOk_str "low"), by decide⟩
  · exact ⟨lfb_fnb (strOk_str "high"), by decide⟩
theorem found_fine {ls rs : List Int} {bs : List Bool} (hl : ls.length ≤ 6) (hr : rs.length ≤ 6) (hb : bs.length ≤ 6) (h1 : ∀ x ∈ ls, x.natAbs ≤ 1000000000000000000) (h2 : ∀ x ∈ rs, x.natAbs ≤ 1000000000000000000) : Fine 1000000000000000000 3 ((((60 + 1) * 6 + 1) * 2 + 1) * 2) (.tuple [sD ls bs, it rs]) := by
  have f1 : Fine 1000000000000000000 1 ((60 + 1) * 6) (it ls) := Fine.it h1 (by decide) hl
  have f2 : Fine 1000000000000000000 1 ((60 + 1) * 6) (it rs) := Fine.it h2 (by decide) hr
  have f3 : Fine 1000000000000000000 2 (((60 + 1) * 6 + 1) * 2) (sD ls bs) := by
    refine Fine.tup (fun x hx => ?_) (by simp)
    simp only [List.mem_cons, List.not_mem_nil, or_false] at hx
    rcases hx with rfl | rfl
    · exact f1
    · exact ch_fine hb
  refine Fine.tup (fun x hx => ?_) (by simp)
  simp only [List.mem_cons, List.not_mem_nil, or_false] at hx
  rcases hx with rfl | rfl
  · exact f3
  · exact ⟨fn_mono (Nat.le_refl _) 1 2 _ (by decide) f2.1, Nat.le_trans f2.2 (by decide)⟩
/-- a stair of drawn pounds, levels within, chambers -/
structure Sb (g : Nat) (ps : List P3) (ls : List Int) (bs : List Bool) : Prop where
  g1 : 1 ≤ g
  g2 : g ≤ 1000000000000000
  x1 : 1 ≤ ps.length
  x2 : ps.length ≤ 6
  hp : ∀ p ∈ ps, PoundI g p
  w : Within ps ls
  bl : bs.length = ps.length
section
variable {g : Nat} {ps : List P3} {ls : List Int} {bs : List Bool}
theorem Sb.next (e : Sb g ps ls bs) {d : Dd} (hlet : Let ps ls bs d) : Sb g ps (aft ps ls d) (turn bs d) := ⟨e.g1, e.g2, e.x1, e.x2, e.hp, e.w.aft (le_most e.g2 e.hp) hlet.2, by rw [turn_len]; exact e.bl⟩
theorem Sb.fin (e : Sb g ps ls bs) {rs : List Int} (hr : rs.length ≤ 6) (h2 : ∀ x ∈ rs, x.natAbs ≤ 1000000000000000000) : Fine 1000000000000000000 3 ((((60 + 1) * 6 + 1) * 2 + 1) * 2) (.tuple [sD ls bs, it rs]) := by
  have hb := e.w.bd e.g2 e.hp
  have := e.x2
  exact found_fine (by rw [e.w.len]; omega) hr (by rw [e.bl]; omega) (fun x m => by have := hb x m; omega) h2
end
end Lw
-- F2
-- F3
-- F4
namespace Lw
open PySem PySem.Spec PyProof.Rows L2
local macro_rules | `(tactic| walk_at "lw e") => `(tactic| (repeat (first | (with_reducible refine Stp.go ?_) | (with_reducible apply Exists.intro) | ((with_reducible refine And.intro ?_ ?_); · (first | (with_reducible exact Evl.ev) | ((fail_if_success (with_reducible refine Gd.keep ?_)); rfl) | ((with_reducible apply mul_r); decide) | ((with_reducible apply mul_l); decide) | ((with_reducible apply div_i); decide) | ((with_reducible apply in_R); decide) | (exact Nat.le_of_ble_eq_true rfl) | (simp [refsOf]; done) | (exact ⟨rfl, rfl, by decide⟩) | (exact ⟨rfl, rfl, rfl⟩) | ((with_reducible apply tgN_o); (focus rfl); (focus (first | assumption | trivial))))) | ((with_reducible apply Sm.vrP); (focus rfl)) | ((with_reducible apply Sm.vrO); (focus rfl)) | ((with_reducible apply Sm.augI); (focus rfl)) | ((with_reducible refine Sm.dicE ?_ ?_); (focus decide)) | ((with_reducible apply Sm.augS); (focus rfl)) | (with_reducible refine iteTT ?_) | (with_reducible refine iteT ?_) | (with_reducible refine iteF ?_) | ((with_reducible refine iteB1 ?_ ?_); (focus rfl)) | ((with_reducible refine iteB0 ?_ ?_); (focus rfl)))))
local macro_rules | `(tactic| walk_at "lw n") => `(tactic| (try dsimp only [ent, List.map, Nat.reduceAdd, Nat.reduceSub, List.length_cons, List.length_nil, List.replicate_succ, List.replicate_zero, List.cons_append, List.nil_append, putBack, setOwn, List.getElem?_cons_zero, List.getElem?_cons_succ, List.set_cons_zero, List.set_cons_succ, Sm.nf]))
local macro_rules | `(tactic| walk_at "lw v") => `(tactic| (try simp only [pb1, pb2, pb3, pb4, pb5, pb6]))
/-! ### tables side by side -/
end Lw
-- F2
-- F3
-- F4
namespace Lw
open PySem PySem.Spec PyProof.Rows L2
local macro_rules | `(tactic| walk_at "lw e") => `(tactic| (repeat (first | (with_reducible refine Stp.go ?_) | (with_reducible apply Exists.intro) | ((with_reducible refine And.intro ?_ ?_); · (first | (with_reducible exact Evl.ev) | ((fail_if_success (with_reducible refine Gd.keep ?_)); rfl) | ((with_reducible apply mul_r); decide) | ((with_reducible apply mul_l); decide) | ((with_reducible apply div_i); decide) | ((with_reducible apply in_R); decide) | (exact Nat.le_of_ble_eq_true rfl) | (simp [refsOf]; done) | (exact ⟨rfl, rfl, by decide⟩) | (exact ⟨rfl, rfl, rfl⟩) | ((with_reducible apply tgN_o); (focus rfl); (focus (first | assumption | trivial))))) | ((with_reducible apply Sm.vrP); (focus rfl)) | ((with_reducible apply Sm.vrO); (focus rfl)) | ((with_reducible apply Sm.augI); (focus rfl)) | ((with_reducible refine Sm.dicE ?_ ?_); (focus decide)) | ((with_reducible apply Sm.augS); (focus rfl)) | (with_reducible refine iteTT ?_) | (with_reducible refine iteT ?_) | (with_reducible refine iteF ?_) | ((with_reducible refine iteB1 ?_ ?_); (focus rfl)) | ((with_reducible refine iteB0 ?_ ?_); (focus rfl)))))
local macro_rules | `(tactic| walk_at "lw n") => `(tactic| (try dsimp only [ent, List.map, Nat.reduceAdd, Nat.reduceSub, List.length_cons, List.length_nil, List.replicate_succ, List.replicate_zero, List.cons_append, List.nil_append, putBack, setOwn, List.getElem?_cons_zero, List.getElem?_cons_succ, List.set_cons_zero, List.set_cons_succ, Sm.nf]))
local macro_rules | `(tactic| walk_at "lw v") => `(tactic| (try simp only [pb1, pb2, pb3, pb4, pb5, pb6]))
/-- no total is less -/
def Ge (T U : List Int) : Prop := T.length = U.length ∧ ∀ j : Nat, U.getD j 0 ≤ T.getD j 0
theorem Ge.refl (T : List Int) : Ge T T := ⟨rfl, fun _ => Int.le_refl _⟩
theorem Ge.trans {T U V : List Int} (h : Ge T U) (k : Ge U V) : Ge T V := ⟨h.1.trans k.1, fun j => Int.le_trans (k.2 j) (h.2 j)⟩
theorem Ge.cons {t u : Int} {T U : List Int} (h : u ≤ t) (k : Ge T U) : Ge (t :: T) (u :: U) := ⟨by rw [List.length_cons, List.length_cons, k.1], fun j => by
  cases j with
  | zero => exact h
  | succ j => exact k.2 j⟩
theorem Ge.tail {t u : Int} {T U : List Int} (h : Ge (t :: T) (u :: U)) : u ≤ t ∧ Ge T U := ⟨h.2 0, by have := h.1; simpa using this, fun j => h.2 (j + 1)⟩
theorem Ge.head {T U : List Int} (h : Ge T U) : U.headD 0 ≤ T.headD 0 := by
  cases T with
  | nil =>
    cases U with
    | nil => exact Int.le_refl _
    | cons u U => have := h.1; simp at this
  | cons t T =>
    cases U with
    | nil => have := h.1; simp at this
    | cons u U => exact h.tail.1
/-! ### rains -/
/-! ### tables by what they do -/
end Lw
-- F2
-- F3
-- F4
namespace Lw
open PySem PySem.Spec PyProof.Rows L2
local macro_rules | `(tactic| walk_at "lw e") => `(tactic| (repeat (first | (with_reducible refine Stp.go ?_) | (with_reducible apply Exists.intro) | ((with_reducible refine And.intro ?_ ?_); · (first | (with_reducible exact Evl.ev) | ((fail_if_success (with_reducible refine Gd.keep ?_)); rfl) | ((with_reducible apply mul_r); decide) | ((with_reducible apply mul_l); decide) | ((with_reducible apply div_i); decide) | ((with_reducible apply in_R); decide) | (exact Nat.le_of_ble_eq_true rfl) | (simp [refsOf]; done) | (exact ⟨rfl, rfl, by decide⟩) | (exact ⟨rfl, rfl, rfl⟩) | ((with_reducible apply tgN_o); (focus rfl); (focus (first | assumption | trivial))))) | ((with_reducible apply Sm.vrP); (focus rfl)) | ((with_reducible apply Sm.vrO); (focus rfl)) | ((with_reducible apply Sm.augI); (focus rfl)) | ((with_reducible refine Sm.dicE ?_ ?_); (focus decide)) | ((with_reducible apply Sm.augS); (focus rfl)) | (with_reducible refine iteTT ?_) | (with_reducible refine iteT ?_) | (with_reducible refine iteF ?_) | ((with_reducible refine iteB1 ?_ ?_); (focus rfl)) | ((with_reducible refine iteB0 ?_ ?_); (focus rfl)))))
local macro_rules | `(tactic| walk_at "lw n") => `(tactic| (try dsimp only [ent, List.map, Nat.reduceAdd, Nat.reduceSub, List.length_cons, List.length_nil, List.replicate_succ, List.replicate_zero, List.cons_append, List.nil_append, putBack, setOwn, List.getElem?_cons_zero, List.getElem?_cons_succ, List.set_cons_zero, List.set_cons_succ, Sm.nf]))
local macro_rules | `(tactic| walk_at "lw v") => `(tactic| (try simp only [pb1, pb2, pb3, pb4, pb5, pb6]))
/-! ### ways through a table, and their straight lines: places 0 to n, M a b what a way from a to b costs in a round -/
section
variable {n : Nat} {M : Nat → Nat → Int} {e : Nat → Int}
/-- totals behind so many rounds -/
structure Goes (n : Nat) (M : Nat → Nat → Int) (e : Nat → Int) (T : Nat → Nat → Int) : Prop where
  zero : ∀ a, a ≤ n → T 0 a = e a
  le : ∀ k a u, a ≤ u → u ≤ n → T (k + 1) a ≤ M a u + T k u
  ex : ∀ k a, a ≤ n → ∃ u, a ≤ u ∧ u ≤ n ∧ T (k + 1) a = M a u + T k u
/-- where the line begins of the ways that wait at w -/
structure Begins (n : Nat) (M : Nat → Nat → Int) (e : Nat → Int) (w : Nat) (B : Nat → Int) : Prop where
  end_le : ∀ a, w ≤ a → a ≤ n → B a ≤ e a
  up_le : ∀ a u, w ≤ a → a < u → u ≤ n → B a ≤ M a u - M w w + B u
  up_ex : ∀ a, w ≤ a → a ≤ n → B a = e a ∨ ∃ u, a < u ∧ u ≤ n ∧ B a = M a u - M w w + B u
  low_le : ∀ a u, a < w → a < u → u ≤ w → B a ≤ M a u - M w w + B u
  low_ex : ∀ a, a < w → ∃ u, a < u ∧ u ≤ w ∧ B a = M a u - M w w + B u
/-- a way of so many moves, what it costs, the places where it was -/
inductive Way (n : Nat) (M : Nat → Nat → Int) (e : Nat → Int) : Nat → Nat → Int → List Nat → Prop
  | nil (a : Nat) : a ≤ n → Way n M e a 0 (e a) [a]
  | cons (a u m : Nat) (C : Int) (vs : List Nat) : a < u → u ≤ n → Way n M e u m C vs → Way n M e a (m + 1) (M a u + C) (a :: vs)
theorem Way.start {a m : Nat} {C : Int} {vs : List Nat} (h : Way n M e a m C vs) : a ∈ vs ∧ ∀ v ∈ vs, a ≤ v ∧ v ≤ n := by
  induction h with
  | nil a ha => exact ⟨by simp, fun v m => by rw [List.mem_singleton.1 m]; exact ⟨Nat.le_refl _, ha⟩⟩
  | cons a u m C vs h1 h2 hw ih =>
    refine ⟨by simp, fun v hm => ?_⟩
    rcases List.mem_cons.1 hm with rfl | hm
    · exact ⟨Nat.le_refl _, by omega⟩
    · have := ih.2 v hm
      exact ⟨by omega, this.2⟩
theorem Way.above {a m w : Nat} {C : Int} {vs : List Nat} {B : Nat → Int} (hB : Begins n M e w B) (h : Way n M e a m C vs) (ha : w ≤ a) : B a ≤ C - M w w * m := by
  induction h with
  | nil a hn => have := hB.end_le a ha hn; simp; omega
  | cons a u m C vs h1 h2 hw ih =>
    have k := ih (by omega)
    have := hB.up_le a u ha h1 h2
    have em : M w w * ((m + 1 : Nat) : Int) = M w w * m + M w w := by push_cast; rw [Int.mul_add, Int.mul_one]
    rw [em]
    omega
theorem Way.line {a m w : Nat} {C : Int} {vs : List Nat} {B : Nat → Int} (hB : Begins n M e w B) (h : Way n M e a m C vs) (hw : w ∈ vs) : B a ≤ C - M w w * m := by
  induction h with
  | nil a hn =>
    rw [List.mem_singleton] at hw
    subst hw
    have := hB.end_le w (Nat.le_refl _) hn
    simp; omega
  | cons a u m C vs h1 h2 hway ih =>
    rcases List.mem_cons.1 hw with rfl | hw
    · exact (Way.cons w u m C vs h1 h2 hway).above hB (Nat.le_refl _)
    · have k := ih hw
      have hs := hway.start.2 w hw
      have := hB.low_le a u (by omega) h1 hs.1
      have em : M w w * ((m + 1 : Nat) : Int) = M w w * m + M w w := by push_cast; rw [Int.mul_add, Int.mul_one]
      rw [em]
      omega
/-- a best way waits where waiting costs least -/
theorem Goes.way {T : Nat → Nat → Int} (h : Goes n M e T) : ∀ (k a : Nat), a ≤ n → ∃ m C vs w, Way n M e a m C vs ∧ m ≤ k ∧ w ∈ vs ∧ (∀ v ∈ vs, M w w ≤ M v v) ∧ C + M w w * ((k - m : Nat) : Int) ≤ T k a
  | 0, a, ha => ⟨0, e a, [a], a, .nil a ha, Nat.le_refl _, by simp, fun v hv => by rw [List.mem_singleton.1 hv]; exact Int.le_refl _, by rw [h.zero a ha]; simp⟩
  | k + 1, a, ha => by
    obtain ⟨u, h1, h2, h3⟩ := h.ex k a ha
    obtain ⟨m, C, vs, w, hw, hm, hwm, hmin, hle⟩ := Goes.way h k u h2
    by_cases q : a = u
    · subst q
      have hs := hmin a hw.start.1
      refine ⟨m, C, vs, w, hw, by omega, hwm, hmin, ?_⟩
      have em : M w w * ((k + 1 - m : Nat) : Int) = M w w * ((k - m : Nat) : Int) + M w w := by
        rw [show ((k + 1 - m : Nat) : Int) = ((k - m : Nat) : Int) + 1 by omega, Int.mul_add, Int.mul_one]
      rw [em, h3]
      omega
    · have hau : a < u := by omega
      have key : ∀ w', M w' w' ≤ M w w → M a u + C + M w' w' * ((k + 1 - (m + 1) : Nat) : Int) ≤ T (k + 1) a := by
        intro w' hw'
        rw [show (k + 1 - (m + 1) : Nat) = k - m by omega, h3]
        have : M w' w' * ((k - m : Nat) : Int) ≤ M w w * ((k - m : Nat) : Int) := Int.mul_le_mul_of_nonneg_right hw' (by omega)
        omega
      by_cases q2 : M a a ≤ M w w
      · refine ⟨m + 1, M a u + C, a :: vs, a, .cons a u m C vs hau h2 hw, by omega, by simp, fun v hv => ?_, key a q2⟩
        rcases List.mem_cons.1 hv with rfl | hv
        · exact Int.le_refl _
        · exact Int.le_trans q2 (hmin v hv)
      · refine ⟨m + 1, M a u + C, a :: vs, w, .cons a u m C vs hau h2 hw, by omega, by simp [hwm], fun v hv => ?_, key w (Int.le_refl _)⟩
        rcases List.mem_cons.1 hv with rfl | hv
        · omega
        · exact hmin v hv
/-- no total is below all lines -/
theorem Goes.ge {T : Nat → Nat → Int} (h : Goes n M e T) {B : Nat → Nat → Int} (hB : ∀ w, w ≤ n → Begins n M e w (B w)) (k a : Nat) (ha : a ≤ n) : ∃ w, a ≤ w ∧ w ≤ n ∧ B w a + M w w * (k : Int) ≤ T k a := by
  obtain ⟨m, C, vs, w, hw, hm, hwm, _, hle⟩ := h.way k a ha
  have hs := hw.start.2 w hwm
  have hl := hw.line (hB w hs.2) hwm
  refine ⟨w, hs.1, hs.2, ?_⟩
  have em : M w w * (k : Int) = M w w * ((k - m : Nat) : Int) + M w w * (m : Int) := by
    rw [← Int.mul_add]
    congr 1
    omega
  rw [em]
  omega
/-- from round n on each line is no less than the total -/
theorem Goes.le_up {T : Nat → Nat → Int} (h : Goes n M e T) {w : Nat} {B : Nat → Int} (hB : Begins n M e w B) : ∀ (c a : Nat), n - a = c → w ≤ a → a ≤ n → ∃ j, j ≤ n - a ∧ T j a ≤ B a + M w w * (j : Int) := by
  intro c
  induction c using Nat.strongRecOn with
  | ind c ih =>
    intro a hc hwa ha
    rcases hB.up_ex a hwa ha with q | ⟨u, h1, h2, q⟩
    · exact ⟨0, Nat.zero_le _, by rw [h.zero a ha, q]; simp⟩
    · obtain ⟨j, hj, hT⟩ := ih (n - u) (by omega) u rfl (by omega) h2
      refine ⟨j + 1, by omega, ?_⟩
      have := h.le j a u (by omega) h2
      have em : M w w * ((j + 1 : Nat) : Int) = M w w * (j : Int) + M w w := by push_cast; rw [Int.mul_add, Int.mul_one]
      rw [em, q]
      omega
theorem Goes.le_low {T : Nat → Nat → Int} (h : Goes n M e T) {w : Nat} {B : Nat → Int} (hw : w ≤ n) (hB : Begins n M e w B) : ∀ (c a : Nat), w - a = c → a ≤ w → ∃ J, J ≤ n - a ∧ ∀ k, J ≤ k → T k a ≤ B a + M w w * (k : Int) := by
  intro c
  induction c using Nat.strongRecOn with
  | ind c ih =>
    intro a hc ha
    by_cases q : a = w
    · subst q
      obtain ⟨j, hj, hT⟩ := h.le_up hB (n - a) a rfl (Nat.le_refl _) hw
      refine ⟨j, hj, fun k hk => ?_⟩
      obtain ⟨d, rfl⟩ : ∃ d, k = j + d := ⟨k - j, by omega⟩
      clear hk
      induction d with
      | zero => exact hT
      | succ d ih2 =>
        have := h.le (j + d) a a (Nat.le_refl _) hw
        have em : M a a * ((j + (d + 1) : Nat) : Int) = M a a * ((j + d : Nat) : Int) + M a a := by push_cast; rw [show (j : Int) + (d + 1) = (j + d) + 1 by omega, Int.mul_add, Int.mul_one]
        rw [em]
        have e2 : T (j + (d + 1)) a = T (j + d + 1) a := rfl
        omega
    · have haw : a < w := by omega
      obtain ⟨u, h1, h2, q2⟩ := hB.low_ex a haw
      obtain ⟨J, hJ, hT⟩ := ih (w - u) (by omega) u rfl h2
      refine ⟨J + 1, by omega, fun k hk => ?_⟩
      obtain ⟨k, rfl⟩ : ∃ k', k = k' + 1 := ⟨k - 1, by omega⟩
      have := h.le k a u (by omega) (by omega)
      have := hT k (by omega)
      have em : M w w * ((k + 1 : Nat) : Int) = M w w * (k : Int) + M w w := by push_cast; rw [Int.mul_add, Int.mul_one]
      rw [em, q2]
      omega
theorem Goes.le_line {T : Nat → Nat → Int} (h : Goes n M e T) {w : Nat} {B : Nat → Int} (hw : w ≤ n) (hB : Begins n M e w B) {a k : Nat} (ha : a ≤ w) (hk : n ≤ k) : T k a ≤ B a + M w w * (k : Int) := by
  obtain ⟨J, hJ, hT⟩ := h.le_low hw hB (w - a) a rfl ha
  exact hT k (by omega)
end
end Lw
-- F2
-- F3
-- F4
namespace Lw
open PySem PySem.Spec PyProof.Rows L2
local macro_rules | `(tactic| walk_at "lw e") => `(tactic| (repeat (first | (with_reducible refine Stp.go ?_) | (with_reducible apply Exists.intro) | ((with_reducible refine And.intro ?_ ?_); · (first | (with_reducible exact Evl.ev) | ((fail_if_success (with_reducible refine Gd.keep ?_)); rfl) | ((with_reducible apply mul_r); decide) | ((with_reducible apply mul_l); decide) | ((with_reducible apply div_i); decide) | ((with_reducible apply in_R); decide) | (exact Nat.le_of_ble_eq_true rfl) | (simp [refsOf]; done) | (exact ⟨rfl, rfl, by decide⟩) | (exact ⟨rfl, rfl, rfl⟩) | ((with_reducible apply tgN_o); (focus rfl); (focus (first | assumption | trivial))))) | ((with_reducible apply Sm.vrP); (focus rfl)) | ((with_reducible apply Sm.vrO); (focus rfl)) | ((with_reducible apply Sm.augI); (focus rfl)) | ((with_reducible refine Sm.dicE ?_ ?_); (focus decide)) | ((with_reducible apply Sm.augS); (focus rfl)) | (with_reducible refine iteTT ?_) | (with_reducible refine iteT ?_) | (with_reducible refine iteF ?_) | ((with_reducible refine iteB1 ?_ ?_); (focus rfl)) | ((with_reducible refine iteB0 ?_ ?_); (focus rfl)))))
local macro_rules | `(tactic| walk_at "lw n") => `(tactic| (try dsimp only [ent, List.map, Nat.reduceAdd, Nat.reduceSub, List.length_cons, List.length_nil, List.replicate_succ, List.replicate_zero, List.cons_append, List.nil_append, putBack, setOwn, List.getElem?_cons_zero, List.getElem?_cons_succ, List.set_cons_zero, List.set_cons_succ, Sm.nf]))
local macro_rules | `(tactic| walk_at "lw v") => `(tactic| (try simp only [pb1, pb2, pb3, pb4, pb5, pb6]))
/-! ### the least of a few straight lines (step, begin) -/
abbrev Ln := Int × Int
def lAt (l : Ln) (k : Int) : Int := l.2 + l.1 * k
def lowL (ls : List Ln) (k : Int) : Int := fmin (ls.map fun l => lAt l k)
theorem lAt_succ (l : Ln) (k : Int) : lAt l (k + 1) = lAt l k + l.1 := by unfold lAt; rw [Int.mul_add, Int.mul_one]; omega
theorem low_le {ls : List Ln} {l : Ln} (h : l ∈ ls) (k : Int) : lowL ls k ≤ lAt l k := fmin_le (List.mem_map.2 ⟨l, h, rfl⟩)
theorem low_ex {ls : List Ln} (h : ls ≠ []) (k : Int) : ∃ l ∈ ls, lowL ls k = lAt l k := by
  have := fmin_mem (zs := ls.map fun l => lAt l k) (by simpa using h)
  obtain ⟨l, hm, e⟩ := List.mem_map.1 this
  exact ⟨l, hm, e.symm⟩
/-- steps fall -/
theorem low_bend {ls : List Ln} (h : ls ≠ []) (k : Int) : lowL ls (k + 2) - lowL ls (k + 1) ≤ lowL ls (k + 1) - lowL ls k := by
  obtain ⟨l, hm, e⟩ := low_ex h (k + 1)
  have h1 := low_le hm k
  have h2 := low_le hm (k + 2)
  have e1 := lAt_succ l k
  have e2 := lAt_succ l (k + 1)
  rw [show k + 1 + 1 = k + 2 by omega] at e2
  omega
theorem low_fall {ls : List Ln} (h : ls ≠ []) (k : Int) : ∀ d : Nat, lowL ls (k + d + 1) - lowL ls (k + d) ≤ lowL ls (k + 1) - lowL ls k
  | 0 => by simp
  | d + 1 => by
    have ih := low_fall h k d
    have := low_bend h (k + d)
    rw [show k + ((d + 1 : Nat) : Int) + 1 = k + d + 2 by omega, show k + ((d + 1 : Nat) : Int) = k + d + 1 by omega]
    omega
theorem low_under {ls : List Ln} (h : ls ≠ []) (k : Int) : ∀ d : Nat, lowL ls (k + d) ≤ lowL ls k + (lowL ls (k + 1) - lowL ls k) * d
  | 0 => by simp
  | d + 1 => by
    have ih := low_under h k d
    have := low_fall h k d
    rw [show k + ((d + 1 : Nat) : Int) = k + d + 1 by omega]
    have e : (lowL ls (k + 1) - lowL ls k) * ((d + 1 : Nat) : Int) = (lowL ls (k + 1) - lowL ls k) * d + (lowL ls (k + 1) - lowL ls k) := by push_cast; rw [Int.mul_add, Int.mul_one]
    omega
/-- a row (first, step, begin) -/
abbrev Rw := Int × Int × Int
def rowL (ls : List Ln) (first : Int) : Rw := (first, lowL ls (first + 1) - lowL ls first, lowL ls first - (lowL ls (first + 1) - lowL ls first) * first)
def rAt (r : Rw) (k : Int) : Int := r.2.2 + r.2.1 * k
theorem rAt_succ (r : Rw) (k : Int) : rAt r (k + 1) = rAt r k + r.2.1 := by unfold rAt; rw [Int.mul_add, Int.mul_one]; omega
theorem rAt_add (r : Rw) (k : Int) (d : Int) : rAt r (k + d) = rAt r k + r.2.1 * d := by unfold rAt; rw [Int.mul_add]; omega
theorem row_first (ls : List Ln) (f : Int) : rAt (rowL ls f) f = lowL ls f := by unfold rAt rowL; simp only; omega
theorem row_next (ls : List Ln) (f : Int) : rAt (rowL ls f) (f + 1) = lowL ls (f + 1) := by rw [rAt_succ, row_first]; unfold rowL; simp only; omega
theorem row_up {ls : List Ln} (h : ls ≠ []) (f : Int) {k : Int} (hk : f ≤ k) : lowL ls k ≤ rAt (rowL ls f) k := by
  obtain ⟨d, rfl⟩ : ∃ d : Nat, k = f + d := ⟨(k - f).toNat, by omega⟩
  rw [rAt_add, row_first]
  exact low_under h f d
/-- the lines that fall below the row -/
def lessL (ls : List Ln) (s : Int) : List Ln := ls.filter fun l => decide (l.1 < s)
def bendAt (r : Rw) (l : Ln) : Int := (l.2 - r.2.2) / (r.2.1 - l.1)
def bendL (ls : List Ln) (r : Rw) : Option Int := match lessL ls r.2.1 with
  | [] => none
  | x :: xs => some (fmin ((x :: xs).map (bendAt r)))
theorem mem_less {ls : List Ln} {s : Int} {l : Ln} : l ∈ lessL ls s ↔ l ∈ ls ∧ l.1 < s := by
  unfold lessL
  rw [List.mem_filter, decide_eq_true_eq]
theorem bend_iff {r : Rw} {l : Ln} (h : l.1 < r.2.1) (k : Int) : k ≤ bendAt r l ↔ rAt r k ≤ lAt l k := by
  unfold bendAt rAt lAt
  rw [Int.le_ediv_iff_mul_le (by omega)]
  have : k * (r.2.1 - l.1) = r.2.1 * k - l.1 * k := by rw [Int.mul_sub, Int.mul_comm k, Int.mul_comm k]
  rw [this]
  omega
theorem row_on {ls : List Ln} (h : ls ≠ []) {f k : Int} (hk : f ≤ k) (hb : ∀ b, bendL ls (rowL ls f) = some b → k ≤ b) : lowL ls k = rAt (rowL ls f) k := by
  refine Int.le_antisymm (row_up h f hk) ?_
  obtain ⟨l, hm, e⟩ := low_ex h k
  rw [e]
  by_cases q : l.1 < (rowL ls f).2.1
  · refine (bend_iff q k).1 ?_
    have hml := mem_less.2 ⟨hm, q⟩
    unfold bendL at hb
    cases hl : lessL ls (rowL ls f).2.1 with
    | nil => rw [hl] at hml; cases hml
    | cons x xs =>
      rw [hl] at hb hml
      have := hb _ rfl
      exact Int.le_trans this (fmin_le (List.mem_map.2 ⟨l, hml, rfl⟩))
  · obtain ⟨d, rfl⟩ : ∃ d : Nat, k = f + d := ⟨(k - f).toNat, by omega⟩
    have h1 := low_le hm f
    rw [rAt_add, row_first]
    have e2 : lAt l (f + d) = lAt l f + l.1 * d := by unfold lAt; rw [Int.mul_add]; omega
    rw [e2]
    have : (rowL ls f).2.1 * (d : Int) ≤ l.1 * d := Int.mul_le_mul_of_nonneg_right (by omega) (by omega)
    omega
theorem bend_facts {ls : List Ln} (h : ls ≠ []) {f b : Int} (hb : bendL ls (rowL ls f) = some b) : f + 1 ≤ b ∧ lowL ls b = rAt (rowL ls f) b ∧ lowL ls (b + 1) < rAt (rowL ls f) (b + 1) ∧ (rowL ls b).2.1 < (rowL ls f).2.1 := by
  have hb0 := hb
  unfold bendL at hb
  cases hl : lessL ls (rowL ls f).2.1 with
  | nil => rw [hl] at hb; cases hb
  | cons x xs =>
    rw [hl] at hb
    have hb := Option.some.inj hb
    have hmem := fmin_mem (zs := (x :: xs).map (bendAt (rowL ls f))) (by simp)
    rw [hb] at hmem
    obtain ⟨l, hm, el⟩ := List.mem_map.1 hmem
    rw [← hl] at hm
    obtain ⟨hm1, hm2⟩ := mem_less.1 hm
    have h1 : f + 1 ≤ b := by
      rw [← el]
      refine (bend_iff hm2 _).2 ?_
      rw [row_next]
      exact low_le hm1 _
    have h2 : lowL ls b = rAt (rowL ls f) b := row_on h (by omega) fun b' e => by rw [hb0] at e; cases e; exact Int.le_refl _
    have h3 : lowL ls (b + 1) < rAt (rowL ls f) (b + 1) := by
      have : ¬ b + 1 ≤ bendAt (rowL ls f) l := by rw [el]; omega
      rw [bend_iff hm2] at this
      have := low_le hm1 (b + 1)
      omega
    refine ⟨h1, h2, h3, ?_⟩
    rw [rAt_succ] at h3
    show lowL ls (b + 1) - lowL ls b < _
    omega
theorem no_bend {ls : List Ln} {r : Rw} (hb : bendL ls r = none) : ∀ l ∈ ls, r.2.1 ≤ l.1 := by
  intro l hm
  unfold bendL at hb
  cases hl : lessL ls r.2.1 with
  | nil =>
    by_cases q : l.1 < r.2.1
    · have := mem_less.2 ⟨hm, q⟩
      rw [hl] at this
      cases this
    · omega
  | cons x xs => rw [hl] at hb; cases hb
/-! ### how many rows -/
def cntL (ls : List Ln) (s : Int) : Nat := (lessL ls s).length
def Tang (ls : List Ln) (r : Rw) : Prop := ∃ l ∈ ls, l.1 = r.2.1 ∧ lAt l (r.1 + 1) = lowL ls (r.1 + 1)
open Classical in
noncomputable def muL (ls : List Ln) (r : Rw) : Nat := 2 * cntL ls r.2.1 + if Tang ls r then 1 else 0
theorem cnt_mono {ls : List Ln} {s t : Int} (h : s ≤ t) : cntL ls s ≤ cntL ls t := by
  unfold cntL lessL
  rw [← List.countP_eq_length_filter, ← List.countP_eq_length_filter]
  apply List.countP_mono_left
  intro l _ q
  have := of_decide_eq_true q
  exact decide_eq_true (by omega)
theorem cnt_less {ls : List Ln} {s t : Int} {l : Ln} (hm : l ∈ ls) (h : s ≤ l.1) (h2 : l.1 < t) : cntL ls s + 1 ≤ cntL ls t := by
  unfold cntL lessL
  rw [← List.countP_eq_length_filter, ← List.countP_eq_length_filter]
  induction ls with
  | nil => cases hm
  | cons x ls ih =>
    rw [List.countP_cons, List.countP_cons]
    have mono : ls.countP (fun l => decide (l.1 < s)) ≤ ls.countP (fun l => decide (l.1 < t)) := List.countP_mono_left fun l _ q => by
      have := of_decide_eq_true q
      exact decide_eq_true (by omega)
    rcases List.mem_cons.1 hm with rfl | hm
    · rw [if_neg (by rw [decide_eq_false (by omega)]; decide), if_pos (decide_eq_true h2)]
      omega
    · have := ih hm
      by_cases q : x.1 < s
      · rw [if_pos (decide_eq_true q), if_pos (decide_eq_true (by omega))]; omega
      · rw [if_neg (by rw [decide_eq_false q]; decide)]
        split <;> omega
theorem slope_le {ls : List Ln} {l : Ln} (hm : l ∈ ls) {k : Int} (h : lAt l (k + 1) = lowL ls (k + 1)) : l.1 ≤ (rowL ls k).2.1 := by
  have := low_le hm k
  rw [lAt_succ] at h
  show l.1 ≤ lowL ls (k + 1) - lowL ls k
  omega
theorem slope_ge {ls : List Ln} {l : Ln} (hm : l ∈ ls) {k : Int} (h : lAt l k = lowL ls k) : (rowL ls k).2.1 ≤ l.1 := by
  have := low_le hm (k + 1)
  rw [lAt_succ] at this
  show lowL ls (k + 1) - lowL ls k ≤ l.1
  omega
theorem mu_bend {ls : List Ln} (h : ls ≠ []) {f b : Int} (hb : bendL ls (rowL ls f) = some b) : muL ls (rowL ls b) < muL ls (rowL ls f) := by
  classical
  obtain ⟨h1, h2, h3, h4⟩ := bend_facts h hb
  have cm := cnt_mono (ls := ls) (Int.le_of_lt h4)
  unfold muL
  by_cases t' : Tang ls (rowL ls b)
  · obtain ⟨l, hm, e1, e2⟩ := t'
    have := cnt_less hm (s := (rowL ls b).2.1) (t := (rowL ls f).2.1) (by omega) (by omega)
    rw [if_pos ⟨l, hm, e1, e2⟩]
    split <;> omega
  · rw [if_neg t']
    by_cases t : Tang ls (rowL ls f)
    · rw [if_pos t]; omega
    · rw [if_neg t]
      obtain ⟨l, hm, e⟩ := low_ex h (f + 1)
      have q1 := slope_le hm e.symm
      have q2 : l.1 ≠ (rowL ls f).2.1 := fun q => t ⟨l, hm, q, e.symm⟩
      have q3 : (rowL ls b).2.1 ≤ l.1 := by
        obtain ⟨d, rfl⟩ : ∃ d : Nat, b = f + 1 + d := ⟨(b - (f + 1)).toNat, by omega⟩
        have k1 := low_fall h (f + 1) d
        have k2 := slope_ge hm e.symm
        show lowL ls (f + 1 + d + 1) - lowL ls (f + 1 + d) ≤ l.1
        have k2 : lowL ls (f + 1 + 1) - lowL ls (f + 1) ≤ l.1 := k2
        omega
      have := cnt_less hm q3 (t := (rowL ls f).2.1) (by omega)
      omega
theorem mu_first {ls : List Ln} (h : ls ≠ []) (f : Int) : muL ls (rowL ls f) ≤ 2 * ls.length - 1 := by
  classical
  obtain ⟨l, hm, e⟩ := low_ex h f
  have q := slope_ge hm e.symm
  have : cntL ls (rowL ls f).2.1 + 1 ≤ ls.length := by
    have := cnt_less (ls := ls) (s := (rowL ls f).2.1) (t := l.1 + 1) hm q (by omega)
    exact Nat.le_trans this (List.length_filter_le _ _)
  unfold muL
  split <;> omega
theorem mu_last {ls : List Ln} (h : ls ≠ []) {f : Int} (hb : bendL ls (rowL ls f) = none) : muL ls (rowL ls f) = 1 ∧ ∃ l ∈ ls, l.1 = (rowL ls f).2.1 := by
  classical
  have nb := no_bend hb
  obtain ⟨l, hm, e⟩ := low_ex h (f + 1)
  have q1 := slope_le hm e.symm
  have q2 := nb l hm
  have c0 : cntL ls (rowL ls f).2.1 = 0 := by
    unfold cntL
    cases hl : lessL ls (rowL ls f).2.1 with
    | nil => rfl
    | cons x xs =>
      have hx := mem_less.1 (by rw [hl]; simp : x ∈ lessL ls (rowL ls f).2.1)
      have := nb x hx.1
      omega
  refine ⟨?_, l, hm, by omega⟩
  unfold muL
  rw [c0, if_pos ⟨l, hm, by omega, e.symm⟩]
/-! ### the rows -/
/-- rows from a first number of rounds on -/
inductive RowsL (ls : List Ln) : Int → List Rw → Prop
  | last (f : Int) : bendL ls (rowL ls f) = none → RowsL ls f [rowL ls f]
  | next (f b : Int) (rs : List Rw) : bendL ls (rowL ls f) = some b → RowsL ls b rs → RowsL ls f (rowL ls f :: rs)
theorem RowsL.len {ls : List Ln} (h : ls ≠ []) {f : Int} {rs : List Rw} (hr : RowsL ls f rs) : rs.length ≤ muL ls (rowL ls f) := by
  induction hr with
  | last f hb => rw [(mu_last h hb).1]; exact Nat.le_refl _
  | next f b rs hb _ ih => have := mu_bend h hb; rw [List.length_cons]; omega
theorem RowsL.head {ls : List Ln} {f : Int} {rs : List Rw} (hr : RowsL ls f rs) : ∃ r, rs = rowL ls f :: r := by
  cases hr with
  | last f hb => exact ⟨_, rfl⟩
  | next f b rs hb _ => exact ⟨_, rfl⟩
end Lw
-- F2
-- F3
-- F4
namespace Lw
open PySem PySem.Spec PyProof.Rows L2
local macro_rules | `(tactic| walk_at "lw e") => `(tactic| (repeat (first | (with_reducible refine Stp.go ?_) | (with_reducible apply Exists.intro) | ((with_reducible refine And.intro ?_ ?_); · (first | (with_reducible exact Evl.ev) | ((fail_if_success (with_reducible refine Gd.keep ?_)); rfl) | ((with_reducible apply mul_r); decide) | ((with_reducible apply mul_l); decide) | ((with_reducible apply div_i); decide) | ((with_reducible apply in_R); decide) | (exact Nat.le_of_ble_eq_true rfl) | (simp [refsOf]; done) | (exact ⟨rfl, rfl, by decide⟩) | (exact ⟨rfl, rfl, rfl⟩) | ((with_reducible apply tgN_o); (focus rfl); (focus (first | assumption | trivial))))) | ((with_reducible apply Sm.vrP); (focus rfl)) | ((with_reducible apply Sm.vrO); (focus rfl)) | ((with_reducible apply Sm.augI); (focus rfl)) | ((with_reducible refine Sm.dicE ?_ ?_); (focus decide)) | ((with_reducible apply Sm.augS); (focus rfl)) | (with_reducible refine iteTT ?_) | (with_reducible refine iteT ?_) | (with_reducible refine iteF ?_) | ((with_reducible refine iteB1 ?_ ?_); (focus rfl)) | ((with_reducible refine iteB0 ?_ ?_); (focus rfl)))))
local macro_rules | `(tactic| walk_at "lw n") => `(tactic| (try dsimp only [ent, List.map, Nat.reduceAdd, Nat.reduceSub, List.length_cons, List.length_nil, List.replicate_succ, List.replicate_zero, List.cons_append, List.nil_append, putBack, setOwn, List.getElem?_cons_zero, List.getElem?_cons_succ, List.set_cons_zero, List.set_cons_succ, Sm.nf]))
local macro_rules | `(tactic| walk_at "lw v") => `(tactic| (try simp only [pb1, pb2, pb3, pb4, pb5, pb6]))
/-! ### lowest, row_at, bend_of, rows_from -/
def StB (ls : List Ln) : Prop := ∀ l ∈ ls, -9000000000000000000 ≤ l.1 ∧ l.1 ≤ 9000000000000000000
def lnAt (k : Int) : D → D
  | .tuple [.int s, .int b] => .int (b + s * k)
  | d => d
theorem ln_map (k : Int) (ls : List Ln) : (ls.map pairD).map (lnAt k) = (ls.map fun l => lAt l k).map PyData.int := by
  rw [List.map_map, List.map_map]
  exact List.map_congr_left fun l _ => rfl
theorem lowest_ok {ls : List Ln} (h : ls ≠ []) (hl : ls.length ≤ 1000) (hb : StB ls) (k : Int) : wpf m_p_lowest [.pure (.list (ls.map pairD)), .pure (.int k)] (ValQ fun d => d = .int (lowL ls k)) := by
  have hsl : sizeLine = 16777216 := rfl
  refine Sm.run ?_
  unfold g_p_lowest
  walk_at "lw n"
  walk_at "lw e"
  refine Sm.lcPure (lnAt k) (by rw [List.length_map]; omega) ?_ ?_
  · intro d hd
    obtain ⟨l, hm, rfl⟩ := List.mem_map.1 hd
    have := hb l hm
    refine ⟨_, tgT2_o rfl trivial rfl trivial, ?_⟩
    walk_at "lw n"
    walk_at "lw e"
    refine ⟨mul_l (by omega), ?_⟩
    walk_at "lw e"
    first | rfl | exact ⟨rfl, rfl⟩ | exact ⟨_, rfl, rfl, rfl⟩
  · rw [ln_map]
    refine ⟨_, _, rfl, fmin_ok (by simpa using h), ?_⟩
    walk_at "lw e"
    exact ⟨_, rfl, rfl⟩
def rwT (r : Rw) : D := .tuple [.int r.1, .int r.2.1, .int r.2.2]
theorem row_sb {ls : List Ln} (h : ls ≠ []) (hb : StB ls) (f : Int) : -9000000000000000000 ≤ (rowL ls f).2.1 ∧ (rowL ls f).2.1 ≤ 9000000000000000000 := by
  obtain ⟨l, hm, e⟩ := low_ex h f
  obtain ⟨l2, hm2, e2⟩ := low_ex h (f + 1)
  have h1 := slope_ge hm e.symm
  have h2 := slope_le hm2 e2.symm
  have b1 := hb l hm
  have b2 := hb l2 hm2
  omega
theorem row_at_ok {ls : List Ln} (h : ls ≠ []) (hl : ls.length ≤ 1000) (hb : StB ls) (f : Int) : wpf m_p_row_at [.pure (.int f), .pure (.list (ls.map pairD))] (ValQ fun d => d = rwT (rowL ls f)) := by
  have hsb := row_sb h hb f
  have hsb2 : (rowL ls f).2.1 = lowL ls (f + 1) - lowL ls f := rfl
  rw [hsb2] at hsb
  refine Sm.run ?_
  unfold g_p_row_at
  walk_at "lw n"
  walk_at "lw e"
  (refine Sm.fmono (lowest_ok h hl hb f) fun r o h => ?_; obtain ⟨d, rfl, rfl⟩ := h; refine ⟨nref, ?_⟩; walk_at "lw v"; walk_at "lw e")
  (refine Sm.fmono (lowest_ok h hl hb (f + 1)) fun r o h => ?_; obtain ⟨d, rfl, rfl⟩ := h; refine ⟨nref, ?_⟩; walk_at "lw v"; walk_at "lw e")
  refine ⟨mul_l (by omega), ?_⟩
  walk_at "lw e"
  exact ⟨_, rfl, rfl⟩
theorem minD_ints {zs : List Int} : gMinD (.list (zs.map PyData.int)) .none = some (.pure (match zs with | [] => .none | x :: xs => .int (fmin (x :: xs)))) := by
  have h1 : alikeB (zs.map PyData.int) = true := by
    unfold alikeB
    rw [Bool.and_eq_true, List.all_eq_true, List.all_eq_true]
    constructor
    · intro x hx
      rw [List.all_eq_true]
      intro y hy
      obtain ⟨i, _, rfl⟩ := List.mem_map.1 hx
      obtain ⟨j, _, rfl⟩ := List.mem_map.1 hy
      unfold PySem.W.alike
      rfl
    · intro x hx
      obtain ⟨i, _, rfl⟩ := List.mem_map.1 hx
      rfl
  have h2 := ints_depth zs
  unfold gMinD
  simp only
  rw [if_pos ⟨h1, by omega⟩]
  cases zs with
  | nil => rfl
  | cons x xs =>
    show some (R.pure (PySem.W.minD (.int x) (xs.map PyData.int))) = _
    rw [PySem.W.minD_ints]
    rfl
def lsP (s : Int) : D → Bool
  | .tuple [.int l, .int _] => decide (l < s)
  | _ => false
def bnD (r : Rw) : D → D
  | .tuple [.int l, .int b] => .int ((b - r.2.2) / (r.2.1 - l))
  | d => d
theorem bn_map (r : Rw) (ls : List Ln) : ((ls.map pairD).filter (lsP r.2.1)).map (bnD r) = ((lessL ls r.2.1).map (bendAt r)).map PyData.int := by
  unfold lessL
  rw [List.filter_map, List.map_map, List.map_map]
  exact List.map_congr_left fun l _ => rfl
def oI : Option Int → D
  | none => .none
  | some i => .int i
theorem bend_of_ok {ls : List Ln} {r : Rw} (hl : ls.length ≤ 1000) (hb : StB ls) (hr : -9000000000000000000 ≤ r.2.1 ∧ r.2.1 ≤ 9000000000000000000) : wpf m_p_bend_of [.pure (rwT r), .pure (.list (ls.map pairD))] (ValQ fun d => d = oI (bendL ls r)) := by
  have hsl : sizeLine = 16777216 := rfl
  refine Sm.run ?_
  unfold g_p_bend_of rwT
  walk_at "lw n"
  walk_at "lw e"
  refine Sm.lcFil (lsP r.2.1) (bnD r) (by rw [List.length_map]; omega) ?_ ?_
  · intro d hd
    obtain ⟨l, hm, rfl⟩ := List.mem_map.1 hd
    have := hb l hm
    refine ⟨_, tgT2_o rfl trivial rfl trivial, ?_⟩
    walk_at "lw n"
    walk_at "lw e"
    intro hp
    have hp : decide (l.1 < r.2.1) = true := hp
    have hp := of_decide_eq_true hp
    walk_at "lw e"
    refine ⟨div_i (by omega), ?_⟩
    walk_at "lw e"
    first | rfl | exact ⟨rfl, rfl⟩ | exact ⟨_, rfl, rfl, rfl⟩
  · rw [bn_map]
    walk_at "lw e"
    refine ⟨minD_ints, ?_⟩
    walk_at "lw e"
    refine ⟨_, rfl, ?_⟩
    unfold bendL
    cases lessL ls r.2.1 with
    | nil => rfl
    | cons x xs => rfl
def INv (ls : List Ln) (first : Int) (m : Nat) (ς : En) : Prop := ∃ (pre : List Rw) (f : Int), (m = muL ls (rowL ls f)) ∧ (∀ rs, RowsL ls f rs → RowsL ls first (pre ++ rs)) ∧ pre.length + muL ls (rowL ls f) ≤ 2 * ls.length ∧
  ς = [some (.pure (.int first)), some (.pure (.list (ls.map pairD))), some (.own false ((pre ++ [rowL ls f]).map rwT)), some (.pure (oI (bendL ls (rowL ls f))))]
theorem last_list (pre : List D) (x : D) : gIx (.list (pre ++ [x])) (.int (-1)) = some (.pure x) := by
  have e1 : atI (pre ++ [x]) (-1) = some x := by
    unfold atI ixN
    rw [List.length_append, List.length_singleton, if_neg (by decide), if_pos (by omega)]
    show (pre ++ [x])[(_ : Int).toNat]? = _
    have e2 : (-1 + ((pre.length + 1 : Nat) : Int)).toNat = pre.length := by omega
    rw [e2, List.getElem?_append_right (Nat.le_refl _), Nat.sub_self]
    rfl
  show (atI (pre ++ [x]) (-1)).map R.pure = _
  rw [e1]; rfl
theorem last_rw (pre : List Rw) (r : Rw) : gIx (.list ((pre ++ [r]).map rwT)) (.int (-1)) = some (.pure (rwT r)) := by
  rw [List.map_append]
  exact last_list _ _
theorem rows_from_ok {ls : List Ln} (h : ls ≠ []) (hl : ls.length ≤ 1000) (hb : StB ls) (f : Int) : wpf m_p_rows_from [.pure (.int f), .pure (.list (ls.map pairD))] (FreshQ fun x => ∃ rs, RowsL ls f rs ∧ x = rs.map rwT) := by
  have hsl : sizeLine = 16777216 := rfl
  have mf := mu_first h f
  refine Sm.run ?_
  unfold g_p_rows_from
  walk_at "lw n"
  walk_at "lw e"
  (refine Sm.fmono (row_at_ok h hl hb f) fun r o h => ?_; obtain ⟨d, rfl, rfl⟩ := h; refine ⟨nref, ?_⟩; walk_at "lw v"; walk_at "lw e")
  walk_at "lw n"
  walk_at "lw e"
  (refine Sm.fmono (bend_of_ok (r := rowL ls f) hl hb (row_sb h hb f)) fun r o h => ?_; obtain ⟨d, rfl, rfl⟩ := h; refine ⟨nref, ?_⟩; walk_at "lw v"; walk_at "lw e")
  walk_at "lw n"
  refine Sm.whileInv (INv ls f) (m0 := muL ls (rowL ls f)) ⟨[], f, rfl, fun rs h => h, by simp; omega, rfl⟩ (by omega) ?_
  rintro m ς ⟨pre, g, rfl, hpre, hlen, rfl⟩
  cases hbd : bendL ls (rowL ls g) with
  | none =>
    walk_at "lw e"
    refine .inl ⟨_, rfl, ?_⟩
    exact ⟨fun i z => by (cases z), _, rfl, _, hpre _ (.last g hbd), rfl⟩
  | some b =>
    have mb := mu_bend h hbd
    walk_at "lw e"
    (refine Sm.fmono (row_at_ok h hl hb b) fun r o h => ?_; obtain ⟨d, rfl, rfl⟩ := h; refine ⟨nref, ?_⟩; walk_at "lw v"; walk_at "lw e")
    have happ : hApp (List.map rwT (pre ++ [rowL ls g])) [rwT (rowL ls b)] = some (.none, ((pre ++ [rowL ls g]) ++ [rowL ls b]).map rwT) := by
      rw [app_ok (by simp; omega), List.map_append (l₂ := [rowL ls b])]
      rfl
    refine ⟨happ, ?_⟩
    walk_at "lw n"
    walk_at "lw e"
    refine ⟨last_rw _ _, ?_⟩
    walk_at "lw e"
    (refine Sm.fmono (bend_of_ok (r := rowL ls b) hl hb (row_sb h hb b)) fun r o h => ?_; obtain ⟨d, rfl, rfl⟩ := h; refine ⟨nref, ?_⟩; walk_at "lw v"; walk_at "lw e")
    walk_at "lw n"
    refine ⟨_, mb, pre ++ [rowL ls g], b, rfl, fun rs hr => ?_, ?_, rfl⟩
    · rw [List.append_assoc]
      exact hpre _ (.next g b rs hbd hr)
    · rw [List.length_append, List.length_singleton]
      omega
end Lw
-- F2
-- F3
-- F4
namespace Lw
open PySem PySem.Spec PyProof.Rows L2
local macro_rules | `(tactic| walk_at "lw e") => `(tactic| (repeat (first | (with_reducible refine Stp.go ?_) | (with_reducible apply Exists.intro) | ((with_reducible refine And.intro ?_ ?_); · (first | (with_reducible exact Evl.ev) | ((fail_if_success (with_reducible refine Gd.keep ?_)); rfl) | ((with_reducible apply mul_r); decide) | ((with_reducible apply mul_l); decide) | ((with_reducible apply div_i); decide) | ((with_reducible apply in_R); decide) | (exact Nat.le_of_ble_eq_true rfl) | (simp [refsOf]; done) | (exact ⟨rfl, rfl, by decide⟩) | (exact ⟨rfl, rfl, rfl⟩) | ((with_reducible apply tgN_o); (focus rfl); (focus (first | assumption | trivial))))) | ((with_reducible apply Sm.vrP); (focus rfl)) | ((with_reducible apply Sm.vrO); (focus rfl)) | ((with_reducible apply Sm.augI); (focus rfl)) | ((with_reducible refine Sm.dicE ?_ ?_); (focus decide)) | ((with_reducible apply Sm.augS); (focus rfl)) | (with_reducible refine iteTT ?_) | (with_reducible refine iteT ?_) | (with_reducible refine iteF ?_) | ((with_reducible refine iteB1 ?_ ?_); (focus rfl)) | ((with_reducible refine iteB0 ?_ ?_); (focus rfl)))))
local macro_rules | `(tactic| walk_at "lw n") => `(tactic| (try dsimp only [ent, List.map, Nat.reduceAdd, Nat.reduceSub, List.length_cons, List.length_nil, List.replicate_succ, List.replicate_zero, List.cons_append, List.nil_append, putBack, setOwn, List.getElem?_cons_zero, List.getElem?_cons_succ, List.set_cons_zero, List.set_cons_succ, Sm.nf]))
local macro_rules | `(tactic| walk_at "lw v") => `(tactic| (try simp only [pb1, pb2, pb3, pb4, pb5, pb6]))
/-! ### rules for lists of lists and dicts of one's own -/
def wpn {β : Type} (g : En → β → Option (En × β)) (ς : En) (b : β) (Q : En → β → Prop) : Prop := ∃ ς' b', g ς b = some (ς', b') ∧ Q ς' b'
theorem Sm.nfor {fi : M (List D)} {t : Tg} {gb : MN} {ς : En} {dss : List (List D)} {Q : En → List (List D) → Prop} (h : wp fi ς fun ds ς1 => wpn (nloop t gb ds) ς1 dss Q) : wpn (Lw.nfor fi t gb) ς dss Q := by
  obtain ⟨ds, ς1, e, ς2, d2, e2, q⟩ := h
  exact ⟨ς2, d2, by unfold Lw.nfor; rw [e]; exact e2, q⟩
theorem Sm.dfor {fi : M (List D)} {t : Tg} {gb : MDi} {ς : En} {dss : KI} {Q : En → KI → Prop} (h : wp fi ς fun ds ς1 => wpn (dloop t gb ds) ς1 dss Q) : wpn (Lw.dfor fi t gb) ς dss Q := by
  obtain ⟨ds, ς1, e, ς2, d2, e2, q⟩ := h
  exact ⟨ς2, d2, by unfold Lw.dfor; rw [e]; exact e2, q⟩
theorem Sm.nloopInv {t : Tg} {gb : MN} {Q : En → List (List D) → Prop} : ∀ (ds : List D) (I : Nat → En → List (List D) → Prop) {ς : En} {dss : List (List D)}, I 0 ς dss →
    (∀ (i : Nat) d ς dss, ds[i]? = some d → I i ς dss → ∃ ς1, t d ς = some ς1 ∧ wpn gb ς1 dss (I (i + 1))) → (∀ ς dss, I ds.length ς dss → Q ς dss) → wpn (nloop t gb ds) ς dss Q
  | [], I, ς, dss, h0, hs, hd => ⟨ς, dss, rfl, hd _ _ h0⟩
  | d :: ds, I, ς, dss, h0, hs, hd => by
    obtain ⟨ς1, e1, ς2, d2, e2, q⟩ := hs 0 d ς dss rfl h0
    obtain ⟨ς3, d3, e3, q3⟩ := nloopInv ds (fun i => I (i + 1)) (ς := ς2) (dss := d2) q (fun i d' ς dss h k => hs (i + 1) d' ς dss h k) hd
    exact ⟨ς3, d3, by rw [nloop]; simp only [e1, e2]; exact e3, q3⟩
theorem Sm.dloopInv {t : Tg} {gb : MDi} {Q : En → KI → Prop} : ∀ (ds : List D) (I : Nat → En → KI → Prop) {ς : En} {dss : KI}, I 0 ς dss →
    (∀ (i : Nat) d ς dss, ds[i]? = some d → I i ς dss → ∃ ς1, t d ς = some ς1 ∧ wpn gb ς1 dss (I (i + 1))) → (∀ ς dss, I ds.length ς dss → Q ς dss) → wpn (dloop t gb ds) ς dss Q
  | [], I, ς, dss, h0, hs, hd => ⟨ς, dss, rfl, hd _ _ h0⟩
  | d :: ds, I, ς, dss, h0, hs, hd => by
    obtain ⟨ς1, e1, ς2, d2, e2, q⟩ := hs 0 d ς dss rfl h0
    obtain ⟨ς3, d3, e3, q3⟩ := dloopInv ds (fun i => I (i + 1)) (ς := ς2) (dss := d2) q (fun i d' ς dss h k => hs (i + 1) d' ς dss h k) hd
    exact ⟨ς3, d3, by rw [dloop]; simp only [e1, e2]; exact e3, q3⟩
theorem Sm.napp {fi fx : M R} {ς : En} {dss : List (List D)} {Q : En → List (List D) → Prop} (h : wp fi ς fun r ς1 => ∃ j, rdD r ς1 = some (.int j) ∧ wp fx ς1 fun r2 ς2 => ∃ x ς3, toD r2 ς2 = some (x, ς3) ∧ ∃ k ds, ixN dss.length j = some k ∧ dss[k]? = some ds ∧ ds.length < sizeLine ∧ Q ς3 (dss.set k (ds ++ [x]))) : wpn (Lw.napp fi fx) ς dss Q := by
  have hx : wp (Lw.ixI fi) ς fun j ς1 => wp fx ς1 fun r2 ς2 => ∃ x ς3, toD r2 ς2 = some (x, ς3) ∧ ∃ k ds, ixN dss.length j = some k ∧ dss[k]? = some ds ∧ ds.length < sizeLine ∧ Q ς3 (dss.set k (ds ++ [x])) := by
    refine Sm.bd (Sm.sub (Sm.mono h fun r ς1 h => ?_))
    obtain ⟨j, e1, q⟩ := h
    exact Sm.bd (Sm.rd (by rw [Sm.rd_nf]; exact e1) (Sm.lift rfl q))
  obtain ⟨j, ς1, e1, r2, ς2, e2, x, ς3, e3, k, ds, e4, e5, hl, q⟩ := hx
  have e6 : Lw.esc fx ς1 = some (x, ς3) := by unfold Lw.esc Lw.bd; rw [e2]; exact e3
  exact ⟨_, _, by unfold Lw.napp; simp only [e1, e6, e4, e5]; exact if_pos hl, q⟩
theorem Sm.nestS {i : Nat} {fl : M (List D)} {vs : List Nat} {t0 : Tg} {gN : MN} {ς : En} {Q : Out → Prop} (h : wp fl ς fun ds ς1 => freeAll ς1 vs = true ∧ lcQ vs t0 (Lw.ret true) (Lw.lstE Lw.argN) ds (wipeE ς1 vs) fun _ ς2 => free ς2 i = true ∧ wpn gN (ς2.set i none) (List.replicate ds.length []) fun ς3 dss => Q (.rt (.fresh (dss.map PyData.list)) ς3)) : wps (Lw.nestS i fl vs t0 gN) ς Q := by
  obtain ⟨ds, ς1, e, hf, acc, ς2, e2, hf2, ς3, dss, e3, q⟩ := h
  refine ⟨_, ?_, q⟩
  unfold Lw.nestS
  simp only [e, if_pos hf, e2, if_pos hf2, e3]
theorem Sm.dicS {i : Nat} {gN : MDi} {ς : En} {Q : Out → Prop} (hf : free ς i = true) (h : wpn gN (ς.set i none) [] fun ς3 kv => Q (.rt (.fresh (kv.map pairD)) ς3)) : wps (Lw.dicS i gN) ς Q := by
  obtain ⟨ς3, kv, e3, q⟩ := h
  refine ⟨_, ?_, q⟩
  unfold Lw.dicS
  simp only [if_pos hf, e3]
instance {a b : D} {x : Option (List D)} : Gd5 (gRn2 a b = x) := ⟨id⟩
instance {a : D} {x : Option (List D)} : Gd5 (gRn1 a = x) := ⟨id⟩
/-! ### stepped_on -/
def Mat (rows : Tab) (a u : Nat) : Int := (rows.getD a []).getD (u - a) 0
def stepL (M : Nat → Nat → Int) (B : Nat → Int) (s : Int) (a lim : Nat) : List Int := (List.range (lim - (a + 1))).map fun k => M a (a + 1 + k) - s + B (a + 1 + k)
def stpF (M : Nat → Nat → Int) (B : Nat → Int) (s : Int) (a : Nat) : D → D
  | .int u => .int (M a u.toNat - s + B u.toNat)
  | d => d
theorem step_map (M : Nat → Nat → Int) (B : Nat → Int) (s : Int) (a lim : Nat) : (rngD ((a : Int) + 1) (lim - (a + 1))).map (stpF M B s a) = (stepL M B s a lim).map PyData.int := by
  rw [rng_map]
  unfold stepL
  rw [List.map_map]
  refine List.map_congr_left fun k _ => ?_
  show PyData.int (M a ((a : Int) + 1 + (k : Int)).toNat - s + B ((a : Int) + 1 + (k : Int)).toNat) = _
  rw [show ((a : Int) + 1 + (k : Int)).toNat = a + 1 + k by omega]
  rfl
theorem stepped_ok {rv : D} {xs : List D} {rows : Tab} {n : Nat} {L : List Int} {b : Bool} {a lim : Nat} {s : Int} (hr : TabG rv xs rows) (hR : Rws n rows) (hL : L.length = n + 1) (h1 : a < lim) (h2 : lim ≤ n + 1) (hn : n ≤ 100) :
    wpf m_p_stepped_on [.pure rv, .own b (L.map PyData.int), .pure (.int (a : Int)), .pure (.int (lim : Int)), .pure (.int s)] fun r o => r = .fresh ((stepL (Mat rows) (fun u => L.getD u 0) s a lim).map PyData.int) ∧ o = [.pure rv, .own b (L.map PyData.int), .pure (.int (a : Int)), .pure (.int (lim : Int)), .pure (.int s)] := by
  have hsl : sizeLine = 16777216 := rfl
  refine Sm.run ?_
  unfold g_p_stepped_on
  walk_at "lw n"
  walk_at "lw e"
  refine ⟨in_R (by omega), in_R (by omega), ?_⟩
  rw [show ((lim : Int) - ((a : Int) + 1)).toNat = lim - (a + 1) by omega]
  walk_at "lw e"
  refine Sm.lcPure (stpF (Mat rows) (fun u => L.getD u 0) s a) (by rw [rngD_len]; omega) ?_ ?_
  · intro y hy
    obtain ⟨k, hk⟩ := List.mem_iff_getElem?.1 hy
    have hk2 : k < lim - (a + 1) := by
      have := (List.getElem?_eq_some_iff.mp hk).1
      rw [rngD_len] at this
      exact this
    rw [rngD_get _ _ _ hk2] at hk
    cases hk
    obtain ⟨x, ex, sx⟩ := hr.ix (i := a) (by have := hR.1; omega)
    have hrl := hR.2 a (by omega)
    refine ⟨_, tgN_o rfl trivial, ?_⟩
    walk_at "lw n"
    walk_at "lw e"
    refine ⟨ex, ?_⟩
    walk_at "lw e"
    have e2 : gIx x (.int ((a : Int) + 1 + (k : Int) - (a : Int))) = some (.pure (.int ((rows.getD a []).getD (k + 1) 0))) := by
      rw [show (a : Int) + 1 + (k : Int) - (a : Int) = ((k + 1 : Nat) : Int) by omega]
      exact seq_ix sx (by omega)
    have e3 : gIx (.list (L.map PyData.int)) (.int ((a : Int) + 1 + (k : Int))) = some (.pure (.int (L.getD (a + 1 + k) 0))) := by
      rw [show (a : Int) + 1 + (k : Int) = ((a + 1 + k : Nat) : Int) by omega]
      exact atI_ints (by omega) (by omega)
    refine ⟨e2, ?_⟩
    walk_at "lw e"
    refine ⟨e3, ?_⟩
    walk_at "lw e"
    have ef : stpF (Mat rows) (fun u => L.getD u 0) s a (.int ((a : Int) + 1 + (k : Int))) = .int ((rows.getD a []).getD (k + 1) 0 - s + L.getD (a + 1 + k) 0) := by
      show PyData.int (Mat rows a ((a : Int) + 1 + (k : Int)).toNat - s + L.getD ((a : Int) + 1 + (k : Int)).toNat 0) = _
      rw [show ((a : Int) + 1 + (k : Int)).toNat = a + 1 + k by omega]
      unfold Mat
      rw [show a + 1 + k - a = k + 1 by omega]
    rw [ef]
    first | exact ⟨rfl, rfl, rfl⟩ | rfl | exact ⟨rfl, rfl⟩ | exact ⟨_, rfl, rfl, rfl⟩
  · rw [step_map]
    walk_at "lw e"
    first | exact ⟨rfl, rfl, rfl⟩ | rfl | exact ⟨rfl, rfl⟩ | exact ⟨_, rfl, rfl, rfl⟩
end Lw
-- F2
-- F3
-- F4
-- F5
namespace Lw
open PySem PySem.Spec PyProof.Rows L2
local macro_rules | `(tactic| walk_at "lw e") => `(tactic| (repeat (first | (with_reducible refine Stp.go ?_) | (with_reducible apply Exists.intro) | ((with_reducible refine And.intro ?_ ?_); · (first | (with_reducible exact Evl.ev) | ((fail_if_success (with_reducible refine Gd.keep ?_)); (fail_if_success (with_reducible refine Gd5.keep ?_)); rfl) | ((with_reducible apply mul_r); decide) | ((with_reducible apply mul_l); decide) | ((with_reducible apply div_i); decide) | ((with_reducible apply in_R); decide) | (exact Nat.le_of_ble_eq_true rfl) | (simp [refsOf]; done) | (exact ⟨rfl, rfl, by decide⟩) | (exact ⟨rfl, rfl, rfl⟩) | ((with_reducible apply tgN_o); (focus rfl); (focus (first | assumption | trivial))))) | ((with_reducible apply Sm.vrP); (focus rfl)) | ((with_reducible apply Sm.vrO); (focus rfl)) | ((with_reducible apply Sm.augI); (focus rfl)) | ((with_reducible refine Sm.dicE ?_ ?_); (focus decide)) | ((with_reducible apply Sm.augS); (focus rfl)) | ((with_reducible apply Sm.augL); (focus rfl)) | (with_reducible refine iteTT ?_) | (with_reducible refine iteT ?_) | (with_reducible refine iteF ?_) | ((with_reducible refine iteB1 ?_ ?_); (focus rfl)) | ((with_reducible refine iteB0 ?_ ?_); (focus rfl)))))
local macro_rules | `(tactic| walk_at "lw n") => `(tactic| (try dsimp only [ent, List.map, Nat.reduceAdd, Nat.reduceSub, List.length_cons, List.length_nil, List.replicate_succ, List.replicate_zero, List.cons_append, List.nil_append, putBack, setOwn, List.getElem?_cons_zero, List.getElem?_cons_succ, List.set_cons_zero, List.set_cons_succ, Sm.nf]))
local macro_rules | `(tactic| walk_at "lw v") => `(tactic| (try simp only [pb1, pb2, pb3, pb4, pb5, pb6]))
/-! ### begins_waiting -/
theorem set_getD {L : List Int} {j : Nat} {v : Int} (h : j < L.length) (a : Nat) : (L.set j v).getD a 0 = if a = j then v else L.getD a 0 := by
  rw [List.getD_eq_getElem?_getD, List.getD_eq_getElem?_getD, List.getElem?_set]
  by_cases q : j = a
  · subst q
    rw [if_pos rfl, if_pos h, if_pos rfl]
    rfl
  · rw [if_neg q, if_neg (fun e => q e.symm)]
theorem step_ne {M : Nat → Nat → Int} {B : Nat → Int} {s : Int} {a lim : Nat} (h : a + 1 < lim) : stepL M B s a lim ≠ [] := by
  intro e
  have := congrArg List.length e
  unfold stepL at this
  simp at this
  omega
theorem step_mem {M : Nat → Nat → Int} {B : Nat → Int} {s : Int} {a lim : Nat} {x : Int} : x ∈ stepL M B s a lim ↔ ∃ u, a < u ∧ u < lim ∧ x = M a u - s + B u := by
  unfold stepL
  rw [List.mem_map]
  constructor
  · rintro ⟨k, hk, rfl⟩
    have := List.mem_range.1 hk
    exact ⟨a + 1 + k, by omega, by omega, rfl⟩
  · rintro ⟨u, h1, h2, rfl⟩
    exact ⟨u - (a + 1), List.mem_range.2 (by omega), by rw [show a + 1 + (u - (a + 1)) = u by omega]⟩
def UpA (n : Nat) (M : Nat → Nat → Int) (e : Nat → Int) (s : Int) (L : List Int) (a : Nat) : Prop := L.getD a 0 ≤ e a ∧ (∀ u, a < u → u ≤ n → L.getD a 0 ≤ M a u - s + L.getD u 0) ∧ (L.getD a 0 = e a ∨ ∃ u, a < u ∧ u ≤ n ∧ L.getD a 0 = M a u - s + L.getD u 0)
def LowA (M : Nat → Nat → Int) (w : Nat) (s : Int) (L : List Int) (a : Nat) : Prop := (∀ u, a < u → u ≤ w → L.getD a 0 ≤ M a u - s + L.getD u 0) ∧ ∃ u, a < u ∧ u ≤ w ∧ L.getD a 0 = M a u - s + L.getD u 0
def Iv1 (n w : Nat) (M : Nat → Nat → Int) (E : List Int) (s : Int) (i : Nat) (L : List Int) : Prop := L.length = n + 1 ∧ (∀ a, a < n + 1 - i → L.getD a 0 = E.getD a 0) ∧ ∀ a, n + 1 - i ≤ a → a ≤ n → UpA n M (fun a => E.getD a 0) s L a
def Iv2 (n w : Nat) (M : Nat → Nat → Int) (E : List Int) (s : Int) (i : Nat) (L : List Int) : Prop := L.length = n + 1 ∧ (∀ a, w ≤ a → a ≤ n → UpA n M (fun a => E.getD a 0) s L a) ∧ ∀ a, w - i ≤ a → a < w → LowA M w s L a
theorem iv1_step {n w : Nat} {M : Nat → Nat → Int} {E L : List Int} {s : Int} {i : Nat} (hi : i < n + 1) (h : Iv1 n w M E s i L) : Iv1 n w M E s (i + 1) (L.set (n - i) (fmin (L.getD (n - i) 0 :: stepL M (fun u => L.getD u 0) s (n - i) (n + 1)))) := by
  obtain ⟨h1, h2, h3⟩ := h
  have hj : n - i < L.length := by omega
  have keep : ∀ a, a ≠ n - i → ∀ v, (L.set (n - i) v).getD a 0 = L.getD a 0 := fun a ha v => by rw [set_getD hj, if_neg ha]
  refine ⟨by rw [List.length_set]; exact h1, fun a ha => by rw [keep a (by omega)]; exact h2 a (by omega), fun a ha1 ha2 => ?_⟩
  by_cases q : a = n - i
  · subst q
    have hm := fmin_mem (zs := L.getD (n - i) 0 :: stepL M (fun u => L.getD u 0) s (n - i) (n + 1)) (by simp)
    have hle : ∀ x ∈ (L.getD (n - i) 0 :: stepL M (fun u => L.getD u 0) s (n - i) (n + 1)), fmin (L.getD (n - i) 0 :: stepL M (fun u => L.getD u 0) s (n - i) (n + 1)) ≤ x := fun x hx => fmin_le hx
    generalize fmin (L.getD (n - i) 0 :: stepL M (fun u => L.getD u 0) s (n - i) (n + 1)) = v at hm hle
    have ee := h2 (n - i) (by omega)
    have ev : (L.set (n - i) v).getD (n - i) 0 = v := by rw [set_getD hj, if_pos rfl]
    unfold UpA
    rw [ev]
    refine ⟨?_, fun u hu1 hu2 => ?_, ?_⟩
    · show v ≤ E.getD (n - i) 0
      rw [← ee]
      exact hle _ (List.mem_cons_self ..)
    · rw [keep u (by omega)]
      exact hle _ (List.mem_cons_of_mem _ (step_mem.2 ⟨u, hu1, by omega, rfl⟩))
    · rcases List.mem_cons.1 hm with hm | hm
      · exact .inl (by rw [hm]; exact ee)
      · obtain ⟨u, hu1, hu2, e⟩ := step_mem.1 hm
        exact .inr ⟨u, hu1, by omega, by rw [keep u (by omega)]; exact e⟩
  · obtain ⟨k1, k2, k3⟩ := h3 a (by omega) ha2
    refine ⟨by rw [keep a q]; exact k1, fun u hu1 hu2 => by rw [keep a q, keep u (by omega)]; exact k2 u hu1 hu2, ?_⟩
    rcases k3 with k3 | ⟨u, hu1, hu2, e⟩
    · exact .inl (by rw [keep a q]; exact k3)
    · exact .inr ⟨u, hu1, hu2, by rw [keep a q, keep u (by omega)]; exact e⟩
theorem iv2_step {n w : Nat} {M : Nat → Nat → Int} {E L : List Int} {s : Int} {i : Nat} (hw : w ≤ n) (hi : i < w) (h : Iv2 n w M E s i L) : Iv2 n w M E s (i + 1) (L.set (w - 1 - i) (fmin (stepL M (fun u => L.getD u 0) s (w - 1 - i) (w + 1)))) := by
  obtain ⟨h1, h2, h3⟩ := h
  have hj : w - 1 - i < L.length := by omega
  have keep : ∀ a, a ≠ w - 1 - i → ∀ v, (L.set (w - 1 - i) v).getD a 0 = L.getD a 0 := fun a ha v => by rw [set_getD hj, if_neg ha]
  refine ⟨by rw [List.length_set]; exact h1, fun a ha1 ha2 => ?_, fun a ha1 ha2 => ?_⟩
  · obtain ⟨k1, k2, k3⟩ := h2 a ha1 ha2
    refine ⟨by rw [keep a (by omega)]; exact k1, fun u hu1 hu2 => by rw [keep a (by omega), keep u (by omega)]; exact k2 u hu1 hu2, ?_⟩
    rcases k3 with k3 | ⟨u, hu1, hu2, e⟩
    · exact .inl (by rw [keep a (by omega)]; exact k3)
    · exact .inr ⟨u, hu1, hu2, by rw [keep a (by omega), keep u (by omega)]; exact e⟩
  · by_cases q : a = w - 1 - i
    · subst q
      have hm := fmin_mem (zs := stepL M (fun u => L.getD u 0) s (w - 1 - i) (w + 1)) (step_ne (by omega))
      have hle : ∀ x ∈ stepL M (fun u => L.getD u 0) s (w - 1 - i) (w + 1), fmin (stepL M (fun u => L.getD u 0) s (w - 1 - i) (w + 1)) ≤ x := fun x hx => fmin_le hx
      generalize fmin (stepL M (fun u => L.getD u 0) s (w - 1 - i) (w + 1)) = v at hm hle
      have ev : (L.set (w - 1 - i) v).getD (w - 1 - i) 0 = v := by rw [set_getD hj, if_pos rfl]
      unfold LowA
      rw [ev]
      refine ⟨fun u hu1 hu2 => ?_, ?_⟩
      · rw [keep u (by omega)]
        exact hle _ (step_mem.2 ⟨u, hu1, by omega, rfl⟩)
      · obtain ⟨u, hu1, hu2, e⟩ := step_mem.1 hm
        exact ⟨u, hu1, by omega, by rw [keep u (by omega)]; exact e⟩
    · obtain ⟨k2, u0, hu1, hu2, e⟩ := h3 a (by omega) ha2
      exact ⟨fun u hu1 hu2 => by rw [keep a q, keep u (by omega)]; exact k2 u hu1 hu2, u0, hu1, hu2, by rw [keep a q, keep u0 (by omega)]; exact e⟩
theorem iv_begins {n w : Nat} {M : Nat → Nat → Int} {E L : List Int} (hw : w ≤ n) (h : Iv2 n w M E (M w w) w L) : Begins n M (fun a => E.getD a 0) w (fun a => L.getD a 0) := by
  obtain ⟨h1, h2, h3⟩ := h
  exact ⟨fun a h1 h2' => (h2 a h1 h2').1, fun a u k1 k2 k3 => (h2 a k1 (by omega)).2.1 u k2 k3, fun a k1 k2 => (h2 a k1 k2).2.2, fun a u k1 k2 k3 => (h3 a (by omega) k1).1 u k2 k3, fun a k1 => (h3 a (by omega) k1).2⟩
theorem rn2r {m n i : Nat} {d : D} (h : ((rngD (m : Int) n).reverse)[i]? = some d) : i < n ∧ d = .int ((m + (n - 1 - i) : Nat) : Int) := by
  have hi : i < n := by
    have := (List.getElem?_eq_some_iff.mp h).1
    rw [List.length_reverse, rngD_len] at this
    exact this
  rw [List.getElem?_reverse (by rw [rngD_len]; exact hi), rngD_len, rngD_get _ _ _ (by omega)] at h
  cases h
  refine ⟨hi, ?_⟩
  congr 1
theorem cut_map_to (L : List Int) (k : Nat) : cutD (L.map PyData.int) none (some (k : Int)) = (L.take k).map PyData.int := by
  rw [cut_toN, List.map_take]
def IW1 (rv : D) (rows : Tab) (n w : Nat) (E : List Int) (i : Nat) (ς : En) : Prop := ∃ (L : List Int) (o5 : Option S), Iv1 n w (Mat rows) E (Mat rows w w) i L ∧ ς = [some (.pure rv), some (.pure (.list (E.map PyData.int))), some (.pure (.int (w : Int))), some (.pure (.int (Mat rows w w))), some (.own false (L.map PyData.int)), o5] ∧ Fr o5
def IW2 (rv : D) (rows : Tab) (n w : Nat) (E : List Int) (i : Nat) (ς : En) : Prop := ∃ (L : List Int) (o5 : Option S), Iv2 n w (Mat rows) E (Mat rows w w) i L ∧ ς = [some (.pure rv), some (.pure (.list (E.map PyData.int))), some (.pure (.int (w : Int))), some (.pure (.int (Mat rows w w))), some (.own false (L.map PyData.int)), o5] ∧ Fr o5
theorem begins_ok {rv : D} {xs : List D} {rows : Tab} {n w : Nat} {E : List Int} (hr : TabG rv xs rows) (hR : Rws n rows) (hE : E.length = n + 1) (hw : w ≤ n) (hn : n ≤ 100) :
    wpf m_p_begins_waiting [.pure rv, .pure (.list (E.map PyData.int)), .pure (.int (w : Int))] (FreshQ fun x => ∃ L : List Int, L.length = n + 1 ∧ Begins n (Mat rows) (fun a => E.getD a 0) w (fun a => L.getD a 0) ∧ x = (L.take (w + 1)).map PyData.int) := by
  have hsl : sizeLine = 16777216 := rfl
  obtain ⟨x, ex, sx⟩ := hr.ix (i := w) (by have := hR.1; omega)
  have hrl := hR.2 w hw
  have em : (rows.getD w []).getD 0 0 = Mat rows w w := by unfold Mat; rw [Nat.sub_self]
  refine Sm.run ?_
  unfold g_p_begins_waiting
  walk_at "lw n"
  walk_at "lw e"
  refine ⟨ex, ?_⟩
  walk_at "lw e"
  refine ⟨seq_ix (i := 0) sx (by omega), ?_⟩
  rw [em]
  walk_at "lw e"
  walk_at "lw n"
  walk_at "lw e"
  walk_at "lw n"
  walk_at "lw e"
  have e1 : gRn2 (.int (w : Int)) (.int ((E.map PyData.int).length : Int)) = some (rngD (w : Int) (n + 1 - w)).reverse := by
    rw [List.length_map, hE]
    show (if inR (w : Int) = true ∧ inR ((n + 1 : Nat) : Int) = true then some (rngD (w : Int) (((n + 1 : Nat) : Int) - (w : Int)).toNat).reverse else none) = _
    rw [if_pos ⟨in_R (by omega), in_R (by omega)⟩, show (((n + 1 : Nat) : Int) - (w : Int)).toNat = n + 1 - w by omega]
  refine ⟨e1, ?_⟩
  refine Sm.loopInv (IW1 rv rows n w E) ⟨E, none, ⟨hE, fun a _ => rfl, fun a h1 h2 => by omega⟩, rfl, trivial⟩ ?_ ?_
  · rintro i d ς hd ⟨L, o5, hI, rfl, f5⟩
    obtain ⟨hi, rfl⟩ := rn2r hd
    rw [show w + (n + 1 - w - 1 - i) = n - i by omega]
    have hL := hI.1
    refine ⟨_, tgN_o rfl f5, ?_⟩
    walk_at "lw n"
    walk_at "lw e"
    refine ⟨atI_ints (by omega) (by omega), ?_⟩
    rw [Int.toNat_natCast]
    walk_at "lw e"
    have hEl : ((E.map PyData.int).length : Int) = ((n + 1 : Nat) : Int) := by rw [List.length_map, hE]
    rw [hEl]
    refine Sm.fmono (stepped_ok (b := true) (L := L) (a := n - i) (lim := n + 1) (s := Mat rows w w) hr hR hL (by omega) (Nat.le_refl _) hn) fun r o h => ?_
    obtain ⟨rfl, rfl⟩ := h
    refine ⟨nfr, ?_⟩
    walk_at "lw n"
    walk_at "lw e"
    refine ⟨catL_ok (by simp [stepL]; omega), ?_⟩
    walk_at "lw e"
    refine ⟨fmin_ok (ns := L.getD (n - i) 0 :: stepL (Mat rows) (fun u => L.getD u 0) (Mat rows w w) (n - i) (n + 1)) (by simp), ?_⟩
    walk_at "lw e"
    refine ⟨ix_in (by omega) (by rw [List.length_map]; omega), ?_⟩
    rw [Int.toNat_natCast, set_ints]
    exact ⟨_, _, iv1_step (by omega) hI, rfl, trivial⟩
  · rintro ς ⟨L, o5, hI, rfl, f5⟩
    rw [List.length_reverse, rngD_len] at hI
    have hL := hI.1
    have hI2 : Iv2 n w (Mat rows) E (Mat rows w w) 0 L := ⟨hI.1, fun a h1 h2 => hI.2.2 a (by omega) h2, fun a h1 h2 => by omega⟩
    walk_at "lw e"
    have e2 : gRn1 (.int (w : Int)) = some (rngD ((0 : Nat) : Int) w).reverse := by
      show (if inR (w : Int) = true then some (rngD 0 (w : Int).toNat).reverse else none) = _
      rw [if_pos (in_R (by omega)), Int.toNat_natCast]
      rfl
    refine ⟨e2, ?_⟩
    refine Sm.loopInv (IW2 rv rows n w E) ⟨L, o5, hI2, rfl, f5⟩ ?_ ?_
    · rintro i d ς hd ⟨L, o5, hI, rfl, f5⟩
      obtain ⟨hi, rfl⟩ := rn2r hd
      rw [show 0 + (w - 1 - i) = w - 1 - i by omega]
      have hL := hI.1
      refine ⟨_, tgN_o rfl f5, ?_⟩
      walk_at "lw n"
      walk_at "lw e"
      dsimp only
      rw [show (w : Int) + 1 = ((w + 1 : Nat) : Int) by omega]
      refine Sm.fmono (stepped_ok (b := true) (L := L) (a := w - 1 - i) (lim := w + 1) (s := Mat rows w w) hr hR hL (by omega) (by omega) hn) fun r o h => ?_
      obtain ⟨rfl, rfl⟩ := h
      refine ⟨nfr, ?_⟩
      walk_at "lw n"
      walk_at "lw e"
      refine ⟨fmin_ok (step_ne (by omega)), ?_⟩
      walk_at "lw e"
      refine ⟨ix_in (by omega) (by rw [List.length_map]; omega), ?_⟩
      rw [Int.toNat_natCast, set_ints]
      exact ⟨_, _, iv2_step hw hi hI, rfl, trivial⟩
    · rintro ς ⟨L, o5, hI, rfl, f5⟩
      rw [List.length_reverse, rngD_len] at hI
      walk_at "lw e"
      refine ⟨_, rfl, L, hI.1, iv_begins hw hI, ?_⟩
      show cutD (L.map PyData.int) none (some ((w : Int) + 1)) = _
      rw [show (w : Int) + 1 = ((w + 1 : Nat) : Int) by omega, cut_map_to]
end Lw
-- F2
-- F3
-- F4
-- F5
namespace Lw
open PySem PySem.Spec PyProof.Rows L2
local macro_rules | `(tactic| walk_at "lw e") => `(tactic| (repeat (first | (with_reducible refine Stp.go ?_) | (with_reducible apply Exists.intro) | ((with_reducible refine And.intro ?_ ?_); · (first | (with_reducible exact Evl.ev) | ((fail_if_success (with_reducible refine Gd.keep ?_)); (fail_if_success (with_reducible refine Gd5.keep ?_)); rfl) | ((with_reducible apply mul_r); decide) | ((with_reducible apply mul_l); decide) | ((with_reducible apply div_i); decide) | ((with_reducible apply in_R); decide) | (exact Nat.le_of_ble_eq_true rfl) | (simp [refsOf]; done) | (exact ⟨rfl, rfl, by decide⟩) | (exact ⟨rfl, rfl, rfl⟩) | ((with_reducible apply tgN_o); (focus rfl); (focus (first | assumption | trivial))))) | ((with_reducible apply Sm.vrP); (focus rfl)) | ((with_reducible apply Sm.vrO); (focus rfl)) | ((with_reducible apply Sm.augI); (focus rfl)) | ((with_reducible refine Sm.dicE ?_ ?_); (focus decide)) | ((with_reducible apply Sm.augS); (focus rfl)) | ((with_reducible apply Sm.augL); (focus rfl)) | (with_reducible refine iteTT ?_) | (with_reducible refine iteT ?_) | (with_reducible refine iteF ?_) | ((with_reducible refine iteB1 ?_ ?_); (focus rfl)) | ((with_reducible refine iteB0 ?_ ?_); (focus rfl)))))
local macro_rules | `(tactic| walk_at "lw n") => `(tactic| (try dsimp only [ent, List.map, Nat.reduceAdd, Nat.reduceSub, List.length_cons, List.length_nil, List.replicate_succ, List.replicate_zero, List.cons_append, List.nil_append, putBack, setOwn, List.getElem?_cons_zero, List.getElem?_cons_succ, List.set_cons_zero, List.set_cons_succ, Sm.nf]))
local macro_rules | `(tactic| walk_at "lw v") => `(tactic| (try simp only [pb1, pb2, pb3, pb4, pb5, pb6]))
/-! ### merged lines -/
def mrg1 (kv : KI) (s v : Int) : KI := putI kv s (if (getI kv s).getD v < v then (getI kv s).getD v else v)
structure Mg (S : List Ln) (kv : KI) : Prop where
  nd : (kv.map (·.1)).Nodup
  sub : ∀ p ∈ kv, p ∈ S
  le : ∀ p ∈ S, ∃ q ∈ kv, q.1 = p.1 ∧ q.2 ≤ p.2
theorem nd_inj {α β : Type} {f : α → β} : ∀ {l : List α}, (l.map f).Nodup → ∀ {a b : α}, a ∈ l → b ∈ l → f a = f b → a = b
  | x :: l, h, a, b, ha, hb, e => by
    rw [List.map_cons, List.nodup_cons] at h
    rcases List.mem_cons.1 ha with ea | ha' <;> rcases List.mem_cons.1 hb with eb | hb'
    · rw [ea, eb]
    · exact absurd (List.mem_map.2 ⟨b, hb', by rw [← e, ea]⟩) h.1
    · exact absurd (List.mem_map.2 ⟨a, ha', by rw [e, eb]⟩) h.1
    · exact nd_inj h.2 ha' hb' e
theorem getI_mem {kv : KI} {s g : Int} (h : getI kv s = some g) : (s, g) ∈ kv := by
  unfold getI at h
  cases q : kv.find? fun p => decide (p.1 = s) with
  | none => rw [q] at h; cases h
  | some p =>
    rw [q] at h
    have h1 := List.mem_of_find?_eq_some q
    have h2 : decide (p.1 = s) = true := List.find?_some (p := fun p : Int × Int => decide (p.1 = s)) q
    have h2 := of_decide_eq_true h2
    cases h
    rw [← h2]
    exact h1
theorem Mg.add {S : List Ln} {kv : KI} (h : Mg S kv) (s v : Int) : Mg (S ++ [(s, v)]) (mrg1 kv s v) := by
  unfold mrg1 putI
  by_cases q : (kv.any fun p => decide (p.1 = s)) = true
  · rw [if_pos q]
    obtain ⟨p0, hp0, e0⟩ := List.any_eq_true.1 q
    have e0 := of_decide_eq_true e0
    obtain ⟨g, hg⟩ : ∃ g, getI kv s = some g := by
      unfold getI
      cases q2 : kv.find? fun p => decide (p.1 = s) with
      | none => exact absurd (decide_eq_true e0) (List.find?_eq_none.1 q2 p0 hp0)
      | some p => exact ⟨_, rfl⟩
    have hgm := getI_mem hg
    rw [hg]
    show Mg (S ++ [(s, v)]) (kv.map fun p => if p.1 = s then (p.1, if g < v then g else v) else p)
    refine ⟨?_, fun p hp => ?_, fun p hp => ?_⟩
    · rw [List.map_map]
      have : ((fun x : Int × Int => x.1) ∘ fun p : Int × Int => if p.1 = s then (p.1, if g < v then g else v) else p) = fun x => x.1 := by
        funext p
        show (if p.1 = s then (p.1, if g < v then g else v) else p).1 = p.1
        split <;> rfl
      rw [this]
      exact h.nd
    · obtain ⟨p1, hp1, rfl⟩ := List.mem_map.1 hp
      by_cases q3 : p1.1 = s
      · rw [if_pos q3, q3]
        by_cases q4 : g < v
        · rw [if_pos q4]
          exact List.mem_append_left _ (h.sub _ hgm)
        · rw [if_neg q4]
          exact List.mem_append_right _ (List.mem_singleton.2 rfl)
      · rw [if_neg q3]
        exact List.mem_append_left _ (h.sub _ hp1)
    · rcases List.mem_append.1 hp with hp | hp
      · obtain ⟨p1, hp1, e1, e2⟩ := h.le p hp
        by_cases q3 : p1.1 = s
        · have : p1 = (s, g) := nd_inj h.nd hp1 hgm q3
          subst this
          refine ⟨_, List.mem_map.2 ⟨(s, g), hgm, rfl⟩, ?_, ?_⟩
          · rw [if_pos rfl]; exact e1
          · rw [if_pos rfl]
            show (if g < v then g else v) ≤ p.2
            have e2 : g ≤ p.2 := e2
            split <;> omega
        · exact ⟨p1, List.mem_map.2 ⟨p1, hp1, by rw [if_neg q3]⟩, e1, e2⟩
      · cases List.mem_singleton.1 hp
        refine ⟨_, List.mem_map.2 ⟨(s, g), hgm, rfl⟩, ?_, ?_⟩
        · rw [if_pos rfl]
        · rw [if_pos rfl]
          show (if g < v then g else v) ≤ v
          split <;> omega
  · rw [if_neg q]
    have hn : getI kv s = none := by
      cases q2 : getI kv s with
      | none => rfl
      | some g => exact absurd (List.any_eq_true.2 ⟨_, getI_mem q2, decide_eq_true rfl⟩) q
    rw [hn]
    have ev : (if (none : Option Int).getD v < v then (none : Option Int).getD v else v) = v := if_neg (Int.lt_irrefl v)
    rw [ev]
    refine ⟨?_, fun p hp => ?_, fun p hp => ?_⟩
    · rw [List.map_append, List.nodup_append]
      refine ⟨h.nd, by simp, fun a ha b hb e => ?_⟩
      obtain ⟨p, hp, rfl⟩ := List.mem_map.1 ha
      have hb : b = s := by simpa using hb
      exact q (List.any_eq_true.2 ⟨p, hp, decide_eq_true (by rw [e, hb])⟩)
    · rcases List.mem_append.1 hp with hp | hp
      · exact List.mem_append_left _ (h.sub _ hp)
      · exact List.mem_append_right _ hp
    · rcases List.mem_append.1 hp with hp | hp
      · obtain ⟨p1, hp1, e⟩ := h.le p hp
        exact ⟨p1, List.mem_append_left _ hp1, e⟩
      · exact ⟨p, List.mem_append_right _ hp, rfl, Int.le_refl _⟩
def shL (more : Int) (ls : List Ln) : List Ln := ls.map fun l => (l.1, l.2 + more)
def allL (zs : List (Int × List Ln)) : List Ln := zs.flatMap fun z => shL z.1 z.2
def lAt_le {S kv : List Ln} (h : Mg S kv) (hne : S ≠ []) (k : Int) (hk : 0 ≤ k) : lowL kv k = lowL S k := by
  have hkv : kv ≠ [] := by
    intro e
    cases hS : S with
    | nil => exact hne hS
    | cons p ps =>
      obtain ⟨q, hq, _⟩ := h.le p (by rw [hS]; exact List.mem_cons_self ..)
      rw [e] at hq; cases hq
  apply Int.le_antisymm
  · obtain ⟨l, hl, e⟩ := low_ex hne k
    obtain ⟨q, hq, e1, e2⟩ := h.le l hl
    have := low_le hq k
    rw [e]
    unfold lAt at *
    rw [e1] at this
    omega
  · obtain ⟨l, hl, e⟩ := low_ex hkv k
    rw [e]
    exact low_le (h.sub _ hl) k
theorem all_mem {zs : List (Int × List Ln)} {p : Ln} : p ∈ allL zs ↔ ∃ z ∈ zs, ∃ l ∈ z.2, p = (l.1, l.2 + z.1) := by
  unfold allL shL
  rw [List.mem_flatMap]
  constructor
  · rintro ⟨z, hz, hp⟩
    obtain ⟨l, hl, rfl⟩ := List.mem_map.1 hp
    exact ⟨z, hz, l, hl, rfl⟩
  · rintro ⟨z, hz, l, hl, rfl⟩
    exact ⟨z, hz, List.mem_map.2 ⟨l, hl, rfl⟩⟩
theorem low_all {zs : List (Int × List Ln)} (hz : zs ≠ []) (hne : ∀ z ∈ zs, z.2 ≠ []) (k : Int) : allL zs ≠ [] ∧ lowL (allL zs) k = fmin (zs.map fun z => z.1 + lowL z.2 k) := by
  have h1 : allL zs ≠ [] := by
    cases zs with
    | nil => exact absurd rfl hz
    | cons z zs =>
      have := hne z (List.mem_cons_self ..)
      cases q : z.2 with
      | nil => exact absurd q this
      | cons l ls =>
        intro e
        have : ((l.1, l.2 + z.1) : Ln) ∈ allL (z :: zs) := all_mem.2 ⟨z, List.mem_cons_self .., l, by rw [q]; exact List.mem_cons_self .., rfl⟩
        rw [e] at this; cases this
  refine ⟨h1, Int.le_antisymm ?_ ?_⟩
  · have hm := fmin_mem (zs := zs.map fun z => z.1 + lowL z.2 k) (by simpa using hz)
    obtain ⟨z, hzm, e⟩ := List.mem_map.1 hm
    obtain ⟨l, hl, e2⟩ := low_ex (hne z hzm) k
    have := low_le (all_mem.2 ⟨z, hzm, l, hl, rfl⟩) k
    rw [← e, e2]
    unfold lAt at *
    simp only at this
    omega
  · obtain ⟨p, hp, e⟩ := low_ex h1 k
    obtain ⟨z, hzm, l, hl, rfl⟩ := all_mem.1 hp
    have h2 := low_le hl k
    have h3 := fmin_le (List.mem_map.2 ⟨z, hzm, rfl⟩ : (fun z : Int × List Ln => z.1 + lowL z.2 k) z ∈ zs.map fun z => z.1 + lowL z.2 k)
    rw [e]
    unfold lAt at *
    simp only at h3 ⊢
    omega
theorem sub_len {α : Type} [DecidableEq α] : ∀ {l m : List α}, l.Nodup → (∀ x ∈ l, x ∈ m) → l.length ≤ m.length
  | [], m, _, _ => Nat.zero_le _
  | x :: l, m, h, hs => by
    rw [List.nodup_cons] at h
    have hx := hs x (List.mem_cons_self ..)
    have := sub_len (l := l) (m := m.erase x) h.2 fun y hy => (List.mem_erase_of_ne (fun e : y = x => h.1 (by rw [← e]; exact hy))).2 (hs y (List.mem_cons_of_mem _ hy))
    rw [List.length_erase_of_mem hx] at this
    have : 0 < m.length := List.length_pos_of_mem hx
    rw [List.length_cons]
    omega
/-! ### the totals' lines -/
def Tk (t : Tab) (T : List Int) (k a : Nat) : Int := (iter (Led t) k T ++ [0]).getD a 0
theorem goes_tab {n : Nat} {t : Tab} {T : List Int} (hs : Shp n t) (hT : T.length = n) : Goes n (Mat (t ++ [[0]])) (fun a => (T ++ [0]).getD a 0) (Tk t T) := by
  have key : ∀ k a, a ≤ n → Tk t T (k + 1) a = ev ((t ++ [[0]]).getD a []) ((iter (Led t) k T ++ [0]).drop a) := by
    intro k a ha
    unfold Tk
    rw [iter_succ]
    exact L_rows hs (iterLed_len hs k hT) a ha
  have hl : ∀ k a, a ≤ n → ((t ++ [[0]]).getD a []).length = ((iter (Led t) k T ++ [0]).drop a).length := by
    intro k a ha
    rw [hs.rws.2 a ha, List.length_drop, List.length_append, iterLed_len hs k hT]
    rfl
  refine ⟨fun a _ => rfl, fun k a u h1 h2 => ?_, fun k a ha => ?_⟩
  · rw [key k a (by omega)]
    have := ev_le (hl k a (by omega)) (q := u - a) (by rw [hs.rws.2 a (by omega)]; omega)
    rw [drop_getD, show a + (u - a) = u by omega] at this
    exact this
  · obtain ⟨q, hq, e⟩ := ev_att (hl k a ha) (by rw [hs.rws.2 a ha]; omega)
    rw [hs.rws.2 a ha] at hq
    refine ⟨a + q, by omega, by omega, ?_⟩
    rw [key k a ha, e, drop_getD]
    unfold Mat
    rw [show a + q - a = q by omega]
    rfl
def lineS (n : Nat) (M : Nat → Nat → Int) (B : Nat → Nat → Int) (a : Nat) : List Ln := (List.range (n + 1 - a)).map fun j => (M (a + j) (a + j), B (a + j) a)
theorem lineS_ne {n : Nat} {M : Nat → Nat → Int} {B : Nat → Nat → Int} {a : Nat} (h : a ≤ n) : lineS n M B a ≠ [] := by
  intro e
  have := congrArg List.length e
  unfold lineS at this
  simp at this
  omega
theorem line_low {n : Nat} {M : Nat → Nat → Int} {e : Nat → Int} {T : Nat → Nat → Int} {B : Nat → Nat → Int} (hG : Goes n M e T) (hB : ∀ w, w ≤ n → Begins n M e w (B w)) {a k : Nat} (ha : a ≤ n) (hk : n ≤ k) : lowL (lineS n M B a) (k : Int) = T k a := by
  apply Int.le_antisymm
  · obtain ⟨w, h1, h2, h3⟩ := hG.ge hB k a ha
    have hm : ((M w w, B w a) : Ln) ∈ lineS n M B a := by
      unfold lineS
      exact List.mem_map.2 ⟨w - a, List.mem_range.2 (by omega), by rw [show a + (w - a) = w by omega]⟩
    have := low_le hm (k : Int)
    unfold lAt at this
    simp only at this
    omega
  · obtain ⟨l, hl, e1⟩ := low_ex (lineS_ne (M := M) (B := B) ha) (k : Int)
    unfold lineS at hl
    obtain ⟨j, hj, rfl⟩ := List.mem_map.1 hl
    have hj := List.mem_range.1 hj
    have := hG.le_line (w := a + j) (by omega) (hB (a + j) (by omega)) (a := a) (k := k) (by omega) hk
    rw [e1]
    unfold lAt
    exact this
end Lw
-- F2
-- F3
-- F4
-- F5
namespace Lw
open PySem PySem.Spec PyProof.Rows L2
local macro_rules | `(tactic| walk_at "lw e") => `(tactic| (repeat (first | (with_reducible refine Stp.go ?_) | (with_reducible apply Exists.intro) | ((with_reducible refine And.intro ?_ ?_); · (first | (with_reducible exact Evl.ev) | ((fail_if_success (with_reducible refine Gd.keep ?_)); (fail_if_success (with_reducible refine Gd5.keep ?_)); rfl) | ((with_reducible apply mul_r); decide) | ((with_reducible apply mul_l); decide) | ((with_reducible apply div_i); decide) | ((with_reducible apply in_R); decide) | (exact Nat.le_of_ble_eq_true rfl) | (simp [refsOf]; done) | (exact ⟨rfl, rfl, by decide⟩) | (exact ⟨rfl, rfl, rfl⟩) | ((with_reducible apply tgN_o); (focus rfl); (focus (first | assumption | trivial))))) | ((with_reducible apply Sm.vrP); (focus rfl)) | ((with_reducible apply Sm.vrO); (focus rfl)) | ((with_reducible apply Sm.augI); (focus rfl)) | ((with_reducible refine Sm.dicE ?_ ?_); (focus decide)) | ((with_reducible apply Sm.augS); (focus rfl)) | ((with_reducible apply Sm.augL); (focus rfl)) | (with_reducible refine iteTT ?_) | (with_reducible refine iteT ?_) | (with_reducible refine iteF ?_) | ((with_reducible refine iteB1 ?_ ?_); (focus rfl)) | ((with_reducible refine iteB0 ?_ ?_); (focus rfl)))))
local macro_rules | `(tactic| walk_at "lw n") => `(tactic| (try dsimp only [ent, List.map, Nat.reduceAdd, Nat.reduceSub, List.length_cons, List.length_nil, List.replicate_succ, List.replicate_zero, List.cons_append, List.nil_append, putBack, setOwn, List.getElem?_cons_zero, List.getElem?_cons_succ, List.set_cons_zero, List.set_cons_succ, Sm.nf]))
local macro_rules | `(tactic| walk_at "lw v") => `(tactic| (try simp only [pb1, pb2, pb3, pb4, pb5, pb6]))
/-! ### lines_of -/
def linesD (n : Nat) (M : Nat → Nat → Int) (B : Nat → Nat → Int) (w : Nat) (a : Nat) : List Ln := (List.range (w - a)).map fun j => (M (a + j) (a + j), B (a + j) a)
theorem linesD_all (n : Nat) (M : Nat → Nat → Int) (B : Nat → Nat → Int) (a : Nat) : linesD n M B (n + 1) a = lineS n M B a := rfl
theorem linesD_snoc {n : Nat} {M : Nat → Nat → Int} {B : Nat → Nat → Int} {w a : Nat} (h : a ≤ w) : linesD n M B (w + 1) a = linesD n M B w a ++ [(M w w, B w a)] := by
  unfold linesD
  rw [show w + 1 - a = (w - a) + 1 by omega, List.range_succ, List.map_append, List.map_singleton, show a + (w - a) = w by omega]
theorem linesD_out {n : Nat} {M : Nat → Nat → Int} {B : Nat → Nat → Int} {w a : Nat} (h : w < a) : linesD n M B (w + 1) a = linesD n M B w a := by
  unfold linesD
  rw [show w + 1 - a = 0 by omega, show w - a = 0 by omega]
def lssD (n : Nat) (M : Nat → Nat → Int) (B : Nat → Nat → Int) (w j : Nat) : List (List D) := (List.range (n + 1)).map fun a => ((linesD n M B (if a < j then w + 1 else w) a).map pairD)
theorem lss_set {n : Nat} {M : Nat → Nat → Int} {B : Nat → Nat → Int} {w j : Nat} (hj : j ≤ w) (hw : w ≤ n) : (lssD n M B w j).set j ((linesD n M B w j).map pairD ++ [.tuple [.int (M w w), .int (B w j)]]) = lssD n M B w (j + 1) := by
  apply List.ext_getElem?
  intro a
  unfold lssD
  rw [List.getElem?_set, List.length_map, List.length_range]
  by_cases q : j = a
  · subst q
    rw [if_pos rfl, if_pos (by omega), List.getElem?_map, List.getElem?_range (by omega)]
    show _ = some ((linesD n M B (if j < j + 1 then w + 1 else w) j).map pairD)
    rw [if_pos (by omega), linesD_snoc hj, List.map_append]
    rfl
  · rw [if_neg q, List.getElem?_map, List.getElem?_map]
    by_cases hl : a < n + 1
    · rw [List.getElem?_range hl]
      show some ((linesD n M B (if a < j then w + 1 else w) a).map pairD) = some ((linesD n M B (if a < j + 1 then w + 1 else w) a).map pairD)
      by_cases q2 : a < j
      · rw [if_pos q2, if_pos (by omega)]
      · rw [if_neg q2, if_neg (by omega)]
    · rw [List.getElem?_eq_none (by rw [List.length_range]; omega)]
      rfl
theorem lss_next {n : Nat} {M : Nat → Nat → Int} {B : Nat → Nat → Int} {w : Nat} : lssD n M B w (w + 1) = lssD n M B (w + 1) 0 := by
  unfold lssD
  refine List.map_congr_left fun a ha => ?_
  rw [if_neg (by omega : ¬ a < 0)]
  by_cases q : a < w + 1
  · rw [if_pos q]
  · rw [if_neg q, linesD_out (by omega)]
theorem lss_zero (n : Nat) (M : Nat → Nat → Int) (B : Nat → Nat → Int) : lssD n M B 0 0 = List.replicate (n + 1) [] := by
  unfold lssD
  rw [List.eq_replicate_iff]
  refine ⟨by simp, fun b hb => ?_⟩
  obtain ⟨a, ha, rfl⟩ := List.mem_map.1 hb
  rw [if_neg (by omega)]
  unfold linesD
  rw [show 0 - a = 0 by omega]
  rfl
theorem lss_all (n : Nat) (M : Nat → Nat → Int) (B : Nat → Nat → Int) : (lssD n M B (n + 1) 0).map PyData.list = (List.range (n + 1)).map fun a => .list ((lineS n M B a).map pairD) := by
  unfold lssD
  rw [List.map_map]
  refine List.map_congr_left fun a _ => ?_
  show PyData.list ((linesD n M B (if a < 0 then n + 1 + 1 else n + 1) a).map pairD) = _
  rw [if_neg (by omega), linesD_all]
theorem lss_congr {n : Nat} {M : Nat → Nat → Int} {B B' : Nat → Nat → Int} {w : Nat} (h : ∀ v, v < w → B v = B' v) : lssD n M B w 0 = lssD n M B' w 0 := by
  unfold lssD
  refine List.map_congr_left fun a _ => ?_
  rw [if_neg (by omega)]
  congr 1
  unfold linesD
  refine List.map_congr_left fun j hj => ?_
  have := List.mem_range.1 hj
  rw [h (a + j) (by omega)]
theorem lss_len (n : Nat) (M : Nat → Nat → Int) (B : Nat → Nat → Int) (w j : Nat) : (lssD n M B w j).length = n + 1 := by unfold lssD; rw [List.length_map, List.length_range]
theorem lss_get {n : Nat} {M : Nat → Nat → Int} {B : Nat → Nat → Int} {w j : Nat} (h : j ≤ n) : (lssD n M B w j)[j]? = some ((linesD n M B w j).map pairD) := by
  unfold lssD
  rw [List.getElem?_map, List.getElem?_range (by omega)]
  show some ((linesD n M B (if j < j then w + 1 else w) j).map pairD) = _
  rw [if_neg (Nat.lt_irrefl j)]
/-- the rows of a table, and the bare last one -/
theorem TabG.rows {tv : D} {xs : List D} {t : Tab} (h : TabG tv xs t) : TabG (.list (xs ++ [.tuple [.int 0]])) (xs ++ [.tuple [.int 0]]) (t ++ [[0]]) := by
  refine ⟨rfl, by rw [List.length_append, List.length_append, h.len]; rfl, fun i x r h1 h2 => ?_⟩
  by_cases q : i < t.length
  · rw [List.getElem?_append_left (by rw [h.len]; exact q)] at h1
    rw [List.getElem?_append_left q] at h2
    exact h.ok i x r h1 h2
  · rw [List.getElem?_append_right (by rw [h.len]; omega)] at h1
    rw [List.getElem?_append_right (by omega), ← h.len] at h2
    cases e : i - xs.length with
    | zero => rw [e] at h1 h2; cases h1; cases h2; exact .inr rfl
    | succ k => rw [e] at h1; cases h1
theorem getD_some' {xs : Tab} {i : Nat} (h : i < xs.length) : xs[i]? = some (xs.getD i []) := by
  rw [List.getD_eq_getElem?_getD, List.getElem?_eq_getElem h]; rfl
def BgF (n : Nat) (M : Nat → Nat → Int) (e : Nat → Int) (w : Nat) (B : Nat → Nat → Int) : Prop := ∀ v, v < w → Begins n M e v (B v)
def ILf (tv Tv : D) (xs : List D) (n : Nat) (M : Nat → Nat → Int) (E : List Int) (w : Nat) (ς : En) (dss : List (List D)) : Prop := ∃ (B : Nat → Nat → Int) (o6 o7 o8 o9 : Option S), BgF n M (fun a => E.getD a 0) w B ∧ dss = lssD n M B w 0 ∧ ς = [some (.pure tv), some (.pure Tv), some (.pure (.list xs)), some (.pure (.list (E.map PyData.int))), none, none, o6, o7, o8, o9] ∧ Fr o6 ∧ Fr o7 ∧ Fr o8 ∧ Fr o9
def ILi (tv Tv x : D) (xs : List D) (n : Nat) (M : Nat → Nat → Int) (E : List Int) (B : Nat → Nat → Int) (w j : Nat) (ς : En) (dss : List (List D)) : Prop := ∃ (o8 o9 : Option S), dss = lssD n M B w j ∧ ς = [some (.pure tv), some (.pure Tv), some (.pure (.list xs)), some (.pure (.list (E.map PyData.int))), none, none, some (.pure (.int (w : Int))), some (.pure x), o8, o9] ∧ Fr o8 ∧ Fr o9
theorem lines_ok {tv Tv : D} {xs : List D} {t : Tab} {T : List Int} {n : Nat} (ht : TabG tv xs t) (hs : Shp n t) (hT : Seq Tv T) (hTl : T.length = n) (hn : n ≤ 100) :
    wpf m_p_lines_of [.pure tv, .pure Tv] (FreshQ fun x => ∃ B : Nat → Nat → Int, (∀ w, w ≤ n → Begins n (Mat (t ++ [[0]])) (fun a => (T ++ [0]).getD a 0) w (B w)) ∧ x = (List.range (n + 1)).map fun a => .list ((lineS n (Mat (t ++ [[0]])) B a).map pairD)) := by
  have hsl : sizeLine = 16777216 := rfl
  have htl := hs.len
  have hxl := ht.len
  have hrw := hs.rws
  have hTG := ht.rows
  refine Sm.run ?_
  unfold g_p_lines_of
  walk_at "lw n"
  walk_at "lw e"
  refine ⟨ht.its, ?_⟩
  walk_at "lw e"
  refine ⟨vals_avs rfl, by simp; omega, ?_⟩
  walk_at "lw e"
  walk_at "lw n"
  walk_at "lw e"
  refine ⟨hT.items, ?_⟩
  walk_at "lw e"
  refine ⟨vals_avs rfl, by simp; omega, ?_⟩
  have ep : T.map PyData.int ++ [.int 0] = (T ++ [0]).map PyData.int := by rw [List.map_append]; rfl
  rw [ep]
  walk_at "lw e"
  walk_at "lw n"
  have hEl : (T ++ [0]).length = n + 1 := by rw [List.length_append, hTl]; rfl
  generalize hE : T ++ [0] = E at *
  refine Sm.nestS ?_
  walk_at "lw e"
  refine Sm.lcPure (ds := E.map PyData.int) (fun _ => .list []) (by rw [List.length_map]; omega) ?_ ?_
  · intro d hd
    refine ⟨_, tgN_o rfl trivial, ?_⟩
    walk_at "lw n"
    walk_at "lw e"
    first | exact ⟨rfl, rfl, rfl⟩ | rfl | exact ⟨rfl, rfl⟩ | exact ⟨_, rfl, rfl, rfl⟩
  · refine ⟨rfl, ?_⟩
    rw [List.length_map, hEl, ← lss_zero n (Mat (t ++ [[0]])) (fun _ _ => 0)]
    walk_at "lw n"
    refine Sm.nfor ?_
    walk_at "lw e"
    refine Sm.nloopInv _ (ILf tv Tv (xs ++ [.tuple [.int 0]]) n (Mat (t ++ [[0]])) E) ⟨fun _ _ => 0, none, none, none, none, (fun v h => absurd h (Nat.not_lt_zero v)), rfl, rfl, trivial, trivial, trivial, trivial⟩ ?_ ?_
    · rintro w x ς dss hx ⟨B, o6, o7, o8, o9, hB, rfl, rfl, f6, f7, f8, f9⟩
      rw [enumD_get] at hx
      cases q : (xs ++ [PyData.tuple [.int 0]])[w]? with
      | none => rw [q] at hx; cases hx
      | some y =>
        rw [q] at hx
        cases hx
        rw [Nat.zero_add]
        have hw : w ≤ n := by
          have := (List.getElem?_eq_some_iff.mp q).1
          rw [List.length_append] at this
          simp at this
          omega
        have hrow := hTG.ok w y _ q (getD_some' (by rw [List.length_append]; simp; omega))
        have hrl := hrw.2 w hw
        refine ⟨_, tgT2_o rfl f6 rfl f7, ?_⟩
        walk_at "lw n"
        refine Sm.nfor ?_
        walk_at "lw e"
        refine Sm.fmono (begins_ok (w := w) hTG hrw hEl hw hn) fun r o hh => ?_
        obtain ⟨dd1, rfl, L, hL, hBg, rfl⟩ := hh
        refine ⟨nfr, ?_⟩
        walk_at "lw v"
        walk_at "lw n"
        walk_at "lw e"
        have em : ((t ++ [[0]]).getD w []).getD 0 0 = Mat (t ++ [[0]]) w w := by unfold Mat; rw [Nat.sub_self]
        have hBw : ∀ v, v < w → B v = (fun v => if v = w then (fun a => L.getD a 0) else B v) v := fun v hv => by
          show B v = if v = w then _ else B v
          rw [if_neg (by omega)]
        rw [lss_congr hBw]
        have hBB : BgF n (Mat (t ++ [[0]])) (fun a => E.getD a 0) (w + 1) (fun v => if v = w then (fun a => L.getD a 0) else B v) := fun v hv => by
          show Begins _ _ _ v (if v = w then _ else B v)
          by_cases q2 : v = w
          · rw [if_pos q2, q2]; exact hBg
          · rw [if_neg q2]; exact hB v (by omega)
        have hBj : ∀ j, L.getD j 0 = (fun v => if v = w then (fun a => L.getD a 0) else B v) w j := fun j => by
          show _ = (if w = w then (fun a => L.getD a 0) else B w) j
          rw [if_pos rfl]
        generalize (fun v => if v = w then (fun a => L.getD a 0) else B v) = B' at hBB hBj
        refine Sm.nloopInv _ (ILi tv Tv y (xs ++ [.tuple [.int 0]]) n (Mat (t ++ [[0]])) E B' w) ⟨o8, o9, rfl, rfl, f8, f9⟩ ?_ ?_
        · rintro j x ς dss hx ⟨o8, o9, rfl, rfl, f8, f9⟩
          rw [enumD_get, List.getElem?_map, List.getElem?_take] at hx
          by_cases hj : j < w + 1
          · rw [if_pos hj, getD_some (by omega)] at hx
            cases hx
            rw [Nat.zero_add]
            refine ⟨_, tgT2_o rfl f8 rfl f9, ?_⟩
            walk_at "lw n"
            refine Sm.napp ?_
            walk_at "lw e"
            refine ⟨seq_ix (i := 0) hrow (by omega), ?_⟩
            rw [em]
            walk_at "lw e"
            have hlt : ((linesD n (Mat (t ++ [[0]])) B' w j).map pairD).length < sizeLine := by
              unfold linesD
              simp
              omega
            refine ⟨ix_in (by omega) (by rw [lss_len]; omega), ?_⟩
            rw [Int.toNat_natCast]
            refine ⟨lss_get (by omega), hlt, ?_⟩
            rw [hBj j]
            exact ⟨_, _, lss_set (by omega) hw, rfl, trivial, trivial⟩
          · rw [if_neg hj] at hx; cases hx
        · rintro ς dss ⟨o8, o9, rfl, rfl, f8, f9⟩
          rw [enumD_len, List.length_map, List.length_take, show min (w + 1) L.length = w + 1 by omega, lss_next]
          exact ⟨B', _, _, _, _, hBB, rfl, rfl, trivial, trivial, f8, f9⟩
    · rintro ς dss ⟨B, o6, o7, o8, o9, hB, rfl, rfl, f6, f7, f8, f9⟩
      rw [enumD_len, List.length_append, hxl, htl] at hB ⊢
      walk_at "lw e"
      exact ⟨_, rfl, B, fun w hw => hB w (by simp; omega), lss_all n _ B⟩
end Lw
-- F2
-- F3
-- F4
-- F5
namespace Lw
open PySem PySem.Spec PyProof.Rows L2
local macro_rules | `(tactic| walk_at "lw e") => `(tactic| (repeat (first | (with_reducible refine Stp.go ?_) | (with_reducible apply Exists.intro) | ((with_reducible refine And.intro ?_ ?_); · (first | (with_reducible exact Evl.ev) | ((fail_if_success (with_reducible refine Gd.keep ?_)); (fail_if_success (with_reducible refine Gd5.keep ?_)); rfl) | ((with_reducible apply mul_r); decide) | ((with_reducible apply mul_l); decide) | ((with_reducible apply div_i); decide) | ((with_reducible apply in_R); decide) | (exact Nat.le_of_ble_eq_true rfl) | (simp [refsOf]; done) | (exact ⟨rfl, rfl, by decide⟩) | (exact ⟨rfl, rfl, rfl⟩) | ((with_reducible apply tgN_o); (focus rfl); (focus (first | assumption | trivial))))) | ((with_reducible apply Sm.vrP); (focus rfl)) | ((with_reducible apply Sm.vrO); (focus rfl)) | ((with_reducible apply Sm.augI); (focus rfl)) | ((with_reducible refine Sm.dicE ?_ ?_); (focus decide)) | ((with_reducible apply Sm.augS); (focus rfl)) | ((with_reducible apply Sm.augL); (focus rfl)) | (with_reducible refine iteTT ?_) | (with_reducible refine iteT ?_) | (with_reducible refine iteF ?_) | ((with_reducible refine iteB1 ?_ ?_); (focus rfl)) | ((with_reducible refine iteB0 ?_ ?_); (focus rfl)))))
local macro_rules | `(tactic| walk_at "lw n") => `(tactic| (try dsimp only [ent, List.map, Nat.reduceAdd, Nat.reduceSub, List.length_cons, List.length_nil, List.replicate_succ, List.replicate_zero, List.cons_append, List.nil_append, putBack, setOwn, List.getElem?_cons_zero, List.getElem?_cons_succ, List.set_cons_zero, List.set_cons_succ, Sm.nf]))
local macro_rules | `(tactic| walk_at "lw v") => `(tactic| (try simp only [pb1, pb2, pb3, pb4, pb5, pb6]))
/-! ### merged -/
theorem mrg1_len (kv : KI) (s v : Int) : (mrg1 kv s v).length ≤ kv.length + 1 := by
  unfold mrg1 putI
  split
  · rw [List.length_map]; omega
  · rw [List.length_append]; simp
theorem Sm.dset {is : Nat} {fm : M R} {ς : En} {kv : KI} {Q : En → KI → Prop} {k m : Int} (e : ς[is]? = some (some (.pure (.int k)))) (h : wp (Lw.esc fm) ς fun d ς' => d = .int m ∧ ς' = ς) (hl : kv.length < sizeLine) (q : Q ς (mrg1 kv k m)) : wpn (Lw.dset is fm) ς kv Q := by
  obtain ⟨d, ς', e1, rfl, rfl⟩ := h
  refine ⟨_, _, ?_, q⟩
  unfold Lw.dset
  simp only [e, e1]
  rw [if_pos hl]
  rfl
def lnsD (ls : List Ln) : D := .list (ls.map pairD)
def IMo (rv lv : D) (r : List Int) (lss : List (List Ln)) (i : Nat) (ς : En) (kv : KI) : Prop := ∃ (o3 o4 o5 o6 : Option S), Mg (allL ((r.zip lss).take i)) kv ∧ kv.length ≤ 100 * i ∧ ς = [some (.pure rv), some (.pure lv), none, o3, o4, o5, o6] ∧ Fr o3 ∧ Fr o4 ∧ Fr o5 ∧ Fr o6
def IMi (rv lv : D) (r : List Int) (lss : List (List Ln)) (i : Nat) (more : Int) (ls : List Ln) (j : Nat) (ς : En) (kv : KI) : Prop := ∃ (o5 o6 : Option S), Mg (allL ((r.zip lss).take i) ++ shL more (ls.take j)) kv ∧ kv.length ≤ 100 * i + j ∧ ς = [some (.pure rv), some (.pure lv), none, some (.pure (.int more)), some (.pure (lnsD ls)), o5, o6] ∧ Fr o5 ∧ Fr o6
theorem zip_lss : ∀ (r : List Int) (lss : List (List Ln)), zipD (r.map PyData.int) (lss.map lnsD) = (r.zip lss).map fun z => PyData.tuple [.int z.1, lnsD z.2]
  | [], _ => by cases ‹List (List Ln)› <;> rfl
  | x :: r, [] => rfl
  | x :: r, l :: lss => by
    show PyData.tuple [.int x, lnsD l] :: zipD (r.map PyData.int) (lss.map lnsD) = _
    rw [zip_lss r lss]
    rfl
theorem merged_ok {rv : D} {r : List Int} {lss : List (List Ln)} (hr : Seq rv r) (hl : r.length ≤ 100) (hb : ∀ ls ∈ lss, ls.length ≤ 100) :
    wpf m_p_merged [.pure rv, .pure (.list (lss.map lnsD))] (FreshQ fun x => ∃ kv, Mg (allL (r.zip lss)) kv ∧ x = kv.map pairD) := by
  have hsl : sizeLine = 16777216 := rfl
  have hzl : (r.zip lss).length ≤ 100 := by rw [List.length_zip]; omega
  refine Sm.run ?_
  unfold g_p_merged
  walk_at "lw n"
  refine Sm.dicS rfl ?_
  walk_at "lw n"
  refine Sm.dfor ?_
  walk_at "lw e"
  refine ⟨hr.items, rfl, ?_⟩
  rw [zip_lss]
  refine Sm.dloopInv _ (IMo rv (.list (lss.map lnsD)) r lss) ⟨none, none, none, none, ⟨List.nodup_nil, (fun p h => by cases h), (fun p h => by cases h)⟩, by simp, rfl, trivial, trivial, trivial, trivial⟩ ?_ ?_
  · rintro i x ς kv hx ⟨o3, o4, o5, o6, hM, hkl, rfl, f3, f4, f5, f6⟩
    rw [List.getElem?_map] at hx
    cases q : (r.zip lss)[i]? with
    | none => rw [q] at hx; cases hx
    | some z =>
      rw [q] at hx
      cases hx
      have hz2 : z.2 ∈ lss := (List.of_mem_zip (List.mem_of_getElem? q)).2
      have hzb := hb z.2 hz2
      have hi : i < (r.zip lss).length := (List.getElem?_eq_some_iff.mp q).1
      refine ⟨_, tgT2_o rfl f3 rfl f4, ?_⟩
      walk_at "lw n"
      refine Sm.dfor ?_
      walk_at "lw e"
      unfold lnsD
      walk_at "lw e"
      refine Sm.dloopInv _ (IMi rv (.list (lss.map lnsD)) r lss i z.1 z.2) ⟨o5, o6, by unfold shL; simpa using hM, by omega, rfl, f5, f6⟩ ?_ ?_
      · rintro j x ς kv hx ⟨o5, o6, hM, hkl, rfl, f5, f6⟩
        rw [List.getElem?_map] at hx
        cases q2 : z.2[j]? with
        | none => rw [q2] at hx; cases hx
        | some l =>
          rw [q2] at hx
          cases hx
          have hj : j < z.2.length := (List.getElem?_eq_some_iff.mp q2).1
          refine ⟨_, tgT2_o rfl f5 rfl f6, ?_⟩
          walk_at "lw n"
          refine Sm.dset (k := l.1) (m := l.2 + z.1) rfl ?_ (by omega) ?_
          · walk_at "lw e"
            first | exact ⟨rfl, rfl⟩ | rfl
          · refine ⟨_, _, ?_, ?_, rfl, trivial, trivial⟩
            · have e : shL z.1 (z.2.take (j + 1)) = shL z.1 (z.2.take j) ++ [(l.1, l.2 + z.1)] := by
                unfold shL
                rw [List.take_add_one, q2, List.map_append]
                rfl
              rw [e, ← List.append_assoc]
              exact hM.add l.1 (l.2 + z.1)
            · have := mrg1_len kv l.1 (l.2 + z.1)
              omega
      · rintro ς kv ⟨o5, o6, hM, hkl, rfl, f5, f6⟩
        rw [List.length_map] at hM hkl
        refine ⟨_, _, _, _, ?_, by omega, rfl, trivial, trivial, f5, f6⟩
        rw [List.take_length] at hM
        have e : allL ((r.zip lss).take (i + 1)) = allL ((r.zip lss).take i) ++ shL z.1 z.2 := by
          unfold allL
          rw [List.take_add_one, q, List.flatMap_append]
          simp
        rw [e]
        exact hM
  · rintro ς kv ⟨o3, o4, o5, o6, hM, hkl, rfl, f3, f4, f5, f6⟩
    rw [List.length_map, List.take_length] at hM
    walk_at "lw e"
    exact ⟨_, rfl, kv, hM, rfl⟩
end Lw
-- F2
-- F3
-- F4
-- F5
namespace Lw
open PySem PySem.Spec PyProof.Rows L2
local macro_rules | `(tactic| walk_at "lw e") => `(tactic| (repeat (first | (with_reducible refine Stp.go ?_) | (with_reducible apply Exists.intro) | ((with_reducible refine And.intro ?_ ?_); · (first | (with_reducible exact Evl.ev) | ((fail_if_success (with_reducible refine Gd.keep ?_)); (fail_if_success (with_reducible refine Gd5.keep ?_)); rfl) | ((with_reducible apply mul_r); decide) | ((with_reducible apply mul_l); decide) | ((with_reducible apply div_i); decide) | ((with_reducible apply in_R); decide) | (exact Nat.le_of_ble_eq_true rfl) | (simp [refsOf]; done) | (exact ⟨rfl, rfl, by decide⟩) | (exact ⟨rfl, rfl, rfl⟩) | ((with_reducible apply tgN_o); (focus rfl); (focus (first | assumption | trivial))))) | ((with_reducible apply Sm.vrP); (focus rfl)) | ((with_reducible apply Sm.vrO); (focus rfl)) | ((with_reducible apply Sm.augI); (focus rfl)) | ((with_reducible refine Sm.dicE ?_ ?_); (focus decide)) | ((with_reducible apply Sm.augS); (focus rfl)) | ((with_reducible apply Sm.augL); (focus rfl)) | (with_reducible refine iteTT ?_) | (with_reducible refine iteT ?_) | (with_reducible refine iteF ?_) | ((with_reducible refine iteB1 ?_ ?_); (focus rfl)) | ((with_reducible refine iteB0 ?_ ?_); (focus rfl)))))
local macro_rules | `(tactic| walk_at "lw n") => `(tactic| (try dsimp only [ent, List.map, Nat.reduceAdd, Nat.reduceSub, List.length_cons, List.length_nil, List.replicate_succ, List.replicate_zero, List.cons_append, List.nil_append, putBack, setOwn, List.getElem?_cons_zero, List.getElem?_cons_succ, List.set_cons_zero, List.set_cons_succ, Sm.nf]))
local macro_rules | `(tactic| walk_at "lw v") => `(tactic| (try simp only [pb1, pb2, pb3, pb4, pb5, pb6]))
/-! ### rows_at -/
def RowsQ (n a : Nat) (M : Nat → Nat → Int) (F : Nat → Int) (x : List D) : Prop := ∃ ls rs, ls ≠ [] ∧ ls.length ≤ n + 1 ∧ StB ls ∧ RowsL ls (n : Int) rs ∧ (∀ k : Nat, n ≤ k → lowL ls (k : Int) = F k) ∧ (∀ l ∈ ls, ∃ w, a ≤ w ∧ w ≤ n ∧ l.1 = M w w) ∧ (∀ w, a ≤ w → w ≤ n → ∃ l ∈ ls, l.1 = M w w) ∧ x = rs.map rwT
theorem zw_map (f : List Ln → Int) : ∀ (r : List Int) (lss : List (List Ln)), (r.zip lss).map (fun z => z.1 + f z.2) = List.zipWith (· + ·) r (lss.map f)
  | [], _ => rfl
  | _ :: _, [] => rfl
  | x :: r, l :: lss => by
    rw [List.zip_cons_cons, List.map_cons, zw_map f r lss]
    rfl
def lssA (n : Nat) (M : Nat → Nat → Int) (B : Nat → Nat → Int) : List (List Ln) := (List.range (n + 1)).map fun a => lineS n M B a
theorem lssA_D (n : Nat) (M : Nat → Nat → Int) (B : Nat → Nat → Int) : ((List.range (n + 1)).map fun a => PyData.list ((lineS n M B a).map pairD)) = (lssA n M B).map lnsD := by
  unfold lssA
  rw [List.map_map]
  rfl
theorem lssA_low {n : Nat} {t : Tab} {T : List Int} {B : Nat → Nat → Int} (hs : Shp n t) (hT : T.length = n) (hB : ∀ w, w ≤ n → Begins n (Mat (t ++ [[0]])) (fun a => (T ++ [0]).getD a 0) w (B w)) {k : Nat} (hk : n ≤ k) : (lssA n (Mat (t ++ [[0]])) B).map (fun ls => lowL ls (k : Int)) = iter (Led t) k T ++ [0] := by
  apply List.ext_getElem?
  intro a
  have hl : (iter (Led t) k T ++ [0]).length = n + 1 := by rw [List.length_append, iterLed_len hs k hT]; rfl
  unfold lssA
  by_cases q : a < n + 1
  · rw [List.getElem?_map, List.getElem?_map, List.getElem?_range q]
    show some (lowL (lineS n _ B a) (k : Int)) = _
    rw [line_low (goes_tab hs hT) hB (by omega) hk, getD_some (by omega)]
    rfl
  · rw [List.getElem?_eq_none (by simp; omega), List.getElem?_eq_none (by omega)]
theorem lineS_mem {n : Nat} {M : Nat → Nat → Int} {B : Nat → Nat → Int} {a : Nat} {l : Ln} : l ∈ lineS n M B a ↔ ∃ w, a ≤ w ∧ w ≤ n ∧ l = (M w w, B w a) := by
  unfold lineS
  rw [List.mem_map]
  constructor
  · rintro ⟨j, hj, rfl⟩
    have := List.mem_range.1 hj
    exact ⟨a + j, by omega, by omega, rfl⟩
  · rintro ⟨w, h1, h2, rfl⟩
    exact ⟨w - a, List.mem_range.2 (by omega), by rw [show a + (w - a) = w by omega]⟩
theorem zip_getD {α β : Type} {xs : List α} {ys : List β} {i : Nat} {z : α × β} (h : (xs.zip ys)[i]? = some z) : xs[i]? = some z.1 ∧ ys[i]? = some z.2 := by
  rw [List.zip, List.getElem?_zipWith] at h
  cases h1 : xs[i]? with
  | none => rw [h1] at h; simp at h
  | some x => cases h2 : ys[i]? with
    | none => rw [h1, h2] at h; simp at h
    | some y => rw [h1, h2] at h; cases h; exact ⟨rfl, rfl⟩
theorem rows_at_ok {tv : D} {xs : List D} {t t' : Tab} {T : List Int} {n po : Nat} {B : Nat → Nat → Int} (ht : TabG tv xs t') (hs : Shp n t) (hs' : Shp n t') (hT : T.length = n) (hn : n ≤ 90) (h1 : 1 ≤ po) (h2 : po ≤ n + 1)
    (hB : ∀ w, w ≤ n → Begins n (Mat (t ++ [[0]])) (fun a => (T ++ [0]).getD a 0) w (B w)) (hM : ∀ w, w ≤ n → -9000000000000000000 ≤ Mat (t ++ [[0]]) w w ∧ Mat (t ++ [[0]]) w w ≤ 9000000000000000000) :
    wpf m_p_rows_at [.pure tv, .pure (.list ((lssA n (Mat (t ++ [[0]])) B).map lnsD)), .pure (.int (po : Int))] (FreshQ (RowsQ n (po - 1) (Mat (t ++ [[0]])) fun k => (Led t' (iter (Led t) k T) ++ [0]).getD (po - 1) 0)) := by
  have hsl : sizeLine = 16777216 := rfl
  have htl := hs'.len
  have hxl := ht.len
  have hR := hs'.rws
  obtain ⟨x, ex, sx⟩ := ht.rows.ix (i := po - 1) (by rw [List.length_append]; simp; omega)
  have hrl := hR.2 (po - 1) (by omega)
  refine Sm.run ?_
  unfold g_p_rows_at
  walk_at "lw n"
  walk_at "lw e"
  refine ⟨ht.its, ?_⟩
  walk_at "lw e"
  refine ⟨vals_avs rfl, by simp; omega, ?_⟩
  walk_at "lw e"
  have epo : (po : Int) - 1 = ((po - 1 : Nat) : Int) := by omega
  have ex' : gIx (.list (xs ++ [.tuple [.int 0]])) (.int ((po : Int) - 1)) = some (.pure x) := by rw [epo]; exact ex
  refine ⟨ex', ?_⟩
  walk_at "lw e"
  walk_at "lw n"
  walk_at "lw e"
  have ec : cutD ((lssA n (Mat (t ++ [[0]])) B).map lnsD) (some ((po : Int) - 1)) none = ((lssA n (Mat (t ++ [[0]])) B).drop (po - 1)).map lnsD := by
    rw [epo, List.map_drop, ← cut_from]
  have elen : gLen tv = some (.pure (.int (n : Int))) := by
    rcases items_cases ht.its with e | e <;> (rw [e]; show some (R.pure (.int (xs.length : Int))) = _; rw [hxl, htl])
  refine ⟨elen, ?_⟩
  walk_at "lw e"
  rw [ec]
  refine Sm.fmono (merged_ok (lss := (lssA n (Mat (t ++ [[0]])) B).drop (po - 1)) sx (by omega) fun ls hls => ?_) fun r o hh => ?_
  · obtain ⟨a, ha, rfl⟩ := List.mem_map.1 (List.mem_of_mem_drop hls)
    unfold lineS
    rw [List.length_map, List.length_range]
    omega
  obtain ⟨dd1, rfl, kv, hMg, rfl⟩ := hh
  refine ⟨nfr, ?_⟩
  walk_at "lw v"
  -- what is merged
  have hll : (lssA n (Mat (t ++ [[0]])) B).length = n + 1 := by unfold lssA; rw [List.length_map, List.length_range]
  have hzl : (((t' ++ [[0]]).getD (po - 1) []).zip ((lssA n (Mat (t ++ [[0]])) B).drop (po - 1))).length = n + 1 - (po - 1) := by rw [List.length_zip, List.length_drop, hrl, hll]; omega
  have hzne : (((t' ++ [[0]]).getD (po - 1) []).zip ((lssA n (Mat (t ++ [[0]])) B).drop (po - 1))) ≠ [] := fun e => by rw [e] at hzl; simp at hzl; omega
  have hzi : ∀ (j : Nat) z, (((t' ++ [[0]]).getD (po - 1) []).zip ((lssA n (Mat (t ++ [[0]])) B).drop (po - 1)))[j]? = some z → z.2 = lineS n (Mat (t ++ [[0]])) B (po - 1 + j) ∧ po - 1 + j ≤ n := fun j z hz => by
    have hj : j < n + 1 - (po - 1) := by rw [← hzl]; exact (List.getElem?_eq_some_iff.mp hz).1
    have h2 := (zip_getD hz).2
    rw [List.getElem?_drop] at h2
    unfold lssA at h2
    rw [List.getElem?_map, List.getElem?_range (by omega)] at h2
    exact ⟨(Option.some.inj h2).symm, by omega⟩
  have hz2 : ∀ z ∈ (((t' ++ [[0]]).getD (po - 1) []).zip ((lssA n (Mat (t ++ [[0]])) B).drop (po - 1))), z.2 ≠ [] := fun z hz => by
    obtain ⟨j, hj⟩ := List.mem_iff_getElem?.1 hz
    rw [(hzi j z hj).1]
    exact lineS_ne (hzi j z hj).2
  have hall := (low_all hzne hz2 0).1
  have hkne : kv ≠ [] := by
    intro e
    cases hS : allL (((t' ++ [[0]]).getD (po - 1) []).zip ((lssA n (Mat (t ++ [[0]])) B).drop (po - 1))) with
    | nil => exact hall hS
    | cons p pp =>
      obtain ⟨q, hq, _⟩ := hMg.le p (by rw [hS]; exact List.mem_cons_self ..)
      rw [e] at hq; cases hq
  have hslo : ∀ l ∈ kv, ∃ w, po - 1 ≤ w ∧ w ≤ n ∧ l.1 = Mat (t ++ [[0]]) w w := fun l hl => by
    obtain ⟨z, hz, l2, hl2, rfl⟩ := all_mem.1 (hMg.sub l hl)
    obtain ⟨j, hj⟩ := List.mem_iff_getElem?.1 hz
    rw [(hzi j z hj).1] at hl2
    obtain ⟨w, w1, w2, rfl⟩ := lineS_mem.1 hl2
    exact ⟨w, by omega, w2, rfl⟩
  have hsur : ∀ w, po - 1 ≤ w → w ≤ n → ∃ l ∈ kv, l.1 = Mat (t ++ [[0]]) w w := fun w w1 w2 => by
    obtain ⟨z, hz⟩ : ∃ z, (((t' ++ [[0]]).getD (po - 1) []).zip ((lssA n (Mat (t ++ [[0]])) B).drop (po - 1)))[0]? = some z := ⟨_, List.getElem?_eq_getElem (by omega)⟩
    have hz3 := (hzi 0 z hz).1
    obtain ⟨q, hq, e1, _⟩ := hMg.le (Mat (t ++ [[0]]) w w, B w (po - 1) + z.1) (all_mem.2 ⟨z, List.mem_of_getElem? hz, (Mat (t ++ [[0]]) w w, B w (po - 1)), by rw [hz3]; exact lineS_mem.2 ⟨w, w1, w2, rfl⟩, rfl⟩)
    exact ⟨q, hq, e1⟩
  have hsb : StB kv := fun l hl => by
    obtain ⟨w, _, w2, e⟩ := hslo l hl
    rw [e]
    exact hM w w2
  have hkl : kv.length ≤ n + 1 := by
    have := sub_len (l := kv.map (·.1)) (m := (List.range (n + 1)).map fun w => Mat (t ++ [[0]]) w w) hMg.nd fun x hx => by
      obtain ⟨l, hl, rfl⟩ := List.mem_map.1 hx
      obtain ⟨w, _, w2, e⟩ := hslo l hl
      exact List.mem_map.2 ⟨w, List.mem_range.2 (by omega), e.symm⟩
    simpa using this
  have hF : ∀ k : Nat, n ≤ k → lowL kv (k : Int) = (Led t' (iter (Led t) k T) ++ [0]).getD (po - 1) 0 := fun k hk => by
    have hX : (iter (Led t) k T).length = n := iterLed_len hs k hT
    rw [lAt_le hMg hall (k : Int) (by omega), (low_all hzne hz2 (k : Int)).2, zw_map (fun ls => lowL ls (k : Int)), List.map_drop, lssA_low hs hT hB hk]
    show _ = (ledT t' (iter (Led t) k T ++ [0]) ++ [0]).getD (po - 1) 0
    rw [L_rows hs' hX (po - 1) (by omega)]
    rfl
  walk_at "lw e"
  refine Sm.fmono (rows_from_ok (ls := kv) hkne (by omega) hsb (n : Int)) fun r o hh => ?_
  obtain ⟨dd2, rfl, rs, hrs, rfl⟩ := hh
  refine ⟨nfr, ?_⟩
  walk_at "lw v"
  walk_at "lw e"
  exact ⟨_, rfl, kv, rs, hkne, hkl, hsb, hrs, hF, hslo, hsur, rfl⟩
end Lw
-- F2
-- F3
-- F4
-- F5
namespace Lw
open PySem PySem.Spec PyProof.Rows L2
local macro_rules | `(tactic| walk_at "lw e") => `(tactic| (repeat (first | (with_reducible refine Stp.go ?_) | (with_reducible apply Exists.intro) | ((with_reducible refine And.intro ?_ ?_); · (first | (with_reducible exact Evl.ev) | ((fail_if_success (with_reducible refine Gd.keep ?_)); (fail_if_success (with_reducible refine Gd5.keep ?_)); rfl) | ((with_reducible apply mul_r); decide) | ((with_reducible apply mul_l); decide) | ((with_reducible apply div_i); decide) | ((with_reducible apply in_R); decide) | (exact Nat.le_of_ble_eq_true rfl) | (simp [refsOf]; done) | (exact ⟨rfl, rfl, by decide⟩) | (exact ⟨rfl, rfl, rfl⟩) | ((with_reducible apply tgN_o); (focus rfl); (focus (first | assumption | trivial))))) | ((with_reducible apply Sm.vrP); (focus rfl)) | ((with_reducible apply Sm.vrO); (focus rfl)) | ((with_reducible apply Sm.augI); (focus rfl)) | ((with_reducible refine Sm.dicE ?_ ?_); (focus decide)) | ((with_reducible apply Sm.augS); (focus rfl)) | ((with_reducible apply Sm.augL); (focus rfl)) | (with_reducible refine iteTT ?_) | (with_reducible refine iteT ?_) | (with_reducible refine iteF ?_) | ((with_reducible refine iteB1 ?_ ?_); (focus rfl)) | ((with_reducible refine iteB0 ?_ ?_); (focus rfl)))))
local macro_rules | `(tactic| walk_at "lw n") => `(tactic| (try dsimp only [ent, List.map, Nat.reduceAdd, Nat.reduceSub, List.length_cons, List.length_nil, List.replicate_succ, List.replicate_zero, List.cons_append, List.nil_append, putBack, setOwn, List.getElem?_cons_zero, List.getElem?_cons_succ, List.set_cons_zero, List.set_cons_succ, Sm.nf]))
local macro_rules | `(tactic| walk_at "lw v") => `(tactic| (try simp only [pb1, pb2, pb3, pb4, pb5, pb6]))
/-! ### rows, by what they tell -/
structure RowsF (n : Int) (F : Int → Int) (rs : List Rw) : Prop where
  head : ∃ r rest, rs = r :: rest ∧ r.1 = n
  inc : rs.Pairwise fun a b => a.1 < b.1
  fall : rs.Pairwise fun a b => b.2.1 < a.2.1
  cov : ∀ (i : Nat) r, rs[i]? = some r → ∀ k, r.1 ≤ k → (∀ r', rs[i + 1]? = some r' → k ≤ r'.1) → F k = rAt r k
  nxt : ∀ (i : Nat) r, rs[i]? = some r → F (r.1 + 1) = rAt r (r.1 + 1)
theorem RowsL.le {ls : List Ln} (h : ls ≠ []) {f : Int} {rs : List Rw} (hr : RowsL ls f rs) : ∀ r ∈ rs, f ≤ r.1 ∧ r = rowL ls r.1 := by
  induction hr with
  | last f hb => intro r hm; cases List.mem_singleton.1 hm; exact ⟨Int.le_refl _, rfl⟩
  | next f b rs hb _ ih =>
    intro r hm
    have hf := bend_facts h hb
    rcases List.mem_cons.1 hm with rfl | hm
    · exact ⟨Int.le_refl _, rfl⟩
    · have := ih r hm
      exact ⟨by omega, this.2⟩
theorem RowsL.step_le {ls : List Ln} (h : ls ≠ []) {f : Int} {rs : List Rw} (hr : RowsL ls f rs) : ∀ r ∈ rs, r.2.1 ≤ (rowL ls f).2.1 := by
  induction hr with
  | last f hb => intro r hm; cases List.mem_singleton.1 hm; exact Int.le_refl _
  | next f b rs hb _ ih =>
    intro r hm
    have hf := bend_facts h hb
    rcases List.mem_cons.1 hm with rfl | hm
    · exact Int.le_refl _
    · have := ih r hm
      omega
theorem RowsL.rows {ls : List Ln} (h : ls ≠ []) {f : Int} {rs : List Rw} (hr : RowsL ls f rs) : RowsF f (lowL ls) rs := by
  induction hr with
  | last f hb =>
    refine ⟨⟨_, _, rfl, rfl⟩, List.pairwise_singleton _ _, List.pairwise_singleton _ _, fun i r hi k hk _ => ?_, fun i r hi => ?_⟩
    · cases i with
      | zero => cases hi; exact row_on h hk fun b e => by rw [hb] at e; cases e
      | succ i => cases hi
    · cases i with
      | zero => cases hi; exact (row_next ls f).symm
      | succ i => cases hi
  | next f b rs hb hrs ih =>
    have hf := bend_facts h hb
    have hle := hrs.le h
    have hsl := hrs.step_le h
    refine ⟨⟨_, _, rfl, rfl⟩, List.pairwise_cons.2 ⟨fun r hm => ?_, ih.inc⟩, List.pairwise_cons.2 ⟨fun r hm => ?_, ih.fall⟩, fun i r hi k hk hn => ?_, fun i r hi => ?_⟩
    · have := hle r hm
      show f < r.1
      omega
    · have := hsl r hm
      omega
    · cases i with
      | zero =>
        cases hi
        refine row_on h hk fun b' e => ?_
        rw [hb] at e; cases e
        obtain ⟨r0, rest, e0, e1⟩ := ih.head
        have := hn r0 (by rw [e0]; rfl)
        omega
      | succ i => exact ih.cov i r hi k hk fun r' hr' => hn r' hr'
    · cases i with
      | zero => cases hi; exact (row_next ls f).symm
      | succ i => exact ih.nxt i r hi
/-! ### the first number of rounds at which a difference of rows is below a level -/
end Lw
-- F2
-- F3
-- F4
-- F5
namespace Lw
open PySem PySem.Spec PyProof.Rows L2
local macro_rules | `(tactic| walk_at "lw e") => `(tactic| (repeat (first | (with_reducible refine Stp.go ?_) | (with_reducible apply Exists.intro) | ((with_reducible refine And.intro ?_ ?_); · (first | (with_reducible exact Evl.ev) | ((fail_if_success (with_reducible refine Gd.keep ?_)); (fail_if_success (with_reducible refine Gd5.keep ?_)); rfl) | ((with_reducible apply mul_r); decide) | ((with_reducible apply mul_l); decide) | ((with_reducible apply div_i); decide) | ((with_reducible apply in_R); decide) | (exact Nat.le_of_ble_eq_true rfl) | (simp [refsOf]; done) | (exact ⟨rfl, rfl, by decide⟩) | (exact ⟨rfl, rfl, rfl⟩) | ((with_reducible apply tgN_o); (focus rfl); (focus (first | assumption | trivial))))) | ((with_reducible apply Sm.vrP); (focus rfl)) | ((with_reducible apply Sm.vrO); (focus rfl)) | ((with_reducible apply Sm.augI); (focus rfl)) | ((with_reducible refine Sm.dicE ?_ ?_); (focus decide)) | ((with_reducible apply Sm.augS); (focus rfl)) | ((with_reducible apply Sm.augL); (focus rfl)) | (with_reducible refine iteTT ?_) | (with_reducible refine iteT ?_) | (with_reducible refine iteF ?_) | ((with_reducible refine iteB1 ?_ ?_); (focus rfl)) | ((with_reducible refine iteB0 ?_ ?_); (focus rfl)))))
local macro_rules | `(tactic| walk_at "lw n") => `(tactic| (try dsimp only [ent, List.map, Nat.reduceAdd, Nat.reduceSub, List.length_cons, List.length_nil, List.replicate_succ, List.replicate_zero, List.cons_append, List.nil_append, putBack, setOwn, List.getElem?_cons_zero, List.getElem?_cons_succ, List.set_cons_zero, List.set_cons_succ, Sm.nf]))
local macro_rules | `(tactic| walk_at "lw v") => `(tactic| (try simp only [pb1, pb2, pb3, pb4, pb5, pb6]))
/-! ### row_over, less, first_below -/
def RwB (r : Rw) : Prop := -9000000000000000000 ≤ r.2.1 ∧ r.2.1 ≤ 9000000000000000000
theorem RowsF.ge {n : Int} {F : Int → Int} {rs : List Rw} (h : RowsF n F rs) : ∀ r ∈ rs, n ≤ r.1 := by
  obtain ⟨r0, rest, e, e0⟩ := h.head
  have hi := h.inc
  rw [e] at hi ⊢
  intro r hr
  rcases List.mem_cons.1 hr with rfl | hr
  · omega
  · have := (List.pairwise_cons.1 hi).1 r hr
    omega
end Lw
-- F2
-- F3
-- F4
-- F5
namespace Lw
open PySem PySem.Spec PyProof.Rows L2
local macro_rules | `(tactic| walk_at "lw e") => `(tactic| (repeat (first | (with_reducible refine Stp.go ?_) | (with_reducible apply Exists.intro) | ((with_reducible refine And.intro ?_ ?_); · (first | (with_reducible exact Evl.ev) | ((fail_if_success (with_reducible refine Gd.keep ?_)); (fail_if_success (with_reducible refine Gd5.keep ?_)); rfl) | ((with_reducible apply mul_r); decide) | ((with_reducible apply mul_l); decide) | ((with_reducible apply div_i); decide) | ((with_reducible apply in_R); decide) | (exact Nat.le_of_ble_eq_true rfl) | (simp [refsOf]; done) | (exact ⟨rfl, rfl, by decide⟩) | (exact ⟨rfl, rfl, rfl⟩) | ((with_reducible apply tgN_o); (focus rfl); (focus (first | assumption | trivial))))) | ((with_reducible apply Sm.vrP); (focus rfl)) | ((with_reducible apply Sm.vrO); (focus rfl)) | ((with_reducible apply Sm.augI); (focus rfl)) | ((with_reducible refine Sm.dicE ?_ ?_); (focus decide)) | ((with_reducible apply Sm.augS); (focus rfl)) | ((with_reducible apply Sm.augL); (focus rfl)) | (with_reducible refine iteTT ?_) | (with_reducible refine iteT ?_) | (with_reducible refine iteF ?_) | ((with_reducible refine iteB1 ?_ ?_); (focus rfl)) | ((with_reducible refine iteB0 ?_ ?_); (focus rfl)))))
local macro_rules | `(tactic| walk_at "lw n") => `(tactic| (try dsimp only [ent, List.map, Nat.reduceAdd, Nat.reduceSub, List.length_cons, List.length_nil, List.replicate_succ, List.replicate_zero, List.cons_append, List.nil_append, putBack, setOwn, List.getElem?_cons_zero, List.getElem?_cons_succ, List.set_cons_zero, List.set_cons_succ, Sm.nf]))
local macro_rules | `(tactic| walk_at "lw v") => `(tactic| (try simp only [pb1, pb2, pb3, pb4, pb5, pb6]))
/-! ### dry deeds, round by round -/
def lvAt (ps : List P3) (ds : List Dd) (ls : List Int) (k p : Nat) : List Int := lvs ps (iter (rnd ps ds) k ls) (ds.take p)
def dryAt (ps : List P3) (ds : List Dd) (ls : List Int) (k p : Nat) : Prop := ∃ d, ds[p]? = some d ∧ dry ps (lvAt ps ds ls k p) d = true
structure FirstAt (ps : List P3) (ds : List Dd) (ls : List Int) (k p : Nat) (d : Dd) : Prop where
  at' : ds[p]? = some d
  dr : dry ps (lvAt ps ds ls k p) d = true
  rounds : ∀ k' p', k' < k → ¬ dryAt ps ds ls k' p'
  places : ∀ p', p' < p → ¬ dryAt ps ds ls k p'
def d3 (k p po : Int) : D := .tuple [.int k, .int p, .int po]
theorem lvAt_next {ps : List P3} {ds : List Dd} {ls : List Int} (k : Nat) : lvAt ps ds ls k ds.length = iter (rnd ps ds) (k + 1) ls := by
  unfold lvAt
  rw [List.take_length, iter_succ]
  rfl
end Lw
-- F2
-- F3
-- F4
-- F5
namespace Lw
open PySem PySem.Spec PyProof.Rows L2
local macro_rules | `(tactic| walk_at "lw e") => `(tactic| (repeat (first | (with_reducible refine Stp.go ?_) | (with_reducible apply Exists.intro) | ((with_reducible refine And.intro ?_ ?_); · (first | (with_reducible exact Evl.ev) | ((fail_if_success (with_reducible refine Gd.keep ?_)); (fail_if_success (with_reducible refine Gd5.keep ?_)); rfl) | ((with_reducible apply mul_r); decide) | ((with_reducible apply mul_l); decide) | ((with_reducible apply div_i); decide) | ((with_reducible apply in_R); decide) | (exact Nat.le_of_ble_eq_true rfl) | (simp [refsOf]; done) | (exact ⟨rfl, rfl, by decide⟩) | (exact ⟨rfl, rfl, rfl⟩) | ((with_reducible apply tgN_o); (focus rfl); (focus (first | assumption | trivial))))) | ((with_reducible apply Sm.vrP); (focus rfl)) | ((with_reducible apply Sm.vrO); (focus rfl)) | ((with_reducible apply Sm.augI); (focus rfl)) | ((with_reducible refine Sm.dicE ?_ ?_); (focus decide)) | ((with_reducible apply Sm.augS); (focus rfl)) | ((with_reducible apply Sm.augL); (focus rfl)) | (with_reducible refine iteTT ?_) | (with_reducible refine iteT ?_) | (with_reducible refine iteF ?_) | ((with_reducible refine iteB1 ?_ ?_); (focus rfl)) | ((with_reducible refine iteB0 ?_ ?_); (focus rfl)))))
local macro_rules | `(tactic| walk_at "lw n") => `(tactic| (try dsimp only [ent, List.map, Nat.reduceAdd, Nat.reduceSub, List.length_cons, List.length_nil, List.replicate_succ, List.replicate_zero, List.cons_append, List.nil_append, putBack, setOwn, List.getElem?_cons_zero, List.getElem?_cons_succ, List.set_cons_zero, List.set_cons_succ, Sm.nf]))
local macro_rules | `(tactic| walk_at "lw v") => `(tactic| (try simp only [pb1, pb2, pb3, pb4, pb5, pb6]))
/-! ### far_dry, first_dry -/
theorem lv_tat {ps : List P3} {ds : List Dd} {ls : List Int} (hb : Below ps ls) (ho : ∀ d ∈ ds, d.On ps.length) (k p : Nat) : tots (lvAt ps ds ls k p) = Led (tabOf ps (ds.take p)) (iter (Led (tabOf ps ds)) k (tots ls)) := by
  unfold lvAt
  rw [iter_led ho k hb, Led_lvs (iter_below k hb) fun d m => ho d (List.mem_of_mem_take m)]
def Ttl (ps : List P3) (ds : List Dd) (ls : List Int) (p j k : Nat) : Int := (tots (lvAt ps ds ls k p) ++ [0]).getD j 0
def Norm (ps : List P3) (d : Dd) : Prop := d.On ps.length ∧ ((chg ps d).2 < 0 → (chg ps d).1 = d.at)
theorem mat_sums {ps : List P3} {ds : List Dd} (ho : ∀ d ∈ ds, d.On ps.length) {w : Nat} (hw : w ≤ ps.length) : Mat (tabOf ps ds ++ [[0]]) w w = (sums ps ds ++ [0]).getD w 0 := by
  have hs := tabOf_shp ps ds
  have hl := hs.len
  have hsl := sums_len ps ds
  unfold Mat
  rw [Nat.sub_self]
  by_cases q : w < ps.length
  · have e1 : (tabOf ps ds ++ [[0]]).getD w [] = (tabOf ps ds).getD w [] := by rw [List.getD_eq_getElem?_getD, List.getElem?_append_left (by omega), ← List.getD_eq_getElem?_getD]
    have e2 : (sums ps ds ++ [0]).getD w 0 = (sums ps ds).getD w 0 := by rw [List.getD_eq_getElem?_getD, List.getElem?_append_left (by omega), ← List.getD_eq_getElem?_getD]
    have hw2 : w < (tabOf ps ds).length := by omega
    have e3 : (tabOf ps ds).getD w [] = (tabOf ps ds)[w] := by rw [List.getD_eq_getElem?_getD, List.getElem?_eq_getElem hw2]; rfl
    have e4 : ((tabOf ps ds).map (fun r => r.headD 0)).getD w 0 = ((tabOf ps ds)[w]).headD 0 := by rw [List.getD_eq_getElem?_getD, List.getElem?_map, List.getElem?_eq_getElem hw2]; rfl
    rw [e1, e2, ← hds_tab ho, e3]
    unfold hds
    rw [e4]
    cases (tabOf ps ds)[w] <;> rfl
  · have : w = ps.length := by omega
    subst this
    have e3 : (tabOf ps ds ++ [[0]]).getD ps.length [] = [0] := by rw [List.getD_eq_getElem?_getD, List.getElem?_append_right (by omega), hl, Nat.sub_self]; rfl
    have e4 : (sums ps ds ++ [0]).getD ps.length 0 = 0 := by rw [List.getD_eq_getElem?_getD, List.getElem?_append_right (by omega), hsl, Nat.sub_self]; rfl
    rw [e3, e4]
    rfl
/-! ### the least of found -/
abbrev Fnd := Nat × Nat × Dd
def LexLe (a b : Fnd) : Prop := a.1 < b.1 ∨ (a.1 = b.1 ∧ a.2.1 ≤ b.2.1)
theorem LexLe.trans {a b c : Fnd} (h : LexLe a b) (k : LexLe b c) : LexLe a c := by unfold LexLe at *; omega
end Lw
-- F2
-- F3
-- F4
-- F5
namespace Lw
open PySem PySem.Spec PyProof.Rows L2
local macro_rules | `(tactic| walk_at "lw e") => `(tactic| (repeat (first | (with_reducible refine Stp.go ?_) | (with_reducible apply Exists.intro) | ((with_reducible refine And.intro ?_ ?_); · (first | (with_reducible exact Evl.ev) | ((fail_if_success (with_reducible refine Gd.keep ?_)); (fail_if_success (with_reducible refine Gd5.keep ?_)); rfl) | ((with_reducible apply mul_r); decide) | ((with_reducible apply mul_l); decide) | ((with_reducible apply div_i); decide) | ((with_reducible apply in_R); decide) | (exact Nat.le_of_ble_eq_true rfl) | (simp [refsOf]; done) | (exact ⟨rfl, rfl, by decide⟩) | (exact ⟨rfl, rfl, rfl⟩) | ((with_reducible apply tgN_o); (focus rfl); (focus (first | assumption | trivial))))) | ((with_reducible apply Sm.vrP); (focus rfl)) | ((with_reducible apply Sm.vrO); (focus rfl)) | ((with_reducible apply Sm.augI); (focus rfl)) | ((with_reducible refine Sm.dicE ?_ ?_); (focus decide)) | ((with_reducible apply Sm.augS); (focus rfl)) | ((with_reducible apply Sm.augL); (focus rfl)) | (with_reducible refine iteTT ?_) | (with_reducible refine iteT ?_) | (with_reducible refine iteF ?_) | ((with_reducible refine iteB1 ?_ ?_); (focus rfl)) | ((with_reducible refine iteB0 ?_ ?_); (focus rfl)))))
local macro_rules | `(tactic| walk_at "lw n") => `(tactic| (try dsimp only [ent, List.map, Nat.reduceAdd, Nat.reduceSub, List.length_cons, List.length_nil, List.replicate_succ, List.replicate_zero, List.cons_append, List.nil_append, putBack, setOwn, List.getElem?_cons_zero, List.getElem?_cons_succ, List.set_cons_zero, List.set_cons_succ, Sm.nf]))
local macro_rules | `(tactic| walk_at "lw v") => `(tactic| (try simp only [pb1, pb2, pb3, pb4, pb5, pb6]))
/-! ### a stair, levels and deeds such as these defs take -/
structure Fits (ps : List P3) (ds : List Dd) (ls : List Int) : Prop where
  n1 : 1 ≤ ps.length
  n2 : ps.length ≤ 10
  below : Below ps ls
  on : ∀ d ∈ ds, Norm ps d
  dl : ds.length ≤ 1000
  sm : ∀ x ∈ sums ps ds, -9000000000000000000 ≤ x ∧ x ≤ 9000000000000000000
theorem Fits.mat {ps : List P3} {ds : List Dd} {ls : List Int} (h : Fits ps ds ls) {w : Nat} (hw : w ≤ ps.length) : -9000000000000000000 ≤ Mat (tabOf ps ds ++ [[0]]) w w ∧ Mat (tabOf ps ds ++ [[0]]) w w ≤ 9000000000000000000 := by
  rw [mat_sums (fun d m => (h.on d m).1) hw, List.getD_eq_getElem?_getD]
  cases q : (sums ps ds ++ [0])[w]? with
  | none => exact ⟨by decide, by decide⟩
  | some y =>
    show -9000000000000000000 ≤ y ∧ y ≤ 9000000000000000000
    rcases List.mem_append.1 (List.mem_of_getElem? q) with hm | hm
    · exact h.sm y hm
    · cases List.mem_singleton.1 hm
      exact ⟨by decide, by decide⟩
theorem Fits.ttl {ps : List P3} {ds : List Dd} {ls : List Int} (h : Fits ps ds ls) (p j k : Nat) : (Led (tabOf ps (ds.take p)) (iter (Led (tabOf ps ds)) k (tots ls)) ++ [0]).getD j 0 = Ttl ps ds ls p j k := by
  unfold Ttl
  rw [lv_tat h.below fun d m => (h.on d m).1]
theorem RowsQ.use {n a : Nat} {M : Nat → Nat → Int} {F : Nat → Int} {x : List D} (h : RowsQ n a M F x) (hn : n ≤ 10) : ∃ (G : Int → Int) (rs : List Rw), RowsF (n : Int) G rs ∧ rs.length ≤ 25 ∧ (∀ r ∈ rs, RwB r) ∧ (∀ k : Nat, n ≤ k → G (k : Int) = F k) ∧ x = rs.map rwT := by
  obtain ⟨ls, rs, hne, hl, hb, hr, hF, _, _, e⟩ := h
  refine ⟨lowL ls, rs, hr.rows hne, ?_, fun r hm => ?_, hF, e⟩
  · have := hr.len hne
    have := mu_first hne (n : Int)
    omega
  · rw [(hr.le hne r hm).2]
    exact row_sb hne hb _
def ToldQ (ps : List P3) (ds : List Dd) (ls : List Int) (x : D) : Prop := (x = .tuple [.str "for ever"] ∧ ∀ k p, ¬ dryAt ps ds ls k p) ∨ ∃ k p d, FirstAt ps ds ls k p d ∧ x = .tuple [.str "dry", .int (k : Int), .int (p : Int), .int (d.at : Int)]
end Lw
-- F2
-- F3
-- F4
-- F5
namespace Lw
open PySem PySem.Spec PyProof.Rows L2
local macro_rules | `(tactic| walk_at "lw e") => `(tactic| (repeat (first | (with_reducible refine Stp.go ?_) | (with_reducible apply Exists.intro) | ((with_reducible refine And.intro ?_ ?_); · (first | (with_reducible exact Evl.ev) | ((fail_if_success (with_reducible refine Gd.keep ?_)); (fail_if_success (with_reducible refine Gd5.keep ?_)); rfl) | ((with_reducible apply mul_r); decide) | ((with_reducible apply mul_l); decide) | ((with_reducible apply div_i); decide) | ((with_reducible apply in_R); decide) | (exact Nat.le_of_ble_eq_true rfl) | (simp [refsOf]; done) | (exact ⟨rfl, rfl, by decide⟩) | (exact ⟨rfl, rfl, rfl⟩) | ((with_reducible apply tgN_o); (focus rfl); (focus (first | assumption | trivial))))) | ((with_reducible apply Sm.vrP); (focus rfl)) | ((with_reducible apply Sm.vrO); (focus rfl)) | ((with_reducible apply Sm.augI); (focus rfl)) | ((with_reducible refine Sm.dicE ?_ ?_); (focus decide)) | ((with_reducible apply Sm.augS); (focus rfl)) | ((with_reducible apply Sm.augL); (focus rfl)) | (with_reducible refine iteTT ?_) | (with_reducible refine iteT ?_) | (with_reducible refine iteF ?_) | ((with_reducible refine iteB1 ?_ ?_); (focus rfl)) | ((with_reducible refine iteB0 ?_ ?_); (focus rfl)))))
local macro_rules | `(tactic| walk_at "lw n") => `(tactic| (try dsimp only [ent, List.map, Nat.reduceAdd, Nat.reduceSub, List.length_cons, List.length_nil, List.replicate_succ, List.replicate_zero, List.cons_append, List.nil_append, putBack, setOwn, List.getElem?_cons_zero, List.getElem?_cons_succ, List.set_cons_zero, List.set_cons_succ, Sm.nf]))
local macro_rules | `(tactic| walk_at "lw v") => `(tactic| (try simp only [pb1, pb2, pb3, pb4, pb5, pb6]))
/-! ### rows_of, and that rows are one list only -/
theorem rAt_pin {a b : Rw} (h1 : a.1 = b.1) (h2 : rAt a a.1 = rAt b a.1) (h3 : rAt a (a.1 + 1) = rAt b (a.1 + 1)) : a = b := by
  rw [rAt_succ, rAt_succ] at h3
  have hs : a.2.1 = b.2.1 := by omega
  unfold rAt at h2
  rw [hs] at h2
  have hg : a.2.2 = b.2.2 := by omega
  obtain ⟨f, s, g⟩ := a
  obtain ⟨f', s', g'⟩ := b
  simp only at h1 hs hg
  rw [h1, hs, hg]
theorem RowsF.lt {n : Int} {F : Int → Int} {rs : List Rw} (h : RowsF n F rs) {i j : Nat} {a b : Rw} (ha : rs[i]? = some a) (hb : rs[j]? = some b) (hij : i < j) : a.1 < b.1 ∧ b.2.1 < a.2.1 := by
  obtain ⟨h1, rfl⟩ := List.getElem?_eq_some_iff.1 ha
  obtain ⟨h2, rfl⟩ := List.getElem?_eq_some_iff.1 hb
  exact ⟨List.pairwise_iff_getElem.1 h.inc i j h1 h2 hij, List.pairwise_iff_getElem.1 h.fall i j h1 h2 hij⟩
theorem RowsF.geN {n : Int} {F : Int → Int} {rs : List Rw} (h : RowsF n F rs) {i : Nat} {r : Rw} (e : rs[i]? = some r) : n ≤ r.1 := by
  obtain ⟨a, rest, e1, e2⟩ := h.head
  by_cases q : i = 0
  · subst q
    rw [e1] at e
    cases e
    omega
  · have := h.lt (i := 0) (by rw [e1]; rfl) e (by omega)
    omega
theorem RowsF.at0 {n : Int} {F : Int → Int} {rs : List Rw} (h : RowsF n F rs) {i : Nat} {r : Rw} (e : rs[i]? = some r) : F r.1 = rAt r r.1 := h.cov i r e r.1 (Int.le_refl _) fun r' e' => Int.le_of_lt (h.lt e e' (Nat.lt_succ_self i)).1
/-- behind the end of a row the total is below it -/
theorem RowsF.below {n : Int} {F : Int → Int} {rs : List Rw} (h : RowsF n F rs) {i : Nat} {r a : Rw} (e : rs[i]? = some r) (ea : rs[i + 1]? = some a) : F (a.1 + 1) < rAt r (a.1 + 1) := by
  have hl := h.lt e ea (Nat.lt_succ_self i)
  have h1 := h.cov i r e a.1 (by omega) fun r' e' => by rw [ea] at e'; cases e'; exact Int.le_refl _
  have h2 := h.at0 ea
  rw [h.nxt (i + 1) a ea, rAt_succ, rAt_succ]
  omega
theorem RowsF.uniq {n : Int} {F F' : Int → Int} {rs rs' : List Rw} (h : RowsF n F rs) (h' : RowsF n F' rs') (e : ∀ k, n ≤ k → F k = F' k) : rs = rs' := by
  have same : ∀ {i j : Nat} {a b : Rw}, rs[i]? = some a → rs'[j]? = some b → a.1 = b.1 → a = b := fun {i j a b} ha hb q => by
    have hn := h.geN ha
    refine rAt_pin q ?_ ?_
    · rw [← h.at0 ha, e _ hn, q]
      exact h'.at0 hb
    · rw [← h.nxt i a ha, e _ (by omega), q]
      exact h'.nxt j b hb
  have step : ∀ i : Nat, rs[i]? = rs'[i]? := by
    intro i
    induction i with
    | zero =>
      obtain ⟨a, ra, e1, e2⟩ := h.head
      obtain ⟨b, rb, e3, e4⟩ := h'.head
      have ha : rs[0]? = some a := by rw [e1]; rfl
      have hb : rs'[0]? = some b := by rw [e3]; rfl
      rw [ha, hb, same ha hb (by omega)]
    | succ i ih =>
      cases hr : rs[i]? with
      | none =>
        rw [hr] at ih
        have l1 := List.getElem?_eq_none_iff.1 hr
        have l2 := List.getElem?_eq_none_iff.1 ih.symm
        rw [List.getElem?_eq_none (by omega), List.getElem?_eq_none (by omega)]
      | some r =>
        rw [hr] at ih
        have hr' := ih.symm
        have hn := h.geN hr
        cases ha : rs[i + 1]? with
        | none =>
          cases hb : rs'[i + 1]? with
          | none => rfl
          | some b =>
            have hl := (h'.lt hr' hb (Nat.lt_succ_self i)).1
            have := h'.below hr' hb
            rw [← e _ (by omega), h.cov i r hr _ (by omega) (fun r' e' => by rw [ha] at e'; cases e')] at this
            omega
        | some a =>
          have hla := (h.lt hr ha (Nat.lt_succ_self i)).1
          cases hb : rs'[i + 1]? with
          | none =>
            have := h.below hr ha
            rw [e _ (by omega), h'.cov i r hr' _ (by omega) (fun r' e' => by rw [hb] at e'; cases e')] at this
            omega
          | some b =>
            have hlb := (h'.lt hr' hb (Nat.lt_succ_self i)).1
            rcases Int.lt_trichotomy a.1 b.1 with q | q | q
            · have := h.below hr ha
              rw [e _ (by omega), h'.cov i r hr' _ (by omega) (fun r' e' => by rw [hb] at e'; cases e'; omega)] at this
              omega
            · rw [same ha hb q]
            · have := h'.below hr' hb
              rw [← e _ (by omega), h.cov i r hr _ (by omega) (fun r' e' => by rw [ha] at e'; cases e'; omega)] at this
              omega
  exact List.ext_getElem? step
theorem RowsF.congr {n : Int} {F F' : Int → Int} {rs : List Rw} (h : RowsF n F rs) (e : ∀ k, n ≤ k → F k = F' k) : RowsF n F' rs :=
  ⟨h.head, h.inc, h.fall, fun i r hr k hk hn => by rw [← e k (by have := h.geN hr; omega)]; exact h.cov i r hr k hk hn, fun i r hr => by rw [← e _ (by have := h.geN hr; omega)]; exact h.nxt i r hr⟩
/-- what rows_of tells: the rows of the totals from round n on -/
def RowsZ (ps : List P3) (ds : List Dd) (ls : List Int) (pl j : Nat) (rs : List Rw) : Prop := RowsF (ps.length : Int) (fun k => Ttl ps ds ls pl j k.toNat) rs ∧ rs.length ≤ 25 ∧ ∀ r ∈ rs, RwB r
theorem rows_of_ok {st lv t : D} {xs ts : List D} {ps : List P3} {ls : List Int} {ds : List Dd} {pl po : Nat} (hs : StairG st xs ps) (hv : Seq lv ls) (ht : DeedsG t ts ds) (h : Fits ps ds ls) (h1 : 1 ≤ po) (h2 : po ≤ ps.length + 1) :
    wpf m_p_rows_of [.pure st, .pure lv, .pure t, .pure (.int (pl : Int)), .pure (.int (po : Int))] (FreshQ fun x => ∃ rs, RowsZ ps ds ls pl (po - 1) rs ∧ x = rs.map rwT) := by
  have hsl : sizeLine = 16777216 := rfl
  have n1 := h.n1
  have n2 := h.n2
  have hdl := h.dl
  have hl : ls.length = ps.length := h.below.1
  have hon : ∀ d ∈ ds, d.On ps.length := fun d m => (h.on d m).1
  have htl : (tots ls).length = ps.length := by rw [tots_len, hl]
  have hsh := tabOf_shp ps ds
  obtain ⟨r, d, e1, e2, e3⟩ := sl_to ht.its pl
  have hd2 := ht.take e3
  have ho2 : ∀ e ∈ ds.take pl, e.On ps.length := fun e m => hon e (List.mem_of_mem_take m)
  refine Sm.run ?_
  unfold g_p_rows_of
  walk_at "lw n"
  walk_at "lw e"
  (refine Sm.fmono (table_ok hs ht hon (by omega) (by omega)) fun r o h => ?_; obtain ⟨d, rfl, rfl⟩ := h; refine ⟨nref, ?_⟩; walk_at "lw v"; walk_at "lw e")
  (refine Sm.fmono (totals_ok hv (by omega)) fun r o h => ?_; obtain ⟨d, rfl, rfl⟩ := h; refine ⟨nref, ?_⟩; walk_at "lw v"; walk_at "lw e")
  refine Sm.fmono (lines_ok (T := tots ls) (TabG.of (tabOf ps ds)) hsh (.inr rfl) htl (by omega)) fun r o hh => ?_
  obtain ⟨dd2, rfl, B, hB, rfl⟩ := hh
  refine ⟨nfr, ?_⟩
  rw [lssA_D]
  walk_at "lw v"
  walk_at "lw n"
  walk_at "lw e"
  walk_at "lw n"
  walk_at "lw e"
  refine ⟨e1, _, _, e2 _, ?_⟩
  walk_at "lw e"
  (refine Sm.fmono (table_ok hs hd2 ho2 (by omega) (by rw [List.length_take]; omega)) fun r o h => ?_; obtain ⟨d, rfl, rfl⟩ := h; refine ⟨nref, ?_⟩; walk_at "lw v"; walk_at "lw e")
  refine Sm.fmono (rows_at_ok (t := tabOf ps ds) (T := tots ls) (n := ps.length) (po := po) (TabG.of (tabOf ps (ds.take pl))) hsh (tabOf_shp ps _) htl (by omega) h1 h2 hB fun w hw => h.mat hw) fun r o hh => ?_
  obtain ⟨dd4, rfl, hr1⟩ := hh
  refine ⟨nfr, ?_⟩
  walk_at "lw v"
  obtain ⟨G1, rs, R1, l1, b1, g1, rfl⟩ := hr1.use n2
  walk_at "lw e"
  refine ⟨_, rfl, rs, ⟨R1.congr fun k hk => ?_, l1, b1⟩, rfl⟩
  obtain ⟨m, rfl⟩ : ∃ m : Nat, k = (m : Int) := ⟨k.toNat, by omega⟩
  rw [g1 m (by omega), Int.toNat_natCast]
  exact h.ttl pl (po - 1) m
end Lw
-- F2
namespace Lw
open PySem PySem.Spec PyProof.Rows L2
local macro_rules | `(tactic| walk_at "lw e") => `(tactic| (repeat (first | (with_reducible refine Stp.go ?_) | (with_reducible apply Exists.intro) | ((with_reducible refine And.intro ?_ ?_); · (first | (with_reducible exact Evl.ev) | ((fail_if_success (with_reducible refine Gd.keep ?_)); rfl) | ((with_reducible apply mul_r); decide) | ((with_reducible apply mul_l); decide) | ((with_reducible apply div_i); decide) | ((with_reducible apply in_R); decide) | (exact Nat.le_of_ble_eq_true rfl) | (simp [refsOf]; done) | (exact ⟨rfl, rfl, by decide⟩) | (exact ⟨rfl, rfl, rfl⟩) | ((with_reducible apply tgN_o); (focus rfl); (focus (first | assumption | trivial))))) | ((with_reducible apply Sm.vrP); (focus rfl)) | ((with_reducible apply Sm.vrO); (focus rfl)) | ((with_reducible apply Sm.augI); (focus rfl)) | ((with_reducible refine Sm.dicE ?_ ?_); (focus decide)) | ((with_reducible apply Sm.augS); (focus rfl)) | (with_reducible refine iteTT ?_) | (with_reducible refine iteT ?_) | (with_reducible refine iteF ?_) | ((with_reducible refine iteB1 ?_ ?_); (focus rfl)) | ((with_reducible refine iteB0 ?_ ?_); (focus rfl)))))
local macro_rules | `(tactic| walk_at "lw n") => `(tactic| (try dsimp only [ent, List.map, Nat.reduceAdd, Nat.reduceSub, List.length_cons, List.length_nil, List.replicate_succ, List.replicate_zero, List.cons_append, List.nil_append, putBack, setOwn, List.getElem?_cons_zero, List.getElem?_cons_succ, List.set_cons_zero, List.set_cons_succ, Sm.nf]))
local macro_rules | `(tactic| walk_at "lw v") => `(tactic| (try simp only [pb1, pb2, pb3, pb4]))
/-! ### all numbers so many times as great, each pound so much higher -/
section
variable {s : Int} {hs ls : List Int} {ps : List P3} {ds : List Dd}
theorem FirstAt.dryAt {ps : List P3} {ds : List Dd} {ls : List Int} {k p : Nat} {d : Dd} (h : FirstAt ps ds ls k p d) : dryAt ps ds ls k p := ⟨d, h.at', h.dr⟩
theorem FirstAt.one {ps : List P3} {ds : List Dd} {ls : List Int} {k p k' p' : Nat} {d d' : Dd} (h : FirstAt ps ds ls k p d) (h' : FirstAt ps ds ls k' p' d') : k = k' ∧ p = p' ∧ d = d' := by
  have ek : k = k' := by
    rcases Nat.lt_trichotomy k k' with q | q | q
    · exact absurd h.dryAt (h'.rounds k p q)
    · exact q
    · exact absurd h'.dryAt (h.rounds k' p' q)
  subst ek
  have ep : p = p' := by
    rcases Nat.lt_trichotomy p p' with q | q | q
    · exact absurd h.dryAt (h'.places p q)
    · exact q
    · exact absurd h'.dryAt (h.places p' q)
  subst ep
  exact ⟨rfl, rfl, Option.some.inj (h.at'.symm.trans h'.at')⟩
theorem ToldQ.one {ps : List P3} {ds : List Dd} {ls : List Int} {x y : D} (hx : ToldQ ps ds ls x) (hy : ToldQ ps ds ls y) : x = y := by
  rcases hx with ⟨rfl, hl⟩ | ⟨k, p, d, hf, rfl⟩
  · rcases hy with ⟨rfl, _⟩ | ⟨k', p', d', hf', rfl⟩
    · rfl
    · exact absurd hf'.dryAt (hl _ _)
  · rcases hy with ⟨rfl, hl'⟩ | ⟨k', p', d', hf', rfl⟩
    · exact absurd hf.dryAt (hl' _ _)
    · obtain ⟨rfl, rfl, rfl⟩ := hf.one hf'
      rfl
/-! ### sums, what ran over -/
/-! ### tables -/
def pre : List Int → List Int
  | [] => [0]
  | h :: hs => 0 :: (pre hs).map (h + ·)
end
end Lw
-- F2
namespace Lw
open PySem PySem.Spec PyProof.Rows L2
local macro_rules | `(tactic| walk_at "lw e") => `(tactic| (repeat (first | (with_reducible refine Stp.go ?_) | (with_reducible apply Exists.intro) | ((with_reducible refine And.intro ?_ ?_); · (first | (with_reducible exact Evl.ev) | ((fail_if_success (with_reducible refine Gd.keep ?_)); rfl) | ((with_reducible apply mul_r); decide) | ((with_reducible apply mul_l); decide) | ((with_reducible apply div_i); decide) | ((with_reducible apply in_R); decide) | (exact Nat.le_of_ble_eq_true rfl) | (simp [refsOf]; done) | (exact ⟨rfl, rfl, by decide⟩) | (exact ⟨rfl, rfl, rfl⟩) | ((with_reducible apply tgN_o); (focus rfl); (focus (first | assumption | trivial))))) | ((with_reducible apply Sm.vrP); (focus rfl)) | ((with_reducible apply Sm.vrO); (focus rfl)) | ((with_reducible apply Sm.augI); (focus rfl)) | ((with_reducible refine Sm.dicE ?_ ?_); (focus decide)) | ((with_reducible apply Sm.augS); (focus rfl)) | (with_reducible refine iteTT ?_) | (with_reducible refine iteT ?_) | (with_reducible refine iteF ?_) | ((with_reducible refine iteB1 ?_ ?_); (focus rfl)) | ((with_reducible refine iteB0 ?_ ?_); (focus rfl)))))
local macro_rules | `(tactic| walk_at "lw n") => `(tactic| (try dsimp only [ent, List.map, Nat.reduceAdd, Nat.reduceSub, List.length_cons, List.length_nil, List.replicate_succ, List.replicate_zero, List.cons_append, List.nil_append, putBack, setOwn, List.getElem?_cons_zero, List.getElem?_cons_succ, List.set_cons_zero, List.set_cons_succ, Sm.nf]))
local macro_rules | `(tactic| walk_at "lw v") => `(tactic| (try simp only [pb1, pb2, pb3, pb4]))
/-! ### the upper pounds by themselves -/
end Lw
-- F2
namespace Lw
open PySem PySem.Spec PyProof.Rows L2
local macro_rules | `(tactic| walk_at "lw e") => `(tactic| (repeat (first | (with_reducible refine Stp.go ?_) | (with_reducible apply Exists.intro) | ((with_reducible refine And.intro ?_ ?_); · (first | (with_reducible exact Evl.ev) | ((fail_if_success (with_reducible refine Gd.keep ?_)); rfl) | ((with_reducible apply mul_r); decide) | ((with_reducible apply mul_l); decide) | ((with_reducible apply div_i); decide) | ((with_reducible apply in_R); decide) | (exact Nat.le_of_ble_eq_true rfl) | (simp [refsOf]; done) | (exact ⟨rfl, rfl, by decide⟩) | (exact ⟨rfl, rfl, rfl⟩) | ((with_reducible apply tgN_o); (focus rfl); (focus (first | assumption | trivial))))) | ((with_reducible apply Sm.vrP); (focus rfl)) | ((with_reducible apply Sm.vrO); (focus rfl)) | ((with_reducible apply Sm.augI); (focus rfl)) | ((with_reducible refine Sm.dicE ?_ ?_); (focus decide)) | ((with_reducible apply Sm.augS); (focus rfl)) | (with_reducible refine iteTT ?_) | (with_reducible refine iteT ?_) | (with_reducible refine iteF ?_) | ((with_reducible refine iteB1 ?_ ?_); (focus rfl)) | ((with_reducible refine iteB0 ?_ ?_); (focus rfl)))))
local macro_rules | `(tactic| walk_at "lw n") => `(tactic| (try dsimp only [ent, List.map, Nat.reduceAdd, Nat.reduceSub, List.length_cons, List.length_nil, List.replicate_succ, List.replicate_zero, List.cons_append, List.nil_append, putBack, setOwn, List.getElem?_cons_zero, List.getElem?_cons_succ, List.set_cons_zero, List.set_cons_succ, Sm.nf]))
local macro_rules | `(tactic| walk_at "lw v") => `(tactic| (try simp only [pb1, pb2, pb3, pb4]))
/-! ### rows from a later round on -/
/-! ### a further pound on top -/
end Lw
-- F2
-- F3
-- F4
-- F5
namespace Lw
open PySem PySem.Spec PyProof.Rows L2
local macro_rules | `(tactic| walk_at "lw e") => `(tactic| (repeat (first | (with_reducible refine Stp.go ?_) | (with_reducible apply Exists.intro) | ((with_reducible refine And.intro ?_ ?_); · (first | (with_reducible exact Evl.ev) | ((fail_if_success (with_reducible refine Gd.keep ?_)); (fail_if_success (with_reducible refine Gd5.keep ?_)); rfl) | ((with_reducible apply mul_r); decide) | ((with_reducible apply mul_l); decide) | ((with_reducible apply div_i); decide) | ((with_reducible apply in_R); decide) | (exact Nat.le_of_ble_eq_true rfl) | (simp [refsOf]; done) | (exact ⟨rfl, rfl, by decide⟩) | (exact ⟨rfl, rfl, rfl⟩) | ((with_reducible apply tgN_o); (focus rfl); (focus (first | assumption | trivial))))) | ((with_reducible apply Sm.vrP); (focus rfl)) | ((with_reducible apply Sm.vrO); (focus rfl)) | ((with_reducible apply Sm.augI); (focus rfl)) | ((with_reducible refine Sm.dicE ?_ ?_); (focus decide)) | ((with_reducible apply Sm.augS); (focus rfl)) | ((with_reducible apply Sm.augL); (focus rfl)) | (with_reducible refine iteTT ?_) | (with_reducible refine iteT ?_) | (with_reducible refine iteF ?_) | ((with_reducible refine iteB1 ?_ ?_); (focus rfl)) | ((with_reducible refine iteB0 ?_ ?_); (focus rfl)))))
local macro_rules | `(tactic| walk_at "lw n") => `(tactic| (try dsimp only [ent, List.map, Nat.reduceAdd, Nat.reduceSub, List.length_cons, List.length_nil, List.replicate_succ, List.replicate_zero, List.cons_append, List.nil_append, putBack, setOwn, List.getElem?_cons_zero, List.getElem?_cons_succ, List.set_cons_zero, List.set_cons_succ, Sm.nf]))
local macro_rules | `(tactic| walk_at "lw v") => `(tactic| (try simp only [pb1, pb2, pb3, pb4, pb5, pb6]))
/-! ### drawn worlds fit -/
theorem norm_tk {ps : List P3} {d : Dd} (ho : d.On ps.length) (h : Takes ps d) : Norm ps d := by
  refine ⟨ho, fun q => ?_⟩
  cases d with
  | fill l => rfl
  | lower l m => rfl
  | empty l =>
    have h : 1 ≤ sz ps l := h
    have q : sz ps l < 0 := q
    omega
  | raise l m =>
    have h : 1 ≤ m := h
    have q : m < 0 := q
    omega
def Wthn (ps : List P3) (ls : List Int) : Prop := ls.length = ps.length ∧ ∀ (i : Nat) n, ls[i]? = some n → ∃ p, ps[i]? = some p ∧ p.1 ≤ n ∧ n ≤ p.2.1
theorem Wthn.below {ps : List P3} {ls : List Int} (h : Wthn ps ls) : Below ps ls := by
  refine ⟨h.1, fun z hz => ?_⟩
  obtain ⟨i, hi⟩ := List.mem_iff_getElem?.1 hz
  obtain ⟨h1, h2⟩ := zip_getD hi
  obtain ⟨p, e, _, q⟩ := h.2 i _ h2
  rw [h1] at e; cases e
  exact q
/-! ### more water is no less -/
inductive LeA : List Int → List Int → Prop
  | nil : LeA [] []
  | cons {x y : Int} {xs ys : List Int} : x ≤ y → LeA xs ys → LeA (x :: xs) (y :: ys)
theorem LeA.len {xs ys : List Int} (h : LeA xs ys) : xs.length = ys.length := by
  induction h with
  | nil => rfl
  | cons _ _ ih => rw [List.length_cons, List.length_cons, ih]
theorem LeA.get {xs ys : List Int} (h : LeA xs ys) : ∀ i, xs.getD i 0 ≤ ys.getD i 0 := by
  induction h with
  | nil => intro i; exact Int.le_refl _
  | cons hx _ ih =>
    intro i
    cases i with
    | zero => exact hx
    | succ i => exact ih i
theorem LeA.set {xs ys : List Int} (h : LeA xs ys) {x y : Int} (hxy : x ≤ y) : ∀ i, LeA (xs.set i x) (ys.set i y) := by
  induction h with
  | nil => intro i; exact .nil
  | cons hx hs ih =>
    intro i
    cases i with
    | zero => exact .cons hxy hs
    | succ i => exact .cons hx (ih i)
theorem LeA.of : ∀ {xs ys : List Int}, xs.length = ys.length → (∀ (i : Nat) x y, xs[i]? = some x → ys[i]? = some y → x ≤ y) → LeA xs ys
  | [], [], _, _ => .nil
  | [], _ :: _, h, _ => by cases h
  | _ :: _, [], h, _ => by cases h
  | x :: xs, y :: ys, h, k => .cons (k 0 x y rfl rfl) (LeA.of (by simpa using h) fun i a b ha hb => k (i + 1) a b (by simpa using ha) (by simpa using hb))
end Lw
-- F2
-- F3
-- F4
-- F5
namespace Lw
open PySem PySem.Spec PyProof.Rows L2
local macro_rules | `(tactic| walk_at "lw e") => `(tactic| (repeat (first | (with_reducible refine Stp.go ?_) | (with_reducible apply Exists.intro) | ((with_reducible refine And.intro ?_ ?_); · (first | (with_reducible exact Evl.ev) | ((fail_if_success (with_reducible refine Gd.keep ?_)); (fail_if_success (with_reducible refine Gd5.keep ?_)); rfl) | ((with_reducible apply mul_r); decide) | ((with_reducible apply mul_l); decide) | ((with_reducible apply div_i); decide) | ((with_reducible apply in_R); decide) | (exact Nat.le_of_ble_eq_true rfl) | (simp [refsOf]; done) | (exact ⟨rfl, rfl, by decide⟩) | (exact ⟨rfl, rfl, rfl⟩) | ((with_reducible apply tgN_o); (focus rfl); (focus (first | assumption | trivial))))) | ((with_reducible apply Sm.vrP); (focus rfl)) | ((with_reducible apply Sm.vrO); (focus rfl)) | ((with_reducible apply Sm.augI); (focus rfl)) | ((with_reducible refine Sm.dicE ?_ ?_); (focus decide)) | ((with_reducible apply Sm.augS); (focus rfl)) | ((with_reducible apply Sm.augL); (focus rfl)) | (with_reducible refine iteTT ?_) | (with_reducible refine iteT ?_) | (with_reducible refine iteF ?_) | ((with_reducible refine iteB1 ?_ ?_); (focus rfl)) | ((with_reducible refine iteB0 ?_ ?_); (focus rfl)))))
local macro_rules | `(tactic| walk_at "lw n") => `(tactic| (try dsimp only [ent, List.map, Nat.reduceAdd, Nat.reduceSub, List.length_cons, List.length_nil, List.replicate_succ, List.replicate_zero, List.cons_append, List.nil_append, putBack, setOwn, List.getElem?_cons_zero, List.getElem?_cons_succ, List.set_cons_zero, List.set_cons_succ, Sm.nf]))
local macro_rules | `(tactic| walk_at "lw v") => `(tactic| (try simp only [pb1, pb2, pb3, pb4, pb5, pb6]))
/-! ### stairs with wide pounds -/
structure PoundW (W : Int) (p : P3) : Prop where
  a0 : 0 ≤ p.1
  ab : p.1 ≤ p.2.1
  bw : p.2.1 ≤ W
  s1 : 1 ≤ p.2.2
  s2 : p.2.2 ≤ 10000000000000000
def Amt (A : Int) : Dd → Prop
  | .raise _ m => 1 ≤ m ∧ m ≤ A
  | .lower _ m => 1 ≤ m ∧ m ≤ A
  | _ => True
theorem Amt.mono {A B : Int} (h : A ≤ B) {d : Dd} (k : Amt A d) : Amt B d := by
  cases d with
  | raise l m => exact ⟨k.1, Int.le_trans k.2 h⟩
  | lower l m => exact ⟨k.1, Int.le_trans k.2 h⟩
  | _ => trivial
theorem sz_w {W : Int} {ps : List P3} (hp : ∀ p ∈ ps, PoundW W p) {l : Nat} (h0 : 1 ≤ l) (h1 : l ≤ ps.length) : 1 ≤ sz ps l ∧ sz ps l ≤ 10000000000000000 := by
  unfold sz pAt
  rw [List.getD_eq_getElem?_getD, List.getElem?_eq_getElem (by omega)]
  have := hp _ (List.getElem_mem (by omega : l - 1 < ps.length))
  exact ⟨this.s1, this.s2⟩
theorem takes_w {W A : Int} {ps : List P3} (hp : ∀ p ∈ ps, PoundW W p) {d : Dd} (ho : d.On ps.length) (ha : Amt A d) : Takes ps d := by
  obtain ⟨h1, h2⟩ := ho
  cases d with
  | fill l => exact (sz_w hp h1 h2).1
  | empty l => exact (sz_w hp h1 h2).1
  | raise l m => exact ha.1
  | lower l m => exact ha.1
theorem chg_w {W : Int} {ps : List P3} (hp : ∀ p ∈ ps, PoundW W p) {d : Dd} (ho : d.On ps.length) (ha : Amt 200000000000000000 d) : (chg ps d).2.natAbs ≤ 200000000000000000 := by
  obtain ⟨h1, h2⟩ := ho
  cases d with
  | fill l =>
    have := sz_w hp (l := l) h1 h2
    show (-sz ps l).natAbs ≤ _
    omega
  | empty l =>
    have := sz_w hp (l := l) h1 h2
    show (sz ps l).natAbs ≤ _
    omega
  | raise l m =>
    have ha : 1 ≤ m ∧ m ≤ 200000000000000000 := ha
    show m.natAbs ≤ _
    omega
  | lower l m =>
    have ha : 1 ≤ m ∧ m ≤ 200000000000000000 := ha
    show (-m).natAbs ≤ _
    omega
theorem sums_w {W : Int} {ps : List P3} (hp : ∀ p ∈ ps, PoundW W p) {ds : List Dd} (hl : ds.length ≤ 40) (hd : ∀ d ∈ ds, d.On ps.length ∧ Amt 200000000000000000 d) : ∀ x ∈ sums ps ds, x.natAbs ≤ 8000000000000000000 := by
  intro x hx
  unfold sums at hx
  obtain ⟨i, _, rfl⟩ := List.mem_map.1 hx
  have := sumAt_bd (ps := ps) (ds := ds) (j := 1 + (i : Int)) (B := 200000000000000000) fun d m => chg_w hp (hd d m).1 (hd d m).2
  have : ds.length * 200000000000000000 ≤ 40 * 200000000000000000 := Nat.mul_le_mul_right _ hl
  omega
theorem fits_w {W : Int} {ps : List P3} (h1 : 1 ≤ ps.length) (hl : ps.length ≤ 10) (hp : ∀ p ∈ ps, PoundW W p) {ds : List Dd} (hdl : ds.length ≤ 40) (hd : ∀ d ∈ ds, d.On ps.length ∧ Amt 200000000000000000 d) {ls : List Int} (hb : Below ps ls) : Fits ps ds ls := by
  refine ⟨h1, hl, hb, fun d m => norm_tk (hd d m).1 (takes_w hp (hd d m).1 (hd d m).2), by omega, fun x hx => ?_⟩
  have := sums_w hp hdl hd x hx
  omega
/-! ### strict walks -/
/-! ### levels stay within, as long as nothing is dry -/
end Lw
-- F2
-- F3
-- F4
-- F5
namespace Lw
open PySem PySem.Spec PyProof.Rows L2
local macro_rules | `(tactic| walk_at "lw e") => `(tactic| (repeat (first | (with_reducible refine Stp.go ?_) | (with_reducible apply Exists.intro) | ((with_reducible refine And.intro ?_ ?_); · (first | (with_reducible exact Evl.ev) | ((fail_if_success (with_reducible refine Gd.keep ?_)); (fail_if_success (with_reducible refine Gd5.keep ?_)); rfl) | ((with_reducible apply mul_r); decide) | ((with_reducible apply mul_l); decide) | ((with_reducible apply div_i); decide) | ((with_reducible apply in_R); decide) | (exact Nat.le_of_ble_eq_true rfl) | (simp [refsOf]; done) | (exact ⟨rfl, rfl, by decide⟩) | (exact ⟨rfl, rfl, rfl⟩) | ((with_reducible apply tgN_o); (focus rfl); (focus (first | assumption | trivial))))) | ((with_reducible apply Sm.vrP); (focus rfl)) | ((with_reducible apply Sm.vrO); (focus rfl)) | ((with_reducible apply Sm.augI); (focus rfl)) | ((with_reducible refine Sm.dicE ?_ ?_); (focus decide)) | ((with_reducible apply Sm.augS); (focus rfl)) | ((with_reducible apply Sm.augL); (focus rfl)) | (with_reducible refine iteTT ?_) | (with_reducible refine iteT ?_) | (with_reducible refine iteF ?_) | ((with_reducible refine iteB1 ?_ ?_); (focus rfl)) | ((with_reducible refine iteB0 ?_ ?_); (focus rfl)))))
local macro_rules | `(tactic| walk_at "lw n") => `(tactic| (try dsimp only [ent, List.map, Nat.reduceAdd, Nat.reduceSub, List.length_cons, List.length_nil, List.replicate_succ, List.replicate_zero, List.cons_append, List.nil_append, putBack, setOwn, List.getElem?_cons_zero, List.getElem?_cons_succ, List.set_cons_zero, List.set_cons_succ, Sm.nf]))
local macro_rules | `(tactic| walk_at "lw v") => `(tactic| (try simp only [pb1, pb2, pb3, pb4, pb5, pb6]))
/-! ### rounds as one row of deeds without end -/
def runD (ps : List P3) (E : Nat → Dd) (L : List Int) : Nat → List Int
  | 0 => L
  | N + 1 => aft ps (runD ps E L N) (E N)
def dryN (ps : List P3) (E : Nat → Dd) (ls : List Int) (N : Nat) : Prop := dry ps (runD ps E ls N) (E N) = true
structure FirstN (ps : List P3) (E : Nat → Dd) (ls : List Int) (N : Nat) : Prop where
  dr : dryN ps E ls N
  fst : ∀ M, M < N → ¬ dryN ps E ls M
theorem FirstN.uniq {ps : List P3} {E : Nat → Dd} {ls : List Int} {N M : Nat} (h : FirstN ps E ls N) (k : FirstN ps E ls M) : N = M := by
  by_cases q : N < M
  · exact absurd h.dr (k.fst N q)
  · by_cases q2 : M < N
    · exact absurd k.dr (h.fst M q2)
    · omega
/-! ### rounds put otherwise -/
end Lw
-- F2
-- F3
-- F4
-- F5
namespace Lw
open PySem PySem.Spec PyProof.Rows L2
local macro_rules | `(tactic| walk_at "lw e") => `(tactic| (repeat (first | (with_reducible refine Stp.go ?_) | (with_reducible apply Exists.intro) | ((with_reducible refine And.intro ?_ ?_); · (first | (with_reducible exact Evl.ev) | ((fail_if_success (with_reducible refine Gd.keep ?_)); (fail_if_success (with_reducible refine Gd5.keep ?_)); rfl) | ((with_reducible apply mul_r); decide) | ((with_reducible apply mul_l); decide) | ((with_reducible apply div_i); decide) | ((with_reducible apply in_R); decide) | (exact Nat.le_of_ble_eq_true rfl) | (simp [refsOf]; done) | (exact ⟨rfl, rfl, by decide⟩) | (exact ⟨rfl, rfl, rfl⟩) | ((with_reducible apply tgN_o); (focus rfl); (focus (first | assumption | trivial))))) | ((with_reducible apply Sm.vrP); (focus rfl)) | ((with_reducible apply Sm.vrO); (focus rfl)) | ((with_reducible apply Sm.augI); (focus rfl)) | ((with_reducible refine Sm.dicE ?_ ?_); (focus decide)) | ((with_reducible apply Sm.augS); (focus rfl)) | ((with_reducible apply Sm.augL); (focus rfl)) | (with_reducible refine iteTT ?_) | (with_reducible refine iteT ?_) | (with_reducible refine iteF ?_) | ((with_reducible refine iteB1 ?_ ?_); (focus rfl)) | ((with_reducible refine iteB0 ?_ ?_); (focus rfl)))))
local macro_rules | `(tactic| walk_at "lw n") => `(tactic| (try dsimp only [ent, List.map, Nat.reduceAdd, Nat.reduceSub, List.length_cons, List.length_nil, List.replicate_succ, List.replicate_zero, List.cons_append, List.nil_append, putBack, setOwn, List.getElem?_cons_zero, List.getElem?_cons_succ, List.set_cons_zero, List.set_cons_succ, Sm.nf]))
local macro_rules | `(tactic| walk_at "lw v") => `(tactic| (try simp only [pb1, pb2, pb3, pb4, pb5, pb6]))
/-! ### wide pounds, drawn levels in them -/
def PoundG (g : Nat) (p : Int × Int × Int) : Prop := ∃ a b s : Int, p = (a * g, (a + b) * g, s * g) ∧ 0 ≤ a ∧ a < 4 ∧ 0 ≤ b ∧ b < 200000 ∧ 1 ≤ s ∧ s < 5
theorem PoundI.g {g : Nat} {p : P3} (h : PoundI g p) : PoundG g p := by
  obtain ⟨a, b, s, rfl, h1, h2, h3, h4, h5, h6⟩ := h
  exact ⟨a, b, s, rfl, h1, h2, h3, by omega, h5, h6⟩
theorem PoundG.w {g : Nat} (hg1 : 1 ≤ g) (hg : g ≤ 1000000000000000) {p : P3} (h : PoundG g p) : PoundW 300000000000000000000 p := by
  obtain ⟨a, b, s, rfl, h1, h2, h3, h4, h5, h6⟩ := h
  have k1 : 0 ≤ a * (g : Int) := Int.mul_nonneg h1 (by omega)
  have k2 : (a + b) * (g : Int) = a * g + b * g := Int.add_mul _ _ _
  have k3 : 0 ≤ b * (g : Int) := Int.mul_nonneg h3 (by omega)
  have k4 : (a + b) * (g : Int) ≤ 200004 * g := Int.mul_le_mul_of_nonneg_right (by omega) (by omega)
  have e1 : 1 * 1 ≤ s * (g : Int) := Int.mul_le_mul h5 (by omega) (by omega) (by omega)
  have e2 : s * (g : Int) ≤ 4 * g := Int.mul_le_mul_of_nonneg_right (by omega) (by omega)
  exact ⟨k1, by show a * (g : Int) ≤ (a + b) * g; omega, by show (a + b) * (g : Int) ≤ _; omega, by show 1 ≤ s * (g : Int); omega, by show s * (g : Int) ≤ _; omega⟩
/-! ### a law that is right several times over each box -/
end Lw
-- F2
-- F3
-- F4
-- F5
namespace Lw
open PySem PySem.Spec PyProof.Rows L2
local macro_rules | `(tactic| walk_at "lw e") => `(tactic| (repeat (first | (with_reducible refine Stp.go ?_) | (with_reducible apply Exists.intro) | ((with_reducible refine And.intro ?_ ?_); · (first | (with_reducible exact Evl.ev) | ((fail_if_success (with_reducible refine Gd.keep ?_)); (fail_if_success (with_reducible refine Gd5.keep ?_)); rfl) | ((with_reducible apply mul_r); decide) | ((with_reducible apply mul_l); decide) | ((with_reducible apply div_i); decide) | ((with_reducible apply in_R); decide) | (exact Nat.le_of_ble_eq_true rfl) | (simp [refsOf]; done) | (exact ⟨rfl, rfl, by decide⟩) | (exact ⟨rfl, rfl, rfl⟩) | ((with_reducible apply tgN_o); (focus rfl); (focus (first | assumption | trivial))))) | ((with_reducible apply Sm.vrP); (focus rfl)) | ((with_reducible apply Sm.vrO); (focus rfl)) | ((with_reducible apply Sm.augI); (focus rfl)) | ((with_reducible refine Sm.dicE ?_ ?_); (focus decide)) | ((with_reducible apply Sm.augS); (focus rfl)) | ((with_reducible apply Sm.augL); (focus rfl)) | (with_reducible refine iteTT ?_) | (with_reducible refine iteT ?_) | (with_reducible refine iteF ?_) | ((with_reducible refine iteB1 ?_ ?_); (focus rfl)) | ((with_reducible refine iteB0 ?_ ?_); (focus rfl)))))
local macro_rules | `(tactic| walk_at "lw n") => `(tactic| (try dsimp only [ent, List.map, Nat.reduceAdd, Nat.reduceSub, List.length_cons, List.length_nil, List.replicate_succ, List.replicate_zero, List.cons_append, List.nil_append, putBack, setOwn, List.getElem?_cons_zero, List.getElem?_cons_succ, List.set_cons_zero, List.set_cons_succ, Sm.nf]))
local macro_rules | `(tactic| walk_at "lw v") => `(tactic| (try simp only [pb1, pb2, pb3, pb4, pb5, pb6]))
/-! ### things that may be compared -/
def Sh0 (e : Nat) (d : D) : Prop := d.canLay0 = true ∧ d.depth ≤ e
theorem Sh0.int (e : Nat) (i : Int) : Sh0 e (.int i) := ⟨rfl, Nat.zero_le _⟩
theorem Sh0.bool (e : Nat) (b : Bool) : Sh0 e (.bool b) := ⟨rfl, Nat.zero_le _⟩
theorem Sh0.non (e : Nat) : Sh0 e .none := ⟨rfl, Nat.zero_le _⟩
theorem Sh0.str (e : Nat) (w : String) : Sh0 e (.str w) := ⟨strOk_str w, Nat.zero_le _⟩
theorem Sh0.tup {e : Nat} {xs : List D} (h : ∀ x ∈ xs, Sh0 e x) : Sh0 (e + 1) (.tuple xs) := by
  refine ⟨lay_all fun x hx => (h x hx).1, ?_⟩
  unfold PyData.depth
  have := depth_all (e := e) fun x hx => (h x hx).2
  omega
theorem Sh0.lst {e : Nat} {xs : List D} (h : ∀ x ∈ xs, Sh0 e x) : Sh0 (e + 1) (.list xs) := by
  refine ⟨lay_all fun x hx => (h x hx).1, ?_⟩
  unfold PyData.depth
  have := depth_all (e := e) fun x hx => (h x hx).2
  omega
theorem Sh0.sh {e : Nat} {d : D} (h : Sh0 e d) (he : e ≤ 64) : SeqAt.shaped d = true := by
  unfold SeqAt.shaped
  rw [h.1, decide_eq_true (Nat.le_trans h.2 he)]
  rfl
theorem Sh0.mono {e e' : Nat} {d : D} (h : Sh0 e d) (he : e ≤ e') : Sh0 e' d := ⟨h.1, Nat.le_trans h.2 he⟩
theorem ne_self {e : Nat} {d : D} (h : Sh0 e d) (he : e ≤ 64) : gNe d d = some (.pure (.bool false)) := by rw [ne_ok (h.sh he) (h.sh he), SeqAt.eqv_refl d h.1]; rfl
end Lw
-- F2
-- F3
-- F4
-- F5
namespace Lw
open PySem PySem.Spec PyProof.Rows L2
local macro_rules | `(tactic| walk_at "lw e") => `(tactic| (repeat (first | (with_reducible refine Stp.go ?_) | (with_reducible apply Exists.intro) | ((with_reducible refine And.intro ?_ ?_); · (first | (with_reducible exact Evl.ev) | ((fail_if_success (with_reducible refine Gd.keep ?_)); (fail_if_success (with_reducible refine Gd5.keep ?_)); rfl) | ((with_reducible apply mul_r); decide) | ((with_reducible apply mul_l); decide) | ((with_reducible apply div_i); decide) | ((with_reducible apply in_R); decide) | (exact Nat.le_of_ble_eq_true rfl) | (simp [refsOf]; done) | (exact ⟨rfl, rfl, by decide⟩) | (exact ⟨rfl, rfl, rfl⟩) | ((with_reducible apply tgN_o); (focus rfl); (focus (first | assumption | trivial))))) | ((with_reducible apply Sm.vrP); (focus rfl)) | ((with_reducible apply Sm.vrO); (focus rfl)) | ((with_reducible apply Sm.augI); (focus rfl)) | ((with_reducible refine Sm.dicE ?_ ?_); (focus decide)) | ((with_reducible apply Sm.augS); (focus rfl)) | ((with_reducible apply Sm.augL); (focus rfl)) | (with_reducible refine iteTT ?_) | (with_reducible refine iteT ?_) | (with_reducible refine iteF ?_) | ((with_reducible refine iteB1 ?_ ?_); (focus rfl)) | ((with_reducible refine iteB0 ?_ ?_); (focus rfl)))))
local macro_rules | `(tactic| walk_at "lw n") => `(tactic| (try dsimp only [ent, List.map, Nat.reduceAdd, Nat.reduceSub, List.length_cons, List.length_nil, List.replicate_succ, List.replicate_zero, List.cons_append, List.nil_append, putBack, setOwn, List.getElem?_cons_zero, List.getElem?_cons_succ, List.set_cons_zero, List.set_cons_succ, Sm.nf]))
local macro_rules | `(tactic| walk_at "lw v") => `(tactic| (try simp only [pb1, pb2, pb3, pb4, pb5, pb6]))
/-! ### things of any size that are the same -/
def LeafS : D → Prop
  | .none => True
  | .bool _ => True
  | .int _ => True
  | .str w => Sh0 0 (.str w)
  | _ => False
def OkS : Nat → D → Prop
  | 0, d => LeafS d
  | e + 1, .list xs => xs.length ≤ 10000 ∧ ∀ x ∈ xs, OkS e x
  | e + 1, .tuple xs => xs.length ≤ 10000 ∧ ∀ x ∈ xs, OkS e x
  | _ + 1, d => LeafS d
theorem LeafS.sh {d : D} (h : LeafS d) : Sh0 0 d := by
  cases d with
  | none => exact Sh0.non 0
  | bool b => exact Sh0.bool 0 b
  | int i => exact Sh0.int 0 i
  | str w => exact h
  | list xs => exact h.elim
  | tuple xs => exact h.elim
  | dict xs => exact h.elim
theorem OkS.sh : ∀ {e : Nat} {d : D}, OkS e d → Sh0 e d
  | 0, d, h => LeafS.sh h
  | e + 1, d, h => by
    cases d with
    | none => exact Sh0.non _
    | bool b => exact Sh0.bool _ b
    | int i => exact Sh0.int _ i
    | str w => exact (show LeafS (.str w) from h).sh.mono (Nat.zero_le _)
    | list xs => exact Sh0.lst fun x hx => (h.2 x hx).sh
    | tuple xs => exact Sh0.tup fun x hx => (h.2 x hx).sh
    | dict xs => exact (show LeafS (.dict xs) from h).elim
theorem OkS.int (e : Nat) (i : Int) : OkS e (.int i) := by cases e <;> trivial
theorem OkS.bool (e : Nat) (b : Bool) : OkS e (.bool b) := by cases e <;> trivial
theorem OkS.non (e : Nat) : OkS e .none := by cases e <;> trivial
theorem OkS.str (e : Nat) (w : String) : OkS e (.str w) := by cases e <;> exact Sh0.str 0 w
end Lw
-- F2
-- F3
-- F4
-- F5
namespace Lw
open PySem PySem.Spec PyProof.Rows L2
local macro_rules | `(tactic| walk_at "lw e") => `(tactic| (repeat (first | (with_reducible refine Stp.go ?_) | (with_reducible apply Exists.intro) | ((with_reducible refine And.intro ?_ ?_); · (first | (with_reducible exact Evl.ev) | ((fail_if_success (with_reducible refine Gd.keep ?_)); (fail_if_success (with_reducible refine Gd5.keep ?_)); rfl) | ((with_reducible apply mul_r); decide) | ((with_reducible apply mul_l); decide) | ((with_reducible apply div_i); decide) | ((with_reducible apply in_R); decide) | (exact Nat.le_of_ble_eq_true rfl) | (simp [refsOf]; done) | (exact ⟨rfl, rfl, by decide⟩) | (exact ⟨rfl, rfl, rfl⟩) | ((with_reducible apply tgN_o); (focus rfl); (focus (first | assumption | trivial))))) | ((with_reducible apply Sm.vrP); (focus rfl)) | ((with_reducible apply Sm.vrO); (focus rfl)) | ((with_reducible apply Sm.augI); (focus rfl)) | ((with_reducible refine Sm.dicE ?_ ?_); (focus decide)) | ((with_reducible apply Sm.augS); (focus rfl)) | ((with_reducible apply Sm.augL); (focus rfl)) | (with_reducible refine iteTT ?_) | (with_reducible refine iteT ?_) | (with_reducible refine iteF ?_) | ((with_reducible refine iteB1 ?_ ?_); (focus rfl)) | ((with_reducible refine iteB0 ?_ ?_); (focus rfl)))))
local macro_rules | `(tactic| walk_at "lw n") => `(tactic| (try dsimp only [ent, List.map, Nat.reduceAdd, Nat.reduceSub, List.length_cons, List.length_nil, List.replicate_succ, List.replicate_zero, List.cons_append, List.nil_append, putBack, setOwn, List.getElem?_cons_zero, List.getElem?_cons_succ, List.set_cons_zero, List.set_cons_succ, Sm.nf]))
local macro_rules | `(tactic| walk_at "lw v") => `(tactic| (try simp only [pb1, pb2, pb3, pb4, pb5, pb6]))
/-! ### where nothing is ever dry no sum is below 0 -/
/-! ### totals bend down from round n on -/
end Lw
namespace K18
open PySem PySem.Spec PyProof.Rows L2 Lw
def g_l_cut : MS :=
  (sq (asg (op2 (g2I fun i j => if j > i then j else i) (vr 0) (op2 gDivA (op2 gSubA (op2 gAddA (op2 gSubA (vr 3) (vr 2)) (vr 1)) (cn (.int 1))) (vr 1))) (tgN 4))
  (sq (ifS (tst (op2 gEq (vr 4) (vr 0))) (retS (ife (tst (op2 gGe (op2 gAddA (vr 2) (op2 gMulA (vr 1) (vr 0))) (vr 3))) (lstE (argV (tupE (argV (vr 0) (argV (cn (.int 0)) (argV (vr 3) argN)))) argN)) (lstE argN))) skip)
  (sq (par2 5 6 true false (op2 gMulV (lstE (argV (tupE (argV (vr 0) (argV (vr 1) (argV (vr 2) argN)))) argN)) (cal1 gInt (op2 gGt (op2 gSubA (vr 4) (cn (.int 1))) (vr 0)))) (op2 gAddA (vr 2) (op2 gMulA (vr 1) (op2 gSubA (vr 4) (cn (.int 1))))))
  (sq (asg (op2 gSubA (vr 3) (vr 6)) (tgN 7))
  (sq (ifS (orT (tst (op2 gLt (vr 7) (vr 1))) (tst (op2 gEq (vr 5) (lstE argN)))) (exS (mth hApp (vr 5) (argV (tupE (argV (op2 gSubA (vr 4) (cn (.int 1))) (argV (vr 7) (argV (op2 gSubA (vr 6) (op2 gMulA (vr 7) (op2 gSubA (vr 4) (cn (.int 1))))) argN)))) argN))) skip)
  (retS (op2 gAddA (vr 5) (lstE (argV (tupE (argV (vr 4) (argV (cn (.int 0)) (argV (vr 3) argN)))) argN)))))))))
def m_l_cut : Fsem := runFn g_l_cut 8
def g_l_one_right : MS :=
  (sq (par2 1 2 false false (callE (m_l_take 4) (argR (vr 0) (argV (cn (.int 9)) argN))) (op2 gAddA (cn (.int 1)) (callE (m_l_take 4) (argR (vr 0) (argV (op2 gPowA (cn (.int 10)) (cn (.int 9))) argN)))))
  (sq (asg (op2 gAddA (vr 1) (callE (m_l_take 4) (argR (vr 0) (argV (op2 gIx (lstE (argV (cn (.int 9)) (argV (op2 gPowA (cn (.int 10)) (cn (.int 6))) (argV (op2 gPowA (cn (.int 10)) (cn (.int 17))) argN)))) (callE (m_l_take 4) (argR (vr 0) (argV (cn (.int 3)) argN)))) argN)))) (tgN 3))
  (sq (par2 4 5 false false (tupE (argV (tupE (argV (vr 1) (argV (vr 3) (argV (vr 2) argN)))) argN)) (op2 gAddA (cn (.int 1)) (callE (m_l_take 4) (argR (vr 0) (argV (op2 gIx (lstE (argV (cn (.int 9)) (argV (op2 gPowA (cn (.int 10)) (cn (.int 5))) (argV (op2 gPowA (cn (.int 10)) (cn (.int 17))) argN)))) (callE (m_l_take 4) (argR (vr 0) (argV (cn (.int 3)) argN)))) argN)))))
  (sq (asg (tupE (argV (op2 gSubA (vr 3) (callE (m_l_take 4) (argR (vr 0) (argV (op2 gAddA (vr 3) (cn (.int 1))) argN)))) argN)) (tgN 6))
  (sq (par2 7 8 false false (callE m_l_cut (argV (cn (.int 1)) (argV (vr 5) (argV (op2 gIx (vr 6) (cn (.int 0))) (argV (vr 3) argN))))) (lstE (argV (tupE (argV (cn (.str "raise")) (argV (cn (.int 1)) (argV (vr 5) argN)))) argN)))
  (sq (ifS (orT (tst (op2 gNe (callE m_p_rows_of (argV (vr 4) (argV (vr 6) (argV (vr 8) (argV (cn (.int 0)) (argV (cn (.int 1)) argN)))))) (vr 7))) (tst (op2 gNe (callE m_p_rows_of (argV (vr 4) (argV (vr 6) (argV (vr 8) (argV (cn (.int 0)) (argV (cn (.int 2)) argN)))))) (lstE (argV (tupE (argV (cn (.int 1)) (argV (cn (.int 0)) (argV (cn (.int 0)) argN)))) argN))))) (retS (cn (.bool false))) skip)
  (sq (asg (lstE (argV (tupE (argV (cn (.str "raise")) (argV (cn (.int 1)) (argV (vr 5) argN)))) (argV (tupE (argV (cn (.str "fill")) (argV (cn (.int 1)) argN))) (argV (tupE (argV (cn (.str "empty")) (argV (cn (.int 1)) argN))) (argV (tupE (argV (cn (.str "raise")) (argV (cn (.int 1)) (argV (vr 2) argN)))) argN))))) (tgN 9))
  (sq (ifS (tst (op2 gNe (callE m_p_rows_of (argV (vr 4) (argV (vr 6) (argV (vr 9) (argV (cn (.int 4)) (argV (cn (.int 1)) argN)))))) (callE m_l_cut (argV (cn (.int 1)) (argV (vr 5) (argV (op2 gAddA (op2 gIx (vr 6) (cn (.int 0))) (vr 5)) (argV (vr 3) argN))))))) (retS (cn (.bool false))) skip)
  (sq (ifS (tst (op2 gNe (callE m_p_rows_of (argV (vr 4) (argV (vr 6) (argV (lstE (argV (tupE (argV (cn (.str "lower")) (argV (cn (.int 1)) (argV (vr 5) argN)))) argN)) (argV (cn (.int 0)) (argV (cn (.int 1)) argN)))))) (lstE (argV (tupE (argV (cn (.int 1)) (argV (op2 gSubA (cn (.int 0)) (vr 5)) (argV (op2 gIx (vr 6) (cn (.int 0))) argN)))) argN)))) (retS (cn (.bool false))) skip)
  (sq (ifS (tst (op2 gNe (callE m_p_rows_of (argV (vr 4) (argV (vr 6) (argV (lstE (argV (tupE (argV (cn (.str "lower")) (argV (cn (.int 1)) (argV (vr 5) argN)))) argN)) (argV (cn (.int 1)) (argV (cn (.int 1)) argN)))))) (lstE (argV (tupE (argV (cn (.int 1)) (argV (op2 gSubA (cn (.int 0)) (vr 5)) (argV (op2 gSubA (op2 gIx (vr 6) (cn (.int 0))) (vr 5)) argN)))) argN)))) (retS (cn (.bool false))) skip)
  (sq (asg (callE (m_l_take 4) (argR (vr 0) (argV (op2 gPowA (cn (.int 10)) (cn (.int 18))) argN))) (tgN 10))
  (sq (asg (op2 (g2I fun i j => if j > i then j else i) (cn (.int 0)) (op2 gSubA (op2 gAddA (op2 gIx (vr 6) (cn (.int 0))) (op2 gMulA (vr 5) (vr 10))) (vr 3))) (tgN 11))
  (sq (asg (lstE (argV (callE m_p_far_levels (argV (vr 4) (argV (vr 6) (argV (lstE (argV (tupE (argV (cn (.str "raise")) (argV (cn (.int 1)) (argV (vr 5) argN)))) argN)) (argV (vr 10) argN))))) (argV (callE m_p_ran_over (argV (vr 4) (argV (vr 6) (argV (lstE (argV (tupE (argV (cn (.str "raise")) (argV (cn (.int 1)) (argV (vr 5) argN)))) argN)) (argV (vr 10) argN))))) argN))) (tgN 12))
  (retS (op2 gEq (vr 12) (lstE (argV (tupE (argV (op2 (g2I fun i j => if j < i then j else i) (vr 3) (op2 gAddA (op2 gIx (vr 6) (cn (.int 0))) (op2 gMulA (vr 5) (vr 10)))) argN)) (argV (tupE (argV (vr 11) argN)) argN))))))))))))))))))
def m_l_one_right : Fsem := runFn g_l_one_right 13
def g_l_two_right : MS :=
  (sq (asg (op2 gAddA (cn (.int 1)) (callE (m_l_take 4) (argR (vr 0) (argV (cn (.int 99)) argN)))) (tgN 1))
  (sq (asg (op2 gAddA (vr 1) (callE (m_l_take 4) (argR (vr 0) (argV (op2 gPowA (cn (.int 10)) (cn (.int 12))) argN)))) (tgN 2))
  (sq (asg (tupE (argV (tupE (argV (cn (.int 0)) (argV (vr 2) (argV (cn (.int 5)) argN)))) (argV (tupE (argV (cn (.int 0)) (argV (op2 gMulA (cn (.int 2)) (vr 1)) (argV (vr 1) argN)))) argN))) (tgN 3))
  (sq (par2 4 5 false false (lstE (argV (tupE (argV (cn (.str "raise")) (argV (cn (.int 2)) (argV (vr 1) argN)))) (argV (tupE (argV (cn (.str "fill")) (argV (cn (.int 2)) argN))) (argV (tupE (argV (cn (.str "empty")) (argV (cn (.int 2)) argN))) argN)))) (tupE (argV (callE (m_l_take 4) (argR (vr 0) (argV (op2 gAddA (vr 2) (cn (.int 1))) argN))) (argV (vr 1) argN))))
  (sq (ifS (tst (op2 gNe (callE m_p_rows_of (argV (vr 3) (argV (vr 5) (argV (vr 4) (argV (cn (.int 0)) (argV (cn (.int 2)) argN)))))) (lstE (argV (tupE (argV (cn (.int 2)) (argV (cn (.int 0)) (argV (vr 1) argN)))) argN)))) (retS (cn (.bool false))) skip)
  (sq (par2 6 7 false false (callE m_p_rows_of (argV (vr 3) (argV (vr 5) (argV (vr 4) (argV (cn (.int 0)) (argV (cn (.int 1)) argN)))))) (op2 gAddA (op2 gIx (vr 5) (cn (.int 0))) (vr 1)))
  (sq (ifS (tst (op2 gLt (op2 gDivA (op2 gSubA (vr 2) (op2 gIx (vr 5) (cn (.int 0)))) (vr 1)) (cn (.int 3)))) (retS (op2 gEq (op2 gIx (vr 6) (negV (cn (.int 1)))) (tupE (argV (op2 gIx (op2 gIx (vr 6) (negV (cn (.int 1)))) (cn (.int 0))) (argV (cn (.int 0)) (argV (op2 gAddA (vr 2) (vr 1)) argN)))))) skip)
  (sq (par2 8 9 false false (op2 gDivA (op2 gSubA (vr 2) (op2 gIx (vr 5) (cn (.int 0)))) (vr 1)) (cal1 gInt (op2 gGt (op2 gModA (op2 gSubA (vr 2) (op2 gIx (vr 5) (cn (.int 0)))) (vr 1)) (cn (.int 0)))))
  (sq (ifS (orT (tst (op2 gNe (op2 gIx (vr 6) (cn (.int 0))) (tupE (argV (cn (.int 2)) (argV (vr 1) (argV (vr 7) argN)))))) (tst (op2 gNe (slE (op2 gIx (vr 6) (negV (cn (.int 1)))) (ptS (cn (.int 1))) ptN) (tupE (argV (cn (.int 0)) (argV (op2 gAddA (vr 2) (vr 1)) argN)))))) (retS (cn (.bool false))) skip)
  (retS (andV (op2 gEq (op2 gIx (op2 gIx (vr 6) (negV (cn (.int 1)))) (cn (.int 0))) (op2 gAddA (vr 8) (vr 9))) (op2 gEq (cal1 gLen (vr 6)) (op2 gAddA (cn (.int 2)) (vr 9))))))))))))))
def m_l_two_right : Fsem := runFn g_l_two_right 10
def g_l_right : MS :=
  (retS (andV (callE m_l_one_right (argR (vr 0) argN)) (callE m_l_two_right (argR (vr 0) argN))))
def m_l_right : Fsem := runFn g_l_right 1
def g_p_law : MS :=
  (sq (asg (callE m_l_folded (argV (vr 0) (argV (cn (.int 4)) argN))) (tgN 1))
  (retS (cal1 gAll (lcE (itR1 (op2 (g2I fun i j => if j > i then j else i) (cn (.int 2)) (cal1 gLen (vr 1)))) [2] (tgN 2) (ret true) (callF m_l_right (callE m_l_box (argV (vr 1) (argV (vr 2) argN))))))))
def m_p_law : Fsem := runFn g_p_law 3
end K18
-- F2
-- F3
-- F4
-- F5
namespace K18
open PySem PySem.Spec PyProof.Rows L2 Lw
local macro_rules | `(tactic| walk_at "lw e") => `(tactic| (repeat (first | (with_reducible refine Stp.go ?_) | (with_reducible apply Exists.intro) | ((with_reducible refine And.intro ?_ ?_); · (first | (with_reducible exact Evl.ev) | ((fail_if_success (with_reducible refine Gd.keep ?_)); (fail_if_success (with_reducible refine Gd5.keep ?_)); rfl) | ((with_reducible apply mul_r); decide) | ((with_reducible apply mul_l); decide) | ((with_reducible apply div_i); decide) | ((with_reducible apply in_R); decide) | (exact Nat.le_of_ble_eq_true rfl) | (simp [refsOf]; done) | (exact ⟨rfl, rfl, by decide⟩) | (exact ⟨rfl, rfl, rfl⟩) | ((with_reducible apply tgN_o); (focus rfl); (focus (first | assumption | trivial))))) | ((with_reducible apply Sm.vrP); (focus rfl)) | ((with_reducible apply Sm.vrO); (focus rfl)) | ((with_reducible apply Sm.augI); (focus rfl)) | ((with_reducible refine Sm.dicE ?_ ?_); (focus decide)) | ((with_reducible apply Sm.augS); (focus rfl)) | ((with_reducible apply Sm.augL); (focus rfl)) | (with_reducible refine iteTT ?_) | (with_reducible refine iteT ?_) | (with_reducible refine iteF ?_) | ((with_reducible refine iteB1 ?_ ?_); (focus rfl)) | ((with_reducible refine iteB0 ?_ ?_); (focus rfl)))))
local macro_rules | `(tactic| walk_at "lw n") => `(tactic| (try dsimp only [ent, List.map, Nat.reduceAdd, Nat.reduceSub, List.length_cons, List.length_nil, List.replicate_succ, List.replicate_zero, List.cons_append, List.nil_append, putBack, setOwn, List.getElem?_cons_zero, List.getElem?_cons_succ, List.set_cons_zero, List.set_cons_succ, Sm.nf]))
local macro_rules | `(tactic| walk_at "lw v") => `(tactic| (try simp only [pb1, pb2, pb3, pb4, pb5, pb6]))
/-! ### the rows of a rising line that is cut -/
def fullC (first step begin top : Int) : Int := if (top - begin + step - 1) / step > first then (top - begin + step - 1) / step else first
def cutR (first step begin top : Int) : List Rw :=
  if fullC first step begin top = first then [(first, 0, top)] else
    (if fullC first step begin top - 1 > first then [(first, step, begin)] else []) ++
    (if top - (begin + step * (fullC first step begin top - 1)) < step ∨ ¬ fullC first step begin top - 1 > first then [(fullC first step begin top - 1, top - (begin + step * (fullC first step begin top - 1)), begin + step * (fullC first step begin top - 1) - (top - (begin + step * (fullC first step begin top - 1))) * (fullC first step begin top - 1))] else []) ++
    [(fullC first step begin top, 0, top)]
theorem full_le {first step begin top : Int} (hs : 0 < step) (h : fullC first step begin top = first) : top ≤ begin + step * first := by
  unfold fullC at h
  have e : (top - begin + step - 1) / step ≤ first := by
    split at h <;> omega
  have h1 := Int.lt_ediv_add_one_mul_self (top - begin + step - 1) hs
  have h2 : ((top - begin + step - 1) / step + 1) * step ≤ (first + 1) * step := Int.mul_le_mul_of_nonneg_right (by omega) (by omega)
  have h3 : (first + 1) * step = step * first + step := by rw [Int.add_mul, Int.one_mul, Int.mul_comm]
  omega
theorem full_gt {first step begin top : Int} (hs : 0 < step) (h : ¬ fullC first step begin top = first) : first < fullC first step begin top ∧ begin + step * (fullC first step begin top - 1) < top ∧ top ≤ begin + step * fullC first step begin top := by
  have e : fullC first step begin top = (top - begin + step - 1) / step ∧ first < (top - begin + step - 1) / step := by
    unfold fullC at *
    split at h
    · rename_i q
      rw [if_pos q]
      exact ⟨rfl, q⟩
    · exact absurd rfl h
  rw [e.1]
  refine ⟨e.2, ?_, ?_⟩
  · have h1 := Int.ediv_mul_le (top - begin + step - 1) (Int.ne_of_gt hs)
    have h3 : step * ((top - begin + step - 1) / step - 1) = (top - begin + step - 1) / step * step - step := by rw [Int.mul_sub, Int.mul_comm, Int.mul_one]
    omega
  · have h1 := Int.lt_ediv_add_one_mul_self (top - begin + step - 1) hs
    have h3 : ((top - begin + step - 1) / step + 1) * step = step * ((top - begin + step - 1) / step) + step := by rw [Int.add_mul, Int.one_mul, Int.mul_comm]
    omega
theorem rows1 {n : Int} {F : Int → Int} {a : Rw} (h0 : a.1 = n) (h1 : ∀ k, n ≤ k → F k = rAt a k) : RowsF n F [a] := by
  refine ⟨⟨a, [], rfl, h0⟩, List.pairwise_singleton _ _, List.pairwise_singleton _ _, fun i r e k hk _ => ?_, fun i r e => ?_⟩
  · match i, e with
    | 0, e => cases e; exact h1 k (by omega)
  · match i, e with
    | 0, e => cases e; exact h1 _ (by omega)
theorem rows2 {n : Int} {F : Int → Int} {a b : Rw} (h0 : a.1 = n) (hab : a.1 < b.1) (hs : b.2.1 < a.2.1) (h1 : ∀ k, n ≤ k → k ≤ b.1 → F k = rAt a k) (h2 : ∀ k, b.1 ≤ k → F k = rAt b k) : RowsF n F [a, b] := by
  refine ⟨⟨a, [b], rfl, h0⟩, ?_, ?_, fun i r e k hk hn => ?_, fun i r e => ?_⟩
  · exact List.pairwise_cons.2 ⟨fun x hx => by cases List.mem_singleton.1 hx; exact hab, List.pairwise_singleton _ _⟩
  · exact List.pairwise_cons.2 ⟨fun x hx => by cases List.mem_singleton.1 hx; exact hs, List.pairwise_singleton _ _⟩
  · match i, e with
    | 0, e => cases e; exact h1 k (by omega) (hn b rfl)
    | 1, e => cases e; exact h2 k hk
  · match i, e with
    | 0, e => cases e; exact h1 _ (by omega) (by omega)
    | 1, e => cases e; exact h2 _ (by omega)
theorem rows3 {n : Int} {F : Int → Int} {a b c : Rw} (h0 : a.1 = n) (hab : a.1 < b.1) (hbc : b.1 < c.1) (hs : b.2.1 < a.2.1) (hs2 : c.2.1 < b.2.1) (h1 : ∀ k, n ≤ k → k ≤ b.1 → F k = rAt a k) (h2 : ∀ k, b.1 ≤ k → k ≤ c.1 → F k = rAt b k) (h3 : ∀ k, c.1 ≤ k → F k = rAt c k) : RowsF n F [a, b, c] := by
  refine ⟨⟨a, [b, c], rfl, h0⟩, ?_, ?_, fun i r e k hk hn => ?_, fun i r e => ?_⟩
  · refine List.pairwise_cons.2 ⟨fun x hx => ?_, List.pairwise_cons.2 ⟨fun x hx => by cases List.mem_singleton.1 hx; exact hbc, List.pairwise_singleton _ _⟩⟩
    simp only [List.mem_cons, List.not_mem_nil, or_false] at hx
    rcases hx with rfl | rfl
    · exact hab
    · omega
  · refine List.pairwise_cons.2 ⟨fun x hx => ?_, List.pairwise_cons.2 ⟨fun x hx => by cases List.mem_singleton.1 hx; exact hs2, List.pairwise_singleton _ _⟩⟩
    simp only [List.mem_cons, List.not_mem_nil, or_false] at hx
    rcases hx with rfl | rfl
    · exact hs
    · omega
  · match i, e with
    | 0, e => cases e; exact h1 k (by omega) (hn b rfl)
    | 1, e => cases e; exact h2 k hk (hn c rfl)
    | 2, e => cases e; exact h3 k hk
  · match i, e with
    | 0, e => cases e; exact h1 _ (by omega) (by omega)
    | 1, e => cases e; exact h2 _ (by omega) (by omega)
    | 2, e => cases e; exact h3 _ (by omega)
def minI (a b : Int) : Int := if b < a then b else a
theorem cut_rows {first step begin top : Int} (hs : 0 < step) : RowsF first (fun k => minI top (begin + step * k)) (cutR first step begin top) := by
  have lo : ∀ {k}, begin + step * k < top → minI top (begin + step * k) = begin + step * k := fun h => by unfold minI; rw [if_pos h]
  have hi : ∀ {k}, top ≤ begin + step * k → minI top (begin + step * k) = top := fun h => by unfold minI; rw [if_neg (by omega)]
  unfold cutR
  by_cases q : fullC first step begin top = first
  · rw [if_pos q]
    have := full_le hs q
    refine rows1 rfl fun k hk => ?_
    have h2 : step * first ≤ step * k := Int.mul_le_mul_of_nonneg_left hk (by omega)
    show minI top (begin + step * k) = top + 0 * k
    rw [hi (by omega), Int.zero_mul, Int.add_zero]
  · rw [if_neg q]
    obtain ⟨h1, h2, h3⟩ := full_gt hs q
    generalize fullC first step begin top = f at *
    have es : step * f = step * (f - 1) + step := by rw [Int.mul_sub, Int.mul_one]; omega
    have below : ∀ k, k ≤ f - 1 → begin + step * k < top := fun k hk => by
      have := Int.mul_le_mul_of_nonneg_left hk (show 0 ≤ step by omega)
      omega
    have above : ∀ k, f ≤ k → top ≤ begin + step * k := fun k hk => by
      have := Int.mul_le_mul_of_nonneg_left hk (show 0 ≤ step by omega)
      omega
    generalize hL : begin + step * (f - 1) = L at *
    have mid : ∀ k, f - 1 ≤ k → k ≤ f → minI top (begin + step * k) = L - (top - L) * (f - 1) + (top - L) * k := fun k a b => by
      have hk : k = f - 1 ∨ k = f := by omega
      rcases hk with rfl | rfl
      · rw [lo (by omega), hL]
        omega
      · rw [hi (above _ (Int.le_refl _))]
        have : (top - L) * k = (top - L) * (k - 1) + (top - L) := by rw [Int.mul_sub, Int.mul_one]; omega
        omega
    by_cases q2 : f - 1 > first
    · rw [if_pos q2]
      by_cases q3 : top - L < step
      · rw [if_pos (.inl q3)]
        refine rows3 rfl q2 (by show f - 1 < f; omega) (by show top - L < step; omega) (by show (0 : Int) < top - L; omega) (fun k a b => ?_) (fun k a b => ?_) (fun k a => ?_)
        · exact lo (below k b)
        · exact mid k a b
        · show minI top (begin + step * k) = top + 0 * k
          rw [hi (above k a), Int.zero_mul, Int.add_zero]
      · rw [if_neg (by omega)]
        refine rows2 rfl h1 (by show (0 : Int) < step; omega) (fun k a b => ?_) (fun k a => ?_)
        · show minI top (begin + step * k) = begin + step * k
          have b : k ≤ f := b
          by_cases q4 : k ≤ f - 1
          · exact lo (below k q4)
          · have : k = f := by omega
            subst this
            rw [hi (above _ (Int.le_refl _))]
            omega
        · show minI top (begin + step * k) = top + 0 * k
          rw [hi (above k a), Int.zero_mul, Int.add_zero]
    · rw [if_neg q2, if_pos (.inr q2)]
      have hf : f - 1 = first := by omega
      refine rows2 hf (by show f - 1 < f; omega) (by show (0 : Int) < top - L; omega) (fun k a b => ?_) (fun k a => ?_)
      · exact mid k (by omega) b
      · show minI top (begin + step * k) = top + 0 * k
        rw [hi (above k a), Int.zero_mul, Int.add_zero]
end K18
-- F2
-- F3
-- F4
-- F5
namespace K18
open PySem PySem.Spec PyProof.Rows L2 Lw
local macro_rules | `(tactic| walk_at "lw e") => `(tactic| (repeat (first | (with_reducible refine Stp.go ?_) | (with_reducible apply Exists.intro) | ((with_reducible refine And.intro ?_ ?_); · (first | (with_reducible exact Evl.ev) | ((fail_if_success (with_reducible refine Gd.keep ?_)); (fail_if_success (with_reducible refine Gd5.keep ?_)); rfl) | ((with_reducible apply mul_r); decide) | ((with_reducible apply mul_l); decide) | ((with_reducible apply div_i); decide) | ((with_reducible apply in_R); decide) | (exact Nat.le_of_ble_eq_true rfl) | (simp [refsOf]; done) | (exact ⟨rfl, rfl, by decide⟩) | (exact ⟨rfl, rfl, rfl⟩) | ((with_reducible apply tgN_o); (focus rfl); (focus (first | assumption | trivial))))) | ((with_reducible apply Sm.vrP); (focus rfl)) | ((with_reducible apply Sm.vrO); (focus rfl)) | ((with_reducible apply Sm.augI); (focus rfl)) | ((with_reducible refine Sm.dicE ?_ ?_); (focus decide)) | ((with_reducible apply Sm.augS); (focus rfl)) | ((with_reducible apply Sm.augL); (focus rfl)) | (with_reducible refine iteTT ?_) | (with_reducible refine iteT ?_) | (with_reducible refine iteF ?_) | ((with_reducible refine iteB1 ?_ ?_); (focus rfl)) | ((with_reducible refine iteB0 ?_ ?_); (focus rfl)))))
local macro_rules | `(tactic| walk_at "lw n") => `(tactic| (try dsimp only [ent, List.map, Nat.reduceAdd, Nat.reduceSub, List.length_cons, List.length_nil, List.replicate_succ, List.replicate_zero, List.cons_append, List.nil_append, putBack, setOwn, List.getElem?_cons_zero, List.getElem?_cons_succ, List.set_cons_zero, List.set_cons_succ, Sm.nf]))
local macro_rules | `(tactic| walk_at "lw v") => `(tactic| (try simp only [pb1, pb2, pb3, pb4, pb5, pb6]))
theorem rep1 (t : D) : gMulV (.list [t]) (.int 1) = some (.fresh [t]) := repL_ok (ds := [t]) (n := 1) (by simp)
theorem rep0 (t : D) : gMulV (.list [t]) (.int 0) = some (.fresh []) := repL_ok (ds := [t]) (n := 0) (by simp)
theorem cut_ok {first step begin top : Int} (h0 : 0 < step) (h1 : step < 1000000000000000000) (hf : 0 ≤ first ∧ first ≤ 10) (hq : (top - begin + step - 1) / step < 1000000000000000000) : wpf m_l_cut [.pure (.int first), .pure (.int step), .pure (.int begin), .pure (.int top)] (FreshQ fun x => x = (cutR first step begin top).map rwT) := by
  have hsl : sizeLine = 16777216 := rfl
  have hfl : fullC first step begin top < 1000000000000000000 ∧ 0 ≤ fullC first step begin top := by
    unfold fullC
    split <;> omega
  refine Sm.run ?_
  unfold g_l_cut
  walk_at "lw n"
  walk_at "lw e"
  refine ⟨div_i (by omega), ?_⟩
  walk_at "lw e"
  have ef : (if (top - begin + step - 1) / step > first then (top - begin + step - 1) / step else first) = fullC first step begin top := rfl
  dsimp only
  simp only [ef]
  by_cases q : fullC first step begin top = first
  · refine iteB1 (by rw [eqv_int]; exact decide_eq_true q) ?_
    walk_at "lw e"
    refine ⟨mul_r (j := first) (by omega), ?_⟩
    walk_at "lw e"
    refine iteDT (full_le h0 q) ?_
    walk_at "lw e"
    exact ⟨_, rfl, by unfold cutR; rw [if_pos q]; rfl⟩
  · refine iteB0 (by rw [eqv_int]; exact decide_eq_false q) ?_
    have hR : cutR first step begin top = (if fullC first step begin top - 1 > first then [(first, step, begin)] else []) ++
    (if top - (begin + step * (fullC first step begin top - 1)) < step ∨ ¬ fullC first step begin top - 1 > first then [(fullC first step begin top - 1, top - (begin + step * (fullC first step begin top - 1)), begin + step * (fullC first step begin top - 1) - (top - (begin + step * (fullC first step begin top - 1))) * (fullC first step begin top - 1))] else []) ++
    [(fullC first step begin top, 0, top)] := by unfold cutR; rw [if_neg q]
    generalize fullC first step begin top = f at *
    by_cases q2 : first < f - 1
    · have q2' : f - 1 > first := q2
      walk_at "lw e"
      rw [decide_eq_true q2, if_pos rfl]
      refine ⟨rep1 _, ?_⟩
      walk_at "lw e"
      refine ⟨mul_r (j := f - 1) (by omega), ?_⟩
      walk_at "lw e"
      walk_at "lw n"
      walk_at "lw e"
      by_cases q3 : top - (begin + step * (f - 1)) < step
      · refine iteDT q3 ?_
        walk_at "lw e"
        refine ⟨mul_r (j := f - 1) (by omega), ?_⟩
        walk_at "lw e"
        walk_at "lw n"
        walk_at "lw e"
        exact ⟨_, rfl, by rw [hR, if_pos q2', if_pos (.inl q3)]; rfl⟩
      · refine iteDF q3 ?_
        walk_at "lw e"
        exact ⟨_, rfl, by rw [hR, if_pos q2', if_neg (fun hh => hh.elim q3 (fun z => z q2'))]; rfl⟩
    · have q2' : ¬ f - 1 > first := q2
      walk_at "lw e"
      rw [decide_eq_false q2, if_neg (by decide)]
      refine ⟨rep0 _, ?_⟩
      walk_at "lw e"
      refine ⟨mul_r (j := f - 1) (by omega), ?_⟩
      walk_at "lw e"
      walk_at "lw n"
      walk_at "lw e"
      by_cases q3 : top - (begin + step * (f - 1)) < step
      · refine iteDT q3 ?_
        walk_at "lw e"
        refine ⟨mul_r (j := f - 1) (by omega), ?_⟩
        walk_at "lw e"
        walk_at "lw n"
        walk_at "lw e"
        exact ⟨_, rfl, by rw [hR, if_neg q2', if_pos (.inl q3)]; rfl⟩
      · refine iteDF q3 ?_
        walk_at "lw e"
        refine ⟨mul_r (j := f - 1) (by omega), ?_⟩
        walk_at "lw e"
        walk_at "lw n"
        walk_at "lw e"
        exact ⟨_, rfl, by rw [hR, if_neg q2', if_pos (.inr q2')]; rfl⟩
end K18
-- F2
-- F3
-- F4
-- F5
namespace K18
open PySem PySem.Spec PyProof.Rows L2 Lw
local macro_rules | `(tactic| walk_at "lw e") => `(tactic| (repeat (first | (with_reducible refine Stp.go ?_) | (with_reducible apply Exists.intro) | ((with_reducible refine And.intro ?_ ?_); · (first | (with_reducible exact Evl.ev) | ((fail_if_success (with_reducible refine Gd.keep ?_)); (fail_if_success (with_reducible refine Gd5.keep ?_)); rfl) | ((with_reducible apply mul_r); decide) | ((with_reducible apply mul_l); decide) | ((with_reducible apply div_i); decide) | ((with_reducible apply in_R); decide) | (exact Nat.le_of_ble_eq_true rfl) | (simp [refsOf]; done) | (exact ⟨rfl, rfl, by decide⟩) | (exact ⟨rfl, rfl, rfl⟩) | ((with_reducible apply tgN_o); (focus rfl); (focus (first | assumption | trivial))))) | ((with_reducible apply Sm.vrP); (focus rfl)) | ((with_reducible apply Sm.vrO); (focus rfl)) | ((with_reducible apply Sm.augI); (focus rfl)) | ((with_reducible refine Sm.dicE ?_ ?_); (focus decide)) | ((with_reducible apply Sm.augS); (focus rfl)) | ((with_reducible apply Sm.augL); (focus rfl)) | (with_reducible refine iteTT ?_) | (with_reducible refine iteT ?_) | (with_reducible refine iteF ?_) | ((with_reducible refine iteB1 ?_ ?_); (focus rfl)) | ((with_reducible refine iteB0 ?_ ?_); (focus rfl)))))
local macro_rules | `(tactic| walk_at "lw n") => `(tactic| (try dsimp only [ent, List.map, Nat.reduceAdd, Nat.reduceSub, List.length_cons, List.length_nil, List.replicate_succ, List.replicate_zero, List.cons_append, List.nil_append, putBack, setOwn, List.getElem?_cons_zero, List.getElem?_cons_succ, List.set_cons_zero, List.set_cons_succ, Sm.nf]))
local macro_rules | `(tactic| walk_at "lw v") => `(tactic| (try simp only [pb1, pb2, pb3, pb4, pb5, pb6]))
theorem minI_le (a b : Int) : minI a b ≤ a := by unfold minI; split <;> omega
theorem minI_of {a b : Int} (h : b ≤ a) : minI a b = b := by unfold minI; split <;> omega
theorem spill_min (M y : Int) : y - spill (y - M) = minI M y := by unfold spill minI; split <;> split <;> omega
section
variable {a M s x m : Int}
theorem aft_raise : aft [(a, M, s)] [x] (.raise 1 m) = [minI M (x + m)] := by
  show [x + m + 0 - spill (x + m + 0 - M)] = _
  rw [Int.add_zero, spill_min]
theorem aft_lower : aft [(a, M, s)] [x] (.lower 1 m) = [minI M (x + -m)] := by
  show [x + -m + 0 - spill (x + -m + 0 - M)] = _
  rw [Int.add_zero, spill_min]
theorem aft_fill : aft [(a, M, s)] [x] (.fill 1) = [minI M (x + -s)] := by
  show [x + -s + 0 - spill (x + -s + 0 - M)] = _
  rw [Int.add_zero, spill_min]
theorem aft_empty : aft [(a, M, s)] [x] (.empty 1) = [minI M x] := by
  show [x + 0 - spill (x + 0 - M)] = _
  rw [Int.add_zero, spill_min]
theorem min_step {M x m k : Int} (hm : 0 < m) : minI M (minI M (x + m * k) + m) = minI M (x + m * (k + 1)) := by
  rw [Int.mul_add, Int.mul_one]
  unfold minI
  split <;> split <;> split <;> omega
theorem iter_raise (hx : x ≤ M) (hm : 0 < m) : ∀ k : Nat, iter (rnd [(a, M, s)] [.raise 1 m]) k [x] = [minI M (x + m * (k : Int))]
  | 0 => by
    show [x] = _
    rw [minI_of (by omega)]
    simp
  | k + 1 => by
    rw [iter_succ, iter_raise hx hm k]
    show aft [(a, M, s)] [minI M (x + m * (k : Int))] (.raise 1 m) = _
    rw [aft_raise, min_step hm]
    rfl
def lap4 (m s : Int) : List Dd := [.raise 1 m, .fill 1, .empty 1, .raise 1 s]
theorem iter_lap4 (hx : x ≤ M) (hm : 0 < m) (hs : 0 < s) : ∀ k : Nat, iter (rnd [(a, M, s)] (lap4 m s)) k [x] = [minI M (x + m * (k : Int))]
  | 0 => by
    show [x] = _
    rw [minI_of (by omega)]
    simp
  | k + 1 => by
    rw [iter_succ, iter_lap4 hx hm hs k]
    show aft [(a, M, s)] (aft [(a, M, s)] (aft [(a, M, s)] (aft [(a, M, s)] [minI M (x + m * (k : Int))] (.raise 1 m)) (.fill 1)) (.empty 1)) (.raise 1 s) = _
    have h1 := minI_le M (minI M (x + m * (k : Int)) + m)
    rw [aft_raise, aft_fill, aft_empty, aft_raise, minI_of (b := minI M (minI M (x + m * (k : Int)) + m) + -s) (by omega), minI_of (b := minI M (minI M (x + m * (k : Int)) + m) + -s) (by omega), Int.neg_add_cancel_right, minI_of h1, min_step hm]
    rfl
theorem iter_lower (hx : x ≤ M) (hm : 0 < m) : ∀ k : Nat, iter (rnd [(a, M, s)] [.lower 1 m]) k [x] = [x + -m * (k : Int)]
  | 0 => by
    show [x] = _
    simp
  | k + 1 => by
    rw [iter_succ, iter_lower hx hm k]
    show aft [(a, M, s)] [x + -m * (k : Int)] (.lower 1 m) = _
    have : 0 ≤ m * (k : Int) := Int.mul_nonneg (by omega) (by omega)
    have e : -m * (k : Int) = -(m * k) := Int.neg_mul _ _
    rw [aft_lower, minI_of (by omega)]
    have e2 : -m * ((k + 1 : Nat) : Int) = -m * (k : Int) + -m := by
      rw [show ((k + 1 : Nat) : Int) = (k : Int) + 1 from rfl, Int.mul_add, Int.mul_one]
    rw [e2]
    congr 1
    omega
theorem ttl_one {ds : List Dd} {p k : Nat} {y : Int} (h : lvAt [(a, M, s)] ds [x] k p = [y]) : Ttl [(a, M, s)] ds [x] p 0 k = y := by
  unfold Ttl
  rw [h]
  show ([y].drop 0).sum = y
  simp
theorem ttl_two {ds : List Dd} {p k : Nat} {y : Int} (h : lvAt [(a, M, s)] ds [x] k p = [y]) : Ttl [(a, M, s)] ds [x] p 1 k = 0 := by
  unfold Ttl
  rw [h]
  rfl
theorem rows_cutR {ds : List Dd} {pl : Nat} {rs : List Rw} {b t : Int} (hm : 0 < m) (hr : RowsZ [(a, M, s)] ds [x] pl 0 rs) (h : ∀ k : Nat, lvAt [(a, M, s)] ds [x] k pl = [minI t (b + m * (k : Int))]) : rs = cutR 1 m b t :=
  hr.1.uniq (cut_rows hm) fun k hk => by
    have hk : (1 : Int) ≤ k := hk
    obtain ⟨n, rfl⟩ : ∃ n : Nat, k = (n : Int) := ⟨k.toNat, by omega⟩
    show Ttl _ _ _ _ _ (n : Int).toNat = _
    rw [Int.toNat_natCast, ttl_one (h n)]
theorem rows_fall {ds : List Dd} {pl : Nat} {rs : List Rw} {b : Int} (hr : RowsZ [(a, M, s)] ds [x] pl 0 rs) (h : ∀ k : Nat, lvAt [(a, M, s)] ds [x] k pl = [b + m * (k : Int)]) : rs = [(1, m, b)] :=
  hr.1.uniq (rows1 (F := fun k => b + m * k) rfl fun k _ => rfl) fun k hk => by
    have hk : (1 : Int) ≤ k := hk
    obtain ⟨n, rfl⟩ : ∃ n : Nat, k = (n : Int) := ⟨k.toNat, by omega⟩
    show Ttl _ _ _ _ _ (n : Int).toNat = _
    rw [Int.toNat_natCast, ttl_one (h n)]
theorem rows_none {ds : List Dd} {pl : Nat} {rs : List Rw} (hr : RowsZ [(a, M, s)] ds [x] pl 1 rs) (h : ∀ k : Nat, ∃ y, lvAt [(a, M, s)] ds [x] k pl = [y]) : rs = [(1, 0, 0)] :=
  hr.1.uniq (rows1 (F := fun k => 0) rfl fun k _ => by show (0 : Int) = 0 + 0 * k; omega) fun k hk => by
    obtain ⟨y, e⟩ := h k.toNat
    exact ttl_two e
end
structure One (a M s x m : Int) : Prop where
  a0 : 0 ≤ a
  aM : a ≤ M
  M2 : M ≤ 200000000000000000
  s1 : 1 ≤ s
  s2 : s ≤ 2000000000
  x1 : x ≤ M
  x0 : 0 ≤ x
  m1 : 1 ≤ m
  m2 : m ≤ 100000000000000000
section
variable {a M s x m : Int}
theorem One.fits (h : One a M s x m) {ds : List Dd} (hl : ds.length ≤ 4) (hd : ∀ d ∈ ds, d = .raise 1 m ∨ d = .fill 1 ∨ d = .empty 1 ∨ d = .raise 1 s ∨ d = .lower 1 m) : Fits [(a, M, s)] ds [x] := by
  have m1 := h.m1
  have m2 := h.m2
  have s1 := h.s1
  have s2 := h.s2
  refine fits_w (W := 200000000000000000) (ps := [(a, M, s)]) (Nat.le_of_ble_eq_true rfl) (Nat.le_of_ble_eq_true rfl) (fun p m => ?_) (by omega) (fun d m => ?_) ⟨rfl, fun z hz => ?_⟩
  · cases List.mem_singleton.1 m
    exact ⟨h.a0, h.aM, h.M2, h.s1, by show s ≤ _; omega⟩
  · rcases hd d m with rfl | rfl | rfl | rfl | rfl
    · exact ⟨⟨Nat.le_of_ble_eq_true rfl, Nat.le_of_ble_eq_true rfl⟩, ⟨by omega, by omega⟩⟩
    · exact ⟨⟨Nat.le_of_ble_eq_true rfl, Nat.le_of_ble_eq_true rfl⟩, trivial⟩
    · exact ⟨⟨Nat.le_of_ble_eq_true rfl, Nat.le_of_ble_eq_true rfl⟩, trivial⟩
    · exact ⟨⟨Nat.le_of_ble_eq_true rfl, Nat.le_of_ble_eq_true rfl⟩, ⟨by omega, by omega⟩⟩
    · exact ⟨⟨Nat.le_of_ble_eq_true rfl, Nat.le_of_ble_eq_true rfl⟩, ⟨by omega, by omega⟩⟩
  · cases List.mem_singleton.1 hz
    exact h.x1
theorem One.rows (h : One a M s x m) {ds : List Dd} {pl po : Nat} (hl : ds.length ≤ 4) (hd : ∀ d ∈ ds, d = .raise 1 m ∨ d = .fill 1 ∨ d = .empty 1 ∨ d = .raise 1 s ∨ d = .lower 1 m) (h1 : 1 ≤ po) (h2 : po ≤ 2) : wpf m_p_rows_of [.pure (.tuple ([(a, M, s)].map pd)), .pure (it [x]), .pure (.list (ds.map dd)), .pure (.int (pl : Int)), .pure (.int (po : Int))] (FreshQ fun y => ∃ rs, RowsZ [(a, M, s)] ds [x] pl (po - 1) rs ∧ y = rs.map rwT) :=
  rows_of_ok (Stair.gen (.inl rfl)) (.inr rfl) (deeds_gen ds) (h.fits hl hd) h1 (by show po ≤ 2; omega)
abbrev stO (a M s : Int) : D := .tuple [.tuple [.int a, .int M, .int s]]
abbrev raD (m : Int) : D := .tuple [.str "raise", .int 1, .int m]
abbrev loD (m : Int) : D := .tuple [.str "lower", .int 1, .int m]
theorem One.r1 (h : One a M s x m) : wpf m_p_rows_of [.pure (stO a M s), .pure (.tuple [.int x]), .pure (.list [raD m]), .pure (.int 0), .pure (.int 1)] (FreshQ fun y => y = (cutR 1 m x M).map rwT) := by
  have m1 := h.m1
  refine Sm.fmono (h.rows (ds := [.raise 1 m]) (pl := 0) (po := 1) (Nat.le_of_ble_eq_true rfl) (fun d q => by cases List.mem_singleton.1 q; exact .inl rfl) (Nat.le_of_ble_eq_true rfl) (Nat.le_of_ble_eq_true rfl)) fun r o hh => ?_
  obtain ⟨y, e, rs, hr, rfl⟩ := hh
  exact ⟨_, e, by rw [rows_cutR (by omega) hr fun k => iter_raise h.x1 (by omega) k]⟩
theorem One.r1b (h : One a M s x m) : wpf m_p_rows_of [.pure (stO a M s), .pure (.tuple [.int x]), .pure (.list [raD m]), .pure (.int 0), .pure (.int 2)] (FreshQ fun y => y = [rwT (1, 0, 0)]) := by
  have m1 := h.m1
  refine Sm.fmono (h.rows (ds := [.raise 1 m]) (pl := 0) (po := 2) (Nat.le_of_ble_eq_true rfl) (fun d q => by cases List.mem_singleton.1 q; exact .inl rfl) (Nat.le_of_ble_eq_true rfl) (Nat.le_of_ble_eq_true rfl)) fun r o hh => ?_
  obtain ⟨y, e, rs, hr, rfl⟩ := hh
  exact ⟨_, e, by rw [rows_none hr fun k => ⟨_, iter_raise h.x1 (by omega) k⟩]; rfl⟩
theorem One.r2 (h : One a M s x m) : wpf m_p_rows_of [.pure (stO a M s), .pure (.tuple [.int x]), .pure (.list [raD m, .tuple [.str "fill", .int 1], .tuple [.str "empty", .int 1], raD s]), .pure (.int 4), .pure (.int 1)] (FreshQ fun y => y = (cutR 1 m (x + m) M).map rwT) := by
  have m1 := h.m1
  have s1 := h.s1
  refine Sm.fmono (h.rows (ds := lap4 m s) (pl := 4) (po := 1) (Nat.le_of_ble_eq_true rfl) (fun d q => by
    simp only [lap4, List.mem_cons, List.not_mem_nil, or_false] at q
    rcases q with rfl | rfl | rfl | rfl
    · exact .inl rfl
    · exact .inr (.inl rfl)
    · exact .inr (.inr (.inl rfl))
    · exact .inr (.inr (.inr (.inl rfl)))) (Nat.le_of_ble_eq_true rfl) (Nat.le_of_ble_eq_true rfl)) fun r o hh => ?_
  obtain ⟨y, e, rs, hr, rfl⟩ := hh
  have key : ∀ k : Nat, lvAt [(a, M, s)] (lap4 m s) [x] k 4 = [minI M (x + m + m * (k : Int))] := fun k => by
    have e1 := lvAt_next (ps := [(a, M, s)]) (ds := lap4 m s) (ls := [x]) k
    have e2 := iter_lap4 (a := a) h.x1 (show 0 < m by omega) (show 0 < s by omega) (k + 1)
    rw [e2] at e1
    have e3 : x + m + m * (k : Int) = x + m * ((k + 1 : Nat) : Int) := by
      rw [show ((k + 1 : Nat) : Int) = (k : Int) + 1 from rfl, Int.mul_add, Int.mul_one]
      omega
    rw [e3]
    exact e1
  exact ⟨_, e, by rw [rows_cutR (m := m) (by omega) hr key]⟩
theorem One.r3 (h : One a M s x m) : wpf m_p_rows_of [.pure (stO a M s), .pure (.tuple [.int x]), .pure (.list [loD m]), .pure (.int 0), .pure (.int 1)] (FreshQ fun y => y = [rwT (1, -m, x)]) := by
  have m1 := h.m1
  refine Sm.fmono (h.rows (ds := [.lower 1 m]) (pl := 0) (po := 1) (Nat.le_of_ble_eq_true rfl) (fun d q => by cases List.mem_singleton.1 q; exact .inr (.inr (.inr (.inr rfl)))) (Nat.le_of_ble_eq_true rfl) (Nat.le_of_ble_eq_true rfl)) fun r o hh => ?_
  obtain ⟨y, e, rs, hr, rfl⟩ := hh
  exact ⟨_, e, by rw [rows_fall (m := -m) (b := x) hr fun k => iter_lower h.x1 (by omega) k]; rfl⟩
theorem One.r4 (h : One a M s x m) : wpf m_p_rows_of [.pure (stO a M s), .pure (.tuple [.int x]), .pure (.list [loD m]), .pure (.int 1), .pure (.int 1)] (FreshQ fun y => y = [rwT (1, -m, x - m)]) := by
  have m1 := h.m1
  refine Sm.fmono (h.rows (ds := [.lower 1 m]) (pl := 1) (po := 1) (Nat.le_of_ble_eq_true rfl) (fun d q => by cases List.mem_singleton.1 q; exact .inr (.inr (.inr (.inr rfl)))) (Nat.le_of_ble_eq_true rfl) (Nat.le_of_ble_eq_true rfl)) fun r o hh => ?_
  obtain ⟨y, e, rs, hr, rfl⟩ := hh
  have key : ∀ k : Nat, lvAt [(a, M, s)] [.lower 1 m] [x] k 1 = [x - m + -m * (k : Int)] := fun k => by
    have e1 := lvAt_next (ps := [(a, M, s)]) (ds := [.lower 1 m]) (ls := [x]) k
    rw [iter_lower h.x1 (by omega) (k + 1)] at e1
    have e3 : x - m + -m * (k : Int) = x + -m * ((k + 1 : Nat) : Int) := by
      rw [show ((k + 1 : Nat) : Int) = (k : Int) + 1 from rfl, Int.mul_add, Int.mul_one]
      omega
    rw [e3]
    exact e1
  exact ⟨_, e, by rw [rows_fall (m := -m) (b := x - m) hr key]; rfl⟩
theorem One.far (h : One a M s x m) {k : Nat} (hk : k < 2 ^ 200) : wpf m_p_far_levels [.pure (stO a M s), .pure (.tuple [.int x]), .pure (.list [raD m]), .pure (.int (k : Int))] (ValQ fun y => y = it [minI M (x + m * (k : Int))]) := by
  have m1 := h.m1
  have F := h.fits (ds := [.raise 1 m]) (Nat.le_of_ble_eq_true rfl) (fun d q => by cases List.mem_singleton.1 q; exact .inl rfl)
  have on : ∀ d ∈ [Dd.raise 1 m], d.On 1 := fun d q => (F.on d q).1
  have e := far_levels_ok (m := k) (Stair.gen (.inl rfl)) (.inr rfl) (deeds_gen [Dd.raise 1 m]) on (Nat.le_of_ble_eq_true rfl) F.below.1 F.dl hk (ps := [(a, M, s)]) (ls := [x])
  rw [iter_led (ps := [(a, M, s)]) on k F.below, levs_tots, iter_raise h.x1 (by omega)] at e
  exact e
theorem One.ran (h : One a M s x m) {k : Nat} (hk : k < 2 ^ 200) : wpf m_p_ran_over [.pure (stO a M s), .pure (.tuple [.int x]), .pure (.list [raD m]), .pure (.int (k : Int))] (ValQ fun y => y = it [x + m * (k : Int) - minI M (x + m * (k : Int))]) := by
  have m1 := h.m1
  have m2 := h.m2
  have F := h.fits (ds := [.raise 1 m]) (Nat.le_of_ble_eq_true rfl) (fun d q => by cases List.mem_singleton.1 q; exact .inl rfl)
  have on : ∀ d ∈ [Dd.raise 1 m], d.On 1 := fun d q => (F.on d q).1
  have es : sums [(a, M, s)] [Dd.raise 1 m] = [m] := by
    show [m + 0] = _
    rw [Int.add_zero]
  have e := ran_over_ok (m := k) (Stair.gen (.inl rfl)) (.inr rfl) (deeds_gen [Dd.raise 1 m]) on (Nat.le_of_ble_eq_true rfl) F.below.1 F.dl hk (fun y hy => by rw [es] at hy; cases List.mem_singleton.1 hy; omega) (ps := [(a, M, s)]) (ls := [x])
  rw [iter_led (ps := [(a, M, s)]) on k F.below, iter_raise h.x1 (by omega), es] at e
  have e2 : ran3 (tots [x]) [m] (tots [minI M (x + m * (k : Int))]) (k : Int) = [x + m * (k : Int) - minI M (x + m * (k : Int))] := by
    show [([x].drop 0).sum + m * (k : Int) - ([minI M (x + m * (k : Int))].drop 0).sum] = _
    simp
  rw [e2] at e
  exact e
end
end K18
-- F2
-- F3
-- F4
-- F5
namespace K18
open PySem PySem.Spec PyProof.Rows L2 Lw
local macro_rules | `(tactic| walk_at "lw e") => `(tactic| (repeat (first | (with_reducible refine Stp.go ?_) | (with_reducible apply Exists.intro) | ((with_reducible refine And.intro ?_ ?_); · (first | (with_reducible exact Evl.ev) | ((fail_if_success (with_reducible refine Gd.keep ?_)); (fail_if_success (with_reducible refine Gd5.keep ?_)); rfl) | ((with_reducible apply mul_r); decide) | ((with_reducible apply mul_l); decide) | ((with_reducible apply div_i); decide) | ((with_reducible apply in_R); decide) | (exact Nat.le_of_ble_eq_true rfl) | (simp [refsOf]; done) | (exact ⟨rfl, rfl, by decide⟩) | (exact ⟨rfl, rfl, rfl⟩) | ((with_reducible apply tgN_o); (focus rfl); (focus (first | assumption | trivial))))) | ((with_reducible apply Sm.vrP); (focus rfl)) | ((with_reducible apply Sm.vrO); (focus rfl)) | ((with_reducible apply Sm.augI); (focus rfl)) | ((with_reducible refine Sm.dicE ?_ ?_); (focus decide)) | ((with_reducible apply Sm.augS); (focus rfl)) | ((with_reducible apply Sm.augL); (focus rfl)) | (with_reducible refine iteTT ?_) | (with_reducible refine iteT ?_) | (with_reducible refine iteF ?_) | ((with_reducible refine iteB1 ?_ ?_); (focus rfl)) | ((with_reducible refine iteB0 ?_ ?_); (focus rfl)))))
local macro_rules | `(tactic| walk_at "lw n") => `(tactic| (try dsimp only [ent, List.map, Nat.reduceAdd, Nat.reduceSub, List.length_cons, List.length_nil, List.replicate_succ, List.replicate_zero, List.cons_append, List.nil_append, putBack, setOwn, List.getElem?_cons_zero, List.getElem?_cons_succ, List.set_cons_zero, List.set_cons_succ, Sm.nf]))
local macro_rules | `(tactic| walk_at "lw v") => `(tactic| (try simp only [pb1, pb2, pb3, pb4, pb5, pb6]))
def pkA (v : Int) : Int := if v = 0 then 9 else if v = 1 then 1000000 else 100000000000000000
theorem pkA_b (v : Int) : 1 ≤ pkA v ∧ pkA v ≤ 100000000000000000 := by unfold pkA; split; decide; split <;> decide
theorem pickA {v : Int} (h0 : 0 ≤ v) (h1 : v < 3) : gIx (.list [.int 9, .int 1000000, .int 100000000000000000]) (.int v) = some (.pure (.int (pkA v))) := by
  have hv : v = 0 ∨ v = 1 ∨ v = 2 := by omega
  rcases hv with rfl | rfl | rfl <;> rfl
def pkB (v : Int) : Int := if v = 0 then 9 else if v = 1 then 100000 else 100000000000000000
theorem pkB_b (v : Int) : 1 ≤ pkB v ∧ pkB v ≤ 100000000000000000 := by unfold pkB; split; decide; split <;> decide
theorem pickB {v : Int} (h0 : 0 ≤ v) (h1 : v < 3) : gIx (.list [.int 9, .int 100000, .int 100000000000000000]) (.int v) = some (.pure (.int (pkB v))) := by
  have hv : v = 0 ∨ v = 1 ∨ v = 2 := by omega
  rcases hv with rfl | rfl | rfl <;> rfl
theorem div_small {y m c : Int} (hm : 1 ≤ m) (hc : 0 ≤ c) (h : y < c) : y / m < c := by
  refine Int.ediv_lt_of_lt_mul (by omega) ?_
  have := Int.mul_le_mul_of_nonneg_left hm hc
  omega
theorem rows_sh (rs : List Rw) : Sh0 2 (.list (rs.map rwT)) := Sh0.lst fun x hx => by
  obtain ⟨r, _, rfl⟩ := List.mem_map.1 hx
  refine Sh0.tup fun x hx => ?_
  simp only [List.mem_cons, List.not_mem_nil, or_false] at hx
  rcases hx with rfl | rfl | rfl <;> exact Sh0.int 0 _
theorem ne_one {f t u b : Int} (h : t = u) : (!(PyData.list [rwT (f, t, b)]).eqv (PyData.list [PyData.tuple [PyData.int f, PyData.int u, PyData.int b]])) = false := by
  subst h
  show (!(PyData.list [PyData.tuple [PyData.int f, PyData.int t, PyData.int b]]).eqv (PyData.list [PyData.tuple [PyData.int f, PyData.int t, PyData.int b]])) = false
  rw [SeqAt.eqv_refl _ rfl]
  rfl
theorem one_ok {c : Nat} {b : List D} (hb : Box (c + 1000) b) : wpf m_l_one_right [.own true b] (DrawQ c (fun d => d = .bool true) []) := by
  have hsl : sizeLine = 16777216 := rfl
  refine Sm.run ?_
  unfold g_l_one_right
  walk_at "lw n"
  walk_at "lw e"
  (refine Sm.fmono (take4 (c := c + 900) (Box.less hb (by omega)) (by omega) (by omega)) fun r o h => ?_; obtain ⟨v1, b1, rfl, l1, u1, h1, rfl⟩ := h; refine ⟨nref, ?_⟩; walk_at "lw n"; walk_at "lw e")
  (refine Sm.fmono (take4 (c := c + 850) (Box.less h1 (by omega)) (by omega) (by omega)) fun r o h => ?_; obtain ⟨v2, b2, rfl, l2, u2, h2, rfl⟩ := h; refine ⟨nref, ?_⟩; walk_at "lw n"; walk_at "lw e")
  walk_at "lw n"
  walk_at "lw e"
  (refine Sm.fmono (take4 (c := c + 800) (Box.less h2 (by omega)) (by omega) (by omega)) fun r o h => ?_; obtain ⟨v3, b3, rfl, l3, u3, h3, rfl⟩ := h; refine ⟨nref, ?_⟩; walk_at "lw n"; walk_at "lw e")
  refine ⟨pickA l3 u3, ?_⟩
  have p3 := pkA_b v3
  walk_at "lw e"
  (refine Sm.fmono (take4 (c := c + 750) (Box.less h3 (by omega)) (by omega) (by omega)) fun r o h => ?_; obtain ⟨v4, b4, rfl, l4, u4, h4, rfl⟩ := h; refine ⟨nref, ?_⟩; walk_at "lw n"; walk_at "lw e")
  walk_at "lw n"
  walk_at "lw e"
  (refine Sm.fmono (take4 (c := c + 700) (Box.less h4 (by omega)) (by omega) (by omega)) fun r o h => ?_; obtain ⟨v5, b5, rfl, l5, u5, h5, rfl⟩ := h; refine ⟨nref, ?_⟩; walk_at "lw n"; walk_at "lw e")
  refine ⟨pickB l5 u5, ?_⟩
  have p5 := pkB_b v5
  walk_at "lw e"
  (refine Sm.fmono (take4 (c := c + 650) (Box.less h5 (by omega)) (by omega) (by omega)) fun r o h => ?_; obtain ⟨v6, b6, rfl, l6, u6, h6, rfl⟩ := h; refine ⟨nref, ?_⟩; walk_at "lw n"; walk_at "lw e")
  walk_at "lw n"
  walk_at "lw e"
  (refine Sm.fmono (take4 (c := c + 600) (Box.less h6 (by omega)) (by omega) (by omega)) fun r o h => ?_; obtain ⟨v7, b7, rfl, l7, u7, h7, rfl⟩ := h; refine ⟨nref, ?_⟩; walk_at "lw n"; walk_at "lw e")
  walk_at "lw n"
  walk_at "lw e"
  have O : One v1 (v1 + v4) (1 + v2) (v1 + v4 - v7) (1 + v6) := ⟨l1, by omega, by omega, by omega, by omega, by omega, by omega, by omega, by omega⟩
  have d1 : ((v1 + v4) - (v1 + v4 - v7) + (1 + v6) - 1) / (1 + v6) < 1000000000000000000 := div_small (by omega) (by omega) (by omega)
  refine Sm.fmono (cut_ok (first := 1) (step := 1 + v6) (begin := v1 + v4 - v7) (top := v1 + v4) (by omega) (by omega) (by omega) d1) fun r o hh => ?_
  obtain ⟨y, rfl, rfl⟩ := hh
  refine ⟨nfr, ?_⟩
  walk_at "lw v"
  walk_at "lw n"
  walk_at "lw e"
  walk_at "lw n"
  walk_at "lw e"
  clear d1
  generalize v1 + v4 - v7 = x at *
  generalize v1 + v4 = M at *
  generalize 1 + v2 = s at *
  generalize 1 + v6 = m at *
  have m1 := O.m1
  have m2 := O.m2
  have M2 := O.M2
  have x1 := O.x1
  have x0 := O.x0
  refine Sm.fmono O.r1 fun r o hh => ?_
  obtain ⟨y, rfl, rfl⟩ := hh
  refine ⟨nfr, ?_⟩
  walk_at "lw v"
  walk_at "lw e"
  refine ⟨ne_self (rows_sh _) (by decide), ?_⟩
  walk_at "lw e"
  refine Sm.fmono O.r1b fun r o hh => ?_
  obtain ⟨y, rfl, rfl⟩ := hh
  refine ⟨nfr, ?_⟩
  walk_at "lw v"
  walk_at "lw e"
  walk_at "lw n"
  walk_at "lw e"
  refine Sm.fmono O.r2 fun r o hh => ?_
  obtain ⟨y, rfl, rfl⟩ := hh
  refine ⟨nfr, ?_⟩
  walk_at "lw v"
  walk_at "lw e"
  have d2 : (M - (x + m) + m - 1) / m < 1000000000000000000 := div_small (by omega) (by omega) (by omega)
  refine Sm.fmono (cut_ok (first := 1) (step := m) (begin := x + m) (top := M) (by omega) (by omega) (by omega) d2) fun r o hh => ?_
  obtain ⟨y, rfl, rfl⟩ := hh
  refine ⟨nfr, ?_⟩
  walk_at "lw v"
  walk_at "lw e"
  refine ⟨ne_self (rows_sh _) (by decide), ?_⟩
  walk_at "lw e"
  refine Sm.fmono O.r3 fun r o hh => ?_
  obtain ⟨y, rfl, rfl⟩ := hh
  refine ⟨nfr, ?_⟩
  walk_at "lw v"
  walk_at "lw e"
  refine iteB0 (ne_one (f := 1) (t := -m) (u := 0 - m) (b := x) (by omega)) ?_
  walk_at "lw e"
  refine Sm.fmono O.r4 fun r o hh => ?_
  obtain ⟨y, rfl, rfl⟩ := hh
  refine ⟨nfr, ?_⟩
  walk_at "lw v"
  walk_at "lw e"
  refine iteB0 (ne_one (f := 1) (t := -m) (u := 0 - m) (b := x - m) (by omega)) ?_
  walk_at "lw e"
  (refine Sm.fmono (take4 (c := c + 500) (Box.less h7 (by omega)) (by omega) (by omega)) fun r o h => ?_; obtain ⟨v8, b8, rfl, l8, u8, h8, rfl⟩ := h; refine ⟨nref, ?_⟩; walk_at "lw n"; walk_at "lw e")
  refine ⟨mul_r (j := v8) (by omega), ?_⟩
  walk_at "lw e"
  walk_at "lw n"
  obtain ⟨k, rfl⟩ : ∃ k : Nat, v8 = (k : Int) := ⟨v8.toNat, by omega⟩
  have hk : k < 2 ^ 200 := by
    have : k < 1000000000000000000 := by omega
    exact Nat.lt_of_lt_of_le this (by decide)
  walk_at "lw e"
  (refine Sm.fmono (O.far hk) fun r o h => ?_; obtain ⟨d, rfl, rfl⟩ := h; refine ⟨nref, ?_⟩; walk_at "lw v"; walk_at "lw e")
  (refine Sm.fmono (O.ran hk) fun r o h => ?_; obtain ⟨d, rfl, rfl⟩ := h; refine ⟨nref, ?_⟩; walk_at "lw v"; walk_at "lw e")
  walk_at "lw n"
  walk_at "lw e"
  refine ⟨mul_r (j := (k : Int)) (by omega), ?_⟩
  walk_at "lw e"
  refine ⟨_, _, rfl, ?_, h8.less (by omega), rfl⟩
  have e : (if x + m * (k : Int) - M > 0 then x + m * (k : Int) - M else 0) = x + m * (k : Int) - minI M (x + m * (k : Int)) := by
    unfold minI
    split <;> split <;> omega
  rw [e]
  show PyData.bool (PyData.eqv (.list [it [minI M (x + m * (k : Int))], it [x + m * (k : Int) - minI M (x + m * (k : Int))]]) (.list [it [minI M (x + m * (k : Int))], it [x + m * (k : Int) - minI M (x + m * (k : Int))]])) = .bool true
  rw [SeqAt.eqv_refl _ rfl]
end K18
-- F2
-- F3
-- F4
-- F5
namespace K18
open PySem PySem.Spec PyProof.Rows L2 Lw
local macro_rules | `(tactic| walk_at "lw e") => `(tactic| (repeat (first | (with_reducible refine Stp.go ?_) | (with_reducible apply Exists.intro) | ((with_reducible refine And.intro ?_ ?_); · (first | (with_reducible exact Evl.ev) | ((fail_if_success (with_reducible refine Gd.keep ?_)); (fail_if_success (with_reducible refine Gd5.keep ?_)); rfl) | ((with_reducible apply mul_r); decide) | ((with_reducible apply mul_l); decide) | ((with_reducible apply div_i); decide) | ((with_reducible apply in_R); decide) | (exact Nat.le_of_ble_eq_true rfl) | (simp [refsOf]; done) | (exact ⟨rfl, rfl, by decide⟩) | (exact ⟨rfl, rfl, rfl⟩) | ((with_reducible apply tgN_o); (focus rfl); (focus (first | assumption | trivial))))) | ((with_reducible apply Sm.vrP); (focus rfl)) | ((with_reducible apply Sm.vrO); (focus rfl)) | ((with_reducible apply Sm.augI); (focus rfl)) | ((with_reducible refine Sm.dicE ?_ ?_); (focus decide)) | ((with_reducible apply Sm.augS); (focus rfl)) | ((with_reducible apply Sm.augL); (focus rfl)) | (with_reducible refine iteTT ?_) | (with_reducible refine iteT ?_) | (with_reducible refine iteF ?_) | ((with_reducible refine iteB1 ?_ ?_); (focus rfl)) | ((with_reducible refine iteB0 ?_ ?_); (focus rfl)))))
local macro_rules | `(tactic| walk_at "lw n") => `(tactic| (try dsimp only [ent, List.map, Nat.reduceAdd, Nat.reduceSub, List.length_cons, List.length_nil, List.replicate_succ, List.replicate_zero, List.cons_append, List.nil_append, putBack, setOwn, List.getElem?_cons_zero, List.getElem?_cons_succ, List.set_cons_zero, List.set_cons_succ, Sm.nf]))
local macro_rules | `(tactic| walk_at "lw v") => `(tactic| (try simp only [pb1, pb2, pb3, pb4, pb5, pb6]))
section
variable {M s x : Int}
def ps2 (M s : Int) : List P3 := [(0, M, 5), (0, 2 * s, s)]
def ds2 (s : Int) : List Dd := [.raise 2 s, .fill 2, .empty 2]
theorem two_raise {y : Int} (hs : 0 < s) : aft (ps2 M s) [y, s] (.raise 2 s) = [minI M y, 2 * s] := by
  show [y + spill (s + s + 0 - 2 * s) - spill (y + spill (s + s + 0 - 2 * s) - M), s + s + 0 - spill (s + s + 0 - 2 * s)] = _
  have e : spill (s + s + 0 - 2 * s) = 0 := by unfold spill; rw [if_neg (by omega)]
  rw [e, Int.add_zero, spill_min]
  congr 2
  omega
theorem two_fill {y : Int} (hs : 0 < s) : aft (ps2 M s) [y, 2 * s] (.fill 2) = [minI M y, s] := by
  show [y + spill (2 * s + -s + 0 - 2 * s) - spill (y + spill (2 * s + -s + 0 - 2 * s) - M), 2 * s + -s + 0 - spill (2 * s + -s + 0 - 2 * s)] = _
  have e : spill (2 * s + -s + 0 - 2 * s) = 0 := by unfold spill; rw [if_neg (by omega)]
  rw [e, Int.add_zero, spill_min]
  congr 2
  omega
theorem two_empty {y : Int} (hs : 0 < s) : aft (ps2 M s) [y, s] (.empty 2) = [minI M (y + s), s] := by
  show [y + s + spill (s + 0 - 2 * s) - spill (y + s + spill (s + 0 - 2 * s) - M), s + 0 - spill (s + 0 - 2 * s)] = _
  have e : spill (s + 0 - 2 * s) = 0 := by unfold spill; rw [if_neg (by omega)]
  rw [e, Int.add_zero, spill_min]
  congr 2
  omega
theorem iter_two (hx : x ≤ M) (hs : 0 < s) : ∀ k : Nat, iter (rnd (ps2 M s) (ds2 s)) k [x, s] = [minI M (x + s * (k : Int)), s]
  | 0 => by
    show [x, s] = _
    rw [minI_of (by omega)]
    simp
  | k + 1 => by
    rw [iter_succ, iter_two hx hs k]
    show aft (ps2 M s) (aft (ps2 M s) (aft (ps2 M s) [minI M (x + s * (k : Int)), s] (.raise 2 s)) (.fill 2)) (.empty 2) = _
    have h1 := minI_le M (x + s * (k : Int))
    rw [two_raise hs, two_fill hs, minI_of h1, minI_of h1, two_empty hs, min_step hs]
    rfl
theorem two_t0 (hx : x ≤ M) (hs : 0 < s) (k : Nat) : Ttl (ps2 M s) (ds2 s) [x, s] 0 0 k = minI (M + s) (x + s + s * (k : Int)) := by
  unfold Ttl
  rw [show lvAt (ps2 M s) (ds2 s) [x, s] k 0 = iter (rnd (ps2 M s) (ds2 s)) k [x, s] from rfl, iter_two hx hs]
  show minI M (x + s * (k : Int)) + (s + 0) = _
  unfold minI
  split <;> split <;> omega
theorem two_t1 (hx : x ≤ M) (hs : 0 < s) (k : Nat) : Ttl (ps2 M s) (ds2 s) [x, s] 0 1 k = s := by
  unfold Ttl
  rw [show lvAt (ps2 M s) (ds2 s) [x, s] k 0 = iter (rnd (ps2 M s) (ds2 s)) k [x, s] from rfl, iter_two hx hs]
  show s + 0 = s
  omega
end
structure Two (M s x : Int) : Prop where
  s1 : 1 ≤ s
  s2 : s ≤ 100
  M1 : 0 ≤ M
  M2 : M ≤ 100000000000000000
  x0 : 0 ≤ x
  x1 : x ≤ M
section
variable {M s x : Int}
theorem Two.fits (h : Two M s x) : Fits (ps2 M s) (ds2 s) [x, s] := by
  have s1 := h.s1
  have s2 := h.s2
  have M2 := h.M2
  have M1 := h.M1
  refine fits_w (W := 200000000000000000) (ps := ps2 M s) (Nat.le_of_ble_eq_true rfl) (Nat.le_of_ble_eq_true rfl) (fun p m => ?_) (Nat.le_of_ble_eq_true rfl) (fun d m => ?_) ⟨rfl, fun z hz => ?_⟩
  · simp only [ps2, List.mem_cons, List.not_mem_nil, or_false] at m
    rcases m with rfl | rfl
    · exact ⟨Int.le_refl 0, M1, by show M ≤ _; omega, by show (1 : Int) ≤ 5; decide, by show (5 : Int) ≤ 10000000000000000; decide⟩
    · exact ⟨Int.le_refl 0, by show 0 ≤ 2 * s; omega, by show 2 * s ≤ _; omega, s1, by show s ≤ _; omega⟩
  · simp only [ds2, List.mem_cons, List.not_mem_nil, or_false] at m
    rcases m with rfl | rfl | rfl
    · exact ⟨⟨Nat.le_of_ble_eq_true rfl, Nat.le_of_ble_eq_true rfl⟩, ⟨by omega, by omega⟩⟩
    · exact ⟨⟨Nat.le_of_ble_eq_true rfl, Nat.le_of_ble_eq_true rfl⟩, trivial⟩
    · exact ⟨⟨Nat.le_of_ble_eq_true rfl, Nat.le_of_ble_eq_true rfl⟩, trivial⟩
  · have hz : z ∈ [((0, M, 5), x), ((0, 2 * s, s), s)] := hz
    simp only [List.mem_cons, List.not_mem_nil, or_false] at hz
    rcases hz with rfl | rfl
    · exact h.x1
    · show s ≤ 2 * s
      omega
abbrev stT (M s : Int) : D := .tuple [.tuple [.int 0, .int M, .int 5], .tuple [.int 0, .int (2 * s), .int s]]
abbrev lpT (s : Int) : D := .list [.tuple [.str "raise", .int 2, .int s], .tuple [.str "fill", .int 2], .tuple [.str "empty", .int 2]]
theorem Two.r2 (h : Two M s x) : wpf m_p_rows_of [.pure (stT M s), .pure (.tuple [.int x, .int s]), .pure (lpT s), .pure (.int 0), .pure (.int 2)] (FreshQ fun y => y = [rwT (2, 0, s)]) := by
  have s1 := h.s1
  refine Sm.fmono (rows_of_ok (pl := 0) (po := 2) (Stair.gen (.inl rfl)) (.inr rfl) (deeds_gen (ds2 s)) h.fits (by decide) (Nat.le_of_ble_eq_true rfl)) fun r o hh => ?_
  obtain ⟨y, e, rs, hr, rfl⟩ := hh
  have : rs = [(2, 0, s)] := hr.1.uniq (rows1 (F := fun k => s) rfl fun k _ => by show s = s + 0 * k; omega) fun k _ => two_t1 h.x1 (by omega) k.toNat
  exact ⟨_, e, by rw [this]; rfl⟩
theorem Two.r1 (h : Two M s x) : wpf m_p_rows_of [.pure (stT M s), .pure (.tuple [.int x, .int s]), .pure (lpT s), .pure (.int 0), .pure (.int 1)] (FreshQ fun y => y = (cutR 2 s (x + s) (M + s)).map rwT) := by
  have s1 := h.s1
  refine Sm.fmono (rows_of_ok (pl := 0) (po := 1) (Stair.gen (.inl rfl)) (.inr rfl) (deeds_gen (ds2 s)) h.fits (by decide) (Nat.le_of_ble_eq_true rfl)) fun r o hh => ?_
  obtain ⟨y, e, rs, hr, rfl⟩ := hh
  have : rs = cutR 2 s (x + s) (M + s) := hr.1.uniq (cut_rows (by omega)) fun k hk => by
    have hk : (2 : Int) ≤ k := hk
    obtain ⟨n, rfl⟩ : ∃ n : Nat, k = (n : Int) := ⟨k.toNat, by omega⟩
    exact two_t0 h.x1 (by omega) (n : Int).toNat
  exact ⟨_, e, by rw [this]⟩
/-- what the law asks of these rows -/
theorem cut_last (first step begin top : Int) : ∃ as f, cutR first step begin top = as ++ [(f, 0, top)] := by
  unfold cutR
  split
  · exact ⟨[], first, rfl⟩
  · exact ⟨_, _, rfl⟩
theorem cut_two (h : Two M s x) (hd : 3 ≤ (M - x) / s) : ∃ as : List Rw, cutR 2 s (x + s) (M + s) = (2, s, x + s) :: as ++ [((M - x) / s + (if (M - x) % s > 0 then 1 else 0), 0, M + s)] ∧ ((as.length : Nat) : Int) = (if (M - x) % s > 0 then 1 else 0) := by
  have s1 := h.s1
  have hdm := Int.mul_ediv_add_emod (M - x) s
  have hm0 := Int.emod_nonneg (M - x) (show s ≠ 0 by omega)
  have hm1 := Int.emod_lt_of_pos (M - x) (show 0 < s by omega)
  generalize hD : (M - x) / s = d at *
  generalize hE : (M - x) % s = e at *
  have hf : fullC 2 s (x + s) (M + s) = d + (if e > 0 then 1 else 0) := by
    unfold fullC
    have : (M + s - (x + s) + s - 1) / s = d + (if e > 0 then 1 else 0) := by
      split
      · have : M + s - (x + s) + s - 1 = (e - 1) + s * (d + 1) := by rw [Int.mul_add, Int.mul_one]; omega
        rw [this, Int.add_mul_ediv_left _ _ (by omega), Int.ediv_eq_zero_of_lt (by omega) (by omega)]
        omega
      · have : M + s - (x + s) + s - 1 = (s - 1) + s * d := by omega
        rw [this, Int.add_mul_ediv_left _ _ (by omega), Int.ediv_eq_zero_of_lt (by omega) (by omega)]
        omega
    rw [this, if_pos (by split <;> omega)]
  unfold cutR
  rw [hf]
  by_cases q : e > 0
  · rw [if_pos q, if_neg (by omega), if_pos (by omega), show d + 1 - 1 = d by omega, if_pos (.inl (by omega))]
    exact ⟨[_], rfl, rfl⟩
  · rw [if_neg q, Int.add_zero, if_neg (by omega)]
    have es : s * (d - 1) = s * d - s := by rw [Int.mul_sub, Int.mul_one]
    by_cases q2 : d - 1 > 2
    · rw [if_pos q2, if_neg (by omega)]
      exact ⟨[], rfl, rfl⟩
    · have : d = 3 := by omega
      subst this
      rw [if_neg q2, if_pos (.inr q2)]
      refine ⟨[], ?_, rfl⟩
      show [((3 : Int) - 1, M + s - (x + s + s * (3 - 1)), x + s + s * (3 - 1) - (M + s - (x + s + s * (3 - 1))) * (3 - 1)), (3, 0, M + s)] = [(2, s, x + s), (3, 0, M + s)]
      have e1 : M + s - (x + s + s * (3 - 1)) = s := by omega
      rw [e1]
      congr 3
      · omega
end
end K18
-- F2
-- F3
-- F4
-- F5
namespace K18
open PySem PySem.Spec PyProof.Rows L2 Lw
local macro_rules | `(tactic| walk_at "lw e") => `(tactic| (repeat (first | (with_reducible refine Stp.go ?_) | (with_reducible apply Exists.intro) | ((with_reducible refine And.intro ?_ ?_); · (first | (with_reducible exact Evl.ev) | ((fail_if_success (with_reducible refine Gd.keep ?_)); (fail_if_success (with_reducible refine Gd5.keep ?_)); rfl) | ((with_reducible apply mul_r); decide) | ((with_reducible apply mul_l); decide) | ((with_reducible apply div_i); decide) | ((with_reducible apply in_R); decide) | (exact Nat.le_of_ble_eq_true rfl) | (simp [refsOf]; done) | (exact ⟨rfl, rfl, by decide⟩) | (exact ⟨rfl, rfl, rfl⟩) | ((with_reducible apply tgN_o); (focus rfl); (focus (first | assumption | trivial))))) | ((with_reducible apply Sm.vrP); (focus rfl)) | ((with_reducible apply Sm.vrO); (focus rfl)) | ((with_reducible apply Sm.augI); (focus rfl)) | ((with_reducible refine Sm.dicE ?_ ?_); (focus decide)) | ((with_reducible apply Sm.augS); (focus rfl)) | ((with_reducible apply Sm.augL); (focus rfl)) | (with_reducible refine iteTT ?_) | (with_reducible refine iteT ?_) | (with_reducible refine iteF ?_) | ((with_reducible refine iteB1 ?_ ?_); (focus rfl)) | ((with_reducible refine iteB0 ?_ ?_); (focus rfl)))))
local macro_rules | `(tactic| walk_at "lw n") => `(tactic| (try dsimp only [ent, List.map, Nat.reduceAdd, Nat.reduceSub, List.length_cons, List.length_nil, List.replicate_succ, List.replicate_zero, List.cons_append, List.nil_append, putBack, setOwn, List.getElem?_cons_zero, List.getElem?_cons_succ, List.set_cons_zero, List.set_cons_succ, Sm.nf]))
local macro_rules | `(tactic| walk_at "lw v") => `(tactic| (try simp only [pb1, pb2, pb3, pb4, pb5, pb6]))
theorem last_rw (as : List Rw) (a : Rw) : gIx (.list ((as ++ [a]).map rwT)) (.int (-1)) = some (.pure (.tuple [.int a.1, .int a.2.1, .int a.2.2])) := by
  have e1 : atI ((as ++ [a]).map rwT) (-1) = some (rwT a) := by
    unfold atI ixN
    rw [List.length_map, List.length_append, List.length_singleton]
    rw [if_neg (by decide), if_pos (by omega)]
    simp
    rw [show ((-1 : Int) + ((as.length : Int) + 1)).toNat = as.length by omega, List.getElem?_append_right (by rw [List.length_map]; exact Nat.le_refl _), List.length_map, Nat.sub_self]
    rfl
  show (atI _ _).map R.pure = _
  rw [e1]
  rfl
theorem head_rw (a : Rw) (as bs : List Rw) : gIx (.list ((a :: as ++ bs).map rwT)) (.int 0) = some (.pure (.tuple [.int a.1, .int a.2.1, .int a.2.2])) := by
  rw [at_list (by decide) (by rw [List.length_map]; simp; omega)]
  rfl
theorem tail_ne (x s t : Int) : (!(PyData.tuple (Lw.cutD [PyData.int x, PyData.int s, PyData.int t] (some 1) none)).eqv (PyData.tuple [PyData.int s, PyData.int t])) = false := by
  show (!PyData.eqv (.tuple [.int s, .int t]) (.tuple [.int s, .int t])) = false
  rw [SeqAt.eqv_refl _ rfl]
  rfl
theorem trip_ne (x s t : Int) : (!(PyData.tuple [PyData.int x, PyData.int s, PyData.int t]).eqv (PyData.tuple [PyData.int x, PyData.int s, PyData.int t])) = false := by
  rw [SeqAt.eqv_refl _ rfl]
  rfl
theorem eqv_ii (i : Int) : (PyData.int i).eqv (PyData.int i) = true := by rw [eqv_int]; exact decide_eq_true rfl
theorem two_ok {c : Nat} {b : List D} (hb : Box (c + 1000) b) : wpf m_l_two_right [.own true b] (DrawQ c (fun d => d = .bool true) []) := by
  have hsl : sizeLine = 16777216 := rfl
  refine Sm.run ?_
  unfold g_l_two_right
  walk_at "lw n"
  walk_at "lw e"
  (refine Sm.fmono (take4 (c := c + 900) (Box.less hb (by omega)) (by omega) (by omega)) fun r o h => ?_; obtain ⟨v1, b1, rfl, l1, u1, h1, rfl⟩ := h; refine ⟨nref, ?_⟩; walk_at "lw n"; walk_at "lw e")
  walk_at "lw n"
  walk_at "lw e"
  (refine Sm.fmono (take4 (c := c + 850) (Box.less h1 (by omega)) (by omega) (by omega)) fun r o h => ?_; obtain ⟨v2, b2, rfl, l2, u2, h2, rfl⟩ := h; refine ⟨nref, ?_⟩; walk_at "lw n"; walk_at "lw e")
  walk_at "lw n"
  walk_at "lw e"
  (refine Sm.fmono (take4 (c := c + 800) (Box.less h2 (by omega)) (by omega) (by omega)) fun r o h => ?_; obtain ⟨v3, b3, rfl, l3, u3, h3, rfl⟩ := h; refine ⟨nref, ?_⟩; walk_at "lw n"; walk_at "lw e")
  walk_at "lw n"
  walk_at "lw e"
  have T : Two (1 + v1 + v2) (1 + v1) v3 := ⟨by omega, by omega, by omega, by omega, by omega, by omega⟩
  generalize 1 + v1 + v2 = M at *
  generalize 1 + v1 = s at *
  have s1 := T.s1
  have s2 := T.s2
  refine Sm.fmono T.r2 fun r o hh => ?_
  obtain ⟨y, rfl, rfl⟩ := hh
  refine ⟨nfr, ?_⟩
  walk_at "lw v"
  walk_at "lw e"
  refine iteB0 (ne_one (f := 2) (t := 0) (u := 0) (b := s) rfl) ?_
  walk_at "lw e"
  by_cases hd : 3 ≤ (M - v3) / s
  · obtain ⟨as, ea, hal⟩ := cut_two T hd
    have r1 := T.r1
    rw [ea] at r1
    have q0 := head_rw (2, s, v3 + s) as [((M - v3) / s + (if (M - v3) % s > 0 then 1 else 0), 0, M + s)]
    have q1 := last_rw ((2, s, v3 + s) :: as) ((M - v3) / s + (if (M - v3) % s > 0 then 1 else 0), 0, M + s)
    have q2 : ((((2, s, v3 + s) :: as ++ [((M - v3) / s + (if (M - v3) % s > 0 then 1 else 0), 0, M + s)]).map rwT).length : Int) = 2 + (if (M - v3) % s > 0 then 1 else 0) := by
      rw [← hal, List.length_map, List.length_append, List.length_cons]
      simp
      omega
    generalize (2, s, v3 + s) :: as ++ [((M - v3) / s + (if (M - v3) % s > 0 then 1 else 0), 0, M + s)] = cs at *
    refine Sm.fmono r1 fun r o hh => ?_
    obtain ⟨y, rfl, rfl⟩ := hh
    refine ⟨nfr, ?_⟩
    walk_at "lw v"
    walk_at "lw e"
    walk_at "lw n"
    walk_at "lw e"
    refine ⟨div_i (by omega), ?_⟩
    walk_at "lw e"
    refine iteDF (by omega) ?_
    walk_at "lw e"
    refine ⟨div_i (by omega), ?_⟩
    walk_at "lw e"
    refine ⟨mod_i (by omega), ?_⟩
    walk_at "lw e"
    walk_at "lw n"
    walk_at "lw e"
    simp only [decide_eq_true_eq]
    refine ⟨q0, ?_⟩
    walk_at "lw e"
    refine iteB0 (trip_ne 2 s (v3 + s)) ?_
    walk_at "lw e"
    refine ⟨q1, ?_⟩
    walk_at "lw e"
    refine iteB0 (tail_ne _ _ _) ?_
    walk_at "lw e"
    refine ⟨q1, ?_⟩
    walk_at "lw e"
    refine iteB1 (eqv_ii ((M - v3) / s + (if (M - v3) % s > 0 then 1 else 0))) ?_
    walk_at "lw e"
    refine ⟨_, _, rfl, ?_, h3.less (by omega), rfl⟩
    show PyData.bool (PyData.eqv (.int ((cs.map rwT).length : Int)) (.int (2 + (if (M - v3) % s > 0 then 1 else 0)))) = .bool true
    rw [q2, eqv_ii]
  · obtain ⟨as, f, ea⟩ := cut_last 2 s (v3 + s) (M + s)
    have r1 := T.r1
    rw [ea] at r1
    refine Sm.fmono r1 fun r o hh => ?_
    obtain ⟨y, rfl, rfl⟩ := hh
    refine ⟨nfr, ?_⟩
    walk_at "lw v"
    walk_at "lw e"
    walk_at "lw n"
    walk_at "lw e"
    refine ⟨div_i (by omega), ?_⟩
    walk_at "lw e"
    refine iteDT (by omega) ?_
    walk_at "lw e"
    refine ⟨last_rw as _, ?_⟩
    walk_at "lw e"
    refine ⟨last_rw as _, ?_⟩
    walk_at "lw e"
    refine ⟨_, _, rfl, ?_, h3.less (by omega), rfl⟩
    show PyData.bool (PyData.eqv (.tuple [.int f, .int 0, .int (M + s)]) (.tuple [.int f, .int 0, .int (M + s)])) = .bool true
    rw [SeqAt.eqv_refl _ rfl]
theorem right_ok {c : Nat} {bs : List D} (hb : Box (c + 100000) bs) : wpf m_l_right [.own true bs] (DrawQ c (fun d => d = .bool true) []) := by
  refine Sm.run ?_
  unfold g_l_right
  walk_at "lw n"
  walk_at "lw e"
  refine Sm.fmono (one_ok (c := c + 50000) (hb.less (by omega))) fun r o hh => ?_
  obtain ⟨x, b1, rfl, rfl, h1, rfl⟩ := hh
  refine ⟨nref, ?_⟩
  walk_at "lw n"
  walk_at "lw e"
  refine Sm.fmono (two_ok (c := c) (h1.less (by omega))) fun r o hh => ?_
  obtain ⟨x, b2, rfl, rfl, h2, rfl⟩ := hh
  refine ⟨nref, ?_⟩
  walk_at "lw n"
  walk_at "lw e"
  exact ⟨_, _, rfl, rfl, h2, rfl⟩
end K18
namespace K18
open PySem PySem.Spec PyProof.Rows L2 Lw
theorem sem_law (ns : List Int) (hl : ns.length ≤ 63) (_hb : ∀ z ∈ ns, Builtin.Int.intBits z ≤ 1048576) : ∃ outs, m_p_law [.pure (.list (ns.map PyData.int))] = some (.pure (.bool true), outs) :=
  wpf_law (law_ok2 (right := m_l_right) (k := 4) (by decide) (by decide) (fun _ h => Sm.fmono (right_ok (c := 900000) h) fun r o hh => by obtain ⟨d, ds', rfl, rfl, _, _⟩ := hh; exact ⟨_, rfl, rfl⟩) ns hl)
end K18
namespace K18
open PySem PySem.Spec PyProof.Rows L2 Lw
theorem sc_p_rows_at : FnScope ["table", "lines", "pound", "row"] ["table", "lines", "pound"] (defScope s_p_rows_at) := ⟨rfl, rfl, rfl, by decide +kernel, rfl, by decide +kernel, by decide +kernel⟩
theorem sc_p_lines_of : FnScope ["table", "totals", "rows", "ends", "lines", "end", "place", "row", "at", "begin"] ["table", "totals"] (defScope s_p_lines_of) := ⟨rfl, rfl, rfl, by decide +kernel, rfl, by decide +kernel, by decide +kernel⟩
theorem sc_p_begins_waiting : FnScope ["rows", "ends", "place", "step", "begins", "at"] ["rows", "ends", "place"] (defScope s_p_begins_waiting) := ⟨rfl, rfl, rfl, by decide +kernel, rfl, by decide +kernel, by decide +kernel⟩
theorem sc_p_stepped_on : FnScope ["rows", "begins", "at", "limit", "step", "upper"] ["rows", "begins", "at", "limit", "step"] (defScope s_p_stepped_on) := ⟨rfl, rfl, rfl, by decide +kernel, rfl, by decide +kernel, by decide +kernel⟩
theorem sc_p_merged : FnScope ["row", "lines", "begins", "more", "straight", "step", "begin"] ["row", "lines"] (defScope s_p_merged) := ⟨rfl, rfl, rfl, by decide +kernel, rfl, by decide +kernel, by decide +kernel⟩
theorem sc_p_rows_from : FnScope ["first", "lines", "rows", "bend"] ["first", "lines"] (defScope s_p_rows_from) := ⟨rfl, rfl, rfl, by decide +kernel, rfl, by decide +kernel, by decide +kernel⟩
theorem sc_p_row_at : FnScope ["first", "lines", "total", "step"] ["first", "lines"] (defScope s_p_row_at) := ⟨rfl, rfl, rfl, by decide +kernel, rfl, by decide +kernel, by decide +kernel⟩
theorem sc_p_lowest : FnScope ["lines", "many", "step", "begin"] ["lines", "many"] (defScope s_p_lowest) := ⟨rfl, rfl, rfl, by decide +kernel, rfl, by decide +kernel, by decide +kernel⟩
theorem sc_p_bend_of : FnScope ["row", "lines", "first", "step", "begin", "lesser", "other"] ["row", "lines"] (defScope s_p_bend_of) := ⟨rfl, rfl, rfl, by decide +kernel, rfl, by decide +kernel, by decide +kernel⟩
theorem sc_p_change_of : FnScope ["stair", "deed", "word", "place"] ["stair", "deed"] (defScope s_p_change_of) := ⟨rfl, rfl, rfl, by decide +kernel, rfl, by decide +kernel, by decide +kernel⟩
theorem sc_p_sums_of : FnScope ["stair", "deeds", "changes", "deed", "pound", "more", "lowest"] ["stair", "deeds"] (defScope s_p_sums_of) := ⟨rfl, rfl, rfl, by decide +kernel, rfl, by decide +kernel, by decide +kernel⟩
theorem sc_p_led : FnScope ["table", "totals", "parts", "more", "total", "at", "row"] ["table", "totals"] (defScope s_p_led) := ⟨rfl, rfl, rfl, by decide +kernel, rfl, by decide +kernel, by decide +kernel⟩
theorem sc_p_table_of : FnScope ["stair", "deeds"] ["stair", "deeds"] (defScope s_p_table_of) := ⟨rfl, rfl, rfl, by decide +kernel, rfl, by decide +kernel, by decide +kernel⟩
theorem sc_p_tables_along : FnScope ["stair", "deeds", "table", "along", "deed"] ["stair", "deeds"] (defScope s_p_tables_along) := ⟨rfl, rfl, rfl, by decide +kernel, rfl, by decide +kernel, by decide +kernel⟩
theorem sc_p_brim_table : FnScope ["stair", "rows", "above", "pound", "more"] ["stair"] (defScope s_p_brim_table) := ⟨rfl, rfl, rfl, by decide +kernel, rfl, by decide +kernel, by decide +kernel⟩
theorem sc_p_table_behind : FnScope ["stair", "table", "deed", "changed", "more", "rows", "above", "pound", "added", "row", "number", "brim", "rest"] ["stair", "table", "deed"] (defScope s_p_table_behind) := ⟨rfl, rfl, rfl, by decide +kernel, rfl, by decide +kernel, by decide +kernel⟩
theorem sc_p_behind : FnScope ["one", "other", "rows", "at", "row"] ["one", "other"] (defScope s_p_behind) := ⟨rfl, rfl, rfl, by decide +kernel, rfl, by decide +kernel, by decide +kernel⟩
theorem sc_p_row_behind : FnScope ["rows", "row", "between", "place"] ["rows", "row"] (defScope s_p_row_behind) := ⟨rfl, rfl, rfl, by decide +kernel, rfl, by decide +kernel, by decide +kernel⟩
theorem sc_p_doubles_of : FnScope ["table", "most", "double", "row", "doubles", "step"] ["table", "most"] (defScope s_p_doubles_of) := ⟨rfl, rfl, rfl, by decide +kernel, rfl, by decide +kernel, by decide +kernel⟩
theorem sc_p_doubles_in : FnScope ["doubles", "many", "at", "double"] ["doubles", "many"] (defScope s_p_doubles_in) := ⟨rfl, rfl, rfl, by decide +kernel, rfl, by decide +kernel, by decide +kernel⟩
theorem sc_p_led_often : FnScope ["doubles", "totals", "many", "totals_now", "double"] ["doubles", "totals", "many"] (defScope s_p_led_often) := ⟨rfl, rfl, rfl, by decide +kernel, rfl, by decide +kernel, by decide +kernel⟩
theorem sc_p_totals_of : FnScope ["levels", "totals", "above", "level"] ["levels"] (defScope s_p_totals_of) := ⟨rfl, rfl, rfl, by decide +kernel, rfl, by decide +kernel, by decide +kernel⟩
theorem sc_p_levels_of : FnScope ["totals", "above", "total", "rest"] ["totals"] (defScope s_p_levels_of) := ⟨rfl, rfl, rfl, by decide +kernel, rfl, by decide +kernel, by decide +kernel⟩
theorem sc_p_far_levels : FnScope ["stair", "levels", "deeds", "many"] ["stair", "levels", "deeds", "many"] (defScope s_p_far_levels) := ⟨rfl, rfl, rfl, by decide +kernel, rfl, by decide +kernel, by decide +kernel⟩
theorem sc_p_far_totals : FnScope ["stair", "levels", "deeds", "many"] ["stair", "levels", "deeds", "many"] (defScope s_p_far_totals) := ⟨rfl, rfl, rfl, by decide +kernel, rfl, by decide +kernel, by decide +kernel⟩
theorem sc_p_ran_over : FnScope ["stair", "levels", "deeds", "many", "ahead", "left", "total", "more", "rest"] ["stair", "levels", "deeds", "many"] (defScope s_p_ran_over) := ⟨rfl, rfl, rfl, by decide +kernel, rfl, by decide +kernel, by decide +kernel⟩
theorem sc_p_rows_of : FnScope ["stair", "levels", "deeds", "place", "pound", "lines"] ["stair", "levels", "deeds", "place", "pound"] (defScope s_p_rows_of) := ⟨rfl, rfl, rfl, by decide +kernel, rfl, by decide +kernel, by decide +kernel⟩
theorem sc_l_box : FnScope ["_law_script", "_law_k", "_law_cell"] ["_law_script", "_law_k"] (defScope s_l_box) := ⟨rfl, rfl, rfl, by decide +kernel, rfl, by decide +kernel, by decide +kernel⟩
theorem sc_l_take : FnScope ["_law_box_here", "_law_size", "_law_found", "_law_step", "_law_once", "_law_twice"] ["_law_box_here", "_law_size"] (defScope s_l_take) := ⟨rfl, rfl, rfl, by decide +kernel, rfl, by decide +kernel, by decide +kernel⟩
theorem sc_l_folded : FnScope ["_law_script", "_law_size", "_law_cells", "_law_k", "_law_cell"] ["_law_script", "_law_size"] (defScope s_l_folded) := ⟨rfl, rfl, rfl, by decide +kernel, rfl, by decide +kernel, by decide +kernel⟩
theorem sc_l_same : FnScope ["_law_found", "_law_due", "_law_one", "_law_other"] ["_law_found", "_law_due"] (defScope s_l_same) := ⟨rfl, rfl, rfl, by decide +kernel, rfl, by decide +kernel, by decide +kernel⟩
theorem sc_l_cut : FnScope ["_law_first", "_law_step", "_law_begin", "_law_top", "_law_full", "_law_found", "_law_last", "_law_rest"] ["_law_first", "_law_step", "_law_begin", "_law_top"] (defScope s_l_cut) := ⟨rfl, rfl, rfl, by decide +kernel, rfl, by decide +kernel, by decide +kernel⟩
theorem sc_l_one_right : FnScope ["_law_box_here", "_law_least", "_law_size", "_law_most", "_law_stair", "_law_more", "_law_flat", "_law_due", "_law_once", "_law_lap", "_law_many", "_law_ran", "_law_found"] ["_law_box_here"] (defScope s_l_one_right) := ⟨rfl, rfl, rfl, by decide +kernel, rfl, by decide +kernel, by decide +kernel⟩
theorem sc_l_two_right : FnScope ["_law_box_here", "_law_size", "_law_most", "_law_stair", "_law_lap", "_law_flat", "_law_found", "_law_due", "_law_full", "_law_rest"] ["_law_box_here"] (defScope s_l_two_right) := ⟨rfl, rfl, rfl, by decide +kernel, rfl, by decide +kernel, by decide +kernel⟩
theorem sc_l_right : FnScope ["_law_box_here"] ["_law_box_here"] (defScope s_l_right) := ⟨rfl, rfl, rfl, by decide +kernel, rfl, by decide +kernel, by decide +kernel⟩
theorem sc_p_law : FnScope ["_law_script", "_law_cells", "_law_k"] ["_law_script"] (defScope s_p_law) := ⟨rfl, rfl, rfl, by decide +kernel, rfl, by decide +kernel, by decide +kernel⟩
section
variable {P : Program} {w : World} {K : PySem.W.Frag} {mg : Str → Option Value} {base : Heap} {f : Addr}
theorem b_p_rows_at (n_len : mg "len" = none) (f_p_merged : Fo P w K mg base "merged" ["row", "lines"] m_p_merged 1) (f_p_rows_from : Fo P w K mg base "rows_from" ["first", "lines"] m_p_rows_from 3) : ∀ (cdv : Value) (A : Around) (outer : List Env) (s : Shared) (H : Hp) (E : XK), A.guards = some [] → Room 3 (A.deeper (envOfC "rows_at" (defScope s_p_rows_at) s.heap.objs.size f cdv)) →
    PSsd (cxOf CX0 P w K mg base ["table", "lines", "pound", "row"] "rows_at" (defScope s_p_rows_at) f cdv A outer s H E).nox (defBody s_p_rows_at) g_p_rows_at := by
  intro cdv A outer s H E hgd hr
  unfold g_p_rows_at
  exact (s_cons (s_asg (d_ix (d_lst (a_star (d_var 0 (pv 0)) (a_val (d_tup (a_val d_int a_nil)) a_nil))) (d_subA (d_var 2 (pv 2)) d_int)) (g_name (pg_name (i := 3) sc_p_rows_at.nd rfl (by first | exact Or.inl rfl | exact Or.inr rfl))))
  (s_one (s_ret (Fo.call f_p_rows_from hgd hr (by decide) (by rfl) rfl (a_val (d_len (by rfl) n_len (d_var 0 (pv 0))) (a_val (Fo.call f_p_merged hgd hr (by decide) (by rfl) rfl (a_val (d_var 3 (pv 3)) (a_val (d_sl (d_var 1 (pv 1)) (o_some (d_subA (d_var 2 (pv 2)) d_int)) o_none) a_nil)) (argV_len (argV_len (fun _ _ _ h => argN_len h)))) a_nil)) (argV_len (argV_len (fun _ _ _ h => argN_len h)))))))
theorem b_p_lines_of (n_enumerate : mg "enumerate" = none) (f_p_begins_waiting : Fo P w K mg base "begins_waiting" ["rows", "ends", "place"] m_p_begins_waiting 2) : ∀ (cdv : Value) (A : Around) (outer : List Env) (s : Shared) (H : Hp) (E : XK), A.guards = some [] → Room 2 (A.deeper (envOfC "lines_of" (defScope s_p_lines_of) s.heap.objs.size f cdv)) →
    PSsd (cxOf CX0 P w K mg base ["table", "totals", "rows", "ends", "lines", "end", "place", "row", "at", "begin"] "lines_of" (defScope s_p_lines_of) f cdv A outer s H E).nox (defBody s_p_lines_of) g_p_lines_of := by
  intro cdv A outer s H E hgd hr
  unfold g_p_lines_of
  exact (s_cons (s_asg (d_lst (a_star (d_var 0 (pv 0)) (a_val (d_tup (a_val d_int a_nil)) a_nil))) (g_name (pg_name (i := 2) sc_p_lines_of.nd rfl (by first | exact Or.inl rfl | exact Or.inr rfl))))
  (s_cons (s_asg (d_lst (a_star (d_var 1 (pv 1)) (a_val d_int a_nil))) (g_name (pg_name (i := 3) sc_p_lines_of.nd rfl (by first | exact Or.inl rfl | exact Or.inr rfl))))
  (fun F => PSs.mono (pss_cons (ps_setLc (i := 4) (own := [("end", 5)]) rfl sc_p_lines_of.nd rfl rfl (sw_true rfl rfl rfl (by decide +kernel)) (PId.ex (i_seq (d_var 3 (pv 3)))) (blkOk_by (N := ["table", "totals", "rows", "ends", "lines", "end", "place", "row", "at", "begin"]) (sc := defScope s_p_lines_of) (own := [("end", 5)]) (by decide +kernel)) (fun _ _ _ _ _ => PGd.ex (g_name (pg_name (i := 5) sc_p_lines_of.nd rfl (by first | exact Or.inl rfl | exact Or.inr rfl)))) (fun _ _ _ _ _ => ts_nil) (fun _ _ _ _ _ => pe_lst pa_nil)) (pss_cons ((s_nfor PassesOwn.never rfl (i_enumK (by rfl) n_enumerate (d_var 2 (pv 2))) (g_tup (PG.or (pg_tup rfl (PGsd.ex (gs_cons (g_name (pg_name (i := 6) sc_p_lines_of.nd rfl (by first | exact Or.inl rfl | exact Or.inr rfl))) (gs_cons (g_name (pg_name (i := 7) sc_p_lines_of.nd rfl (by first | exact Or.inl rfl | exact Or.inr rfl))) gs_nil (pgs_cons (PGd.ex (g_name (pg_name (i := 7) sc_p_lines_of.nd rfl (by first | exact Or.inl rfl | exact Or.inr rfl)))) (PGsd.ex gs_nil))) (pgs_cons (PGd.ex (g_name (pg_name (i := 6) sc_p_lines_of.nd rfl (by first | exact Or.inl rfl | exact Or.inr rfl)))) (PGsd.ex (gs_cons (g_name (pg_name (i := 7) sc_p_lines_of.nd rfl (by first | exact Or.inl rfl | exact Or.inr rfl))) gs_nil (pgs_cons (PGd.ex (g_name (pg_name (i := 7) sc_p_lines_of.nd rfl (by first | exact Or.inl rfl | exact Or.inr rfl)))) (PGsd.ex gs_nil)))))))) (pg_lst rfl (PGsd.ex (gs_cons (g_name (pg_name (i := 6) sc_p_lines_of.nd rfl (by first | exact Or.inl rfl | exact Or.inr rfl))) (gs_cons (g_name (pg_name (i := 7) sc_p_lines_of.nd rfl (by first | exact Or.inl rfl | exact Or.inr rfl))) gs_nil (pgs_cons (PGd.ex (g_name (pg_name (i := 7) sc_p_lines_of.nd rfl (by first | exact Or.inl rfl | exact Or.inr rfl)))) (PGsd.ex gs_nil))) (pgs_cons (PGd.ex (g_name (pg_name (i := 6) sc_p_lines_of.nd rfl (by first | exact Or.inl rfl | exact Or.inr rfl)))) (PGsd.ex (gs_cons (g_name (pg_name (i := 7) sc_p_lines_of.nd rfl (by first | exact Or.inl rfl | exact Or.inr rfl))) gs_nil (pgs_cons (PGd.ex (g_name (pg_name (i := 7) sc_p_lines_of.nd rfl (by first | exact Or.inl rfl | exact Or.inr rfl)))) (PGsd.ex gs_nil)))))))))) (by decide) (sn_one (s_nfor PassesOwn.never rfl (i_enumK (by rfl) n_enumerate (Fo.call f_p_begins_waiting hgd hr (by decide) (by rfl) rfl (a_val (d_var 2 (pv 2)) (a_val (d_var 3 (pv 3)) (a_val (d_var 6 (pv 6)) a_nil))) (argV_len (argV_len (argV_len (fun _ _ _ h => argN_len h)))))) (g_tup (PG.or (pg_tup rfl (PGsd.ex (gs_cons (g_name (pg_name (i := 8) sc_p_lines_of.nd rfl (by first | exact Or.inl rfl | exact Or.inr rfl))) (gs_cons (g_name (pg_name (i := 9) sc_p_lines_of.nd rfl (by first | exact Or.inl rfl | exact Or.inr rfl))) gs_nil (pgs_cons (PGd.ex (g_name (pg_name (i := 9) sc_p_lines_of.nd rfl (by first | exact Or.inl rfl | exact Or.inr rfl)))) (PGsd.ex gs_nil))) (pgs_cons (PGd.ex (g_name (pg_name (i := 8) sc_p_lines_of.nd rfl (by first | exact Or.inl rfl | exact Or.inr rfl)))) (PGsd.ex (gs_cons (g_name (pg_name (i := 9) sc_p_lines_of.nd rfl (by first | exact Or.inl rfl | exact Or.inr rfl))) gs_nil (pgs_cons (PGd.ex (g_name (pg_name (i := 9) sc_p_lines_of.nd rfl (by first | exact Or.inl rfl | exact Or.inr rfl)))) (PGsd.ex gs_nil)))))))) (pg_lst rfl (PGsd.ex (gs_cons (g_name (pg_name (i := 8) sc_p_lines_of.nd rfl (by first | exact Or.inl rfl | exact Or.inr rfl))) (gs_cons (g_name (pg_name (i := 9) sc_p_lines_of.nd rfl (by first | exact Or.inl rfl | exact Or.inr rfl))) gs_nil (pgs_cons (PGd.ex (g_name (pg_name (i := 9) sc_p_lines_of.nd rfl (by first | exact Or.inl rfl | exact Or.inr rfl)))) (PGsd.ex gs_nil))) (pgs_cons (PGd.ex (g_name (pg_name (i := 8) sc_p_lines_of.nd rfl (by first | exact Or.inl rfl | exact Or.inr rfl)))) (PGsd.ex (gs_cons (g_name (pg_name (i := 9) sc_p_lines_of.nd rfl (by first | exact Or.inl rfl | exact Or.inr rfl))) gs_nil (pgs_cons (PGd.ex (g_name (pg_name (i := 9) sc_p_lines_of.nd rfl (by first | exact Or.inl rfl | exact Or.inr rfl)))) (PGsd.ex gs_nil)))))))))) (by decide) (sn_one (s_napp (pv 4) (d_var 8 (pv 8)) (d_tup (a_val (d_ix (d_var 7 (pv 7)) d_int) (a_val (d_var 9 (pv 9)) a_nil))) (hp := fun to t h1 h2 => pe_bm PySem.F.plainAttrs_list PySem.F.slot_list_append PySem.F.type_list_append mt_append h1 h2)))))) F) (pss_one (ps_ret (pv 4))))) fun D σ H hq => t_nest hq)))
theorem b_p_begins_waiting (n_len : mg "len" = none) (n_list : mg "list" = none) (n_min : mg "min" = none) (n_range : mg "range" = none) (n_reversed : mg "reversed" = none) (f_p_stepped_on : Fo P w K mg base "stepped_on" ["rows", "begins", "at", "limit", "step"] m_p_stepped_on 1) : ∀ (cdv : Value) (A : Around) (outer : List Env) (s : Shared) (H : Hp) (E : XK), A.guards = some [] → Room 1 (A.deeper (envOfC "begins_waiting" (defScope s_p_begins_waiting) s.heap.objs.size f cdv)) →
    PSsd (cxOf CX0 P w K mg base ["rows", "ends", "place", "step", "begins", "at"] "begins_waiting" (defScope s_p_begins_waiting) f cdv A outer s H E).nox (defBody s_p_begins_waiting) g_p_begins_waiting := by
  intro cdv A outer s H E hgd hr
  unfold g_p_begins_waiting
  exact (s_cons (s_asg (d_ix (d_ix (d_var 0 (pv 0)) (d_var 2 (pv 2))) d_int) (g_name (pg_name (i := 3) sc_p_begins_waiting.nd rfl (by first | exact Or.inl rfl | exact Or.inr rfl))))
  (s_cons (s_asgO (d_list (by rfl) n_list (d_var 1 (pv 1))) (fun te h => ps_set (i := 4) sc_p_begins_waiting.nd rfl (by first | exact Or.inl rfl | exact Or.inr rfl) h))
  (s_cons (s_for PassesOwn.never rfl (i_revR2 (by rfl) n_reversed (by rfl) n_range (d_var 2 (pv 2)) (d_len (by rfl) n_len (d_var 1 (pv 1)))) (g_name (pg_name (i := 5) sc_p_begins_waiting.nd rfl (by first | exact Or.inl rfl | exact Or.inr rfl))) (s_one (s_asg (d_minK rfl (units1 hr) (by rfl) n_min (d_addA (d_lst (a_val (d_ix (d_var 4 (pv 4)) (d_var 5 (pv 5))) a_nil)) (Fo.call f_p_stepped_on hgd hr (by decide) (by rfl) rfl (a_val (d_var 0 (pv 0)) (a_ref (d_var 4 (pv 4)) (a_val (d_var 5 (pv 5)) (a_val (d_len (by rfl) n_len (d_var 1 (pv 1))) (a_val (d_var 3 (pv 3)) a_nil))))) (argV_len (argR_len (argV_len (argV_len (argV_len (fun _ _ _ h => argN_len h))))))))) (g_sub (pg_sub (PEd.ex (d_var 4 (pv 4))) (PEd.ex (d_sub (d_var 5 (pv 5)))) set_list)))))
  (s_cons (s_for PassesOwn.never rfl (i_revR1 (by rfl) n_reversed (by rfl) n_range (d_var 2 (pv 2))) (g_name (pg_name (i := 5) sc_p_begins_waiting.nd rfl (by first | exact Or.inl rfl | exact Or.inr rfl))) (s_one (s_asg (d_minK rfl (units1 hr) (by rfl) n_min (Fo.call f_p_stepped_on hgd hr (by decide) (by rfl) rfl (a_val (d_var 0 (pv 0)) (a_ref (d_var 4 (pv 4)) (a_val (d_var 5 (pv 5)) (a_val (d_addA (d_var 2 (pv 2)) d_int) (a_val (d_var 3 (pv 3)) a_nil))))) (argV_len (argR_len (argV_len (argV_len (argV_len (fun _ _ _ h => argN_len h)))))))) (g_sub (pg_sub (PEd.ex (d_var 4 (pv 4))) (PEd.ex (d_sub (d_var 5 (pv 5)))) set_list)))))
  (s_one (s_ret (d_sl (d_var 4 (pv 4)) o_none (o_some (d_addA (d_var 2 (pv 2)) d_int)))))))))
theorem b_p_stepped_on (n_range : mg "range" = none) : ∀ (cdv : Value) (A : Around) (outer : List Env) (s : Shared) (H : Hp) (E : XK), A.guards = some [] → Room 0 (A.deeper (envOfC "stepped_on" (defScope s_p_stepped_on) s.heap.objs.size f cdv)) →
    PSsd (cxOf CX0 P w K mg base ["rows", "begins", "at", "limit", "step", "upper"] "stepped_on" (defScope s_p_stepped_on) f cdv A outer s H E).nox (defBody s_p_stepped_on) g_p_stepped_on := by
  intro cdv A outer s H E hgd hr
  unfold g_p_stepped_on
  exact (s_one (s_ret (d_lc (own := [("upper", 5)]) rfl sc_p_stepped_on.nd (i_rng2 (by rfl) n_range (d_addA (d_var 2 (pv 2)) d_int) (d_var 3 (pv 3)) (fun t h => pi_range2 (by rfl) n_range h)) (blkOk_by (N := ["rows", "begins", "at", "limit", "step", "upper"]) (sc := defScope s_p_stepped_on) (own := [("upper", 5)]) (by decide +kernel)) (fun _ _ _ _ _ => (g_name (pg_name (i := 5) sc_p_stepped_on.nd rfl (by first | exact Or.inl rfl | exact Or.inr rfl)))) (fun _ _ _ _ _ => ts_nil) (fun _ _ _ _ _ => (d_addA (d_subA (d_ix (d_ix (d_var 0 (pv 0)) (d_var 2 (pv 2))) (d_subA (d_var 5 (pv 5)) (d_var 2 (pv 2)))) (d_var 4 (pv 4))) (d_ix (d_var 1 (pv 1)) (d_var 5 (pv 5))))))))
theorem b_p_merged (n_list : mg "list" = none) (n_min : mg "min" = none) (n_zip : mg "zip" = none) : ∀ (cdv : Value) (A : Around) (outer : List Env) (s : Shared) (H : Hp) (E : XK), A.guards = some [] → Room 0 (A.deeper (envOfC "merged" (defScope s_p_merged) s.heap.objs.size f cdv)) →
    PSsd (cxOf CX0 P w K mg base ["row", "lines", "begins", "more", "straight", "step", "begin"] "merged" (defScope s_p_merged) f cdv A outer s H E).nox (defBody s_p_merged) g_p_merged := by
  intro cdv A outer s H E hgd hr
  unfold g_p_merged
  exact (fun F => PSs.mono (pss_cons (ps_asg pe_dnewK (pg_name (i := 2) sc_p_merged.nd rfl (by first | exact Or.inl rfl | exact Or.inr rfl))) (pss_cons ((s_dfor PassesOwn.never rfl (i_zip2 (by rfl) n_zip (d_var 0 (pv 0)) (d_var 1 (pv 1))) (g_tup (PG.or (pg_tup rfl (PGsd.ex (gs_cons (g_name (pg_name (i := 3) sc_p_merged.nd rfl (by first | exact Or.inl rfl | exact Or.inr rfl))) (gs_cons (g_name (pg_name (i := 4) sc_p_merged.nd rfl (by first | exact Or.inl rfl | exact Or.inr rfl))) gs_nil (pgs_cons (PGd.ex (g_name (pg_name (i := 4) sc_p_merged.nd rfl (by first | exact Or.inl rfl | exact Or.inr rfl)))) (PGsd.ex gs_nil))) (pgs_cons (PGd.ex (g_name (pg_name (i := 3) sc_p_merged.nd rfl (by first | exact Or.inl rfl | exact Or.inr rfl)))) (PGsd.ex (gs_cons (g_name (pg_name (i := 4) sc_p_merged.nd rfl (by first | exact Or.inl rfl | exact Or.inr rfl))) gs_nil (pgs_cons (PGd.ex (g_name (pg_name (i := 4) sc_p_merged.nd rfl (by first | exact Or.inl rfl | exact Or.inr rfl)))) (PGsd.ex gs_nil)))))))) (pg_lst rfl (PGsd.ex (gs_cons (g_name (pg_name (i := 3) sc_p_merged.nd rfl (by first | exact Or.inl rfl | exact Or.inr rfl))) (gs_cons (g_name (pg_name (i := 4) sc_p_merged.nd rfl (by first | exact Or.inl rfl | exact Or.inr rfl))) gs_nil (pgs_cons (PGd.ex (g_name (pg_name (i := 4) sc_p_merged.nd rfl (by first | exact Or.inl rfl | exact Or.inr rfl)))) (PGsd.ex gs_nil))) (pgs_cons (PGd.ex (g_name (pg_name (i := 3) sc_p_merged.nd rfl (by first | exact Or.inl rfl | exact Or.inr rfl)))) (PGsd.ex (gs_cons (g_name (pg_name (i := 4) sc_p_merged.nd rfl (by first | exact Or.inl rfl | exact Or.inr rfl))) gs_nil (pgs_cons (PGd.ex (g_name (pg_name (i := 4) sc_p_merged.nd rfl (by first | exact Or.inl rfl | exact Or.inr rfl)))) (PGsd.ex gs_nil)))))))))) (by decide) (sdi_one (s_dfor PassesOwn.never rfl (i_seq (d_var 4 (pv 4))) (g_tup (PG.or (pg_tup rfl (PGsd.ex (gs_cons (g_name (pg_name (i := 5) sc_p_merged.nd rfl (by first | exact Or.inl rfl | exact Or.inr rfl))) (gs_cons (g_name (pg_name (i := 6) sc_p_merged.nd rfl (by first | exact Or.inl rfl | exact Or.inr rfl))) gs_nil (pgs_cons (PGd.ex (g_name (pg_name (i := 6) sc_p_merged.nd rfl (by first | exact Or.inl rfl | exact Or.inr rfl)))) (PGsd.ex gs_nil))) (pgs_cons (PGd.ex (g_name (pg_name (i := 5) sc_p_merged.nd rfl (by first | exact Or.inl rfl | exact Or.inr rfl)))) (PGsd.ex (gs_cons (g_name (pg_name (i := 6) sc_p_merged.nd rfl (by first | exact Or.inl rfl | exact Or.inr rfl))) gs_nil (pgs_cons (PGd.ex (g_name (pg_name (i := 6) sc_p_merged.nd rfl (by first | exact Or.inl rfl | exact Or.inr rfl)))) (PGsd.ex gs_nil)))))))) (pg_lst rfl (PGsd.ex (gs_cons (g_name (pg_name (i := 5) sc_p_merged.nd rfl (by first | exact Or.inl rfl | exact Or.inr rfl))) (gs_cons (g_name (pg_name (i := 6) sc_p_merged.nd rfl (by first | exact Or.inl rfl | exact Or.inr rfl))) gs_nil (pgs_cons (PGd.ex (g_name (pg_name (i := 6) sc_p_merged.nd rfl (by first | exact Or.inl rfl | exact Or.inr rfl)))) (PGsd.ex gs_nil))) (pgs_cons (PGd.ex (g_name (pg_name (i := 5) sc_p_merged.nd rfl (by first | exact Or.inl rfl | exact Or.inr rfl)))) (PGsd.ex (gs_cons (g_name (pg_name (i := 6) sc_p_merged.nd rfl (by first | exact Or.inl rfl | exact Or.inr rfl))) gs_nil (pgs_cons (PGd.ex (g_name (pg_name (i := 6) sc_p_merged.nd rfl (by first | exact Or.inl rfl | exact Or.inr rfl)))) (PGsd.ex gs_nil)))))))))) (by decide) (sdi_one (s_dset (ps_asg (pe_callB (call_min2 rfl) (by rfl) n_min (by decide +kernel) (pa_cons (PDd.ex (d_esc (d_addA (d_var 6 (pv 6)) (d_var 3 (pv 3))))) (pa_cons (pe_dget2 (un_small (units1 hr)) (pv 2) (pv 5) (PDd.ex (d_esc (d_addA (d_var 6 (pv 6)) (d_var 3 (pv 3))))) ⟨rfl, rfl, rfl, rfl⟩) pa_nil))) (pg_sub (pv 2) (pv 5) (set_dict (un_small (units1 hr)))))))))) F) (pss_one (ps_ret (LiI.pe_listItems rfl (pv 2) (by rfl) n_list (by decide +kernel)))))) fun D σ H hq => t_dic hq)
theorem b_p_rows_from (f_p_row_at : Fo P w K mg base "row_at" ["first", "lines"] m_p_row_at 2) (f_p_bend_of : Fo P w K mg base "bend_of" ["row", "lines"] m_p_bend_of 1) : ∀ (cdv : Value) (A : Around) (outer : List Env) (s : Shared) (H : Hp) (E : XK), A.guards = some [] → Room 2 (A.deeper (envOfC "rows_from" (defScope s_p_rows_from) s.heap.objs.size f cdv)) →
    PSsd (cxOf CX0 P w K mg base ["first", "lines", "rows", "bend"] "rows_from" (defScope s_p_rows_from) f cdv A outer s H E).nox (defBody s_p_rows_from) g_p_rows_from := by
  intro cdv A outer s H E hgd hr
  unfold g_p_rows_from
  exact (s_cons (s_asgO (d_lst (a_val (Fo.call f_p_row_at hgd hr (by decide) (by rfl) rfl (a_val (d_var 0 (pv 0)) (a_val (d_var 1 (pv 1)) a_nil)) (argV_len (argV_len (fun _ _ _ h => argN_len h)))) a_nil)) (fun te h => ps_set (i := 2) sc_p_rows_from.nd rfl (by first | exact Or.inl rfl | exact Or.inr rfl) h))
  (s_cons (s_asg (Fo.call f_p_bend_of hgd hr (by decide) (by rfl) rfl (a_val (d_ix (d_var 2 (pv 2)) (d_neg d_int)) (a_val (d_var 1 (pv 1)) a_nil)) (argV_len (argV_len (fun _ _ _ h => argN_len h)))) (g_name (pg_name (i := 3) sc_p_rows_from.nd rfl (by first | exact Or.inl rfl | exact Or.inr rfl))))
  (s_cons (s_while PassesOwn.never (d_tstC op_notN (fun _ => op2_isNot) (d_var 3 (pv 3)) d_non (nomark _)) (s_cons (s_expr (d_mth m_append (d_var 2 (pv 2)) (a_val (Fo.call f_p_row_at hgd hr (by decide) (by rfl) rfl (a_val (d_var 3 (pv 3)) (a_val (d_var 1 (pv 1)) a_nil)) (argV_len (argV_len (fun _ _ _ h => argN_len h)))) a_nil) (fun to t h1 h2 => pe_bm PySem.F.plainAttrs_list PySem.F.slot_list_append PySem.F.type_list_append mt_append h1 h2)))
  (s_one (s_asg (Fo.call f_p_bend_of hgd hr (by decide) (by rfl) rfl (a_val (d_ix (d_var 2 (pv 2)) (d_neg d_int)) (a_val (d_var 1 (pv 1)) a_nil)) (argV_len (argV_len (fun _ _ _ h => argN_len h)))) (g_name (pg_name (i := 3) sc_p_rows_from.nd rfl (by first | exact Or.inl rfl | exact Or.inr rfl)))))))
  (s_one (s_ret (d_var 2 (pv 2)))))))
theorem b_p_row_at (f_p_lowest : Fo P w K mg base "lowest" ["lines", "many"] m_p_lowest 1) : ∀ (cdv : Value) (A : Around) (outer : List Env) (s : Shared) (H : Hp) (E : XK), A.guards = some [] → Room 1 (A.deeper (envOfC "row_at" (defScope s_p_row_at) s.heap.objs.size f cdv)) →
    PSsd (cxOf CX0 P w K mg base ["first", "lines", "total", "step"] "row_at" (defScope s_p_row_at) f cdv A outer s H E).nox (defBody s_p_row_at) g_p_row_at := by
  intro cdv A outer s H E hgd hr
  unfold g_p_row_at
  exact (s_cons (s_asg (Fo.call f_p_lowest hgd hr (by decide) (by rfl) rfl (a_val (d_var 1 (pv 1)) (a_val (d_var 0 (pv 0)) a_nil)) (argV_len (argV_len (fun _ _ _ h => argN_len h)))) (g_name (pg_name (i := 2) sc_p_row_at.nd rfl (by first | exact Or.inl rfl | exact Or.inr rfl))))
  (s_cons (s_asg (d_subA (Fo.call f_p_lowest hgd hr (by decide) (by rfl) rfl (a_val (d_var 1 (pv 1)) (a_val (d_addA (d_var 0 (pv 0)) d_int) a_nil)) (argV_len (argV_len (fun _ _ _ h => argN_len h)))) (d_var 2 (pv 2))) (g_name (pg_name (i := 3) sc_p_row_at.nd rfl (by first | exact Or.inl rfl | exact Or.inr rfl))))
  (s_one (s_ret (d_tup (a_val (d_var 0 (pv 0)) (a_val (d_var 3 (pv 3)) (a_val (d_subA (d_var 2 (pv 2)) (d_mulA (d_var 3 (pv 3)) (d_var 0 (pv 0)))) a_nil))))))))
theorem b_p_lowest (n_min : mg "min" = none) : ∀ (cdv : Value) (A : Around) (outer : List Env) (s : Shared) (H : Hp) (E : XK), A.guards = some [] → Room 0 (A.deeper (envOfC "lowest" (defScope s_p_lowest) s.heap.objs.size f cdv)) →
    PSsd (cxOf CX0 P w K mg base ["lines", "many", "step", "begin"] "lowest" (defScope s_p_lowest) f cdv A outer s H E).nox (defBody s_p_lowest) g_p_lowest := by
  intro cdv A outer s H E hgd hr
  unfold g_p_lowest
  exact (s_one (s_ret (d_minK rfl (units1 hr) (by rfl) n_min (d_lc (own := [("step", 2), ("begin", 3)]) rfl sc_p_lowest.nd (i_seq (d_var 0 (pv 0))) (blkOk_by (N := ["lines", "many", "step", "begin"]) (sc := defScope s_p_lowest) (own := [("step", 2), ("begin", 3)]) (by decide +kernel)) (fun _ _ _ _ _ => (g_tup (PG.or (pg_tup rfl (PGsd.ex (gs_cons (g_name (pg_name (i := 2) sc_p_lowest.nd rfl (by first | exact Or.inl rfl | exact Or.inr rfl))) (gs_cons (g_name (pg_name (i := 3) sc_p_lowest.nd rfl (by first | exact Or.inl rfl | exact Or.inr rfl))) gs_nil (pgs_cons (PGd.ex (g_name (pg_name (i := 3) sc_p_lowest.nd rfl (by first | exact Or.inl rfl | exact Or.inr rfl)))) (PGsd.ex gs_nil))) (pgs_cons (PGd.ex (g_name (pg_name (i := 2) sc_p_lowest.nd rfl (by first | exact Or.inl rfl | exact Or.inr rfl)))) (PGsd.ex (gs_cons (g_name (pg_name (i := 3) sc_p_lowest.nd rfl (by first | exact Or.inl rfl | exact Or.inr rfl))) gs_nil (pgs_cons (PGd.ex (g_name (pg_name (i := 3) sc_p_lowest.nd rfl (by first | exact Or.inl rfl | exact Or.inr rfl)))) (PGsd.ex gs_nil)))))))) (pg_lst rfl (PGsd.ex (gs_cons (g_name (pg_name (i := 2) sc_p_lowest.nd rfl (by first | exact Or.inl rfl | exact Or.inr rfl))) (gs_cons (g_name (pg_name (i := 3) sc_p_lowest.nd rfl (by first | exact Or.inl rfl | exact Or.inr rfl))) gs_nil (pgs_cons (PGd.ex (g_name (pg_name (i := 3) sc_p_lowest.nd rfl (by first | exact Or.inl rfl | exact Or.inr rfl)))) (PGsd.ex gs_nil))) (pgs_cons (PGd.ex (g_name (pg_name (i := 2) sc_p_lowest.nd rfl (by first | exact Or.inl rfl | exact Or.inr rfl)))) (PGsd.ex (gs_cons (g_name (pg_name (i := 3) sc_p_lowest.nd rfl (by first | exact Or.inl rfl | exact Or.inr rfl))) gs_nil (pgs_cons (PGd.ex (g_name (pg_name (i := 3) sc_p_lowest.nd rfl (by first | exact Or.inl rfl | exact Or.inr rfl)))) (PGsd.ex gs_nil))))))))))) (fun _ _ _ _ _ => ts_nil) (fun _ _ _ _ _ => (d_addA (d_var 3 (pv 3)) (d_mulA (d_var 2 (pv 2)) (d_var 1 (pv 1)))))))))
theorem b_p_bend_of (n_min : mg "min" = none) : ∀ (cdv : Value) (A : Around) (outer : List Env) (s : Shared) (H : Hp) (E : XK), A.guards = some [] → Room 0 (A.deeper (envOfC "bend_of" (defScope s_p_bend_of) s.heap.objs.size f cdv)) →
    PSsd (cxOf CX0 P w K mg base ["row", "lines", "first", "step", "begin", "lesser", "other"] "bend_of" (defScope s_p_bend_of) f cdv A outer s H E).nox (defBody s_p_bend_of) g_p_bend_of := by
  intro cdv A outer s H E hgd hr
  unfold g_p_bend_of
  exact (s_cons (s_asg (d_var 0 (pv 0)) (g_tup (PG.or (pg_tup rfl (PGsd.ex (gs_cons (g_name (pg_name (i := 2) sc_p_bend_of.nd rfl (by first | exact Or.inl rfl | exact Or.inr rfl))) (gs_cons (g_name (pg_name (i := 3) sc_p_bend_of.nd rfl (by first | exact Or.inl rfl | exact Or.inr rfl))) (gs_cons (g_name (pg_name (i := 4) sc_p_bend_of.nd rfl (by first | exact Or.inl rfl | exact Or.inr rfl))) gs_nil (pgs_cons (PGd.ex (g_name (pg_name (i := 4) sc_p_bend_of.nd rfl (by first | exact Or.inl rfl | exact Or.inr rfl)))) (PGsd.ex gs_nil))) (pgs_cons (PGd.ex (g_name (pg_name (i := 3) sc_p_bend_of.nd rfl (by first | exact Or.inl rfl | exact Or.inr rfl)))) (PGsd.ex (gs_cons (g_name (pg_name (i := 4) sc_p_bend_of.nd rfl (by first | exact Or.inl rfl | exact Or.inr rfl))) gs_nil (pgs_cons (PGd.ex (g_name (pg_name (i := 4) sc_p_bend_of.nd rfl (by first | exact Or.inl rfl | exact Or.inr rfl)))) (PGsd.ex gs_nil)))))) (pgs_cons (PGd.ex (g_name (pg_name (i := 2) sc_p_bend_of.nd rfl (by first | exact Or.inl rfl | exact Or.inr rfl)))) (PGsd.ex (gs_cons (g_name (pg_name (i := 3) sc_p_bend_of.nd rfl (by first | exact Or.inl rfl | exact Or.inr rfl))) (gs_cons (g_name (pg_name (i := 4) sc_p_bend_of.nd rfl (by first | exact Or.inl rfl | exact Or.inr rfl))) gs_nil (pgs_cons (PGd.ex (g_name (pg_name (i := 4) sc_p_bend_of.nd rfl (by first | exact Or.inl rfl | exact Or.inr rfl)))) (PGsd.ex gs_nil))) (pgs_cons (PGd.ex (g_name (pg_name (i := 3) sc_p_bend_of.nd rfl (by first | exact Or.inl rfl | exact Or.inr rfl)))) (PGsd.ex (gs_cons (g_name (pg_name (i := 4) sc_p_bend_of.nd rfl (by first | exact Or.inl rfl | exact Or.inr rfl))) gs_nil (pgs_cons (PGd.ex (g_name (pg_name (i := 4) sc_p_bend_of.nd rfl (by first | exact Or.inl rfl | exact Or.inr rfl)))) (PGsd.ex gs_nil))))))))))) (pg_lst rfl (PGsd.ex (gs_cons (g_name (pg_name (i := 2) sc_p_bend_of.nd rfl (by first | exact Or.inl rfl | exact Or.inr rfl))) (gs_cons (g_name (pg_name (i := 3) sc_p_bend_of.nd rfl (by first | exact Or.inl rfl | exact Or.inr rfl))) (gs_cons (g_name (pg_name (i := 4) sc_p_bend_of.nd rfl (by first | exact Or.inl rfl | exact Or.inr rfl))) gs_nil (pgs_cons (PGd.ex (g_name (pg_name (i := 4) sc_p_bend_of.nd rfl (by first | exact Or.inl rfl | exact Or.inr rfl)))) (PGsd.ex gs_nil))) (pgs_cons (PGd.ex (g_name (pg_name (i := 3) sc_p_bend_of.nd rfl (by first | exact Or.inl rfl | exact Or.inr rfl)))) (PGsd.ex (gs_cons (g_name (pg_name (i := 4) sc_p_bend_of.nd rfl (by first | exact Or.inl rfl | exact Or.inr rfl))) gs_nil (pgs_cons (PGd.ex (g_name (pg_name (i := 4) sc_p_bend_of.nd rfl (by first | exact Or.inl rfl | exact Or.inr rfl)))) (PGsd.ex gs_nil)))))) (pgs_cons (PGd.ex (g_name (pg_name (i := 2) sc_p_bend_of.nd rfl (by first | exact Or.inl rfl | exact Or.inr rfl)))) (PGsd.ex (gs_cons (g_name (pg_name (i := 3) sc_p_bend_of.nd rfl (by first | exact Or.inl rfl | exact Or.inr rfl))) (gs_cons (g_name (pg_name (i := 4) sc_p_bend_of.nd rfl (by first | exact Or.inl rfl | exact Or.inr rfl))) gs_nil (pgs_cons (PGd.ex (g_name (pg_name (i := 4) sc_p_bend_of.nd rfl (by first | exact Or.inl rfl | exact Or.inr rfl)))) (PGsd.ex gs_nil))) (pgs_cons (PGd.ex (g_name (pg_name (i := 3) sc_p_bend_of.nd rfl (by first | exact Or.inl rfl | exact Or.inr rfl)))) (PGsd.ex (gs_cons (g_name (pg_name (i := 4) sc_p_bend_of.nd rfl (by first | exact Or.inl rfl | exact Or.inr rfl))) gs_nil (pgs_cons (PGd.ex (g_name (pg_name (i := 4) sc_p_bend_of.nd rfl (by first | exact Or.inl rfl | exact Or.inr rfl)))) (PGsd.ex gs_nil))))))))))))))
  (s_one (s_ret (d_minD rfl (units1 hr) (by rfl) n_min (d_lc (own := [("lesser", 5), ("other", 6)]) rfl sc_p_bend_of.nd (i_seq (d_var 1 (pv 1))) (blkOk_by (N := ["row", "lines", "first", "step", "begin", "lesser", "other"]) (sc := defScope s_p_bend_of) (own := [("lesser", 5), ("other", 6)]) (by decide +kernel)) (fun _ _ _ _ _ => (g_tup (PG.or (pg_tup rfl (PGsd.ex (gs_cons (g_name (pg_name (i := 5) sc_p_bend_of.nd rfl (by first | exact Or.inl rfl | exact Or.inr rfl))) (gs_cons (g_name (pg_name (i := 6) sc_p_bend_of.nd rfl (by first | exact Or.inl rfl | exact Or.inr rfl))) gs_nil (pgs_cons (PGd.ex (g_name (pg_name (i := 6) sc_p_bend_of.nd rfl (by first | exact Or.inl rfl | exact Or.inr rfl)))) (PGsd.ex gs_nil))) (pgs_cons (PGd.ex (g_name (pg_name (i := 5) sc_p_bend_of.nd rfl (by first | exact Or.inl rfl | exact Or.inr rfl)))) (PGsd.ex (gs_cons (g_name (pg_name (i := 6) sc_p_bend_of.nd rfl (by first | exact Or.inl rfl | exact Or.inr rfl))) gs_nil (pgs_cons (PGd.ex (g_name (pg_name (i := 6) sc_p_bend_of.nd rfl (by first | exact Or.inl rfl | exact Or.inr rfl)))) (PGsd.ex gs_nil)))))))) (pg_lst rfl (PGsd.ex (gs_cons (g_name (pg_name (i := 5) sc_p_bend_of.nd rfl (by first | exact Or.inl rfl | exact Or.inr rfl))) (gs_cons (g_name (pg_name (i := 6) sc_p_bend_of.nd rfl (by first | exact Or.inl rfl | exact Or.inr rfl))) gs_nil (pgs_cons (PGd.ex (g_name (pg_name (i := 6) sc_p_bend_of.nd rfl (by first | exact Or.inl rfl | exact Or.inr rfl)))) (PGsd.ex gs_nil))) (pgs_cons (PGd.ex (g_name (pg_name (i := 5) sc_p_bend_of.nd rfl (by first | exact Or.inl rfl | exact Or.inr rfl)))) (PGsd.ex (gs_cons (g_name (pg_name (i := 6) sc_p_bend_of.nd rfl (by first | exact Or.inl rfl | exact Or.inr rfl))) gs_nil (pgs_cons (PGd.ex (g_name (pg_name (i := 6) sc_p_bend_of.nd rfl (by first | exact Or.inl rfl | exact Or.inr rfl)))) (PGsd.ex gs_nil))))))))))) (fun _ _ _ _ _ => (ts_one (d_tstC op_lt (fun _ => o_lt) (d_var 5 (pv 5)) (d_var 3 (pv 3)) (nomark _)))) (fun _ _ _ _ _ => (d_divA (d_subA (d_var 6 (pv 6)) (d_var 4 (pv 4))) (d_subA (d_var 3 (pv 3)) (d_var 5 (pv 5)))))) d_non))))
theorem b_p_change_of {t_FILL : Tok} (c_FILL : mg "FILL" = some (.str "fill" t_FILL)) {t_EMPTY : Tok} (c_EMPTY : mg "EMPTY" = some (.str "empty" t_EMPTY)) {t_RAISE : Tok} (c_RAISE : mg "RAISE" = some (.str "raise" t_RAISE)) : ∀ (cdv : Value) (A : Around) (outer : List Env) (s : Shared) (H : Hp) (E : XK), A.guards = some [] → Room 0 (A.deeper (envOfC "change_of" (defScope s_p_change_of) s.heap.objs.size f cdv)) →
    PSsd (cxOf CX0 P w K mg base ["stair", "deed", "word", "place"] "change_of" (defScope s_p_change_of) f cdv A outer s H E).nox (defBody s_p_change_of) g_p_change_of := by
  intro cdv A outer s H E hgd hr
  unfold g_p_change_of
  exact (s_cons (s_par2 (d_ix (d_var 1 (pv 1)) d_int) (d_ix (d_var 1 (pv 1)) d_int) (fun t h => ps_par (i := 2) (j := 3) rfl sc_p_change_of.nd rfl rfl (by decide) rfl rfl h (by rfl)))
  (s_cons (s_if (d_tstC (op_eq.or (op_eqD hr.units)) (fun _ => Op2.or op2_eqS op2_eq) (d_var 2 (pv 2)) (d_gstr (pe_glob (by rfl) c_FILL ⟨_, rfl⟩)) (nomark _)) (s_one (s_ret (d_tup (a_val (d_var 3 (pv 3)) (a_val (d_neg (d_ix (d_ix (d_var 0 (pv 0)) (d_subA (d_var 3 (pv 3)) d_int)) d_int)) a_nil))))) s_nil)
  (s_cons (s_if (d_tstC (op_eq.or (op_eqD hr.units)) (fun _ => Op2.or op2_eqS op2_eq) (d_var 2 (pv 2)) (d_gstr (pe_glob (by rfl) c_EMPTY ⟨_, rfl⟩)) (nomark _)) (s_one (s_ret (d_tup (a_val (d_subA (d_var 3 (pv 3)) d_int) (a_val (d_ix (d_ix (d_var 0 (pv 0)) (d_subA (d_var 3 (pv 3)) d_int)) d_int) a_nil))))) s_nil)
  (s_cons (s_if (d_tstC (op_eq.or (op_eqD hr.units)) (fun _ => Op2.or op2_eqS op2_eq) (d_var 2 (pv 2)) (d_gstr (pe_glob (by rfl) c_RAISE ⟨_, rfl⟩)) (nomark _)) (s_one (s_ret (d_tup (a_val (d_var 3 (pv 3)) (a_val (d_ix (d_var 1 (pv 1)) d_int) a_nil))))) s_nil)
  (s_one (s_ret (d_tup (a_val (d_var 3 (pv 3)) (a_val (d_neg (d_ix (d_var 1 (pv 1)) d_int)) a_nil)))))))))
theorem b_p_sums_of (n_len : mg "len" = none) (n_range : mg "range" = none) (n_sum : mg "sum" = none) (n_tuple : mg "tuple" = none) (f_p_change_of : Fo P w K mg base "change_of" ["stair", "deed"] m_p_change_of 1) : ∀ (cdv : Value) (A : Around) (outer : List Env) (s : Shared) (H : Hp) (E : XK), A.guards = some [] → Room 1 (A.deeper (envOfC "sums_of" (defScope s_p_sums_of) s.heap.objs.size f cdv)) →
    PSsd (cxOf CX0 P w K mg base ["stair", "deeds", "changes", "deed", "pound", "more", "lowest"] "sums_of" (defScope s_p_sums_of) f cdv A outer s H E).nox (defBody s_p_sums_of) g_p_sums_of := by
  intro cdv A outer s H E hgd hr
  unfold g_p_sums_of
  exact (s_cons (s_asg (d_lc (own := [("deed", 3)]) rfl sc_p_sums_of.nd (i_seq (d_var 1 (pv 1))) (blkOk_by (N := ["stair", "deeds", "changes", "deed", "pound", "more", "lowest"]) (sc := defScope s_p_sums_of) (own := [("deed", 3)]) (by decide +kernel)) (fun _ _ _ _ _ => (g_name (pg_name (i := 3) sc_p_sums_of.nd rfl (by first | exact Or.inl rfl | exact Or.inr rfl)))) (fun _ _ _ _ _ => ts_nil) (fun _ _ _ _ _ => (Fo.call f_p_change_of hgd hr (by decide) (by rfl) rfl (a_val (d_var 0 (pv 0)) (a_val (d_var 3 (pv 3)) a_nil)) (argV_len (argV_len (fun _ _ _ h => argN_len h)))))) (g_name (pg_name (i := 2) sc_p_sums_of.nd rfl (by first | exact Or.inl rfl | exact Or.inr rfl))))
  (s_one (s_ret (d_tuple (by rfl) n_tuple (d_lc (own := [("lowest", 6)]) rfl sc_p_sums_of.nd (i_rng2 (by rfl) n_range d_int (d_addA (d_len (by rfl) n_len (d_var 0 (pv 0))) d_int) (fun t h => pi_range2 (by rfl) n_range h)) (blkOk_by (N := ["stair", "deeds", "changes", "deed", "pound", "more", "lowest"]) (sc := defScope s_p_sums_of) (own := [("lowest", 6)]) (by decide +kernel)) (fun _ _ _ _ _ => (g_name (pg_name (i := 6) sc_p_sums_of.nd rfl (by first | exact Or.inl rfl | exact Or.inr rfl)))) (fun _ _ _ _ _ => ts_nil) (fun _ _ _ _ _ => (d_sumK rfl (by rfl) n_sum (d_lc (own := [("pound", 4), ("more", 5)]) rfl sc_p_sums_of.nd (i_seq (d_var 2 (pv 2))) (blkOk_n (N := ["stair", "deeds", "changes", "deed", "pound", "more", "lowest"]) (own := [("pound", 4), ("more", 5)]) (by decide +kernel)) (fun _ _ _ _ _ => (g_tup (PG.or (pg_tup rfl (PGsd.ex (gs_cons (g_name (pg_name (i := 4) sc_p_sums_of.nd rfl (by first | exact Or.inl rfl | exact Or.inr rfl))) (gs_cons (g_name (pg_name (i := 5) sc_p_sums_of.nd rfl (by first | exact Or.inl rfl | exact Or.inr rfl))) gs_nil (pgs_cons (PGd.ex (g_name (pg_name (i := 5) sc_p_sums_of.nd rfl (by first | exact Or.inl rfl | exact Or.inr rfl)))) (PGsd.ex gs_nil))) (pgs_cons (PGd.ex (g_name (pg_name (i := 4) sc_p_sums_of.nd rfl (by first | exact Or.inl rfl | exact Or.inr rfl)))) (PGsd.ex (gs_cons (g_name (pg_name (i := 5) sc_p_sums_of.nd rfl (by first | exact Or.inl rfl | exact Or.inr rfl))) gs_nil (pgs_cons (PGd.ex (g_name (pg_name (i := 5) sc_p_sums_of.nd rfl (by first | exact Or.inl rfl | exact Or.inr rfl)))) (PGsd.ex gs_nil)))))))) (pg_lst rfl (PGsd.ex (gs_cons (g_name (pg_name (i := 4) sc_p_sums_of.nd rfl (by first | exact Or.inl rfl | exact Or.inr rfl))) (gs_cons (g_name (pg_name (i := 5) sc_p_sums_of.nd rfl (by first | exact Or.inl rfl | exact Or.inr rfl))) gs_nil (pgs_cons (PGd.ex (g_name (pg_name (i := 5) sc_p_sums_of.nd rfl (by first | exact Or.inl rfl | exact Or.inr rfl)))) (PGsd.ex gs_nil))) (pgs_cons (PGd.ex (g_name (pg_name (i := 4) sc_p_sums_of.nd rfl (by first | exact Or.inl rfl | exact Or.inr rfl)))) (PGsd.ex (gs_cons (g_name (pg_name (i := 5) sc_p_sums_of.nd rfl (by first | exact Or.inl rfl | exact Or.inr rfl))) gs_nil (pgs_cons (PGd.ex (g_name (pg_name (i := 5) sc_p_sums_of.nd rfl (by first | exact Or.inl rfl | exact Or.inr rfl)))) (PGsd.ex gs_nil))))))))))) (fun _ _ _ _ _ => (ts_one (d_tstC op_ge (fun _ => o_ge) (d_var 4 (pv 4)) (d_var 6 (pv 6)) (nomark _)))) (fun _ _ _ _ _ => (d_var 5 (pv 5)))))))))))
theorem b_p_led (n_enumerate : mg "enumerate" = none) (n_min : mg "min" = none) (n_tuple : mg "tuple" = none) (n_zip : mg "zip" = none) : ∀ (cdv : Value) (A : Around) (outer : List Env) (s : Shared) (H : Hp) (E : XK), A.guards = some [] → Room 0 (A.deeper (envOfC "led" (defScope s_p_led) s.heap.objs.size f cdv)) →
    PSsd (cxOf CX0 P w K mg base ["table", "totals", "parts", "more", "total", "at", "row"] "led" (defScope s_p_led) f cdv A outer s H E).nox (defBody s_p_led) g_p_led := by
  intro cdv A outer s H E hgd hr
  unfold g_p_led
  exact (s_cons (s_asg (d_lst (a_star (d_var 1 (pv 1)) (a_val d_int a_nil))) (g_name (pg_name (i := 2) sc_p_led.nd rfl (by first | exact Or.inl rfl | exact Or.inr rfl))))
  (s_one (s_ret (d_tuple (by rfl) n_tuple (d_lc (own := [("at", 5), ("row", 6)]) rfl sc_p_led.nd (i_enumK (by rfl) n_enumerate (d_var 0 (pv 0))) (blkOk_by (N := ["table", "totals", "parts", "more", "total", "at", "row"]) (sc := defScope s_p_led) (own := [("at", 5), ("row", 6)]) (by decide +kernel)) (fun _ _ _ _ _ => (g_tup (PG.or (pg_tup rfl (PGsd.ex (gs_cons (g_name (pg_name (i := 5) sc_p_led.nd rfl (by first | exact Or.inl rfl | exact Or.inr rfl))) (gs_cons (g_name (pg_name (i := 6) sc_p_led.nd rfl (by first | exact Or.inl rfl | exact Or.inr rfl))) gs_nil (pgs_cons (PGd.ex (g_name (pg_name (i := 6) sc_p_led.nd rfl (by first | exact Or.inl rfl | exact Or.inr rfl)))) (PGsd.ex gs_nil))) (pgs_cons (PGd.ex (g_name (pg_name (i := 5) sc_p_led.nd rfl (by first | exact Or.inl rfl | exact Or.inr rfl)))) (PGsd.ex (gs_cons (g_name (pg_name (i := 6) sc_p_led.nd rfl (by first | exact Or.inl rfl | exact Or.inr rfl))) gs_nil (pgs_cons (PGd.ex (g_name (pg_name (i := 6) sc_p_led.nd rfl (by first | exact Or.inl rfl | exact Or.inr rfl)))) (PGsd.ex gs_nil)))))))) (pg_lst rfl (PGsd.ex (gs_cons (g_name (pg_name (i := 5) sc_p_led.nd rfl (by first | exact Or.inl rfl | exact Or.inr rfl))) (gs_cons (g_name (pg_name (i := 6) sc_p_led.nd rfl (by first | exact Or.inl rfl | exact Or.inr rfl))) gs_nil (pgs_cons (PGd.ex (g_name (pg_name (i := 6) sc_p_led.nd rfl (by first | exact Or.inl rfl | exact Or.inr rfl)))) (PGsd.ex gs_nil))) (pgs_cons (PGd.ex (g_name (pg_name (i := 5) sc_p_led.nd rfl (by first | exact Or.inl rfl | exact Or.inr rfl)))) (PGsd.ex (gs_cons (g_name (pg_name (i := 6) sc_p_led.nd rfl (by first | exact Or.inl rfl | exact Or.inr rfl))) gs_nil (pgs_cons (PGd.ex (g_name (pg_name (i := 6) sc_p_led.nd rfl (by first | exact Or.inl rfl | exact Or.inr rfl)))) (PGsd.ex gs_nil))))))))))) (fun _ _ _ _ _ => ts_nil) (fun _ _ _ _ _ => (d_minK rfl (units1 hr) (by rfl) n_min (d_lc (own := [("more", 3), ("total", 4)]) rfl sc_p_led.nd (i_zip2 (by rfl) n_zip (d_var 6 (pv 6)) (d_sl (d_var 2 (pv 2)) (o_some (d_var 5 (pv 5))) o_none)) (blkOk_n (N := ["table", "totals", "parts", "more", "total", "at", "row"]) (own := [("more", 3), ("total", 4)]) (by decide +kernel)) (fun _ _ _ _ _ => (g_tup (PG.or (pg_tup rfl (PGsd.ex (gs_cons (g_name (pg_name (i := 3) sc_p_led.nd rfl (by first | exact Or.inl rfl | exact Or.inr rfl))) (gs_cons (g_name (pg_name (i := 4) sc_p_led.nd rfl (by first | exact Or.inl rfl | exact Or.inr rfl))) gs_nil (pgs_cons (PGd.ex (g_name (pg_name (i := 4) sc_p_led.nd rfl (by first | exact Or.inl rfl | exact Or.inr rfl)))) (PGsd.ex gs_nil))) (pgs_cons (PGd.ex (g_name (pg_name (i := 3) sc_p_led.nd rfl (by first | exact Or.inl rfl | exact Or.inr rfl)))) (PGsd.ex (gs_cons (g_name (pg_name (i := 4) sc_p_led.nd rfl (by first | exact Or.inl rfl | exact Or.inr rfl))) gs_nil (pgs_cons (PGd.ex (g_name (pg_name (i := 4) sc_p_led.nd rfl (by first | exact Or.inl rfl | exact Or.inr rfl)))) (PGsd.ex gs_nil)))))))) (pg_lst rfl (PGsd.ex (gs_cons (g_name (pg_name (i := 3) sc_p_led.nd rfl (by first | exact Or.inl rfl | exact Or.inr rfl))) (gs_cons (g_name (pg_name (i := 4) sc_p_led.nd rfl (by first | exact Or.inl rfl | exact Or.inr rfl))) gs_nil (pgs_cons (PGd.ex (g_name (pg_name (i := 4) sc_p_led.nd rfl (by first | exact Or.inl rfl | exact Or.inr rfl)))) (PGsd.ex gs_nil))) (pgs_cons (PGd.ex (g_name (pg_name (i := 3) sc_p_led.nd rfl (by first | exact Or.inl rfl | exact Or.inr rfl)))) (PGsd.ex (gs_cons (g_name (pg_name (i := 4) sc_p_led.nd rfl (by first | exact Or.inl rfl | exact Or.inr rfl))) gs_nil (pgs_cons (PGd.ex (g_name (pg_name (i := 4) sc_p_led.nd rfl (by first | exact Or.inl rfl | exact Or.inr rfl)))) (PGsd.ex gs_nil))))))))))) (fun _ _ _ _ _ => ts_nil) (fun _ _ _ _ _ => (d_addA (d_var 3 (pv 3)) (d_var 4 (pv 4))))))))))))
theorem b_p_table_of (f_p_tables_along : Fo P w K mg base "tables_along" ["stair", "deeds"] m_p_tables_along 3) : ∀ (cdv : Value) (A : Around) (outer : List Env) (s : Shared) (H : Hp) (E : XK), A.guards = some [] → Room 3 (A.deeper (envOfC "table_of" (defScope s_p_table_of) s.heap.objs.size f cdv)) →
    PSsd (cxOf CX0 P w K mg base ["stair", "deeds"] "table_of" (defScope s_p_table_of) f cdv A outer s H E).nox (defBody s_p_table_of) g_p_table_of := by
  intro cdv A outer s H E hgd hr
  unfold g_p_table_of
  exact (s_one (s_ret (d_ix (Fo.call f_p_tables_along hgd hr (by decide) (by rfl) rfl (a_val (d_var 0 (pv 0)) (a_val (d_var 1 (pv 1)) a_nil)) (argV_len (argV_len (fun _ _ _ h => argN_len h)))) (d_neg d_int))))
theorem b_p_tables_along (f_p_brim_table : Fo P w K mg base "brim_table" ["stair"] m_p_brim_table 1) (f_p_table_behind : Fo P w K mg base "table_behind" ["stair", "table", "deed"] m_p_table_behind 2) : ∀ (cdv : Value) (A : Around) (outer : List Env) (s : Shared) (H : Hp) (E : XK), A.guards = some [] → Room 2 (A.deeper (envOfC "tables_along" (defScope s_p_tables_along) s.heap.objs.size f cdv)) →
    PSsd (cxOf CX0 P w K mg base ["stair", "deeds", "table", "along", "deed"] "tables_along" (defScope s_p_tables_along) f cdv A outer s H E).nox (defBody s_p_tables_along) g_p_tables_along := by
  intro cdv A outer s H E hgd hr
  unfold g_p_tables_along
  exact (s_cons (s_asg (Fo.call f_p_brim_table hgd hr (by decide) (by rfl) rfl (a_val (d_var 0 (pv 0)) a_nil) (argV_len (fun _ _ _ h => argN_len h))) (g_name (pg_name (i := 2) sc_p_tables_along.nd rfl (by first | exact Or.inl rfl | exact Or.inr rfl))))
  (s_cons (s_asgO (d_lst (a_val (d_var 2 (pv 2)) a_nil)) (fun te h => ps_set (i := 3) sc_p_tables_along.nd rfl (by first | exact Or.inl rfl | exact Or.inr rfl) h))
  (s_cons (s_for PassesOwn.never rfl (i_seq (d_var 1 (pv 1))) (g_name (pg_name (i := 4) sc_p_tables_along.nd rfl (by first | exact Or.inl rfl | exact Or.inr rfl))) (s_cons (s_asg (Fo.call f_p_table_behind hgd hr (by decide) (by rfl) rfl (a_val (d_var 0 (pv 0)) (a_val (d_var 2 (pv 2)) (a_val (d_var 4 (pv 4)) a_nil))) (argV_len (argV_len (argV_len (fun _ _ _ h => argN_len h))))) (g_name (pg_name (i := 2) sc_p_tables_along.nd rfl (by first | exact Or.inl rfl | exact Or.inr rfl))))
  (s_one (s_expr (d_mth m_append (d_var 3 (pv 3)) (a_val (d_var 2 (pv 2)) a_nil) (fun to t h1 h2 => pe_bm PySem.F.plainAttrs_list PySem.F.slot_list_append PySem.F.type_list_append mt_append h1 h2))))))
  (s_one (s_ret (d_var 3 (pv 3)))))))
theorem b_p_brim_table (n_tuple : mg "tuple" = none) : ∀ (cdv : Value) (A : Around) (outer : List Env) (s : Shared) (H : Hp) (E : XK), A.guards = some [] → Room 0 (A.deeper (envOfC "brim_table" (defScope s_p_brim_table) s.heap.objs.size f cdv)) →
    PSsd (cxOf CX0 P w K mg base ["stair", "rows", "above", "pound", "more"] "brim_table" (defScope s_p_brim_table) f cdv A outer s H E).nox (defBody s_p_brim_table) g_p_brim_table := by
  intro cdv A outer s H E hgd hr
  unfold g_p_brim_table
  exact (s_cons (s_asgO (d_lst a_nil) (fun te h => ps_set (i := 1) sc_p_brim_table.nd rfl (by first | exact Or.inl rfl | exact Or.inr rfl) h))
  (s_cons (s_asg (d_tup (a_val d_int a_nil)) (g_name (pg_name (i := 2) sc_p_brim_table.nd rfl (by first | exact Or.inl rfl | exact Or.inr rfl))))
  (s_cons (s_for PassesOwn.never rfl (i_seq (d_revA (d_var 0 (pv 0)))) (g_name (pg_name (i := 3) sc_p_brim_table.nd rfl (by first | exact Or.inl rfl | exact Or.inr rfl))) (s_cons (s_asg (d_addA (d_tup (a_val d_int a_nil)) (d_tuple (by rfl) n_tuple (d_lc (own := [("more", 4)]) rfl sc_p_brim_table.nd (i_seq (d_var 2 (pv 2))) (blkOk_by (N := ["stair", "rows", "above", "pound", "more"]) (sc := defScope s_p_brim_table) (own := [("more", 4)]) (by decide +kernel)) (fun _ _ _ _ _ => (g_name (pg_name (i := 4) sc_p_brim_table.nd rfl (by first | exact Or.inl rfl | exact Or.inr rfl)))) (fun _ _ _ _ _ => ts_nil) (fun _ _ _ _ _ => (d_addA (d_ix (d_var 3 (pv 3)) d_int) (d_var 4 (pv 4))))))) (g_name (pg_name (i := 2) sc_p_brim_table.nd rfl (by first | exact Or.inl rfl | exact Or.inr rfl))))
  (s_one (s_expr (d_mth m_append (d_var 1 (pv 1)) (a_val (d_var 2 (pv 2)) a_nil) (fun to t h1 h2 => pe_bm PySem.F.plainAttrs_list PySem.F.slot_list_append PySem.F.type_list_append mt_append h1 h2))))))
  (s_one (s_ret (d_tuple (by rfl) n_tuple (d_revA (d_var 1 (pv 1)))))))))
theorem b_p_table_behind (n_len : mg "len" = none) (n_min : mg "min" = none) (n_range : mg "range" = none) (n_reversed : mg "reversed" = none) (n_tuple : mg "tuple" = none) (n_zip : mg "zip" = none) (f_p_change_of : Fo P w K mg base "change_of" ["stair", "deed"] m_p_change_of 1) : ∀ (cdv : Value) (A : Around) (outer : List Env) (s : Shared) (H : Hp) (E : XK), A.guards = some [] → Room 1 (A.deeper (envOfC "table_behind" (defScope s_p_table_behind) s.heap.objs.size f cdv)) →
    PSsd (cxOf CX0 P w K mg base ["stair", "table", "deed", "changed", "more", "rows", "above", "pound", "added", "row", "number", "brim", "rest"] "table_behind" (defScope s_p_table_behind) f cdv A outer s H E).nox (defBody s_p_table_behind) g_p_table_behind := by
  intro cdv A outer s H E hgd hr
  unfold g_p_table_behind
  exact (s_cons (s_asg (Fo.call f_p_change_of hgd hr (by decide) (by rfl) rfl (a_val (d_var 0 (pv 0)) (a_val (d_var 2 (pv 2)) a_nil)) (argV_len (argV_len (fun _ _ _ h => argN_len h)))) (g_tup (PG.or (pg_tup rfl (PGsd.ex (gs_cons (g_name (pg_name (i := 3) sc_p_table_behind.nd rfl (by first | exact Or.inl rfl | exact Or.inr rfl))) (gs_cons (g_name (pg_name (i := 4) sc_p_table_behind.nd rfl (by first | exact Or.inl rfl | exact Or.inr rfl))) gs_nil (pgs_cons (PGd.ex (g_name (pg_name (i := 4) sc_p_table_behind.nd rfl (by first | exact Or.inl rfl | exact Or.inr rfl)))) (PGsd.ex gs_nil))) (pgs_cons (PGd.ex (g_name (pg_name (i := 3) sc_p_table_behind.nd rfl (by first | exact Or.inl rfl | exact Or.inr rfl)))) (PGsd.ex (gs_cons (g_name (pg_name (i := 4) sc_p_table_behind.nd rfl (by first | exact Or.inl rfl | exact Or.inr rfl))) gs_nil (pgs_cons (PGd.ex (g_name (pg_name (i := 4) sc_p_table_behind.nd rfl (by first | exact Or.inl rfl | exact Or.inr rfl)))) (PGsd.ex gs_nil)))))))) (pg_lst rfl (PGsd.ex (gs_cons (g_name (pg_name (i := 3) sc_p_table_behind.nd rfl (by first | exact Or.inl rfl | exact Or.inr rfl))) (gs_cons (g_name (pg_name (i := 4) sc_p_table_behind.nd rfl (by first | exact Or.inl rfl | exact Or.inr rfl))) gs_nil (pgs_cons (PGd.ex (g_name (pg_name (i := 4) sc_p_table_behind.nd rfl (by first | exact Or.inl rfl | exact Or.inr rfl)))) (PGsd.ex gs_nil))) (pgs_cons (PGd.ex (g_name (pg_name (i := 3) sc_p_table_behind.nd rfl (by first | exact Or.inl rfl | exact Or.inr rfl)))) (PGsd.ex (gs_cons (g_name (pg_name (i := 4) sc_p_table_behind.nd rfl (by first | exact Or.inl rfl | exact Or.inr rfl))) gs_nil (pgs_cons (PGd.ex (g_name (pg_name (i := 4) sc_p_table_behind.nd rfl (by first | exact Or.inl rfl | exact Or.inr rfl)))) (PGsd.ex gs_nil)))))))))))
  (s_cons (s_asgO (d_lst a_nil) (fun te h => ps_set (i := 5) sc_p_table_behind.nd rfl (by first | exact Or.inl rfl | exact Or.inr rfl) h))
  (s_cons (s_asg (d_tup (a_val d_int a_nil)) (g_name (pg_name (i := 6) sc_p_table_behind.nd rfl (by first | exact Or.inl rfl | exact Or.inr rfl))))
  (s_cons (s_for PassesOwn.never rfl (i_revR2 (by rfl) n_reversed (by rfl) n_range d_int (d_addA (d_len (by rfl) n_len (d_var 0 (pv 0))) d_int)) (g_name (pg_name (i := 7) sc_p_table_behind.nd rfl (by first | exact Or.inl rfl | exact Or.inr rfl))) (s_cons (s_asg (d_ife (d_tstC op_le (fun _ => o_le) (d_var 7 (pv 7)) (d_var 3 (pv 3)) (nomark _)) (d_var 4 (pv 4)) d_int) (g_name (pg_name (i := 8) sc_p_table_behind.nd rfl (by first | exact Or.inl rfl | exact Or.inr rfl))))
  (s_cons (s_asgL (ps_setLc (i := 9) (own := [("number", 10)]) rfl sc_p_table_behind.nd rfl rfl (sw_true rfl rfl rfl (by decide +kernel)) (PId.ex (i_seq (d_ix (d_var 1 (pv 1)) (d_subA (d_var 7 (pv 7)) d_int)))) (blkOk_by (N := ["stair", "table", "deed", "changed", "more", "rows", "above", "pound", "added", "row", "number", "brim", "rest"]) (sc := defScope s_p_table_behind) (own := [("number", 10)]) (by decide +kernel)) (fun _ _ _ _ _ => PGd.ex (g_name (pg_name (i := 10) sc_p_table_behind.nd rfl (by first | exact Or.inl rfl | exact Or.inr rfl)))) (fun _ _ _ _ _ => ts_nil) (fun _ _ _ _ _ => PDd.ex (d_esc (d_addA (d_var 10 (pv 10)) (d_var 8 (pv 8)))))) (fun F => t_lc F))
  (s_cons (s_asg (d_ix (d_ix (d_var 0 (pv 0)) (d_subA (d_var 7 (pv 7)) d_int)) d_int) (g_name (pg_name (i := 11) sc_p_table_behind.nd rfl (by first | exact Or.inl rfl | exact Or.inr rfl))))
  (s_cons (s_asg (d_addA (d_tup (a_val (d_ix (d_var 9 (pv 9)) d_int) a_nil)) (d_tuple (by rfl) n_tuple (d_lc (own := [("number", 10), ("rest", 12)]) rfl sc_p_table_behind.nd (i_zip2 (by rfl) n_zip (d_sl (d_var 9 (pv 9)) (o_some d_int) o_none) (d_var 6 (pv 6))) (blkOk_by (N := ["stair", "table", "deed", "changed", "more", "rows", "above", "pound", "added", "row", "number", "brim", "rest"]) (sc := defScope s_p_table_behind) (own := [("number", 10), ("rest", 12)]) (by decide +kernel)) (fun _ _ _ _ _ => (g_tup (PG.or (pg_tup rfl (PGsd.ex (gs_cons (g_name (pg_name (i := 10) sc_p_table_behind.nd rfl (by first | exact Or.inl rfl | exact Or.inr rfl))) (gs_cons (g_name (pg_name (i := 12) sc_p_table_behind.nd rfl (by first | exact Or.inl rfl | exact Or.inr rfl))) gs_nil (pgs_cons (PGd.ex (g_name (pg_name (i := 12) sc_p_table_behind.nd rfl (by first | exact Or.inl rfl | exact Or.inr rfl)))) (PGsd.ex gs_nil))) (pgs_cons (PGd.ex (g_name (pg_name (i := 10) sc_p_table_behind.nd rfl (by first | exact Or.inl rfl | exact Or.inr rfl)))) (PGsd.ex (gs_cons (g_name (pg_name (i := 12) sc_p_table_behind.nd rfl (by first | exact Or.inl rfl | exact Or.inr rfl))) gs_nil (pgs_cons (PGd.ex (g_name (pg_name (i := 12) sc_p_table_behind.nd rfl (by first | exact Or.inl rfl | exact Or.inr rfl)))) (PGsd.ex gs_nil)))))))) (pg_lst rfl (PGsd.ex (gs_cons (g_name (pg_name (i := 10) sc_p_table_behind.nd rfl (by first | exact Or.inl rfl | exact Or.inr rfl))) (gs_cons (g_name (pg_name (i := 12) sc_p_table_behind.nd rfl (by first | exact Or.inl rfl | exact Or.inr rfl))) gs_nil (pgs_cons (PGd.ex (g_name (pg_name (i := 12) sc_p_table_behind.nd rfl (by first | exact Or.inl rfl | exact Or.inr rfl)))) (PGsd.ex gs_nil))) (pgs_cons (PGd.ex (g_name (pg_name (i := 10) sc_p_table_behind.nd rfl (by first | exact Or.inl rfl | exact Or.inr rfl)))) (PGsd.ex (gs_cons (g_name (pg_name (i := 12) sc_p_table_behind.nd rfl (by first | exact Or.inl rfl | exact Or.inr rfl))) gs_nil (pgs_cons (PGd.ex (g_name (pg_name (i := 12) sc_p_table_behind.nd rfl (by first | exact Or.inl rfl | exact Or.inr rfl)))) (PGsd.ex gs_nil))))))))))) (fun _ _ _ _ _ => ts_nil) (fun _ _ _ _ _ => (d_min2 rfl (by rfl) n_min (d_var 10 (pv 10)) (d_addA (d_var 11 (pv 11)) (d_var 12 (pv 12)))))))) (g_name (pg_name (i := 6) sc_p_table_behind.nd rfl (by first | exact Or.inl rfl | exact Or.inr rfl))))
  (s_one (s_expr (d_mth m_append (d_var 5 (pv 5)) (a_val (d_var 6 (pv 6)) a_nil) (fun to t h1 h2 => pe_bm PySem.F.plainAttrs_list PySem.F.slot_list_append PySem.F.type_list_append mt_append h1 h2)))))))))
  (s_one (s_ret (d_tuple (by rfl) n_tuple (d_revA (d_var 5 (pv 5))))))))))
theorem b_p_behind (n_enumerate : mg "enumerate" = none) (n_tuple : mg "tuple" = none) (f_p_row_behind : Fo P w K mg base "row_behind" ["rows", "row"] m_p_row_behind 1) : ∀ (cdv : Value) (A : Around) (outer : List Env) (s : Shared) (H : Hp) (E : XK), A.guards = some [] → Room 1 (A.deeper (envOfC "behind" (defScope s_p_behind) s.heap.objs.size f cdv)) →
    PSsd (cxOf CX0 P w K mg base ["one", "other", "rows", "at", "row"] "behind" (defScope s_p_behind) f cdv A outer s H E).nox (defBody s_p_behind) g_p_behind := by
  intro cdv A outer s H E hgd hr
  unfold g_p_behind
  exact (s_cons (s_asg (d_lst (a_star (d_var 0 (pv 0)) (a_val (d_tup (a_val d_int a_nil)) a_nil))) (g_name (pg_name (i := 2) sc_p_behind.nd rfl (by first | exact Or.inl rfl | exact Or.inr rfl))))
  (s_one (s_ret (d_tuple (by rfl) n_tuple (d_lc (own := [("at", 3), ("row", 4)]) rfl sc_p_behind.nd (i_enumK (by rfl) n_enumerate (d_var 1 (pv 1))) (blkOk_by (N := ["one", "other", "rows", "at", "row"]) (sc := defScope s_p_behind) (own := [("at", 3), ("row", 4)]) (by decide +kernel)) (fun _ _ _ _ _ => (g_tup (PG.or (pg_tup rfl (PGsd.ex (gs_cons (g_name (pg_name (i := 3) sc_p_behind.nd rfl (by first | exact Or.inl rfl | exact Or.inr rfl))) (gs_cons (g_name (pg_name (i := 4) sc_p_behind.nd rfl (by first | exact Or.inl rfl | exact Or.inr rfl))) gs_nil (pgs_cons (PGd.ex (g_name (pg_name (i := 4) sc_p_behind.nd rfl (by first | exact Or.inl rfl | exact Or.inr rfl)))) (PGsd.ex gs_nil))) (pgs_cons (PGd.ex (g_name (pg_name (i := 3) sc_p_behind.nd rfl (by first | exact Or.inl rfl | exact Or.inr rfl)))) (PGsd.ex (gs_cons (g_name (pg_name (i := 4) sc_p_behind.nd rfl (by first | exact Or.inl rfl | exact Or.inr rfl))) gs_nil (pgs_cons (PGd.ex (g_name (pg_name (i := 4) sc_p_behind.nd rfl (by first | exact Or.inl rfl | exact Or.inr rfl)))) (PGsd.ex gs_nil)))))))) (pg_lst rfl (PGsd.ex (gs_cons (g_name (pg_name (i := 3) sc_p_behind.nd rfl (by first | exact Or.inl rfl | exact Or.inr rfl))) (gs_cons (g_name (pg_name (i := 4) sc_p_behind.nd rfl (by first | exact Or.inl rfl | exact Or.inr rfl))) gs_nil (pgs_cons (PGd.ex (g_name (pg_name (i := 4) sc_p_behind.nd rfl (by first | exact Or.inl rfl | exact Or.inr rfl)))) (PGsd.ex gs_nil))) (pgs_cons (PGd.ex (g_name (pg_name (i := 3) sc_p_behind.nd rfl (by first | exact Or.inl rfl | exact Or.inr rfl)))) (PGsd.ex (gs_cons (g_name (pg_name (i := 4) sc_p_behind.nd rfl (by first | exact Or.inl rfl | exact Or.inr rfl))) gs_nil (pgs_cons (PGd.ex (g_name (pg_name (i := 4) sc_p_behind.nd rfl (by first | exact Or.inl rfl | exact Or.inr rfl)))) (PGsd.ex gs_nil))))))))))) (fun _ _ _ _ _ => ts_nil) (fun _ _ _ _ _ => (Fo.call f_p_row_behind hgd hr (by decide) (by rfl) rfl (a_val (d_sl (d_var 2 (pv 2)) (o_some (d_var 3 (pv 3))) o_none) (a_val (d_var 4 (pv 4)) a_nil)) (argV_len (argV_len (fun _ _ _ h => argN_len h))))))))))
theorem b_p_row_behind (n_len : mg "len" = none) (n_min : mg "min" = none) (n_range : mg "range" = none) (n_tuple : mg "tuple" = none) : ∀ (cdv : Value) (A : Around) (outer : List Env) (s : Shared) (H : Hp) (E : XK), A.guards = some [] → Room 0 (A.deeper (envOfC "row_behind" (defScope s_p_row_behind) s.heap.objs.size f cdv)) →
    PSsd (cxOf CX0 P w K mg base ["rows", "row", "between", "place"] "row_behind" (defScope s_p_row_behind) f cdv A outer s H E).nox (defBody s_p_row_behind) g_p_row_behind := by
  intro cdv A outer s H E hgd hr
  unfold g_p_row_behind
  exact (s_one (s_ret (d_tuple (by rfl) n_tuple (d_lc (own := [("place", 3)]) rfl sc_p_row_behind.nd (i_rng1 (by rfl) n_range (d_len (by rfl) n_len (d_var 1 (pv 1)))) (blkOk_by (N := ["rows", "row", "between", "place"]) (sc := defScope s_p_row_behind) (own := [("place", 3)]) (by decide +kernel)) (fun _ _ _ _ _ => (g_name (pg_name (i := 3) sc_p_row_behind.nd rfl (by first | exact Or.inl rfl | exact Or.inr rfl)))) (fun _ _ _ _ _ => ts_nil) (fun _ _ _ _ _ => (d_minK rfl (units1 hr) (by rfl) n_min (d_lc (own := [("between", 2)]) rfl sc_p_row_behind.nd (i_rng1 (by rfl) n_range (d_addA (d_var 3 (pv 3)) d_int)) (blkOk_n (N := ["rows", "row", "between", "place"]) (own := [("between", 2)]) (by decide +kernel)) (fun _ _ _ _ _ => (g_name (pg_name (i := 2) sc_p_row_behind.nd rfl (by first | exact Or.inl rfl | exact Or.inr rfl)))) (fun _ _ _ _ _ => ts_nil) (fun _ _ _ _ _ => (d_addA (d_ix (d_var 1 (pv 1)) (d_var 2 (pv 2))) (d_ix (d_ix (d_var 0 (pv 0)) (d_var 2 (pv 2))) (d_subA (d_var 3 (pv 3)) (d_var 2 (pv 2)))))))))))))
theorem b_p_doubles_of (n_range : mg "range" = none) (n_tuple : mg "tuple" = none) (f_p_behind : Fo P w K mg base "behind" ["one", "other"] m_p_behind 2) : ∀ (cdv : Value) (A : Around) (outer : List Env) (s : Shared) (H : Hp) (E : XK), A.guards = some [] → Room 2 (A.deeper (envOfC "doubles_of" (defScope s_p_doubles_of) s.heap.objs.size f cdv)) →
    PSsd (cxOf CX0 P w K mg base ["table", "most", "double", "row", "doubles", "step"] "doubles_of" (defScope s_p_doubles_of) f cdv A outer s H E).nox (defBody s_p_doubles_of) g_p_doubles_of := by
  intro cdv A outer s H E hgd hr
  unfold g_p_doubles_of
  exact (s_cons (s_asg (d_tuple (by rfl) n_tuple (d_lc (own := [("row", 3)]) rfl sc_p_doubles_of.nd (i_seq (d_var 0 (pv 0))) (blkOk_by (N := ["table", "most", "double", "row", "doubles", "step"]) (sc := defScope s_p_doubles_of) (own := [("row", 3)]) (by decide +kernel)) (fun _ _ _ _ _ => (g_name (pg_name (i := 3) sc_p_doubles_of.nd rfl (by first | exact Or.inl rfl | exact Or.inr rfl)))) (fun _ _ _ _ _ => ts_nil) (fun _ _ _ _ _ => (d_tuple (by rfl) n_tuple (d_var 3 (pv 3)))))) (g_name (pg_name (i := 2) sc_p_doubles_of.nd rfl (by first | exact Or.inl rfl | exact Or.inr rfl))))
  (s_cons (s_asgO (d_lst (a_val (d_var 2 (pv 2)) a_nil)) (fun te h => ps_set (i := 4) sc_p_doubles_of.nd rfl (by first | exact Or.inl rfl | exact Or.inr rfl) h))
  (s_cons (s_for PassesOwn.never rfl (i_rng1 (by rfl) n_range (d_subA (d_bits (d_var 1 (pv 1))) d_int)) (g_name (pg_name (i := 5) sc_p_doubles_of.nd rfl (by first | exact Or.inl rfl | exact Or.inr rfl))) (s_cons (s_asg (Fo.call f_p_behind hgd hr (by decide) (by rfl) rfl (a_val (d_var 2 (pv 2)) (a_val (d_var 2 (pv 2)) a_nil)) (argV_len (argV_len (fun _ _ _ h => argN_len h)))) (g_name (pg_name (i := 2) sc_p_doubles_of.nd rfl (by first | exact Or.inl rfl | exact Or.inr rfl))))
  (s_one (s_expr (d_mth m_append (d_var 4 (pv 4)) (a_val (d_var 2 (pv 2)) a_nil) (fun to t h1 h2 => pe_bm PySem.F.plainAttrs_list PySem.F.slot_list_append PySem.F.type_list_append mt_append h1 h2))))))
  (s_one (s_ret (d_var 4 (pv 4)))))))
theorem b_p_doubles_in (n_enumerate : mg "enumerate" = none) : ∀ (cdv : Value) (A : Around) (outer : List Env) (s : Shared) (H : Hp) (E : XK), A.guards = some [] → Room 0 (A.deeper (envOfC "doubles_in" (defScope s_p_doubles_in) s.heap.objs.size f cdv)) →
    PSsd (cxOf CX0 P w K mg base ["doubles", "many", "at", "double"] "doubles_in" (defScope s_p_doubles_in) f cdv A outer s H E).nox (defBody s_p_doubles_in) g_p_doubles_in := by
  intro cdv A outer s H E hgd hr
  unfold g_p_doubles_in
  exact (s_one (s_ret (d_lc (own := [("at", 2), ("double", 3)]) rfl sc_p_doubles_in.nd (i_enumK (by rfl) n_enumerate (d_var 0 (pv 0))) (blkOk_by (N := ["doubles", "many", "at", "double"]) (sc := defScope s_p_doubles_in) (own := [("at", 2), ("double", 3)]) (by decide +kernel)) (fun _ _ _ _ _ => (g_tup (PG.or (pg_tup rfl (PGsd.ex (gs_cons (g_name (pg_name (i := 2) sc_p_doubles_in.nd rfl (by first | exact Or.inl rfl | exact Or.inr rfl))) (gs_cons (g_name (pg_name (i := 3) sc_p_doubles_in.nd rfl (by first | exact Or.inl rfl | exact Or.inr rfl))) gs_nil (pgs_cons (PGd.ex (g_name (pg_name (i := 3) sc_p_doubles_in.nd rfl (by first | exact Or.inl rfl | exact Or.inr rfl)))) (PGsd.ex gs_nil))) (pgs_cons (PGd.ex (g_name (pg_name (i := 2) sc_p_doubles_in.nd rfl (by first | exact Or.inl rfl | exact Or.inr rfl)))) (PGsd.ex (gs_cons (g_name (pg_name (i := 3) sc_p_doubles_in.nd rfl (by first | exact Or.inl rfl | exact Or.inr rfl))) gs_nil (pgs_cons (PGd.ex (g_name (pg_name (i := 3) sc_p_doubles_in.nd rfl (by first | exact Or.inl rfl | exact Or.inr rfl)))) (PGsd.ex gs_nil)))))))) (pg_lst rfl (PGsd.ex (gs_cons (g_name (pg_name (i := 2) sc_p_doubles_in.nd rfl (by first | exact Or.inl rfl | exact Or.inr rfl))) (gs_cons (g_name (pg_name (i := 3) sc_p_doubles_in.nd rfl (by first | exact Or.inl rfl | exact Or.inr rfl))) gs_nil (pgs_cons (PGd.ex (g_name (pg_name (i := 3) sc_p_doubles_in.nd rfl (by first | exact Or.inl rfl | exact Or.inr rfl)))) (PGsd.ex gs_nil))) (pgs_cons (PGd.ex (g_name (pg_name (i := 2) sc_p_doubles_in.nd rfl (by first | exact Or.inl rfl | exact Or.inr rfl)))) (PGsd.ex (gs_cons (g_name (pg_name (i := 3) sc_p_doubles_in.nd rfl (by first | exact Or.inl rfl | exact Or.inr rfl))) gs_nil (pgs_cons (PGd.ex (g_name (pg_name (i := 3) sc_p_doubles_in.nd rfl (by first | exact Or.inl rfl | exact Or.inr rfl)))) (PGsd.ex gs_nil))))))))))) (fun _ _ _ _ _ => (ts_one (d_tru (d_bitand (d_shr (d_var 1 (pv 1)) (d_var 2 (pv 2))) d_int)))) (fun _ _ _ _ _ => (d_var 3 (pv 3))))))
theorem b_p_led_often (n_tuple : mg "tuple" = none) (f_p_led : Fo P w K mg base "led" ["table", "totals"] m_p_led 1) (f_p_doubles_in : Fo P w K mg base "doubles_in" ["doubles", "many"] m_p_doubles_in 1) : ∀ (cdv : Value) (A : Around) (outer : List Env) (s : Shared) (H : Hp) (E : XK), A.guards = some [] → Room 1 (A.deeper (envOfC "led_often" (defScope s_p_led_often) s.heap.objs.size f cdv)) →
    PSsd (cxOf CX0 P w K mg base ["doubles", "totals", "many", "totals_now", "double"] "led_often" (defScope s_p_led_often) f cdv A outer s H E).nox (defBody s_p_led_often) g_p_led_often := by
  intro cdv A outer s H E hgd hr
  unfold g_p_led_often
  exact (s_cons (s_asg (d_tuple (by rfl) n_tuple (d_var 1 (pv 1))) (g_name (pg_name (i := 3) sc_p_led_often.nd rfl (by first | exact Or.inl rfl | exact Or.inr rfl))))
  (s_cons (s_for PassesOwn.never rfl (i_seq (Fo.call f_p_doubles_in hgd hr (by decide) (by rfl) rfl (a_val (d_var 0 (pv 0)) (a_val (d_var 2 (pv 2)) a_nil)) (argV_len (argV_len (fun _ _ _ h => argN_len h))))) (g_name (pg_name (i := 4) sc_p_led_often.nd rfl (by first | exact Or.inl rfl | exact Or.inr rfl))) (s_one (s_asg (Fo.call f_p_led hgd hr (by decide) (by rfl) rfl (a_val (d_var 4 (pv 4)) (a_val (d_var 3 (pv 3)) a_nil)) (argV_len (argV_len (fun _ _ _ h => argN_len h)))) (g_name (pg_name (i := 3) sc_p_led_often.nd rfl (by first | exact Or.inl rfl | exact Or.inr rfl))))))
  (s_one (s_ret (d_var 3 (pv 3))))))
theorem b_p_totals_of (n_tuple : mg "tuple" = none) : ∀ (cdv : Value) (A : Around) (outer : List Env) (s : Shared) (H : Hp) (E : XK), A.guards = some [] → Room 0 (A.deeper (envOfC "totals_of" (defScope s_p_totals_of) s.heap.objs.size f cdv)) →
    PSsd (cxOf CX0 P w K mg base ["levels", "totals", "above", "level"] "totals_of" (defScope s_p_totals_of) f cdv A outer s H E).nox (defBody s_p_totals_of) g_p_totals_of := by
  intro cdv A outer s H E hgd hr
  unfold g_p_totals_of
  exact (s_cons (s_asgO (d_lst a_nil) (fun te h => ps_set (i := 1) sc_p_totals_of.nd rfl (by first | exact Or.inl rfl | exact Or.inr rfl) h))
  (s_cons (s_asg d_int (g_name (pg_name (i := 2) sc_p_totals_of.nd rfl (by first | exact Or.inl rfl | exact Or.inr rfl))))
  (s_cons (s_for PassesOwn.never rfl (i_seq (d_revA (d_var 0 (pv 0)))) (g_name (pg_name (i := 3) sc_p_totals_of.nd rfl (by first | exact Or.inl rfl | exact Or.inr rfl))) (s_cons (s_augI (d_var 3 (pv 3)) (fun te h => ps_aug (i := 2) sc_p_totals_of.nd rfl (by first | exact Or.inl rfl | exact Or.inr rfl) h ip_add))
  (s_one (s_expr (d_mth m_append (d_var 1 (pv 1)) (a_val (d_var 2 (pv 2)) a_nil) (fun to t h1 h2 => pe_bm PySem.F.plainAttrs_list PySem.F.slot_list_append PySem.F.type_list_append mt_append h1 h2))))))
  (s_one (s_ret (d_tuple (by rfl) n_tuple (d_revA (d_var 1 (pv 1)))))))))
theorem b_p_levels_of (n_tuple : mg "tuple" = none) (n_zip : mg "zip" = none) : ∀ (cdv : Value) (A : Around) (outer : List Env) (s : Shared) (H : Hp) (E : XK), A.guards = some [] → Room 0 (A.deeper (envOfC "levels_of" (defScope s_p_levels_of) s.heap.objs.size f cdv)) →
    PSsd (cxOf CX0 P w K mg base ["totals", "above", "total", "rest"] "levels_of" (defScope s_p_levels_of) f cdv A outer s H E).nox (defBody s_p_levels_of) g_p_levels_of := by
  intro cdv A outer s H E hgd hr
  unfold g_p_levels_of
  exact (s_cons (s_asg (d_lst (a_star (d_sl (d_var 0 (pv 0)) (o_some d_int) o_none) (a_val d_int a_nil))) (g_name (pg_name (i := 1) sc_p_levels_of.nd rfl (by first | exact Or.inl rfl | exact Or.inr rfl))))
  (s_one (s_ret (d_tuple (by rfl) n_tuple (d_lc (own := [("total", 2), ("rest", 3)]) rfl sc_p_levels_of.nd (i_zip2 (by rfl) n_zip (d_var 0 (pv 0)) (d_var 1 (pv 1))) (blkOk_by (N := ["totals", "above", "total", "rest"]) (sc := defScope s_p_levels_of) (own := [("total", 2), ("rest", 3)]) (by decide +kernel)) (fun _ _ _ _ _ => (g_tup (PG.or (pg_tup rfl (PGsd.ex (gs_cons (g_name (pg_name (i := 2) sc_p_levels_of.nd rfl (by first | exact Or.inl rfl | exact Or.inr rfl))) (gs_cons (g_name (pg_name (i := 3) sc_p_levels_of.nd rfl (by first | exact Or.inl rfl | exact Or.inr rfl))) gs_nil (pgs_cons (PGd.ex (g_name (pg_name (i := 3) sc_p_levels_of.nd rfl (by first | exact Or.inl rfl | exact Or.inr rfl)))) (PGsd.ex gs_nil))) (pgs_cons (PGd.ex (g_name (pg_name (i := 2) sc_p_levels_of.nd rfl (by first | exact Or.inl rfl | exact Or.inr rfl)))) (PGsd.ex (gs_cons (g_name (pg_name (i := 3) sc_p_levels_of.nd rfl (by first | exact Or.inl rfl | exact Or.inr rfl))) gs_nil (pgs_cons (PGd.ex (g_name (pg_name (i := 3) sc_p_levels_of.nd rfl (by first | exact Or.inl rfl | exact Or.inr rfl)))) (PGsd.ex gs_nil)))))))) (pg_lst rfl (PGsd.ex (gs_cons (g_name (pg_name (i := 2) sc_p_levels_of.nd rfl (by first | exact Or.inl rfl | exact Or.inr rfl))) (gs_cons (g_name (pg_name (i := 3) sc_p_levels_of.nd rfl (by first | exact Or.inl rfl | exact Or.inr rfl))) gs_nil (pgs_cons (PGd.ex (g_name (pg_name (i := 3) sc_p_levels_of.nd rfl (by first | exact Or.inl rfl | exact Or.inr rfl)))) (PGsd.ex gs_nil))) (pgs_cons (PGd.ex (g_name (pg_name (i := 2) sc_p_levels_of.nd rfl (by first | exact Or.inl rfl | exact Or.inr rfl)))) (PGsd.ex (gs_cons (g_name (pg_name (i := 3) sc_p_levels_of.nd rfl (by first | exact Or.inl rfl | exact Or.inr rfl))) gs_nil (pgs_cons (PGd.ex (g_name (pg_name (i := 3) sc_p_levels_of.nd rfl (by first | exact Or.inl rfl | exact Or.inr rfl)))) (PGsd.ex gs_nil))))))))))) (fun _ _ _ _ _ => ts_nil) (fun _ _ _ _ _ => (d_subA (d_var 2 (pv 2)) (d_var 3 (pv 3)))))))))
theorem b_p_far_levels (f_p_levels_of : Fo P w K mg base "levels_of" ["totals"] m_p_levels_of 1) (f_p_far_totals : Fo P w K mg base "far_totals" ["stair", "levels", "deeds", "many"] m_p_far_totals 5) : ∀ (cdv : Value) (A : Around) (outer : List Env) (s : Shared) (H : Hp) (E : XK), A.guards = some [] → Room 5 (A.deeper (envOfC "far_levels" (defScope s_p_far_levels) s.heap.objs.size f cdv)) →
    PSsd (cxOf CX0 P w K mg base ["stair", "levels", "deeds", "many"] "far_levels" (defScope s_p_far_levels) f cdv A outer s H E).nox (defBody s_p_far_levels) g_p_far_levels := by
  intro cdv A outer s H E hgd hr
  unfold g_p_far_levels
  exact (s_one (s_ret (Fo.call f_p_levels_of hgd hr (by decide) (by rfl) rfl (a_val (Fo.call f_p_far_totals hgd hr (by decide) (by rfl) rfl (a_val (d_var 0 (pv 0)) (a_val (d_var 1 (pv 1)) (a_val (d_var 2 (pv 2)) (a_val (d_var 3 (pv 3)) a_nil)))) (argV_len (argV_len (argV_len (argV_len (fun _ _ _ h => argN_len h)))))) a_nil) (argV_len (fun _ _ _ h => argN_len h)))))
theorem b_p_far_totals (f_p_table_of : Fo P w K mg base "table_of" ["stair", "deeds"] m_p_table_of 4) (f_p_doubles_of : Fo P w K mg base "doubles_of" ["table", "most"] m_p_doubles_of 3) (f_p_led_often : Fo P w K mg base "led_often" ["doubles", "totals", "many"] m_p_led_often 2) (f_p_totals_of : Fo P w K mg base "totals_of" ["levels"] m_p_totals_of 1) : ∀ (cdv : Value) (A : Around) (outer : List Env) (s : Shared) (H : Hp) (E : XK), A.guards = some [] → Room 4 (A.deeper (envOfC "far_totals" (defScope s_p_far_totals) s.heap.objs.size f cdv)) →
    PSsd (cxOf CX0 P w K mg base ["stair", "levels", "deeds", "many"] "far_totals" (defScope s_p_far_totals) f cdv A outer s H E).nox (defBody s_p_far_totals) g_p_far_totals := by
  intro cdv A outer s H E hgd hr
  unfold g_p_far_totals
  exact (s_one (s_ret (Fo.call f_p_led_often hgd hr (by decide) (by rfl) rfl (a_val (Fo.call f_p_doubles_of hgd hr (by decide) (by rfl) rfl (a_val (Fo.call f_p_table_of hgd hr (by decide) (by rfl) rfl (a_val (d_var 0 (pv 0)) (a_val (d_var 2 (pv 2)) a_nil)) (argV_len (argV_len (fun _ _ _ h => argN_len h)))) (a_val (d_var 3 (pv 3)) a_nil)) (argV_len (argV_len (fun _ _ _ h => argN_len h)))) (a_val (Fo.call f_p_totals_of hgd hr (by decide) (by rfl) rfl (a_val (d_var 1 (pv 1)) a_nil) (argV_len (fun _ _ _ h => argN_len h))) (a_val (d_var 3 (pv 3)) a_nil))) (argV_len (argV_len (argV_len (fun _ _ _ h => argN_len h)))))))
theorem b_p_ran_over (n_tuple : mg "tuple" = none) (n_zip : mg "zip" = none) (f_p_sums_of : Fo P w K mg base "sums_of" ["stair", "deeds"] m_p_sums_of 2) (f_p_totals_of : Fo P w K mg base "totals_of" ["levels"] m_p_totals_of 1) (f_p_far_totals : Fo P w K mg base "far_totals" ["stair", "levels", "deeds", "many"] m_p_far_totals 5) : ∀ (cdv : Value) (A : Around) (outer : List Env) (s : Shared) (H : Hp) (E : XK), A.guards = some [] → Room 5 (A.deeper (envOfC "ran_over" (defScope s_p_ran_over) s.heap.objs.size f cdv)) →
    PSsd (cxOf CX0 P w K mg base ["stair", "levels", "deeds", "many", "ahead", "left", "total", "more", "rest"] "ran_over" (defScope s_p_ran_over) f cdv A outer s H E).nox (defBody s_p_ran_over) g_p_ran_over := by
  intro cdv A outer s H E hgd hr
  unfold g_p_ran_over
  exact (s_cons (s_asg (Fo.call f_p_totals_of hgd hr (by decide) (by rfl) rfl (a_val (d_var 1 (pv 1)) a_nil) (argV_len (fun _ _ _ h => argN_len h))) (g_name (pg_name (i := 4) sc_p_ran_over.nd rfl (by first | exact Or.inl rfl | exact Or.inr rfl))))
  (s_cons (s_asg (Fo.call f_p_far_totals hgd hr (by decide) (by rfl) rfl (a_val (d_var 0 (pv 0)) (a_val (d_var 1 (pv 1)) (a_val (d_var 2 (pv 2)) (a_val (d_var 3 (pv 3)) a_nil)))) (argV_len (argV_len (argV_len (argV_len (fun _ _ _ h => argN_len h)))))) (g_name (pg_name (i := 5) sc_p_ran_over.nd rfl (by first | exact Or.inl rfl | exact Or.inr rfl))))
  (s_one (s_ret (d_tuple (by rfl) n_tuple (d_lc (own := [("total", 6), ("more", 7), ("rest", 8)]) rfl sc_p_ran_over.nd (i_zip3 (by rfl) n_zip (d_var 4 (pv 4)) (Fo.call f_p_sums_of hgd hr (by decide) (by rfl) rfl (a_val (d_var 0 (pv 0)) (a_val (d_var 2 (pv 2)) a_nil)) (argV_len (argV_len (fun _ _ _ h => argN_len h)))) (d_var 5 (pv 5))) (blkOk_by (N := ["stair", "levels", "deeds", "many", "ahead", "left", "total", "more", "rest"]) (sc := defScope s_p_ran_over) (own := [("total", 6), ("more", 7), ("rest", 8)]) (by decide +kernel)) (fun _ _ _ _ _ => (g_tup (PG.or (pg_tup rfl (PGsd.ex (gs_cons (g_name (pg_name (i := 6) sc_p_ran_over.nd rfl (by first | exact Or.inl rfl | exact Or.inr rfl))) (gs_cons (g_name (pg_name (i := 7) sc_p_ran_over.nd rfl (by first | exact Or.inl rfl | exact Or.inr rfl))) (gs_cons (g_name (pg_name (i := 8) sc_p_ran_over.nd rfl (by first | exact Or.inl rfl | exact Or.inr rfl))) gs_nil (pgs_cons (PGd.ex (g_name (pg_name (i := 8) sc_p_ran_over.nd rfl (by first | exact Or.inl rfl | exact Or.inr rfl)))) (PGsd.ex gs_nil))) (pgs_cons (PGd.ex (g_name (pg_name (i := 7) sc_p_ran_over.nd rfl (by first | exact Or.inl rfl | exact Or.inr rfl)))) (PGsd.ex (gs_cons (g_name (pg_name (i := 8) sc_p_ran_over.nd rfl (by first | exact Or.inl rfl | exact Or.inr rfl))) gs_nil (pgs_cons (PGd.ex (g_name (pg_name (i := 8) sc_p_ran_over.nd rfl (by first | exact Or.inl rfl | exact Or.inr rfl)))) (PGsd.ex gs_nil)))))) (pgs_cons (PGd.ex (g_name (pg_name (i := 6) sc_p_ran_over.nd rfl (by first | exact Or.inl rfl | exact Or.inr rfl)))) (PGsd.ex (gs_cons (g_name (pg_name (i := 7) sc_p_ran_over.nd rfl (by first | exact Or.inl rfl | exact Or.inr rfl))) (gs_cons (g_name (pg_name (i := 8) sc_p_ran_over.nd rfl (by first | exact Or.inl rfl | exact Or.inr rfl))) gs_nil (pgs_cons (PGd.ex (g_name (pg_name (i := 8) sc_p_ran_over.nd rfl (by first | exact Or.inl rfl | exact Or.inr rfl)))) (PGsd.ex gs_nil))) (pgs_cons (PGd.ex (g_name (pg_name (i := 7) sc_p_ran_over.nd rfl (by first | exact Or.inl rfl | exact Or.inr rfl)))) (PGsd.ex (gs_cons (g_name (pg_name (i := 8) sc_p_ran_over.nd rfl (by first | exact Or.inl rfl | exact Or.inr rfl))) gs_nil (pgs_cons (PGd.ex (g_name (pg_name (i := 8) sc_p_ran_over.nd rfl (by first | exact Or.inl rfl | exact Or.inr rfl)))) (PGsd.ex gs_nil))))))))))) (pg_lst rfl (PGsd.ex (gs_cons (g_name (pg_name (i := 6) sc_p_ran_over.nd rfl (by first | exact Or.inl rfl | exact Or.inr rfl))) (gs_cons (g_name (pg_name (i := 7) sc_p_ran_over.nd rfl (by first | exact Or.inl rfl | exact Or.inr rfl))) (gs_cons (g_name (pg_name (i := 8) sc_p_ran_over.nd rfl (by first | exact Or.inl rfl | exact Or.inr rfl))) gs_nil (pgs_cons (PGd.ex (g_name (pg_name (i := 8) sc_p_ran_over.nd rfl (by first | exact Or.inl rfl | exact Or.inr rfl)))) (PGsd.ex gs_nil))) (pgs_cons (PGd.ex (g_name (pg_name (i := 7) sc_p_ran_over.nd rfl (by first | exact Or.inl rfl | exact Or.inr rfl)))) (PGsd.ex (gs_cons (g_name (pg_name (i := 8) sc_p_ran_over.nd rfl (by first | exact Or.inl rfl | exact Or.inr rfl))) gs_nil (pgs_cons (PGd.ex (g_name (pg_name (i := 8) sc_p_ran_over.nd rfl (by first | exact Or.inl rfl | exact Or.inr rfl)))) (PGsd.ex gs_nil)))))) (pgs_cons (PGd.ex (g_name (pg_name (i := 6) sc_p_ran_over.nd rfl (by first | exact Or.inl rfl | exact Or.inr rfl)))) (PGsd.ex (gs_cons (g_name (pg_name (i := 7) sc_p_ran_over.nd rfl (by first | exact Or.inl rfl | exact Or.inr rfl))) (gs_cons (g_name (pg_name (i := 8) sc_p_ran_over.nd rfl (by first | exact Or.inl rfl | exact Or.inr rfl))) gs_nil (pgs_cons (PGd.ex (g_name (pg_name (i := 8) sc_p_ran_over.nd rfl (by first | exact Or.inl rfl | exact Or.inr rfl)))) (PGsd.ex gs_nil))) (pgs_cons (PGd.ex (g_name (pg_name (i := 7) sc_p_ran_over.nd rfl (by first | exact Or.inl rfl | exact Or.inr rfl)))) (PGsd.ex (gs_cons (g_name (pg_name (i := 8) sc_p_ran_over.nd rfl (by first | exact Or.inl rfl | exact Or.inr rfl))) gs_nil (pgs_cons (PGd.ex (g_name (pg_name (i := 8) sc_p_ran_over.nd rfl (by first | exact Or.inl rfl | exact Or.inr rfl)))) (PGsd.ex gs_nil)))))))))))))) (fun _ _ _ _ _ => ts_nil) (fun _ _ _ _ _ => (d_subA (d_addA (d_var 6 (pv 6)) (d_mulA (d_var 7 (pv 7)) (d_var 3 (pv 3)))) (d_var 8 (pv 8))))))))))
theorem b_p_rows_of (f_p_rows_at : Fo P w K mg base "rows_at" ["table", "lines", "pound"] m_p_rows_at 4) (f_p_lines_of : Fo P w K mg base "lines_of" ["table", "totals"] m_p_lines_of 3) (f_p_table_of : Fo P w K mg base "table_of" ["stair", "deeds"] m_p_table_of 4) (f_p_totals_of : Fo P w K mg base "totals_of" ["levels"] m_p_totals_of 1) : ∀ (cdv : Value) (A : Around) (outer : List Env) (s : Shared) (H : Hp) (E : XK), A.guards = some [] → Room 4 (A.deeper (envOfC "rows_of" (defScope s_p_rows_of) s.heap.objs.size f cdv)) →
    PSsd (cxOf CX0 P w K mg base ["stair", "levels", "deeds", "place", "pound", "lines"] "rows_of" (defScope s_p_rows_of) f cdv A outer s H E).nox (defBody s_p_rows_of) g_p_rows_of := by
  intro cdv A outer s H E hgd hr
  unfold g_p_rows_of
  exact (s_cons (s_asg (Fo.call f_p_lines_of hgd hr (by decide) (by rfl) rfl (a_val (Fo.call f_p_table_of hgd hr (by decide) (by rfl) rfl (a_val (d_var 0 (pv 0)) (a_val (d_var 2 (pv 2)) a_nil)) (argV_len (argV_len (fun _ _ _ h => argN_len h)))) (a_val (Fo.call f_p_totals_of hgd hr (by decide) (by rfl) rfl (a_val (d_var 1 (pv 1)) a_nil) (argV_len (fun _ _ _ h => argN_len h))) a_nil)) (argV_len (argV_len (fun _ _ _ h => argN_len h)))) (g_name (pg_name (i := 5) sc_p_rows_of.nd rfl (by first | exact Or.inl rfl | exact Or.inr rfl))))
  (s_one (s_ret (Fo.call f_p_rows_at hgd hr (by decide) (by rfl) rfl (a_val (Fo.call f_p_table_of hgd hr (by decide) (by rfl) rfl (a_val (d_var 0 (pv 0)) (a_val (d_sl (d_var 2 (pv 2)) o_none (o_some (d_var 3 (pv 3)))) a_nil)) (argV_len (argV_len (fun _ _ _ h => argN_len h)))) (a_val (d_var 5 (pv 5)) (a_val (d_var 4 (pv 4)) a_nil))) (argV_len (argV_len (argV_len (fun _ _ _ h => argN_len h))))))))
theorem b_l_box (n_abs : mg "abs" = none) (n_int : mg "int" = none) (n_len : mg "len" = none) : ∀ (cdv : Value) (A : Around) (outer : List Env) (s : Shared) (H : Hp) (E : XK), A.guards = some [] → Room 0 (A.deeper (envOfC "_law_box" (defScope s_l_box) s.heap.objs.size f cdv)) →
    PSsd (cxOf CX0 P w K mg base ["_law_script", "_law_k", "_law_cell"] "_law_box" (defScope s_l_box) f cdv A outer s H E).nox (defBody s_l_box) g_l_box := by
  intro cdv A outer s H E hgd hr
  unfold g_l_box
  exact (s_cons (s_asg (d_ife (d_tstC op_lt (fun _ => o_lt) (d_var 1 (pv 1)) (d_len (by rfl) n_len (d_var 0 (pv 0))) (nomark _)) (d_ix (d_var 0 (pv 0)) (d_var 1 (pv 1))) d_int) (g_name (pg_name (i := 2) sc_l_box.nd rfl (by first | exact Or.inl rfl | exact Or.inr rfl))))
  (s_one (s_ret (d_lst (a_val (d_mulA (d_abs (by rfl) n_abs (d_var 2 (pv 2))) (d_toInt (by rfl) n_int (d_cmp op_ge (fun _ => o_ge) (d_abs (by rfl) n_abs (d_var 2 (pv 2))) (d_powA d_int d_int) (nomark _)))) (a_val (d_modA (d_mulA (d_addA (d_addA (d_modA (d_var 2 (pv 2)) d_int) (d_mulA d_int (d_var 1 (pv 1)))) d_int) d_int) d_int) (a_val d_int a_nil)))))))
theorem b_l_take (n_divmod : mg "divmod" = none) {n : Nat} {self : Fsem} (f_l_take : Fo P w K mg base "_law_take" ["_law_box_here", "_law_size"] self (0 + n)) : ∀ (cdv : Value) (A : Around) (outer : List Env) (s : Shared) (H : Hp) (E : XK), A.guards = some [] → Room (0 + n) (A.deeper (envOfC "_law_take" (defScope s_l_take) s.heap.objs.size f cdv)) →
    PSsd (cxOf CX0 P w K mg base ["_law_box_here", "_law_size", "_law_found", "_law_step", "_law_once", "_law_twice"] "_law_take" (defScope s_l_take) f cdv A outer s H E).nox (defBody s_l_take) (g_l_take self) := by
  intro cdv A outer s H E hgd hr
  unfold g_l_take
  exact (s_cons (s_if (d_tstC op_gt (fun _ => o_gt) (d_ix (d_var 0 (pv 0)) d_int) d_int (nomark _)) (s_cons (s_asg (d_divmod (by rfl) n_divmod (d_ix (d_var 0 (pv 0)) d_int) (d_var 1 (pv 1))) (g_tup (PG.or (pg_tup rfl (PGsd.ex (gs_cons (g_sub (pg_sub (PEd.ex (d_var 0 (pv 0))) (PEd.ex (d_sub d_int)) set_list)) (gs_cons (g_name (pg_name (i := 2) sc_l_take.nd rfl (by first | exact Or.inl rfl | exact Or.inr rfl))) gs_nil (pgs_cons (PGd.ex (g_name (pg_name (i := 2) sc_l_take.nd rfl (by first | exact Or.inl rfl | exact Or.inr rfl)))) (PGsd.ex gs_nil))) (pgs_cons (PGd.ex (g_sub (pg_sub (PEd.ex (d_var 0 (pv 0))) (PEd.ex (d_sub d_int)) set_list))) (PGsd.ex (gs_cons (g_name (pg_name (i := 2) sc_l_take.nd rfl (by first | exact Or.inl rfl | exact Or.inr rfl))) gs_nil (pgs_cons (PGd.ex (g_name (pg_name (i := 2) sc_l_take.nd rfl (by first | exact Or.inl rfl | exact Or.inr rfl)))) (PGsd.ex gs_nil)))))))) (pg_lst rfl (PGsd.ex (gs_cons (g_sub (pg_sub (PEd.ex (d_var 0 (pv 0))) (PEd.ex (d_sub d_int)) set_list)) (gs_cons (g_name (pg_name (i := 2) sc_l_take.nd rfl (by first | exact Or.inl rfl | exact Or.inr rfl))) gs_nil (pgs_cons (PGd.ex (g_name (pg_name (i := 2) sc_l_take.nd rfl (by first | exact Or.inl rfl | exact Or.inr rfl)))) (PGsd.ex gs_nil))) (pgs_cons (PGd.ex (g_sub (pg_sub (PEd.ex (d_var 0 (pv 0))) (PEd.ex (d_sub d_int)) set_list))) (PGsd.ex (gs_cons (g_name (pg_name (i := 2) sc_l_take.nd rfl (by first | exact Or.inl rfl | exact Or.inr rfl))) gs_nil (pgs_cons (PGd.ex (g_name (pg_name (i := 2) sc_l_take.nd rfl (by first | exact Or.inl rfl | exact Or.inr rfl)))) (PGsd.ex gs_nil)))))))))))
  (s_one (s_ret (d_var 2 (pv 2))))) s_nil)
  (s_cons (s_if (d_tstC op_gt (fun _ => o_gt) (d_var 1 (pv 1)) (d_powA d_int d_int) (nomark _)) (s_one (s_ret (d_modA (d_addA (Fo.call f_l_take hgd hr (by omega) (by rfl) rfl (a_ref (d_var 0 (pv 0)) (a_val (d_powA d_int d_int) a_nil)) (argR_len (argV_len (fun _ _ _ h => argN_len h)))) (d_mulA (d_powA d_int d_int) (Fo.call f_l_take hgd hr (by omega) (by rfl) rfl (a_ref (d_var 0 (pv 0)) (a_val (d_addA (d_divA (d_subA (d_var 1 (pv 1)) d_int) (d_powA d_int d_int)) d_int) a_nil)) (argR_len (argV_len (fun _ _ _ h => argN_len h)))))) (d_var 1 (pv 1))))) s_nil)
  (s_cons (s_asg (d_addA (d_ix (d_var 0 (pv 0)) d_int) d_int) (g_sub (pg_sub (PEd.ex (d_var 0 (pv 0))) (PEd.ex (d_sub d_int)) set_list)))
  (s_cons (s_asg (d_addA d_int (d_mulA (d_ix (d_var 0 (pv 0)) d_int) (d_ix (d_var 0 (pv 0)) d_int))) (g_name (pg_name (i := 3) sc_l_take.nd rfl (by first | exact Or.inl rfl | exact Or.inr rfl))))
  (s_cons (s_asg (d_modA (d_mulA (d_addA (d_ix (d_var 0 (pv 0)) d_int) (d_mulA d_int (d_ix (d_var 0 (pv 0)) d_int))) (d_var 3 (pv 3))) d_int) (g_name (pg_name (i := 4) sc_l_take.nd rfl (by first | exact Or.inl rfl | exact Or.inr rfl))))
  (s_cons (s_asg (d_modA (d_addA (d_mulA (d_var 4 (pv 4)) (d_addA (d_modA (d_var 4 (pv 4)) d_int) d_int)) (d_ix (d_var 0 (pv 0)) d_int)) d_int) (g_name (pg_name (i := 5) sc_l_take.nd rfl (by first | exact Or.inl rfl | exact Or.inr rfl))))
  (s_one (s_ret (d_modA (d_divA (d_modA (d_mulA (d_var 5 (pv 5)) (d_addA (d_modA (d_var 5 (pv 5)) d_int) d_int)) d_int) d_int) (d_var 1 (pv 1)))))))))))
theorem b_l_folded (n_enumerate : mg "enumerate" = none) (n_list : mg "list" = none) : ∀ (cdv : Value) (A : Around) (outer : List Env) (s : Shared) (H : Hp) (E : XK), A.guards = some [] → Room 0 (A.deeper (envOfC "_law_folded" (defScope s_l_folded) s.heap.objs.size f cdv)) →
    PSsd (cxOf CX0 P w K mg base ["_law_script", "_law_size", "_law_cells", "_law_k", "_law_cell"] "_law_folded" (defScope s_l_folded) f cdv A outer s H E).nox (defBody s_l_folded) g_l_folded := by
  intro cdv A outer s H E hgd hr
  unfold g_l_folded
  exact (s_cons (s_asgO (d_list (by rfl) n_list (d_sl (d_var 0 (pv 0)) o_none (o_some (d_var 1 (pv 1))))) (fun te h => ps_set (i := 2) sc_l_folded.nd rfl (by first | exact Or.inl rfl | exact Or.inr rfl) h))
  (s_cons (s_for PassesOwn.never rfl (i_enum (by rfl) n_enumerate (d_sl (d_var 0 (pv 0)) (o_some (d_var 1 (pv 1))) (o_some d_int))) (g_tup (PG.or (pg_tup rfl (PGsd.ex (gs_cons (g_name (pg_name (i := 3) sc_l_folded.nd rfl (by first | exact Or.inl rfl | exact Or.inr rfl))) (gs_cons (g_name (pg_name (i := 4) sc_l_folded.nd rfl (by first | exact Or.inl rfl | exact Or.inr rfl))) gs_nil (pgs_cons (PGd.ex (g_name (pg_name (i := 4) sc_l_folded.nd rfl (by first | exact Or.inl rfl | exact Or.inr rfl)))) (PGsd.ex gs_nil))) (pgs_cons (PGd.ex (g_name (pg_name (i := 3) sc_l_folded.nd rfl (by first | exact Or.inl rfl | exact Or.inr rfl)))) (PGsd.ex (gs_cons (g_name (pg_name (i := 4) sc_l_folded.nd rfl (by first | exact Or.inl rfl | exact Or.inr rfl))) gs_nil (pgs_cons (PGd.ex (g_name (pg_name (i := 4) sc_l_folded.nd rfl (by first | exact Or.inl rfl | exact Or.inr rfl)))) (PGsd.ex gs_nil)))))))) (pg_lst rfl (PGsd.ex (gs_cons (g_name (pg_name (i := 3) sc_l_folded.nd rfl (by first | exact Or.inl rfl | exact Or.inr rfl))) (gs_cons (g_name (pg_name (i := 4) sc_l_folded.nd rfl (by first | exact Or.inl rfl | exact Or.inr rfl))) gs_nil (pgs_cons (PGd.ex (g_name (pg_name (i := 4) sc_l_folded.nd rfl (by first | exact Or.inl rfl | exact Or.inr rfl)))) (PGsd.ex gs_nil))) (pgs_cons (PGd.ex (g_name (pg_name (i := 3) sc_l_folded.nd rfl (by first | exact Or.inl rfl | exact Or.inr rfl)))) (PGsd.ex (gs_cons (g_name (pg_name (i := 4) sc_l_folded.nd rfl (by first | exact Or.inl rfl | exact Or.inr rfl))) gs_nil (pgs_cons (PGd.ex (g_name (pg_name (i := 4) sc_l_folded.nd rfl (by first | exact Or.inl rfl | exact Or.inr rfl)))) (PGsd.ex gs_nil)))))))))) (s_one (s_asg (d_addA (d_ix (d_var 2 (pv 2)) (d_modA (d_var 3 (pv 3)) (d_var 1 (pv 1)))) (d_mulA (d_var 4 (pv 4)) (d_addA (d_var 3 (pv 3)) d_int))) (g_sub (pg_sub (PEd.ex (d_var 2 (pv 2))) (PEd.ex (d_sub (d_modA (d_var 3 (pv 3)) (d_var 1 (pv 1))))) set_list)))))
  (s_one (s_ret (d_var 2 (pv 2))))))
theorem b_l_same (n_all : mg "all" = none) (n_bool : mg "bool" = none) (n_int : mg "int" = none) (n_isinstance : mg "isinstance" = none) (n_len : mg "len" = none) (n_list : mg "list" = none) (n_str : mg "str" = none) (n_tuple : mg "tuple" = none) (n_zip : mg "zip" = none) {n : Nat} {self : Fsem} (f_l_same : Fo P w K mg base "_law_same" ["_law_found", "_law_due"] self (0 + n)) : ∀ (cdv : Value) (A : Around) (outer : List Env) (s : Shared) (H : Hp) (E : XK), A.guards = some [] → Room (0 + n) (A.deeper (envOfC "_law_same" (defScope s_l_same) s.heap.objs.size f cdv)) →
    PSsd (cxOf CX0 P w K mg base ["_law_found", "_law_due", "_law_one", "_law_other"] "_law_same" (defScope s_l_same) f cdv A outer s H E).nox (defBody s_l_same) (g_l_same self) := by
  intro cdv A outer s H E hgd hr
  unfold g_l_same
  exact (s_cons (s_if (d_tru (d_isiN [.list, .tuple] (by rfl) n_isinstance (d_var 1 (pv 1)) (ty_cons .list (pe_bltn (by rfl) n_list (by decide +kernel) rfl) (ty_cons .tuple (pe_bltn (by rfl) n_tuple (by decide +kernel) rfl) ty_nil)))) (s_cons (s_if (PWd.pt (w_or (d_tstC (op_ne.or (op_neD hr.units)) (fun _ => Op2.or op2_neS op2_ne) (d_isi1 .list (by rfl) n_isinstance (d_var 0 (pv 0)) (pe_bltn (by rfl) n_list (by decide +kernel) rfl)) (d_isi1 .list (by rfl) n_isinstance (d_var 1 (pv 1)) (pe_bltn (by rfl) n_list (by decide +kernel) rfl)) (nomark _)) (w_or1 (d_tstC (op_ne.or (op_neD hr.units)) (fun _ => Op2.or op2_neS op2_ne) (d_isi1 .tuple (by rfl) n_isinstance (d_var 0 (pv 0)) (pe_bltn (by rfl) n_tuple (by decide +kernel) rfl)) (d_isi1 .tuple (by rfl) n_isinstance (d_var 1 (pv 1)) (pe_bltn (by rfl) n_tuple (by decide +kernel) rfl)) (nomark _))))) (s_one (s_ret d_bl)) s_nil)
  (s_one (s_ret (d_and (d_cmp (op_eq.or (op_eqD hr.units)) (fun _ => Op2.or op2_eqS op2_eq) (d_len (by rfl) n_len (d_var 0 (pv 0))) (d_len (by rfl) n_len (d_var 1 (pv 1))) (nomark _)) (d_one (d_all rfl (by rfl) n_all (d_lc (own := [("_law_one", 2), ("_law_other", 3)]) rfl sc_l_same.nd (i_zip (by rfl) n_zip (d_var 0 (pv 0)) (d_var 1 (pv 1))) (blkOk_by (N := ["_law_found", "_law_due", "_law_one", "_law_other"]) (sc := defScope s_l_same) (own := [("_law_one", 2), ("_law_other", 3)]) (by decide +kernel)) (fun _ _ _ _ _ => (g_tup (PG.or (pg_tup rfl (PGsd.ex (gs_cons (g_name (pg_name (i := 2) sc_l_same.nd rfl (by first | exact Or.inl rfl | exact Or.inr rfl))) (gs_cons (g_name (pg_name (i := 3) sc_l_same.nd rfl (by first | exact Or.inl rfl | exact Or.inr rfl))) gs_nil (pgs_cons (PGd.ex (g_name (pg_name (i := 3) sc_l_same.nd rfl (by first | exact Or.inl rfl | exact Or.inr rfl)))) (PGsd.ex gs_nil))) (pgs_cons (PGd.ex (g_name (pg_name (i := 2) sc_l_same.nd rfl (by first | exact Or.inl rfl | exact Or.inr rfl)))) (PGsd.ex (gs_cons (g_name (pg_name (i := 3) sc_l_same.nd rfl (by first | exact Or.inl rfl | exact Or.inr rfl))) gs_nil (pgs_cons (PGd.ex (g_name (pg_name (i := 3) sc_l_same.nd rfl (by first | exact Or.inl rfl | exact Or.inr rfl)))) (PGsd.ex gs_nil)))))))) (pg_lst rfl (PGsd.ex (gs_cons (g_name (pg_name (i := 2) sc_l_same.nd rfl (by first | exact Or.inl rfl | exact Or.inr rfl))) (gs_cons (g_name (pg_name (i := 3) sc_l_same.nd rfl (by first | exact Or.inl rfl | exact Or.inr rfl))) gs_nil (pgs_cons (PGd.ex (g_name (pg_name (i := 3) sc_l_same.nd rfl (by first | exact Or.inl rfl | exact Or.inr rfl)))) (PGsd.ex gs_nil))) (pgs_cons (PGd.ex (g_name (pg_name (i := 2) sc_l_same.nd rfl (by first | exact Or.inl rfl | exact Or.inr rfl)))) (PGsd.ex (gs_cons (g_name (pg_name (i := 3) sc_l_same.nd rfl (by first | exact Or.inl rfl | exact Or.inr rfl))) gs_nil (pgs_cons (PGd.ex (g_name (pg_name (i := 3) sc_l_same.nd rfl (by first | exact Or.inl rfl | exact Or.inr rfl)))) (PGsd.ex gs_nil))))))))))) (fun _ _ _ _ _ => ts_nil) (fun _ _ _ _ _ => (Fo.call f_l_same hgd hr (by omega) (by rfl) rfl (a_val (d_var 2 (pv 2)) (a_val (d_var 3 (pv 3)) a_nil)) (argV_len (argV_len (fun _ _ _ h => argN_len h)))))))))))) s_nil)
  (s_cons (s_if (PWd.pt (w_or (d_tstC op_isN (fun _ => op2_is) (d_var 1 (pv 1)) d_non (nomark _)) (w_or1 (d_tru (d_isi1 .str (by rfl) n_isinstance (d_var 1 (pv 1)) (pe_bltn (by rfl) n_str (by decide +kernel) rfl)))))) (s_one (s_ret (d_and (d_cmp (op_eq.or (op_eqD hr.units)) (fun _ => Op2.or op2_eqS op2_eq) (d_var 0 (pv 0)) (d_var 1 (pv 1)) (nomark _)) (d_one (d_cmp (op_eq.or (op_eqD hr.units)) (fun _ => Op2.or op2_eqS op2_eq) (d_isi1 .str (by rfl) n_isinstance (d_var 0 (pv 0)) (pe_bltn (by rfl) n_str (by decide +kernel) rfl)) (d_isi1 .str (by rfl) n_isinstance (d_var 1 (pv 1)) (pe_bltn (by rfl) n_str (by decide +kernel) rfl)) (nomark _)))))) s_nil)
  (s_one (s_ret (d_and (d_isi1 .int (by rfl) n_isinstance (d_var 0 (pv 0)) (pe_bltn (by rfl) n_int (by decide +kernel) rfl)) (d_and (d_cmp (op_eq.or (op_eqD hr.units)) (fun _ => Op2.or op2_eqS op2_eq) (d_isi1 .bool (by rfl) n_isinstance (d_var 0 (pv 0)) (pe_bltn (by rfl) n_bool (by decide +kernel) rfl)) (d_isi1 .bool (by rfl) n_isinstance (d_var 1 (pv 1)) (pe_bltn (by rfl) n_bool (by decide +kernel) rfl)) (nomark _)) (d_one (d_cmp (op_eq.or (op_eqD hr.units)) (fun _ => Op2.or op2_eqS op2_eq) (d_var 0 (pv 0)) (d_var 1 (pv 1)) (nomark _)))))))))
theorem b_l_cut (n_int : mg "int" = none) (n_max : mg "max" = none) : ∀ (cdv : Value) (A : Around) (outer : List Env) (s : Shared) (H : Hp) (E : XK), A.guards = some [] → Room 0 (A.deeper (envOfC "_law_cut" (defScope s_l_cut) s.heap.objs.size f cdv)) →
    PSsd (cxOf CX0 P w K mg base ["_law_first", "_law_step", "_law_begin", "_law_top", "_law_full", "_law_found", "_law_last", "_law_rest"] "_law_cut" (defScope s_l_cut) f cdv A outer s H E).nox (defBody s_l_cut) g_l_cut := by
  intro cdv A outer s H E hgd hr
  unfold g_l_cut
  exact (s_cons (s_asg (d_max2 rfl (by rfl) n_max (d_var 0 (pv 0)) (d_divA (d_subA (d_addA (d_subA (d_var 3 (pv 3)) (d_var 2 (pv 2))) (d_var 1 (pv 1))) d_int) (d_var 1 (pv 1)))) (g_name (pg_name (i := 4) sc_l_cut.nd rfl (by first | exact Or.inl rfl | exact Or.inr rfl))))
  (s_cons (s_if (d_tstC (op_eq.or (op_eqD hr.units)) (fun _ => Op2.or op2_eqS op2_eq) (d_var 4 (pv 4)) (d_var 0 (pv 0)) (nomark _)) (s_one (s_ret (d_ife (d_tstC op_ge (fun _ => o_ge) (d_addA (d_var 2 (pv 2)) (d_mulA (d_var 1 (pv 1)) (d_var 0 (pv 0)))) (d_var 3 (pv 3)) (nomark _)) (d_lst (a_val (d_tup (a_val (d_var 0 (pv 0)) (a_val d_int (a_val (d_var 3 (pv 3)) a_nil)))) a_nil)) (d_lst a_nil)))) s_nil)
  (s_cons (s_par2 (d_mulV (d_lst (a_val (d_tup (a_val (d_var 0 (pv 0)) (a_val (d_var 1 (pv 1)) (a_val (d_var 2 (pv 2)) a_nil)))) a_nil)) (d_toInt (by rfl) n_int (d_cmp op_gt (fun _ => o_gt) (d_subA (d_var 4 (pv 4)) d_int) (d_var 0 (pv 0)) (nomark _)))) (d_addA (d_var 2 (pv 2)) (d_mulA (d_var 1 (pv 1)) (d_subA (d_var 4 (pv 4)) d_int))) (fun t h => ps_par (i := 5) (j := 6) rfl sc_l_cut.nd rfl rfl (by decide) rfl rfl h (by rfl)))
  (s_cons (s_asg (d_subA (d_var 3 (pv 3)) (d_var 6 (pv 6))) (g_name (pg_name (i := 7) sc_l_cut.nd rfl (by first | exact Or.inl rfl | exact Or.inr rfl))))
  (s_cons (s_if (PWd.pt (w_or (d_tstC op_lt (fun _ => o_lt) (d_var 7 (pv 7)) (d_var 1 (pv 1)) (nomark _)) (w_or1 (d_tstC (op_eq.or (op_eqD hr.units)) (fun _ => Op2.or op2_eqS op2_eq) (d_var 5 (pv 5)) (d_lst a_nil) (nomark _))))) (s_one (s_expr (d_mth m_append (d_var 5 (pv 5)) (a_val (d_tup (a_val (d_subA (d_var 4 (pv 4)) d_int) (a_val (d_var 7 (pv 7)) (a_val (d_subA (d_var 6 (pv 6)) (d_mulA (d_var 7 (pv 7)) (d_subA (d_var 4 (pv 4)) d_int))) a_nil)))) a_nil) (fun to t h1 h2 => pe_bm PySem.F.plainAttrs_list PySem.F.slot_list_append PySem.F.type_list_append mt_append h1 h2)))) s_nil)
  (s_one (s_ret (d_addA (d_var 5 (pv 5)) (d_lst (a_val (d_tup (a_val (d_var 4 (pv 4)) (a_val d_int (a_val (d_var 3 (pv 3)) a_nil)))) a_nil))))))))))
theorem b_l_one_right (n_max : mg "max" = none) (n_min : mg "min" = none) (f_p_far_levels : Fo P w K mg base "far_levels" ["stair", "levels", "deeds", "many"] m_p_far_levels 6) (f_p_ran_over : Fo P w K mg base "ran_over" ["stair", "levels", "deeds", "many"] m_p_ran_over 6) (f_p_rows_of : Fo P w K mg base "rows_of" ["stair", "levels", "deeds", "place", "pound"] m_p_rows_of 5) (f_l_take : Fo P w K mg base "_law_take" ["_law_box_here", "_law_size"] (m_l_take 4) 4) (f_l_cut : Fo P w K mg base "_law_cut" ["_law_first", "_law_step", "_law_begin", "_law_top"] m_l_cut 1) : ∀ (cdv : Value) (A : Around) (outer : List Env) (s : Shared) (H : Hp) (E : XK), A.guards = some [] → Room 6 (A.deeper (envOfC "_law_one_right" (defScope s_l_one_right) s.heap.objs.size f cdv)) →
    PSsd (cxOf CX0 P w K mg base ["_law_box_here", "_law_least", "_law_size", "_law_most", "_law_stair", "_law_more", "_law_flat", "_law_due", "_law_once", "_law_lap", "_law_many", "_law_ran", "_law_found"] "_law_one_right" (defScope s_l_one_right) f cdv A outer s H E).nox (defBody s_l_one_right) g_l_one_right := by
  intro cdv A outer s H E hgd hr
  unfold g_l_one_right
  exact (s_cons (s_par2 (Fo.call f_l_take hgd hr (by decide) (by rfl) rfl (a_ref (d_var 0 (pv 0)) (a_val d_int a_nil)) (argR_len (argV_len (fun _ _ _ h => argN_len h)))) (d_addA d_int (Fo.call f_l_take hgd hr (by decide) (by rfl) rfl (a_ref (d_var 0 (pv 0)) (a_val (d_powA d_int d_int) a_nil)) (argR_len (argV_len (fun _ _ _ h => argN_len h))))) (fun t h => ps_par (i := 1) (j := 2) rfl sc_l_one_right.nd rfl rfl (by decide) rfl rfl h (by rfl)))
  (s_cons (s_asg (d_addA (d_var 1 (pv 1)) (Fo.call f_l_take hgd hr (by decide) (by rfl) rfl (a_ref (d_var 0 (pv 0)) (a_val (d_ix (d_lst (a_val d_int (a_val (d_powA d_int d_int) (a_val (d_powA d_int d_int) a_nil)))) (Fo.call f_l_take hgd hr (by decide) (by rfl) rfl (a_ref (d_var 0 (pv 0)) (a_val d_int a_nil)) (argR_len (argV_len (fun _ _ _ h => argN_len h))))) a_nil)) (argR_len (argV_len (fun _ _ _ h => argN_len h))))) (g_name (pg_name (i := 3) sc_l_one_right.nd rfl (by first | exact Or.inl rfl | exact Or.inr rfl))))
  (s_cons (s_par2 (d_tup (a_val (d_tup (a_val (d_var 1 (pv 1)) (a_val (d_var 3 (pv 3)) (a_val (d_var 2 (pv 2)) a_nil)))) a_nil)) (d_addA d_int (Fo.call f_l_take hgd hr (by decide) (by rfl) rfl (a_ref (d_var 0 (pv 0)) (a_val (d_ix (d_lst (a_val d_int (a_val (d_powA d_int d_int) (a_val (d_powA d_int d_int) a_nil)))) (Fo.call f_l_take hgd hr (by decide) (by rfl) rfl (a_ref (d_var 0 (pv 0)) (a_val d_int a_nil)) (argR_len (argV_len (fun _ _ _ h => argN_len h))))) a_nil)) (argR_len (argV_len (fun _ _ _ h => argN_len h))))) (fun t h => ps_par (i := 4) (j := 5) rfl sc_l_one_right.nd rfl rfl (by decide) rfl rfl h (by rfl)))
  (s_cons (s_asg (d_tup (a_val (d_subA (d_var 3 (pv 3)) (Fo.call f_l_take hgd hr (by decide) (by rfl) rfl (a_ref (d_var 0 (pv 0)) (a_val (d_addA (d_var 3 (pv 3)) d_int) a_nil)) (argR_len (argV_len (fun _ _ _ h => argN_len h))))) a_nil)) (g_name (pg_name (i := 6) sc_l_one_right.nd rfl (by first | exact Or.inl rfl | exact Or.inr rfl))))
  (s_cons (s_par2 (Fo.call f_l_cut hgd hr (by decide) (by rfl) rfl (a_val d_int (a_val (d_var 5 (pv 5)) (a_val (d_ix (d_var 6 (pv 6)) d_int) (a_val (d_var 3 (pv 3)) a_nil)))) (argV_len (argV_len (argV_len (argV_len (fun _ _ _ h => argN_len h)))))) (d_lst (a_val (d_tup (a_val d_str (a_val d_int (a_val (d_var 5 (pv 5)) a_nil)))) a_nil)) (fun t h => ps_par (i := 7) (j := 8) rfl sc_l_one_right.nd rfl rfl (by decide) rfl rfl h (by rfl)))
  (s_cons (s_if (PWd.pt (w_or (d_tstC (op_ne.or (op_neD hr.units)) (fun _ => Op2.or op2_neS op2_ne) (Fo.call f_p_rows_of hgd hr (by decide) (by rfl) rfl (a_val (d_var 4 (pv 4)) (a_val (d_var 6 (pv 6)) (a_val (d_var 8 (pv 8)) (a_val d_int (a_val d_int a_nil))))) (argV_len (argV_len (argV_len (argV_len (argV_len (fun _ _ _ h => argN_len h))))))) (d_var 7 (pv 7)) (nomark _)) (w_or1 (d_tstC (op_ne.or (op_neD hr.units)) (fun _ => Op2.or op2_neS op2_ne) (Fo.call f_p_rows_of hgd hr (by decide) (by rfl) rfl (a_val (d_var 4 (pv 4)) (a_val (d_var 6 (pv 6)) (a_val (d_var 8 (pv 8)) (a_val d_int (a_val d_int a_nil))))) (argV_len (argV_len (argV_len (argV_len (argV_len (fun _ _ _ h => argN_len h))))))) (d_lst (a_val (d_tup (a_val d_int (a_val d_int (a_val d_int a_nil)))) a_nil)) (nomark _))))) (s_one (s_ret d_bl)) s_nil)
  (s_cons (s_asg (d_lst (a_val (d_tup (a_val d_str (a_val d_int (a_val (d_var 5 (pv 5)) a_nil)))) (a_val (d_tup (a_val d_str (a_val d_int a_nil))) (a_val (d_tup (a_val d_str (a_val d_int a_nil))) (a_val (d_tup (a_val d_str (a_val d_int (a_val (d_var 2 (pv 2)) a_nil)))) a_nil))))) (g_name (pg_name (i := 9) sc_l_one_right.nd rfl (by first | exact Or.inl rfl | exact Or.inr rfl))))
  (s_cons (s_if (d_tstC (op_ne.or (op_neD hr.units)) (fun _ => Op2.or op2_neS op2_ne) (Fo.call f_p_rows_of hgd hr (by decide) (by rfl) rfl (a_val (d_var 4 (pv 4)) (a_val (d_var 6 (pv 6)) (a_val (d_var 9 (pv 9)) (a_val d_int (a_val d_int a_nil))))) (argV_len (argV_len (argV_len (argV_len (argV_len (fun _ _ _ h => argN_len h))))))) (Fo.call f_l_cut hgd hr (by decide) (by rfl) rfl (a_val d_int (a_val (d_var 5 (pv 5)) (a_val (d_addA (d_ix (d_var 6 (pv 6)) d_int) (d_var 5 (pv 5))) (a_val (d_var 3 (pv 3)) a_nil)))) (argV_len (argV_len (argV_len (argV_len (fun _ _ _ h => argN_len h)))))) (nomark _)) (s_one (s_ret d_bl)) s_nil)
  (s_cons (s_if (d_tstC (op_ne.or (op_neD hr.units)) (fun _ => Op2.or op2_neS op2_ne) (Fo.call f_p_rows_of hgd hr (by decide) (by rfl) rfl (a_val (d_var 4 (pv 4)) (a_val (d_var 6 (pv 6)) (a_val (d_lst (a_val (d_tup (a_val d_str (a_val d_int (a_val (d_var 5 (pv 5)) a_nil)))) a_nil)) (a_val d_int (a_val d_int a_nil))))) (argV_len (argV_len (argV_len (argV_len (argV_len (fun _ _ _ h => argN_len h))))))) (d_lst (a_val (d_tup (a_val d_int (a_val (d_subA d_int (d_var 5 (pv 5))) (a_val (d_ix (d_var 6 (pv 6)) d_int) a_nil)))) a_nil)) (nomark _)) (s_one (s_ret d_bl)) s_nil)
  (s_cons (s_if (d_tstC (op_ne.or (op_neD hr.units)) (fun _ => Op2.or op2_neS op2_ne) (Fo.call f_p_rows_of hgd hr (by decide) (by rfl) rfl (a_val (d_var 4 (pv 4)) (a_val (d_var 6 (pv 6)) (a_val (d_lst (a_val (d_tup (a_val d_str (a_val d_int (a_val (d_var 5 (pv 5)) a_nil)))) a_nil)) (a_val d_int (a_val d_int a_nil))))) (argV_len (argV_len (argV_len (argV_len (argV_len (fun _ _ _ h => argN_len h))))))) (d_lst (a_val (d_tup (a_val d_int (a_val (d_subA d_int (d_var 5 (pv 5))) (a_val (d_subA (d_ix (d_var 6 (pv 6)) d_int) (d_var 5 (pv 5))) a_nil)))) a_nil)) (nomark _)) (s_one (s_ret d_bl)) s_nil)
  (s_cons (s_asg (Fo.call f_l_take hgd hr (by decide) (by rfl) rfl (a_ref (d_var 0 (pv 0)) (a_val (d_powA d_int d_int) a_nil)) (argR_len (argV_len (fun _ _ _ h => argN_len h)))) (g_name (pg_name (i := 10) sc_l_one_right.nd rfl (by first | exact Or.inl rfl | exact Or.inr rfl))))
  (s_cons (s_asg (d_max2 rfl (by rfl) n_max d_int (d_subA (d_addA (d_ix (d_var 6 (pv 6)) d_int) (d_mulA (d_var 5 (pv 5)) (d_var 10 (pv 10)))) (d_var 3 (pv 3)))) (g_name (pg_name (i := 11) sc_l_one_right.nd rfl (by first | exact Or.inl rfl | exact Or.inr rfl))))
  (s_cons (s_asg (d_lst (a_val (Fo.call f_p_far_levels hgd hr (by decide) (by rfl) rfl (a_val (d_var 4 (pv 4)) (a_val (d_var 6 (pv 6)) (a_val (d_lst (a_val (d_tup (a_val d_str (a_val d_int (a_val (d_var 5 (pv 5)) a_nil)))) a_nil)) (a_val (d_var 10 (pv 10)) a_nil)))) (argV_len (argV_len (argV_len (argV_len (fun _ _ _ h => argN_len h)))))) (a_val (Fo.call f_p_ran_over hgd hr (by decide) (by rfl) rfl (a_val (d_var 4 (pv 4)) (a_val (d_var 6 (pv 6)) (a_val (d_lst (a_val (d_tup (a_val d_str (a_val d_int (a_val (d_var 5 (pv 5)) a_nil)))) a_nil)) (a_val (d_var 10 (pv 10)) a_nil)))) (argV_len (argV_len (argV_len (argV_len (fun _ _ _ h => argN_len h)))))) a_nil))) (g_name (pg_name (i := 12) sc_l_one_right.nd rfl (by first | exact Or.inl rfl | exact Or.inr rfl))))
  (s_one (s_ret (d_cmp (op_eq.or (op_eqD hr.units)) (fun _ => Op2.or op2_eqS op2_eq) (d_var 12 (pv 12)) (d_lst (a_val (d_tup (a_val (d_min2 rfl (by rfl) n_min (d_var 3 (pv 3)) (d_addA (d_ix (d_var 6 (pv 6)) d_int) (d_mulA (d_var 5 (pv 5)) (d_var 10 (pv 10))))) a_nil)) (a_val (d_tup (a_val (d_var 11 (pv 11)) a_nil)) a_nil))) (nomark _)))))))))))))))))
theorem b_l_two_right (n_int : mg "int" = none) (n_len : mg "len" = none) (f_p_rows_of : Fo P w K mg base "rows_of" ["stair", "levels", "deeds", "place", "pound"] m_p_rows_of 5) (f_l_take : Fo P w K mg base "_law_take" ["_law_box_here", "_law_size"] (m_l_take 4) 4) : ∀ (cdv : Value) (A : Around) (outer : List Env) (s : Shared) (H : Hp) (E : XK), A.guards = some [] → Room 5 (A.deeper (envOfC "_law_two_right" (defScope s_l_two_right) s.heap.objs.size f cdv)) →
    PSsd (cxOf CX0 P w K mg base ["_law_box_here", "_law_size", "_law_most", "_law_stair", "_law_lap", "_law_flat", "_law_found", "_law_due", "_law_full", "_law_rest"] "_law_two_right" (defScope s_l_two_right) f cdv A outer s H E).nox (defBody s_l_two_right) g_l_two_right := by
  intro cdv A outer s H E hgd hr
  unfold g_l_two_right
  exact (s_cons (s_asg (d_addA d_int (Fo.call f_l_take hgd hr (by decide) (by rfl) rfl (a_ref (d_var 0 (pv 0)) (a_val d_int a_nil)) (argR_len (argV_len (fun _ _ _ h => argN_len h))))) (g_name (pg_name (i := 1) sc_l_two_right.nd rfl (by first | exact Or.inl rfl | exact Or.inr rfl))))
  (s_cons (s_asg (d_addA (d_var 1 (pv 1)) (Fo.call f_l_take hgd hr (by decide) (by rfl) rfl (a_ref (d_var 0 (pv 0)) (a_val (d_powA d_int d_int) a_nil)) (argR_len (argV_len (fun _ _ _ h => argN_len h))))) (g_name (pg_name (i := 2) sc_l_two_right.nd rfl (by first | exact Or.inl rfl | exact Or.inr rfl))))
  (s_cons (s_asg (d_tup (a_val (d_tup (a_val d_int (a_val (d_var 2 (pv 2)) (a_val d_int a_nil)))) (a_val (d_tup (a_val d_int (a_val (d_mulA d_int (d_var 1 (pv 1))) (a_val (d_var 1 (pv 1)) a_nil)))) a_nil))) (g_name (pg_name (i := 3) sc_l_two_right.nd rfl (by first | exact Or.inl rfl | exact Or.inr rfl))))
  (s_cons (s_par2 (d_lst (a_val (d_tup (a_val d_str (a_val d_int (a_val (d_var 1 (pv 1)) a_nil)))) (a_val (d_tup (a_val d_str (a_val d_int a_nil))) (a_val (d_tup (a_val d_str (a_val d_int a_nil))) a_nil)))) (d_tup (a_val (Fo.call f_l_take hgd hr (by decide) (by rfl) rfl (a_ref (d_var 0 (pv 0)) (a_val (d_addA (d_var 2 (pv 2)) d_int) a_nil)) (argR_len (argV_len (fun _ _ _ h => argN_len h)))) (a_val (d_var 1 (pv 1)) a_nil))) (fun t h => ps_par (i := 4) (j := 5) rfl sc_l_two_right.nd rfl rfl (by decide) rfl rfl h (by rfl)))
  (s_cons (s_if (d_tstC (op_ne.or (op_neD hr.units)) (fun _ => Op2.or op2_neS op2_ne) (Fo.call f_p_rows_of hgd hr (by decide) (by rfl) rfl (a_val (d_var 3 (pv 3)) (a_val (d_var 5 (pv 5)) (a_val (d_var 4 (pv 4)) (a_val d_int (a_val d_int a_nil))))) (argV_len (argV_len (argV_len (argV_len (argV_len (fun _ _ _ h => argN_len h))))))) (d_lst (a_val (d_tup (a_val d_int (a_val d_int (a_val (d_var 1 (pv 1)) a_nil)))) a_nil)) (nomark _)) (s_one (s_ret d_bl)) s_nil)
  (s_cons (s_par2 (Fo.call f_p_rows_of hgd hr (by decide) (by rfl) rfl (a_val (d_var 3 (pv 3)) (a_val (d_var 5 (pv 5)) (a_val (d_var 4 (pv 4)) (a_val d_int (a_val d_int a_nil))))) (argV_len (argV_len (argV_len (argV_len (argV_len (fun _ _ _ h => argN_len h))))))) (d_addA (d_ix (d_var 5 (pv 5)) d_int) (d_var 1 (pv 1))) (fun t h => ps_par (i := 6) (j := 7) rfl sc_l_two_right.nd rfl rfl (by decide) rfl rfl h (by rfl)))
  (s_cons (s_if (d_tstC op_lt (fun _ => o_lt) (d_divA (d_subA (d_var 2 (pv 2)) (d_ix (d_var 5 (pv 5)) d_int)) (d_var 1 (pv 1))) d_int (nomark _)) (s_one (s_ret (d_cmp (op_eq.or (op_eqD hr.units)) (fun _ => Op2.or op2_eqS op2_eq) (d_ix (d_var 6 (pv 6)) (d_neg d_int)) (d_tup (a_val (d_ix (d_ix (d_var 6 (pv 6)) (d_neg d_int)) d_int) (a_val d_int (a_val (d_addA (d_var 2 (pv 2)) (d_var 1 (pv 1))) a_nil)))) (nomark _)))) s_nil)
  (s_cons (s_par2 (d_divA (d_subA (d_var 2 (pv 2)) (d_ix (d_var 5 (pv 5)) d_int)) (d_var 1 (pv 1))) (d_toInt (by rfl) n_int (d_cmp op_gt (fun _ => o_gt) (d_modA (d_subA (d_var 2 (pv 2)) (d_ix (d_var 5 (pv 5)) d_int)) (d_var 1 (pv 1))) d_int (nomark _))) (fun t h => ps_par (i := 8) (j := 9) rfl sc_l_two_right.nd rfl rfl (by decide) rfl rfl h (by rfl)))
  (s_cons (s_if (PWd.pt (w_or (d_tstC (op_ne.or (op_neD hr.units)) (fun _ => Op2.or op2_neS op2_ne) (d_ix (d_var 6 (pv 6)) d_int) (d_tup (a_val d_int (a_val (d_var 1 (pv 1)) (a_val (d_var 7 (pv 7)) a_nil)))) (nomark _)) (w_or1 (d_tstC (op_ne.or (op_neD hr.units)) (fun _ => Op2.or op2_neS op2_ne) (d_sl (d_ix (d_var 6 (pv 6)) (d_neg d_int)) (o_some d_int) o_none) (d_tup (a_val d_int (a_val (d_addA (d_var 2 (pv 2)) (d_var 1 (pv 1))) a_nil))) (nomark _))))) (s_one (s_ret d_bl)) s_nil)
  (s_one (s_ret (d_and (d_cmp (op_eq.or (op_eqD hr.units)) (fun _ => Op2.or op2_eqS op2_eq) (d_ix (d_ix (d_var 6 (pv 6)) (d_neg d_int)) d_int) (d_addA (d_var 8 (pv 8)) (d_var 9 (pv 9))) (nomark _)) (d_one (d_cmp (op_eq.or (op_eqD hr.units)) (fun _ => Op2.or op2_eqS op2_eq) (d_len (by rfl) n_len (d_var 6 (pv 6))) (d_addA d_int (d_var 9 (pv 9))) (nomark _)))))))))))))))
theorem b_l_right (f_l_one_right : Fo P w K mg base "_law_one_right" ["_law_box_here"] m_l_one_right 7) (f_l_two_right : Fo P w K mg base "_law_two_right" ["_law_box_here"] m_l_two_right 6) : ∀ (cdv : Value) (A : Around) (outer : List Env) (s : Shared) (H : Hp) (E : XK), A.guards = some [] → Room 7 (A.deeper (envOfC "_law_right" (defScope s_l_right) s.heap.objs.size f cdv)) →
    PSsd (cxOf CX0 P w K mg base ["_law_box_here"] "_law_right" (defScope s_l_right) f cdv A outer s H E).nox (defBody s_l_right) g_l_right := by
  intro cdv A outer s H E hgd hr
  unfold g_l_right
  exact (s_one (s_ret (d_and (Fo.call f_l_one_right hgd hr (by decide) (by rfl) rfl (a_ref (d_var 0 (pv 0)) a_nil) (argR_len (fun _ _ _ h => argN_len h))) (d_one (Fo.call f_l_two_right hgd hr (by decide) (by rfl) rfl (a_ref (d_var 0 (pv 0)) a_nil) (argR_len (fun _ _ _ h => argN_len h)))))))
theorem b_p_law (n_all : mg "all" = none) (n_len : mg "len" = none) (n_max : mg "max" = none) (n_range : mg "range" = none) (f_l_box : Fo P w K mg base "_law_box" ["_law_script", "_law_k"] m_l_box 1) (f_l_folded : Fo P w K mg base "_law_folded" ["_law_script", "_law_size"] m_l_folded 1) (f_l_right : Fo P w K mg base "_law_right" ["_law_box_here"] m_l_right 8) : ∀ (cdv : Value) (A : Around) (outer : List Env) (s : Shared) (H : Hp) (E : XK), A.guards = some [] → Room 8 (A.deeper (envOfC "law" (defScope s_p_law) s.heap.objs.size f cdv)) →
    PSsd (cxOf CX0 P w K mg base ["_law_script", "_law_cells", "_law_k"] "law" (defScope s_p_law) f cdv A outer s H E).nox (defBody s_p_law) g_p_law := by
  intro cdv A outer s H E hgd hr
  unfold g_p_law
  exact (s_cons (s_asg (Fo.call f_l_folded hgd hr (by decide) (by rfl) rfl (a_val (d_var 0 (pv 0)) (a_val d_int a_nil)) (argV_len (argV_len (fun _ _ _ h => argN_len h)))) (g_name (pg_name (i := 1) sc_p_law.nd rfl (by first | exact Or.inl rfl | exact Or.inr rfl))))
  (s_one (s_ret (d_all rfl (by rfl) n_all (d_lc (own := [("_law_k", 2)]) rfl sc_p_law.nd (i_rng1 (by rfl) n_range (d_max2 rfl (by rfl) n_max d_int (d_len (by rfl) n_len (d_var 1 (pv 1))))) (blkOk_by (N := ["_law_script", "_law_cells", "_law_k"]) (sc := defScope s_p_law) (own := [("_law_k", 2)]) (by decide +kernel)) (fun _ _ _ _ _ => (g_name (pg_name (i := 2) sc_p_law.nd rfl (by first | exact Or.inl rfl | exact Or.inr rfl)))) (fun _ _ _ _ _ => ts_nil) (fun _ _ _ _ _ => (Fo.call1 f_l_right hgd hr (by decide) (by rfl) rfl (Fo.call f_l_box hgd hr (by decide) (by rfl) rfl (a_val (d_var 1 (pv 1)) (a_val (d_var 2 (pv 2)) a_nil)) (argV_len (argV_len (fun _ _ _ h => argN_len h)))))))))))
end
end K18
namespace K18
open PySem PySem.Spec PyProof.Rows L2 Lw
open K18h
set_option maxHeartbeats 0 in
theorem facts {P : Program} {w : World} {K : PySem.W.Frag} {h : Heap} {mg : Str → Option Value} {f : Addr} (X : K.In h) (G : h.Ns mainGlobals mg) (hfa : mg ("law" : Str) = some (.ref f)) (c : He.SaysD fa fn K) :
    ∃ fd : FuncData, (∀ (s : Shared) (v : Value), BindsTo s fd ⟨[v], []⟩ [("_law_script", v)]) ∧ ∀ base : Heap, K.In base → base.Ns mainGlobals mg → FnG P w K mg base CX0 9 f fd ["_law_script"] (spF K 1 m_p_law) := by
  obtain ⟨fd_p_rows_at, F_p_rows_at⟩ := c.def_ 0 (d := dd_p_rows_at) rfl
  obtain ⟨fd_p_lines_of, F_p_lines_of⟩ := c.def_ 1 (d := dd_p_lines_of) rfl
  obtain ⟨fd_p_begins_waiting, F_p_begins_waiting⟩ := c.def_ 2 (d := dd_p_begins_waiting) rfl
  obtain ⟨fd_p_stepped_on, F_p_stepped_on⟩ := c.def_ 3 (d := dd_p_stepped_on) rfl
  obtain ⟨fd_p_merged, F_p_merged⟩ := c.def_ 4 (d := dd_p_merged) rfl
  obtain ⟨fd_p_rows_from, F_p_rows_from⟩ := c.def_ 5 (d := dd_p_rows_from) rfl
  obtain ⟨fd_p_row_at, F_p_row_at⟩ := c.def_ 6 (d := dd_p_row_at) rfl
  obtain ⟨fd_p_lowest, F_p_lowest⟩ := c.def_ 7 (d := dd_p_lowest) rfl
  obtain ⟨fd_p_bend_of, F_p_bend_of⟩ := c.def_ 8 (d := dd_p_bend_of) rfl
  obtain ⟨fd_p_change_of, F_p_change_of⟩ := c.def_ 9 (d := dd_p_change_of) rfl
  obtain ⟨fd_p_sums_of, F_p_sums_of⟩ := c.def_ 10 (d := dd_p_sums_of) rfl
  obtain ⟨fd_p_led, F_p_led⟩ := c.def_ 11 (d := dd_p_led) rfl
  obtain ⟨fd_p_table_of, F_p_table_of⟩ := c.def_ 12 (d := dd_p_table_of) rfl
  obtain ⟨fd_p_tables_along, F_p_tables_along⟩ := c.def_ 13 (d := dd_p_tables_along) rfl
  obtain ⟨fd_p_brim_table, F_p_brim_table⟩ := c.def_ 14 (d := dd_p_brim_table) rfl
  obtain ⟨fd_p_table_behind, F_p_table_behind⟩ := c.def_ 15 (d := dd_p_table_behind) rfl
  obtain ⟨fd_p_behind, F_p_behind⟩ := c.def_ 16 (d := dd_p_behind) rfl
  obtain ⟨fd_p_row_behind, F_p_row_behind⟩ := c.def_ 17 (d := dd_p_row_behind) rfl
  obtain ⟨fd_p_doubles_of, F_p_doubles_of⟩ := c.def_ 18 (d := dd_p_doubles_of) rfl
  obtain ⟨fd_p_doubles_in, F_p_doubles_in⟩ := c.def_ 19 (d := dd_p_doubles_in) rfl
  obtain ⟨fd_p_led_often, F_p_led_often⟩ := c.def_ 20 (d := dd_p_led_often) rfl
  obtain ⟨fd_p_totals_of, F_p_totals_of⟩ := c.def_ 21 (d := dd_p_totals_of) rfl
  obtain ⟨fd_p_levels_of, F_p_levels_of⟩ := c.def_ 22 (d := dd_p_levels_of) rfl
  obtain ⟨fd_p_far_levels, F_p_far_levels⟩ := c.def_ 23 (d := dd_p_far_levels) rfl
  obtain ⟨fd_p_far_totals, F_p_far_totals⟩ := c.def_ 24 (d := dd_p_far_totals) rfl
  obtain ⟨fd_p_ran_over, F_p_ran_over⟩ := c.def_ 25 (d := dd_p_ran_over) rfl
  obtain ⟨fd_p_rows_of, F_p_rows_of⟩ := c.def_ 26 (d := dd_p_rows_of) rfl
  obtain ⟨fd_l_box, F_l_box⟩ := c.def_ 27 (d := dd_l_box) rfl
  obtain ⟨fd_l_take, F_l_take⟩ := c.def_ 28 (d := dd_l_take) rfl
  obtain ⟨fd_l_folded, F_l_folded⟩ := c.def_ 29 (d := dd_l_folded) rfl
  obtain ⟨fd_l_same, F_l_same⟩ := c.def_ 30 (d := dd_l_same) rfl
  obtain ⟨fd_l_cut, F_l_cut⟩ := c.def_ 31 (d := dd_l_cut) rfl
  obtain ⟨fd_l_one_right, F_l_one_right⟩ := c.def_ 32 (d := dd_l_one_right) rfl
  obtain ⟨fd_l_two_right, F_l_two_right⟩ := c.def_ 33 (d := dd_l_two_right) rfl
  obtain ⟨fd_l_right, F_l_right⟩ := c.def_ 34 (d := dd_l_right) rfl
  obtain ⟨fd_p_law, F_p_law⟩ := c.def_ 35 (d := dd_p_law) rfl
  have n_abs := He.free_ok X G (c.fact 36 (f := .free "abs") rfl)
  have n_all := He.free_ok X G (c.fact 37 (f := .free "all") rfl)
  have n_bool := He.free_ok X G (c.fact 38 (f := .free "bool") rfl)
  have n_divmod := He.free_ok X G (c.fact 39 (f := .free "divmod") rfl)
  have n_enumerate := He.free_ok X G (c.fact 40 (f := .free "enumerate") rfl)
  have n_int := He.free_ok X G (c.fact 41 (f := .free "int") rfl)
  have n_isinstance := He.free_ok X G (c.fact 42 (f := .free "isinstance") rfl)
  have n_len := He.free_ok X G (c.fact 43 (f := .free "len") rfl)
  have n_list := He.free_ok X G (c.fact 44 (f := .free "list") rfl)
  have n_max := He.free_ok X G (c.fact 45 (f := .free "max") rfl)
  have n_min := He.free_ok X G (c.fact 46 (f := .free "min") rfl)
  have n_range := He.free_ok X G (c.fact 47 (f := .free "range") rfl)
  have n_reversed := He.free_ok X G (c.fact 48 (f := .free "reversed") rfl)
  have n_str := He.free_ok X G (c.fact 49 (f := .free "str") rfl)
  have n_sum := He.free_ok X G (c.fact 50 (f := .free "sum") rfl)
  have n_tuple := He.free_ok X G (c.fact 51 (f := .free "tuple") rfl)
  have n_zip := He.free_ok X G (c.fact 52 (f := .free "zip") rfl)
  obtain ⟨t_FILL, c_FILL⟩ := He.str_ok X G (c.fact 53 rfl)
  obtain ⟨t_EMPTY, c_EMPTY⟩ := He.str_ok X G (c.fact 54 rfl)
  obtain ⟨t_RAISE, c_RAISE⟩ := He.str_ok X G (c.fact 55 rfl)
  have bi_p_rows_at : Binds K fd_p_rows_at ["table", "lines", "pound"] [] := F_p_rows_at.bindsN fun _ _ _ _ _ _ us hl => match us, hl with | [_, _, _], _ => rfl
  have g_p_rows_at := He.glo_ok X G (c.fact 0 (f := .glo "rows_at") rfl)
  have bi_p_lines_of : Binds K fd_p_lines_of ["table", "totals"] [] := F_p_lines_of.bindsN fun _ _ _ _ _ _ us hl => match us, hl with | [_, _], _ => rfl
  have g_p_lines_of := He.glo_ok X G (c.fact 1 (f := .glo "lines_of") rfl)
  have bi_p_begins_waiting : Binds K fd_p_begins_waiting ["rows", "ends", "place"] [] := F_p_begins_waiting.bindsN fun _ _ _ _ _ _ us hl => match us, hl with | [_, _, _], _ => rfl
  have g_p_begins_waiting := He.glo_ok X G (c.fact 2 (f := .glo "begins_waiting") rfl)
  have bi_p_stepped_on : Binds K fd_p_stepped_on ["rows", "begins", "at", "limit", "step"] [] := F_p_stepped_on.bindsN fun _ _ _ _ _ _ us hl => match us, hl with | [_, _, _, _, _], _ => rfl
  have g_p_stepped_on := He.glo_ok X G (c.fact 3 (f := .glo "stepped_on") rfl)
  have bi_p_merged : Binds K fd_p_merged ["row", "lines"] [] := F_p_merged.bindsN fun _ _ _ _ _ _ us hl => match us, hl with | [_, _], _ => rfl
  have g_p_merged := He.glo_ok X G (c.fact 4 (f := .glo "merged") rfl)
  have bi_p_rows_from : Binds K fd_p_rows_from ["first", "lines"] [] := F_p_rows_from.bindsN fun _ _ _ _ _ _ us hl => match us, hl with | [_, _], _ => rfl
  have g_p_rows_from := He.glo_ok X G (c.fact 5 (f := .glo "rows_from") rfl)
  have bi_p_row_at : Binds K fd_p_row_at ["first", "lines"] [] := F_p_row_at.bindsN fun _ _ _ _ _ _ us hl => match us, hl with | [_, _], _ => rfl
  have g_p_row_at := He.glo_ok X G (c.fact 6 (f := .glo "row_at") rfl)
  have bi_p_lowest : Binds K fd_p_lowest ["lines", "many"] [] := F_p_lowest.bindsN fun _ _ _ _ _ _ us hl => match us, hl with | [_, _], _ => rfl
  have g_p_lowest := He.glo_ok X G (c.fact 7 (f := .glo "lowest") rfl)
  have bi_p_bend_of : Binds K fd_p_bend_of ["row", "lines"] [] := F_p_bend_of.bindsN fun _ _ _ _ _ _ us hl => match us, hl with | [_, _], _ => rfl
  have g_p_bend_of := He.glo_ok X G (c.fact 8 (f := .glo "bend_of") rfl)
  have bi_p_change_of : Binds K fd_p_change_of ["stair", "deed"] [] := F_p_change_of.bindsN fun _ _ _ _ _ _ us hl => match us, hl with | [_, _], _ => rfl
  have g_p_change_of := He.glo_ok X G (c.fact 9 (f := .glo "change_of") rfl)
  have bi_p_sums_of : Binds K fd_p_sums_of ["stair", "deeds"] [] := F_p_sums_of.bindsN fun _ _ _ _ _ _ us hl => match us, hl with | [_, _], _ => rfl
  have g_p_sums_of := He.glo_ok X G (c.fact 10 (f := .glo "sums_of") rfl)
  have bi_p_led : Binds K fd_p_led ["table", "totals"] [] := F_p_led.bindsN fun _ _ _ _ _ _ us hl => match us, hl with | [_, _], _ => rfl
  have g_p_led := He.glo_ok X G (c.fact 11 (f := .glo "led") rfl)
  have bi_p_table_of : Binds K fd_p_table_of ["stair", "deeds"] [] := F_p_table_of.bindsN fun _ _ _ _ _ _ us hl => match us, hl with | [_, _], _ => rfl
  have g_p_table_of := He.glo_ok X G (c.fact 12 (f := .glo "table_of") rfl)
  have bi_p_tables_along : Binds K fd_p_tables_along ["stair", "deeds"] [] := F_p_tables_along.bindsN fun _ _ _ _ _ _ us hl => match us, hl with | [_, _], _ => rfl
  have g_p_tables_along := He.glo_ok X G (c.fact 13 (f := .glo "tables_along") rfl)
  have bi_p_brim_table : Binds K fd_p_brim_table ["stair"] [] := F_p_brim_table.bindsN fun _ _ _ _ _ _ us hl => match us, hl with | [_], _ => rfl
  have g_p_brim_table := He.glo_ok X G (c.fact 14 (f := .glo "brim_table") rfl)
  have bi_p_table_behind : Binds K fd_p_table_behind ["stair", "table", "deed"] [] := F_p_table_behind.bindsN fun _ _ _ _ _ _ us hl => match us, hl with | [_, _, _], _ => rfl
  have g_p_table_behind := He.glo_ok X G (c.fact 15 (f := .glo "table_behind") rfl)
  have bi_p_behind : Binds K fd_p_behind ["one", "other"] [] := F_p_behind.bindsN fun _ _ _ _ _ _ us hl => match us, hl with | [_, _], _ => rfl
  have g_p_behind := He.glo_ok X G (c.fact 16 (f := .glo "behind") rfl)
  have bi_p_row_behind : Binds K fd_p_row_behind ["rows", "row"] [] := F_p_row_behind.bindsN fun _ _ _ _ _ _ us hl => match us, hl with | [_, _], _ => rfl
  have g_p_row_behind := He.glo_ok X G (c.fact 17 (f := .glo "row_behind") rfl)
  have bi_p_doubles_of : Binds K fd_p_doubles_of ["table", "most"] [] := F_p_doubles_of.bindsN fun _ _ _ _ _ _ us hl => match us, hl with | [_, _], _ => rfl
  have g_p_doubles_of := He.glo_ok X G (c.fact 18 (f := .glo "doubles_of") rfl)
  have bi_p_doubles_in : Binds K fd_p_doubles_in ["doubles", "many"] [] := F_p_doubles_in.bindsN fun _ _ _ _ _ _ us hl => match us, hl with | [_, _], _ => rfl
  have g_p_doubles_in := He.glo_ok X G (c.fact 19 (f := .glo "doubles_in") rfl)
  have bi_p_led_often : Binds K fd_p_led_often ["doubles", "totals", "many"] [] := F_p_led_often.bindsN fun _ _ _ _ _ _ us hl => match us, hl with | [_, _, _], _ => rfl
  have g_p_led_often := He.glo_ok X G (c.fact 20 (f := .glo "led_often") rfl)
  have bi_p_totals_of : Binds K fd_p_totals_of ["levels"] [] := F_p_totals_of.bindsN fun _ _ _ _ _ _ us hl => match us, hl with | [_], _ => rfl
  have g_p_totals_of := He.glo_ok X G (c.fact 21 (f := .glo "totals_of") rfl)
  have bi_p_levels_of : Binds K fd_p_levels_of ["totals"] [] := F_p_levels_of.bindsN fun _ _ _ _ _ _ us hl => match us, hl with | [_], _ => rfl
  have g_p_levels_of := He.glo_ok X G (c.fact 22 (f := .glo "levels_of") rfl)
  have bi_p_far_levels : Binds K fd_p_far_levels ["stair", "levels", "deeds", "many"] [] := F_p_far_levels.bindsN fun _ _ _ _ _ _ us hl => match us, hl with | [_, _, _, _], _ => rfl
  have g_p_far_levels := He.glo_ok X G (c.fact 23 (f := .glo "far_levels") rfl)
  have bi_p_far_totals : Binds K fd_p_far_totals ["stair", "levels", "deeds", "many"] [] := F_p_far_totals.bindsN fun _ _ _ _ _ _ us hl => match us, hl with | [_, _, _, _], _ => rfl
  have g_p_far_totals := He.glo_ok X G (c.fact 24 (f := .glo "far_totals") rfl)
  have bi_p_ran_over : Binds K fd_p_ran_over ["stair", "levels", "deeds", "many"] [] := F_p_ran_over.bindsN fun _ _ _ _ _ _ us hl => match us, hl with | [_, _, _, _], _ => rfl
  have g_p_ran_over := He.glo_ok X G (c.fact 25 (f := .glo "ran_over") rfl)
  have bi_p_rows_of : Binds K fd_p_rows_of ["stair", "levels", "deeds", "place", "pound"] [] := F_p_rows_of.bindsN fun _ _ _ _ _ _ us hl => match us, hl with | [_, _, _, _, _], _ => rfl
  have g_p_rows_of := He.glo_ok X G (c.fact 26 (f := .glo "rows_of") rfl)
  have bi_l_box : Binds K fd_l_box ["_law_script", "_law_k"] [] := F_l_box.bindsN fun _ _ _ _ _ _ us hl => match us, hl with | [_, _], _ => rfl
  have g_l_box := He.glo_ok X G (c.fact 27 (f := .glo "_law_box") rfl)
  have bi_l_take : Binds K fd_l_take ["_law_box_here", "_law_size"] [] := F_l_take.bindsN fun _ _ _ _ _ _ us hl => match us, hl with | [_, _], _ => rfl
  have g_l_take := He.glo_ok X G (c.fact 28 (f := .glo "_law_take") rfl)
  have bi_l_folded : Binds K fd_l_folded ["_law_script", "_law_size"] [] := F_l_folded.bindsN fun _ _ _ _ _ _ us hl => match us, hl with | [_, _], _ => rfl
  have g_l_folded := He.glo_ok X G (c.fact 29 (f := .glo "_law_folded") rfl)
  have bi_l_same : Binds K fd_l_same ["_law_found", "_law_due"] [] := F_l_same.bindsN fun _ _ _ _ _ _ us hl => match us, hl with | [_, _], _ => rfl
  have g_l_same := He.glo_ok X G (c.fact 30 (f := .glo "_law_same") rfl)
  have bi_l_cut : Binds K fd_l_cut ["_law_first", "_law_step", "_law_begin", "_law_top"] [] := F_l_cut.bindsN fun _ _ _ _ _ _ us hl => match us, hl with | [_, _, _, _], _ => rfl
  have g_l_cut := He.glo_ok X G (c.fact 31 (f := .glo "_law_cut") rfl)
  have bi_l_one_right : Binds K fd_l_one_right ["_law_box_here"] [] := F_l_one_right.bindsN fun _ _ _ _ _ _ us hl => match us, hl with | [_], _ => rfl
  have g_l_one_right := He.glo_ok X G (c.fact 32 (f := .glo "_law_one_right") rfl)
  have bi_l_two_right : Binds K fd_l_two_right ["_law_box_here"] [] := F_l_two_right.bindsN fun _ _ _ _ _ _ us hl => match us, hl with | [_], _ => rfl
  have g_l_two_right := He.glo_ok X G (c.fact 33 (f := .glo "_law_two_right") rfl)
  have bi_l_right : Binds K fd_l_right ["_law_box_here"] [] := F_l_right.bindsN fun _ _ _ _ _ _ us hl => match us, hl with | [_], _ => rfl
  have g_l_right := He.glo_ok X G (c.fact 34 (f := .glo "_law_right") rfl)
  have bi_p_law : Binds K fd_p_law ["_law_script"] [] := F_p_law.bindsN fun _ _ _ _ _ _ us hl => match us, hl with | [_], _ => rfl
  have g_p_law := He.glo_ok X G (c.fact 35 (f := .glo "law") rfl)
  have e := hfa.symm.trans g_p_law
  cases e
  refine ⟨fd_p_law, fun s v => F_p_law.bindsA (ps := ["_law_script"]) (fun _ _ _ _ _ _ us hl => match us, hl with | [_], _ => rfl) s [v] rfl, fun base _ _ => ?_⟩
  have f_p_stepped_on : Fo P w K mg base "stepped_on" ["rows", "begins", "at", "limit", "step"] m_p_stepped_on 1 := FunD.mkG F_p_stepped_on sc_p_stepped_on (b_p_stepped_on n_range) g_p_stepped_on bi_p_stepped_on
  have f_p_merged : Fo P w K mg base "merged" ["row", "lines"] m_p_merged 1 := FunD.mkG F_p_merged sc_p_merged (b_p_merged n_list n_min n_zip) g_p_merged bi_p_merged
  have f_p_lowest : Fo P w K mg base "lowest" ["lines", "many"] m_p_lowest 1 := FunD.mkG F_p_lowest sc_p_lowest (b_p_lowest n_min) g_p_lowest bi_p_lowest
  have f_p_bend_of : Fo P w K mg base "bend_of" ["row", "lines"] m_p_bend_of 1 := FunD.mkG F_p_bend_of sc_p_bend_of (b_p_bend_of n_min) g_p_bend_of bi_p_bend_of
  have f_p_change_of : Fo P w K mg base "change_of" ["stair", "deed"] m_p_change_of 1 := FunD.mkG F_p_change_of sc_p_change_of (b_p_change_of c_FILL c_EMPTY c_RAISE) g_p_change_of bi_p_change_of
  have f_p_led : Fo P w K mg base "led" ["table", "totals"] m_p_led 1 := FunD.mkG F_p_led sc_p_led (b_p_led n_enumerate n_min n_tuple n_zip) g_p_led bi_p_led
  have f_p_brim_table : Fo P w K mg base "brim_table" ["stair"] m_p_brim_table 1 := FunD.mkG F_p_brim_table sc_p_brim_table (b_p_brim_table n_tuple) g_p_brim_table bi_p_brim_table
  have f_p_row_behind : Fo P w K mg base "row_behind" ["rows", "row"] m_p_row_behind 1 := FunD.mkG F_p_row_behind sc_p_row_behind (b_p_row_behind n_len n_min n_range n_tuple) g_p_row_behind bi_p_row_behind
  have f_p_doubles_in : Fo P w K mg base "doubles_in" ["doubles", "many"] m_p_doubles_in 1 := FunD.mkG F_p_doubles_in sc_p_doubles_in (b_p_doubles_in n_enumerate) g_p_doubles_in bi_p_doubles_in
  have f_p_totals_of : Fo P w K mg base "totals_of" ["levels"] m_p_totals_of 1 := FunD.mkG F_p_totals_of sc_p_totals_of (b_p_totals_of n_tuple) g_p_totals_of bi_p_totals_of
  have f_p_levels_of : Fo P w K mg base "levels_of" ["totals"] m_p_levels_of 1 := FunD.mkG F_p_levels_of sc_p_levels_of (b_p_levels_of n_tuple n_zip) g_p_levels_of bi_p_levels_of
  have f_l_box : Fo P w K mg base "_law_box" ["_law_script", "_law_k"] m_l_box 1 := FunD.mkG F_l_box sc_l_box (b_l_box n_abs n_int n_len) g_l_box bi_l_box
  have f_l_folded : Fo P w K mg base "_law_folded" ["_law_script", "_law_size"] m_l_folded 1 := FunD.mkG F_l_folded sc_l_folded (b_l_folded n_enumerate n_list) g_l_folded bi_l_folded
  have f_l_cut : Fo P w K mg base "_law_cut" ["_law_first", "_law_step", "_law_begin", "_law_top"] m_l_cut 1 := FunD.mkG F_l_cut sc_l_cut (b_l_cut n_int n_max) g_l_cut bi_l_cut
  have f_p_begins_waiting : Fo P w K mg base "begins_waiting" ["rows", "ends", "place"] m_p_begins_waiting 2 := FunD.mkG F_p_begins_waiting sc_p_begins_waiting (b_p_begins_waiting n_len n_list n_min n_range n_reversed f_p_stepped_on) g_p_begins_waiting bi_p_begins_waiting
  have f_p_row_at : Fo P w K mg base "row_at" ["first", "lines"] m_p_row_at 2 := FunD.mkG F_p_row_at sc_p_row_at (b_p_row_at f_p_lowest) g_p_row_at bi_p_row_at
  have f_p_sums_of : Fo P w K mg base "sums_of" ["stair", "deeds"] m_p_sums_of 2 := FunD.mkG F_p_sums_of sc_p_sums_of (b_p_sums_of n_len n_range n_sum n_tuple f_p_change_of) g_p_sums_of bi_p_sums_of
  have f_p_table_behind : Fo P w K mg base "table_behind" ["stair", "table", "deed"] m_p_table_behind 2 := FunD.mkG F_p_table_behind sc_p_table_behind (b_p_table_behind n_len n_min n_range n_reversed n_tuple n_zip f_p_change_of) g_p_table_behind bi_p_table_behind
  have f_p_behind : Fo P w K mg base "behind" ["one", "other"] m_p_behind 2 := FunD.mkG F_p_behind sc_p_behind (b_p_behind n_enumerate n_tuple f_p_row_behind) g_p_behind bi_p_behind
  have f_p_led_often : Fo P w K mg base "led_often" ["doubles", "totals", "many"] m_p_led_often 2 := FunD.mkG F_p_led_often sc_p_led_often (b_p_led_often n_tuple f_p_led f_p_doubles_in) g_p_led_often bi_p_led_often
  have f_p_lines_of : Fo P w K mg base "lines_of" ["table", "totals"] m_p_lines_of 3 := FunD.mkG F_p_lines_of sc_p_lines_of (b_p_lines_of n_enumerate f_p_begins_waiting) g_p_lines_of bi_p_lines_of
  have f_p_rows_from : Fo P w K mg base "rows_from" ["first", "lines"] m_p_rows_from 3 := FunD.mkG F_p_rows_from sc_p_rows_from (b_p_rows_from f_p_row_at f_p_bend_of) g_p_rows_from bi_p_rows_from
  have f_p_tables_along : Fo P w K mg base "tables_along" ["stair", "deeds"] m_p_tables_along 3 := FunD.mkG F_p_tables_along sc_p_tables_along (b_p_tables_along f_p_brim_table f_p_table_behind) g_p_tables_along bi_p_tables_along
  have f_p_doubles_of : Fo P w K mg base "doubles_of" ["table", "most"] m_p_doubles_of 3 := FunD.mkG F_p_doubles_of sc_p_doubles_of (b_p_doubles_of n_range n_tuple f_p_behind) g_p_doubles_of bi_p_doubles_of
  have f_p_rows_at : Fo P w K mg base "rows_at" ["table", "lines", "pound"] m_p_rows_at 4 := FunD.mkG F_p_rows_at sc_p_rows_at (b_p_rows_at n_len f_p_merged f_p_rows_from) g_p_rows_at bi_p_rows_at
  have f_p_table_of : Fo P w K mg base "table_of" ["stair", "deeds"] m_p_table_of 4 := FunD.mkG F_p_table_of sc_p_table_of (b_p_table_of f_p_tables_along) g_p_table_of bi_p_table_of
  have f_l_take : ∀ n : Nat, Fo P w K mg base "_law_take" ["_law_box_here", "_law_size"] (m_l_take n) (0 + n) := by
    intro n
    induction n with
    | zero => exact fo_none g_l_take F_l_take.kp bi_l_take
    | succ n ih => exact FunD.mkG F_l_take sc_l_take (b_l_take n_divmod ih) g_l_take bi_l_take
  replace f_l_take := f_l_take 4
  have f_p_far_totals : Fo P w K mg base "far_totals" ["stair", "levels", "deeds", "many"] m_p_far_totals 5 := FunD.mkG F_p_far_totals sc_p_far_totals (b_p_far_totals f_p_table_of f_p_doubles_of f_p_led_often f_p_totals_of) g_p_far_totals bi_p_far_totals
  have f_p_rows_of : Fo P w K mg base "rows_of" ["stair", "levels", "deeds", "place", "pound"] m_p_rows_of 5 := FunD.mkG F_p_rows_of sc_p_rows_of (b_p_rows_of f_p_rows_at f_p_lines_of f_p_table_of f_p_totals_of) g_p_rows_of bi_p_rows_of
  have f_p_far_levels : Fo P w K mg base "far_levels" ["stair", "levels", "deeds", "many"] m_p_far_levels 6 := FunD.mkG F_p_far_levels sc_p_far_levels (b_p_far_levels f_p_levels_of f_p_far_totals) g_p_far_levels bi_p_far_levels
  have f_p_ran_over : Fo P w K mg base "ran_over" ["stair", "levels", "deeds", "many"] m_p_ran_over 6 := FunD.mkG F_p_ran_over sc_p_ran_over (b_p_ran_over n_tuple n_zip f_p_sums_of f_p_totals_of f_p_far_totals) g_p_ran_over bi_p_ran_over
  have f_l_two_right : Fo P w K mg base "_law_two_right" ["_law_box_here"] m_l_two_right 6 := FunD.mkG F_l_two_right sc_l_two_right (b_l_two_right n_int n_len f_p_rows_of f_l_take) g_l_two_right bi_l_two_right
  have f_l_one_right : Fo P w K mg base "_law_one_right" ["_law_box_here"] m_l_one_right 7 := FunD.mkG F_l_one_right sc_l_one_right (b_l_one_right n_max n_min f_p_far_levels f_p_ran_over f_p_rows_of f_l_take f_l_cut) g_l_one_right bi_l_one_right
  have f_l_right : Fo P w K mg base "_law_right" ["_law_box_here"] m_l_right 8 := FunD.mkG F_l_right sc_l_right (b_l_right f_l_one_right f_l_two_right) g_l_right bi_l_right
  have f_l_same : ∀ n : Nat, Fo P w K mg base "_law_same" ["_law_found", "_law_due"] (m_l_same n) (0 + n) := by
    intro n
    induction n with
    | zero => exact fo_none g_l_same F_l_same.kp bi_l_same
    | succ n ih => exact FunD.mkG F_l_same sc_l_same (b_l_same n_all n_bool n_int n_isinstance n_len n_list n_str n_tuple n_zip ih) g_l_same bi_l_same
  replace f_l_same := f_l_same 10
  exact FunD.mkFn F_p_law sc_p_law (b_p_law n_all n_len n_max n_range f_l_box f_l_folded f_l_right)
end K18
open PySem PySem.W PySem.Calls PyProof.Rows
set_option maxRecDepth 100000 in
set_option maxHeartbeats 0 in
theorem PySem.Challenge.cw_liftwater_k18_known_rows_holds : PySem.Challenge.rw_liftwater_k18_known_rows.Holds := by
  w_on; o_law
  refine HandSHeadRun.head_any (r := OpenLaw.row PySem.Challenge.rw_liftwater_k18_known_rows) (q := view (OpenLaw.row PySem.Challenge.rw_liftwater_k18_known_rows).prog [45]) (H := K18h.hk) (ob := K18h.ob) (M := 4000) (loose := K18h.loose) (d := HandSHeadRun.topDef (OpenLaw.row PySem.Challenge.rw_liftwater_k18_known_rows).prog 45) (kwd := []) K18h.ob_eq
    (by kernel_rfl) (fun s => by kernel_rfl) K18h.run (by kernel_rfl) (by kernel_rfl) (by kernel_rfl) (by rfl) (by first | assumption | decide +kernel) (by decide +kernel) ⟨rfl, rfl, rfl, rfl, rfl, by decide +kernel⟩ ?hw ?hc
  case hw => w_witness2
  case hc =>
    refine Lw.walk_GE (l := PySem.Challenge.rw_liftwater_k18_known_rows) (n := 63) (k := 9) (x := "_law_script") rfl (by decide) (by kernel_rfl) ⟨rfl, by decide, by decide⟩ ?F
    intro w mg fa h Y G hmg0
    obtain ⟨K, KX, c⟩ := Y
    have hmg : mg ("law" : PySem.Str) = some (.ref fa) := by
      have e : (HandSHeadRun.topDef (OpenLaw.row PySem.Challenge.rw_liftwater_k18_known_rows).prog 45).name = ("law" : PySem.Str) := by kernel_rfl
      rw [← e]
      exact hmg0
    obtain ⟨fd, hb, hF⟩ := K18.facts (P := (PySem.Challenge.rw_liftwater_k18_known_rows).prog) (w := w) KX G hmg c
    exact ⟨K, fd, _, KX, hb, fun H a ns hl hbits hS => Lw.law_sp (K18.sem_law ns hl hbits) hS, hF⟩
