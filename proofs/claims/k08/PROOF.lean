import PyProof.Rows.All
import HandS.ForMost
import HandS.ForExc
import HandS.IsInst
import HandS.WideBits
import HandS.TupAny
import HandS.TupMul
import HandS.Zip
import HandS.Rev
import HandS.Style
import HandS.Flow
import HandS.Conv
import HandS.EndBits
import PyProof.Rows.IntBool
import PyProof.ReprRoads
import HandS.TryOnly
import HandS.RevRange
import HandS.Head0
import HandS.More
import HandS.Head1
import HandS.Head2
import HandS.HeadEnd
import HandS.HeadHook1
import HandS.HeadHook2
import HandS.Defaults
import KE.GoesNew
import KE.DataMinMax
import KE.KTupSum
import KE.KRevSl
import HandS.Star
import KE.KDictZip
import HandS.TupLe
import KE.DataFind
import HandS.SortKw
import HandS.Small
import HandS.ListItems
import HandS.Strs
import HandS.SetFor
import HandS.ExcInit
import HandS.ExcField
import KE.KExcInit
import KE.KTryMore
import KE.KExcIs
import HandS.Sort
import PyProof.RangeIter
import PyProof.SumAny
import PyProof.ReprLen
import KE.DatumOrd
import PySem.Challenge.RW_liftwater_k08_known_deeds
set_option Elab.async false
set_option linter.all false
set_option maxRecDepth 100000
set_option maxHeartbeats 4000000
namespace Lw
open PySem PySem.Spec PyProof.Rows L2
/-! ### what a head is asked: defs, facts, and closed looks of one's own -/
def nmA0 (K : PySem.W.Frag) (nm : Str) : Addr := match PySem.W.nsIn K mainGlobals nm with
  | some (some (.ref a)) => a
  | _ => 0
def isB0 (K : PySem.W.Frag) (cls c : Value) : Bool := PySem.W.exmOne K cls c == some true
def iniA (K : PySem.W.Frag) (nm : Str) : Addr := He.fAd K (nm, some "__init__")
def xcB (nm : Str) (bmB : List Value) (newId : String) (K : PySem.W.Frag) : Bool :=
  let C := nmA0 K nm
  PySem.W.excInitIn K C bmB newId && (PySem.W.excOver K C bmB && (decide (PySem.W.findIn K (.ref C) "__setattr__" = some (some (.builtin "object.__setattr__"))) && (decide (PySem.W.takerIn K C "what" = some none) && (PySem.W.hasDictIn K C && (decide (PySem.W.findIn K (.ref C) "__init__" = some (some (.ref (iniA K nm)))) &&
    (decide (PySem.W.typeIn K (.ref (iniA K nm)) = some (.type "function")) && (decide (PySem.W.subIn K (.ref C) (.type "BaseException") = some true) && (decide (PySem.W.typeIn K (.ref C) = some (.type "type")) && PySem.W.keepIn K (.ref C)))))))))
def xiB (nm : Str) (K : PySem.W.Frag) : Bool :=
  let C := nmA0 K nm
  xfB K C && (decide (PySem.W.findIn K (.ref C) "what" = some none) && ((PySem.W.clsIn K C).isSome && (decide (PySem.W.findIn K (.ref C) "__class__" = some (some (.builtin "object.__class__"))) &&
    (decide (PySem.W.specialIn K (.builtin "object.__class__") "__get__" = some (some (.builtin "getset_descriptor.__get__"))) && (decide (PySem.W.takesIn K (.builtin "object.__class__") = some true) && decide (PySem.W.mroIn K C (.type "object") = some true))))))
inductive Cn where
  | own (nm : Str)
  | ty (n : String)
def Cn.u (K : PySem.W.Frag) : Cn → Value
  | .own nm => .ref (nmA0 K nm)
  | .ty n => .type n
def Cn.v (K : PySem.W.Frag) : Cn → V
  | .own nm => .ref (nmA0 K nm)
  | .ty n => .ty n
def hmB (nms : List Str) (cs : List Cn) (K : PySem.W.Frag) : Bool := nms.all fun nm => ((cs.map fun c => c.u K).all fun c => (PySem.W.exmOne K (.ref (nmA0 K nm)) c).isSome) && (cs.map fun c => c.u K).any (isB0 K (.ref (nmA0 K nm)))
def xisB (nms : List Str) (K : PySem.W.Frag) : Bool := nms.all fun nm => xiB nm K
def obsX (fa : List He.Fa) (fn : List He.DefD) (xs : List (PySem.W.Frag → Bool)) (K : PySem.W.Frag) : He.AlD := ((He.obsD fa fn K).1 && xs.all fun f => f K, (He.obsD fa fn K).2)
def SaysX (fa : List He.Fa) (fn : List He.DefD) (xs : List (PySem.W.Frag → Bool)) (K : PySem.W.Frag) : Prop := obsX fa fn xs K = He.valD fn
def obsXG (n : Nat) (fa : List He.Fa) (fn : List He.DefD) (xs : List (PySem.W.Frag → Bool)) (g : Addr → Option Obj) : He.AlD := obsX fa fn xs (He.frG g (He.asD g n))
def hookX (n : Nat) (fa : List He.Fa) (fn : List He.DefD) (xs : List (PySem.W.Frag → Bool)) : PySem.W.Hook where
  α := He.AlD
  obs := fun s => obsXG n fa fn xs s.heap.get?
  val := fun _ => He.valD fn
  says := fun _ h => ∃ K : PySem.W.Frag, K.In h ∧ SaysX fa fn xs K
  of := fun _ _ e => ⟨_, He.frG_in, e⟩
  keeps := fun _ _ _ ⟨K, hK, c⟩ k => ⟨K, PySem.W.Frag.In.keeps hK k, c⟩
theorem obsXG_eq {n : Nat} {fa : List He.Fa} {fn : List He.DefD} {xs : List (PySem.W.Frag → Bool)} {g : Addr → Option Obj} {s : Shared} (h : ∀ a, g a = s.heap.get? a) : obsXG n fa fn xs g = (hookX n fa fn xs).obs s := by
  have e : g = s.heap.get? := funext h
  subst e
  rfl
end Lw
namespace K08
open PySem PySem.Spec PyProof.Rows L2
def topS (i : Nat) : Stmt := PySem.Challenge.pw_liftwater_k08_known_deeds.main.body.getD i (.Pass ⟨0, 0, 0, 0⟩)
abbrev s_p_fault_of : Stmt := topS 11
abbrev s_p_done : Stmt := topS 12
abbrev s_p_gone : Stmt := topS 13
abbrev s_p_is_shut : Stmt := topS 14
abbrev s_p_is_dry : Stmt := topS 15
abbrev s_p_asked_by : Stmt := topS 16
abbrev s_p_change_of : Stmt := topS 17
abbrev s_p_levels_behind : Stmt := topS 18
abbrev s_p_run_over : Stmt := topS 19
abbrev s_p_chambers_behind : Stmt := topS 20
abbrev s_p_refuse : Stmt := topS 21
abbrev s_l_box : Stmt := topS 23
abbrev s_l_take : Stmt := topS 24
abbrev s_l_folded : Stmt := topS 25
abbrev s_l_cells : Stmt := topS 26
abbrev s_l_of : Stmt := topS 27
abbrev s_l_same : Stmt := topS 28
abbrev s_l_refused : Stmt := topS 29
abbrev s_l_thaw_right : Stmt := topS 30
abbrev s_l_bounds_right : Stmt := topS 31
abbrev s_l_lift_right : Stmt := topS 32
abbrev s_p_law : Stmt := topS 33
end K08
namespace K08h
open PySem PySem.Spec PyProof.Rows L2 Lw K08
def dd_p_fault_of : He.DefD := ⟨("fault_of", none), "fault_of", "fault_of", defArgs s_p_fault_of, defBody s_p_fault_of, defScope s_p_fault_of, [], []⟩
def dd_p_done : He.DefD := ⟨("done", none), "done", "done", defArgs s_p_done, defBody s_p_done, defScope s_p_done, [], []⟩
def dd_p_gone : He.DefD := ⟨("gone", none), "gone", "gone", defArgs s_p_gone, defBody s_p_gone, defScope s_p_gone, [], []⟩
def dd_p_is_shut : He.DefD := ⟨("is_shut", none), "is_shut", "is_shut", defArgs s_p_is_shut, defBody s_p_is_shut, defScope s_p_is_shut, [], []⟩
def dd_p_is_dry : He.DefD := ⟨("is_dry", none), "is_dry", "is_dry", defArgs s_p_is_dry, defBody s_p_is_dry, defScope s_p_is_dry, [], []⟩
def dd_p_asked_by : He.DefD := ⟨("asked_by", none), "asked_by", "asked_by", defArgs s_p_asked_by, defBody s_p_asked_by, defScope s_p_asked_by, [], []⟩
def dd_p_change_of : He.DefD := ⟨("change_of", none), "change_of", "change_of", defArgs s_p_change_of, defBody s_p_change_of, defScope s_p_change_of, [], []⟩
def dd_p_levels_behind : He.DefD := ⟨("levels_behind", none), "levels_behind", "levels_behind", defArgs s_p_levels_behind, defBody s_p_levels_behind, defScope s_p_levels_behind, [], []⟩
def dd_p_run_over : He.DefD := ⟨("run_over", none), "run_over", "run_over", defArgs s_p_run_over, defBody s_p_run_over, defScope s_p_run_over, [], []⟩
def dd_p_chambers_behind : He.DefD := ⟨("chambers_behind", none), "chambers_behind", "chambers_behind", defArgs s_p_chambers_behind, defBody s_p_chambers_behind, defScope s_p_chambers_behind, [], []⟩
def dd_p_refuse : He.DefD := ⟨("refuse", none), "refuse", "refuse", defArgs s_p_refuse, defBody s_p_refuse, defScope s_p_refuse, [], []⟩
def dd_l_box : He.DefD := ⟨("_law_box", none), "_law_box", "_law_box", defArgs s_l_box, defBody s_l_box, defScope s_l_box, [], []⟩
def dd_l_take : He.DefD := ⟨("_law_take", none), "_law_take", "_law_take", defArgs s_l_take, defBody s_l_take, defScope s_l_take, [], []⟩
def dd_l_folded : He.DefD := ⟨("_law_folded", none), "_law_folded", "_law_folded", defArgs s_l_folded, defBody s_l_folded, defScope s_l_folded, [], []⟩
def dd_l_cells : He.DefD := ⟨("_law_cells", none), "_law_cells", "_law_cells", defArgs s_l_cells, defBody s_l_cells, defScope s_l_cells, [], []⟩
def dd_l_of : He.DefD := ⟨("_law_of", none), "_law_of", "_law_of", defArgs s_l_of, defBody s_l_of, defScope s_l_of, [], []⟩
def dd_l_same : He.DefD := ⟨("_law_same", none), "_law_same", "_law_same", defArgs s_l_same, defBody s_l_same, defScope s_l_same, [], []⟩
def dd_l_refused : He.DefD := ⟨("_law_refused", none), "_law_refused", "_law_refused", defArgs s_l_refused, defBody s_l_refused, defScope s_l_refused, [], []⟩
def dd_l_thaw_right : He.DefD := ⟨("_law_thaw_right", none), "_law_thaw_right", "_law_thaw_right", defArgs s_l_thaw_right, defBody s_l_thaw_right, defScope s_l_thaw_right, [], []⟩
def dd_l_bounds_right : He.DefD := ⟨("_law_bounds_right", none), "_law_bounds_right", "_law_bounds_right", defArgs s_l_bounds_right, defBody s_l_bounds_right, defScope s_l_bounds_right, [], []⟩
def dd_l_lift_right : He.DefD := ⟨("_law_lift_right", none), "_law_lift_right", "_law_lift_right", defArgs s_l_lift_right, defBody s_l_lift_right, defScope s_l_lift_right, [], []⟩
def dd_p_law : He.DefD := ⟨("law", none), "law", "law", defArgs s_p_law, defBody s_p_law, defScope s_p_law, [], []⟩
def inS (i : Nat) : Stmt := match topS i with
  | .ClassDef (body := b) .. => b.getD 0 (.Pass ⟨0, 0, 0, 0⟩)
  | _ => .Pass ⟨0, 0, 0, 0⟩
abbrev i_Dry : Stmt := inS 2
theorem sc_i_Dry : FnScope ["self", "what"] ["self", "what"] (defScope i_Dry) := ⟨rfl, rfl, rfl, by decide +kernel, rfl, by decide +kernel, by decide +kernel⟩
def dd_c_Dry : He.DefD := ⟨("Dry", some "__init__"), "__init__", "Dry.__init__", defArgs i_Dry, defBody i_Dry, defScope i_Dry, [], []⟩
abbrev i_Shut : Stmt := inS 1
theorem sc_i_Shut : FnScope ["self", "what"] ["self", "what"] (defScope i_Shut) := ⟨rfl, rfl, rfl, by decide +kernel, rfl, by decide +kernel, by decide +kernel⟩
def dd_c_Shut : He.DefD := ⟨("Shut", some "__init__"), "__init__", "Shut.__init__", defArgs i_Shut, defBody i_Shut, defScope i_Shut, [], []⟩
def fn : List He.DefD := [dd_p_fault_of, dd_p_done, dd_p_gone, dd_p_is_shut, dd_p_is_dry, dd_p_asked_by, dd_p_change_of, dd_p_levels_behind, dd_p_run_over, dd_p_chambers_behind, dd_p_refuse, dd_l_box, dd_l_take, dd_l_folded, dd_l_cells, dd_l_of, dd_l_same, dd_l_refused, dd_l_thaw_right, dd_l_bounds_right, dd_l_lift_right, dd_p_law, dd_c_Dry, dd_c_Shut]
def xs : List (PySem.W.Frag → Bool) := [xcB "Dry" [.type "ArithmeticError", .type "Exception", .type "BaseException", .type "object"] "ArithmeticError.__new__", xcB "Shut" [.type "RuntimeError", .type "Exception", .type "BaseException", .type "object"] "RuntimeError.__new__", hmB ["Dry", "Shut"] [.own "Dry", .own "Shut"], xisB ["Dry", "Shut"]]
def fa : List He.Fa := [.glo "fault_of", .glo "done", .glo "gone", .glo "is_shut", .glo "is_dry", .glo "asked_by", .glo "change_of", .glo "levels_behind", .glo "run_over", .glo "chambers_behind", .glo "refuse", .glo "_law_box", .glo "_law_take", .glo "_law_folded", .glo "_law_cells", .glo "_law_of", .glo "_law_same", .glo "_law_refused", .glo "_law_thaw_right", .glo "_law_bounds_right", .glo "_law_lift_right", .glo "law", .free "abs", .free "all", .free "bool", .free "divmod", .free "enumerate", .free "int", .free "isinstance", .free "len", .free "list", .free "max", .free "range", .free "reversed", .free "str", .free "sum", .free "tuple", .free "zip", .glo "Dry", .glo "Shut", .str "LOW" "low", .str "HIGH" "high", .str "FILL" "fill", .str "EMPTY" "empty", .str "RAISE" "raise", .str "SHUT" "shut", .str "DRY" "dry"]
abbrev R : PySem.W.OpenRow := PySem.W.OpenLaw.row PySem.Challenge.rw_liftwater_k08_known_deeds
abbrev hk : PySem.W.Hook := Lw.hookX 4 fa fn xs
def ob (s : PySem.W.SharedT) : He.AlD := Lw.obsXG 4 fa fn xs (HandSHeadRun.getT s)
theorem ob_eq (s : PySem.W.SharedT) : ob s = hk.obs s.abs := Lw.obsXG_eq (HandSHeadRun.getT_eq s)
def loose : List Str := (["Shut", "Dry", "LOW", "HIGH", "FILL", "EMPTY", "RAISE", "SHUT", "DRY", "fault_of", "done", "gone", "is_shut", "is_dry", "asked_by", "change_of", "levels_behind", "run_over", "chambers_behind", "refuse", "_law_box", "_law_take", "_law_folded", "_law_cells", "_law_of", "_law_same", "_law_refused", "_law_thaw_right", "_law_bounds_right", "_law_lift_right"] : List Str)
set_option maxHeartbeats 0 in
theorem run (w : World) : HandSHeadRun.RunEq R (PySem.W.view R.prog [33]) hk ob 4000 loose w := by
  intro os
  kernel_rfl
end K08h
namespace Lw
open PySem PySem.Spec PyProof.Rows L2
/-! ### data -/
abbrev D := PyData
theorem same_seqT {K : PySem.W.Frag} {H H' : Hp} {a : Addr} {xs : List V} (e : Same H H') (h : SqT K H a xs) : SqT K H' a xs := by
  rcases h with (h | ⟨o, h⟩) | h
  · exact .inl (.inl (e _ _ h))
  · exact .inl (.inr ⟨o, e _ _ h⟩)
  · exact .inr h
theorem rd_same {H H' : Hp} {a : Addr} {u : HO} (e : Same H H') (h : Rd H a u) : Rd H' a u := by
  rcases h with h | ⟨o, h⟩
  · exact .inl (e _ _ h)
  · exact .inr ⟨o, e _ _ h⟩
def keyD : L2.Key → D
  | .inl i => .int i
  | .inr s => .str s
/-! data laid out: as the library has it, and dicts, ahead of whose content stands which kind their keys are of -/
mutual
inductive Dp (K : PySem.W.Frag) (H : Hp) : V → PyData → Prop
  | non : Dp K H .non .none
  | bl (b : Bool) : Dp K H (.bl b) (.bool b)
  | int (i : Int) : Dp K H (.int i) (.int i)
  | str (x : Str) : Dp K H (.str x) (.str x)
  | lst {a : Addr} {xs : List V} {ds : List PyData} : SqL K H a xs → DpAll K H xs ds → Dp K H (.ref a) (.list ds)
  | tup {a : Addr} {xs : List V} {ds : List PyData} : SqT K H a xs → DpAll K H xs ds → Dp K H (.ref a) (.tuple ds)
  | dcK {a : Addr} {es : List (L2.Key × V)} {ks : List (PyData × PyData)} : Rd H a (.dK es) → DpKv K H (es.map fun e => (keyD e.1, e.2)) ks → Dp K H (.ref a) (.dict ((.bool false, .none) :: ks))
  | dcT {a : Addr} {es : List (List L2.Key × V)} {ks : List (PyData × PyData)} : H a = some (.dT es) → DpKv K H (es.map fun e => (PyData.tuple (e.1.map keyD), e.2)) ks → Dp K H (.ref a) (.dict ((.bool true, .none) :: ks))
inductive DpAll (K : PySem.W.Frag) (H : Hp) : List V → List PyData → Prop
  | nil : DpAll K H [] []
  | cons {v : V} {vs : List V} {d : PyData} {ds : List PyData} : Dp K H v d → DpAll K H vs ds → DpAll K H (v :: vs) (d :: ds)
inductive DpKv (K : PySem.W.Frag) (H : Hp) : List (PyData × V) → List (PyData × PyData) → Prop
  | nil : DpKv K H [] []
  | cons {k : PyData} {v : V} {vs : List (PyData × V)} {d : PyData} {ks : List (PyData × PyData)} : Dp K H v d → DpKv K H vs ks → DpKv K H ((k, v) :: vs) ((k, d) :: ks)
end
section
variable {K : PySem.W.Frag} {H H' : Hp}
mutual
theorem dp_same (e : Same H H') : ∀ {v : V} {d : D}, Dp K H v d → Dp K H' v d
  | _, _, .non => .non
  | _, _, .bl b => .bl b
  | _, _, .int i => .int i
  | _, _, .str x => .str x
  | _, _, .lst h hs => .lst (e.seq h) (dpa_same e hs)
  | _, _, .tup h hs => .tup (same_seqT e h) (dpa_same e hs)
  | _, _, .dcK h hs => .dcK (rd_same e h) (dkv_same e hs)
  | _, _, .dcT h hs => .dcT (e _ _ h) (dkv_same e hs)
theorem dpa_same (e : Same H H') : ∀ {vs : List V} {ds : List D}, DpAll K H vs ds → DpAll K H' vs ds
  | _, _, .nil => .nil
  | _, _, .cons h hs => .cons (dp_same e h) (dpa_same e hs)
theorem dkv_same (e : Same H H') : ∀ {vs : List (D × V)} {ks : List (D × D)}, DpKv K H vs ks → DpKv K H' vs ks
  | _, _, .nil => .nil
  | _, _, .cons h hs => .cons (dp_same e h) (dkv_same e hs)
end
mutual
theorem dp_lib : ∀ {v : V} {d : D}, Dp K H v d → PyData.hasDict d = false → L2.Dp K H v d
  | _, _, .non, _ => .non
  | _, _, .bl b, _ => .bl b
  | _, _, .int i, _ => .int i
  | _, _, .str x, _ => .str x
  | _, _, .lst h hs, e => .lst h (dpa_lib hs (by simpa [PyData.hasDict] using e))
  | _, _, .tup h hs, e => .tup h (dpa_lib hs (by simpa [PyData.hasDict] using e))
  | _, _, .dcK h hs, e => by simp [PyData.hasDict] at e
  | _, _, .dcT h hs, e => by simp [PyData.hasDict] at e
theorem dpa_lib : ∀ {vs : List V} {ds : List D}, DpAll K H vs ds → PyData.hasDictAll ds = false → L2.DpAll K H vs ds
  | _, _, .nil, _ => .nil
  | _, _, .cons h hs, e => by
    simp only [PyData.hasDictAll, Bool.or_eq_false_iff] at e
    exact .cons (dp_lib h e.1) (dpa_lib hs e.2)
end
theorem nd_shaped {d : D} (h : SeqAt.shaped d = true) : PyData.hasDict d = false := PyData.hasDict_of_canLay d (SeqAt.canLay_of_shaped h)
theorem dpa_len : ∀ {vs : List V} {ds : List D}, DpAll K H vs ds → vs.length = ds.length
  | _, _, .nil => rfl
  | _, _, .cons _ hs => by rw [List.length_cons, List.length_cons, dpa_len hs]
theorem dpa_app : ∀ {vs ws : List V} {ds es : List D}, DpAll K H vs ds → DpAll K H ws es → DpAll K H (vs ++ ws) (ds ++ es)
  | _, _, _, _, .nil, k => k
  | _, _, _, _, .cons h hs, k => .cons h (dpa_app hs k)
theorem dpa_get : ∀ {vs : List V} {ds : List D} {i : Nat} {d : D}, DpAll K H vs ds → ds[i]? = some d → ∃ v, vs[i]? = some v ∧ Dp K H v d
  | _, _, _, _, .nil, e => by simp at e
  | _, _, 0, _, .cons h _, e => by simp at e; subst e; exact ⟨_, rfl, h⟩
  | _, _, i + 1, d, .cons _ hs, e => by
    obtain ⟨v, h1, h2⟩ := dpa_get (i := i) (d := d) hs (by simpa using e)
    exact ⟨v, by simpa using h1, h2⟩
theorem dpa_set {v : V} {d : D} (h : Dp K H v d) : ∀ {vs : List V} {ds : List D} (i : Nat), DpAll K H vs ds → DpAll K H (vs.set i v) (ds.set i d)
  | _, _, _, .nil => .nil
  | _, _, 0, .cons _ t => .cons h t
  | _, _, i + 1, .cons q t => .cons q (dpa_set h i t)
theorem dpa_take : ∀ {vs : List V} {ds : List D} (n : Nat), DpAll K H vs ds → DpAll K H (vs.take n) (ds.take n)
  | _, _, 0, _ => .nil
  | _, _, _ + 1, .nil => .nil
  | _, _, n + 1, .cons r t => .cons r (dpa_take n t)
theorem dpa_drop : ∀ {vs : List V} {ds : List D} (n : Nat), DpAll K H vs ds → DpAll K H (vs.drop n) (ds.drop n)
  | _, _, 0, r => r
  | _, _, _ + 1, .nil => .nil
  | _, _, n + 1, .cons _ t => dpa_drop n t
theorem dpa_rev : ∀ {vs : List V} {ds : List D}, DpAll K H vs ds → DpAll K H vs.reverse ds.reverse
  | _, _, .nil => .nil
  | _, _, .cons r t => by
    rw [List.reverse_cons, List.reverse_cons]
    exact dpa_app (dpa_rev t) (.cons r .nil)
theorem dpa_rep : ∀ (n : Nat) {vs : List V} {ds : List D}, DpAll K H vs ds → DpAll K H (List.replicate n vs).flatten (List.replicate n ds).flatten
  | 0, _, _, _ => .nil
  | n + 1, _, _, h => by
    rw [List.replicate_succ, List.replicate_succ, List.flatten_cons, List.flatten_cons]
    exact dpa_app h (dpa_rep n h)
theorem dp_none {v : V} (h : Dp K H v .none) : v = .non := by cases h; rfl
theorem dp_bool {v : V} {b : Bool} (h : Dp K H v (.bool b)) : v = .bl b := by cases h; rfl
theorem dp_int {v : V} {i : Int} (h : Dp K H v (.int i)) : v = .int i := by cases h; rfl
theorem dp_str {v : V} {x : Str} (h : Dp K H v (.str x)) : v = .str x := by cases h; rfl
theorem dp_list {v : V} {ds : List D} (h : Dp K H v (.list ds)) : ∃ a vs, v = .ref a ∧ SqL K H a vs ∧ DpAll K H vs ds := by
  cases h with | lst h hs => exact ⟨_, _, rfl, h, hs⟩
theorem dp_tuple {v : V} {ds : List D} (h : Dp K H v (.tuple ds)) : ∃ a vs, v = .ref a ∧ SqT K H a vs ∧ DpAll K H vs ds := by
  cases h with | tup h hs => exact ⟨_, _, rfl, h, hs⟩
theorem dpa_ints : ∀ {ns : List Int}, DpAll K H (ns.map V.int) (ns.map PyData.int)
  | [] => .nil
  | n :: ns => .cons (.int n) dpa_ints
theorem dpa_bools_inv : ∀ {vs : List V} {ns : List Bool}, DpAll K H vs (ns.map PyData.bool) → vs = ns.map V.bl
  | _, [], .nil => rfl
  | _, n :: ns, .cons h t => by rw [dp_bool h, dpa_bools_inv t]; rfl
end
/-! ### the state: slots that hold data, or a list of their own -/
/-- values that are no data: an exception of the program's own, by its class's name and what it keeps; a dict -/
inductive XD where
  | exc (nm : Str) (d : D)
  | odc (kvs : List (D × D))
/-- an exception's object, its class at C, its dict at dd -/
def ExT (a C dd : Addr) : HO := .ext fun h => ∃ (oe : Obj) (vs : Array Value), h.get? a = some oe ∧ oe.cls = .ref C ∧ oe.dict = some dd ∧ oe.data = .fields vs
/-- where the program's name stands for an object -/
def nmAt (K : PySem.W.Frag) (nm : Str) : Addr := match PySem.W.nsIn K mainGlobals nm with
  | some (some (.ref a)) => a
  | _ => 0
/-- a dict's content, keys of one kind; ahead of it, which kind -/
def DcAt (K : PySem.W.Frag) (G : Hp) (o : HO) (kvs : List (D × D)) : Prop := (∃ (es : List (L2.Key × V)) (ks : List (D × D)), o = .dK es ∧ kvs = (.bool false, .none) :: ks ∧ Paired (fun e p => keyD e.1 = p.1 ∧ Dp K G e.2 p.2) es ks) ∨
      ∃ (es : List (List L2.Key × V)) (ks : List (D × D)), o = .dT es ∧ kvs = (.bool true, .none) :: ks ∧ Paired (fun e p => PyData.tuple (e.1.map keyD) = p.1 ∧ Dp K G e.2 p.2) es ks
theorem paired_kv {κ : Type} {f : κ → D} {K : PySem.W.Frag} {G : Hp} : ∀ {es : List (κ × V)} {ks : List (D × D)}, Paired (fun e p => f e.1 = p.1 ∧ Dp K G e.2 p.2) es ks → DpKv K G (es.map fun e => (f e.1, e.2)) ks
  | _, _, .nil => .nil
  | _, (k, d) :: _, .cons ⟨h, a⟩ b => by
    have h : _ = k := h
    subst h
    exact .cons a (paired_kv b)
theorem DcAt.dp {K : PySem.W.Frag} {G : Hp} {a : Addr} {o : HO} {kvs : List (D × D)} (ha : G a = some o) (h : DcAt K G o kvs) : Dp K G (.ref a) (.dict kvs) := by
  rcases h with ⟨es, ks, rfl, rfl, h⟩ | ⟨es, ks, rfl, rfl, h⟩
  · exact .dcK (.inl ha) (paired_kv h)
  · exact .dcT (es := es) ha (paired_kv (f := fun c : List L2.Key => PyData.tuple (c.map keyD)) h)
def Xp (K : PySem.W.Frag) (G : Hp) (v : V) : XD → Prop
  | .exc nm d => ∃ (a dd : Addr) (u : V), v = .ref a ∧ G a = some (ExT a (nmAt K nm) dd) ∧ G dd = some (.xd [(("what" : Str), u)]) ∧ Dp K G u d
  | .odc _ => True
theorem paired_imp {α β : Type} {r r' : α → β → Prop} (h : ∀ x y, r x y → r' x y) : ∀ {xs : List α} {ys : List β}, Paired r xs ys → Paired r' xs ys
  | _, _, .nil => .nil
  | _, _, .cons a b => .cons (h _ _ a) (paired_imp h b)
theorem dc_same {K : PySem.W.Frag} {H H' : Hp} (s : Same H H') {o : HO} {kvs : List (D × D)} (h : DcAt K H o kvs) : DcAt K H' o kvs := by
  rcases h with ⟨es, ks, h1, h0, h2⟩ | ⟨es, ks, h1, h0, h2⟩
  · exact .inl ⟨es, ks, h1, h0, paired_imp (fun _ _ z => ⟨z.1, dp_same s z.2⟩) h2⟩
  · exact .inr ⟨es, ks, h1, h0, paired_imp (fun _ _ z => ⟨z.1, dp_same s z.2⟩) h2⟩
theorem DcAt.lst {K : PySem.W.Frag} {G : Hp} {xs : List V} {kvs : List (D × D)} : ¬ DcAt K G (.lst xs) kvs := fun h => by
  rcases h with ⟨es, ks, h1, _⟩ | ⟨es, ks, h1, _⟩ <;> cases h1
theorem xp_same {K : PySem.W.Frag} {H H' : Hp} (s : Same H H') {v : V} {x : XD} (h : Xp K H v x) : Xp K H' v x := by
  cases x with
  | exc nm d =>
    obtain ⟨a, dd, u, e, h1, h2, h3⟩ := h
    exact ⟨a, dd, u, e, s _ _ h1, s _ _ h2, dp_same s h3⟩
  | odc kvs => trivial
inductive S where
  | pure (d : D)
  | own (par : Bool) (ds : List D)
  | vx (x : XD)
abbrev En := List (Option S)
abbrev M (α : Type) := En → Option (α × En)
/-- an own dict at slot i -/
def Od (K : PySem.W.Frag) (H0 : Hp) (σ : L2.St) (G H : Hp) (i : Nat) (kvs : List (D × D)) : Prop := ∃ a o, σ[i]? = some (some (.ref a)) ∧ H a = some o ∧ DcAt K G o kvs ∧ G a = none ∧ H0 a = none
theorem Od.keep {K : PySem.W.Frag} {H0 : Hp} {σ σ' : L2.St} {G G' H H' : Hp} {i : Nat} {kvs : List (D × D)} (h : Od K H0 σ G H i kvs) (hs : σ'[i]? = σ[i]?) (s : Same G G') (hh : ∀ a o, H a = some o → (∀ xs, o ≠ .lst xs) → G a = none → H' a = some o ∧ G' a = none) : Od K H0 σ' G' H' i kvs := by
  obtain ⟨a, o, h1, h2, h3, h4, h5⟩ := h
  obtain ⟨k1, k2⟩ := hh a o h2 (fun xs z => by subst z; exact DcAt.lst h3) h4
  exact ⟨a, o, by rw [hs]; exact h1, k1, dc_same s h3, k2, h5⟩
/-- what stood at a def's entry: the slots of lists of the caller's own, the heaps -/
structure Fx where
  A : Nat → Option Addr
  G0 : Hp
  H0 : Hp
structure Rel (K : PySem.W.Frag) (F : Fx) (ς : En) (G : Hp) (σ : L2.St) (H : Hp) : Prop where
  len : σ.length = ς.length
  sub : Same G H
  g0 : Same F.G0 G
  pu : ∀ (i : Nat) d, ς[i]? = some (some (.pure d)) → ∃ v, σ[i]? = some (some v) ∧ Dp K G v d
  ow : ∀ (i : Nat) b ds, ς[i]? = some (some (.own b ds)) → ∃ a vs, σ[i]? = some (some (.ref a)) ∧ H a = some (.lst vs) ∧ G a = none ∧ DpAll K G vs ds ∧ (b = true → F.A i = some a) ∧ (b = false → F.H0 a = none)
  ap : ∀ (i j : Nat) b c ds es a, ς[i]? = some (some (.own b ds)) → ς[j]? = some (some (.own c es)) → σ[i]? = some (some (.ref a)) → σ[j]? = some (some (.ref a)) → i = j
  par : ∀ i a, F.A i = some a → ∃ ds, ς[i]? = some (some (.own true ds))
  fr : ∀ a o, F.H0 a = some o → (∀ i, F.A i ≠ some a) → H a = some o
  nw : ∀ a, G a ≠ none → F.G0 a ≠ none ∨ F.H0 a = none
  vx : ∀ (i : Nat) x, ς[i]? = some (some (.vx x)) → ∃ v, σ[i]? = some (some v) ∧ Xp K G v x
  od : ∀ (i : Nat) kvs, ς[i]? = some (some (.vx (.odc kvs))) → Od K F.H0 σ G H i kvs
  oa : ∀ (i j : Nat) kvs kws a, ς[i]? = some (some (.vx (.odc kvs))) → ς[j]? = some (some (.vx (.odc kws))) → σ[i]? = some (some (.ref a)) → σ[j]? = some (some (.ref a)) → i = j
/-- what an expression gives -/
inductive R where
  | pure (d : D)
  | ref (i : Nat)
  | fresh (ds : List D)
  | vx (x : XD)
def RepR (K : PySem.W.Frag) (F : Fx) (ς : En) (G : Hp) (σ : L2.St) (H : Hp) : R → V → Prop
  | .pure d, v => Dp K G v d
  | .ref i, v => σ[i]? = some (some v)
  | .vx (.odc kvs), v => ∃ a o, v = .ref a ∧ H a = some o ∧ DcAt K G o kvs ∧ G a = none ∧ F.H0 a = none ∧ ∀ (i : Nat) kws, ς[i]? = some (some (.vx (.odc kws))) → σ[i]? ≠ some (some (.ref a))
  | .vx (.exc nm d), v => Xp K G v (.exc nm d)
  | .fresh ds, v => ∃ a vs, v = .ref a ∧ H a = some (.lst vs) ∧ G a = none ∧ DpAll K G vs ds ∧ F.H0 a = none ∧ ∀ (i : Nat) b es, ς[i]? = some (some (.own b es)) → σ[i]? ≠ some (some (.ref a))
section
variable {K : PySem.W.Frag} {F : Fx} {ς : En} {G H : Hp} {σ : L2.St}
theorem same_upd {H : Hp} {p : Addr} {o : HO} (h : H p = none) : Same H (upd H p o) := fun b x e => by
  rw [upd_ne (ne_of_none e h)]; exact e
theorem same_upd2 {G H : Hp} {p : Addr} {o : HO} (h : Same G H) : Same (upd G p o) (upd H p o) := fun b x e => by
  by_cases hb : b = p
  · subst hb; rw [upd_same] at e ⊢; exact e
  · rw [upd_ne hb] at e ⊢; exact h _ _ e
theorem Rel.own_in (r : Rel K F ς G σ H) {i : Nat} {a : Addr} (h : F.A i = some a) : σ[i]? = some (some (.ref a)) ∧ ∃ vs, H a = some (.lst vs) := by
  obtain ⟨ds, e⟩ := r.par i a h
  obtain ⟨a', vs, e1, e2, _, _, e5, _⟩ := r.ow i true ds e
  have := e5 rfl
  rw [h] at this; cases this
  exact ⟨e1, vs, e2⟩
theorem Rel.new (r : Rel K F ς G σ H) {p : Addr} (h : H p = none) : F.H0 p = none := by
  cases q : F.H0 p with
  | none => rfl
  | some o =>
    by_cases hp : ∃ i, F.A i = some p
    · obtain ⟨i, hi⟩ := hp
      obtain ⟨_, vs, e⟩ := r.own_in hi
      rw [e] at h; cases h
    · have := r.fr p o q (fun i e => hp ⟨i, e⟩)
      rw [this] at h; cases h
theorem Rel.gnone (r : Rel K F ς G σ H) {p : Addr} (h : H p = none) : G p = none := r.sub.free h
/-- a new object, a datum from now on -/
theorem Rel.lay (r : Rel K F ς G σ H) {p : Addr} {o : HO} (h : H p = none) : Rel K F ς (upd G p o) σ (upd H p o) where
  len := r.len
  sub := same_upd2 r.sub
  g0 := r.g0.trans (same_upd (r.gnone h))
  pu := fun i d e => by
    obtain ⟨v, e1, e2⟩ := r.pu i d e
    exact ⟨v, e1, dp_same (same_upd (r.gnone h)) e2⟩
  ow := fun i b ds e => by
    obtain ⟨a, vs, e1, e2, e3, e4, e5⟩ := r.ow i b ds e
    have ne := ne_of_none e2 h
    exact ⟨a, vs, e1, by rw [upd_ne ne]; exact e2, by rw [upd_ne ne]; exact e3, dpa_same (same_upd (r.gnone h)) e4, e5⟩
  ap := r.ap
  par := r.par
  fr := fun a o' e na => by
    have := r.fr a o' e na
    rw [upd_ne (ne_of_none this h)]; exact this
  nw := fun a e => by
    by_cases ha : a = p
    · subst ha; exact .inr (r.new h)
    · rw [upd_ne ha] at e; exact r.nw a e
  vx := fun i x e => by
    obtain ⟨v, e1, e2⟩ := r.vx i x e
    exact ⟨v, e1, xp_same (same_upd (r.gnone h)) e2⟩
  od := fun i kvs e => (r.od i kvs e).keep rfl (same_upd (r.gnone h)) fun a o' e1 _ e2 => by
    have ne := ne_of_none e1 h
    exact ⟨by rw [upd_ne ne]; exact e1, by rw [upd_ne ne]; exact e2⟩
  oa := r.oa
/-- a new list, nobody's yet -/
theorem Rel.layF (r : Rel K F ς G σ H) {p : Addr} {o : HO} (h : H p = none) : Rel K F ς G σ (upd H p o) where
  len := r.len
  sub := r.sub.trans (same_upd h)
  g0 := r.g0
  pu := r.pu
  ow := fun i b ds e => by
    obtain ⟨a, vs, e1, e2, e3, e4, e5⟩ := r.ow i b ds e
    have ne := ne_of_none e2 h
    exact ⟨a, vs, e1, by rw [upd_ne ne]; exact e2, e3, e4, e5⟩
  ap := r.ap
  par := r.par
  fr := fun a o' e na => by
    have := r.fr a o' e na
    rw [upd_ne (ne_of_none this h)]; exact this
  nw := r.nw
  vx := r.vx
  od := fun i kvs e => (r.od i kvs e).keep rfl (Same.refl _) fun a o' e1 _ e2 => by
    have ne := ne_of_none e1 h
    exact ⟨by rw [upd_ne ne]; exact e1, e2⟩
  oa := r.oa
theorem Rel.repF (r : Rel K F ς G σ H) {p : Addr} {vs : List V} {ds : List D} (h : H p = none) (hd : DpAll K G vs ds) : RepR K F ς G σ (upd H p (.lst vs)) (.fresh ds) (.ref p) :=
  ⟨p, vs, rfl, upd_same, r.gnone h, hd, r.new h, fun i b es e q => by
    obtain ⟨a, ws, e1, e2, _⟩ := r.ow i b es e
    rw [q] at e1; cases e1
    rw [e2] at h; cases h⟩
theorem Rel.layD (r : Rel K F ς G σ H) {p : Addr} {vs : List V} {ds : List D} (h : H p = none) (hd : DpAll K G vs ds) : Dp K (upd G p (.tup vs)) (.ref p) (.tuple ds) :=
  .tup (.inl (.inl upd_same)) (dpa_same (same_upd (r.gnone h)) hd)
/-- freezing a list that is nobody's -/
theorem Rel.frzF (r : Rel K F ς G σ H) {v : V} {ds : List D} (h : RepR K F ς G σ H (.fresh ds) v) : ∃ G', Rel K F ς G' σ H ∧ Same G G' ∧ Dp K G' v (.list ds) := by
  obtain ⟨a, vs, rfl, h1, h2, h3, h4, h5⟩ := h
  refine ⟨upd G a (.lst vs), ⟨r.len, ?_, r.g0.trans (same_upd h2), ?_, ?_, r.ap, r.par, r.fr, ?_, fun i x e => by
    obtain ⟨v, e1, e2⟩ := r.vx i x e
    exact ⟨v, e1, xp_same (same_upd h2) e2⟩, fun i kvs e => (r.od i kvs e).keep rfl (same_upd h2) fun c o e1 nl e2 => by
    have ne : c ≠ a := fun z => by subst z; rw [h1] at e1; cases e1; exact nl _ rfl
    exact ⟨e1, by rw [upd_ne ne]; exact e2⟩, r.oa⟩, same_upd h2, .lst (.inl (.inl upd_same)) (dpa_same (same_upd h2) h3)⟩
  · intro b x e
    by_cases hb : b = a
    · subst hb; rw [upd_same] at e; rw [h1, e]
    · rw [upd_ne hb] at e; exact r.sub _ _ e
  · intro i d e
    obtain ⟨v, e1, e2⟩ := r.pu i d e
    exact ⟨v, e1, dp_same (same_upd h2) e2⟩
  · intro i b es e
    obtain ⟨c, ws, e1, e2, e3, e4, e5⟩ := r.ow i b es e
    have ne : c ≠ a := fun z => by subst z; exact h5 i b es e e1
    exact ⟨c, ws, e1, e2, by rw [upd_ne ne]; exact e3, dpa_same (same_upd h2) e4, e5⟩
  · intro c e
    by_cases hc : c = a
    · subst hc; exact .inr h4
    · rw [upd_ne hc] at e; exact r.nw c e
theorem get_set {α : Type} {l : List α} {i j : Nat} {x y : α} (h : (l.set i x)[j]? = some y) : (i = j ∧ x = y) ∨ (i ≠ j ∧ l[j]? = some y) := by
  by_cases e : i = j
  · subst e
    by_cases hl : i < l.length
    · rw [List.getElem?_set_self hl] at h; exact .inl ⟨rfl, Option.some.inj h⟩
    · rw [List.getElem?_eq_none (by rw [List.length_set]; omega)] at h; cases h
  · rw [List.getElem?_set_ne e] at h; exact .inr ⟨e, h⟩
def free (ς : En) (i : Nat) : Bool := match ς[i]? with
  | some (some (.own true _)) => false
  | some _ => true
  | none => false
theorem free_lt {i : Nat} (h : free ς i = true) : i < ς.length := by
  unfold free at h
  by_cases hl : i < ς.length
  · exact hl
  · rw [List.getElem?_eq_none (by omega)] at h; cases h
theorem free_no {i : Nat} {ds : List D} (h : free ς i = true) : ς[i]? ≠ some (some (.own true ds)) := fun e => by
  unfold free at h; rw [e] at h; cases h
/-- freezing a dict that is nobody's -/
theorem Rel.frzFD (r : Rel K F ς G σ H) {v : V} {kvs : List (D × D)} (h : RepR K F ς G σ H (.vx (.odc kvs)) v) : ∃ G', Rel K F ς G' σ H ∧ Same G G' ∧ Dp K G' v (.dict kvs) := by
  obtain ⟨a, o, rfl, h1, h3, h2, h4, h5⟩ := h
  refine ⟨upd G a o, ⟨r.len, ?_, r.g0.trans (same_upd h2), ?_, ?_, r.ap, r.par, r.fr, ?_, fun i x e => by
    obtain ⟨v, e1, e2⟩ := r.vx i x e
    exact ⟨v, e1, xp_same (same_upd h2) e2⟩, fun i kws e => ?_, r.oa⟩, same_upd h2, DcAt.dp upd_same (dc_same (same_upd h2) h3)⟩
  · intro b x e
    by_cases hb : b = a
    · subst hb; rw [upd_same] at e; rw [h1, e]
    · rw [upd_ne hb] at e; exact r.sub _ _ e
  · intro i d e
    obtain ⟨v, e1, e2⟩ := r.pu i d e
    exact ⟨v, e1, dp_same (same_upd h2) e2⟩
  · intro i b es e
    obtain ⟨c, ws, e1, e2, e3, e4, e5⟩ := r.ow i b es e
    have ne : c ≠ a := fun z => by subst z; rw [h1] at e2; cases e2; exact DcAt.lst h3
    exact ⟨c, ws, e1, e2, by rw [upd_ne ne]; exact e3, dpa_same (same_upd h2) e4, e5⟩
  · intro c e
    by_cases hc : c = a
    · subst hc; exact .inr h4
    · rw [upd_ne hc] at e; exact r.nw c e
  · obtain ⟨b, ob, f1, f2, f3, f4, f5⟩ := r.od i kws e
    have ne : b ≠ a := fun z => by subst z; exact h5 i kws e f1
    exact ⟨b, ob, f1, f2, dc_same (same_upd h2) f3, by rw [upd_ne ne]; exact f4, f5⟩
/-- a slot takes a datum -/
theorem Rel.setP (r : Rel K F ς G σ H) {i : Nat} {v : V} {d : D} (hf : free ς i = true) (h : Dp K G v d) : Rel K F (ς.set i (some (.pure d))) G (σ.set i (some v)) H where
  len := by rw [List.length_set, List.length_set, r.len]
  sub := r.sub
  g0 := r.g0
  pu := fun j e q => by
    have hl : i < σ.length := by rw [r.len]; exact free_lt hf
    replace q := get_set q; rcases q with ⟨rfl, q⟩ | ⟨n, q⟩
    · cases q; exact ⟨v, List.getElem?_set_self hl, h⟩
    · rw [List.getElem?_set_ne n]; exact r.pu j e q
  ow := fun j b ds q => by
    replace q := get_set q; rcases q with ⟨rfl, q⟩ | ⟨n, q⟩
    · cases q
    · rw [List.getElem?_set_ne n]; exact r.ow j b ds q
  ap := fun j k b c ds es a q1 q2 q3 q4 => by
    replace q1 := get_set q1; rcases q1 with ⟨rfl, q1⟩ | ⟨n, q1⟩
    · cases q1
    replace q2 := get_set q2; rcases q2 with ⟨rfl, q2⟩ | ⟨m, q2⟩
    · cases q2
    rw [List.getElem?_set_ne n] at q3
    rw [List.getElem?_set_ne m] at q4
    exact r.ap j k b c ds es a q1 q2 q3 q4
  par := fun j a q => by
    obtain ⟨ds, e⟩ := r.par j a q
    have n : i ≠ j := fun z => by subst z; exact free_no hf e
    exact ⟨ds, by rw [List.getElem?_set_ne n]; exact e⟩
  fr := r.fr
  nw := r.nw
  vx := fun j x q => by
    replace q := get_set q; rcases q with ⟨rfl, q⟩ | ⟨n, q⟩
    · cases q
    · rw [List.getElem?_set_ne n]; exact r.vx j x q
  od := fun j kvs q => by
    replace q := get_set q; rcases q with ⟨rfl, q⟩ | ⟨n, q⟩
    · cases q
    · exact (r.od j kvs q).keep (List.getElem?_set_ne n) (Same.refl _) fun a o e1 _ e2 => ⟨e1, e2⟩
  oa := fun j k kvs kws a q1 q2 q3 q4 => by
    replace q1 := get_set q1; rcases q1 with ⟨rfl, q1⟩ | ⟨n, q1⟩
    · cases q1
    replace q2 := get_set q2; rcases q2 with ⟨rfl, q2⟩ | ⟨m, q2⟩
    · cases q2
    rw [List.getElem?_set_ne n] at q3
    rw [List.getElem?_set_ne m] at q4
    exact r.oa j k kvs kws a q1 q2 q3 q4
/-- a slot takes a new list as its own -/
theorem Rel.setO (r : Rel K F ς G σ H) {i : Nat} {v : V} {ds : List D} (hf : free ς i = true) (h : RepR K F ς G σ H (.fresh ds) v) : Rel K F (ς.set i (some (.own false ds))) G (σ.set i (some v)) H := by
  obtain ⟨a, vs, rfl, h1, h2, h3, h4, h5⟩ := h
  have hl : i < σ.length := by rw [r.len]; exact free_lt hf
  refine ⟨by rw [List.length_set, List.length_set, r.len], r.sub, r.g0, ?_, ?_, ?_, ?_, r.fr, r.nw, fun j x q => by
    replace q := get_set q; rcases q with ⟨rfl, q⟩ | ⟨n, q⟩
    · cases q
    · rw [List.getElem?_set_ne n]; exact r.vx j x q, fun j kvs q => by
    replace q := get_set q; rcases q with ⟨rfl, q⟩ | ⟨n, q⟩
    · cases q
    · exact (r.od j kvs q).keep (List.getElem?_set_ne n) (Same.refl _) fun a o e1 _ e2 => ⟨e1, e2⟩, fun j k kvs kws a q1 q2 q3 q4 => by
    replace q1 := get_set q1; rcases q1 with ⟨rfl, q1⟩ | ⟨n, q1⟩
    · cases q1
    replace q2 := get_set q2; rcases q2 with ⟨rfl, q2⟩ | ⟨m, q2⟩
    · cases q2
    rw [List.getElem?_set_ne n] at q3
    rw [List.getElem?_set_ne m] at q4
    exact r.oa j k kvs kws a q1 q2 q3 q4⟩
  · intro j e q
    replace q := get_set q; rcases q with ⟨rfl, q⟩ | ⟨n, q⟩
    · cases q
    · rw [List.getElem?_set_ne n]; exact r.pu j e q
  · intro j b es q
    replace q := get_set q; rcases q with ⟨rfl, q⟩ | ⟨n, q⟩
    · cases q
      exact ⟨a, vs, List.getElem?_set_self hl, h1, h2, h3, (fun z => by cases z), fun _ => h4⟩
    · rw [List.getElem?_set_ne n]; exact r.ow j b es q
  · intro j k b c es fs a' q1 q2 q3 q4
    replace q1 := get_set q1; rcases q1 with ⟨rfl, q1⟩ | ⟨n, q1⟩
    · replace q2 := get_set q2; rcases q2 with ⟨rfl, q2⟩ | ⟨m, q2⟩
      · rfl
      · rw [List.getElem?_set_self hl] at q3; cases q3
        rw [List.getElem?_set_ne m] at q4
        exact absurd q4 (h5 k c fs q2)
    · replace q2 := get_set q2; rcases q2 with ⟨rfl, q2⟩ | ⟨m, q2⟩
      · rw [List.getElem?_set_self hl] at q4; cases q4
        rw [List.getElem?_set_ne n] at q3
        exact absurd q3 (h5 j b es q1)
      · rw [List.getElem?_set_ne n] at q3
        rw [List.getElem?_set_ne m] at q4
        exact r.ap j k b c es fs a' q1 q2 q3 q4
  · intro j a' q
    obtain ⟨es, e⟩ := r.par j a' q
    have n : i ≠ j := fun z => by subst z; exact free_no hf e
    exact ⟨es, by rw [List.getElem?_set_ne n]; exact e⟩
/-- a slot is forgotten -/
theorem Rel.setN (r : Rel K F ς G σ H) {i : Nat} {o : Option V} (hf : free ς i = true) : Rel K F (ς.set i none) G (σ.set i o) H where
  len := by rw [List.length_set, List.length_set, r.len]
  sub := r.sub
  g0 := r.g0
  pu := fun j e q => by
    replace q := get_set q; rcases q with ⟨rfl, q⟩ | ⟨n, q⟩
    · cases q
    · rw [List.getElem?_set_ne n]; exact r.pu j e q
  ow := fun j b ds q => by
    replace q := get_set q; rcases q with ⟨rfl, q⟩ | ⟨n, q⟩
    · cases q
    · rw [List.getElem?_set_ne n]; exact r.ow j b ds q
  ap := fun j k b c ds es a q1 q2 q3 q4 => by
    replace q1 := get_set q1; rcases q1 with ⟨rfl, q1⟩ | ⟨n, q1⟩
    · cases q1
    replace q2 := get_set q2; rcases q2 with ⟨rfl, q2⟩ | ⟨m, q2⟩
    · cases q2
    rw [List.getElem?_set_ne n] at q3
    rw [List.getElem?_set_ne m] at q4
    exact r.ap j k b c ds es a q1 q2 q3 q4
  par := fun j a q => by
    obtain ⟨ds, e⟩ := r.par j a q
    have n : i ≠ j := fun z => by subst z; exact free_no hf e
    exact ⟨ds, by rw [List.getElem?_set_ne n]; exact e⟩
  fr := r.fr
  nw := r.nw
  vx := fun j x q => by
    replace q := get_set q; rcases q with ⟨rfl, q⟩ | ⟨n, q⟩
    · cases q
    · rw [List.getElem?_set_ne n]; exact r.vx j x q
  od := fun j kvs q => by
    replace q := get_set q; rcases q with ⟨rfl, q⟩ | ⟨n, q⟩
    · cases q
    · exact (r.od j kvs q).keep (List.getElem?_set_ne n) (Same.refl _) fun a o e1 _ e2 => ⟨e1, e2⟩
  oa := fun j k kvs kws a q1 q2 q3 q4 => by
    replace q1 := get_set q1; rcases q1 with ⟨rfl, q1⟩ | ⟨n, q1⟩
    · cases q1
    replace q2 := get_set q2; rcases q2 with ⟨rfl, q2⟩ | ⟨m, q2⟩
    · cases q2
    rw [List.getElem?_set_ne n] at q3
    rw [List.getElem?_set_ne m] at q4
    exact r.oa j k kvs kws a q1 q2 q3 q4
/-- an own list is changed -/
theorem Rel.mut (r : Rel K F ς G σ H) {i : Nat} {b : Bool} {ds : List D} {a : Addr} {ws : List V} {es : List D} (hi : ς[i]? = some (some (.own b ds))) (ha : σ[i]? = some (some (.ref a))) (h : DpAll K G ws es) :
    Rel K F (ς.set i (some (.own b es))) G σ (upd H a (.lst ws)) := by
  obtain ⟨a', vs, e1, e2, e3, e4, e5, e6⟩ := r.ow i b ds hi
  rw [ha] at e1; cases e1
  have il : i < ς.length := (List.getElem?_eq_some_iff.mp hi).1
  refine ⟨by rw [List.length_set, r.len], ?_, r.g0, ?_, ?_, ?_, ?_, ?_, r.nw, fun j x q => by
    replace q := get_set q; rcases q with ⟨rfl, q⟩ | ⟨n, q⟩
    · cases q
    · exact r.vx j x q, fun j kvs q => by
    replace q := get_set q; rcases q with ⟨rfl, q⟩ | ⟨n, q⟩
    · cases q
    · exact (r.od j kvs q).keep rfl (Same.refl _) fun c o k1 nl k2 => by
        have ne : c ≠ a := fun z => by subst z; rw [e2] at k1; cases k1; exact nl _ rfl
        exact ⟨by rw [upd_ne ne]; exact k1, k2⟩, fun j k kvs kws x q1 q2 q3 q4 => by
    replace q1 := get_set q1; rcases q1 with ⟨rfl, q1⟩ | ⟨n, q1⟩
    · cases q1
    replace q2 := get_set q2; rcases q2 with ⟨rfl, q2⟩ | ⟨m, q2⟩
    · cases q2
    exact r.oa j k kvs kws x q1 q2 q3 q4⟩
  · intro c o q
    have : c ≠ a := ne_of_none q e3
    rw [upd_ne this]; exact r.sub _ _ q
  · intro j d q
    replace q := get_set q; rcases q with ⟨rfl, q⟩ | ⟨n, q⟩
    · cases q
    · exact r.pu j d q
  · intro j c fs q
    replace q := get_set q; rcases q with ⟨rfl, q⟩ | ⟨n, q⟩
    · cases q
      exact ⟨a, ws, ha, upd_same, e3, h, e5, e6⟩
    · obtain ⟨x, xs, f1, f2, f3, f4, f5⟩ := r.ow j c fs q
      have ne : x ≠ a := fun z => by subst z; exact n (r.ap i j b c ds fs x hi q ha f1)
      exact ⟨x, xs, f1, by rw [upd_ne ne]; exact f2, f3, f4, f5⟩
  · intro j k c d fs gs x q1 q2 q3 q4
    replace q1 := get_set q1; rcases q1 with ⟨rfl, q1⟩ | ⟨n, q1⟩
    · replace q2 := get_set q2; rcases q2 with ⟨rfl, q2⟩ | ⟨m, q2⟩
      · rfl
      · exact r.ap i k b d ds gs x hi q2 q3 q4
    · replace q2 := get_set q2; rcases q2 with ⟨rfl, q2⟩ | ⟨m, q2⟩
      · exact r.ap j i c b fs ds x q1 hi q3 q4
      · exact r.ap j k c d fs gs x q1 q2 q3 q4
  · intro j x q
    by_cases e : i = j
    · subst e
      obtain ⟨fs, q2⟩ := r.par i x q
      rw [hi] at q2
      cases q2
      exact ⟨es, List.getElem?_set_self il⟩
    · rw [List.getElem?_set_ne e]; exact r.par j x q
  · intro x o q na
    have hx := r.fr x o q na
    have ne : x ≠ a := fun z => by
      subst z
      cases b with
      | true => exact na i (e5 rfl)
      | false => rw [e6 rfl] at q; cases q
    rw [upd_ne ne]; exact hx
/-- an own list becomes a datum -/
theorem Rel.frzO (r : Rel K F ς G σ H) {i : Nat} {ds : List D} (hi : ς[i]? = some (some (.own false ds))) :
    ∃ G' v, Rel K F (ς.set i (some (.pure (.list ds)))) G' σ H ∧ Same G G' ∧ σ[i]? = some (some v) ∧ Dp K G' v (.list ds) := by
  obtain ⟨a, vs, e1, e2, e3, e4, e5, e6⟩ := r.ow i false ds hi
  have hdp : Dp K (upd G a (.lst vs)) (.ref a) (.list ds) := .lst (.inl (.inl upd_same)) (dpa_same (same_upd e3) e4)
  refine ⟨upd G a (.lst vs), .ref a, ⟨by rw [List.length_set, r.len], ?_, r.g0.trans (same_upd e3), ?_, ?_, ?_, ?_, r.fr, ?_, fun j x q => by
    replace q := get_set q; rcases q with ⟨rfl, q⟩ | ⟨n, q⟩
    · cases q
    · obtain ⟨u, f1, f2⟩ := r.vx j x q
      exact ⟨u, f1, xp_same (same_upd e3) f2⟩, fun j kvs q => by
    replace q := get_set q; rcases q with ⟨rfl, q⟩ | ⟨n, q⟩
    · cases q
    · exact (r.od j kvs q).keep rfl (same_upd e3) fun c o k1 nl k2 => by
        have ne : c ≠ a := fun z => by subst z; rw [e2] at k1; cases k1; exact nl _ rfl
        exact ⟨k1, by rw [upd_ne ne]; exact k2⟩, fun j k kvs kws x q1 q2 q3 q4 => by
    replace q1 := get_set q1; rcases q1 with ⟨rfl, q1⟩ | ⟨n, q1⟩
    · cases q1
    replace q2 := get_set q2; rcases q2 with ⟨rfl, q2⟩ | ⟨m, q2⟩
    · cases q2
    exact r.oa j k kvs kws x q1 q2 q3 q4⟩, same_upd e3, e1, hdp⟩
  · intro b x e
    by_cases hb : b = a
    · subst hb; rw [upd_same] at e; rw [e2, e]
    · rw [upd_ne hb] at e; exact r.sub _ _ e
  · intro j d q
    replace q := get_set q; rcases q with ⟨rfl, q⟩ | ⟨n, q⟩
    · cases q; exact ⟨_, e1, hdp⟩
    · obtain ⟨v, f1, f2⟩ := r.pu j d q
      exact ⟨v, f1, dp_same (same_upd e3) f2⟩
  · intro j c fs q
    replace q := get_set q; rcases q with ⟨rfl, q⟩ | ⟨n, q⟩
    · cases q
    · obtain ⟨x, xs, f1, f2, f3, f4, f5⟩ := r.ow j c fs q
      have ne : x ≠ a := fun z => by subst z; exact n (r.ap i j false c ds fs x hi q e1 f1)
      exact ⟨x, xs, f1, f2, by rw [upd_ne ne]; exact f3, dpa_same (same_upd e3) f4, f5⟩
  · intro j k c d fs gs x q1 q2 q3 q4
    replace q1 := get_set q1; rcases q1 with ⟨rfl, q1⟩ | ⟨n, q1⟩
    · cases q1
    · replace q2 := get_set q2; rcases q2 with ⟨rfl, q2⟩ | ⟨m, q2⟩
      · cases q2
      · exact r.ap j k c d fs gs x q1 q2 q3 q4
  · intro j x q
    obtain ⟨fs, q2⟩ := r.par j x q
    have n : i ≠ j := fun z => by subst z; rw [hi] at q2; cases q2
    exact ⟨fs, by rw [List.getElem?_set_ne n]; exact q2⟩
  · intro c e
    by_cases hc : c = a
    · subst hc; exact .inr (e6 rfl)
    · rw [upd_ne hc] at e; exact r.nw c e
/-- a slot takes a value that is no datum -/
theorem Rel.setX (r : Rel K F ς G σ H) {i : Nat} {v : V} {x : XD} (hf : free ς i = true) (h : Xp K G v x) (hx : ∀ kvs, x ≠ .odc kvs) : Rel K F (ς.set i (some (.vx x))) G (σ.set i (some v)) H := by
  have r1 := r.setN (o := some v) hf
  have hl : i < σ.length := by rw [r.len]; exact free_lt hf
  have old : ∀ (j : Nat) (s : S), (∀ y, s ≠ .vx y) → (ς.set i (some (.vx x)))[j]? = some (some s) → (ς.set i none)[j]? = some (some s) := fun j s ns q => by
    replace q := get_set q; rcases q with ⟨rfl, q⟩ | ⟨n, q⟩
    · cases q; exact absurd rfl (ns x)
    · rw [List.getElem?_set_ne n]; exact q
  have no1 : ∀ d y, S.pure d ≠ .vx y := fun d y z => by cases z
  have no2 : ∀ b ds y, S.own b ds ≠ .vx y := fun b ds y z => by cases z
  refine ⟨by rw [List.length_set, List.length_set, r.len], r.sub, r.g0, fun j d q => r1.pu j d (old j _ (no1 d) q), fun j b ds q => r1.ow j b ds (old j _ (no2 b ds) q), fun j k b c ds es a q1 q2 => r1.ap j k b c ds es a (old j _ (no2 b ds) q1) (old k _ (no2 c es) q2), fun j a q => ?_, r.fr, r.nw, fun j y q => ?_, fun j kvs q => ?_, fun j k kvs kws a q1 q2 q3 q4 => ?_⟩
  · obtain ⟨ds, e⟩ := r.par j a q
    have n : i ≠ j := fun z => by subst z; exact free_no hf e
    exact ⟨ds, by rw [List.getElem?_set_ne n]; exact e⟩
  · replace q := get_set q; rcases q with ⟨rfl, q⟩ | ⟨n, q⟩
    · cases q; exact ⟨v, List.getElem?_set_self hl, h⟩
    · rw [List.getElem?_set_ne n]; exact r.vx j y q
  · replace q := get_set q; rcases q with ⟨rfl, q⟩ | ⟨n, q⟩
    · cases q; exact absurd rfl (hx kvs)
    · exact (r.od j kvs q).keep (List.getElem?_set_ne n) (Same.refl _) fun a o e1 _ e2 => ⟨e1, e2⟩
  · replace q1 := get_set q1; rcases q1 with ⟨rfl, q1⟩ | ⟨n, q1⟩
    · cases q1; exact absurd rfl (hx kvs)
    replace q2 := get_set q2; rcases q2 with ⟨rfl, q2⟩ | ⟨m, q2⟩
    · cases q2; exact absurd rfl (hx kws)
    rw [List.getElem?_set_ne n] at q3
    rw [List.getElem?_set_ne m] at q4
    exact r.oa j k kvs kws a q1 q2 q3 q4
/-- a slot takes a new dict as its own -/
theorem Rel.setD (r : Rel K F ς G σ H) {i : Nat} {a : Addr} {o : HO} {kvs : List (D × D)} (hf : free ς i = true) (h1 : H a = some o) (h2 : DcAt K G o kvs) (h3 : G a = none) (h4 : F.H0 a = none) (h5 : ∀ (j : Nat) kws, ς[j]? = some (some (.vx (.odc kws))) → σ[j]? ≠ some (some (.ref a))) :
    Rel K F (ς.set i (some (.vx (.odc kvs)))) G (σ.set i (some (.ref a))) H := by
  have r1 := r.setN (o := some (.ref a)) hf
  have hl : i < σ.length := by rw [r.len]; exact free_lt hf
  have old : ∀ (j : Nat) (s : S), (∀ y, s ≠ .vx y) → (ς.set i (some (.vx (.odc kvs))))[j]? = some (some s) → (ς.set i none)[j]? = some (some s) := fun j s ns q => by
    replace q := get_set q; rcases q with ⟨rfl, q⟩ | ⟨n, q⟩
    · cases q; exact absurd rfl (ns _)
    · rw [List.getElem?_set_ne n]; exact q
  have no1 : ∀ d y, S.pure d ≠ .vx y := fun d y z => by cases z
  have no2 : ∀ b ds y, S.own b ds ≠ .vx y := fun b ds y z => by cases z
  refine ⟨by rw [List.length_set, List.length_set, r.len], r.sub, r.g0, fun j d q => r1.pu j d (old j _ (no1 d) q), fun j b ds q => r1.ow j b ds (old j _ (no2 b ds) q), fun j k b c ds es a q1 q2 => r1.ap j k b c ds es a (old j _ (no2 b ds) q1) (old k _ (no2 c es) q2), fun j a q => ?_, r.fr, r.nw, fun j y q => ?_, fun j kws q => ?_, fun j k kws kxs c q1 q2 q3 q4 => ?_⟩
  · obtain ⟨ds, e⟩ := r.par j a q
    have n : i ≠ j := fun z => by subst z; exact free_no hf e
    exact ⟨ds, by rw [List.getElem?_set_ne n]; exact e⟩
  · replace q := get_set q; rcases q with ⟨rfl, q⟩ | ⟨n, q⟩
    · cases q; exact ⟨_, List.getElem?_set_self hl, trivial⟩
    · rw [List.getElem?_set_ne n]; exact r.vx j y q
  · replace q := get_set q; rcases q with ⟨rfl, q⟩ | ⟨n, q⟩
    · cases q; exact ⟨a, o, List.getElem?_set_self hl, h1, h2, h3, h4⟩
    · exact (r.od j kws q).keep (List.getElem?_set_ne n) (Same.refl _) fun a o e1 _ e2 => ⟨e1, e2⟩
  · replace q1 := get_set q1; rcases q1 with ⟨rfl, q1⟩ | ⟨n, q1⟩
    · replace q2 := get_set q2; rcases q2 with ⟨rfl, q2⟩ | ⟨m, q2⟩
      · rfl
      · rw [List.getElem?_set_self hl] at q3; cases q3
        rw [List.getElem?_set_ne m] at q4
        exact absurd q4 (h5 k kxs q2)
    · replace q2 := get_set q2; rcases q2 with ⟨rfl, q2⟩ | ⟨m, q2⟩
      · rw [List.getElem?_set_self hl] at q4; cases q4
        rw [List.getElem?_set_ne n] at q3
        exact absurd q3 (h5 j kws q1)
      · rw [List.getElem?_set_ne n] at q3
        rw [List.getElem?_set_ne m] at q4
        exact r.oa j k kws kxs c q1 q2 q3 q4
/-- an own dict is frozen -/
theorem Rel.frzD (r : Rel K F ς G σ H) {i : Nat} {kvs : List (D × D)} (hi : ς[i]? = some (some (.vx (.odc kvs)))) :
    ∃ G' a, Rel K F (ς.set i (some (.pure (.dict kvs)))) G' σ H ∧ Same G G' ∧ σ[i]? = some (some (.ref a)) ∧ Dp K G' (.ref a) (.dict kvs) := by
  obtain ⟨a, o, e1, e2, e3, e4, e5⟩ := r.od i kvs hi
  have hxp : Dp K (upd G a o) (.ref a) (.dict kvs) := DcAt.dp upd_same (dc_same (same_upd e4) e3)
  refine ⟨upd G a o, a, ⟨by rw [List.length_set, r.len], ?_, r.g0.trans (same_upd e4), ?_, ?_, ?_, ?_, r.fr, ?_, fun j x q => ?_, fun j kws q => ?_, fun j k kxs kys c q1 q2 q3 q4 => ?_⟩, same_upd e4, e1, hxp⟩
  · intro b x e
    by_cases hb : b = a
    · subst hb; rw [upd_same] at e; rw [e2, e]
    · rw [upd_ne hb] at e; exact r.sub _ _ e
  · intro j d q
    replace q := get_set q; rcases q with ⟨rfl, q⟩ | ⟨n, q⟩
    · cases q; exact ⟨_, e1, hxp⟩
    · obtain ⟨v, f1, f2⟩ := r.pu j d q
      exact ⟨v, f1, dp_same (same_upd e4) f2⟩
  · intro j c fs q
    replace q := get_set q; rcases q with ⟨rfl, q⟩ | ⟨n, q⟩
    · cases q
    · obtain ⟨x, xs, f1, f2, f3, f4, f5⟩ := r.ow j c fs q
      have ne : x ≠ a := fun z => by subst z; rw [e2] at f2; cases f2; exact DcAt.lst e3
      exact ⟨x, xs, f1, f2, by rw [upd_ne ne]; exact f3, dpa_same (same_upd e4) f4, f5⟩
  · intro j k c d fs gs x q1 q2 q3 q4
    replace q1 := get_set q1; rcases q1 with ⟨rfl, q1⟩ | ⟨n, q1⟩
    · cases q1
    replace q2 := get_set q2; rcases q2 with ⟨rfl, q2⟩ | ⟨m, q2⟩
    · cases q2
    exact r.ap j k c d fs gs x q1 q2 q3 q4
  · intro j x q
    obtain ⟨fs, q2⟩ := r.par j x q
    have n : i ≠ j := fun z => by subst z; rw [hi] at q2; cases q2
    exact ⟨fs, by rw [List.getElem?_set_ne n]; exact q2⟩
  · intro c e
    by_cases hc : c = a
    · subst hc; exact .inr e5
    · rw [upd_ne hc] at e; exact r.nw c e
  · replace q := get_set q; rcases q with ⟨rfl, q⟩ | ⟨n, q⟩
    · cases q
    · obtain ⟨u, f1, f2⟩ := r.vx j x q
      exact ⟨u, f1, xp_same (same_upd e4) f2⟩
  · replace q := get_set q; rcases q with ⟨rfl, q⟩ | ⟨n, q⟩
    · cases q
    · obtain ⟨b, ob, f1, f2, f3, f4, f5⟩ := r.od j kws q
      have ne : b ≠ a := fun z => by subst z; exact n (r.oa i j kvs kws b hi q e1 f1)
      exact ⟨b, ob, f1, f2, dc_same (same_upd e4) f3, by rw [upd_ne ne]; exact f4, f5⟩
  · replace q1 := get_set q1; rcases q1 with ⟨rfl, q1⟩ | ⟨n, q1⟩
    · cases q1
    replace q2 := get_set q2; rcases q2 with ⟨rfl, q2⟩ | ⟨m, q2⟩
    · cases q2
    exact r.oa j k kxs kys c q1 q2 q3 q4
end
/-! ### readings -/
def toD : R → M D
  | .pure d => fun ς => some (d, ς)
  | .fresh ds => fun ς => some (.list ds, ς)
  | .ref i => fun ς => match ς[i]? with
    | some (some (.own false ds)) => some (.list ds, ς.set i (some (.pure (.list ds))))
    | some (some (.pure d)) => some (d, ς)
    | some (some (.vx (.odc kvs))) => some (.dict kvs, ς.set i (some (.pure (.dict kvs))))
    | _ => none
  | .vx (.odc kvs) => fun ς => some (.dict kvs, ς)
  | .vx (.exc _ _) => fun _ => none
def rdD : R → En → Option D
  | .vx _, _ => none
  | .pure d, _ => some d
  | .fresh ds, _ => some (.list ds)
  | .ref i, ς => match ς[i]? with
    | some (some (.own _ ds)) => some (.list ds)
    | some (some (.pure d)) => some d
    | _ => none
/-- what may be read at v: a datum, or a list whose items are data -/
def RdV (K : PySem.W.Frag) (G H : Hp) (v : V) (d : D) : Prop :=
  Dp K G v d ∨ ∃ a vs ds, v = .ref a ∧ d = .list ds ∧ H a = some (.lst vs) ∧ DpAll K G vs ds
section
variable {K : PySem.W.Frag} {F : Fx} {ς ς' : En} {G H : Hp} {σ : L2.St}
theorem toD_ok (r : Rel K F ς G σ H) {x : R} {v : V} {d : D} (h : RepR K F ς G σ H x v) (e : toD x ς = some (d, ς')) : ∃ G', Rel K F ς' G' σ H ∧ Same G G' ∧ Dp K G' v d := by
  cases x with
  | pure d' => cases e; exact ⟨G, r, Same.refl _, h⟩
  | vx x =>
    cases x with
    | exc nm d => cases e
    | odc kvs => cases e; exact r.frzFD h
  | fresh ds => cases e; exact r.frzF h
  | ref i =>
    unfold toD at e
    simp only at e
    split at e
    · rename_i ds q
      cases e
      obtain ⟨G', w, h1, h2, h3, h4⟩ := r.frzO q
      rw [show σ[i]? = some (some v) from h] at h3
      cases h3
      exact ⟨G', h1, h2, h4⟩
    · rename_i d' q
      cases e
      obtain ⟨w, h1, h2⟩ := r.pu i _ q
      rw [show σ[i]? = some (some v) from h] at h1
      cases h1
      exact ⟨G, r, Same.refl _, h2⟩
    · rename_i kvs q
      cases e
      obtain ⟨G', a, h1, h2, h3, h4⟩ := r.frzD q
      rw [show σ[i]? = some (some v) from h] at h3
      cases h3
      exact ⟨G', h1, h2, h4⟩
    · cases e
theorem rdD_ok (r : Rel K F ς G σ H) {x : R} {v : V} {d : D} (h : RepR K F ς G σ H x v) (e : rdD x ς = some d) : RdV K G H v d := by
  cases x with
  | pure d' => cases e; exact .inl h
  | fresh ds =>
    cases e
    obtain ⟨a, vs, rfl, h1, h2, h3, _⟩ := h
    exact .inr ⟨a, vs, ds, rfl, rfl, h1, h3⟩
  | vx x => cases e
  | ref i =>
    unfold rdD at e
    simp only at e
    split at e
    · rename_i b ds q
      cases e
      obtain ⟨a, vs, e1, e2, e3, e4, _⟩ := r.ow i _ _ q
      rw [show σ[i]? = some (some v) from h] at e1
      cases e1
      exact .inr ⟨a, vs, ds, rfl, rfl, e2, e4⟩
    · rename_i d' q
      cases e
      obtain ⟨w, h1, h2⟩ := r.pu i _ q
      rw [show σ[i]? = some (some v) from h] at h1
      cases h1
      exact .inl h2
    · cases e
theorem RdV.dp (r : Same G H) {v : V} {d : D} (h : RdV K G H v d) : Dp K H v d := by
  rcases h with h | ⟨a, vs, ds, rfl, rfl, h1, h2⟩
  · exact dp_same r h
  · exact .lst (.inl (.inl h1)) (dpa_same r h2)
theorem RdV.list (r : Same G H) {v : V} {ds : List D} (h : RdV K G H v (.list ds)) : ∃ a vs, v = .ref a ∧ SqL K H a vs ∧ DpAll K G vs ds := by
  rcases h with h | ⟨a, vs, ds', rfl, e, h1, h2⟩
  · obtain ⟨a, vs, rfl, h1, h2⟩ := dp_list h
    exact ⟨a, vs, rfl, r.seq h1, h2⟩
  · cases e; exact ⟨a, vs, rfl, .inl (.inl h1), h2⟩
theorem RdV.tuple (r : Same G H) {v : V} {ds : List D} (h : RdV K G H v (.tuple ds)) : ∃ a vs, v = .ref a ∧ SqT K H a vs ∧ DpAll K G vs ds := by
  rcases h with h | ⟨a, vs, ds', rfl, e, h1, h2⟩
  · obtain ⟨a, vs, rfl, h1, h2⟩ := dp_tuple h
    exact ⟨a, vs, rfl, same_seqT r h1, h2⟩
  · cases e
theorem RdV.int {v : V} {i : Int} (h : RdV K G H v (.int i)) : v = .int i := by
  rcases h with h | ⟨a, vs, ds', rfl, e, h1, h2⟩
  · exact dp_int h
  · cases e
theorem RdV.str {v : V} {i : Str} (h : RdV K G H v (.str i)) : v = .str i := by
  rcases h with h | ⟨a, vs, ds', rfl, e, h1, h2⟩
  · exact dp_str h
  · cases e
theorem RdV.bool {v : V} {i : Bool} (h : RdV K G H v (.bool i)) : v = .bl i := by
  rcases h with h | ⟨a, vs, ds', rfl, e, h1, h2⟩
  · exact dp_bool h
  · cases e
theorem RdV.none {v : V} (h : RdV K G H v .none) : v = .non := by
  rcases h with h | ⟨a, vs, ds', rfl, e, h1, h2⟩
  · exact dp_none h
  · cases e
/-- what stays readable while data grow: a datum, or a slot -/
def R.kp : R → Prop
  | .fresh _ => False
  | .vx (.odc _) => False
  | _ => True
theorem rep_keep {G' H' : Hp} {x : R} {v : V} (h : RepR K F ς G σ H x v) (hx : x.kp) (e : Same G G') : RepR K F ς' G' σ H' x v := by
  cases x with
  | pure d => exact dp_same e h
  | ref i => exact h
  | fresh ds => exact hx.elim
  | vx x =>
    cases x with
    | exc nm d => exact xp_same (x := .exc nm d) e h
    | odc kvs => exact hx.elim
end
end Lw
namespace Lw
open PySem PySem.Spec PyProof.Rows L2
/-! ### programs over the state -/
def ret {α : Type} (a : α) : M α := fun ς => some (a, ς)
def bd {α β : Type} (f : M α) (g : α → M β) : M β := fun ς => match f ς with
  | some (a, ς') => g a ς'
  | none => none
def lift {α : Type} (o : Option α) : M α := fun ς => match o with
  | some a => some (a, ς)
  | none => none
def rd (r : R) : M D := fun ς => match rdD r ς with
  | some d => some (d, ς)
  | none => none
def sub (f : M R) : M R := bd f fun r => match r with
  | .fresh ds => ret (.pure (.list ds))
  | .vx (.odc kvs) => ret (.pure (.dict kvs))
  | r => ret r
def esc (f : M R) : M D := bd f toD
theorem bd_some {α β : Type} {f : M α} {g : α → M β} {ς : En} {x : β × En} (h : bd f g ς = some x) : ∃ a ς1, f ς = some (a, ς1) ∧ g a ς1 = some x := by
  unfold bd at h
  split at h
  · rename_i a ς1 e; exact ⟨a, ς1, e, h⟩
  · cases h
theorem lift_some {α : Type} {o : Option α} {ς ς' : En} {x : α} (h : lift o ς = some (x, ς')) : o = some x ∧ ς' = ς := by
  unfold lift at h
  split at h
  · cases h; exact ⟨rfl, rfl⟩
  · cases h
theorem rd_some {r : R} {ς ς' : En} {x : D} (h : rd r ς = some (x, ς')) : rdD r ς = some x ∧ ς' = ς := by
  unfold rd at h
  split at h
  · rename_i d e; cases h; exact ⟨e, rfl⟩
  · cases h
theorem sub_nf {f : M R} {ς ς' : En} {r : R} (h : sub f ς = some (r, ς')) : r.kp := by
  obtain ⟨a, ς1, _, h⟩ := bd_some h
  cases a with
  | vx x => cases x <;> cases h <;> trivial
  | _ => cases h; trivial
/-! ### readings by such programs -/
section
variable (K : PySem.W.Frag) (F : Fx)
def tEv (f : M R) : TE := fun σ H Q => ∃ ς G, Rel K F ς G σ H ∧ ∃ r ς', f ς = some (r, ς') ∧ ∀ v H' G', Rel K F ς' G' σ H' → Same G G' → RepR K F ς' G' σ H' r v → Q v H'
def tEvD (f : M D) : TE := fun σ H Q => ∃ ς G, Rel K F ς G σ H ∧ ∃ d ς', f ς = some (d, ς') ∧ ∀ v H' G', Rel K F ς' G' σ H' → Same G G' → Dp K G' v d → Q v H'
def tEvT (f : M Bool) : TT := fun σ H Q => ∃ ς G, Rel K F ς G σ H ∧ ∃ b ς', f ς = some (b, ς') ∧ ∀ H' G', Rel K F ς' G' σ H' → Same G G' → Q b H'
inductive Ar where
  | val (d : D)
  | ref (i : Nat)
def RepAr (G : Hp) (σ : L2.St) : Ar → V → Prop
  | .val d, v => Dp K G v d
  | .ref i, v => σ[i]? = some (some v)
def tEvA (f : M (List Ar)) : TA := fun σ H Q => ∃ ς G, Rel K F ς G σ H ∧ ∃ as ς', f ς = some (as, ς') ∧ ∀ vs H' G', Rel K F ς' G' σ H' → Same G G' → Paired (RepAr K G' σ) as vs → Q vs H'
end
theorem _root_.L2.PE.mono {X : Cx} {e : Expr} {t t' : TE} (h : PE X e t) (k : ∀ σ H Q, t' σ H Q → t σ H Q) : PE X e t' := ⟨fun pins s σ H Q I hw => h.run pins s σ H Q I (k σ H Q hw)⟩
theorem _root_.L2.PT.mono {X : Cx} {e : Expr} {t t' : TT} (h : PT X e t) (k : ∀ σ H Q, t' σ H Q → t σ H Q) : PT X e t' := ⟨fun pins s σ H Q I hw => h.run pins s σ H Q I (k σ H Q hw)⟩
theorem _root_.L2.PW.mono {X : Cx} {e : Expr} {t t' : TT} (h : PW X e t) (k : ∀ σ H Q, t' σ H Q → t σ H Q) : PW X e t' := ⟨fun w pins s σ H Q I hw => h.run w pins s σ H Q I (k σ H Q hw)⟩
theorem _root_.L2.PA.mono {X : Cx} {e : List Expr} {t t' : TA} (h : PA X e t) (k : ∀ σ H Q, t' σ H Q → t σ H Q) : PA X e t' := ⟨fun p pins s σ H Q I hw => h.run p pins s σ H Q I (k σ H Q hw)⟩
theorem _root_.L2.PS.mono {X : Cx} {e : Stmt} {t t' : TS} (h : PS X e t) (k : ∀ D σ H, t' D σ H → t D σ H) : PS X e t' := ⟨fun pins s σ H D I hw => h.run pins s σ H D I (k D σ H hw)⟩
theorem _root_.L2.PSs.mono {X : Cx} {e : List Stmt} {t t' : TS} (h : PSs X e t) (k : ∀ D σ H, t' D σ H → t D σ H) : PSs X e t' := ⟨fun pins s σ H D I hw => h.run pins s σ H D I (k D σ H hw)⟩
abbrev PEd (X : Cx) (e : Expr) (f : M R) : Prop := ∀ F : Fx, PE X e (tEv X.K F f)
abbrev PDd (X : Cx) (e : Expr) (f : M D) : Prop := ∀ F : Fx, PE X e (tEvD X.K F f)
abbrev PTd (X : Cx) (e : Expr) (f : M Bool) : Prop := ∀ F : Fx, PT X e (tEvT X.K F f)
abbrev PWd (X : Cx) (e : Expr) (f : M Bool) : Prop := ∀ F : Fx, PW X e (tEvT X.K F f)
abbrev PAd (X : Cx) (es : List Expr) (f : M (List Ar)) : Prop := ∀ F : Fx, PA X es (tEvA X.K F f)
section
variable {X : Cx} {F : Fx} {a b c e : Expr} {es : List Expr} {fa fb fc f : M R} {pos : Pos}
def vr (i : Nat) : M R := fun ς => match ς[i]? with
  | some (some (.pure d)) => some (.pure d, ς)
  | some (some (.own _ _)) => some (.ref i, ς)
  | some (some (.vx _)) => some (.ref i, ς)
  | _ => none
theorem d_var (i : Nat) {x : Str} (h : PE X (.Name x pos) (tVar i)) : PEd X (.Name x pos) (vr i) := fun F => h.mono fun σ H Q hq => by
  obtain ⟨ς, G, rl, r, ς', e, k⟩ := hq
  unfold vr at e
  split at e
  · rename_i d q
    cases e
    obtain ⟨v, h1, h2⟩ := rl.pu i d q
    exact ⟨v, h1, k v H G rl (Same.refl _) h2⟩
  · rename_i b ds q
    cases e
    obtain ⟨a, vs, h1, _⟩ := rl.ow i b ds q
    exact ⟨_, h1, k _ H G rl (Same.refl _) h1⟩
  · rename_i x q
    cases e
    obtain ⟨v, h1, h2⟩ := rl.vx i _ q
    exact ⟨v, h1, k v H G rl (Same.refl _) h1⟩
  · cases e
def cn (d : D) : M R := ret (.pure d)
theorem d_cn {v : V} {d : D} (h : PE X e (tC v)) (hd : ∀ G, Dp X.K G v d) : PEd X e (cn d) := fun F => h.mono fun σ H Q hq => by
  obtain ⟨ς, G, rl, r, ς', e, k⟩ := hq
  cases e
  exact k v H G rl (Same.refl _) (hd G)
theorem d_int {i : Int} {j : Nat} : PEd X (.Constant (.int i) j pos) (cn (.int i)) := d_cn pe_int fun _ => .int i
theorem d_str {x : Str} {j : Nat} : PEd X (.Constant (.str x) j pos) (cn (.str x)) := d_cn pe_str fun _ => .str x
theorem d_bl {x : Bool} {j : Nat} : PEd X (.Constant (.bool x) j pos) (cn (.bool x)) := d_cn pe_bl fun _ => .bl x
theorem d_non {j : Nat} : PEd X (.Constant .none j pos) (cn .none) := d_cn pe_non fun _ => .non
theorem d_gstr {x : Str} {z : Str} (h : PE X (.Name x pos) (tC (.str z))) : PEd X (.Name x pos) (cn (.str z)) := d_cn h fun _ => .str z
theorem d_sub (h : PEd X e f) : PEd X e (sub f) := fun F => (h F).mono fun σ H Q hq => by
  obtain ⟨ς, G, rl, r, ς', e, k⟩ := hq
  obtain ⟨r1, ς1, e1, e2⟩ := bd_some e
  refine ⟨ς, G, rl, r1, ς1, e1, fun v H' G' rl' s rep => ?_⟩
  cases r1 with
  | pure d => cases e2; exact k v H' G' rl' s rep
  | ref i => cases e2; exact k v H' G' rl' s rep
  | vx x =>
    cases x with
    | exc nm d => cases e2; exact k v H' G' rl' s rep
    | odc kvs =>
      cases e2
      obtain ⟨G2, rl2, s2, dp⟩ := rl'.frzFD rep
      exact k v H' G2 rl2 (s.trans s2) dp
  | fresh ds =>
    cases e2
    obtain ⟨G2, rl2, s2, dp⟩ := rl'.frzF rep
    exact k v H' G2 rl2 (s.trans s2) dp
theorem d_esc (h : PEd X e f) : PDd X e (esc f) := fun F => (h F).mono fun σ H Q hq => by
  obtain ⟨ς, G, rl, d, ς', e, k⟩ := hq
  obtain ⟨r1, ς1, e1, e2⟩ := bd_some e
  refine ⟨ς, G, rl, r1, ς1, e1, fun v H' G' rl' s rep => ?_⟩
  obtain ⟨G2, rl2, s2, dp⟩ := toD_ok rl' rep e2
  exact k v H' G2 rl2 (s.trans s2) dp
/-! ### operators on data -/
structure Op2 (X : Cx) (F : Fx) (r2 : R2) (g : D → D → Option R) : Prop where
  run : ∀ (ς : En) (G : Hp) (σ : L2.St) (H : Hp) (x y : V) (dx dy : D) (r : R) (Q : VK), Rel X.K F ς G σ H → RdV X.K G H x dx → RdV X.K G H y dy → g dx dy = some r →
    (∀ v H' G', Rel X.K F ς G' σ H' → Same G G' → RepR X.K F ς G' σ H' r v → Q v H') → r2 x y H Q
def op2 (g : D → D → Option R) (fa fb : M R) : M R := bd (sub fa) fun a => bd (sub fb) fun b => bd (rd a) fun x => bd (rd b) fun y => lift (g x y)
theorem t_op2 {r2 : R2} {g : D → D → Option R} (o : Op2 X F r2 g) : ∀ σ H Q, tEv X.K F (op2 g fa fb) σ H Q → tOp r2 (tEv X.K F (sub fa)) (tEv X.K F (sub fb)) σ H Q := fun σ H Q hq => by
  obtain ⟨ς, G, rl, r, ς', e, k⟩ := hq
  obtain ⟨a, ς1, e1, q1⟩ := bd_some e
  obtain ⟨b, ς2, e2, q2⟩ := bd_some q1
  obtain ⟨x, ς3, e3', q3⟩ := bd_some q2
  obtain ⟨e3, rfl⟩ := rd_some e3'
  obtain ⟨y, ς4, e4', q4⟩ := bd_some q3
  obtain ⟨e4, rfl⟩ := rd_some e4'
  obtain ⟨e5, rfl⟩ := lift_some q4
  refine ⟨ς, G, rl, a, ς1, e1, fun v H1 G1 rl1 s1 rep1 => ⟨ς1, G1, rl1, b, ς', e2, fun w H2 G2 rl2 s2 rep2 => ?_⟩⟩
  have rep1' : RepR X.K F ς' G2 σ H2 a v := rep_keep rep1 (sub_nf e1) s2
  exact o.run ς' G2 σ H2 v w x y r Q rl2 (rdD_ok rl2 rep1' e3) (rdD_ok rl2 rep2 e4) e5 fun u H' G' rl' s rep => k u H' G' rl' (s1.trans (s2.trans s)) rep
theorem d_op {op : Operator} {r2 : R2} {g : D → D → Option R} (ho : OpR X (binaryOp op) r2) (o : ∀ F, Op2 X F r2 g) (ha : PEd X a fa) (hb : PEd X b fb) : PEd X (.BinOp a op b pos) (op2 g fa fb) :=
  fun F => PE.mono (pe_op ho (d_sub ha F) (d_sub hb F)) (t_op2 (o F))
theorem d_cmp {op : CmpOp} {r2 : R2} {g : D → D → Option R} (ho : OpR X (compareOp op) r2) (o : ∀ F, Op2 X F r2 g) (ha : PEd X a fa) (hb : PEd X b fb) (hm : behindInMarks op b = false) : PEd X (.Compare a [op] [b] pos) (op2 g fa fb) :=
  fun F => PE.mono (pe_cmpR ho (d_sub ha F) (d_sub hb F) hm) (t_op2 (o F))
/-- ints -/
def gI (C : Int → Int → Bool) (h : Int → Int → D) : D → D → Option R
  | .int i, .int j => if C i j then some (.pure (h i j)) else none
  | _, _ => none
def gI0 (h : Int → Int → D) : D → D → Option R
  | .int i, .int j => some (.pure (h i j))
  | _, _ => none
theorem op2_I {C : Int → Int → Prop} {c : Int → Int → Bool} {g : Int → Int → V} {h : Int → Int → D} (hc : ∀ i j, c i j = true → C i j) (hg : ∀ i j G, Dp X.K G (g i j) (h i j)) : Op2 X F (rI C g) (gI c h) := ⟨fun ς G σ H x y dx dy r Q rl hx hy e k => by
  cases dx with
  | int i =>
    cases dy with
    | int j =>
      replace e : (if c i j = true then some (R.pure (h i j)) else none) = some r := e
      by_cases q : c i j = true
      · rw [if_pos q] at e
        cases e
        exact ⟨i, j, hx.int, hy.int, hc i j q, k _ H G rl (Same.refl _) (hg i j G)⟩
      · rw [if_neg q] at e; cases e
    | _ => cases e
  | _ => cases e⟩
theorem op2_I0 {g : Int → Int → V} {h : Int → Int → D} (hg : ∀ i j G, Dp X.K G (g i j) (h i j)) : Op2 X F (rI0 g) (gI0 h) := ⟨fun ς G σ H x y dx dy r Q rl hx hy e k => by
  cases dx with
  | int i =>
    cases dy with
    | int j =>
      cases e
      exact ⟨i, j, hx.int, hy.int, k _ H G rl (Same.refl _) (hg i j G)⟩
    | _ => cases e
  | _ => cases e⟩
def orG (g g' : D → D → Option R) (x y : D) : Option R := match g x y with
  | some z => some z
  | none => g' x y
theorem Op2.or {r r' : R2} {g g' : D → D → Option R} (h : Op2 X F r g) (h' : Op2 X F r' g') : Op2 X F (fun x y H Q => r x y H Q ∨ r' x y H Q) (orG g g') := ⟨fun ς G σ H x y dx dy r Q rl hx hy e k => by
  unfold orG at e
  split at e
  · rename_i z q
    cases e
    exact .inl (h.run ς G σ H x y dx dy _ Q rl hx hy q k)
  · exact .inr (h'.run ς G σ H x y dx dy _ Q rl hx hy e k)⟩
theorem op2_sub : Op2 X F (rI0 fun i j => .int (i - j)) (gI0 fun i j => .int (i - j)) := op2_I0 fun _ _ _ => .int _
theorem op2_lt : Op2 X F (rI0 fun i j => .bl (decide (i < j))) (gI0 fun i j => .bool (decide (i < j))) := op2_I0 fun _ _ _ => .bl _
theorem op2_gt : Op2 X F (rI0 fun i j => .bl (decide (j < i))) (gI0 fun i j => .bool (decide (j < i))) := op2_I0 fun _ _ _ => .bl _
theorem op2_ge : Op2 X F (rI0 fun i j => .bl (decide (j ≤ i))) (gI0 fun i j => .bool (decide (j ≤ i))) := op2_I0 fun _ _ _ => .bl _
def cMul (i j : Int) : Bool := (decide (-(2 ^ 64) < i) && decide (i < 2 ^ 64)) || (decide (-(2 ^ 64) < j) && decide (j < 2 ^ 64))
theorem op2_mulI : Op2 X F (rI CMul fun i j => .int (i * j)) (gI cMul fun i j => .int (i * j)) := op2_I (fun i j h => by
  unfold cMul at h
  simp only [Bool.or_eq_true, Bool.and_eq_true, decide_eq_true_eq] at h
  exact h) fun _ _ _ => .int _
def cDiv (_ j : Int) : Bool := decide (0 < j) && decide (j < 2 ^ 200)
theorem op2_fdiv : Op2 X F (rI CDivW fun i j => .int (i / j)) (gI cDiv fun i j => .int (i / j)) := op2_I (fun i j h => by
  unfold cDiv at h
  simp only [Bool.and_eq_true, decide_eq_true_eq] at h
  refine wide_div (b := 200) h.1 ?_ (by decide) (by decide)
  have h2 : j.toNat < 2 ^ 200 := by
    have := Int.toNat_lt (n := 2 ^ 200) (by omega : 0 ≤ j)
    rw [this]
    exact_mod_cast h.2
  omega) fun _ _ _ => .int _
theorem op2_mod : Op2 X F (rI (fun _ j => 0 < j) fun i j => .int (i % j)) (gI (fun _ j => decide (0 < j)) fun i j => .int (i % j)) := op2_I (fun i j h => of_decide_eq_true h) fun _ _ _ => .int _
def cPow (i j : Int) : Bool := decide (0 ≤ j) && decide (j ≤ 1000000) && decide (i.natAbs < 2 ^ 64)
theorem op2_pow : Op2 X F (rI CPow fun i j => .int (i ^ j.toNat)) (gI cPow fun i j => .int (i ^ j.toNat)) := op2_I (fun i j h => by
  unfold cPow at h
  simp only [Bool.and_eq_true, decide_eq_true_eq] at h
  exact ⟨h.1.1, h.1.2, h.2⟩) fun _ _ _ => .int _
end
end Lw
namespace Lw
open PySem PySem.Spec PyProof.Rows L2
section
variable {X : Cx} {F : Fx} {a b c e : Expr} {es : List Expr} {fa fb fc f : M R} {pos : Pos}
/-! ### + on texts, lists, tuples -/
def rCatL (K : PySem.W.Frag) : R2 := fun x y H Q => ∃ l b xs zs, x = .ref l ∧ y = .ref b ∧ SqL K H l xs ∧ SqL K H b zs ∧ xs.length + zs.length ≤ sizeLine ∧ ∀ p, H p = none → Q (.ref p) (upd H p (.lst (xs ++ zs)))
theorem op_catL : OpR X (binaryOp .Add) (rCatL X.K) := by
  intro pins s σ H x y v u Q I rx ry h
  obtain ⟨l, b, xs, zs, rfl, rfl, hH, hB, hz, q⟩ := h
  cases rx
  cases ry
  obtain ⟨its, r, pl, _⟩ := I.list hH
  obtain ⟨its2, r2, pl2, _⟩ := I.list hB
  obtain ⟨⟨cls, dd, data, sl⟩, ho, hc, n, hd⟩ := pl.isList
  obtain ⟨⟨cls2, dd2, data2, sl2⟩, ho2, hc2, n2, hd2⟩ := pl2.isList
  simp only at hc hd hc2 hd2
  subst hc hd hc2 hd2
  have e : its.toArray ++ its2.toArray = (its ++ its2).toArray := by simp
  have hl := r.length
  have hl2 := r2.length
  refine concat_meets ⟨_, ho, rfl⟩ ⟨_, ho2, rfl⟩ noFill_list_add seq_list_add PySem.F.slot_list_add PySem.F.entry_list_add (PySem.F.args_list_add_2 _ _) (list_addW l b its.toArray its2.toArray n n2 dd dd2 sl sl2 (by rw [List.size_toArray, List.size_toArray]; omega)) ⟨ho, ho2, ?_⟩
  rw [e]
  exact ⟨.ref _, _, I.lnew (t' := s.toks) (r.append r2) (by rw [List.length_append]; omega), rfl, q _ I.fresh⟩
def gStr : D → D → Option R
  | .str x, .str y => if x.length + y.length ≤ sizeLine then some (.pure (.str (x ++ y))) else none
  | _, _ => none
theorem op2_str : Op2 X F (fun x y H Q => ∃ i j, x = .str i ∧ y = .str j ∧ i.length + j.length ≤ sizeLine ∧ Q (.str (i ++ j)) H) gStr := ⟨fun ς G σ H x y dx dy r Q rl hx hy e k => by
  cases dx with
  | str i =>
    cases dy with
    | str j =>
      replace e : (if i.length + j.length ≤ sizeLine then some (R.pure (.str (i ++ j))) else none) = some r := e
      by_cases q : i.length + j.length ≤ sizeLine
      · rw [if_pos q] at e
        cases e
        exact ⟨i, j, hx.str, hy.str, q, k _ H G rl (Same.refl _) (.str _)⟩
      · rw [if_neg q] at e; cases e
    | _ => cases e
  | _ => cases e⟩
def gCatL : D → D → Option R
  | .list x, .list y => if x.length + y.length ≤ sizeLine then some (.fresh (x ++ y)) else none
  | _, _ => none
theorem op2_catL : Op2 X F (rCatL X.K) gCatL := ⟨fun ς G σ H x y dx dy r Q rl hx hy e k => by
  cases dx with
  | list i =>
    cases dy with
    | list j =>
      replace e : (if i.length + j.length ≤ sizeLine then some (R.fresh (i ++ j)) else none) = some r := e
      by_cases q : i.length + j.length ≤ sizeLine
      · rw [if_pos q] at e
        cases e
        obtain ⟨p, vs, rfl, h1, h2⟩ := hx.list rl.sub
        obtain ⟨p', vs', rfl, h1', h2'⟩ := hy.list rl.sub
        refine ⟨p, p', vs, vs', rfl, rfl, h1, h1', by rw [dpa_len h2, dpa_len h2']; exact q, fun z hz => ?_⟩
        exact k _ _ G (rl.layF hz) (Same.refl _) (rl.repF hz (dpa_app h2 h2'))
      · rw [if_neg q] at e; cases e
    | _ => cases e
  | _ => cases e⟩
def gCatT : D → D → Option R
  | .tuple x, .tuple y => if x.length + y.length ≤ sizeLine then some (.pure (.tuple (x ++ y))) else none
  | _, _ => none
theorem op2_catT : Op2 X F (rCatA X.K) gCatT := ⟨fun ς G σ H x y dx dy r Q rl hx hy e k => by
  cases dx with
  | tuple i =>
    cases dy with
    | tuple j =>
      replace e : (if i.length + j.length ≤ sizeLine then some (R.pure (.tuple (i ++ j))) else none) = some r := e
      by_cases q : i.length + j.length ≤ sizeLine
      · rw [if_pos q] at e
        cases e
        obtain ⟨p, vs, rfl, h1, h2⟩ := hx.tuple rl.sub
        obtain ⟨p', vs', rfl, h1', h2'⟩ := hy.tuple rl.sub
        refine ⟨p, p', vs, vs', rfl, rfl, h1, h1', by rw [dpa_len h2, dpa_len h2']; exact q, fun z => ?_, fun _ z => ?_, fun _ _ z hz => ?_⟩
        · subst z
          cases h2
          rcases hy with hy | ⟨_, _, _, _, e, _⟩
          · exact k _ H G rl (Same.refl _) hy
          · cases e
        · subst z
          cases h2'
          rw [List.append_nil] at k
          rcases hx with hx | ⟨_, _, _, _, e, _⟩
          · exact k _ H G rl (Same.refl _) hx
          · cases e
        · exact k _ _ _ (rl.lay hz) (same_upd (rl.gnone hz)) (rl.layD hz (dpa_app h2 h2'))
      · rw [if_neg q] at e; cases e
    | _ => cases e
  | _ => cases e⟩
theorem d_fdiv (ha : PEd X a fa) (hb : PEd X b fb) : PEd X (.BinOp a .FloorDiv b pos) (op2 (gI cDiv fun i j => .int (i / j)) fa fb) := d_op op_fdivW (fun _ => op2_fdiv) ha hb
theorem d_mod (ha : PEd X a fa) (hb : PEd X b fb) : PEd X (.BinOp a .Mod b pos) (op2 (gI (fun _ j => decide (0 < j)) fun i j => .int (i % j)) fa fb) := d_op op_mod (fun _ => op2_mod) ha hb
theorem d_pow (ha : PEd X a fa) (hb : PEd X b fb) : PEd X (.BinOp a .Pow b pos) (op2 (gI cPow fun i j => .int (i ^ j.toNat)) fa fb) := d_op op_pow (fun _ => op2_pow) ha hb
def gRepT : D → D → Option R
  | .tuple xs, .int k => if xs ≠ [] ∧ 2 ≤ k ∧ k ≤ 1000 ∧ xs.length ≤ 1000 then some (.pure (.tuple (List.replicate k.toNat xs).flatten)) else none
  | _, _ => none
theorem op2_repT : Op2 X F (rRepT X.K) gRepT := ⟨fun ς G σ H x y dx dy r Q rl hx hy e k => by
  cases dx with
  | tuple i =>
    cases dy with
    | int j =>
      replace e : (if i ≠ [] ∧ 2 ≤ j ∧ j ≤ 1000 ∧ i.length ≤ 1000 then some (R.pure (.tuple (List.replicate j.toNat i).flatten)) else none) = some r := e
      by_cases q : i ≠ [] ∧ 2 ≤ j ∧ j ≤ 1000 ∧ i.length ≤ 1000
      · rw [if_pos q] at e
        cases e
        obtain ⟨p, vs, rfl, h1, h2⟩ := hx.tuple rl.sub
        refine ⟨p, j, vs, rfl, hy.int, h1, fun z => q.1 (by subst z; cases h2; rfl), q.2.1, q.2.2.1, by rw [dpa_len h2]; exact q.2.2.2, fun z hz => ?_⟩
        exact k _ _ _ (rl.lay hz) (same_upd (rl.gnone hz)) (rl.layD hz (dpa_rep _ h2))
      · rw [if_neg q] at e; cases e
    | _ => cases e
  | _ => cases e⟩
/-! ### comparisons -/
/-- texts are held beside one another whatever signs they have -/
def gEqS : D → D → Option R
  | .str a, .str b => some (.pure (.bool (decide (a = b))))
  | _, _ => none
def gNeS : D → D → Option R
  | .str a, .str b => some (.pure (.bool (!decide (a = b))))
  | _, _ => none
def gEq0 (x y : D) : Option R := if SeqAt.shaped x = true ∧ SeqAt.shaped y = true then some (.pure (.bool (PyData.eqv x y))) else none
def gNe0 (x y : D) : Option R := if SeqAt.shaped x = true ∧ SeqAt.shaped y = true then some (.pure (.bool (!PyData.eqv x y))) else none
def gEq : D → D → Option R := orG gEqS gEq0
def gNe : D → D → Option R := orG gNeS gNe0
theorem op2_eqS : Op2 X F rEq gEqS := ⟨fun ς G σ H x y dx dy r Q rl hx hy e k => by
  cases dx with
  | str i =>
    cases dy with
    | str j =>
      cases e
      cases hx.str
      cases hy.str
      exact ⟨rfl, by
        have := k (.bl (decide (i = j))) H G rl (Same.refl _) (.bl _)
        rw [show decide (V.str i = V.str j) = decide (i = j) by simp]
        exact this⟩
    | _ => cases e
  | _ => cases e⟩
theorem op2_neS : Op2 X F rNe gNeS := ⟨fun ς G σ H x y dx dy r Q rl hx hy e k => by
  cases dx with
  | str i =>
    cases dy with
    | str j =>
      cases e
      cases hx.str
      cases hy.str
      exact ⟨rfl, by
        have := k (.bl (!decide (i = j))) H G rl (Same.refl _) (.bl _)
        rw [show decide (V.str i = V.str j) = decide (i = j) by simp]
        exact this⟩
    | _ => cases e
  | _ => cases e⟩
theorem op2_eq : Op2 X F (rEqD X.K) gEq0 := ⟨fun ς G σ H x y dx dy r Q rl hx hy e k => by
  unfold gEq0 at e
  split at e
  · rename_i q
    cases e
    exact ⟨dx, dy, dp_lib (hx.dp rl.sub) (nd_shaped q.1), dp_lib (hy.dp rl.sub) (nd_shaped q.2), q.1, q.2, k _ H G rl (Same.refl _) (.bl _)⟩
  · cases e⟩
theorem op2_ne : Op2 X F (rNeD X.K) gNe0 := ⟨fun ς G σ H x y dx dy r Q rl hx hy e k => by
  unfold gNe0 at e
  split at e
  · rename_i q
    cases e
    exact ⟨dx, dy, dp_lib (hx.dp rl.sub) (nd_shaped q.1), dp_lib (hy.dp rl.sub) (nd_shaped q.2), q.1, q.2, k _ H G rl (Same.refl _) (.bl _)⟩
  · cases e⟩
def isNone : D → Bool
  | .none => true
  | _ => false
theorem isNone_V {K : PySem.W.Frag} {G H : Hp} {x : V} {d : D} (h : RdV K G H x d) : decide (x = V.non) = isNone d := by
  rcases h with h | ⟨a, vs, ds, rfl, rfl, _⟩
  · cases h <;> first | exact decide_eq_true rfl | exact decide_eq_false (by intro z; cases z)
  · exact decide_eq_false (by intro z; cases z)
def gIs : D → D → Option R
  | x, .none => some (.pure (.bool (isNone x)))
  | _, _ => none
def gIsNot : D → D → Option R
  | x, .none => some (.pure (.bool (!isNone x)))
  | _, _ => none
theorem op2_is : Op2 X F (fun x y H Q => y = .non ∧ Q (.bl (decide (x = .non))) H) gIs := ⟨fun ς G σ H x y dx dy r Q rl hx hy e k => by
  cases dy with
  | none =>
    cases e
    exact ⟨hy.none, k _ H G rl (Same.refl _) (by rw [isNone_V hx]; exact .bl _)⟩
  | _ => cases e⟩
theorem op2_isNot : Op2 X F (fun x y H Q => y = .non ∧ Q (.bl (!decide (x = .non))) H) gIsNot := ⟨fun ς G σ H x y dx dy r Q rl hx hy e k => by
  cases dy with
  | none =>
    cases e
    exact ⟨hy.none, k _ H G rl (Same.refl _) (by rw [isNone_V hx]; exact .bl _)⟩
  | _ => cases e⟩
/-! ### x in data -/
def items : D → Option (List D)
  | .list ds => some ds
  | .tuple ds => some ds
  | _ => none
theorem items_ok {K : PySem.W.Frag} {G H : Hp} {x : V} {d : D} {ds : List D} (s : Same G H) (h : RdV K G H x d) (e : items d = some ds) : ∃ p xs, x = .ref p ∧ (SqL K H p xs ∨ SqT K H p xs) ∧ DpAll K G xs ds := by
  cases d with
  | list es => cases e; obtain ⟨p, vs, rfl, h1, h2⟩ := h.list s; exact ⟨p, vs, rfl, .inl h1, h2⟩
  | tuple es => cases e; obtain ⟨p, vs, rfl, h1, h2⟩ := h.tuple s; exact ⟨p, vs, rfl, .inr h1, h2⟩
  | _ => cases e
/-! ### a op b op c -/
def bOf : R → Option Bool
  | .pure (.bool b) => some b
  | _ => none
def chn (g g' : D → D → Option R) (fa fb fc : M R) : M R := bd (sub fa) fun a => bd (sub fb) fun b => bd (rd a) fun x => bd (rd b) fun y => bd (lift (g x y)) fun r => bd (lift (bOf r)) fun k =>
  if k = true then bd (sub fc) fun c => bd (rd b) fun y => bd (rd c) fun z => lift (g' y z) else ret (.pure (.bool false))
end
end Lw
namespace Lw
open PySem PySem.Spec PyProof.Rows L2
section
variable {X : Cx} {F : Fx} {a b c e : Expr} {es : List Expr} {fa fb fc f : M R} {ta tb : M Bool} {pos : Pos} {rest : List Expr}
/-! ### tests -/
def tst (f : M R) : M Bool := bd (sub f) fun r => bd (rd r) fun d => lift (match d with | .bool b => some b | _ => none)
def truD : D → Option Bool
  | .none => some false
  | .bool b => some b
  | .int i => some (i != 0)
  | .str x => if x.length ≤ sizeLine then some ((x.length : Int) != 0) else none
  | .list ds => some (!ds.isEmpty)
  | .tuple ds => some (!ds.isEmpty)
  | _ => none
def tru (f : M R) : M Bool := bd (sub f) fun r => bd (rd r) fun d => lift (truD d)
theorem t_tst : ∀ σ H Q, tEvT X.K F (tst f) σ H Q → (tEv X.K F (sub f)) σ H fun x H' => ∃ k, x = .bl k ∧ Q k H' := fun σ H Q hq => by
  obtain ⟨ς, G, rl, r, ς', e, k⟩ := hq
  obtain ⟨a, ς1, e1, q1⟩ := bd_some e
  obtain ⟨x, ς3, e3', q3⟩ := bd_some q1
  obtain ⟨e3, h3⟩ := rd_some e3'
  obtain ⟨e4, h4⟩ := lift_some q3
  subst h3 h4
  refine ⟨ς, G, rl, a, _, e1, fun v H1 G1 rl1 s1 rep1 => ?_⟩
  have rv := rdD_ok rl1 rep1 e3
  cases x with
  | bool b => cases e4; exact ⟨_, rv.bool, k H1 G1 rl1 s1⟩
  | _ => cases e4
theorem d_tstC {op : CmpOp} {r2 : R2} {g : D → D → Option R} (ho : OpR X (compareOp op) r2) (o : ∀ F, Op2 X F r2 g) (ha : PEd X a fa) (hb : PEd X b fb) (hm : behindInMarks op b = false) : PTd X (.Compare a [op] [b] pos) (tst (op2 g fa fb)) :=
  fun F => PT.mono (pt_cmpR ho (d_sub ha F) (d_sub hb F) hm) fun σ H Q hq => t_op2 (o F) σ H _ (by
    obtain ⟨ς, G, rl, r, ς', e, k⟩ := t_tst σ H Q hq
    obtain ⟨r1, ς1, e1, q1⟩ := bd_some e
    refine ⟨ς, G, rl, r1, ς1, e1, fun v H' G' rl' s rep => ?_⟩
    cases r1 with
    | pure d => cases q1; exact k v H' G' rl' s rep
    | ref i => cases q1; exact k v H' G' rl' s rep
    | vx x =>
      cases x with
      | exc nm d => cases q1; exact k v H' G' rl' s rep
      | odc kvs =>
        cases q1
        obtain ⟨G2, rl2, s2, dp⟩ := rl'.frzFD rep
        exact k v H' G2 rl2 (s.trans s2) dp
    | fresh ds =>
      cases q1
      obtain ⟨G2, rl2, s2, dp⟩ := rl'.frzF rep
      exact k v H' G2 rl2 (s.trans s2) dp)
theorem truV_of {K : PySem.W.Frag} {G H : Hp} {x : V} {d : D} {k : Bool} (s : Same G H) (h : RdV K G H x d) (e : truD d = some k) : TruV K x H k := by
  cases d with
  | none => cases e; rw [h.none]; rfl
  | bool b => cases e; rw [h.bool]; rfl
  | int i => cases e; rw [h.int]; rfl
  | str y =>
    rw [h.str]
    unfold truD at e
    simp only at e
    split at e
    · rename_i q; cases e; exact ⟨q, rfl⟩
    · cases e
  | list ds =>
    cases e
    obtain ⟨p, vs, rfl, h1, h2⟩ := h.list s
    refine .inl ⟨vs, h1, ?_⟩
    cases h2 <;> rfl
  | tuple ds =>
    cases e
    obtain ⟨p, vs, rfl, h1, h2⟩ := h.tuple s
    refine .inr (.inl ⟨vs, h1, ?_⟩)
    cases h2 <;> rfl
  | dict _ => cases e
theorem d_tru (h : PEd X e f) (he : ∀ whole, isTrue e X.env whole = (do let v ← whole; standAt e.pos; holding [v] (truthy v)) := by intro _; rfl) : PTd X e (tru f) :=
  fun F => PT.mono (pt_truth (d_sub h F) he) fun σ H Q hq => by
    obtain ⟨ς, G, rl, r, ς', e, k⟩ := hq
    obtain ⟨a, ς1, e1, q1⟩ := bd_some e
    obtain ⟨x, ς3, e3', q3⟩ := bd_some q1
    obtain ⟨e3, h3⟩ := rd_some e3'
    obtain ⟨e4, h4⟩ := lift_some q3
    subst h3 h4
    exact ⟨ς, G, rl, a, _, e1, fun v H1 G1 rl1 s1 rep1 => ⟨_, truV_of rl1.sub (rdD_ok rl1 rep1 e3) e4, k H1 G1 rl1 s1⟩⟩
def andT (ta tb : M Bool) : M Bool := bd ta fun k => if k = true then tb else ret false
def orT (ta tb : M Bool) : M Bool := bd ta fun k => if k = true then ret true else tb
def notT (ta : M Bool) : M Bool := bd ta fun k => ret (!k)
theorem t_orT : ∀ σ H Q, tEvT X.K F (orT ta tb) σ H Q → tOr (tEvT X.K F ta) (tEvT X.K F tb) σ H Q := fun σ H Q hq => by
  obtain ⟨ς, G, rl, r, ς', e, k⟩ := hq
  obtain ⟨a, ς1, e1, q1⟩ := bd_some e
  refine ⟨ς, G, rl, a, ς1, e1, fun H1 G1 rl1 s1 => ?_⟩
  cases a with
  | true => rw [if_pos rfl] at q1 ⊢; cases q1; exact k H1 G1 rl1 s1
  | false => rw [if_neg (by decide)] at q1 ⊢; exact ⟨ς1, G1, rl1, r, ς', q1, fun H' G' rl' s => k H' G' rl' (s1.trans s)⟩
theorem w_or (ha : PTd X a ta) (hb : PWd X (.BoolOp .Or (b :: rest) pos) tb) : PWd X (.BoolOp .Or (a :: b :: rest) pos) (orT ta tb) := fun F => PW.mono (pw_or (ha F) (hb F)) t_orT
theorem w_or1 (ha : PTd X a ta) : PWd X (.BoolOp .Or [a] pos) ta := fun F => pw_or1 (ha F)
theorem d_notT (ha : PTd X a ta) : PTd X (.UnaryOp .Not a pos) (notT ta) := fun F => PT.mono (pt_not (ha F)) fun σ H Q hq => by
  obtain ⟨ς, G, rl, r, ς', e, k⟩ := hq
  obtain ⟨a, ς1, e1, q1⟩ := bd_some e
  cases q1
  exact ⟨ς, G, rl, a, _, e1, fun H1 G1 rl1 s1 => k H1 G1 rl1 s1⟩
/-! ### and, or, not as values -/
def boolD : D → Option Bool
  | .bool b => some b
  | _ => none
def andV (fa fb : M R) : M R := bd (sub fa) fun r => bd (rd r) fun d => bd (lift (boolD d)) fun k => if k = true then fb else ret (.pure (.bool false))
def orV (fa fb : M R) : M R := bd (sub fa) fun r => bd (rd r) fun d => bd (lift (boolD d)) fun k => if k = true then ret (.pure (.bool true)) else fb
def notV (fa : M R) : M R := bd (sub fa) fun r => bd (rd r) fun d => bd (lift (boolD d)) fun k => ret (.pure (.bool !k))
theorem boolD_V {K : PySem.W.Frag} {G H : Hp} {x : V} {d : D} {k : Bool} (h : RdV K G H x d) (e : boolD d = some k) : x = .bl k := by
  cases d with
  | bool b => cases e; exact h.bool
  | _ => cases e
theorem d_and (ha : PEd X a fa) (hb : PEd X (.BoolOp .And (b :: rest) pos) fb) : PEd X (.BoolOp .And (a :: b :: rest) pos) (andV fa fb) := fun F => PE.mono (pe_and (d_sub ha F) (hb F)) fun σ H Q hq => by
  obtain ⟨ς, G, rl, r, ς', e, k⟩ := hq
  obtain ⟨a, ς1, e1, q1⟩ := bd_some e
  obtain ⟨x, ς3, e3', q3⟩ := bd_some q1
  obtain ⟨e3, h3⟩ := rd_some e3'
  obtain ⟨kk, ς4, e4', q4⟩ := bd_some q3
  obtain ⟨e4, h4⟩ := lift_some e4'
  subst h3 h4
  refine ⟨ς, G, rl, a, _, e1, fun v H1 G1 rl1 s1 rep1 => ⟨kk, boolD_V (rdD_ok rl1 rep1 e3) e4, ?_⟩⟩
  cases kk with
  | true => rw [if_pos rfl] at q4 ⊢; exact ⟨_, G1, rl1, r, ς', q4, fun v H' G' rl' s rep => k v H' G' rl' (s1.trans s) rep⟩
  | false => rw [if_neg (by decide)] at q4 ⊢; cases q4; exact k _ H1 G1 rl1 s1 (.bl _)
theorem d_one {op : BoolOp} (h : PEd X a fa) : PEd X (.BoolOp op [a] pos) fa := fun F => pe_one (h F)
def ife (t : M Bool) (fa fb : M R) : M R := bd t fun k => if k = true then fa else fb
theorem d_ife (hc : PTd X c ta) (ha : PEd X a fa) (hb : PEd X b fb) : PEd X (.IfExp c a b pos) (ife ta fa fb) := fun F => PE.mono (pe_ifExp (hc F) (ha F) (hb F)) fun σ H Q hq => by
  obtain ⟨ς, G, rl, r, ς', e, k⟩ := hq
  obtain ⟨a, ς1, e1, q1⟩ := bd_some e
  refine ⟨ς, G, rl, a, ς1, e1, fun H1 G1 rl1 s1 => ?_⟩
  cases a with
  | true => rw [if_pos rfl] at q1 ⊢; exact ⟨_, G1, rl1, r, ς', q1, fun v H' G' rl' s rep => k v H' G' rl' (s1.trans s) rep⟩
  | false => rw [if_neg (by decide)] at q1 ⊢; exact ⟨_, G1, rl1, r, ς', q1, fun v H' G' rl' s rep => k v H' G' rl' (s1.trans s) rep⟩
/-! ### unary minus -/
def negV (fa : M R) : M R := bd (sub fa) fun r => bd (rd r) fun d => lift (match d with | .int i => some (.pure (.int (-i))) | _ => none)
theorem d_neg (ha : PEd X a fa) : PEd X (.UnaryOp .USub a pos) (negV fa) := fun F => PE.mono (pe_un un_neg (d_sub ha F)) fun σ H Q hq => by
  obtain ⟨ς, G, rl, r, ς', e, k⟩ := hq
  obtain ⟨a, ς1, e1, q1⟩ := bd_some e
  obtain ⟨x, ς3, e3', q3⟩ := bd_some q1
  obtain ⟨e3, h3⟩ := rd_some e3'
  obtain ⟨e4, h4⟩ := lift_some q3
  subst h3 h4
  refine ⟨ς, G, rl, a, _, e1, fun v H1 G1 rl1 s1 rep1 => ?_⟩
  have rv := rdD_ok rl1 rep1 e3
  cases x with
  | int i => cases e4; exact ⟨i, rv.int, k _ H1 G1 rl1 s1 (.int _)⟩
  | _ => cases e4
/-! ### arguments, displays -/
def avs : List D → List Ar := List.map Ar.val
def argN : M (List Ar) := ret []
def argV (f : M R) (g : M (List Ar)) : M (List Ar) := bd (esc f) fun d => bd g fun as => ret (.val d :: as)
def argR (f : M R) (g : M (List Ar)) : M (List Ar) := bd f fun r => match r with
  | .ref i => bd g fun as => ret (.ref i :: as)
  | _ => lift none
theorem a_nil : PAd X [] argN := fun F => PA.mono pa_nil fun σ H Q hq => by
  obtain ⟨ς, G, rl, r, ς', e, k⟩ := hq
  cases e
  exact k [] H G rl (Same.refl _) .nil
theorem a_val {ga : M (List Ar)} (ha : PEd X a fa) (hr : PAd X es ga) (hs : starEach (a :: es) X.env = (false, eval a X.env) :: starEach es X.env := by rfl) : PAd X (a :: es) (argV fa ga) := fun F => PA.mono (pa_cons (d_esc ha F) (hr F) hs) fun σ H Q hq => by
  obtain ⟨ς, G, rl, r, ς', e, k⟩ := hq
  obtain ⟨d, ς1, e1, q1⟩ := bd_some e
  obtain ⟨as, ς2, e2, q2⟩ := bd_some q1
  cases q2
  exact ⟨ς, G, rl, d, ς1, e1, fun v H1 G1 rl1 s1 dp => ⟨ς1, G1, rl1, as, _, e2, fun vs H2 G2 rl2 s2 ps => k (v :: vs) H2 G2 rl2 (s1.trans s2) (.cons (dp_same s2 dp) ps)⟩⟩
theorem a_ref {ga : M (List Ar)} (ha : PEd X a fa) (hr : PAd X es ga) (hs : starEach (a :: es) X.env = (false, eval a X.env) :: starEach es X.env := by rfl) : PAd X (a :: es) (argR fa ga) := fun F => PA.mono (pa_cons (ha F) (hr F) hs) fun σ H Q hq => by
  obtain ⟨ς, G, rl, r, ς', e, k⟩ := hq
  obtain ⟨d, ς1, e1, q1⟩ := bd_some e
  refine ⟨ς, G, rl, d, ς1, e1, fun v H1 G1 rl1 s1 dp => ?_⟩
  cases d with
  | ref i =>
    obtain ⟨as, ς2, e2, q2⟩ := bd_some q1
    cases q2
    exact ⟨ς1, G1, rl1, as, _, e2, fun vs H2 G2 rl2 s2 ps => k (v :: vs) H2 G2 rl2 (s1.trans s2) (.cons dp ps)⟩
  | _ => cases q1
def vals : List Ar → Option (List D)
  | [] => some []
  | .val d :: as => match vals as with
    | some ds => some (d :: ds)
    | none => none
  | .ref _ :: _ => none
theorem vals_ok {K : PySem.W.Frag} {G : Hp} {σ : L2.St} : ∀ {as : List Ar} {vs : List V} {ds : List D}, Paired (RepAr K G σ) as vs → vals as = some ds → DpAll K G vs ds
  | _, _, _, .nil, e => by cases e; exact .nil
  | .val d :: as, _, ds, .cons h t, e => by
    unfold vals at e
    split at e
    · rename_i ds' q
      cases e
      exact .cons h (vals_ok t q)
    · cases e
  | .ref i :: as, _, _, .cons h t, e => by cases e
def small (n : Nat) : Bool := decide (n ≤ sizeLine)
def tupE (g : M (List Ar)) : M R := bd g fun as => bd (lift (vals as)) fun ds => if small ds.length = true then ret (.pure (.tuple ds)) else lift none
def lstE (g : M (List Ar)) : M R := bd g fun as => bd (lift (vals as)) fun ds => if small ds.length = true then ret (.fresh ds) else lift none
theorem d_tup {g : M (List Ar)} {k : Nat} (h : PAd X es g) : PEd X (.Tuple es k pos) (tupE g) := fun F => PE.mono (pe_tup (h F)) fun σ H Q hq => by
  obtain ⟨ς, G, rl, r, ς', e, k⟩ := hq
  obtain ⟨as, ς1, e1, q1⟩ := bd_some e
  obtain ⟨ds, ς2, e2', q2⟩ := bd_some q1
  obtain ⟨e2, h2⟩ := lift_some e2'
  subst h2
  refine ⟨ς, G, rl, as, _, e1, fun vs H1 G1 rl1 s1 ps => ?_⟩
  have da := vals_ok ps e2
  by_cases hs : small ds.length = true
  · rw [if_pos hs] at q2
    cases q2
    refine ⟨by rw [dpa_len da]; exact of_decide_eq_true hs, fun p hp => ?_⟩
    exact k _ _ _ (rl1.lay hp) (s1.trans (same_upd (rl1.gnone hp))) (rl1.layD hp da)
  · rw [if_neg hs] at q2; cases q2
theorem d_lst {g : M (List Ar)} (h : PAd X es g) : PEd X (.List es pos) (lstE g) := fun F => PE.mono (pe_lst (h F)) fun σ H Q hq => by
  obtain ⟨ς, G, rl, r, ς', e, k⟩ := hq
  obtain ⟨as, ς1, e1, q1⟩ := bd_some e
  obtain ⟨ds, ς2, e2', q2⟩ := bd_some q1
  obtain ⟨e2, h2⟩ := lift_some e2'
  subst h2
  refine ⟨ς, G, rl, as, _, e1, fun vs H1 G1 rl1 s1 ps => ?_⟩
  have da := vals_ok ps e2
  by_cases hs : small ds.length = true
  · rw [if_pos hs] at q2
    cases q2
    refine ⟨by rw [dpa_len da]; exact of_decide_eq_true hs, fun p hp => ?_⟩
    exact k _ _ _ (rl1.layF hp) s1 (rl1.repF hp da)
  · rw [if_neg hs] at q2; cases q2
/-! ### o[i] -/
def gIx : D → D → Option R
  | .list ds, .int i => (atI ds i).map R.pure
  | .tuple ds, .int i => (atI ds i).map R.pure
  | _, _ => none
theorem atI_dp {K : PySem.W.Frag} {G : Hp} {vs : List V} {ds : List D} {i : Int} {d : D} (h : DpAll K G vs ds) (e : atI ds i = some d) : ∃ v, atI vs i = some v ∧ Dp K G v d := by
  unfold atI at e ⊢
  rw [dpa_len h]
  cases q : ixN ds.length i with
  | none => rw [q] at e; cases e
  | some j => rw [q] at e; exact dpa_get h e
theorem op2_ix : Op2 X F (rIx X.K) gIx := ⟨fun ς G σ H x y dx dy r Q rl hx hy e k => by
  cases dx with
  | list ds =>
    cases dy with
    | int i =>
      cases q : atI ds i with
      | none => rw [gIx, q] at e; cases e
      | some d =>
        rw [gIx, q] at e; cases e
        obtain ⟨p, vs, rfl, h1, h2⟩ := hx.list rl.sub
        obtain ⟨v, e1, e2⟩ := atI_dp h2 q
        exact .inl ⟨p, vs, i, v, rfl, hy.int, h1, e1, k v H G rl (Same.refl _) e2⟩
    | _ => cases e
  | tuple ds =>
    cases dy with
    | int i =>
      cases q : atI ds i with
      | none => rw [gIx, q] at e; cases e
      | some d =>
        rw [gIx, q] at e; cases e
        obtain ⟨p, vs, rfl, h1, h2⟩ := hx.tuple rl.sub
        obtain ⟨v, e1, e2⟩ := atI_dp h2 q
        exact .inr (.inl ⟨p, vs, i, v, rfl, hy.int, h1, e1, k v H G rl (Same.refl _) e2⟩)
    | _ => cases e
  | _ => cases e⟩
theorem d_ix (ha : PEd X a fa) (hb : PEd X b fb) (hs : PlainIx b := by exact fun _ _ => rfl) : PEd X (.Subscript a b pos) (op2 gIx fa fb) := fun F => PE.mono (pe_ix ix_seq (d_sub ha F) (d_sub hb F) hs) (t_op2 op2_ix)
end
end Lw
namespace Lw
open PySem PySem.Spec PyProof.Rows L2
section
variable {X : Cx} {F : Fx} {a b c e : Expr} {es : List Expr} {fa fb fc f : M R} {pos p p2 : Pos} {x : Str}
/-! ### bools among intsD -/
def rIB (h : Int → Int → Int) : R2 := fun x y H Q => (∃ k j, x = .bl k ∧ y = .int j ∧ Q (.int (h (if k = true then 1 else 0) j)) H) ∨ ∃ i k, x = .int i ∧ y = .bl k ∧ Q (.int (h i (if k = true then 1 else 0))) H
theorem op_addB : OpR X (binaryOp .Add) (rIB (· + ·)) := by
  intro pins s σ H x y v u Q I rx ry h
  rcases h with ⟨k, j, rfl, rfl, q⟩ | ⟨i, k, rfl, rfl, q⟩
  · cases rx
    obtain ⟨t, rfl⟩ := ry
    exact PySem.IntBool.add_bool_int ⟨.int _, H, I.tok _, ⟨_, rfl⟩, q⟩
  · obtain ⟨t, rfl⟩ := rx
    cases ry
    exact PySem.add_int_bool ⟨.int _, H, I.tok _, ⟨_, rfl⟩, q⟩
theorem op_subB : OpR X (binaryOp .Sub) (rIB (· - ·)) := by
  intro pins s σ H x y v u Q I rx ry h
  rcases h with ⟨k, j, rfl, rfl, q⟩ | ⟨i, k, rfl, rfl, q⟩
  · cases rx
    obtain ⟨t, rfl⟩ := ry
    exact PySem.IntBool.sub_bool_int ⟨.int _, H, I.tok _, ⟨_, rfl⟩, q⟩
  · obtain ⟨t, rfl⟩ := rx
    cases ry
    exact PySem.IntBool.sub_int_bool ⟨.int _, H, I.tok _, ⟨_, rfl⟩, q⟩
def gIB (h : Int → Int → Int) : D → D → Option R
  | .bool k, .int j => some (.pure (.int (h (if k = true then 1 else 0) j)))
  | .int i, .bool k => some (.pure (.int (h i (if k = true then 1 else 0))))
  | _, _ => none
theorem op2_IB {h : Int → Int → Int} : Op2 X F (rIB h) (gIB h) := ⟨fun ς G σ H x y dx dy r Q rl hx hy e k => by
  cases dx with
  | bool i =>
    cases dy with
    | int j => cases e; exact .inl ⟨i, j, hx.bool, hy.int, k _ H G rl (Same.refl _) (.int _)⟩
    | _ => cases e
  | int i =>
    cases dy with
    | bool j => cases e; exact .inr ⟨i, j, hx.int, hy.bool, k _ H G rl (Same.refl _) (.int _)⟩
    | _ => cases e
  | _ => cases e⟩
/-! ### slices -/
def tEvO (K : PySem.W.Frag) (F : Fx) (f : M (Option Int)) : TO := fun σ H Q => ∃ ς G, Rel K F ς G σ H ∧ ∃ o ς', f ς = some (o, ς') ∧ ∀ H' G', Rel K F ς' G' σ H' → Same G G' → Q o H'
def ptN : M (Option Int) := ret none
def ptS (f : M R) : M (Option Int) := bd (sub f) fun r => bd (rd r) fun d => lift (match d with | .int i => some (some i) | _ => none)
theorem _root_.L2.PO.mono {o : Option Expr} {t t' : TO} (h : PO X o t) (k : ∀ σ H Q, t' σ H Q → t σ H Q) : PO X o t' := ⟨fun pins s σ H Q I hw => h.run pins s σ H Q I (k σ H Q hw)⟩
abbrev POd (X : Cx) (o : Option Expr) (f : M (Option Int)) : Prop := ∀ F : Fx, PO X o (tEvO X.K F f)
theorem o_none : POd X none ptN := fun F => PO.mono po_none fun σ H Q hq => by
  obtain ⟨ς, G, rl, r, ς', e, k⟩ := hq
  cases e
  exact k H G rl (Same.refl _)
theorem o_some (h : PEd X e f) : POd X (some e) (ptS f) := fun F => PO.mono (po_some (d_sub h F)) fun σ H Q hq => by
  obtain ⟨ς, G, rl, r, ς', e, k⟩ := hq
  obtain ⟨a, ς1, e1, q1⟩ := bd_some e
  obtain ⟨x, ς3, e3', q3⟩ := bd_some q1
  obtain ⟨e3, h3⟩ := rd_some e3'
  obtain ⟨e4, h4⟩ := lift_some q3
  subst h3 h4
  refine ⟨ς, G, rl, a, _, e1, fun v H1 G1 rl1 s1 rep1 => ?_⟩
  have rv := rdD_ok rl1 rep1 e3
  cases x with
  | int i => cases e4; exact ⟨i, rv.int, k H1 G1 rl1 s1⟩
  | _ => cases e4
def cutD (ds : List D) (lo hi : Option Int) : List D := (ds.drop (HT.sIx ds.length 0 lo)).take (HT.sIx ds.length ds.length hi - HT.sIx ds.length 0 lo)
def gSl (x : D) (lo hi : Option Int) : Option R := match x with
  | .list ds => some (.fresh (cutD ds lo hi))
  | .tuple ds => some (.pure (.tuple (cutD ds lo hi)))
  | _ => none
def slE (fa : M R) (fl fh : M (Option Int)) : M R := bd (sub fa) fun a => bd fl fun l => bd fh fun h => bd (rd a) fun x => lift (gSl x l h)
theorem d_sl {lo hi : Option Expr} {fl fh : M (Option Int)} (ha : PEd X a fa) (hl : POd X lo fl) (hh : POd X hi fh) : PEd X (.Subscript a (.Slice lo hi none p2) pos) (slE fa fl fh) :=
  fun F => PE.mono (pe_slice (sl_list.or sl_tupA) (d_sub ha F) (hl F) (hh F)) fun σ H Q hq => by
    obtain ⟨ς, G, rl, r, ς', e, k⟩ := hq
    obtain ⟨a, ς1, e1, q1⟩ := bd_some e
    obtain ⟨l, ς2, e2, q2⟩ := bd_some q1
    obtain ⟨h, ς3, e3, q3⟩ := bd_some q2
    obtain ⟨x, ς4, e4', q4⟩ := bd_some q3
    obtain ⟨e4, h4⟩ := rd_some e4'
    obtain ⟨e5, h5⟩ := lift_some q4
    subst h4 h5
    refine ⟨ς, G, rl, a, ς1, e1, fun v H1 G1 rl1 s1 rep1 => ⟨ς1, G1, rl1, l, ς2, e2, fun H2 G2 rl2 s2 => ⟨ς2, G2, rl2, h, _, e3, fun H3 G3 rl3 s3 => ?_⟩⟩⟩
    have rep1' := rep_keep (ς' := ς') (H' := H3) rep1 (sub_nf e1) (s2.trans s3)
    have rv := rdD_ok rl3 rep1' e4
    cases x with
    | list ds =>
      cases e5
      obtain ⟨p, vs, rfl, h1, h2⟩ := rv.list rl3.sub
      refine .inl ⟨p, vs, rfl, h1, fun z hz => ?_⟩
      have : DpAll X.K G3 (cutV vs l h) (cutD ds l h) := by
        unfold cutV cutD
        rw [dpa_len h2]
        exact dpa_take _ (dpa_drop _ h2)
      exact k _ _ G3 (rl3.layF hz) (s1.trans (s2.trans s3)) (rl3.repF hz this)
    | tuple ds =>
      cases e5
      obtain ⟨p, vs, e6, h1, h2⟩ := rv.tuple rl3.sub
      subst e6
      refine .inr ⟨p, vs, rfl, h1, fun z => ?_, fun _ z hz => ?_⟩
      · rw [dpa_len h2] at z
        have : cutD ds l h = ds := by
          unfold cutD
          rw [z.1, z.2]
          simp
        rw [this] at k
        rcases rv with rv | ⟨_, _, _, _, ee, _⟩
        · exact k _ H3 G3 rl3 (s1.trans (s2.trans s3)) rv
        · cases ee
      · have : DpAll X.K G3 (cutV vs l h) (cutD ds l h) := by
          unfold cutV cutD
          rw [dpa_len h2]
          exact dpa_take _ (dpa_drop _ h2)
        exact k _ _ _ (rl3.lay hz) (s1.trans (s2.trans (s3.trans (same_upd (rl3.gnone hz))))) (rl3.layD hz this)
    | _ => cases e5
def revE (fa : M R) : M R := bd (sub fa) fun a => bd (rd a) fun x => lift (match x with | .list ds => some (.fresh ds.reverse) | _ => none)
/-! ### built-ins by values -/
structure Call1 (X : Cx) (F : Fx) (r : List V → Hp → VK → Prop) (g : D → Option R) : Prop where
  run : ∀ (ς : En) (G : Hp) (σ : L2.St) (H : Hp) (x : V) (dx : D) (res : R) (Q : VK), Rel X.K F ς G σ H → RdV X.K G H x dx → g dx = some res →
    (∀ v H' G', Rel X.K F ς G' σ H' → Same G G' → RepR X.K F ς G' σ H' res v → Q v H') → r [x] H Q
structure Call2 (X : Cx) (F : Fx) (r : List V → Hp → VK → Prop) (g : D → D → Option R) : Prop where
  run : ∀ (ς : En) (G : Hp) (σ : L2.St) (H : Hp) (x y : V) (dx dy : D) (res : R) (Q : VK), Rel X.K F ς G σ H → RdV X.K G H x dx → RdV X.K G H y dy → g dx dy = some res →
    (∀ v H' G', Rel X.K F ς G' σ H' → Same G G' → RepR X.K F ς G' σ H' res v → Q v H') → r [x, y] H Q
def cal1 (g : D → Option R) (fa : M R) : M R := bd (sub fa) fun a => bd (rd a) fun x => lift (g x)
theorem t_cal1 {r : List V → Hp → VK → Prop} {g : D → Option R} (o : Call1 X F r g) : ∀ σ H Q, tEv X.K F (cal1 g fa) σ H Q → tCB r (tCons (tEv X.K F (sub fa)) tNil) σ H Q := fun σ H Q hq => by
  obtain ⟨ς, G, rl, r, ς', e, k⟩ := hq
  obtain ⟨a, ς1, e1, q1⟩ := bd_some e
  obtain ⟨x, ς4, e4', q4⟩ := bd_some q1
  obtain ⟨e4, h4⟩ := rd_some e4'
  obtain ⟨e5, h5⟩ := lift_some q4
  subst h4 h5
  exact ⟨ς, G, rl, a, _, e1, fun v H1 G1 rl1 s1 rep1 => o.run _ G1 σ H1 v x r Q rl1 (rdD_ok rl1 rep1 e4) e5 fun u H' G' rl' s rep => k u H' G' rl' (s1.trans s) rep⟩
theorem t_cal2 {r : List V → Hp → VK → Prop} {g : D → D → Option R} (o : Call2 X F r g) : ∀ σ H Q, tEv X.K F (op2 g fa fb) σ H Q → tCB r (tCons (tEv X.K F (sub fa)) (tCons (tEv X.K F (sub fb)) tNil)) σ H Q := fun σ H Q hq =>
  t_op2 (X := X) (F := F) (fa := fa) (fb := fb) (r2 := fun x y H Q => r [x, y] H Q) (g := g) ⟨o.run⟩ σ H Q hq
theorem d_callB1 {r : List V → Hp → VK → Prop} {g : D → Option R} {id : String} (hc : CallR X (.builtin id) r) (o : ∀ F, Call1 X F r g) (hg : Gl X x) (hm : X.mg x = none) (hv : bootBuiltins x = some (.builtin id)) (ha : PEd X a fa) (hn : x ≠ "__name__" := by decide) (hdb : (x == ("__debug__" : Str)) = false := by decide)
    (he : starEach [a] X.env = (false, eval a X.env) :: starEach [] X.env := by rfl) (hpl : (backTo pos (starEach [] X.env)).any (·.1) = false := by rfl) : PEd X (.Call (.Name x p) [a] [] pos) (cal1 g fa) :=
  fun F => PE.mono (pe_callB hc hg hm hv (pa_cons (d_sub ha F) pa_nil he) hn hdb he hpl) (t_cal1 (o F))
theorem d_callT1 {r : List V → Hp → VK → Prop} {g : D → Option R} {T : String} (hc : CallR X (.type T) r) (o : ∀ F, Call1 X F r g) (hg : Gl X x) (hm : X.mg x = none) (hv : bootBuiltins x = some (.type T)) (ha : PEd X a fa) (hn : x ≠ "__name__" := by decide) (hdb : (x == ("__debug__" : Str)) = false := by decide)
    (he : starEach [a] X.env = (false, eval a X.env) :: starEach [] X.env := by rfl) (hpl : (backTo pos (starEach [] X.env)).any (·.1) = false := by rfl) : PEd X (.Call (.Name x p) [a] [] pos) (cal1 g fa) :=
  fun F => PE.mono (pe_callTy hc hg hm hv (pa_cons (d_sub ha F) pa_nil he) hn hdb he hpl) (t_cal1 (o F))
theorem d_callB2 {r : List V → Hp → VK → Prop} {g : D → D → Option R} {id : String} (hc : CallR X (.builtin id) r) (o : ∀ F, Call2 X F r g) (hg : Gl X x) (hm : X.mg x = none) (hv : bootBuiltins x = some (.builtin id)) (ha : PEd X a fa) (hb : PEd X b fb) (hn : x ≠ "__name__" := by decide) (hdb : (x == ("__debug__" : Str)) = false := by decide)
    (he : starEach [a, b] X.env = (false, eval a X.env) :: starEach [b] X.env := by rfl) (he2 : starEach [b] X.env = (false, eval b X.env) :: starEach [] X.env := by rfl) (hpl : (backTo pos (starEach [b] X.env)).any (·.1) = false := by rfl) : PEd X (.Call (.Name x p) [a, b] [] pos) (op2 g fa fb) :=
  fun F => PE.mono (pe_callB hc hg hm hv (pa_cons (d_sub ha F) (pa_cons (d_sub hb F) pa_nil he2) he) hn hdb he hpl) (t_cal2 (o F))
theorem CallR.or {f : Value} {r r' : List V → Hp → VK → Prop} (h : CallR X f r) (h' : CallR X f r') : CallR X f (fun xs H Q => r xs H Q ∨ r' xs H Q) := by
  intro pins s σ H xs us Q I rv hq
  rcases hq with hq | hq
  · exact h pins s σ H xs us Q I rv hq
  · exact h' pins s σ H xs us Q I rv hq
def gAbs : D → Option R
  | .int i => some (.pure (.int (if i < 0 then -i else i)))
  | _ => none
theorem d_abs (hg : Gl X "abs") (hm : X.mg "abs" = none) (ha : PEd X a fa) (he : starEach [a] X.env = (false, eval a X.env) :: starEach [] X.env := by rfl) : PEd X (.Call (.Name "abs" p) [a] [] pos) (cal1 gAbs fa) := d_callB1 call_abs (fun F => ⟨fun ς G σ H x dx res Q rl hx e k => by
  cases dx with
  | int i => cases e; exact ⟨i, by rw [hx.int], k _ H G rl (Same.refl _) (.int _)⟩
  | _ => cases e⟩) hg hm (by decide +kernel) ha (he := he) (hpl := rfl)
def gInt : D → Option R
  | .int i => some (.pure (.int i))
  | .bool k => some (.pure (.int (if k = true then 1 else 0)))
  | _ => none
theorem d_toInt (hg : Gl X "int") (hm : X.mg "int" = none) (ha : PEd X a fa) (he : starEach [a] X.env = (false, eval a X.env) :: starEach [] X.env := by rfl) : PEd X (.Call (.Name "int" p) [a] [] pos) (cal1 gInt fa) := d_callT1 call_int1 (fun F => ⟨fun ς G σ H x dx res Q rl hx e k => by
  cases dx with
  | int i => cases e; exact .inl ⟨i, by rw [hx.int], k _ H G rl (Same.refl _) (.int _)⟩
  | bool i => cases e; exact .inr ⟨i, by rw [hx.bool], k _ H G rl (Same.refl _) (.int _)⟩
  | _ => cases e⟩) hg hm (by decide +kernel) ha (he := he) (hpl := rfl)
def gLen : D → Option R
  | .list ds => some (.pure (.int ds.length))
  | .tuple ds => some (.pure (.int ds.length))
  | .str x => if x.length ≤ sizeLine then some (.pure (.int x.length)) else none
  | _ => none
theorem d_len (hg : Gl X "len") (hm : X.mg "len" = none) (ha : PEd X a fa) (he : starEach [a] X.env = (false, eval a X.env) :: starEach [] X.env := by rfl) : PEd X (.Call (.Name "len" p) [a] [] pos) (cal1 gLen fa) := d_callB1 call_len (fun F => ⟨fun ς G σ H x dx res Q rl hx e k => by
  cases dx with
  | list ds =>
    cases e
    obtain ⟨q, vs, rfl, h1, h2⟩ := hx.list rl.sub
    exact ⟨_, ds.length, rfl, .inl ⟨vs, h1, (dpa_len h2).symm⟩, k _ H G rl (Same.refl _) (.int _)⟩
  | tuple ds =>
    cases e
    obtain ⟨q, vs, rfl, h1, h2⟩ := hx.tuple rl.sub
    exact ⟨_, ds.length, rfl, .inr ⟨vs, h1, (dpa_len h2).symm⟩, k _ H G rl (Same.refl _) (.int _)⟩
  | str y =>
    replace e : (if y.length ≤ sizeLine then some (R.pure (.int y.length)) else none) = some res := e
    by_cases q : y.length ≤ sizeLine
    · rw [if_pos q] at e; cases e
      exact ⟨.str y, y.length, by rw [hx.str], ⟨q, rfl⟩, k _ H G rl (Same.refl _) (.int _)⟩
    · rw [if_neg q] at e; cases e
  | _ => cases e⟩) hg hm PySem.boot_len ha (he := he) (hpl := rfl)
def gList (x : D) : Option R := match items x with
  | some ds => some (.fresh ds)
  | none => none
theorem d_list (hg : Gl X "list") (hm : X.mg "list" = none) (ha : PEd X a fa) (he : starEach [a] X.env = (false, eval a X.env) :: starEach [] X.env := by rfl) : PEd X (.Call (.Name "list" p) [a] [] pos) (cal1 gList fa) := d_callT1 call_list_of (fun F => ⟨fun ς G σ H x dx res Q rl hx e k => by
  unfold gList at e
  split at e
  · rename_i ds q
    cases e
    obtain ⟨l, vs, rfl, h1, h2⟩ := items_ok rl.sub hx q
    exact ⟨l, vs, rfl, h1, fun z hz => k _ _ G (rl.layF hz) (Same.refl _) (rl.repF hz h2)⟩
  · cases e⟩) hg hm (by decide +kernel) ha (he := he) (hpl := rfl)
def gTuple (x : D) : Option R := match items x with
  | some ds => some (.pure (.tuple ds))
  | none => none
theorem d_tuple (hg : Gl X "tuple") (hm : X.mg "tuple" = none) (ha : PEd X a fa) (he : starEach [a] X.env = (false, eval a X.env) :: starEach [] X.env := by rfl) : PEd X (.Call (.Name "tuple" p) [a] [] pos) (cal1 gTuple fa) := d_callT1 call_tuple_of (fun F => ⟨fun ς G σ H x dx res Q rl hx e k => by
  cases dx with
  | list ds =>
    cases e
    obtain ⟨q, vs, rfl, h1, h2⟩ := hx.list rl.sub
    exact ⟨q, vs, rfl, .inl ⟨h1, fun z hz => k _ _ _ (rl.lay hz) (same_upd (rl.gnone hz)) (rl.layD hz h2)⟩⟩
  | tuple ds =>
    cases e
    rcases hx with hx | ⟨_, _, _, _, ee, _⟩
    · obtain ⟨q, vs, e6, h1, h2⟩ := dp_tuple hx
      subst e6
      exact ⟨q, vs, rfl, .inr ⟨same_seqT rl.sub h1, k _ H G rl (Same.refl _) hx⟩⟩
    · cases ee
  | _ => cases e⟩) hg hm (by decide +kernel) ha (he := he) (hpl := rfl)
def bools : List D → Option (List Bool)
  | [] => some []
  | .bool b :: ds => match bools ds with
    | some bs => some (b :: bs)
    | none => none
  | _ :: _ => none
theorem bools_map : ∀ {ds : List D} {bs : List Bool}, bools ds = some bs → ds = bs.map PyData.bool
  | [], _, e => by cases e; rfl
  | .bool b :: ds, bs, e => by
    unfold bools at e
    split at e
    · rename_i bs' q
      cases e
      rw [bools_map q]; rfl
    · cases e
  | .none :: _, _, e => by cases e
  | .int _ :: _, _, e => by cases e
  | .str _ :: _, _, e => by cases e
  | .list _ :: _, _, e => by cases e
  | .tuple _ :: _, _, e => by cases e
  | .dict _ :: _, _, e => by cases e
def gAll : D → Option R
  | .list ds => match bools ds with
    | some bs => some (.pure (.bool (bs.all id)))
    | none => none
  | _ => none
theorem d_all (hc : X.calm = true) (hg : Gl X "all") (hm : X.mg "all" = none) (ha : PEd X a fa) (he : starEach [a] X.env = (false, eval a X.env) :: starEach [] X.env := by rfl) : PEd X (.Call (.Name "all" p) [a] [] pos) (cal1 gAll fa) := d_callB1 (cr_all hc) (fun F => ⟨fun ς G σ H x dx res Q rl hx e k => by
  cases dx with
  | list ds =>
    unfold gAll at e
    simp only at e
    split at e
    · rename_i bs q
      cases e
      obtain ⟨l, vs, rfl, h1, h2⟩ := hx.list rl.sub
      rw [bools_map q] at h2
      rw [dpa_bools_inv h2] at h1
      exact ⟨l, bs, rfl, h1, k _ H G rl (Same.refl _) (.bl _)⟩
    · cases e
  | _ => cases e⟩) hg hm (by decide +kernel) ha (he := he) (hpl := rfl)
def intsD : List D → Option (List Int)
  | [] => some []
  | .int b :: ds => match intsD ds with
    | some bs => some (b :: bs)
    | none => none
  | _ :: _ => none
def g2I (h : Int → Int → Int) : D → D → Option R
  | .int i, .int j => some (.pure (.int (h i j)))
  | _, _ => none
theorem d_max2 (hc : X.calm = true) (hg : Gl X "max") (hm : X.mg "max" = none) (ha : PEd X a fa) (hb : PEd X b fb) (he : starEach [a, b] X.env = (false, eval a X.env) :: starEach [b] X.env := by rfl) (he2 : starEach [b] X.env = (false, eval b X.env) :: starEach [] X.env := by rfl) (hpl : (backTo pos (starEach [b] X.env)).any (·.1) = false := by rfl) :
    PEd X (.Call (.Name "max" p) [a, b] [] pos) (op2 (g2I fun i j => if j > i then j else i) fa fb) := d_callB2 (call_max2 hc) (fun F => ⟨fun ς G σ H x y dx dy res Q rl hx hy e k => by
  cases dx with
  | int i =>
    cases dy with
    | int j => cases e; exact ⟨i, j, by rw [hx.int, hy.int], k _ H G rl (Same.refl _) (.int _)⟩
    | _ => cases e
  | _ => cases e⟩) hg hm (by decide +kernel) ha hb (he := he) (he2 := he2) (hpl := hpl)
/-- divmod of a number not below 0 -/
def gDm : D → D → Option R
  | .int i, .int j => if 0 < j ∧ j < 2 ^ 200 then some (.pure (.tuple [.int (i / j), .int (i % j)])) else none
  | _, _ => none
theorem divp_200 {i j : Int} (h : 0 < j ∧ j < 2 ^ 200) : CDivP i j := by
  obtain ⟨w1, w2⟩ : CDivW i j := by
    refine wide_div (b := 200) h.1 ?_ (by decide) (by decide)
    have h2 : j.toNat < 2 ^ 200 := by
      rw [Int.toNat_lt (n := 2 ^ 200) (by omega : 0 ≤ j)]
      exact_mod_cast h.2
    omega
  refine ⟨h.1, ?_⟩
  exact PyProof.noPylong_of_log2 w2
theorem d_divmod (hg : Gl X "divmod") (hm : X.mg "divmod" = none) (ha : PEd X a fa) (hb : PEd X b fb) (he : starEach [a, b] X.env = (false, eval a X.env) :: starEach [b] X.env := by rfl) (he2 : starEach [b] X.env = (false, eval b X.env) :: starEach [] X.env := by rfl) (hpl : (backTo pos (starEach [b] X.env)).any (·.1) = false := by rfl) :
    PEd X (.Call (.Name "divmod" p) [a, b] [] pos) (op2 gDm fa fb) := d_callB2 call_divmodW (fun F => ⟨fun ς G σ H x y dx dy res Q rl hx hy e k => by
  cases dx with
  | int i =>
    cases dy with
    | int j =>
      replace e : (if 0 < j ∧ j < 2 ^ 200 then some (R.pure (.tuple [.int (i / j), .int (i % j)])) else none) = some res := e
      by_cases q : 0 < j ∧ j < 2 ^ 200
      · rw [if_pos q] at e; cases e
        exact ⟨i, j, by rw [hx.int, hy.int], divp_200 q, fun z hz => k _ _ _ (rl.lay hz) (same_upd (rl.gnone hz)) (rl.layD hz (.cons (.int _) (.cons (.int _) .nil)))⟩
      · rw [if_neg q] at e; cases e
    | _ => cases e
  | _ => cases e⟩) hg hm (by decide +kernel) ha hb (he := he) (he2 := he2) (hpl := hpl)
end
end Lw
namespace Lw
open PySem PySem.Spec PyProof.Rows L2
section
variable {X : Cx} {a b c e : Expr} {es : List Expr} {fa fb fc f : M R} {pos p p1 p2 p3 : Pos} {x : Str}
/-! ### isinstance -/
inductive Tn where
  | int | bool | str | list | tuple
def Tn.name : Tn → String
  | .int => "int" | .bool => "bool" | .str => "str" | .list => "list" | .tuple => "tuple"
def tyN : D → String
  | .none => "NoneType" | .bool _ => "bool" | .int _ => "int" | .str _ => "str" | .list _ => "list" | .tuple _ => "tuple" | .dict _ => "dict"
def isD : Tn → D → Bool
  | .int, .int _ => true
  | .int, .bool _ => true
  | .bool, .bool _ => true
  | .str, .str _ => true
  | .list, .list _ => true
  | .tuple, .tuple _ => true
  | _, _ => false
theorem kit_isD (t : Tn) (d : D) : kitB (tyN d) t.name = some (isD t d) := by
  cases t <;> cases d <;> (dsimp only [tyN, isD, Tn.name]; decide +kernel)
theorem tyX_of {K : PySem.W.Frag} {H : Hp} {v : V} {d : D} (h : Dp K H v d) : TyX K H v (.type (tyN d)) := by
  cases h with
  | non => exact .base .non
  | bl b => exact .base (.bl b)
  | int i => exact .base (.int i)
  | str x => exact .base (.str x)
  | lst h _ =>
    rcases h with (h | ⟨o, h⟩) | ⟨o, _, _, h, hc, _⟩
    · exact .base (.lst h)
    · exact .base (.frz h)
    · exact .kList h hc
  | tup h _ =>
    rcases h with (h | ⟨o, h⟩) | ⟨o, _, _, h, hc, _⟩
    · exact .base (.tup h)
    · exact .fTuple h
    · exact .kTuple h hc
  | dcK h _ =>
    rcases h with h | ⟨o, h⟩
    · exact .base (.dK h)
    · exact .fDict h
  | dcT h _ => exact .base (.dT h)
def isE (fa : M R) (ts : List Tn) : M R := bd (sub fa) fun r => bd (rd r) fun d => ret (.pure (.bool (ts.any fun t => isD t d)))
theorem kitAny_of {K : PySem.W.Frag} {d : D} : ∀ ts : List Tn, PySem.W.kitAny K (.type (tyN d)) (ts.map fun t => .type t.name) = some (ts.any fun t => isD t d)
  | [] => rfl
  | t :: ts => kitAny_cons (kit_ty (kit_isD t d)) (fun h => by rw [List.any_cons, h, Bool.false_or]; exact kitAny_of ts) (fun h => by rw [List.any_cons, h, Bool.true_or])
theorem clsV_of : ∀ ts : List Tn, Paired ClsV (ts.map fun t => V.ty t.name) (ts.map fun t => Value.type t.name)
  | [] => .nil
  | t :: ts => .cons (.ty _) (clsV_of ts)
theorem d_isi1 {y : Str} (t : Tn) (hg : Gl X "isinstance") (hm : X.mg "isinstance" = none) (ha : PEd X a fa) (hy : PE X (.Name y p2) (tC (.ty t.name))) (he : starEach [a, .Name y p2] X.env = (false, eval a X.env) :: starEach [.Name y p2] X.env := by rfl) :
    PEd X (.Call (.Name "isinstance" p) [a, .Name y p2] [] pos) (isE fa [t]) := fun F => PE.mono (pe_callB call_isi hg hm (by decide +kernel) (pa_cons (d_sub ha F) (pa_cons hy pa_nil) he) (he := he) (hpl := rfl)) fun σ H Q hq => by
  obtain ⟨ς, G, rl, r, ς', e, k⟩ := hq
  obtain ⟨a, ς1, e1, q1⟩ := bd_some e
  obtain ⟨d, ς3, e3', q3⟩ := bd_some q1
  obtain ⟨e3, h3⟩ := rd_some e3'
  subst h3
  cases q3
  refine ⟨ς, G, rl, a, _, e1, fun v H1 G1 rl1 s1 rep1 => ?_⟩
  have rv := rdD_ok rl1 rep1 e3
  exact ⟨v, .ty t.name, _, _, _, rfl, .ty _, tyX_of (rv.dp rl1.sub), kit_ty (kit_isD t d), k _ H1 G1 rl1 s1 (by rw [List.any_cons, List.any_nil, Bool.or_false]; exact .bl _)⟩
theorem tys_len (ts : List Tn) (h : ts.length ≤ 100) : (ts.map fun t => V.ty t.name).length ≤ sizeLine := by rw [List.length_map, sizeLine_eq]; omega
theorem d_isiN {tys : List Expr} {kk : Nat} (ts : List Tn) (hg : Gl X "isinstance") (hm : X.mg "isinstance" = none) (ha : PEd X a fa) (hy : PA X tys (fun σ H Q => Q (ts.map fun t => V.ty t.name) H)) (hl : ts.length ≤ 100 := by decide) (he : starEach [a, .Tuple tys kk p2] X.env = (false, eval a X.env) :: starEach [.Tuple tys kk p2] X.env := by rfl) :
    PEd X (.Call (.Name "isinstance" p) [a, .Tuple tys kk p2] [] pos) (isE fa ts) := fun F => PE.mono (pe_callB call_isiT hg hm (by decide +kernel) (pa_cons (d_sub ha F) (pa_cons (pe_tup hy) pa_nil) he) (he := he) (hpl := rfl)) fun σ H Q hq => by
  obtain ⟨ς, G, rl, r, ς', e, k⟩ := hq
  obtain ⟨a, ς1, e1, q1⟩ := bd_some e
  obtain ⟨d, ς3, e3', q3⟩ := bd_some q1
  obtain ⟨e3, h3⟩ := rd_some e3'
  subst h3
  cases q3
  refine ⟨ς, G, rl, a, _, e1, fun v H1 G1 rl1 s1 rep1 => ⟨tys_len ts hl, fun z hz => ?_⟩⟩
  have rv := rdD_ok rl1 rep1 e3
  have ty := tyX_of (dp_same (same_upd (o := .tup (ts.map fun t => V.ty t.name)) hz) (rv.dp rl1.sub))
  exact ⟨v, z, _, _, _, _, rfl, upd_same, clsV_of ts, ty, kitAny_of ts, k _ _ _ (rl1.lay hz) (s1.trans (same_upd (rl1.gnone hz))) (.bl _)⟩
/-- the types' names as arguments -/
theorem ty_nil : PA X [] (fun σ H Q => Q (([] : List Tn).map fun t => V.ty t.name) H) := pa_nil
theorem ty_cons {y : Str} {ts : List Tn} (t : Tn) (hy : PE X (.Name y p2) (tC (.ty t.name))) (h : PA X es (fun σ H Q => Q (ts.map fun t => V.ty t.name) H)) (he : starEach (.Name y p2 :: es) X.env = (false, eval (.Name y p2) X.env) :: starEach es X.env := by rfl) :
    PA X (.Name y p2 :: es) (fun σ H Q => Q ((t :: ts).map fun t => V.ty t.name) H) := pa_cons hy h he
/-! ### repr of data -/
end
/-! ### another entry to hold on to -/
section
variable {K : PySem.W.Frag} {F : Fx} {ς ς' : En} {G H G' H' : Hp} {σ σ' : L2.St}
noncomputable def Fx.now (F : Fx) (ς : En) (G : Hp) (σ : L2.St) (H : Hp) : Fx where
  A := F.A
  G0 := G
  H0 := fun a => @ite _ ((∃ (i : Nat) (ds : List D), ς[i]? = some (some (.own false ds)) ∧ σ[i]? = some (some (.ref a))) ∨ ∃ (i : Nat) (kvs : List (D × D)), ς[i]? = some (some (.vx (.odc kvs))) ∧ σ[i]? = some (some (.ref a))) (Classical.propDecidable _) none (H a)
theorem now_none (r : Rel K F ς G σ H) {a : Addr} (h : (F.now ς G σ H).H0 a = none) : F.H0 a = none := by
  by_cases q : (∃ (i : Nat) (ds : List D), ς[i]? = some (some (.own false ds)) ∧ σ[i]? = some (some (.ref a))) ∨ ∃ (i : Nat) (kvs : List (D × D)), ς[i]? = some (some (.vx (.odc kvs))) ∧ σ[i]? = some (some (.ref a))
  · rcases q with ⟨i, ds, h1, h2⟩ | ⟨i, kvs, h1, h2⟩
    · obtain ⟨a', vs, e1, _, _, _, _, e6⟩ := r.ow i false ds h1
      rw [h2] at e1; cases e1
      exact e6 rfl
    · obtain ⟨a', o, e1, _, _, _, e5⟩ := r.od i kvs h1
      rw [h2] at e1; cases e1
      exact e5
  · have h' : H a = none := by
      unfold Fx.now at h
      simp only at h
      rw [if_neg q] at h
      exact h
    exact r.new h'
theorem now_someG {a : Addr} {o : HO} (h : H a = some o) (q : ∀ (i : Nat) b ds, ς[i]? = some (some (.own b ds)) → σ[i]? ≠ some (some (.ref a))) (qd : ∀ (i : Nat) kvs, ς[i]? = some (some (.vx (.odc kvs))) → σ[i]? ≠ some (some (.ref a))) : (F.now ς G σ H).H0 a = some o := by
  unfold Fx.now
  simp only
  rw [if_neg (by
    rintro (⟨i, ds, h1, h2⟩ | ⟨i, kvs, h1, h2⟩)
    · exact q i _ _ h1 h2
    · exact qd i _ h1 h2)]
  exact h
theorem Rel.lno (r : Rel K F ς G σ H) {a : Addr} {vs : List V} (h : H a = some (.lst vs)) : ∀ (i : Nat) kvs, ς[i]? = some (some (.vx (.odc kvs))) → σ[i]? ≠ some (some (.ref a)) := fun i kvs h1 h2 => by
  obtain ⟨a', o, e1, e2, e3, _⟩ := r.od i kvs h1
  rw [h2] at e1; cases e1
  rw [h] at e2; cases e2
  exact DcAt.lst e3
theorem now_some (r : Rel K F ς G σ H) {a : Addr} {vs : List V} (h : H a = some (.lst vs)) (q : ∀ (i : Nat) b ds, ς[i]? = some (some (.own b ds)) → σ[i]? ≠ some (some (.ref a))) : (F.now ς G σ H).H0 a = some (.lst vs) := now_someG h q (r.lno h)
theorem Rel.now (r : Rel K F ς G σ H) : Rel K (F.now ς G σ H) ς G σ H where
  len := r.len
  sub := r.sub
  g0 := Same.refl _
  pu := r.pu
  ow := fun i b ds e => by
    obtain ⟨a, vs, e1, e2, e3, e4, e5, e6⟩ := r.ow i b ds e
    refine ⟨a, vs, e1, e2, e3, e4, e5, fun hb => ?_⟩
    subst hb
    unfold Fx.now
    simp only
    rw [if_pos (.inl ⟨i, ds, e, e1⟩)]
  ap := r.ap
  par := r.par
  fr := fun a o h _ => by
    unfold Fx.now at h
    simp only at h
    split at h
    · cases h
    · exact h
  nw := fun a h => .inl h
  vx := r.vx
  od := fun i kvs e => by
    obtain ⟨a, o, e1, e2, e3, e4, e5⟩ := r.od i kvs e
    refine ⟨a, o, e1, e2, e3, e4, ?_⟩
    unfold Fx.now
    simp only
    rw [if_pos (.inr ⟨i, kvs, e, e1⟩)]
  oa := r.oa
theorem Rel.back (r : Rel K F ς G σ H) (r1 : Rel K (F.now ς G σ H) ς' G' σ' H') : Rel K F ς' G' σ' H' where
  len := r1.len
  sub := r1.sub
  g0 := r.g0.trans r1.g0
  pu := r1.pu
  ow := fun i b ds e => by
    obtain ⟨a, vs, e1, e2, e3, e4, e5, e6⟩ := r1.ow i b ds e
    exact ⟨a, vs, e1, e2, e3, e4, e5, fun hb => now_none r (e6 hb)⟩
  ap := r1.ap
  par := r1.par
  fr := fun a o h na => by
    have h1 := r.fr a o h na
    refine r1.fr a o ?_ na
    cases q : (F.now ς G σ H).H0 a with
    | none => rw [now_none r q] at h; cases h
    | some o' =>
      have := r.now.fr a o' q na
      rw [h1] at this; exact this.symm
  nw := fun a h => by
    rcases r1.nw a h with q | q
    · exact r.nw a q
    · exact .inr (now_none r q)
  vx := r1.vx
  od := fun i kvs e => by
    obtain ⟨a, o, e1, e2, e3, e4, e5⟩ := r1.od i kvs e
    exact ⟨a, o, e1, e2, e3, e4, now_none r e5⟩
  oa := r1.oa
/-- a thing that is nobody's stays so -/
theorem Rel.keepG (r : Rel K F ς G σ H) (r1 : Rel K (F.now ς G σ H) ς' G' σ' H') {a : Addr} {o : HO} (h1 : H a = some o) (h2 : G a = none) (h5 : ∀ (i : Nat) b es, ς[i]? = some (some (.own b es)) → σ[i]? ≠ some (some (.ref a))) (hd : ∀ (i : Nat) kvs, ς[i]? = some (some (.vx (.odc kvs))) → σ[i]? ≠ some (some (.ref a))) :
    H' a = some o ∧ G' a = none ∧ (∀ (i : Nat) b es, ς'[i]? = some (some (.own b es)) → σ'[i]? ≠ some (some (.ref a))) ∧ ∀ (i : Nat) kvs, ς'[i]? = some (some (.vx (.odc kvs))) → σ'[i]? ≠ some (some (.ref a)) := by
  have q : (F.now ς G σ H).H0 a = some o := now_someG h1 h5 hd
  have np : ∀ i, F.A i ≠ some a := fun i z => by
    obtain ⟨ds, e⟩ := r.par i a z
    exact h5 i _ _ e (r.own_in z).1
  refine ⟨r1.fr a _ q np, ?_, fun i b es e z => ?_, fun i kvs e z => ?_⟩
  · cases z : G' a with
    | none => rfl
    | some y =>
      rcases r1.nw a (by rw [z]; simp) with w | w
      · exact absurd h2 w
      · rw [q] at w; cases w
  · obtain ⟨a', vs, e1, _, _, _, e5, e6⟩ := r1.ow i b es e
    rw [z] at e1; cases e1
    cases b with
    | true => exact np i (e5 rfl)
    | false => rw [e6 rfl] at q; cases q
  · obtain ⟨a', o', e1, _, _, _, e5⟩ := r1.od i kvs e
    rw [z] at e1; cases e1
    rw [e5] at q; cases q
/-- a list that is nobody's stays so -/
theorem Rel.keepF (r : Rel K F ς G σ H) (r1 : Rel K (F.now ς G σ H) ς' G' σ' H') {a : Addr} {vs : List V} (h1 : H a = some (.lst vs)) (h2 : G a = none) (h5 : ∀ (i : Nat) b es, ς[i]? = some (some (.own b es)) → σ[i]? ≠ some (some (.ref a))) :
    H' a = some (.lst vs) ∧ G' a = none ∧ ∀ (i : Nat) b es, ς'[i]? = some (some (.own b es)) → σ'[i]? ≠ some (some (.ref a)) := by
  obtain ⟨k1, k2, k3, _⟩ := r.keepG r1 h1 h2 h5 (r.lno h1)
  exact ⟨k1, k2, k3⟩
theorem Rel.keepR (r : Rel K F ς G σ H) (r1 : Rel K (F.now ς G σ H) ς' G' σ H') {x : R} {v : V} (h : RepR K F ς G σ H x v) : RepR K F ς' G' σ H' x v := by
  cases x with
  | pure d => exact dp_same r1.g0 h
  | ref i => exact h
  | vx x =>
    cases x with
    | exc nm d => exact xp_same (x := .exc nm d) r1.g0 h
    | odc kvs =>
      obtain ⟨a, o, rfl, h1, h2, h3, h4, h5⟩ := h
      obtain ⟨k1, k2, _, k3⟩ := r.keepG r1 h1 h3 (fun i b es z1 z2 => by
        obtain ⟨a', vs, f1, f2, _⟩ := r.ow i b es z1
        rw [z2] at f1; cases f1
        rw [h1] at f2; cases f2
        exact DcAt.lst h2) h5
      exact ⟨a, o, rfl, k1, dc_same r1.g0 h2, k2, h4, k3⟩
  | fresh ds =>
    obtain ⟨a, vs, rfl, h1, h2, h3, h4, h5⟩ := h
    obtain ⟨k1, k2, k3⟩ := r.keepF r1 h1 h2 h5
    exact ⟨a, vs, rfl, k1, k2, dpa_same r1.g0 h3, h4, k3⟩
end
end Lw
namespace Lw
open PySem PySem.Spec PyProof.Rows L2
inductive Out where
  | nx (ς : En)
  | rt (r : R) (ς : En)
  | bk (ς : En)
  | ct (ς : En)
abbrev MS := En → Option Out
def EndsOk (K : PySem.W.Frag) (F : Fx) (G : Hp) (D : Ends) : Out → Prop
  | .nx ς' => ∀ σ' H' G', Rel K F ς' G' σ' H' → Same G G' → D.nx σ' H'
  | .rt r ς' => ∀ v σ' H' G', Rel K F ς' G' σ' H' → Same G G' → RepR K F ς' G' σ' H' r v → D.rt v H'
  | .bk ς' => ∀ σ' H' G', Rel K F ς' G' σ' H' → Same G G' → D.bk σ' H'
  | .ct ς' => ∀ σ' H' G', Rel K F ς' G' σ' H' → Same G G' → D.ct σ' H'
theorem EndsOk.mono {K : PySem.W.Frag} {F : Fx} {G G1 : Hp} {D : Ends} {o : Out} (s : Same G G1) (h : EndsOk K F G D o) : EndsOk K F G1 D o := by
  cases o with
  | nx ς => exact fun σ' H' G' r z => h σ' H' G' r (s.trans z)
  | rt r ς => exact fun v σ' H' G' r z => h v σ' H' G' r (s.trans z)
  | bk ς => exact fun σ' H' G' r z => h σ' H' G' r (s.trans z)
  | ct ς => exact fun σ' H' G' r z => h σ' H' G' r (s.trans z)
def tSt (K : PySem.W.Frag) (F : Fx) (g : MS) : TS := fun D σ H => ∃ ς G, Rel K F ς G σ H ∧ ∃ o, g ς = some o ∧ EndsOk K F G D o
abbrev PSd (X : Cx) (st : Stmt) (g : MS) : Prop := ∀ F : Fx, PS X st (tSt X.K F g)
abbrev PSsd (X : Cx) (st : List Stmt) (g : MS) : Prop := ∀ F : Fx, PSs X st (tSt X.K F g)
section
variable {X : Cx} {a b c e : Expr} {es : List Expr} {fa fb fc f : M R} {ta : M Bool} {pos p p1 p2 p3 : Pos} {x : Str} {st : Stmt} {sts rest : List Stmt} {g g1 g2 : MS}
def skip : MS := fun ς => some (.nx ς)
def sq (g1 g2 : MS) : MS := fun ς => match g1 ς with
  | some (.nx ς') => g2 ς'
  | o => o
theorem s_nil : PSsd X [] skip := fun F => PSs.mono pss_nil fun D σ H hq => by
  obtain ⟨ς, G, rl, o, e, k⟩ := hq
  cases e
  exact k σ H G rl (Same.refl _)
theorem s_cons (h1 : PSd X st g1) (h2 : PSsd X rest g2) : PSsd X (st :: rest) (sq g1 g2) := fun F => PSs.mono (pss_cons (h1 F) (h2 F)) fun D σ H hq => by
  obtain ⟨ς, G, rl, o, e, k⟩ := hq
  unfold sq at e
  split at e
  · rename_i ς1 q
    exact ⟨ς, G, rl, _, q, fun σ' H' G' rl' s => ⟨ς1, G', rl', o, e, k.mono s⟩⟩
  · rename_i q
    refine ⟨ς, G, rl, o, e, ?_⟩
    cases o with
    | nx ς1 => exact absurd e (q ς1)
    | rt r ς1 => exact k
    | bk ς1 => exact k
    | ct ς1 => exact k
theorem s_one (h1 : PSd X st g1) : PSsd X [st] g1 := fun F => pss_one (h1 F)
def brk : MS := fun ς => some (.bk ς)
def exS (f : M R) : MS := fun ς => match f ς with
  | some (_, ς') => some (.nx ς')
  | none => none
theorem s_expr (he : PEd X e f) (hs : swapsWith e none pos.line X.env = pure false := by rfl) : PSd X (.Expr e pos) (exS f) := fun F => PS.mono (ps_expr (he F) hs) fun D σ H hq => by
  obtain ⟨ς, G, rl, o, e, k⟩ := hq
  unfold exS at e
  split at e
  · rename_i r ς1 q
    cases e
    exact ⟨ς, G, rl, r, ς1, q, fun v H' G' rl' s _ => k σ H' G' rl' s⟩
  · cases e
def retS (f : M R) : MS := fun ς => match f ς with
  | some (.pure d, ς') => some (.rt (.pure d) ς')
  | some (.fresh ds, ς') => some (.rt (.fresh ds) ς')
  | some (.ref i, ς') => match ς'[i]? with
    | some (some (.own false ds)) => some (.rt (.fresh ds) (ς'.set i none))
    | some (some (.pure d)) => some (.rt (.pure d) ς')
    | some (some (.vx (.odc kvs))) => some (.rt (.vx (.odc kvs)) (ς'.set i none))
    | _ => none
  | some (.vx x, ς') => some (.rt (.vx x) ς')
  | none => none
theorem Rel.move {K : PySem.W.Frag} {F : Fx} {ς : En} {G H : Hp} {σ : L2.St} (r : Rel K F ς G σ H) {i : Nat} {ds : List D} {v : V} (h : ς[i]? = some (some (.own false ds))) (hv : σ[i]? = some (some v)) :
    Rel K F (ς.set i none) G (σ.set i none) H ∧ RepR K F (ς.set i none) G (σ.set i none) H (.fresh ds) v := by
  have hf : free ς i = true := by unfold free; rw [h]
  obtain ⟨a, vs, e1, e2, e3, e4, _, e6⟩ := r.ow i false ds h
  rw [hv] at e1; cases e1
  refine ⟨r.setN hf, a, vs, rfl, e2, e3, e4, e6 rfl, fun j b es q z => ?_⟩
  replace q := get_set q; rcases q with ⟨rfl, q⟩ | ⟨n, q⟩
  · cases q
  · rw [List.getElem?_set_ne n] at z
    exact n (r.ap i j false b ds es a h q hv z)
theorem Rel.moveD {K : PySem.W.Frag} {F : Fx} {ς : En} {G H : Hp} {σ : L2.St} (r : Rel K F ς G σ H) {i : Nat} {kvs : List (D × D)} {v : V} (h : ς[i]? = some (some (.vx (.odc kvs)))) (hv : σ[i]? = some (some v)) :
    Rel K F (ς.set i none) G (σ.set i none) H ∧ RepR K F (ς.set i none) G (σ.set i none) H (.vx (.odc kvs)) v := by
  have hf : free ς i = true := by unfold free; rw [h]
  obtain ⟨a, o, e1, e2, e3, e4, e6⟩ := r.od i kvs h
  rw [hv] at e1; cases e1
  refine ⟨r.setN hf, a, o, rfl, e2, e3, e4, e6, fun j kws q z => ?_⟩
  replace q := get_set q; rcases q with ⟨rfl, q⟩ | ⟨n, q⟩
  · cases q
  · rw [List.getElem?_set_ne n] at z
    exact n (r.oa i j kvs kws a h q hv z)
theorem s_ret (he : PEd X e f) : PSd X (.Return (some e) pos) (retS f) := fun F => PS.mono (ps_ret (he F)) fun D σ H hq => by
  obtain ⟨ς, G, rl, o, e, k⟩ := hq
  unfold retS at e
  split at e
  · rename_i d ς1 q
    cases e
    exact ⟨ς, G, rl, _, ς1, q, fun v H' G' rl' s rep => k v σ H' G' rl' s rep⟩
  · rename_i ds ς1 q
    cases e
    exact ⟨ς, G, rl, _, ς1, q, fun v H' G' rl' s rep => k v σ H' G' rl' s rep⟩
  · rename_i i ς1 q
    refine ⟨ς, G, rl, _, ς1, q, fun v H' G' rl' s rep => ?_⟩
    split at e
    · rename_i ds q2
      cases e
      obtain ⟨r1, r2⟩ := rl'.move q2 rep
      exact k v _ H' G' r1 s r2
    · rename_i d q2
      cases e
      obtain ⟨w, h1, h2⟩ := rl'.pu i _ q2
      rw [show σ[i]? = some (some v) from rep] at h1
      cases h1
      exact k v σ H' G' rl' s h2
    · rename_i kvs q2
      cases e
      obtain ⟨r1, r2⟩ := rl'.moveD q2 rep
      exact k v _ H' G' r1 s r2
    · cases e
  · rename_i x ς1 q
    cases e
    exact ⟨ς, G, rl, _, ς1, q, fun v H' G' rl' s rep => k v σ H' G' rl' s rep⟩
  · cases e
def ifS (t : M Bool) (g1 g2 : MS) : MS := fun ς => match t ς with
  | some (true, ς') => g1 ς'
  | some (false, ς') => g2 ς'
  | none => none
theorem s_if (hc : PTd X c ta) (h1 : PSsd X sts g1) (h2 : PSsd X rest g2) : PSd X (.If c sts rest pos) (ifS ta g1 g2) := fun F => PS.mono (ps_if (hc F) (h1 F) (h2 F)) fun D σ H hq => by
  obtain ⟨ς, G, rl, o, e, k⟩ := hq
  unfold ifS at e
  split at e
  · rename_i ς1 q
    refine ⟨ς, G, rl, true, ς1, q, fun H' G' rl' s => ?_⟩
    exact iteT ⟨ς1, G', rl', o, e, k.mono s⟩
  · rename_i ς1 q
    refine ⟨ς, G, rl, false, ς1, q, fun H' G' rl' s => ?_⟩
    exact iteF ⟨ς1, G', rl', o, e, k.mono s⟩
  · cases e
/-! ### targets -/
abbrev Tg := D → En → Option En
def tTg (K : PySem.W.Frag) (F : Fx) (vs : List Nat) (tg : Tg) : TG := fun v σ H Q => ∃ ς G d, Rel K F ς G σ H ∧ Dp K G v d ∧ ∃ ς', tg d ς = some ς' ∧ ∀ σ' H' G', Rel K F ς' G' σ' H' → Same G G' → wipe σ' vs = wipe σ vs → Q σ' H'
theorem _root_.L2.PG.mono {t t' : TG} {tg : Expr} (h : PG X tg t) (k : ∀ v σ H Q, t' v σ H Q → t v σ H Q) : PG X tg t' := ⟨fun pins s σ H v u Q I r hw => h.run pins s σ H v u Q I r (k v σ H Q hw)⟩
abbrev PGd (X : Cx) (e : Expr) (vs : List Nat) (tg : Tg) : Prop := ∀ F : Fx, PG X e (tTg X.K F vs tg)
def tgN (i : Nat) : Tg := fun d ς => if free ς i = true then some (ς.set i (some (.pure d))) else none
theorem wipe_set (σ : L2.St) (i : Nat) (o : Option V) : ∀ vs : List Nat, i ∈ vs → wipe (σ.set i o) vs = wipe σ vs
  | [], h => by cases h
  | j :: vs, h => by
    by_cases hm : i ∈ vs
    · unfold wipe; rw [wipe_set σ i o vs hm]
    · have e : i = j := by
        rcases List.mem_cons.mp h with e | e
        · exact e
        · exact absurd e hm
      subst e
      unfold wipe
      have : ∀ ws : List Nat, i ∉ ws → (wipe (σ.set i o) ws).set i none = (wipe σ ws).set i none := by
        intro ws
        induction ws with
        | nil => intro _; show (σ.set i o).set i none = σ.set i none; rw [List.set_set]
        | cons w ws ih =>
          intro hw
          have h1 : i ≠ w := fun z => hw (by rw [z]; exact List.mem_cons_self)
          have h2 : i ∉ ws := fun z => hw (List.mem_cons_of_mem _ z)
          show ((wipe (σ.set i o) ws).set w none).set i none = ((wipe σ ws).set w none).set i none
          rw [List.set_comm _ _ (Ne.symm h1), ih h2, List.set_comm _ _ h1]
      exact this vs hm
theorem g_name {i : Nat} (h : PG X (.Name x pos) (gName i)) : PGd X (.Name x pos) [i] (tgN i) := fun F => PG.mono h fun v σ H Q hq => by
  obtain ⟨ς, G, d, rl, hd, ς', e, k⟩ := hq
  unfold tgN at e
  split at e
  · rename_i q
    cases e
    exact k _ H G (rl.setP q hd) (Same.refl _) (wipe_set σ i _ [i] (by simp))
  · cases e
/-- several targets -/
abbrev Tgs := List D → En → Option En
def tTgs (K : PySem.W.Frag) (F : Fx) (vs : List Nat) (tg : Tgs) : TGs := fun ws σ H Q => ∃ ς G ds, Rel K F ς G σ H ∧ DpAll K G ws ds ∧ ∃ ς', tg ds ς = some ς' ∧ ∀ σ' H' G', Rel K F ς' G' σ' H' → Same G G' → wipe σ' vs = wipe σ vs → Q σ' H'
theorem _root_.L2.PGs.mono {t t' : TGs} {tg : List Expr} (h : PGs X tg t) (k : ∀ v σ H Q, t' v σ H Q → t v σ H Q) : PGs X tg t' := ⟨fun pins s σ H v u Q I r hw => h.run pins s σ H v u Q I r (k v σ H Q hw)⟩
abbrev PGsd (X : Cx) (e : List Expr) (vs : List Nat) (tg : Tgs) : Prop := ∀ F : Fx, PGs X e (tTgs X.K F vs tg)
def tgsN : Tgs := fun ds ς => match ds with
  | [] => some ς
  | _ => none
def tgsC (t : Tg) (u : Tgs) : Tgs := fun ds ς => match ds with
  | d :: r => match t d ς with
    | some ς' => u r ς'
    | none => none
  | [] => none
theorem gs_nil : PGsd X [] [] tgsN := fun F => PGs.mono pgs_nil fun v σ H Q hq => by
  obtain ⟨ς, G, ds, rl, hd, ς', e, k⟩ := hq
  cases hd with
  | nil => cases e; exact ⟨rfl, k σ H G rl (Same.refl _) rfl⟩
  | cons _ _ => cases e
theorem wipe_app (σ : L2.St) : ∀ vs ws : List Nat, wipe σ (vs ++ ws) = wipe (wipe σ ws) vs
  | [], _ => rfl
  | v :: vs, ws => by show (wipe σ (vs ++ ws)).set v none = (wipe (wipe σ ws) vs).set v none; rw [wipe_app σ vs ws]
theorem wipe_comm1 (σ : L2.St) (i : Nat) : ∀ vs : List Nat, wipe (σ.set i none) vs = (wipe σ vs).set i none
  | [] => rfl
  | v :: vs => by
    show (wipe (σ.set i none) vs).set v none = ((wipe σ vs).set v none).set i none
    rw [wipe_comm1 σ i vs]
    by_cases h : i = v
    · rw [h]
    · rw [List.set_comm _ _ h]
theorem wipe_comm (σ : L2.St) : ∀ vs ws : List Nat, wipe (wipe σ ws) vs = wipe (wipe σ vs) ws
  | [], _ => rfl
  | v :: vs, ws => by show (wipe (wipe σ ws) vs).set v none = wipe ((wipe σ vs).set v none) ws; rw [wipe_comm σ vs ws, wipe_comm1]
theorem gs_cons {e : Expr} {es : List Expr} {t : Tg} {u : Tgs} {vs ws : List Nat} (h1 : PGd X e vs t) (h2 : PGsd X es ws u) (hs : PGs X (e :: es) (gCons (fun v σ H Q => ∃ F, tTg X.K F vs t v σ H Q) (fun v σ H Q => ∃ F, tTgs X.K F ws u v σ H Q))) : PGsd X (e :: es) (vs ++ ws) (tgsC t u) := fun F => PGs.mono hs fun zs σ H Q hq => by
  obtain ⟨ς, G, ds, rl, hd, ς', e, k⟩ := hq
  cases hd with
  | nil => cases e
  | cons d1 d2 =>
    rename_i v r d ds'
    unfold tgsC at e
    simp only at e
    split at e
    · rename_i ς1 q
      refine ⟨v, r, rfl, F, ς, G, d, rl, d1, ς1, q, fun σ1 H1 G1 rl1 s1 w1 => ⟨F, ς1, G1, ds', rl1, dpa_same s1 d2, ς', e, fun σ2 H2 G2 rl2 s2 w2 => k σ2 H2 G2 rl2 (s1.trans s2) ?_⟩⟩
      rw [wipe_app, wipe_app, w2, wipe_comm, w1, wipe_comm]
    · cases e
theorem PGd.ex {e : Expr} {vs : List Nat} {t : Tg} (h : PGd X e vs t) : PG X e (fun v σ H Q => ∃ F, tTg X.K F vs t v σ H Q) := ⟨fun pins s σ H v u Q I r ⟨F, hw⟩ => (h F).run pins s σ H v u Q I r hw⟩
theorem PGsd.ex {e : List Expr} {vs : List Nat} {t : Tgs} (h : PGsd X e vs t) : PGs X e (fun v σ H Q => ∃ F, tTgs X.K F vs t v σ H Q) := ⟨fun pins s σ H v u Q I r ⟨F, hw⟩ => (h F).run pins s σ H v u Q I r hw⟩
theorem _root_.L2.PG.or {t t' : TG} {tg : Expr} (h : PG X tg t) (h' : PG X tg t') : PG X tg (fun v σ H Q => t v σ H Q ∨ t' v σ H Q) := ⟨fun pins s σ H v u Q I r hw => by
  rcases hw with hw | hw
  · exact h.run pins s σ H v u Q I r hw
  · exact h'.run pins s σ H v u Q I r hw⟩
def tgT (n : Nat) (u : Tgs) : Tg := fun d ς => match items d with
  | some ds => if ds.length = n then u ds ς else none
  | none => none
theorem g_tup {es : List Expr} {k n : Nat} {u : Tgs} {vs : List Nat} (h : PG X (.Tuple es k pos) (fun v σ H Q => gTup X.K n (fun v σ H Q => ∃ F, tTgs X.K F vs u v σ H Q) v σ H Q ∨ gLst X.K n (fun v σ H Q => ∃ F, tTgs X.K F vs u v σ H Q) v σ H Q)) : PGd X (.Tuple es k pos) vs (tgT n u) := fun F => PG.mono h fun v σ H Q hq => by
  obtain ⟨ς, G, d, rl, hd, ς', e, kk⟩ := hq
  unfold tgT at e
  split at e
  · rename_i ds q
    split at e
    · rename_i hl
      cases d with
      | list es =>
        cases q
        obtain ⟨a, ws, rfl, h1, h2⟩ := dp_list hd
        exact .inr ⟨a, ws, rfl, rl.sub.seq h1, by rw [dpa_len h2]; exact hl, F, ς, G, _, rl, h2, ς', e, kk⟩
      | tuple es =>
        cases q
        obtain ⟨a, ws, rfl, h1, h2⟩ := dp_tuple hd
        exact .inl ⟨a, ws, rfl, same_seqT rl.sub h1, by rw [dpa_len h2]; exact hl, F, ς, G, _, rl, h2, ς', e, kk⟩
      | _ => cases q
    · cases e
  · cases e
def tgS (fo fi : M R) : Tg := fun d ς => match fo ς with
  | some (.ref i, ς1) => match ptS fi ς1 with
    | some (some j, ς2) => match ς2[i]? with
      | some (some (.own b ds)) => match ixN ds.length j with
        | some n => some (ς2.set i (some (.own b (ds.set n d))))
        | none => none
      | _ => none
    | _ => none
  | _ => none
theorem PEd.ex {e : Expr} {f : M R} (h : PEd X e f) : PE X e (fun σ H Q => ∃ F, tEv X.K F f σ H Q) := ⟨fun pins s σ H Q I ⟨F, hw⟩ => (h F).run pins s σ H Q I hw⟩
theorem g_sub {o i : Expr} {fo fi : M R} (h : PG X (.Subscript o i pos) (gSub (fun σ H Q => ∃ F, tEv X.K F fo σ H Q) (fun σ H Q => ∃ F, tEv X.K F (sub fi) σ H Q) rSetL)) : PGd X (.Subscript o i pos) [] (tgS fo fi) := fun F => PG.mono h fun v σ H Q hq => by
  obtain ⟨ς, G, d, rl, hd, ς', e, k⟩ := hq
  unfold tgS at e
  split at e
  · rename_i n ς1 q1
    split at e
    · rename_i j ς2 q2
      split at e
      · rename_i b ds q3
        split at e
        · rename_i m q4
          cases e
          obtain ⟨r, ς3, e3, q5⟩ := bd_some q2
          obtain ⟨y, ς4, e4', q6⟩ := bd_some q5
          obtain ⟨e4, h4⟩ := rd_some e4'
          obtain ⟨e5, h5⟩ := lift_some q6
          subst h4 h5
          refine ⟨F, ς, G, rl, _, ς1, q1, fun ov H1 G1 rl1 s1 rep1 => ⟨F, ς1, G1, rl1, r, _, e3, fun iv H2 G2 rl2 s2 rep2 => ?_⟩⟩
          have ri := rdD_ok rl2 rep2 e4
          cases y with
          | int jj =>
            cases e5
            obtain ⟨a, ws, f1, f2, f3, f4, _⟩ := rl2.ow _ b ds q3
            rw [show σ[n]? = some (some ov) from rep1] at f1
            cases f1
            exact ⟨a, ws, j, m, rfl, ri.int, f2, by rw [dpa_len f4]; exact q4, k σ _ G2 (rl2.mut q3 rep1 (dpa_set (dp_same (s1.trans s2) hd) m f4)) (s1.trans s2) rfl⟩
          | _ => cases e5
        · cases e
      · cases e
    · cases e
  · cases e
/-- target = value -/
def asg (f : M R) (tg : Tg) : MS := fun ς => match esc f ς with
  | some (d, ς') => match tg d ς' with
    | some ς2 => some (.nx ς2)
    | none => none
  | none => none
theorem s_asg {tg : Expr} {vs : List Nat} {t : Tg} (he : PEd X e f) (hg : PGd X tg vs t) (hs : swapsWithSole [tg] e pos.line X.env = pure false := by rfl) (hw : swappedStores [tg] e X.env = pure none := by rfl) (h1 : (assignEach [tg] X.env).map (·.2) = [assign tg X.env] := by rfl) : PSd X (.Assign [tg] e pos) (asg f t) := fun F => PS.mono (ps_asg (d_esc he F) (hg F) hs hw h1) fun D σ H hq => by
  obtain ⟨ς, G, rl, o, e, k⟩ := hq
  unfold asg at e
  split at e
  · rename_i d ς1 q
    split at e
    · rename_i ς2 q2
      cases e
      exact ⟨ς, G, rl, d, ς1, q, fun v H' G' rl' s dp => ⟨ς1, G', d, rl', dp, ς2, q2, fun σ2 H2 G2 rl2 s2 _ => k σ2 H2 G2 rl2 (s.trans s2)⟩⟩
    · cases e
  · cases e
/-- name = a new list, the name's own -/
def asgO (i : Nat) (f : M R) : MS := fun ς => match f ς with
  | some (.fresh ds, ς') => if free ς' i = true then some (.nx (ς'.set i (some (.own false ds)))) else none
  | _ => none
theorem t_asgO {F : Fx} {i : Nat} : ∀ D σ H, tSt X.K F (asgO i f) D σ H → tAsg (tEv X.K F f) (gName i) D σ H := fun D σ H hq => by
  obtain ⟨ς, G, rl, o, e, k⟩ := hq
  unfold asgO at e
  split at e
  · rename_i ds ς1 q
    split at e
    · rename_i hf
      cases e
      exact ⟨ς, G, rl, _, ς1, q, fun v H' G' rl' s rep => k _ H' G' (rl'.setO hf rep) s⟩
    · cases e
  · cases e
theorem t_asgP {F : Fx} {i : Nat} : ∀ D σ H, tSt X.K F (asg f (tgN i)) D σ H → tAsg (tEv X.K F f) (gName i) D σ H := fun D σ H hq => by
  obtain ⟨ς, G, rl, o, e, k⟩ := hq
  unfold asg at e
  split at e
  · rename_i d ς1 q
    obtain ⟨r1, ς2, e1, e2⟩ := bd_some q
    split at e
    · rename_i ς3 q2
      cases e
      refine ⟨ς, G, rl, r1, ς2, e1, fun v H' G' rl' s rep => ?_⟩
      obtain ⟨G2, rl2, s2, dp⟩ := toD_ok rl' rep e2
      unfold tgN at q2
      split at q2
      · rename_i hf
        cases q2
        exact k _ H' G2 (rl2.setP hf dp) (s.trans s2)
      · cases q2
    · cases e
  · cases e
theorem s_asgO {i : Nat} (he : PEd X e f) (h : ∀ te : TE, PE X e te → PS X st (tAsg te (gName i))) : PSd X st (asgO i f) := fun F => PS.mono (h _ (he F)) t_asgO
/-- where the value is a comprehension -/
theorem s_asgL {i : Nat} {t : TE} (h : PS X st (tAsg t (gName i))) (ht : ∀ F σ H Q, tEv X.K F f σ H Q → t σ H Q) : PSd X st (asg f (tgN i)) := fun F => PS.mono h fun D σ H hq => ht F σ H _ (t_asgP D σ H hq)
/-! ### a, b = x, y in one go -/
def put (i : Nat) : R → Option (Option S)
  | .pure d => some (some (.pure d))
  | .fresh ds => some (some (.own false ds))
  | .ref _ => none
  | .vx (.odc kvs) => some (some (.vx (.odc kvs)))
  | .vx (.exc _ _) => none
/-- what is to be stored: a datum, or (o) a new list as it is -/
def pv' (o : Bool) (f : M R) : M R := if o = true then f else bd (esc f) fun d => ret (.pure d)
theorem d_pv (o : Bool) (h : PEd X e f) : PEd X e (pv' o f) := by
  cases o with
  | true => exact h
  | false =>
    intro F
    refine PE.mono (d_esc h F) fun σ H Q hq => ?_
    obtain ⟨ς, G, rl, r, ς', e, k⟩ := hq
    obtain ⟨d, ς1, e1, q1⟩ := bd_some e
    cases q1
    exact ⟨ς, G, rl, d, _, e1, k⟩
def par2 (i j : Nat) (o1 o2 : Bool) (fa fb : M R) : MS := fun ς => match bd (pv' o1 fa) (fun x => bd (pv' o2 fb) fun y => ret (x, y)) ς with
  | some ((x, y), ς') => match put i x, put j y with
    | some s, some t => if free ς' i = true ∧ free (ς'.set i s) j = true ∧ i ≠ j then some (.nx ((ς'.set i s).set j t)) else none
    | _, _ => none
  | none => none
theorem Rel.put {K : PySem.W.Frag} {F : Fx} {ς : En} {G H : Hp} {σ : L2.St} (r : Rel K F ς G σ H) {i : Nat} {x : R} {v : V} {s : Option S} (hf : free ς i = true) (hs : put i x = some s) (h : RepR K F ς G σ H x v) : Rel K F (ς.set i s) G (σ.set i (some v)) H := by
  cases x with
  | pure d => cases hs; exact r.setP hf h
  | fresh ds => cases hs; exact r.setO hf h
  | ref k => cases hs
  | vx x =>
    cases x with
    | exc nm d => cases hs
    | odc kvs =>
      cases hs
      obtain ⟨a, o, rfl, h1, h2, h3, h4, h5⟩ := h
      exact r.setD hf h1 h2 h3 h4 h5
theorem s_par2 {i j : Nat} {o1 o2 : Bool} (ha : PEd X a fa) (hb : PEd X b fb) (h : ∀ t : TA, PA X [a, b] t → PS X st (tPar i j t)) (hs1 : starEach [a, b] X.env = (false, eval a X.env) :: starEach [b] X.env := by rfl) (hs2 : starEach [b] X.env = (false, eval b X.env) :: starEach [] X.env := by rfl) : PSd X st (par2 i j o1 o2 fa fb) := fun F =>
  PS.mono (h _ (pa_cons (PEd.ex (d_pv o1 ha)) (pa_cons (PEd.ex (d_pv o2 hb)) pa_nil hs2) hs1)) fun D σ H hq => by
    obtain ⟨ς, G, rl, o, e, k⟩ := hq
    unfold par2 at e
    split at e
    · rename_i x y ς' q
      obtain ⟨x', ς1, e1, q1⟩ := bd_some q
      obtain ⟨y', ς2, e2, q2⟩ := bd_some q1
      cases q2
      split at e
      · rename_i s t p1 p2
        split at e
        · rename_i hf
          cases e
          refine ⟨F, ς, G, rl, _, ς1, e1, fun v H1 G1 rl1 s1 rep1 => ⟨F.now ς1 G1 σ H1, ς1, G1, rl1.now, _, _, e2, fun w H2 G2 rl2 s2 rep2 => ⟨v, w, rfl, ?_⟩⟩⟩
          have rb := rl1.back rl2
          have rep1' := rl1.keepR rl2 rep1
          have ra := rb.put hf.1 p1 rep1'
          refine k _ H2 G2 (ra.put hf.2.1 p2 ?_) (s1.trans s2)
          cases y with
          | pure d => exact rep2
          | vx xd =>
            cases xd with
            | exc nm d => exact rep2
            | odc kws =>
              obtain ⟨a2, o2, rfl, f1, f2, f3, f4, f5⟩ := rep2
              refine ⟨a2, o2, rfl, f1, f2, f3, now_none rl1 f4, fun n kvs z1 z2 => ?_⟩
              replace z1 := get_set z1; rcases z1 with ⟨rfl, z1⟩ | ⟨nn, z1⟩
              · have il : i < σ.length := by rw [rl.len] ; exact (by have := free_lt hf.1; rw [← rb.len] at this; rw [← rl.len]; exact this)
                rw [List.getElem?_set_self il] at z2
                have hv : v = .ref a2 := Option.some.inj (Option.some.inj z2)
                cases x with
                | pure d => cases p1; cases z1
                | vx x =>
                  cases x with
                  | exc nm d => cases p1
                  | odc kvs2 =>
                    obtain ⟨a1, o1, e6, g1, g2, g3, g4, g5⟩ := rep1
                    rw [hv] at e6
                    cases e6
                    rw [now_someG g1 (fun i b es z1 z2 => by
                      obtain ⟨a', vs, k1, k2, _⟩ := rl1.ow i b es z1
                      rw [z2] at k1; cases k1
                      rw [g1] at k2; cases k2
                      exact DcAt.lst g2) g5] at f4
                    cases f4
                | ref n => cases p1
                | fresh ds1 => cases p1; cases z1
              · rw [List.getElem?_set_ne nn] at z2
                exact f5 n kvs z1 z2
          | ref n => cases p2
          | fresh ds =>
            obtain ⟨a2, vs2, rfl, f1, f2, f3, f4, f5⟩ := rep2
            refine ⟨a2, vs2, rfl, f1, f2, f3, now_none rl1 f4, fun n b es z1 z2 => ?_⟩
            replace z1 := get_set z1; rcases z1 with ⟨rfl, z1⟩ | ⟨nn, z1⟩
            · have il : i < σ.length := by rw [rl.len] ; exact (by have := free_lt hf.1; rw [← rb.len] at this; rw [← rl.len]; exact this)
              rw [List.getElem?_set_self il] at z2
              have hv : v = .ref a2 := Option.some.inj (Option.some.inj z2)
              cases x with
              | pure d => cases p1; cases z1
              | vx x =>
                cases x with
                | exc nm d => cases p1
                | odc kvs2 => cases p1; cases z1
              | ref n => cases p1
              | fresh ds1 =>
                obtain ⟨a1, vs1, e6, g1, g2, g3, g4, g5⟩ := rep1
                rw [hv] at e6
                cases e6
                rw [now_some rl1 g1 g5] at f4
                cases f4
            · rw [List.getElem?_set_ne nn] at z2
              exact f5 n b es z1 z2
        · cases e
      · cases e
    · cases e
def par3 (i j l : Nat) (fa fb fc : M R) : MS := fun ς => match bd (esc fa) (fun x => bd (esc fb) fun y => bd (esc fc) fun z => ret (x, y, z)) ς with
  | some ((x, y, z), ς') => if free ς' i = true ∧ free (ς'.set i (some (.pure x))) j = true ∧ free ((ς'.set i (some (.pure x))).set j (some (.pure y))) l = true then some (.nx (((ς'.set i (some (.pure x))).set j (some (.pure y))).set l (some (.pure z)))) else none
  | none => none
theorem PDd.ex {e : Expr} {f : M D} (h : PDd X e f) : PE X e (fun σ H Q => ∃ F, tEvD X.K F f σ H Q) := ⟨fun pins s σ H Q I ⟨F, hw⟩ => (h F).run pins s σ H Q I hw⟩
end
end Lw
namespace Lw
open PySem PySem.Spec PyProof.Rows L2
/-! ### what is walked -/
structure WalkD (K : PySem.W.Frag) (G : Hp) (J : It) (ds : List D) : Prop where
  stop : ∀ H, Same G H → J.stop ds.length H
  go : ∀ i H, i < ds.length → Same G H → J.go i H
  yld : ∀ (i : Nat) H x H' d, Same G H → J.yld i H x H' → ds[i]? = some d → (H' = H ∧ Dp K G x d) ∨ ∃ T xs es, x = .ref T ∧ H T = none ∧ H' = upd H T (.tup xs) ∧ d = .tuple es ∧ DpAll K G xs es
theorem WalkD.mono {K : PySem.W.Frag} {G G' : Hp} {J : It} {ds : List D} (w : WalkD K G J ds) (s : Same G G') : WalkD K G' J ds where
  stop := fun H h => w.stop H (s.trans h)
  go := fun i H hi h => w.go i H hi (s.trans h)
  yld := fun i H x H' d h y e => by
    rcases w.yld i H x H' d (s.trans h) y e with ⟨h1, h2⟩ | ⟨T, xs, es, h1, h2, h3, h4, h5⟩
    · exact .inl ⟨h1, dp_same s h2⟩
    · exact .inr ⟨T, xs, es, h1, h2, h3, h4, dpa_same s h5⟩
def tEvI (K : PySem.W.Frag) (F : Fx) (f : M (List D)) : TI := fun σ H R => ∃ ς G, Rel K F ς G σ H ∧ ∃ ds ς', f ς = some (ds, ς') ∧ ∀ J H' G', Rel K F ς' G' σ H' → Same G G' → WalkD K G' J ds → R J H'
theorem _root_.L2.PI.mono {X : Cx} {tg it : Expr} {t t' : TI} (h : PI X tg it t) (k : ∀ σ H R, t' σ H R → t σ H R) : PI X tg it t' := ⟨fun pins s σ H R I hw => h.run pins s σ H R I (k σ H R hw)⟩
theorem _root_.L2.PI.or {X : Cx} {tg it : Expr} {t t' : TI} (h : PI X tg it t) (h' : PI X tg it t') : PI X tg it (fun σ H R => t σ H R ∨ t' σ H R) := ⟨fun pins s σ H R I hw => by
  rcases hw with hw | hw
  · exact h.run pins s σ H R I hw
  · exact h'.run pins s σ H R I hw⟩
abbrev PId (X : Cx) (tg it : Expr) (f : M (List D)) : Prop := ∀ F : Fx, PI X tg it (tEvI X.K F f)
section
variable {X : Cx} {a b c e tg : Expr} {es : List Expr} {fa fb fc f : M R} {ta : M Bool} {pos p p1 p2 p3 : Pos} {x : Str} {st : Stmt} {sts rest : List Stmt} {g g1 g2 : MS}
variable {K : PySem.W.Frag} {G : Hp}
theorem walk_tup {l : Addr} {xs : List V} {ds : List D} (h : SqT K G l xs) (hd : DpAll K G xs ds) : WalkD K G (Itt K l) ds where
  stop := fun H s => ⟨xs, same_seqT s h, by rw [dpa_len hd]; exact Nat.le_refl _⟩
  go := fun i H hl s => by
    obtain ⟨v, e, _⟩ := dpa_get hd (List.getElem?_eq_getElem hl)
    exact ⟨xs, v, same_seqT s h, e⟩
  yld := fun i H x H' d s y e => by
    obtain ⟨y1, y2⟩ := y
    obtain ⟨v, e1, e2⟩ := dpa_get hd e
    have := y2 xs (same_seqT s h)
    rw [e1] at this; cases this
    exact .inl ⟨y1, e2⟩
/-- over a list or tuple -/
def itS (f : M R) : M (List D) := bd (esc f) fun d => lift (items d)
theorem i_seq (he : PEd X e f) : PId X tg e (itS f) := fun F => PI.mono (PI.or (pi_list (d_esc he F)) (pi_tup (d_esc he F))) fun σ H R hq => by
  obtain ⟨ς, G, rl, ds, ς', e, k⟩ := hq
  obtain ⟨d, ς1, e1, q1⟩ := bd_some e
  obtain ⟨e2, h2⟩ := lift_some q1
  subst h2
  cases d with
  | list es =>
    cases e2
    refine .inl ⟨ς, G, rl, _, _, e1, fun v H' G' rl' s dp => ?_⟩
    obtain ⟨l, vs, rfl, h1, h2⟩ := dp_list dp
    have w : WalkD X.K G' (Itl X.K l) ds := by
      constructor
      · exact fun H s => ⟨vs, s.seq h1, by rw [dpa_len h2]; exact Nat.le_refl _⟩
      · intro i H hl s
        obtain ⟨v, e, _⟩ := dpa_get h2 (List.getElem?_eq_getElem hl)
        exact ⟨vs, v, s.seq h1, e⟩
      · intro i H x H' d s y e
        obtain ⟨y1, y2⟩ := y
        obtain ⟨v, e1, e2⟩ := dpa_get h2 e
        have := y2 vs (s.seq h1)
        rw [e1] at this; cases this
        exact .inl ⟨y1, e2⟩
    exact ⟨l, rfl, ⟨vs, rl'.sub.seq h1⟩, k _ H' G' rl' s w⟩
  | tuple es =>
    cases e2
    refine .inr ⟨ς, G, rl, _, _, e1, fun v H' G' rl' s dp => ?_⟩
    obtain ⟨l, vs, rfl, h1, h2⟩ := dp_tuple dp
    exact ⟨l, rfl, ⟨vs, same_seqT rl'.sub h1⟩, k _ H' G' rl' s (walk_tup h1 h2)⟩
  | _ => cases e2
/-- range(n), range(a, b) -/
def rngD (lo : Int) : Nat → List D
  | 0 => []
  | n + 1 => .int lo :: rngD (lo + 1) n
theorem rngD_len : ∀ (n : Nat) (lo : Int), (rngD lo n).length = n
  | 0, _ => rfl
  | n + 1, lo => by rw [rngD, List.length_cons, rngD_len n]
theorem rngD_get : ∀ (n : Nat) (lo : Int) (i : Nat), i < n → (rngD lo n)[i]? = some (.int (lo + i))
  | 0, _, _, h => absurd h (Nat.not_lt_zero _)
  | n + 1, lo, 0, _ => by rw [rngD]; simp
  | n + 1, lo, i + 1, h => by
    rw [rngD, List.getElem?_cons_succ, rngD_get n (lo + 1) i (by omega)]
    congr 2
    push_cast
    omega
theorem walk_rng {lo : Int} {n : Nat} : WalkD K G (Itr lo n) (rngD lo n) where
  stop := fun H s => by rw [rngD_len]; exact Nat.le_refl _
  go := fun i H hl s => by rw [rngD_len] at hl; exact hl
  yld := fun i H x H' d s y e => by
    have hl := (List.getElem?_eq_some_iff.mp e).1
    rw [rngD_len] at hl
    rw [rngD_get n lo i hl] at e
    cases e
    obtain ⟨y1, rfl⟩ := y
    exact .inl ⟨y1, .int _⟩
def inR (i : Int) : Bool := decide (-(2 ^ 62) ≤ i) && decide (i < 2 ^ 62)
def itR1 (f : M R) : M (List D) := bd (sub f) fun r => bd (rd r) fun d => match d with
  | .int n => if inR n = true then ret (rngD 0 n.toNat) else lift none
  | _ => lift none
def itR2 (fa fb : M R) : M (List D) := bd (sub fa) fun r => bd (sub fb) fun r2 => bd (rd r) fun d => bd (rd r2) fun d2 => match d, d2 with
  | .int m, .int n => if inR m = true ∧ inR n = true then ret (rngD m (n - m).toNat) else lift none
  | _, _ => lift none
theorem i_rng1 (hg : Gl X "range") (hm : X.mg "range" = none) (ha : PEd X a fa) (hs : starEach [a] X.env = [(false, eval a X.env)] := by rfl) : PId X tg (.Call (.Name "range" p) [a] [] pos) (itR1 fa) := fun F => PI.mono (pi_range1 hg hm (pa_cons (d_sub ha F) pa_nil hs) hs) fun σ H R hq => by
  obtain ⟨ς, G, rl, ds, ς', e, k⟩ := hq
  obtain ⟨r, ς1, e1, q1⟩ := bd_some e
  obtain ⟨d, ς2, e2', q2⟩ := bd_some q1
  obtain ⟨e2, h2⟩ := rd_some e2'
  subst h2
  refine ⟨ς, G, rl, r, _, e1, fun v H1 G1 rl1 s1 rep1 => ?_⟩
  have rv := rdD_ok rl1 rep1 e2
  cases d with
  | int n =>
    by_cases hn : inR n = true
    · replace q2 : (if inR n = true then ret (rngD 0 n.toNat) else lift none) _ = some (ds, ς') := q2
      rw [if_pos hn] at q2
      cases q2
      unfold inR at hn
      simp only [Bool.and_eq_true, decide_eq_true_eq] at hn
      refine ⟨n, by rw [rv.int], hn.1, hn.2, k _ H1 G1 rl1 s1 ?_⟩
      exact walk_rng
    · replace q2 : (if inR n = true then ret (rngD 0 n.toNat) else lift none) _ = some (ds, ς') := q2
      rw [if_neg hn] at q2
      cases q2
  | _ => cases q2
/-- enumerate(xs) of a list -/
def enumD : Nat → List D → List D
  | _, [] => []
  | i, d :: ds => .tuple [.int i, d] :: enumD (i + 1) ds
theorem enumD_len : ∀ (ds : List D) (i : Nat), (enumD i ds).length = ds.length
  | [], _ => rfl
  | d :: ds, i => by rw [enumD, List.length_cons, List.length_cons, enumD_len ds]
theorem enumD_get : ∀ (ds : List D) (i j : Nat), (enumD i ds)[j]? = (ds[j]?).map fun d => PyData.tuple [.int ((i + j : Nat) : Int), d]
  | [], _, _ => rfl
  | d :: ds, i, 0 => by rw [enumD]; simp
  | d :: ds, i, j + 1 => by
    rw [enumD, List.getElem?_cons_succ, List.getElem?_cons_succ, enumD_get ds (i + 1) j]
    congr
    funext d
    congr 4
    omega
def itE (f : M R) : M (List D) := bd (esc f) fun d => match d with
  | .list ds => ret (enumD 0 ds)
  | _ => lift none
theorem i_enum {elts : List Expr} {kk : Nat} (hg : Gl X "enumerate") (hm : X.mg "enumerate" = none) (ha : PEd X a fa) (hs : starEach [a] X.env = [(false, eval a X.env)] := by rfl) : PId X (.Tuple elts kk p2) (.Call (.Name "enumerate" p) [a] [] pos) (itE fa) := fun F => PI.mono (pi_enum hg hm (pa_cons (d_esc ha F) pa_nil hs) hs) fun σ H R hq => by
  obtain ⟨ς, G, rl, ds, ς', e, k⟩ := hq
  obtain ⟨d, ς1, e1, q1⟩ := bd_some e
  refine ⟨ς, G, rl, d, _, e1, fun v H1 G1 rl1 s1 dp => ?_⟩
  cases d with
  | list es =>
    cases q1
    obtain ⟨l, vs, rfl, h1, h2⟩ := dp_list dp
    refine ⟨l, vs, rfl, rl1.sub.seq h1, k _ H1 G1 rl1 s1 ⟨fun H s => ⟨vs, s.seq h1, by rw [enumD_len, dpa_len h2]; exact Nat.le_refl _⟩, fun i H hl s => ?_, fun i H x H' d s y e => ?_⟩⟩
    · rw [enumD_len] at hl
      obtain ⟨v, e, _⟩ := dpa_get h2 (List.getElem?_eq_getElem hl)
      exact ⟨vs, v, s.seq h1, e⟩
    · obtain ⟨T, z, rfl, hT, rfl, hz⟩ := y
      rw [enumD_get] at e
      cases q : es[i]? with
      | none => rw [q] at e; cases e
      | some d' =>
        rw [q] at e
        cases e
        obtain ⟨v, f1, f2⟩ := dpa_get h2 q
        have := hz vs (s.seq h1)
        rw [f1] at this; cases this
        refine .inr ⟨T, _, _, rfl, hT, rfl, rfl, .cons ?_ (.cons f2 .nil)⟩
        rw [Nat.zero_add]
        exact .int _
  | _ => cases q1
/-- zip of two lists or two tuples -/
def zipD : List D → List D → List D
  | a :: as, b :: bs => .tuple [a, b] :: zipD as bs
  | _, _ => []
theorem zipD_len : ∀ (xs ys : List D), (zipD xs ys).length = min xs.length ys.length
  | [], ys => by rw [zipD]; simp; simp
  | a :: as, [] => by rw [zipD]; simp; simp
  | a :: as, b :: bs => by rw [zipD, List.length_cons, zipD_len as bs, List.length_cons, List.length_cons]; omega
theorem zipD_get : ∀ (xs ys : List D) (i : Nat) (d : D), (zipD xs ys)[i]? = some d → ∃ a b, xs[i]? = some a ∧ ys[i]? = some b ∧ d = .tuple [a, b]
  | [], ys, i, d, e => by rw [zipD] at e; simp at e; simp
  | a :: as, [], i, d, e => by rw [zipD] at e; simp at e; simp
  | a :: as, b :: bs, 0, d, e => by rw [zipD] at e; simp at e; exact ⟨a, b, rfl, rfl, e.symm⟩
  | a :: as, b :: bs, i + 1, d, e => by
    rw [zipD, List.getElem?_cons_succ] at e
    obtain ⟨u, v, h1, h2, h3⟩ := zipD_get as bs i d e
    exact ⟨u, v, by rw [List.getElem?_cons_succ]; exact h1, by rw [List.getElem?_cons_succ]; exact h2, h3⟩
def itZ (fa fb : M R) : M (List D) := bd (esc fa) fun d => bd (esc fb) fun d2 => match d, d2 with
  | .list xs, .list ys => ret (zipD xs ys)
  | .tuple xs, .tuple ys => ret (zipD xs ys)
  | _, _ => lift none
theorem i_zip {elts : List Expr} {kk : Nat} (hg : Gl X "zip") (hm : X.mg "zip" = none) (ha : PEd X a fa) (hb : PEd X b fb) (hs1 : starEach [a, b] X.env = (false, eval a X.env) :: starEach [b] X.env := by rfl) (hs2 : starEach [b] X.env = (false, eval b X.env) :: starEach [] X.env := by rfl) (hpl : (backTo pos (starEach [b] X.env)).any (·.1) = false := by rfl) :
    PId X (.Tuple elts kk p2) (.Call (.Name "zip" p) [a, b] [] pos) (itZ fa fb) := fun F => PI.mono (RZ.pi_zipA hg hm (pa_cons (d_esc ha F) (pa_cons (d_esc hb F) pa_nil hs2) hs1) hs1 hpl) fun σ H R hq => by
  obtain ⟨ς, G, rl, ds, ς', e, k⟩ := hq
  obtain ⟨d, ς1, e1, q1⟩ := bd_some e
  obtain ⟨d2, ς2, e2, q2⟩ := bd_some q1
  refine ⟨ς, G, rl, d, _, e1, fun v H1 G1 rl1 s1 dp => ⟨ς1, G1, rl1, d2, ς2, e2, fun w H2 G2 rl2 s2 dp2 => ?_⟩⟩
  cases d with
  | list xs =>
    cases d2 with
    | list ys =>
      cases q2
      obtain ⟨l, vs, rfl, h1, h2⟩ := dp_list (dp_same s2 dp)
      obtain ⟨l2, ws, rfl, h3, h4⟩ := dp_list dp2
      refine ⟨l, l2, vs, ws, rfl, .inl ⟨rl2.sub.seq h1, rl2.sub.seq h3, k _ H2 G2 rl2 (s1.trans s2) ⟨fun H s => ⟨vs, ws, s.seq h1, s.seq h3, ?_⟩, fun i H hl s => ?_, fun i H x H' d s y e => ?_⟩⟩⟩
      · rw [zipD_len, dpa_len h2, dpa_len h4]; omega
      · rw [zipD_len] at hl
        obtain ⟨v, f1, _⟩ := dpa_get h2 (List.getElem?_eq_getElem (i := i) (by omega))
        obtain ⟨w, f2, _⟩ := dpa_get h4 (List.getElem?_eq_getElem (i := i) (by omega))
        exact ⟨vs, ws, v, w, s.seq h1, s.seq h3, f1, f2⟩
      · obtain ⟨T, u, z, rfl, hT, rfl, z1, z2⟩ := y
        obtain ⟨a', b', f1, f2, rfl⟩ := zipD_get xs ys i d e
        obtain ⟨v1, g1, g2⟩ := dpa_get h2 f1
        obtain ⟨v2, g3, g4⟩ := dpa_get h4 f2
        have t1 := z1 vs (s.seq h1)
        have t2 := z2 ws (s.seq h3)
        rw [g1] at t1; cases t1
        rw [g3] at t2; cases t2
        exact .inr ⟨T, _, _, rfl, hT, rfl, rfl, .cons g2 (.cons g4 .nil)⟩
    | _ => cases q2
  | tuple xs =>
    cases d2 with
    | tuple ys =>
      cases q2
      obtain ⟨l, vs, rfl, h1, h2⟩ := dp_tuple (dp_same s2 dp)
      obtain ⟨l2, ws, rfl, h3, h4⟩ := dp_tuple dp2
      refine ⟨l, l2, vs, ws, rfl, .inr ⟨same_seqT rl2.sub h1, same_seqT rl2.sub h3, k _ H2 G2 rl2 (s1.trans s2) ⟨fun H s => ⟨vs, ws, same_seqT s h1, same_seqT s h3, ?_⟩, fun i H hl s => ?_, fun i H x H' d s y e => ?_⟩⟩⟩
      · rw [zipD_len, dpa_len h2, dpa_len h4]; omega
      · rw [zipD_len] at hl
        obtain ⟨v, f1, _⟩ := dpa_get h2 (List.getElem?_eq_getElem (i := i) (by omega))
        obtain ⟨w, f2, _⟩ := dpa_get h4 (List.getElem?_eq_getElem (i := i) (by omega))
        exact ⟨vs, ws, v, w, same_seqT s h1, same_seqT s h3, f1, f2⟩
      · obtain ⟨T, u, z, rfl, hT, rfl, z1, z2⟩ := y
        obtain ⟨a', b', f1, f2, rfl⟩ := zipD_get xs ys i d e
        obtain ⟨v1, g1, g2⟩ := dpa_get h2 f1
        obtain ⟨v2, g3, g4⟩ := dpa_get h4 f2
        have t1 := z1 vs (same_seqT s h1)
        have t2 := z2 ws (same_seqT s h3)
        rw [g1] at t1; cases t1
        rw [g3] at t2; cases t2
        exact .inr ⟨T, _, _, rfl, hT, rfl, rfl, .cons g2 (.cons g4 .nil)⟩
    | _ => cases q2
  | _ => cases q2
/-! ### for -/
def loop (tg : Tg) (body : MS) : List D → MS
  | [], ς => some (.nx ς)
  | d :: ds, ς => match tg d ς with
    | some ς1 => match body ς1 with
      | some (.nx ς2) => loop tg body ds ς2
      | some (.ct ς2) => loop tg body ds ς2
      | some (.bk ς2) => some (.nx ς2)
      | some (.rt r ς2) => some (.rt r ς2)
      | none => none
    | none => none
def forS (f : M (List D)) (tg : Tg) (body : MS) : MS := fun ς => match f ς with
  | some (ds, ς1) => loop tg body ds ς1
  | none => none
theorem Rel.tupled {F : Fx} {ς : En} {σ : L2.St} {H : Hp} {J : It} {ds : List D} {i : Nat} {v : V} {H' : Hp} {d : D} (r : Rel K F ς G σ H) {G1 : Hp} (s1 : Same G1 G) (w : WalkD K G1 J ds) (y : J.yld i H v H') (e : ds[i]? = some d) : ∃ G', Rel K F ς G' σ H' ∧ Same G G' ∧ Dp K G' v d := by
  rcases w.yld i H v H' d (s1.trans r.sub) y e with ⟨rfl, h2⟩ | ⟨T, xs, es, rfl, h2, rfl, rfl, h5⟩
  · exact ⟨G, r, Same.refl _, dp_same s1 h2⟩
  · exact ⟨_, r.lay h2, same_upd (r.gnone h2), r.layD h2 (dpa_same s1 h5)⟩
theorem s_for {it : Expr} {fi : M (List D)} {vs : List Nat} {t : Tg} (hp : PassesOwn (model X.prog X.w) X.A X.env X.xe) (hc : X.calm = true) (hi : PId X tg it fi) (hg : PGd X tg vs t) (hb : PSsd X sts g) (hs : ∀ x, foldedSetIterable it X.env x = pure x := by intro _; rfl) : PSd X (.For tg it sts [] pos) (forS fi t g) := fun F =>
  PS.mono (ps_for hp hc (hi F) (hg F) (hb F) hs) fun D σ H hq => by
    obtain ⟨ς, G, rl, o, e, k⟩ := hq
    unfold forS at e
    split at e
    · rename_i ds ς1 q
      refine ⟨ς, G, rl, ds, ς1, q, fun J H1 G1 rl1 s1 wk => ?_⟩
      refine ⟨fun i m σ' H' => m = ds.length - i ∧ i ≤ ds.length ∧ ∃ ς' G' o', Rel X.K F ς' G' σ' H' ∧ Same G1 G' ∧ loop t g (ds.drop i) ς' = some o' ∧ EndsOk X.K F G' D o', ⟨ds.length, by simp, Nat.zero_le _, ς1, G1, o, rl1, Same.refl _, e, k.mono s1⟩, ?_⟩
      rintro i m σ' H' ⟨rfl, hi', ς', G', o', rl', s', e', k'⟩
      by_cases hlt : i < ds.length
      · rw [List.drop_eq_getElem_cons hlt, loop] at e'
        split at e'
        · rename_i ς2 q2
          refine .inr ⟨wk.go i H' hlt (s'.trans rl'.sub), fun σ3 H3 => ∃ ς3 G3 o3, Rel X.K F ς3 G3 σ3 H3 ∧ Same G1 G3 ∧ loop t g (ds.drop (i + 1)) ς3 = some o3 ∧ EndsOk X.K F G3 D o3, fun σ3 H3 h3 => ⟨ds.length - (i + 1), by omega, rfl, hlt, h3⟩, fun v H2 y => ?_⟩
          obtain ⟨G2, rl2, s2, dp2⟩ := rl'.tupled s' wk y (List.getElem?_eq_getElem hlt)
          refine ⟨ς', G2, _, rl2, dp2, ς2, q2, fun σ3 H3 G3 rl3 s3 _ => ?_⟩
          have s13 : Same G1 G3 := s'.trans (s2.trans s3)
          split at e'
          · rename_i ς4 q4
            exact ⟨ς2, G3, rl3, _, q4, fun σ5 H5 G5 rl5 s5 => ⟨ς4, G5, o', rl5, s13.trans s5, e', k'.mono (s2.trans (s3.trans s5))⟩⟩
          · rename_i ς4 q4
            exact ⟨ς2, G3, rl3, _, q4, fun σ5 H5 G5 rl5 s5 => ⟨ς4, G5, o', rl5, s13.trans s5, e', k'.mono (s2.trans (s3.trans s5))⟩⟩
          · rename_i ς4 q4
            cases e'
            exact ⟨ς2, G3, rl3, _, q4, fun σ5 H5 G5 rl5 s5 => k' σ5 H5 G5 rl5 (s2.trans (s3.trans s5))⟩
          · rename_i r ς4 q4
            cases e'
            exact ⟨ς2, G3, rl3, _, q4, fun v σ5 H5 G5 rl5 s5 rep => k' v σ5 H5 G5 rl5 (s2.trans (s3.trans s5)) rep⟩
          · cases e'
        · cases e'
      · have ei : i = ds.length := by omega
        subst ei
        rw [List.drop_length, loop] at e'
        cases e'
        exact .inl ⟨wk.stop H' (s'.trans rl'.sub), k' σ' H' G' rl' (Same.refl _)⟩
    · cases e
end
end Lw
namespace Lw
open PySem PySem.Spec PyProof.Rows L2
section
variable {K : PySem.W.Frag} {F : Fx} {ς ς' : En} {G H G' H' : Hp} {σ σ' : L2.St}
def wipeE (ς : En) : List Nat → En
  | [] => ς
  | v :: vs => (wipeE ς vs).set v none
def freeAll (ς : En) (vs : List Nat) : Bool := vs.all (free ς)
theorem free_set {i j : Nat} (h : free ς i = true) : free (ς.set j none) i = true := by
  unfold free at h ⊢
  by_cases e : j = i
  · subst e
    by_cases hl : j < ς.length
    · rw [List.getElem?_set_self hl]
    · rw [List.getElem?_eq_none (by omega)] at h; cases h
  · rw [List.getElem?_set_ne e]; exact h
theorem free_wipeE {i : Nat} (h : free ς i = true) : ∀ vs : List Nat, free (wipeE ς vs) i = true
  | [] => h
  | v :: vs => free_set (free_wipeE h vs)
theorem Rel.wiped (r : Rel K F ς G σ H) : ∀ vs : List Nat, freeAll ς vs = true → Rel K F (wipeE ς vs) G (wipe σ vs) H
  | [], _ => r
  | v :: vs, h => by
    unfold freeAll at h
    rw [List.all_cons, Bool.and_eq_true] at h
    exact (r.wiped vs h.2).setN (free_wipeE h.1 vs)
theorem Rel.unwipe {vs : List Nat} (r : Rel K F ς G (wipe σ vs) H) : Rel K F ς G σ H where
  len := by rw [← r.len, wipe_length]
  sub := r.sub
  g0 := r.g0
  pu := fun i d e => by
    obtain ⟨v, h1, h2⟩ := r.pu i d e
    exact ⟨v, (wipe_some h1).1, h2⟩
  ow := fun i b ds e => by
    obtain ⟨a, ws, h1, h2⟩ := r.ow i b ds e
    exact ⟨a, ws, (wipe_some h1).1, h2⟩
  ap := fun i j b c ds es a q1 q2 q3 q4 => by
    obtain ⟨a1, _, h1, _⟩ := r.ow i b ds q1
    obtain ⟨a2, _, h2, _⟩ := r.ow j c es q2
    have e1 := (wipe_some h1).1
    have e2 := (wipe_some h2).1
    rw [q3] at e1; cases e1
    rw [q4] at e2; cases e2
    exact r.ap i j b c ds es a q1 q2 h1 h2
  par := r.par
  fr := r.fr
  nw := r.nw
  vx := fun i x e => by
    obtain ⟨v, h1, h2⟩ := r.vx i x e
    exact ⟨v, (wipe_some h1).1, h2⟩
  od := fun i kvs e => by
    obtain ⟨a, o, h1, h2⟩ := r.od i kvs e
    exact ⟨a, o, (wipe_some h1).1, h2⟩
  oa := fun i j kvs kws a q1 q2 q3 q4 => by
    obtain ⟨a1, _, h1, _⟩ := r.od i kvs q1
    obtain ⟨a2, _, h2, _⟩ := r.od j kws q2
    have e1 := (wipe_some h1).1
    have e2 := (wipe_some h2).1
    rw [q3] at e1; cases e1
    rw [q4] at e2; cases e2
    exact r.oa i j kvs kws a q1 q2 h1 h2
/-- something of nobody's is changed -/
theorem Rel.touchG (r : Rel K F ς G σ H) {a : Addr} {o : HO} (h2 : G a = none) (h4 : F.H0 a = none) (h5 : ∀ (i : Nat) b es, ς[i]? = some (some (.own b es)) → σ[i]? ≠ some (some (.ref a))) (hd : ∀ (i : Nat) kvs, ς[i]? = some (some (.vx (.odc kvs))) → σ[i]? ≠ some (some (.ref a))) : Rel K F ς G σ (upd H a o) where
  len := r.len
  sub := fun b x e => by
    rw [upd_ne (ne_of_none e h2)]; exact r.sub _ _ e
  g0 := r.g0
  pu := r.pu
  ow := fun i b ds e => by
    obtain ⟨a', vs, e1, e2, e3⟩ := r.ow i b ds e
    have ne : a' ≠ a := fun z => by subst z; exact h5 i b ds e e1
    exact ⟨a', vs, e1, by rw [upd_ne ne]; exact e2, e3⟩
  ap := r.ap
  par := r.par
  fr := fun b x e na => by
    rw [upd_ne (ne_of_none e h4)]; exact r.fr b x e na
  nw := r.nw
  vx := r.vx
  od := fun i kvs e => by
    obtain ⟨a', o', e1, e2, e3⟩ := r.od i kvs e
    have ne : a' ≠ a := fun z => by subst z; exact hd i kvs e e1
    exact ⟨a', o', e1, by rw [upd_ne ne]; exact e2, e3⟩
  oa := r.oa
theorem Rel.touch (r : Rel K F ς G σ H) {a : Addr} {o : HO} (h2 : G a = none) (h4 : F.H0 a = none) (h5 : ∀ (i : Nat) b es, ς[i]? = some (some (.own b es)) → σ[i]? ≠ some (some (.ref a))) {ws : List V} (h6 : H a = some (.lst ws)) : Rel K F ς G σ (upd H a o) := r.touchG h2 h4 h5 (r.lno h6)
end
/-! ### [e for x in xs] -/
def lcLoop (vs : List Nat) (tg : Tg) (tt : M Bool) (fe : M R) : List D → List D → En → Option (List D × En)
  | [], acc, ς => some (acc, ς)
  | d :: ds, acc, ς => match tg d ς with
    | some ς1 => match tt ς1 with
      | some (true, ς2) => match esc fe ς2 with
        | some (y, ς3) => if freeAll ς3 vs = true ∧ acc.length < sizeLine then lcLoop vs tg tt fe ds (acc ++ [y]) (wipeE ς3 vs) else none
        | none => none
      | some (false, ς2) => if freeAll ς2 vs = true then lcLoop vs tg tt fe ds acc (wipeE ς2 vs) else none
      | none => none
    | none => none
def lcE (fi : M (List D)) (vs : List Nat) (tg : Tg) (tt : M Bool) (fe : M R) : M R := fun ς => match fi ς with
  | some (ds, ς1) => if freeAll ς1 vs = true then match lcLoop vs tg tt fe ds [] (wipeE ς1 vs) with
      | some (acc, ς2) => some (.fresh acc, ς2)
      | none => none
    else none
  | none => none
section
variable {X : Cx} {a b c e tg : Expr} {es : List Expr} {fa fb fc f fe : M R} {ta : M Bool} {pos p p1 p2 p3 : Pos} {x : Str} {st : Stmt} {sts rest : List Stmt} {g g1 g2 : MS}
abbrev gEx (K : PySem.W.Frag) (vs : List Nat) (t : Tg) : TG := fun v σ H Q => ∃ F, tTg K F vs t v σ H Q
abbrev tEx (K : PySem.W.Frag) (t : M Bool) : TT := fun σ H Q => ∃ F, tEvT K F t σ H Q
abbrev eEx (K : PySem.W.Frag) (f : M D) : TE := fun σ H Q => ∃ F, tEvD K F f σ H Q
theorem t_lcJ {K : PySem.W.Frag} {vs : List Nat} {t : Tg} {F : Fx} {ς1 ς' : En} {G1 H1 : Hp} {σ : L2.St} {J : It} {ds accF : List D} {Q : VK} (rl1 : Rel K F ς1 G1 σ H1) (wk : WalkD K G1 J ds) (hf : freeAll ς1 vs = true) (q2 : lcLoop vs t ta fe ds [] (wipeE ς1 vs) = some (accF, ς'))
    (k : ∀ v H' G', Rel K F ς' G' σ H' → Same G1 G' → RepR K F ς' G' σ H' (.fresh accF) v → Q v H') (L : Addr) (hL : H1 L = none) : ∃ W : Nat → Nat → Hp → Prop, (∃ m, W 0 m (upd H1 L (.lst []))) ∧ ∀ i m H, W i m H →
      (J.stop i H ∧ Q (.ref L) H) ∨ (J.go i H ∧ ∃ Nx : Hp → Prop, (∀ H', Nx H' → ∃ m', m' < m ∧ W (i + 1) m' H') ∧ ∀ x H', J.yld i H x H' → gEx K vs t x (wipe σ vs) H' fun σ2 H2 => wipe σ2 vs = wipe σ vs ∧ tEx K ta σ2 H2 fun b H3 =>
        if b = true then eEx K (esc fe) σ2 H3 fun y H4 => ∃ acc, H4 L = some (.lst acc) ∧ acc.length < sizeLine ∧ Nx (upd H4 L (.lst (acc ++ [y]))) else Nx H3) := by
  refine ⟨fun i m H' => m = ds.length - i ∧ i ≤ ds.length ∧ ∃ ςi Gi acc accV, Rel K F ςi Gi (wipe σ vs) H' ∧ Same G1 Gi ∧ H' L = some (.lst accV) ∧ Gi L = none ∧ DpAll K Gi accV acc ∧ F.H0 L = none ∧ (∀ (n : Nat) b es, ςi[n]? = some (some (.own b es)) → (wipe σ vs)[n]? ≠ some (some (.ref L))) ∧ lcLoop vs t ta fe (ds.drop i) acc ςi = some (accF, ς'), ?_, ?_⟩
  · refine ⟨ds.length, by simp, Nat.zero_le _, wipeE ς1 vs, G1, [], [], (rl1.wiped vs hf).layF hL, Same.refl _, upd_same, rl1.gnone hL, .nil, rl1.new hL, fun n b es z w => ?_, q2⟩
    obtain ⟨a, ws, f1, f2, _⟩ := (rl1.wiped vs hf).ow n b es z
    rw [w] at f1; cases f1
    rw [hL] at f2; cases f2
  · rintro i m H' ⟨rfl, hi, ςi, Gi, acc, accV, rli, si, hLi, hGi, hdi, h0, hni, ei⟩
    by_cases hlt : i < ds.length
    · rw [List.drop_eq_getElem_cons hlt, lcLoop] at ei
      split at ei
      · rename_i ς3 q3
        refine .inr ⟨wk.go i H' hlt (si.trans rli.sub), fun H3 => ∃ ςi Gi acc accV, Rel K F ςi Gi (wipe σ vs) H3 ∧ Same G1 Gi ∧ H3 L = some (.lst accV) ∧ Gi L = none ∧ DpAll K Gi accV acc ∧ F.H0 L = none ∧ (∀ (n : Nat) b es, ςi[n]? = some (some (.own b es)) → (wipe σ vs)[n]? ≠ some (some (.ref L))) ∧ lcLoop vs t ta fe (ds.drop (i + 1)) acc ςi = some (accF, ς'), fun H3 h3 => ⟨ds.length - (i + 1), by omega, rfl, hlt, h3⟩, fun v H2 y => ?_⟩
        obtain ⟨G2, rl2, s2, dp2⟩ := rli.now.tupled si wk y (List.getElem?_eq_getElem hlt)
        refine ⟨F.now ςi Gi (wipe σ vs) H', ςi, G2, _, rl2, dp2, ς3, q3, fun σ3 H3 G3 rl3 s3 w3 => ⟨w3.trans (by
            have : ∀ us : List Nat, wipe (wipe σ us) us = wipe σ us := by
              intro us
              induction us with
              | nil => rfl
              | cons u us ih =>
                show (wipe ((wipe σ us).set u none) us).set u none = (wipe σ us).set u none
                rw [wipe_comm1, List.set_set, ih]
            exact this vs), ?_⟩⟩
        split at ei
        · rename_i ς4 q4
          refine ⟨F.now ςi Gi (wipe σ vs) H', ς3, G3, rl3, true, ς4, q4, fun H4 G4 rl4 s4 => ?_⟩
          refine iteT ?_
          split at ei
          · rename_i y5 ς5 q5
            split at ei
            · rename_i hf5
              refine ⟨F.now ςi Gi (wipe σ vs) H', ς4, G4, rl4, y5, ς5, q5, fun u H5 G5 rl5 s5 dp5 => ?_⟩
              obtain ⟨k1, k2, k3⟩ := rli.keepF rl5 hLi hGi hni
              have hdi' : DpAll K G5 accV acc := dpa_same (s2.trans (s3.trans (s4.trans s5))) hdi
              refine ⟨accV, k1, by rw [dpa_len hdi]; exact hf5.2, wipeE ς5 vs, G5, acc ++ [y5], accV ++ [u], ?_, si.trans (s2.trans (s3.trans (s4.trans s5))), upd_same, k2, dpa_app hdi' (.cons dp5 .nil), h0, ?_, ei⟩
              · have rb := (rli.back rl5).wiped vs hf5.1
                have w3' : wipe σ3 vs = wipe σ vs := by
                  rw [w3]
                  have : ∀ us : List Nat, wipe (wipe σ us) us = wipe σ us := by
                    intro us
                    induction us with
                    | nil => rfl
                    | cons u us ih =>
                      show (wipe ((wipe σ us).set u none) us).set u none = (wipe σ us).set u none
                      rw [wipe_comm1, List.set_set, ih]
                  exact this vs
                rw [w3'] at rb
                refine rb.touch k2 h0 (fun n b es z1 z2 => ?_) k1
                obtain ⟨a6, ws6, f1, f2, _⟩ := rb.ow n b es z1
                rw [z2] at f1; cases f1
                have z3 : ς5[n]? = some (some (.own b es)) := by
                  have : ∀ us : List Nat, (wipeE ς5 us)[n]? = some (some (.own b es)) → ς5[n]? = some (some (.own b es)) := by
                    intro us
                    induction us with
                    | nil => exact fun h => h
                    | cons u us ih =>
                      intro h
                      have h' : ((wipeE ς5 us).set u none)[n]? = some (some (.own b es)) := h
                      replace h' := get_set h'; rcases h' with ⟨rfl, h'⟩ | ⟨_, h'⟩
                      · cases h'
                      · exact ih h'
                  exact this vs z1
                rw [← w3'] at z2
                exact k3 n b es z3 (wipe_some z2).1
              · intro n b es z1 z2
                have w3' : wipe σ3 vs = wipe σ vs := by
                  rw [w3]
                  have : ∀ us : List Nat, wipe (wipe σ us) us = wipe σ us := by
                    intro us
                    induction us with
                    | nil => rfl
                    | cons u us ih =>
                      show (wipe ((wipe σ us).set u none) us).set u none = (wipe σ us).set u none
                      rw [wipe_comm1, List.set_set, ih]
                  exact this vs
                have z3 : ς5[n]? = some (some (.own b es)) := by
                  have : ∀ us : List Nat, (wipeE ς5 us)[n]? = some (some (.own b es)) → ς5[n]? = some (some (.own b es)) := by
                    intro us
                    induction us with
                    | nil => exact fun h => h
                    | cons u us ih =>
                      intro h
                      have h' : ((wipeE ς5 us).set u none)[n]? = some (some (.own b es)) := h
                      replace h' := get_set h'; rcases h' with ⟨rfl, h'⟩ | ⟨_, h'⟩
                      · cases h'
                      · exact ih h'
                  exact this vs z1
                rw [← w3'] at z2
                exact k3 n b es z3 (wipe_some z2).1
            · cases ei
          · cases ei
        · rename_i ς4 q4
          refine ⟨F.now ςi Gi (wipe σ vs) H', ς3, G3, rl3, false, ς4, q4, fun H5 G5 rl5 s5 => ?_⟩
          refine iteF ?_
          split at ei
          · rename_i hf5
            obtain ⟨k1, k2, k3⟩ := rli.keepF rl5 hLi hGi hni
            have hdi' : DpAll K G5 accV acc := dpa_same (s2.trans (s3.trans s5)) hdi
            have w3' : wipe σ3 vs = wipe σ vs := by
              rw [w3]
              have : ∀ us : List Nat, wipe (wipe σ us) us = wipe σ us := by
                intro us
                induction us with
                | nil => rfl
                | cons u us ih =>
                  show (wipe ((wipe σ us).set u none) us).set u none = (wipe σ us).set u none
                  rw [wipe_comm1, List.set_set, ih]
              exact this vs
            have rb := (rli.back rl5).wiped vs hf5
            rw [w3'] at rb
            refine ⟨wipeE ς4 vs, G5, acc, accV, rb, si.trans (s2.trans (s3.trans s5)), k1, k2, hdi', h0, fun n b es z1 z2 => ?_, ei⟩
            have z3 : ς4[n]? = some (some (.own b es)) := by
              have : ∀ us : List Nat, (wipeE ς4 us)[n]? = some (some (.own b es)) → ς4[n]? = some (some (.own b es)) := by
                intro us
                induction us with
                | nil => exact fun h => h
                | cons u us ih =>
                  intro h
                  have h' : ((wipeE ς4 us).set u none)[n]? = some (some (.own b es)) := h
                  replace h' := get_set h'; rcases h' with ⟨rfl, h'⟩ | ⟨_, h'⟩
                  · cases h'
                  · exact ih h'
              exact this vs z1
            rw [← w3'] at z2
            exact k3 n b es z3 (wipe_some z2).1
          · cases ei
        · cases ei
      · cases ei
    · have eI : i = ds.length := by omega
      subst eI
      rw [List.drop_length, lcLoop] at ei
      cases ei
      refine .inl ⟨wk.stop H' (si.trans rli.sub), k _ H' Gi rli.unwipe si ⟨L, accV, rfl, hLi, hGi, hdi, h0, fun n b es z1 z2 => ?_⟩⟩
      obtain ⟨a6, ws6, f1, f2, _⟩ := rli.ow n b es z1
      have := (wipe_some f1).1
      rw [z2] at this; cases this
      exact hni n b es z1 f1
theorem t_lc {K : PySem.W.Frag} {fi : M (List D)} {vs : List Nat} {t : Tg} (F : Fx) : ∀ σ H Q, tEv K F (lcE fi vs t ta fe) σ H Q → tLc (fun σ H R => ∃ F, tEvI K F fi σ H R) (gEx K vs t) (tEx K ta) (eEx K (esc fe)) vs σ H Q := fun σ H Q hq => by
  obtain ⟨ς, G, rl, r, ς', e, k⟩ := hq
  unfold lcE at e
  split at e
  · rename_i ds ς1 q1
    split at e
    · rename_i hf
      split at e
      · rename_i accF ς2 q2
        cases e
        exact ⟨F, ς, G, rl, ds, ς1, q1, fun J H1 G1 rl1 s1 wk L hL => t_lcJ rl1 wk hf q2 (fun v H' G' r s rep => k v H' G' r (s1.trans s) rep) L hL⟩
      · cases e
    · cases e
  · cases e
theorem PId.ex {it : Expr} {fi : M (List D)} (h : PId X tg it fi) : PI X tg it (fun σ H R => ∃ F, tEvI X.K F fi σ H R) := ⟨fun pins s σ H R I ⟨F, hw⟩ => (h F).run pins s σ H R I hw⟩
theorem ts_nil : PTs X [] (tEx X.K (ret true)) := ⟨fun pins s σ H Q I ⟨F, ς, G, rl, b, ς', e, k⟩ => by
  cases e
  exact pts_nil.run pins s σ H Q I (k H G rl (Same.refl _))⟩
end
end Lw
namespace Lw
open PySem PySem.Spec PyProof.Rows L2
section
variable {X : Cx} {a b c e tg o : Expr} {es : List Expr} {fa fb fc f fe fo : M R} {ta : M Bool} {pos p p1 p2 p3 : Pos} {x : Str} {st : Stmt} {sts rest : List Stmt} {g g1 g2 : MS}
theorem d_lc {elt tg iter : Expr} {ifs : List Expr} {scope : Scope} {own : List (Str × Nat)} {fi : M (List D)} {t : Tg} (hc : X.calm = true) (hN : X.N.Nodup) (hi : PId X tg iter fi) (ok : BlkOk X.N X.env.scope scope own)
    (hg : ∀ (s : Shared) (H : Hp) (C : Addr) (cl : List (Str × Addr)) (fp : List Addr), PGd (X.blk s H scope (compEnvC scope cl C X.env) fp) tg (own.map (·.2)) t)
    (ht : ∀ (s : Shared) (H : Hp) (C : Addr) (cl : List (Str × Addr)) (fp : List Addr), PTs (X.blk s H scope (compEnvC scope cl C X.env) fp) ifs (tEx X.K ta))
    (he : ∀ (s : Shared) (H : Hp) (C : Addr) (cl : List (Str × Addr)) (fp : List Addr), PEd (X.blk s H scope (compEnvC scope cl C X.env) fp) elt fe) (hs : ∀ x, foldedSetIterable iter X.env x = pure x := by intro _; rfl) :
    PEd X (.ListComp elt [⟨tg, iter, ifs, 0⟩] scope pos) (lcE fi (own.map (·.2)) t ta fe) := fun F =>
  PE.mono (pe_lc hc hN hi.ex ok (fun s H C cl fp => (hg s H C cl fp).ex) ht (fun s H C cl fp => PDd.ex (d_esc (he s H C cl fp))) hs) (t_lc F)
/-! ### methods of an own list -/
def isOwn (i : Nat) : M Unit := fun ς => match ς[i]? with
  | some (some (.own _ _)) => some ((), ς)
  | _ => none
def mth (h : List D → List D → Option (D × List D)) (fo : M R) (ga : M (List Ar)) : M R := bd fo fun r => match r with
  | .ref i => bd (isOwn i) fun _ => bd ga fun as => bd (lift (vals as)) fun ws => fun ς => match ς[i]? with
    | some (some (.own b ds)) => match h ds ws with
      | some (d, ds') => some (.pure d, ς.set i (some (.own b ds')))
      | none => none
    | _ => none
  | _ => lift none
structure Mth (X : Cx) (r : V → List V → Hp → VK → Prop) (h : List D → List D → Option (D × List D)) : Prop where
  run : ∀ (G : Hp) (H : Hp) (l : Addr) (xs ws : List V) (ds es : List D) (d : D) (ds' : List D) (Q : VK), H l = some (.lst xs) → DpAll X.K G xs ds → DpAll X.K G ws es → h ds es = some (d, ds') →
    (∀ v xs', DpAll X.K G xs' ds' → Dp X.K G v d → Q v (upd H l (.lst xs'))) → r (.ref l) ws H Q
theorem d_mth {ga : M (List Ar)} {h : List D → List D → Option (D × List D)} {r : V → List V → Hp → VK → Prop} (m : Mth X r h) (ho : PEd X o fo) (ha : PAd X es ga) (hp : ∀ (to : TE) (t : TA), PE X o to → PA X es t → PE X e (tBM X.K "list" r to t)) : PEd X e (mth h fo ga) := fun F => PE.mono (hp _ _ (ho F) (ha F)) fun σ H Q hq => by
  obtain ⟨ς, G, rl, res, ς', e, k⟩ := hq
  obtain ⟨r0, ς1, e1, q1⟩ := bd_some e
  refine ⟨ς, G, rl, r0, ς1, e1, fun v H1 G1 rl1 s1 rep1 => ?_⟩
  cases r0 with
  | ref i =>
    obtain ⟨_, ς2, e2, q2⟩ := bd_some q1
    unfold isOwn at e2
    split at e2
    · rename_i b ds q3
      cases e2
      obtain ⟨l, xs, f1, f2, _⟩ := rl1.ow i b ds q3
      rw [show σ[i]? = some (some v) from rep1] at f1
      cases f1
      refine ⟨.inl ⟨rfl, _, SqL.of f2⟩, ?_⟩
      obtain ⟨as, ς3, e3, q4⟩ := bd_some q2
      obtain ⟨ws, ς4, e4', q5⟩ := bd_some q4
      obtain ⟨e4, h4⟩ := lift_some e4'
      subst h4
      refine ⟨ς1, G1, rl1, as, _, e3, fun vs H2 G2 rl2 s2 ps => ?_⟩
      split at q5
      · rename_i b2 ds2 q6
        split at q5
        · rename_i d ds' q7
          cases q5
          obtain ⟨l2, xs2, g1, g2, g3, g4, _⟩ := rl2.ow i b2 ds2 q6
          rw [show σ[i]? = some (some (.ref l)) from rep1] at g1
          cases g1
          exact m.run G2 H2 l xs2 vs ds2 ws d ds' Q g2 g4 (vals_ok ps e4) q7 fun w xs' hx hw => k w _ G2 (rl2.mut q6 rep1 hx) (s1.trans s2) hw
        · cases q5
      · cases q5
    · cases e2
  | _ => cases q1
def hApp : List D → List D → Option (D × List D)
  | ds, [d] => if ds.length < sizeLine then some (.none, ds ++ [d]) else none
  | _, _ => none
theorem m_append : Mth X rAppend hApp := ⟨fun G H l xs ws ds es d ds' Q h1 h2 h3 e k => by
  cases h3 with
  | nil => cases e
  | cons hv ht =>
    cases ht with
    | nil =>
      rename_i v dd
      replace e : (if ds.length < sizeLine then some (PyData.none, ds ++ [dd]) else none) = some (d, ds') := e
      by_cases q : ds.length < sizeLine
      · rw [if_pos q] at e
        cases e
        exact ⟨l, xs, v, rfl, rfl, h1, by rw [dpa_len h2]; exact q, k _ _ (dpa_app h2 (.cons hv .nil)) .non⟩
      · rw [if_neg q] at e; cases e
    | cons _ _ => cases e⟩
end
/-! ### a def, with nothing being shown around it -/
structure FnG (P : Program) (w : World) (K : PySem.W.Frag) (mg : Str → Option Value) (base : Heap) (CX : CXT) (k : Nat) (f : Addr) (fd : FuncData) (ps : List Str) (sp : Sp) : Prop where
  len : ∀ vs H Q E, sp vs H Q E → vs.length = ps.length
  run : ∀ (A : Around) (outer : List Env) (s : Shared) (H : Hp) (args : Args) (us : List Value) (vs : List V) (Q : VK) (E : XK), A.guards = some [] → Room k A → Env0 P w K mg base A outer s H →
    BindsTo s fd args (ps.zip us) → Vals vs us → sp vs H Q E → codeAny (model P w) A (.call (.ref f) args) (CR CX outer P w H s Q E) s
section
variable {P : Program} {w : World} {K : PySem.W.Frag} {mg : Str → Option Value} {base : Heap} {CX : CXT} {k : Nat} {f : Addr} {fd : FuncData} {ps : List Str} {sp : Sp}
theorem FnG.mono {j : Nat} (F : FnG P w K mg base CX j f fd ps sp) (h : j ≤ k) : FnG P w K mg base CX k f fd ps sp :=
  ⟨F.len, fun A outer s H args us vs Q E hg hr => F.run A outer s H args us vs Q E hg (hr.mono h)⟩
theorem fnG_of {name qual : Str} {params : Arguments} {body : List Stmt} {scope : Scope} {dV kV doc pm cdv ct oc : Value} {an od : Option Addr} {osl : Array (Option Value)} {N : List Str}
    (lk : K.lookup f = some ⟨oc, od, .func (PySem.W.fnOf name qual params body scope dV kV doc pm an cdv ct), osl⟩) (hcode : PySem.W.codeIn K cdv qual = true) (sc : FnScope N ps scope) (hlen : ∀ vs H Q E, sp vs H Q E → vs.length = ps.length)
    (hb0 : ∀ (A : Around) (outer : List Env) (s : Shared) (H : Hp) (vs : List V) (Q : VK) (E : XK), A.guards = some [] → Room k (A.deeper (envOfC qual scope s.heap.objs.size f cdv)) → sp vs H Q E →
      ∃ t, PSs (cxOf CX P w K mg base N qual scope f cdv A outer s H E) body t ∧ t { nx := fun _ H' => Q .non H', rt := Q } (L2.start N vs) H) : FnG P w K mg base CX (k + 1) f (PySem.W.fnOf name qual params body scope dV kV doc pm an cdv ct) ps sp := by
  constructor
  · exact hlen
  intro A outer s H args us vs Q E hgd room env bind rel prom
  have inK : K.In s.heap := env.mod.kin.keeps (fun b o e => (env.bs b o e).1)
  have noLim : s.heap.NoLimit := env.mod.nolimit.keeps (fun b o e => (env.bs b o e).1)
  have kinds : ∀ y ∈ ps.zip us, scope.names.lookup y.1 = some .local ∨ (scope.names.lookup y.1 = some .cell ∧ ((cellsFrom (s.heap.objs.size + 1) scope.names []).lookup y.1).isSome = true) := by
    rintro ⟨n, v⟩ hy
    rcases sc.par n (List.of_mem_zip hy).1 with loc | cel
    · exact Or.inl loc
    · exact Or.inr ⟨cel, PySem.W.cellsFrom_some _ _ _ (Or.inl cel)⟩
  refine codeAny_call_function room.depth (inK _ _ lk) rfl sc.co sc.gen rfl (PySem.W.codeRec_of inK hcode) (bind _ _ _ _ ?_)
  refine wpAny_newFunctionEnv_cells sc.kind kinds (fun env' he s1 inCall => ?_)
  subst he
  refine ⟨noLim.keeps inCall.toInCall.keep, codeAny_func ?_⟩
  obtain ⟨t, ht, hq⟩ := hb0 A outer s H vs Q E hgd (room.deeper _) prom
  have I0 : Inv (cxOf CX P w K mg base N qual scope f cdv A outer s H E) [] (L2.start N vs) H s1 := inv_start sc room.hd env (hlen vs H Q E prom) rel inCall
  refine wpAny_mono (ht.run [] s1 (L2.start N vs) H _ I0 hq) (fun fl s' hs => ?_) (fun _ _ hs => hs)
  cases fl with
  | ret u =>
    obtain ⟨v, σ', H', J, rv, q⟩ := hs
    exact ⟨v, H', J.os, J.bare, J.base, J.hok, rv, q⟩
  | next =>
    obtain ⟨σ', H', J, q⟩ := hs
    exact ⟨V.non, H', J.os, J.bare, J.base, J.hok, rfl, q⟩
  | brk => obtain ⟨_, _, _, q⟩ := hs; exact False.elim q
  | cont => obtain ⟨_, _, _, q⟩ := hs; exact False.elim q
end
section
variable {X : Cx} {CX : CXT} {k : Nat} {f : Addr} {fd : FuncData} {ps : List Str} {sp : Sp} {E : XK} {x : Str} {p pos : Pos} {e : Expr} {es : List Expr} {t : TA}
theorem pe_callG (G : FnG X.prog X.w X.K X.mg X.base CX k f fd ps sp) (hgd : X.A.guards = some []) (hr : Room k X.A) (hg : Gl X x) (hm : X.mg x = some (.ref f)) (hk : PySem.W.keepIn X.K (.ref f) = true) (hb : Binds X.K fd ps []) (hx : Passes CX X E)
    (ha : PA X (e :: es) t) (hdb : (x == ("__debug__" : Str)) = false := by decide) (he : starEach (e :: es) X.env = (false, eval e X.env) :: starEach es X.env := by rfl) (hpl : (backTo pos (starEach es X.env)).any (·.1) = false := by rfl) :
    PE X (.Call (.Name x p) (e :: es) [] pos) (fun σ H Q => t σ H fun vs H1 => sp vs H1 Q E) := by
  refine ⟨fun pins s σ H Q I h => wpAny_Call_Name_kw (ld_glob I hg hm ?_ hdb)⟩
  refine PySem.W.callWith_K (h₀ := X.base) I.ok.mod.kin hk (thn (ha.run pos pins s σ H _ I h) fun us s1 ⟨vs, H1, I1, r, q⟩ => ⟨I1.kIn, ?_⟩) he hpl
  have hl : (us ++ []).length = ps.length := by rw [List.append_nil, ← r.length]; exact G.len _ _ _ _ q
  have hb' := hb s1 us I1.kIn hl
  rw [List.append_nil] at hb'
  refine wpAny_call (codeAny_mono (G.run X.A X.stack s1 H1 ⟨us, []⟩ us vs Q E hgd hr I1.env0 hb' r q) fun r' s' hq => ?_)
  cases r' with
  | error er => exact hx pins σ H1 s1 er s' I1 hq
  | ok fl =>
    cases fl with
    | ret u => exact I1.after hq
    | next => exact False.elim hq
    | brk => exact False.elim hq
    | cont => exact False.elim hq
end
end Lw
namespace Lw
open PySem PySem.Spec PyProof.Rows L2
abbrev Fsem := List S → Option (R × List S)
structure ArgsOk (K : PySem.W.Frag) (ss : List S) (G : Hp) (vs : List V) (H : Hp) : Prop where
  len : vs.length = ss.length
  sub : Same G H
  pu : ∀ (i : Nat) d, ss[i]? = some (.pure d) → ∃ v, vs[i]? = some v ∧ Dp K G v d
  ow : ∀ (i : Nat) b ds, ss[i]? = some (.own b ds) → b = true ∧ ∃ a xs, vs[i]? = some (.ref a) ∧ H a = some (.lst xs) ∧ G a = none ∧ DpAll K G xs ds
  ap : ∀ (i j : Nat) b c ds es a, ss[i]? = some (.own b ds) → ss[j]? = some (.own c es) → vs[i]? = some (.ref a) → vs[j]? = some (.ref a) → i = j
  vx : ∀ (i : Nat) x, ss[i]? = some (.vx x) → (∀ kvs, x ≠ .odc kvs) ∧ ∃ v, vs[i]? = some v ∧ Xp K G v x
def RepOut (K : PySem.W.Frag) (H G' H' : Hp) : R → V → Prop
  | .pure d, v => Dp K G' v d
  | .fresh ds, v => ∃ a xs, v = .ref a ∧ H' a = some (.lst xs) ∧ G' a = none ∧ DpAll K G' xs ds ∧ H a = none
  | .ref _, _ => False
  | .vx (.exc nm d), v => Xp K G' v (.exc nm d)
  | .vx (.odc kvs), v => ∃ a o, v = .ref a ∧ H' a = some o ∧ DcAt K G' o kvs ∧ G' a = none ∧ H a = none
structure RetOk (K : PySem.W.Frag) (ss : List S) (G : Hp) (vs : List V) (H : Hp) (r : R) (outs : List S) (v : V) (H' G' : Hp) : Prop where
  same : Same G G'
  sub : Same G' H'
  nw : ∀ a, G' a ≠ none → G a ≠ none ∨ H a = none
  fr : ∀ a o, H a = some o → (∀ (i : Nat) b ds, ss[i]? = some (.own b ds) → vs[i]? ≠ some (.ref a)) → H' a = some o
  ow : ∀ (i : Nat) b ds a, ss[i]? = some (.own b ds) → vs[i]? = some (.ref a) → ∃ ds' xs', outs[i]? = some (.own true ds') ∧ H' a = some (.lst xs') ∧ G' a = none ∧ DpAll K G' xs' ds'
  rep : RepOut K H G' H' r v
def spF (K : PySem.W.Frag) (n : Nat) (m : Fsem) : Sp := fun vs H Q _ => ∃ ss G, ss.length = n ∧ ArgsOk K ss G vs H ∧ ∃ r outs, m ss = some (r, outs) ∧ ∀ v H' G', RetOk K ss G vs H r outs v H' G' → Q v H'
/-! ### the call -/
def argS : List Ar → En → Option (List S)
  | [], _ => some []
  | .val d :: as, ς => match argS as ς with
    | some ss => some (.pure d :: ss)
    | none => none
  | .ref i :: as, ς => match ς[i]?, argS as ς with
    | some (some (.own _ ds)), some ss => some (.own true ds :: ss)
    | some (some (.pure d)), some ss => some (.pure d :: ss)
    | some (some (.vx (.exc nm d))), some ss => some (.vx (.exc nm d) :: ss)
    | _, _ => none
def setOwn (ς : En) (i : Nat) (ds : List D) : En := match ς[i]? with
  | some (some (.own b _)) => ς.set i (some (.own b ds))
  | _ => ς
def putBack : List Ar → List S → En → En
  | .ref i :: as, .own _ ds :: os, ς => putBack as os (setOwn ς i ds)
  | _ :: as, _ :: os, ς => putBack as os ς
  | _, _, ς => ς
def refsOf : List Ar → List Nat
  | [] => []
  | .val _ :: as => refsOf as
  | .ref i :: as => i :: refsOf as
def callE (m : Fsem) (ga : M (List Ar)) : M R := bd ga fun as => fun ς => match argS as ς with
  | some ss => match m ss with
    | some (.ref _, _) => none
    | some (r, outs) => if (refsOf as).Nodup then some (r, putBack as outs ς) else none
    | none => none
  | none => none
theorem argS_len : ∀ {as : List Ar} {ς : En} {ss : List S}, argS as ς = some ss → ss.length = as.length
  | [], _, _, e => by cases e; rfl
  | .val d :: as, ς, ss, e => by
    unfold argS at e
    split at e
    · rename_i ss' q; cases e; rw [List.length_cons, List.length_cons, argS_len q]
    · cases e
  | .ref i :: as, ς, ss, e => by
    unfold argS at e
    split at e
    · rename_i q; cases e; rw [List.length_cons, List.length_cons, argS_len q]
    · rename_i q; cases e; rw [List.length_cons, List.length_cons, argS_len q]
    · rename_i q; cases e; rw [List.length_cons, List.length_cons, argS_len q]
    · cases e
theorem argS_get : ∀ {as : List Ar} {ς : En} {ss : List S} {k : Nat} {s : S}, argS as ς = some ss → ss[k]? = some s →
    (∃ d, as[k]? = some (.val d) ∧ s = .pure d) ∨ ∃ j, as[k]? = some (.ref j) ∧ ((∃ b ds, ς[j]? = some (some (.own b ds)) ∧ s = .own true ds) ∨ (∃ d, ς[j]? = some (some (.pure d)) ∧ s = .pure d) ∨ ∃ z : Str × D, ς[j]? = some (some (.vx (.exc z.1 z.2))) ∧ s = .vx (.exc z.1 z.2))
  | [], _, _, _, _, e, h => by cases e; cases h
  | .val d :: as, ς, ss, k, s, e, h => by
    unfold argS at e
    split at e
    · rename_i ss' q
      cases e
      cases k with
      | zero => cases h; exact .inl ⟨d, rfl, rfl⟩
      | succ k =>
        have h' := argS_get (k := k) (s := s) q (by simpa using h)
        simpa using h'
    · cases e
  | .ref i :: as, ς, ss, k, s, e, h => by
    unfold argS at e
    split at e
    · rename_i b ds ss' q1 q
      cases e
      cases k with
      | zero => cases h; exact .inr ⟨i, rfl, .inl ⟨b, ds, q1, rfl⟩⟩
      | succ k =>
        have h' := argS_get (k := k) (s := s) q (by simpa using h)
        simpa using h'
    · rename_i d ss' q1 q
      cases e
      cases k with
      | zero => cases h; exact .inr ⟨i, rfl, .inr (.inl ⟨d, q1, rfl⟩)⟩
      | succ k =>
        have h' := argS_get (k := k) (s := s) q (by simpa using h)
        simpa using h'
    · rename_i nm d ss' q1 q
      cases e
      cases k with
      | zero => cases h; exact .inr ⟨i, rfl, .inr (.inr ⟨(nm, d), q1, rfl⟩)⟩
      | succ k =>
        have h' := argS_get (k := k) (s := s) q (by simpa using h)
        simpa using h'
    · cases e
theorem argS_at : ∀ {as : List Ar} {ς : En} {ss : List S} {k j : Nat} {b : Bool} {ds : List D}, argS as ς = some ss → as[k]? = some (.ref j) → ς[j]? = some (some (.own b ds)) → ss[k]? = some (.own true ds)
  | [], _, _, _, _, _, _, e, h, _ => by cases h
  | .val d :: as, ς, ss, k, j, b, ds, e, h, hj => by
    unfold argS at e
    split at e
    · rename_i ss' q
      cases e
      cases k with
      | zero => cases h
      | succ k =>
        have h' := argS_at (k := k) q (by simpa using h) hj
        simpa using h'
    · cases e
  | .ref i :: as, ς, ss, k, j, b, ds, e, h, hj => by
    unfold argS at e
    split at e
    · rename_i b' ds' ss' q1 q
      cases e
      cases k with
      | zero =>
        cases h
        rw [hj] at q1
        cases q1
        rfl
      | succ k =>
        have h' := argS_at (k := k) q (by simpa using h) hj
        simpa using h'
    · rename_i d ss' q1 q
      cases e
      cases k with
      | zero =>
        cases h
        rw [hj] at q1
        cases q1
      | succ k =>
        have h' := argS_at (k := k) q (by simpa using h) hj
        simpa using h'
    · rename_i d ss' q1 q
      cases e
      cases k with
      | zero =>
        cases h
        rw [hj] at q1
        cases q1
      | succ k =>
        have h' := argS_at (k := k) q (by simpa using h) hj
        simpa using h'
    · cases e
theorem paired_get {α β : Type} {Rr : α → β → Prop} : ∀ {as : List α} {bs : List β} {k : Nat} {x : α}, Paired Rr as bs → as[k]? = some x → ∃ y, bs[k]? = some y ∧ Rr x y
  | _, _, _, _, .nil, e => by simp at e
  | _, _, 0, _, .cons h _, e => by simp at e; subst e; exact ⟨_, rfl, h⟩
  | _, _, k + 1, x, .cons _ t, e => by
    obtain ⟨y, h1, h2⟩ := paired_get (k := k) (x := x) t (by simpa using e)
    exact ⟨y, by simpa using h1, h2⟩
theorem paired_len {α β : Type} {Rr : α → β → Prop} : ∀ {as : List α} {bs : List β}, Paired Rr as bs → as.length = bs.length
  | _, _, .nil => rfl
  | _, _, .cons _ t => by rw [List.length_cons, List.length_cons, paired_len t]
theorem refs_mem : ∀ {as : List Ar} {k j : Nat}, as[k]? = some (.ref j) → j ∈ refsOf as
  | [], _, _, h => by cases h
  | .val d :: as, 0, j, h => by cases h
  | .val d :: as, k + 1, j, h => refs_mem (as := as) (k := k) h
  | .ref i :: as, 0, j, h => by cases h; exact List.mem_cons_self
  | .ref i :: as, k + 1, j, h => List.mem_cons_of_mem _ (refs_mem (as := as) (k := k) h)
theorem mem_refs : ∀ {as : List Ar} {j : Nat}, j ∈ refsOf as → ∃ k : Nat, as[k]? = some (.ref j)
  | [], _, h => by cases h
  | .val d :: as, j, h => by obtain ⟨k, e⟩ := mem_refs (as := as) h; exact ⟨k + 1, e⟩
  | .ref i :: as, j, h => by
    rcases List.mem_cons.mp h with rfl | h
    · exact ⟨0, rfl⟩
    · obtain ⟨k, e⟩ := mem_refs (as := as) h; exact ⟨k + 1, e⟩
theorem setOwn_len (ς : En) (i : Nat) (ds : List D) : (setOwn ς i ds).length = ς.length := by
  unfold setOwn; split
  · rw [List.length_set]
  · rfl
theorem pb_nil (os : List S) (ς : En) : putBack [] os ς = ς := by cases os <;> rfl
theorem pb_nil2 (a : Ar) (as : List Ar) (ς : En) : putBack (a :: as) [] ς = ς := by cases a <;> rfl
theorem pb_vx (i : Nat) (as : List Ar) (x : XD) (os : List S) (ς : En) : putBack (.ref i :: as) (.vx x :: os) ς = putBack as os ς := rfl
theorem pb_val (d : D) (as : List Ar) (o : S) (os : List S) (ς : En) : putBack (.val d :: as) (o :: os) ς = putBack as os ς := by cases o <;> rfl
theorem pb_own (i : Nat) (as : List Ar) (b : Bool) (ds : List D) (os : List S) (ς : En) : putBack (.ref i :: as) (.own b ds :: os) ς = putBack as os (setOwn ς i ds) := rfl
theorem pb_pure (i : Nat) (as : List Ar) (d : D) (os : List S) (ς : En) : putBack (.ref i :: as) (.pure d :: os) ς = putBack as os ς := rfl
theorem putBack_len : ∀ (as : List Ar) (os : List S) (ς : En), (putBack as os ς).length = ς.length
  | [], _, ς => by rw [pb_nil]
  | a :: as, [], ς => by rw [pb_nil2]
  | .val d :: as, o :: os, ς => by rw [pb_val]; exact putBack_len as os ς
  | .ref i :: as, .own b ds :: os, ς => by rw [pb_own, putBack_len as os, setOwn_len]
  | .ref i :: as, .pure d :: os, ς => by rw [pb_pure]; exact putBack_len as os ς
  | .ref i :: as, .vx x :: os, ς => by rw [pb_vx]; exact putBack_len as os ς
theorem setOwn_ne {ς : En} {i j : Nat} {ds : List D} (h : i ≠ j) : (setOwn ς i ds)[j]? = ς[j]? := by
  unfold setOwn; split
  · rw [List.getElem?_set_ne h]
  · rfl
theorem setOwn_own {ς : En} {i : Nat} {b : Bool} {ds es : List D} (h : ς[i]? = some (some (.own b es))) : (setOwn ς i ds)[i]? = some (some (.own b ds)) := by
  unfold setOwn
  rw [h]
  exact List.getElem?_set_self (List.getElem?_eq_some_iff.mp h).1
theorem setOwn_not {ς : En} {i : Nat} {ds : List D} (h : ∀ b es, ς[i]? ≠ some (some (.own b es))) : setOwn ς i ds = ς := by
  unfold setOwn; split
  · rename_i b es q; exact absurd q (h b es)
  · rfl
/-- a slot that no argument is -/
theorem putBack_ne : ∀ {as : List Ar} {os : List S} {ς : En} {j : Nat}, j ∉ refsOf as → (putBack as os ς)[j]? = ς[j]?
  | [], _, ς, j, _ => by rw [pb_nil]
  | a :: as, [], ς, j, _ => by rw [pb_nil2]
  | .val d :: as, o :: os, ς, j, h => by rw [pb_val]; exact putBack_ne (as := as) h
  | .ref i :: as, .own b ds :: os, ς, j, h => by
    have h' : j ≠ i ∧ j ∉ refsOf as := ⟨fun z => h (by rw [z]; exact List.mem_cons_self), fun z => h (List.mem_cons_of_mem _ z)⟩
    rw [pb_own, putBack_ne h'.2, setOwn_ne (Ne.symm h'.1)]
  | .ref i :: as, .pure d :: os, ς, j, h => by
    have h' : j ∉ refsOf as := fun z => h (List.mem_cons_of_mem _ z)
    rw [pb_pure]; exact putBack_ne h'
  | .ref i :: as, .vx x :: os, ς, j, h => by
    have h' : j ∉ refsOf as := fun z => h (List.mem_cons_of_mem _ z)
    rw [pb_vx]; exact putBack_ne h'
/-- a slot without an own list stays -/
theorem putBack_not : ∀ {as : List Ar} {os : List S} {ς : En} {j : Nat}, (∀ b es, ς[j]? ≠ some (some (.own b es))) → (putBack as os ς)[j]? = ς[j]?
  | [], _, ς, j, _ => by rw [pb_nil]
  | a :: as, [], ς, j, _ => by rw [pb_nil2]
  | .val d :: as, o :: os, ς, j, h => by rw [pb_val]; exact putBack_not (as := as) h
  | .ref i :: as, .own b ds :: os, ς, j, h => by
    by_cases e : i = j
    · subst e
      rw [pb_own, setOwn_not h]
      exact putBack_not (as := as) h
    · have e2 := setOwn_ne (ς := ς) (ds := ds) e
      rw [pb_own, putBack_not (as := as) (by rw [e2]; exact h), e2]
  | .ref i :: as, .pure d :: os, ς, j, h => by rw [pb_pure]; exact putBack_not (as := as) h
  | .ref i :: as, .vx x :: os, ς, j, h => by rw [pb_vx]; exact putBack_not (as := as) h
theorem putBack_at : ∀ {as : List Ar} {os : List S} {ς : En} {k j : Nat} {b c : Bool} {ds es : List D}, (refsOf as).Nodup → as[k]? = some (.ref j) → os[k]? = some (.own c ds) → ς[j]? = some (some (.own b es)) → (putBack as os ς)[j]? = some (some (.own b ds))
  | [], _, _, _, _, _, _, _, _, _, h, _, _ => by cases h
  | _ :: _, [], _, _, _, _, _, _, _, _, _, h, _ => by cases h
  | .val d :: as, o :: os, ς, k, j, b, c, ds, es, nd, h1, h2, h3 => by
    cases k with
    | zero => cases h1
    | succ k => rw [pb_val]; exact putBack_at (as := as) (k := k) nd (by simpa using h1) (by simpa using h2) h3
  | .ref i :: as, .pure d :: os, ς, k, j, b, c, ds, es, nd, h1, h2, h3 => by
    cases k with
    | zero => cases h2
    | succ k => rw [pb_pure]; exact putBack_at (as := as) (k := k) (List.nodup_cons.mp nd).2 (by simpa using h1) (by simpa using h2) h3
  | .ref i :: as, .vx x :: os, ς, k, j, b, c, ds, es, nd, h1, h2, h3 => by
    cases k with
    | zero => cases h2
    | succ k => rw [pb_vx]; exact putBack_at (as := as) (k := k) (List.nodup_cons.mp nd).2 (by simpa using h1) (by simpa using h2) h3
  | .ref i :: as, .own b' ds' :: os, ς, k, j, b, c, ds, es, nd, h1, h2, h3 => by
    have nd' := List.nodup_cons.mp nd
    cases k with
    | zero =>
      cases h1; cases h2
      rw [pb_own, putBack_ne nd'.1, setOwn_own h3]
    | succ k =>
      have h1' : as[k]? = some (.ref j) := by simpa using h1
      have ne : i ≠ j := fun z => nd'.1 (by rw [z]; exact refs_mem (as := as) (k := k) h1')
      rw [pb_own]
      exact putBack_at (k := k) nd'.2 h1' (by simpa using h2) (by rw [setOwn_ne ne]; exact h3)
theorem putBack_is {j : Nat} {c : Bool} : ∀ (as : List Ar) (os : List S) (ς : En) (es : List D), ς[j]? = some (some (.own c es)) → ∃ es', (putBack as os ς)[j]? = some (some (.own c es'))
  | [], _, ς, es, h => by rw [pb_nil]; exact ⟨es, h⟩
  | a :: as, [], ς, es, h => by rw [pb_nil2]; exact ⟨es, h⟩
  | .val d :: as, o :: os, ς, es, h => by rw [pb_val]; exact putBack_is as os ς es h
  | .ref i :: as, .pure d :: os, ς, es, h => by rw [pb_pure]; exact putBack_is as os ς es h
  | .ref i :: as, .vx x :: os, ς, es, h => by rw [pb_vx]; exact putBack_is as os ς es h
  | .ref i :: as, .own b' ds' :: os, ς, es, h => by
    rw [pb_own]
    by_cases e : i = j
    · subst e; exact putBack_is as os _ ds' (setOwn_own h)
    · exact putBack_is as os _ es (by rw [setOwn_ne e]; exact h)
theorem putBack_own {as : List Ar} {os : List S} {ς : En} {j : Nat} {b : Bool} {ds : List D} (h : (putBack as os ς)[j]? = some (some (.own b ds))) : ∃ es, ς[j]? = some (some (.own b es)) := by
  by_cases q : ∃ c es, ς[j]? = some (some (.own c es))
  · obtain ⟨c, es, hq⟩ := q
    obtain ⟨es', e'⟩ := putBack_is as os ς es hq
    rw [h] at e'
    cases e'
    exact ⟨es, hq⟩
  · rw [putBack_not (fun c es z => q ⟨c, es, z⟩)] at h
    exact ⟨ds, h⟩
section
variable {K : PySem.W.Frag} {F : Fx} {ς : En} {G H G' H' : Hp} {σ : L2.St}
theorem Rel.args (r : Rel K F ς G σ H) {as : List Ar} {ss : List S} {vs : List V} (e : argS as ς = some ss) (ps : Paired (RepAr K G σ) as vs) (nd : (refsOf as).Nodup) : ArgsOk K ss G vs H where
  len := by rw [argS_len e, paired_len ps]
  sub := r.sub
  pu := fun i d h => by
    rcases argS_get e h with ⟨d', h1, h2⟩ | ⟨j, h1, ⟨b, ds, h2, h3⟩ | ⟨d', h2, h3⟩ | ⟨kvs, h2, h3⟩⟩
    · cases h2
      obtain ⟨v, k1, k2⟩ := paired_get ps h1
      exact ⟨v, k1, k2⟩
    · cases h3
    · cases h3
      obtain ⟨v, k1, k2⟩ := paired_get ps h1
      obtain ⟨w, k3, k4⟩ := r.pu j d h2
      rw [show σ[j]? = some (some v) from k2] at k3
      cases k3
      exact ⟨v, k1, k4⟩
    · cases h3
  ow := fun i b ds h => by
    rcases argS_get e h with ⟨d', h1, h2⟩ | ⟨j, h1, ⟨b', ds', h2, h3⟩ | ⟨d', h2, h3⟩ | ⟨kvs, h2, h3⟩⟩
    · cases h2
    · cases h3
      obtain ⟨v, k1, k2⟩ := paired_get ps h1
      obtain ⟨a, xs, f1, f2, f3, f4, _⟩ := r.ow j b' ds h2
      rw [show σ[j]? = some (some v) from k2] at f1
      cases f1
      exact ⟨rfl, a, xs, k1, f2, f3, f4⟩
    · cases h3
    · cases h3
  ap := fun i j b c ds es a h1 h2 h3 h4 => by
    rcases argS_get e h1 with ⟨d', _, q⟩ | ⟨m, g1, ⟨b', ds', g2, g3⟩ | ⟨d', _, q⟩ | ⟨kvs, _, q⟩⟩
    · cases q
    · rcases argS_get e h2 with ⟨d', _, q⟩ | ⟨n, g4, ⟨c', es', g5, g6⟩ | ⟨d', _, q⟩ | ⟨kvs, _, q⟩⟩
      · cases q
      · obtain ⟨v, k1, k2⟩ := paired_get ps g1
        obtain ⟨w, k3, k4⟩ := paired_get ps g4
        rw [h3] at k1; cases k1
        rw [h4] at k3; cases k3
        have emn := r.ap m n b' c' ds' es' a g2 g5 k2 k4
        subst emn
        have : ∀ (as : List Ar), (refsOf as).Nodup → ∀ (i j : Nat), as[i]? = some (.ref m) → as[j]? = some (.ref m) → i = j := by
          intro as
          induction as with
          | nil => intro _ i j h; cases h
          | cons x as ih =>
            intro nd i j hi hj
            cases x with
            | val d =>
              cases i with
              | zero => cases hi
              | succ i =>
                cases j with
                | zero => cases hj
                | succ j => rw [ih nd i j hi hj]
            | ref l =>
              have nd' := List.nodup_cons.mp nd
              cases i with
              | zero =>
                cases j with
                | zero => rfl
                | succ j => cases hi; exact absurd (refs_mem (as := as) (k := j) hj) nd'.1
              | succ i =>
                cases j with
                | zero => cases hj; exact absurd (refs_mem (as := as) (k := i) hi) nd'.1
                | succ j => rw [ih nd'.2 i j hi hj]
        exact this as nd i j g1 g4
      · cases q
      · cases q
    · cases q
    · cases q
  vx := fun i x h => by
    rcases argS_get e h with ⟨d', _, q⟩ | ⟨m, g1, ⟨b', ds', g2, g3⟩ | ⟨d', _, q⟩ | ⟨kvs, g2, q⟩⟩
    · cases q
    · cases g3
    · cases q
    · cases q
      obtain ⟨v, k1, k2⟩ := paired_get ps g1
      obtain ⟨w, k3, k4⟩ := r.vx m _ g2
      rw [show σ[m]? = some (some v) from k2] at k3
      cases k3
      exact ⟨(fun _ z => by cases z), v, k1, k4⟩
theorem called_vx {as : List Ar} {outs : List S} {ς : En} {i : Nat} {x : XD} (h : (putBack as outs ς)[i]? = some (some (.vx x))) : ς[i]? = some (some (.vx x)) := by
  by_cases q : ∃ c es, ς[i]? = some (some (.own c es))
  · obtain ⟨c, es, hq⟩ := q
    obtain ⟨es', e'⟩ := putBack_is as outs ς es hq
    rw [h] at e'
    cases e'
  · rw [putBack_not (fun c es z => q ⟨c, es, z⟩)] at h; exact h
theorem Rel.called (r : Rel K F ς G σ H) {as : List Ar} {ss outs : List S} {vs : List V} {res : R} {v : V} (e : argS as ς = some ss) (ps : Paired (RepAr K G σ) as vs) (nd : (refsOf as).Nodup) (t : RetOk K ss G vs H res outs v H' G') :
    Rel K F (putBack as outs ς) G' σ H' := by
  -- an own slot's list is not an argument's, unless it is that argument
  have away : ∀ (j : Nat) b ds a, ς[j]? = some (some (.own b ds)) → σ[j]? = some (some (.ref a)) → j ∉ refsOf as → ∀ (i : Nat) c es, ss[i]? = some (.own c es) → vs[i]? ≠ some (.ref a) := by
    intro j b ds a h1 h2 h3 i c es h4 h5
    rcases argS_get e h4 with ⟨d', _, q⟩ | ⟨m, g1, ⟨b', ds', g2, g3⟩ | ⟨d', _, q⟩ | ⟨kvs, _, q⟩⟩
    · cases q
    · obtain ⟨w, k1, k2⟩ := paired_get ps g1
      rw [h5] at k1; cases k1
      have := r.ap m j b' b ds' ds a g2 h1 k2 h2
      subst this
      exact h3 (refs_mem g1)
    · cases q
    · cases q
  have hvx : ∀ (i : Nat) x, (putBack as outs ς)[i]? = some (some (.vx x)) → ς[i]? = some (some (.vx x)) := fun i x h => by
    by_cases q : ∃ c es, ς[i]? = some (some (.own c es))
    · obtain ⟨c, es, hq⟩ := q
      obtain ⟨es', e'⟩ := putBack_is as outs ς es hq
      rw [h] at e'
      cases e'
    · rw [putBack_not (fun c es z => q ⟨c, es, z⟩)] at h; exact h
  refine ⟨by rw [putBack_len, r.len], t.sub, r.g0.trans t.same, ?_, ?_, ?_, ?_, ?_, ?_, ?_, ?_, ?_⟩
  · intro i d h
    have h' : ς[i]? = some (some (.pure d)) := by
      by_cases q : ∃ c es, ς[i]? = some (some (.own c es))
      · obtain ⟨c, es, hq⟩ := q
        exfalso
        by_cases hm : i ∈ refsOf as
        · obtain ⟨kk, hk⟩ := mem_refs hm
          have hs := argS_at e hk hq
          obtain ⟨v', k1, k2⟩ := paired_get ps hk
          obtain ⟨a, xs, f1, _⟩ := r.ow i c es hq
          rw [show σ[i]? = some (some v') from k2] at f1
          cases f1
          obtain ⟨ds', xs', o1, _⟩ := t.ow kk true es a hs k1
          rw [putBack_at nd hk o1 hq] at h
          cases h
        · rw [putBack_ne hm, hq] at h; cases h
      · rw [putBack_not (fun c es z => q ⟨c, es, z⟩)] at h; exact h
    obtain ⟨w, h1, h2⟩ := r.pu i d h'
    exact ⟨w, h1, dp_same t.same h2⟩
  · intro i b ds h
    obtain ⟨es, hq⟩ := putBack_own h
    obtain ⟨a, xs, f1, f2, f3, f4, f5⟩ := r.ow i b es hq
    by_cases hm : i ∈ refsOf as
    · obtain ⟨kk, hk⟩ := mem_refs hm
      have hs := argS_at e hk hq
      obtain ⟨v', k1, k2⟩ := paired_get ps hk
      rw [show σ[i]? = some (some v') from k2] at f1
      cases f1
      obtain ⟨ds', xs', o1, o2, o3, o4⟩ := t.ow kk true es a hs k1
      rw [putBack_at nd hk o1 hq] at h
      cases h
      exact ⟨a, xs', k2, o2, o3, o4, f5⟩
    · rw [putBack_ne hm, hq] at h
      cases h
      refine ⟨a, xs, f1, t.fr a _ f2 (away i b ds a hq f1 hm), ?_, dpa_same t.same f4, f5⟩
      cases z : G' a with
      | none => rfl
      | some y =>
        rcases t.nw a (by rw [z]; simp) with w | w
        · exact absurd f3 w
        · rw [f2] at w; cases w
  · intro i j b c ds es a h1 h2 h3 h4
    obtain ⟨_, q1⟩ := putBack_own h1
    obtain ⟨_, q2⟩ := putBack_own h2
    exact r.ap i j b c _ _ a q1 q2 h3 h4
  · intro i a h
    obtain ⟨ds, hq⟩ := r.par i a h
    by_cases hm : i ∈ refsOf as
    · obtain ⟨kk, hk⟩ := mem_refs hm
      have hs := argS_at e hk hq
      obtain ⟨v', k1, k2⟩ := paired_get ps hk
      obtain ⟨a', xs, f1, _⟩ := r.ow i true ds hq
      rw [show σ[i]? = some (some v') from k2] at f1
      cases f1
      obtain ⟨ds', xs', o1, _⟩ := t.ow kk true ds a' hs k1
      exact ⟨ds', putBack_at nd hk o1 hq⟩
    · exact ⟨ds, by rw [putBack_ne hm]; exact hq⟩
  · intro a o h na
    refine t.fr a o (r.fr a o h na) fun i c es h4 h5 => ?_
    rcases argS_get e h4 with ⟨d', _, q⟩ | ⟨m, g1, ⟨b', ds', g2, g3⟩ | ⟨d', _, q⟩ | ⟨kvs, _, q⟩⟩
    · cases q
    · obtain ⟨w, k1, k2⟩ := paired_get ps g1
      rw [h5] at k1; cases k1
      obtain ⟨a', xs, f1, _, _, _, f5, f6⟩ := r.ow m b' ds' g2
      rw [show σ[m]? = some (some (.ref a)) from k2] at f1
      cases f1
      cases b' with
      | true => exact na m (f5 rfl)
      | false => rw [f6 rfl] at h; cases h
    · cases q
    · cases q
  · intro a h
    rcases t.nw a h with w | w
    · exact r.nw a w
    · exact .inr (r.new w)
  · intro i x h
    obtain ⟨w, h1, h2⟩ := r.vx i x (hvx i x h)
    exact ⟨w, h1, xp_same t.same h2⟩
  · intro i kvs h
    refine (r.od i kvs (hvx i _ h)).keep rfl t.same fun a o k1 nl k2 => ⟨t.fr a o k1 fun m b ds h4 h5 => ?_, ?_⟩
    · rcases argS_get e h4 with ⟨d', _, q⟩ | ⟨n, g1, ⟨b', ds', g2, g3⟩ | ⟨d', _, q⟩ | ⟨kvs, _, q⟩⟩
      · cases q
      · obtain ⟨w, l1, l2⟩ := paired_get ps g1
        rw [h5] at l1; cases l1
        obtain ⟨a', xs, f1, f2, _⟩ := r.ow n b' ds' g2
        rw [show σ[n]? = some (some (.ref a)) from l2] at f1
        cases f1
        rw [k1] at f2; cases f2
        exact nl _ rfl
      · cases q
      · cases q
    · cases z : G' a with
      | none => rfl
      | some y =>
        rcases t.nw a (by rw [z]; simp) with w | w
        · exact absurd k2 w
        · rw [k1] at w; cases w
  · intro i j kvs kws a h1 h2 h3 h4
    exact r.oa i j kvs kws a (hvx i _ h1) (hvx j _ h2) h3 h4
end
section
variable {X : Cx} {CX : CXT} {k n : Nat} {f : Addr} {fd : FuncData} {ps : List Str} {E : XK} {x : Str} {p pos : Pos} {e : Expr} {es : List Expr} {m : Fsem} {ga : M (List Ar)}
theorem d_call (G : FnG X.prog X.w X.K X.mg X.base CX k f fd ps (spF X.K n m)) (hgd : X.A.guards = some []) (hr : Room k X.A) (hg : Gl X x) (hm : X.mg x = some (.ref f)) (hk : PySem.W.keepIn X.K (.ref f) = true) (hb : Binds X.K fd ps []) (hx : Passes CX X E) (hn : (e :: es).length = n)
    (ha : PAd X (e :: es) ga) (hla : ∀ ς as ς', ga ς = some (as, ς') → as.length = (e :: es).length) (hdb : (x == ("__debug__" : Str)) = false := by decide) (he : starEach (e :: es) X.env = (false, eval e X.env) :: starEach es X.env := by rfl) (hpl : (backTo pos (starEach es X.env)).any (·.1) = false := by rfl) :
    PEd X (.Call (.Name x p) (e :: es) [] pos) (callE m ga) := fun F => PE.mono (pe_callG G hgd hr hg hm hk hb hx (ha F) hdb he hpl) fun σ H Q hq => by
  obtain ⟨ς, G, rl, r, ς', e', k⟩ := hq
  obtain ⟨as, ς1, e1, q1⟩ := bd_some e'
  refine ⟨ς, G, rl, as, ς1, e1, fun vs H1 G1 rl1 s1 pr => ?_⟩
  split at q1
  · rename_i ss q2
    split at q1
    · cases q1
    · rename_i r' outs hne q3
      split at q1
      · rename_i nd
        cases q1
        refine ⟨ss, G1, by rw [argS_len q2, hla _ _ _ e1, hn], rl1.args q2 pr nd, r, outs, q3, fun v H' G' t => k v H' G' (rl1.called q2 pr nd t) (s1.trans t.same) ?_⟩
        cases r with
        | pure d => exact t.rep
        | vx x =>
          cases x with
          | exc nm d => exact t.rep
          | odc kvs =>
            obtain ⟨a, o, rfl, h1, h2, h3, h4⟩ := t.rep
            refine ⟨a, o, rfl, h1, h2, h3, rl1.new h4, fun i kws z1 z2 => ?_⟩
            obtain ⟨a', _, f1, f2, _⟩ := (rl1.od i kws (called_vx z1))
            rw [z2] at f1; cases f1
            rw [h4] at f2; cases f2
        | ref i => exact t.rep.elim
        | fresh ds =>
          obtain ⟨a, xs, rfl, h1, h2, h3, h4⟩ := t.rep
          refine ⟨a, xs, rfl, h1, h2, h3, rl1.new h4, fun i b es z1 z2 => ?_⟩
          obtain ⟨es', hq⟩ := putBack_own z1
          obtain ⟨a', _, f1, f2, _⟩ := rl1.ow i b es' hq
          rw [z2] at f1; cases f1
          rw [h4] at f2; cases f2
      · cases q1
    · cases q1
  · cases q1
end
theorem argN_len {ς : En} {as : List Ar} {ς' : En} (h : argN ς = some (as, ς')) : as.length = 0 := by cases h; rfl
theorem argV_len {f : M R} {g : M (List Ar)} {n : Nat} (hg : ∀ ς as ς', g ς = some (as, ς') → as.length = n) : ∀ ς as ς', argV f g ς = some (as, ς') → as.length = n + 1 := fun ς as ς' h => by
  obtain ⟨d, ς1, _, q⟩ := bd_some h
  obtain ⟨as', ς2, e2, q2⟩ := bd_some q
  cases q2
  rw [List.length_cons, hg _ _ _ e2]
theorem argR_len {f : M R} {g : M (List Ar)} {n : Nat} (hg : ∀ ς as ς', g ς = some (as, ς') → as.length = n) : ∀ ς as ς', argR f g ς = some (as, ς') → as.length = n + 1 := fun ς as ς' h => by
  obtain ⟨d, ς1, _, q⟩ := bd_some h
  cases d with
  | ref i =>
    obtain ⟨as', ς2, e2, q2⟩ := bd_some q
    cases q2
    rw [List.length_cons, hg _ _ _ e2]
  | _ => cases q
/-! ### the def -/
def ent (n : Nat) (ss : List S) : En := ss.map some ++ List.replicate (n - ss.length) none
def outsOf (ς : En) (k : Nat) : List S := (ς.take k).map fun o => o.getD (.pure .none)
def runFn (g : MS) (n : Nat) : Fsem := fun ss => match g (ent n ss) with
  | some (.rt (.ref _) _) => none
  | some (.rt r ς) => some (r, outsOf ς ss.length)
  | some (.nx ς) => some (.pure .none, outsOf ς ss.length)
  | _ => none
def fxOf (ss : List S) (vs : List V) (G H : Hp) : Fx where
  A := fun i => match ss[i]?, vs[i]? with
    | some (.own _ _), some (.ref a) => some a
    | _, _ => none
  G0 := G
  H0 := H
theorem ent_get {n : Nat} {ss : List S} {i : Nat} {s : S} (h : (ent n ss)[i]? = some (some s)) : ss[i]? = some s := by
  unfold ent at h
  by_cases hi : i < ss.length
  · rw [List.getElem?_append_left (by simpa using hi), List.getElem?_map] at h
    cases q : ss[i]? with
    | none => rw [q] at h; cases h
    | some z => rw [q] at h; cases h; rfl
  · rw [List.getElem?_append_right (by simpa using hi), List.getElem?_replicate] at h
    split at h <;> cases h
theorem ent_of {n : Nat} {ss : List S} {i : Nat} {s : S} (h : ss[i]? = some s) : (ent n ss)[i]? = some (some s) := by
  unfold ent
  have hi := (List.getElem?_eq_some_iff.mp h).1
  rw [List.getElem?_append_left (by simpa using hi), List.getElem?_map, h]
  rfl
theorem start_of {N : List Str} {vs : List V} {i : Nat} {v : V} (h : vs[i]? = some v) : (L2.start N vs)[i]? = some (some v) := by
  unfold L2.start
  have hi := (List.getElem?_eq_some_iff.mp h).1
  rw [List.getElem?_append_left (by simpa using hi), List.getElem?_map, h]
  rfl
theorem start_get {N : List Str} {vs : List V} {i : Nat} {v : V} (h : (L2.start N vs)[i]? = some (some v)) : vs[i]? = some v := by
  unfold L2.start at h
  by_cases hi : i < vs.length
  · rw [List.getElem?_append_left (by simpa using hi), List.getElem?_map] at h
    cases q : vs[i]? with
    | none => rw [q] at h; cases h
    | some z => rw [q] at h; cases h; rfl
  · rw [List.getElem?_append_right (by simpa using hi), List.getElem?_replicate] at h
    split at h <;> cases h
theorem rel_start {K : PySem.W.Frag} {ss : List S} {vs : List V} {G H : Hp} {N : List Str} (a : ArgsOk K ss G vs H) : Rel K (fxOf ss vs G H) (ent N.length ss) G (L2.start N vs) H where
  len := by unfold ent L2.start; simp only [List.length_append, List.length_map, List.length_replicate, a.len]
  sub := a.sub
  g0 := Same.refl _
  pu := fun i d h => by
    obtain ⟨v, h1, h2⟩ := a.pu i d (ent_get h)
    exact ⟨v, start_of h1, h2⟩
  ow := fun i b ds h => by
    have hs := ent_get h
    obtain ⟨rfl, z, xs, h1, h2, h3, h4⟩ := a.ow i b ds hs
    refine ⟨z, xs, start_of h1, h2, h3, h4, fun _ => ?_, fun q => by cases q⟩
    unfold fxOf
    simp only
    rw [hs, h1]
  ap := fun i j b c ds es z h1 h2 h3 h4 => a.ap i j b c ds es z (ent_get h1) (ent_get h2) (start_get h3) (start_get h4)
  par := fun i z h => by
    unfold fxOf at h
    simp only at h
    split at h
    · rename_i b ds a' q1 q2
      obtain ⟨rfl, _⟩ := a.ow i b ds q1
      exact ⟨ds, ent_of q1⟩
    · cases h
  fr := fun z o h _ => h
  nw := fun z h => .inl h
  vx := fun i x h => by
    obtain ⟨_, v, h1, h2⟩ := a.vx i x (ent_get h)
    exact ⟨v, start_of h1, h2⟩
  od := fun i kvs h => absurd rfl ((a.vx i _ (ent_get h)).1 kvs)
  oa := fun i j kvs kws c h _ _ _ => absurd rfl ((a.vx i _ (ent_get h)).1 kvs)
theorem ret_ok {K : PySem.W.Frag} {ss : List S} {vs : List V} {G H G' H' : Hp} {ς' : En} {σ' : L2.St} {r : R} {v : V} (a : ArgsOk K ss G vs H) (rl : Rel K (fxOf ss vs G H) ς' G' σ' H') (s : Same G G') (hr : ∀ i, r ≠ .ref i) (rep : RepR K (fxOf ss vs G H) ς' G' σ' H' r v) :
    RetOk K ss G vs H r (outsOf ς' ss.length) v H' G' where
  same := s
  sub := rl.sub
  nw := rl.nw
  fr := fun z o h na => by
    refine rl.fr z o h fun i q => ?_
    unfold fxOf at q
    simp only at q
    split at q
    · rename_i b ds a' q1 q2
      cases q
      exact na i b ds q1 q2
    · cases q
  ow := fun i b ds z h1 h2 => by
    have hA : (fxOf ss vs G H).A i = some z := by
      unfold fxOf
      simp only
      rw [h1, h2]
    obtain ⟨ds', e⟩ := rl.par i z hA
    obtain ⟨z', xs, f1, f2, f3, f4, f5, _⟩ := rl.ow i true ds' e
    have := f5 rfl
    rw [hA] at this; cases this
    refine ⟨ds', xs, ?_, f2, f3, f4⟩
    have hi := (List.getElem?_eq_some_iff.mp h1).1
    unfold outsOf
    rw [List.getElem?_map, List.getElem?_take_of_lt hi, e]
    rfl
  rep := by
    cases r with
    | pure d => exact rep
    | vx x =>
      cases x with
      | exc nm d => exact rep
      | odc kvs =>
        obtain ⟨z, o, rfl, h1, h2, h3, h4, _⟩ := rep
        exact ⟨z, o, rfl, h1, h2, h3, h4⟩
    | ref i => exact absurd rfl (hr i)
    | fresh ds =>
      obtain ⟨z, xs, rfl, h1, h2, h3, h4, _⟩ := rep
      exact ⟨z, xs, rfl, h1, h2, h3, h4⟩
theorem fn_body {X : Cx} {n : Nat} {N : List Str} {g : MS} {body : List Stmt} {vs : List V} {H : Hp} {Q : VK} {E : XK} (hb : PSsd X.nox body g) (h : spF X.K n (runFn g N.length) vs H Q E) :
    ∃ t, PSs X body t ∧ t { nx := fun _ H' => Q .non H', rt := Q } (L2.start N vs) H := by
  obtain ⟨ss, G, hl, a, r, outs, e2, q⟩ := h
  refine ⟨_, (hb (fxOf ss vs G H)).nox, ?_⟩
  unfold runFn at e2
  split at e2
  · cases e2
  · rename_i r' ς' hne q2
    cases e2
    exact ⟨ent N.length ss, G, rel_start a, _, q2, fun v σ' H' G' rl s rep => q v H' G' (ret_ok a rl s (fun i z => hne i z) rep)⟩
  · rename_i ς' q2
    cases e2
    exact ⟨ent N.length ss, G, rel_start a, _, q2, fun σ' H' G' rl s => q .non H' G' (ret_ok a rl s (fun i z => by cases z) .non)⟩
  · cases e2
end Lw
namespace Lw
open PySem PySem.Spec PyProof.Rows L2
/-! ### the law's own call -/
theorem law_go {P : Program} {w : World} {K : PySem.W.Frag} {mg mb : Str → Option Value} {k : Nat} {fa a : Addr} {fd : FuncData} {x : Str} {sp : Sp} {s₁ : Shared} {vs : List Value} {ns : List Int}
    (KX : K.In s₁.heap) (hns : s₁.heap.Ns mainGlobals mg) (hb : s₁.heap.Ns builtinsNs mb) (hbb : ∀ x : Str, x ≠ "__name__" → mb x = bootBuiltins x) (hlim : s₁.heap.NoLimit) (hg : s₁.gens = #[])
    (ha : s₁.heap.get? a = some { cls := .type "list", data := .seq vs.toArray }) (hi : IntsAre vs ns) (hl : ns.length ≤ sizeLine) (hr : Room k callerA)
    (F : ∀ base : Heap, K.In base → base.Ns mainGlobals mg → FnG P w K mg base CX0 k fa fd [x] sp) (hbind : ∀ (s : Shared) (u : Value), BindsTo s fd ⟨[u], []⟩ [(x, u)])
    (hsp : ∀ H : Hp, Only H → SqL K H a (ns.map V.int) → sp [.ref a] H (fun v _ => v = .bl true) fun _ _ _ => False) :
    codeAny (model P w) callerA (.call (.ref fa) ⟨[.ref a], []⟩) (fun r s' => r = .ok (.ret (.bool true)) ∧ OldK s₁.heap s'.heap ∧ s'.os = s₁.os ∧ AllBare s'.gens) s₁ := by
  have rv := vals_ints hi
  -- from any picture of the heap that tracks the script alone
  have main : ∀ H : Hp, Only H → SqL K H a (ns.map V.int) → HOk P w H s₁.heap → (∀ b, H b ≠ none → b = a) → (H a ≠ none → K.lookup a = none) →
      codeAny (model P w) callerA (.call (.ref fa) ⟨[.ref a], []⟩) (fun r s' => r = .ok (.ret (.bool true)) ∧ OldK s₁.heap s'.heap ∧ s'.os = s₁.os ∧ AllBare s'.gens) s₁ := by
    intro H hO hS hok hA hK
    have old : ∀ {b : Addr} {o : Obj}, s₁.heap.get? b = some o → H b = none → (hidT s₁.heap H).get? b = some o := fun e n => hidT_get e n
    have dicts : ∀ {b : Addr} {o : Obj} {es : Array DictEntry} {ep : Nat}, s₁.heap.get? b = some o → o.data = .dict es ep → H b = none := by
      intro b o es ep e d
      cases q : H b with
      | none => rfl
      | some u =>
        have e' : b = a := hA b (by rw [q]; simp)
        subst e'
        rw [ha] at e
        cases e
        exact absurd (show Data.seq vs.toArray _ = Data.dict es ep from d) (by intro z; cases z)
    have spaces : ∀ {b : Addr} {m : Str → Option Value}, s₁.heap.Ns b m → (hidT s₁.heap H).Ns b m := by
      rintro b m ⟨o, es, ep, e, d, r⟩
      exact ⟨o, es, ep, old e (dicts e d), d, r⟩
    have hKb : K.In (hidT s₁.heap H) := by
      intro b o e
      refine old (KX b o e) ?_
      cases q : H b with
      | none => rfl
      | some u =>
        have e' : b = a := hA b (by rw [q]; simp)
        subst e'
        rw [hK (by rw [q]; simp)] at e
        cases e
    have hM : Mod K mg (hidT s₁.heap H) := by
      obtain ⟨mc, h1, h2⟩ := hlim
      exact ⟨hKb, spaces hns, ⟨mb, spaces hb, hbb⟩, mc, spaces h1, h2⟩
    have noF : ∀ b : Addr, b ∉ (frs ([] : List Env)) := fun b z => absurd (show b ∈ ([] : List Addr) from z) (by simp)
    have e0 : Env0 P w K mg (hidT s₁.heap H) callerA [] s₁ H := ⟨rfl, hM, fun b o e => of_hidT e, Nat.le_of_eq (hidT_size _ _), trivial, fun b z => absurd z (noF b), hok, .of_eq hg⟩
    refine codeAny_mono ((F _ hKb (spaces hns)).run callerA [] s₁ H ⟨[.ref a], []⟩ [.ref a] [.ref a] _ _ rfl hr e0 (hbind s₁ (.ref a)) (.cons rfl .nil) (hsp H hO hS)) (fun r s' h => ?_)
    cases r with
    | error e => exact False.elim h
    | ok fl =>
      cases fl with
      | next => exact False.elim h
      | brk => exact False.elim h
      | cont => exact False.elim h
      | ret u =>
        obtain ⟨v, H', os, bare, un, hok', r', q⟩ := h
        cases (show v = .bl true from q)
        cases (show u = Value.bool true from r')
        refine ⟨rfl, OldK.of_keep (fun b o e => ?_), os, bare⟩
        cases z0 : H b with
        | none => exact un.keep b o e z0 (noF b) (by simp)
        | some u =>
          rcases hO b with z | ⟨ob, xs, z⟩
          · rw [z0] at z; cases z
          · have z2 := un.frzs b ob _ z
            obtain ⟨e1, _⟩ := hok b _ z
            obtain ⟨e2, _⟩ := hok' b _ z2
            rw [e] at e1
            cases e1
            exact e2
  cases hk : K.lookup a with
  | some o =>
    have e := KX a o hk
    rw [ha] at e
    cases e
    refine main (fun _ => none) (fun _ => Or.inl rfl) (Or.inr ⟨_, vs.toArray, _, hk, rfl, rfl, rfl, ?_, by simpa using rv⟩) (fun b u z => by cases z) (fun b z => absurd rfl z) (fun z => absurd rfl z)
    rw [List.size_toArray, hi.length]
    exact hl
  | none =>
    refine main (fun b => if b = a then some (.frz { cls := .type "list", data := .seq vs.toArray } (.lst (ns.map V.int))) else none) ?_ (Or.inl (Or.inr ⟨{ cls := .type "list", data := .seq vs.toArray }, if_pos rfl⟩)) ?_ ?_ (fun _ => hk)
    · intro b
      by_cases hb : b = a
      · exact Or.inr ⟨_, _, if_pos hb⟩
      · exact Or.inl (if_neg hb)
    · intro b u z
      by_cases hb : b = a
      · have z' := (if_pos hb).symm.trans z
        cases z'
        subst hb
        exact ⟨ha, by rw [List.length_map]; exact hl, vs, _, rv, ha⟩
      · have z' := (if_neg hb).symm.trans z
        cases z'
    · intro b z
      by_cases hb : b = a
      · exact hb
      · exact absurd (if_neg hb) z
/-- what the law must be worth -/
theorem law_sp {K : PySem.W.Frag} {m : Fsem} {H : Hp} {a : Addr} {ns : List Int} (h : ∃ outs, m [.pure (.list (ns.map PyData.int))] = some (.pure (.bool true), outs)) (hS : SqL K H a (ns.map V.int)) : spF K 1 m [.ref a] H (fun v _ => v = .bl true) fun _ _ _ => False := by
  obtain ⟨outs, e⟩ := h
  refine ⟨_, H, rfl, ⟨rfl, Same.refl _, fun i d h => ?_, fun i b ds h => ?_, fun i j b c ds es z h1 _ _ _ => ?_, fun i x h => by cases i <;> cases h⟩, _, outs, e, fun v H' G' t => dp_bool t.rep⟩
  · cases i with
    | zero => cases h; exact ⟨_, rfl, .lst hS dpa_ints⟩
    | succ i => cases h
  · cases i with
    | zero => cases h
    | succ i => cases h
  · cases i with
    | zero => cases h1
    | succ i => cases h1
end Lw
namespace Lw
open PySem PySem.Spec PyProof.Rows L2
theorem tuple_mul1 (l : Addr) (items : Array Value) (n : Nat) (dd : Option Addr) (sl : Array (Option Value)) (u : Tok) :
    Meets (Builtin.«tuple.__mul__» ⟨[.ref l, .int 1 u], []⟩) (fun _ R s => s.heap.get? l = some { cls := .type "tuple", dict := dd, data := .seq items n, slots := sl } ∧ R (.ok (.ret (Value.ref l))) s) :=
  .of_wp fun prog w A R s h => by
    obtain ⟨hp, g, d, tk, os⟩ := s
    obtain ⟨hl, h⟩ := h
    have f1 := AutoSeq1.idx_int
    wp_walk using wpAny_loadPart' hl
    repeat (first
      | (refine wpAny_ite_false (decide_eq_false (by decide)) ?_; wp_walk using wpAny_loadPart' hl)
      | (refine wpAny_ite_true (decide_eq_true (by simp)) ?_; wp_walk using wpAny_loadPart' hl))
    exact ⟨_, rfl, h⟩
def rRepT1 (K : PySem.W.Frag) : R2 := fun x y H Q => ∃ l xs, x = .ref l ∧ y = .int 1 ∧ SqT K H l xs ∧ Q (.ref l) H
section
variable {X : Cx} {F : Fx} {a b c e : Expr} {es : List Expr} {fa fb fc f : M R} {ta : M Bool} {pos p p2 : Pos} {x : Str}
theorem op_repT1 : OpR X (binaryOp .Mult) (rRepT1 X.K) := by
  intro pins s σ H x y v u Q I rx ry h
  obtain ⟨l, xs, rfl, rfl, hT, q⟩ := h
  cases rx
  obtain ⟨t, rfl⟩ := ry
  obtain ⟨its, r, ⟨⟨cls, dd, data, sl⟩, ho, hc, n, hd⟩, hs⟩ := I.tuple hT
  simp only at hc hd
  subst hc hd
  exact wpAny_binaryOp_repeat_ref (T := "tuple") (U := "int") (by decide) ⟨_, ho, rfl⟩ (fun s' => typeIs_int s' 1 t) noFill_tuple_mul F.fills_int_mul F.slot_int_rmul repeat_tuple F.slot_int_index.lookup
    (call_meets F.slot_int_rmul (typeIs_int s 1 t) F.entry_int_rmul (F.args_int_rmul_2 _ _) (int_rmul_tuple 1 t l its.toArray n dd sl)
      ⟨ho, rfl, ⟨_, ho, rfl⟩, call_meets F.slot_tuple_mul ⟨_, ho, rfl⟩ F.entry_tuple_mul (F.args_tuple_mul_2 _ _) (tuple_mul1 l its.toArray n dd sl t) ⟨ho, .ref l, H, I, rfl, q⟩⟩)
def gRepT1 : D → D → Option R
  | .tuple xs, .int 1 => some (.pure (.tuple xs))
  | _, _ => none
theorem op2_repT1 : Op2 X F (rRepT1 X.K) gRepT1 := ⟨fun ς G σ H x y dx dy r Q rl hx hy e k => by
  cases dx with
  | tuple i =>
    cases dy with
    | int j =>
      by_cases q : j = 1
      · subst q
        cases e
        rcases hx with hx | ⟨_, _, _, _, ee, _⟩
        · obtain ⟨p, vs, rfl, h1, h2⟩ := dp_tuple hx
          exact ⟨p, vs, rfl, hy.int, same_seqT rl.sub h1, k _ H G rl (Same.refl _) hx⟩
        · cases ee
      · unfold gRepT1 at e
        split at e
        · rename_i h1 h2; cases h2; exact absurd rfl q
        · cases e
    | _ => cases e
  | _ => cases e⟩
def gMulA : D → D → Option R := orG (gI cMul fun i j => .int (i * j)) (orG gRepT gRepT1)
theorem d_mulA (ha : PEd X a fa) (hb : PEd X b fb) : PEd X (.BinOp a .Mult b pos) (op2 gMulA fa fb) := d_op (op_mul.or (op_repT.or op_repT1)) (fun _ => Op2.or op2_mulI (Op2.or op2_repT op2_repT1)) ha hb
def gAddA : D → D → Option R := orG (gI0 fun i j => .int (i + j)) (orG gStr (orG gCatL (orG gCatT (gIB (· + ·)))))
theorem d_addA (ha : PEd X a fa) (hb : PEd X b fb) : PEd X (.BinOp a .Add b pos) (op2 gAddA fa fb) :=
  d_op (op_add.or (op_add_str.or (op_catL.or (op_catA.or op_addB)))) (fun _ => Op2.or (op2_I0 fun _ _ _ => .int _) (Op2.or op2_str (Op2.or op2_catL (Op2.or op2_catT op2_IB)))) ha hb
def gSubA : D → D → Option R := orG (gI0 fun i j => .int (i - j)) (gIB (· - ·))
theorem d_subA (ha : PEd X a fa) (hb : PEd X b fb) : PEd X (.BinOp a .Sub b pos) (op2 gSubA fa fb) := d_op (op_sub.or op_subB) (fun _ => Op2.or op2_sub op2_IB) ha hb
def gDivA : D → D → Option R := gI cDiv fun i j => .int (i / j)
def gModA : D → D → Option R := gI (fun _ j => decide (0 < j)) fun i j => .int (i % j)
def gPowA : D → D → Option R := gI cPow fun i j => .int (i ^ j.toNat)
def gLt : D → D → Option R := gI0 fun i j => .bool (decide (i < j))
def gGt : D → D → Option R := gI0 fun i j => .bool (decide (j < i))
def gGe : D → D → Option R := gI0 fun i j => .bool (decide (j ≤ i))
theorem d_divA (ha : PEd X a fa) (hb : PEd X b fb) : PEd X (.BinOp a .FloorDiv b pos) (op2 gDivA fa fb) := d_fdiv ha hb
theorem d_modA (ha : PEd X a fa) (hb : PEd X b fb) : PEd X (.BinOp a .Mod b pos) (op2 gModA fa fb) := d_mod ha hb
theorem d_powA (ha : PEd X a fa) (hb : PEd X b fb) : PEd X (.BinOp a .Pow b pos) (op2 gPowA fa fb) := d_pow ha hb
theorem o_lt : Op2 X F (rI0 fun i j => .bl (decide (i < j))) gLt := op2_lt
theorem o_gt : Op2 X F (rI0 fun i j => .bl (decide (j < i))) gGt := op2_gt
theorem o_ge : Op2 X F (rI0 fun i j => .bl (decide (j ≤ i))) gGe := op2_ge
theorem _root_.Lw.PWd.pt (h : PWd X e ta) : PTd X e ta := fun F => (h F).pt
end
/-! ### a def by its name -/
def Fo (P : Program) (w : World) (K : PySem.W.Frag) (mg : Str → Option Value) (base : Heap) (x : Str) (ps : List Str) (m : Fsem) (k : Nat) : Prop :=
  ∃ (f : Addr) (fd : FuncData), FnG P w K mg base CX0 k f fd ps (spF K ps.length m) ∧ mg x = some (.ref f) ∧ PySem.W.keepIn K (.ref f) = true ∧ Binds K fd ps []
section
variable {X : Cx} {x : Str} {ps : List Str} {m : Fsem} {k j : Nat} {p pos : Pos} {e : Expr} {es : List Expr} {ga : M (List Ar)}
theorem Fo.call (h : Fo X.prog X.w X.K X.mg X.base x ps m j) (hgd : X.A.guards = some []) (hr : Room k X.A) (hj : j ≤ k) (hg : Gl X x) (hn : (e :: es).length = ps.length) (ha : PAd X (e :: es) ga) (hla : ∀ ς as ς', ga ς = some (as, ς') → as.length = (e :: es).length)
    (hdb : (x == ("__debug__" : Str)) = false := by decide) (he : starEach (e :: es) X.env = (false, eval e X.env) :: starEach es X.env := by rfl) (hpl : (backTo pos (starEach es X.env)).any (·.1) = false := by rfl) :
    PEd X (.Call (.Name x p) (e :: es) [] pos) (callE m ga) := by
  obtain ⟨f, fd, G, hm, hk, hb⟩ := h
  exact d_call G hgd (hr.mono hj) hg hm hk hb (pass0 (X := X)) hn ha hla hdb he hpl
end
theorem fo_none {P : Program} {w : World} {K : PySem.W.Frag} {mg : Str → Option Value} {base : Heap} {x : Str} {ps : List Str} {k : Nat} {f : Addr} {fd : FuncData} (hm : mg x = some (.ref f)) (hk : PySem.W.keepIn K (.ref f) = true) (hb : Binds K fd ps []) : Fo P w K mg base x ps (fun _ => none) k := by
  refine ⟨f, fd, ⟨fun vs H Q E h => ?_, fun A outer s H args us vs Q E _ _ _ _ _ h => ?_⟩, hm, hk, hb⟩
  · obtain ⟨_, _, _, _, _, _, e, _⟩ := h; cases e
  · obtain ⟨_, _, _, _, _, _, e, _⟩ := h; cases e
theorem FunD.mkFn {P : Program} {w : World} {K : PySem.W.Frag} {mg : Str → Option Value} {base : Heap} {k : Nat} {f : Addr} {fd : FuncData} {ps : List Str} {x : Str} {params : Arguments} {body : List Stmt} {scope : Scope} {dvs : List V} {kws : List (Str × V)} {N : List Str} {g : MS}
    (F : FunD K x x params body scope dvs kws f fd) (S : FnScope N ps scope)
    (hbody : ∀ (cdv : Value) (A : Around) (outer : List Env) (s : Shared) (H : Hp) (E : XK), A.guards = some [] → Room k (A.deeper (envOfC x scope s.heap.objs.size f cdv)) →
      PSsd (cxOf CX0 P w K mg base N x scope f cdv A outer s H E).nox body g) : FnG P w K mg base CX0 (k + 1) f fd ps (spF K ps.length (runFn g N.length)) := by
  obtain ⟨oc, od, dV, kV, doc, pm, an, cdv, ct, osl, rfl, lk, hcd, _, _⟩ := F.ex
  refine fnG_of lk hcd S (fun vs H Q E h => ?_) (fun A outer s H vs Q E hgd hr h => ?_)
  · obtain ⟨ss, G, hl, a, _⟩ := h
    rw [a.len, hl]
  · exact fn_body (hbody cdv A outer s H E hgd hr) h
theorem FunD.mkG {P : Program} {w : World} {K : PySem.W.Frag} {mg : Str → Option Value} {base : Heap} {k : Nat} {f : Addr} {fd : FuncData} {ps : List Str} {x : Str} {params : Arguments} {body : List Stmt} {scope : Scope} {dvs : List V} {kws : List (Str × V)} {N : List Str} {g : MS}
    (F : FunD K x x params body scope dvs kws f fd) (S : FnScope N ps scope)
    (hbody : ∀ (cdv : Value) (A : Around) (outer : List Env) (s : Shared) (H : Hp) (E : XK), A.guards = some [] → Room k (A.deeper (envOfC x scope s.heap.objs.size f cdv)) →
      PSsd (cxOf CX0 P w K mg base N x scope f cdv A outer s H E).nox body g) (hm : mg x = some (.ref f)) (hb : Binds K fd ps []) : Fo P w K mg base x ps (runFn g N.length) (k + 1) := ⟨f, fd, FunD.mkFn F S hbody, hm, F.kp, hb⟩
/-! ### a def that is handed a new list as its one argument -/
def finF (o : Option (R × List S)) (ς : En) : Option (R × En) := match o with
  | some (.ref _, _) => none
  | some (r, _) => some (r, ς)
  | none => none
def callF (m : Fsem) (fe : M R) : M R := bd fe fun r => match r with
  | .fresh ds => fun ς => finF (m [.own true ds]) ς
  | _ => lift none
theorem walk_GE {l : PySem.W.OpenLaw} {n k : Nat} {q : Program} {loose : List Str} {XP : (Str → Option Value) → Heap → Prop} {YP : World → Heap → Prop} {d : DefRec} {x : Str}
    (hn : l.most = some n) (hn2 : n ≤ sizeLine) (hdf : d.params.defaults = []) (hr : Room k callerA)
    (F : ∀ (w : World) (mg : Str → Option Value) (fa : Addr) (h : Heap), YP w h → h.Ns mainGlobals mg → mg d.name = some (.ref fa) →
      ∃ (K : PySem.W.Frag) (fd : FuncData) (sp : Sp), K.In h ∧ (∀ (s : Shared) (u : Value), BindsTo s fd ⟨[u], []⟩ [(x, u)]) ∧
        (∀ (H : Hp) (a : Addr) (ns : List Int), ns.length ≤ n → (∀ z ∈ ns, Builtin.Int.intBits z ≤ 1048576) → SqL K H a (ns.map V.int) → sp [.ref a] H (fun v _ => v = .bl true) fun _ _ _ => False) ∧
        ∀ base : Heap, K.In base → base.Ns mainGlobals mg → FnG l.prog w K mg base CX0 k fa fd [x] sp) :
    PySem.W.WalkO q loose XP YP l.row.toRowW d [] (fun f vs => PySem.call f vs) := by
  refine Att.attach_callB hn hdf (fun w s₀ s₁ mg mb fa o pm cd doc a vs ns G Y ho hd hcd hmg hobj hints hlen hbits hg => ?_)
  obtain ⟨K, fd, sp, KX, hb, hsp, hF⟩ := F w mg fa _ Y G.T.g hmg
  exact law_go KX G.T.g G.T.b G.T.builtins G.T.nolimit hg hobj hints (Nat.le_trans hlen hn2) hr hF hb (fun H _ hS => hsp H a ns hlen hbits hS)
end Lw
namespace Lw
open PySem PySem.Spec PyProof.Rows L2
/-! ### what a program over the state is worth -/
def wp {α : Type} (f : M α) (ς : En) (Q : α → En → Prop) : Prop := ∃ a ς', f ς = some (a, ς') ∧ Q a ς'
def wps (g : MS) (ς : En) (Q : Out → Prop) : Prop := ∃ o, g ς = some o ∧ Q o
def wpf (m : Fsem) (ss : List S) (Q : R → List S → Prop) : Prop := ∃ r o, m ss = some (r, o) ∧ Q r o
namespace Sm
section
variable {α β : Type} {ς : En} {i : Nat} {d : D} {ds : List D} {b : Bool}
theorem mono {f : M α} {Q Q' : α → En → Prop} (h : wp f ς Q) (k : ∀ a ς', Q a ς' → Q' a ς') : wp f ς Q' := by
  obtain ⟨a, ς', e, q⟩ := h; exact ⟨a, ς', e, k _ _ q⟩
theorem fmono {m : Fsem} {ss : List S} {Q Q' : R → List S → Prop} (h : wpf m ss Q) (k : ∀ r o, Q r o → Q' r o) : wpf m ss Q' := by
  obtain ⟨r, o, e, q⟩ := h; exact ⟨r, o, e, k _ _ q⟩
theorem ret {a : α} {Q : α → En → Prop} (h : Q a ς) : wp (Lw.ret a) ς Q := ⟨a, ς, rfl, h⟩
theorem bd {f : M α} {g : α → M β} {Q : β → En → Prop} (h : wp f ς fun a ς' => wp (g a) ς' Q) : wp (Lw.bd f g) ς Q := by
  obtain ⟨a, ς', e, a2, ς2, e2, q⟩ := h
  exact ⟨a2, ς2, by unfold Lw.bd; rw [e]; exact e2, q⟩
theorem cn {Q : R → En → Prop} (h : Q (.pure d) ς) : wp (Lw.cn d) ς Q := ⟨_, ς, rfl, h⟩
theorem vrP {Q : R → En → Prop} (e : ς[i]? = some (some (.pure d))) (h : Q (.pure d) ς) : wp (vr i) ς Q := ⟨_, ς, by unfold vr; rw [e], h⟩
theorem vrO {Q : R → En → Prop} (e : ς[i]? = some (some (.own b ds))) (h : Q (.ref i) ς) : wp (vr i) ς Q := ⟨_, ς, by unfold vr; rw [e], h⟩
theorem lift {o : Option α} {a : α} {Q : α → En → Prop} (e : o = some a) (h : Q a ς) : wp (Lw.lift o) ς Q := ⟨a, ς, by unfold Lw.lift; rw [e], h⟩
theorem rd {r : R} {Q : D → En → Prop} (e : rdD r ς = some d) (h : Q d ς) : wp (Lw.rd r) ς Q := ⟨d, ς, by unfold Lw.rd; rw [e], h⟩
/-- a value that is read at once -/
def nf : R → R
  | .fresh ds => .pure (.list ds)
  | .vx (.odc kvs) => .pure (.dict kvs)
  | r => r
theorem rd_nf {r : R} {ς : En} {d : D} (h : rdD r ς = some d) : rdD (nf r) ς = some d := by
  cases r with
  | vx x => cases h
  | _ => exact h
theorem sub {f : M R} {Q : R → En → Prop} (h : wp f ς fun r ς' => Q (nf r) ς') : wp (Lw.sub f) ς Q := by
  refine bd (mono h fun r ς' q => ?_)
  cases r with
  | vx x => cases x <;> exact ret q
  | _ => exact ret q
theorem op2 {g : D → D → Option R} {fa fb : M R} {Q : R → En → Prop} (h : wp fa ς fun a ς1 => wp fb ς1 fun b ς2 => ∃ x y r, rdD a ς2 = some x ∧ rdD b ς2 = some y ∧ g x y = some r ∧ Q r ς2) : wp (Lw.op2 g fa fb) ς Q := by
  refine bd (sub (mono h fun a ς1 h => bd (sub (mono h fun b ς2 h => ?_))))
  obtain ⟨x, y, r, e1, e2, e3, q⟩ := h
  exact bd (rd (rd_nf e1) (bd (rd (rd_nf e2) (lift e3 q))))
theorem cal1 {g : D → Option R} {fa : M R} {Q : R → En → Prop} (h : wp fa ς fun a ς1 => ∃ x r, rdD a ς1 = some x ∧ g x = some r ∧ Q r ς1) : wp (Lw.cal1 g fa) ς Q := by
  refine bd (sub (mono h fun a ς1 h => ?_))
  obtain ⟨x, r, e1, e3, q⟩ := h
  exact bd (rd (rd_nf e1) (lift e3 q))
theorem isE {ts : List Tn} {fa : M R} {Q : R → En → Prop} (h : wp fa ς fun a ς1 => ∃ x, rdD a ς1 = some x ∧ Q (.pure (.bool (ts.any fun t => isD t x))) ς1) : wp (Lw.isE fa ts) ς Q := by
  refine bd (sub (mono h fun a ς1 h => ?_))
  obtain ⟨x, e1, q⟩ := h
  exact bd (rd (rd_nf e1) (ret q))
theorem esc {f : M R} {Q : D → En → Prop} (h : wp f ς fun r ς1 => ∃ d ς2, toD r ς1 = some (d, ς2) ∧ Q d ς2) : wp (Lw.esc f) ς Q := by
  refine bd (mono h fun r ς1 h => ?_)
  obtain ⟨d, ς2, e, q⟩ := h
  exact ⟨d, ς2, e, q⟩
theorem tst {f : M R} {Q : Bool → En → Prop} (h : wp f ς fun r ς1 => ∃ b, rdD r ς1 = some (.bool b) ∧ Q b ς1) : wp (Lw.tst f) ς Q := by
  refine bd (sub (mono h fun a ς1 h => ?_))
  obtain ⟨x, e1, q⟩ := h
  exact bd (rd (rd_nf e1) (lift rfl q))
theorem tru {f : M R} {Q : Bool → En → Prop} (h : wp f ς fun r ς1 => ∃ d b, rdD r ς1 = some d ∧ truD d = some b ∧ Q b ς1) : wp (Lw.tru f) ς Q := by
  refine bd (sub (mono h fun a ς1 h => ?_))
  obtain ⟨x, b, e1, e2, q⟩ := h
  exact bd (rd (rd_nf e1) (lift e2 q))
theorem andT {ta tb : M Bool} {Q : Bool → En → Prop} (h : wp ta ς fun b ς1 => if b = true then wp tb ς1 Q else Q false ς1) : wp (Lw.andT ta tb) ς Q := by
  refine bd (mono h fun b ς1 h => ?_)
  cases b
  · rw [if_neg (by decide)] at h ⊢; exact ret h
  · rw [if_pos rfl] at h ⊢; exact h
theorem orT {ta tb : M Bool} {Q : Bool → En → Prop} (h : wp ta ς fun b ς1 => if b = true then Q true ς1 else wp tb ς1 Q) : wp (Lw.orT ta tb) ς Q := by
  refine bd (mono h fun b ς1 h => ?_)
  cases b
  · rw [if_neg (by decide)] at h ⊢; exact h
  · rw [if_pos rfl] at h ⊢; exact ret h
theorem notT {ta : M Bool} {Q : Bool → En → Prop} (h : wp ta ς fun b ς1 => Q (!b) ς1) : wp (Lw.notT ta) ς Q := bd (mono h fun b ς1 h => ret h)
theorem andV {fa fb : M R} {Q : R → En → Prop} (h : wp fa ς fun r ς1 => ∃ b, rdD r ς1 = some (.bool b) ∧ if b = true then wp fb ς1 Q else Q (.pure (.bool false)) ς1) : wp (Lw.andV fa fb) ς Q := by
  refine bd (sub (mono h fun a ς1 h => ?_))
  obtain ⟨b, e1, q⟩ := h
  refine bd (rd (rd_nf e1) (bd (lift rfl ?_)))
  cases b
  · rw [if_neg (by decide)] at q ⊢; exact ret q
  · rw [if_pos rfl] at q ⊢; exact q
theorem orV {fa fb : M R} {Q : R → En → Prop} (h : wp fa ς fun r ς1 => ∃ b, rdD r ς1 = some (.bool b) ∧ if b = true then Q (.pure (.bool true)) ς1 else wp fb ς1 Q) : wp (Lw.orV fa fb) ς Q := by
  refine bd (sub (mono h fun a ς1 h => ?_))
  obtain ⟨b, e1, q⟩ := h
  refine bd (rd (rd_nf e1) (bd (lift rfl ?_)))
  cases b
  · rw [if_neg (by decide)] at q ⊢; exact q
  · rw [if_pos rfl] at q ⊢; exact ret q
theorem notV {fa : M R} {Q : R → En → Prop} (h : wp fa ς fun r ς1 => ∃ b, rdD r ς1 = some (.bool b) ∧ Q (.pure (.bool !b)) ς1) : wp (Lw.notV fa) ς Q := by
  refine bd (sub (mono h fun a ς1 h => ?_))
  obtain ⟨b, e1, q⟩ := h
  exact bd (rd (rd_nf e1) (bd (lift rfl (ret q))))
theorem negV {fa : M R} {Q : R → En → Prop} (h : wp fa ς fun r ς1 => ∃ i, rdD r ς1 = some (.int i) ∧ Q (.pure (.int (-i))) ς1) : wp (Lw.negV fa) ς Q := by
  refine bd (sub (mono h fun a ς1 h => ?_))
  obtain ⟨b, e1, q⟩ := h
  exact bd (rd (rd_nf e1) (lift rfl q))
theorem ife {t : M Bool} {fa fb : M R} {Q : R → En → Prop} (h : wp t ς fun b ς1 => if b = true then wp fa ς1 Q else wp fb ς1 Q) : wp (Lw.ife t fa fb) ς Q := by
  refine bd (mono h fun b ς1 h => ?_)
  cases b
  · rw [if_neg (by decide)] at h ⊢; exact h
  · rw [if_pos rfl] at h ⊢; exact h
theorem chn {g g' : D → D → Option R} {fa fb fc : M R} {Q : R → En → Prop} (h : wp fa ς fun a ς1 => wp fb ς1 fun b ς2 => ∃ x y k, rdD a ς2 = some x ∧ rdD b ς2 = some y ∧ g x y = some (.pure (.bool k)) ∧
    if k = true then wp fc ς2 fun c ς3 => ∃ y z r, rdD b ς3 = some y ∧ rdD c ς3 = some z ∧ g' y z = some r ∧ Q r ς3 else Q (.pure (.bool false)) ς2) : wp (Lw.chn g g' fa fb fc) ς Q := by
  refine bd (sub (mono h fun a ς1 h => bd (sub (mono h fun b ς2 h => ?_))))
  obtain ⟨x, y, k, e1, e2, e3, q⟩ := h
  refine bd (rd (rd_nf e1) (bd (rd (rd_nf e2) (bd (lift e3 (bd (lift rfl ?_)))))))
  cases k
  · rw [if_neg (by decide)] at q ⊢; exact ret q
  · rw [if_pos rfl] at q ⊢
    refine bd (sub (mono q fun c ς3 h => ?_))
    obtain ⟨y, z, r, e1, e2, e3, q⟩ := h
    exact bd (rd (rd_nf e1) (bd (rd (rd_nf e2) (lift e3 q))))
theorem argN {Q : List Ar → En → Prop} (h : Q [] ς) : wp Lw.argN ς Q := ret h
theorem argV {f : M R} {g : M (List Ar)} {Q : List Ar → En → Prop} (h : wp f ς fun r ς1 => ∃ d ς2, toD r ς1 = some (d, ς2) ∧ wp g ς2 fun as ς3 => Q (.val d :: as) ς3) : wp (Lw.argV f g) ς Q :=
  bd (esc (mono h fun r ς1 ⟨d, ς2, e, q⟩ => ⟨d, ς2, e, bd (mono q fun as ς3 q => ret q)⟩))
theorem argR {f : M R} {g : M (List Ar)} {Q : List Ar → En → Prop} (h : wp f ς fun r ς1 => ∃ i, r = .ref i ∧ wp g ς1 fun as ς3 => Q (.ref i :: as) ς3) : wp (Lw.argR f g) ς Q := by
  refine bd (mono h fun r ς1 h => ?_)
  obtain ⟨i, rfl, q⟩ := h
  exact bd (mono q fun as ς3 q => ret q)
theorem tupE {g : M (List Ar)} {Q : R → En → Prop} (h : wp g ς fun as ς1 => ∃ ds, vals as = some ds ∧ ds.length ≤ sizeLine ∧ Q (.pure (.tuple ds)) ς1) : wp (Lw.tupE g) ς Q := by
  refine bd (mono h fun as ς1 h => ?_)
  obtain ⟨ds, e, hs, q⟩ := h
  refine bd (lift e ?_)
  rw [if_pos (show small ds.length = true from decide_eq_true hs)]
  exact ret q
theorem lstE {g : M (List Ar)} {Q : R → En → Prop} (h : wp g ς fun as ς1 => ∃ ds, vals as = some ds ∧ ds.length ≤ sizeLine ∧ Q (.fresh ds) ς1) : wp (Lw.lstE g) ς Q := by
  refine bd (mono h fun as ς1 h => ?_)
  obtain ⟨ds, e, hs, q⟩ := h
  refine bd (lift e ?_)
  rw [if_pos (show small ds.length = true from decide_eq_true hs)]
  exact ret q
theorem callE {m : Fsem} {g : M (List Ar)} {Q : R → En → Prop} (h : wp g ς fun as ς1 => ∃ ss, argS as ς1 = some ss ∧ (refsOf as).Nodup ∧ wpf m ss fun r outs => (∀ i, r ≠ .ref i) ∧ Q r (putBack as outs ς1)) : wp (Lw.callE m g) ς Q := by
  refine bd (mono h fun as ς1 h => ?_)
  obtain ⟨ss, e, nd, r, outs, e2, hr, q⟩ := h
  refine ⟨r, putBack as outs ς1, ?_, q⟩
  simp only [e, e2]
  cases r with
  | ref i => exact absurd rfl (hr i)
  | pure d => exact if_pos nd
  | vx x => exact if_pos nd
  | fresh ds => exact if_pos nd
theorem callF {m : Fsem} {fe : M R} {Q : R → En → Prop} (h : wp fe ς fun r ς1 => ∃ ds, r = .fresh ds ∧ wpf m [.own true ds] fun r outs => (∀ i, r ≠ .ref i) ∧ Q r ς1) : wp (Lw.callF m fe) ς Q := by
  refine bd (mono h fun r ς1 h => ?_)
  obtain ⟨ds, rfl, r, outs, e2, hr, q⟩ := h
  refine ⟨r, ς1, ?_, q⟩
  show finF (m [.own true ds]) ς1 = _
  rw [e2]
  cases r with
  | ref i => exact absurd rfl (hr i)
  | pure d => rfl
  | vx x => rfl
  | fresh ds => rfl
theorem ptN {Q : Option Int → En → Prop} (h : Q none ς) : wp Lw.ptN ς Q := ret h
theorem ptS {f : M R} {Q : Option Int → En → Prop} (h : wp f ς fun r ς1 => ∃ i, rdD r ς1 = some (.int i) ∧ Q (some i) ς1) : wp (Lw.ptS f) ς Q := by
  refine bd (sub (mono h fun a ς1 h => ?_))
  obtain ⟨b, e1, q⟩ := h
  exact bd (rd (rd_nf e1) (lift rfl q))
theorem slE {fa : M R} {fl fh : M (Option Int)} {Q : R → En → Prop} (h : wp fa ς fun a ς1 => wp fl ς1 fun l ς2 => wp fh ς2 fun u ς3 => ∃ x r, rdD a ς3 = some x ∧ gSl x l u = some r ∧ Q r ς3) : wp (Lw.slE fa fl fh) ς Q := by
  refine bd (sub (mono h fun a ς1 h => bd (mono h fun l ς2 h => bd (mono h fun u ς3 h => ?_))))
  obtain ⟨x, r, e1, e2, q⟩ := h
  exact bd (rd (rd_nf e1) (lift e2 q))
theorem revE {fa : M R} {Q : R → En → Prop} (h : wp fa ς fun a ς1 => ∃ ds, rdD a ς1 = some (.list ds) ∧ Q (.fresh ds.reverse) ς1) : wp (Lw.revE fa) ς Q := by
  refine bd (sub (mono h fun a ς1 h => ?_))
  obtain ⟨ds, e1, q⟩ := h
  exact bd (rd (rd_nf e1) (lift rfl q))
theorem mth {hh : List D → List D → Option (D × List D)} {fo : M R} {ga : M (List Ar)} {Q : R → En → Prop} (h : wp fo ς fun r ς1 => ∃ i b ds, r = .ref i ∧ ς1[i]? = some (some (.own b ds)) ∧ wp ga ς1 fun as ς2 => ∃ ws b ds d ds', vals as = some ws ∧ ς2[i]? = some (some (.own b ds)) ∧ hh ds ws = some (d, ds') ∧ Q (.pure d) (ς2.set i (some (.own b ds')))) : wp (Lw.mth hh fo ga) ς Q := by
  refine bd (mono h fun r ς1 h => ?_)
  obtain ⟨i, b, ds, rfl, e, h⟩ := h
  refine bd ⟨(), ς1, by unfold isOwn; rw [e], bd (mono h fun as ς2 h => ?_)⟩
  obtain ⟨ws, b, ds, d, ds', e1, e2, e3, q⟩ := h
  refine bd (lift e1 ⟨_, _, ?_, q⟩)
  simp only [e2, e3]
/-- iterables -/
theorem itS {f : M R} {Q : List D → En → Prop} (h : wp f ς fun r ς1 => ∃ d ς2 ds, toD r ς1 = some (d, ς2) ∧ items d = some ds ∧ Q ds ς2) : wp (Lw.itS f) ς Q :=
  bd (esc (mono h fun r ς1 ⟨d, ς2, ds, e, e2, q⟩ => ⟨d, ς2, e, lift e2 q⟩))
theorem itR1 {f : M R} {Q : List D → En → Prop} (h : wp f ς fun r ς1 => ∃ n, rdD r ς1 = some (.int n) ∧ inR n = true ∧ Q (rngD 0 n.toNat) ς1) : wp (Lw.itR1 f) ς Q := by
  refine bd (sub (mono h fun a ς1 h => ?_))
  obtain ⟨n, e1, e2, q⟩ := h
  refine bd (rd (rd_nf e1) ?_)
  show wp (if inR n = true then Lw.ret (rngD 0 n.toNat) else Lw.lift none) ς1 Q
  rw [if_pos e2]
  exact ret q
theorem itR2 {fa fb : M R} {Q : List D → En → Prop} (h : wp fa ς fun r ς1 => wp fb ς1 fun r2 ς2 => ∃ m n, rdD r ς2 = some (.int m) ∧ rdD r2 ς2 = some (.int n) ∧ inR m = true ∧ inR n = true ∧ Q (rngD m (n - m).toNat) ς2) : wp (Lw.itR2 fa fb) ς Q := by
  refine bd (sub (mono h fun a ς1 h => bd (sub (mono h fun b ς2 h => ?_))))
  obtain ⟨m, n, e1, e2, h1, h2, q⟩ := h
  refine bd (rd (rd_nf e1) (bd (rd (rd_nf e2) ?_)))
  show wp (if inR m = true ∧ inR n = true then Lw.ret (rngD m (n - m).toNat) else Lw.lift none) ς2 Q
  rw [if_pos ⟨h1, h2⟩]
  exact ret q
theorem itE {f : M R} {Q : List D → En → Prop} (h : wp f ς fun r ς1 => ∃ ds ς2, toD r ς1 = some (.list ds, ς2) ∧ Q (enumD 0 ds) ς2) : wp (Lw.itE f) ς Q :=
  bd (esc (mono h fun r ς1 ⟨ds, ς2, e, q⟩ => ⟨_, ς2, e, ret q⟩))
theorem itZ {fa fb : M R} {Q : List D → En → Prop} (h : wp fa ς fun r ς1 => ∃ d ς2, toD r ς1 = some (d, ς2) ∧ wp fb ς2 fun r2 ς3 => ∃ d2 ς4 xs ys, toD r2 ς3 = some (d2, ς4) ∧ ((d = .list xs ∧ d2 = .list ys) ∨ (d = .tuple xs ∧ d2 = .tuple ys)) ∧ Q (zipD xs ys) ς4) : wp (Lw.itZ fa fb) ς Q := by
  refine bd (esc (mono h fun r ς1 h => ?_))
  obtain ⟨d, ς2, e, h⟩ := h
  refine ⟨d, ς2, e, bd (esc (mono h fun r2 ς3 h => ?_))⟩
  obtain ⟨d2, ς4, xs, ys, e2, h, q⟩ := h
  refine ⟨d2, ς4, e2, ?_⟩
  rcases h with ⟨rfl, rfl⟩ | ⟨rfl, rfl⟩ <;> exact ret q
/-- comprehensions -/
theorem lcE {fi : M (List D)} {vs : List Nat} {tg : Tg} {tt : M Bool} {fe : M R} {Q : R → En → Prop}
    (h : wp fi ς fun ds ς1 => freeAll ς1 vs = true ∧ ∃ acc ς2, lcLoop vs tg tt fe ds [] (wipeE ς1 vs) = some (acc, ς2) ∧ Q (.fresh acc) ς2) : wp (Lw.lcE fi vs tg tt fe) ς Q := by
  obtain ⟨ds, ς1, e, hf, acc, ς2, e2, q⟩ := h
  refine ⟨_, ς2, ?_, q⟩
  unfold Lw.lcE
  simp only [e, e2]
  rw [if_pos hf]
theorem lcInv {vs : List Nat} {tg : Tg} {fe : M R} {ds : List D} {Q : List D → En → Prop} (I : Nat → List D → En → Prop) (h0 : I 0 [] ς) (hlen : ds.length ≤ sizeLine)
    (hs : ∀ (i : Nat) d acc ς, ds[i]? = some d → acc.length = i → I i acc ς → ∃ ς1, tg d ς = some ς1 ∧ wp fe ς1 fun r ς2 => ∃ y ς3, toD r ς2 = some (y, ς3) ∧ freeAll ς3 vs = true ∧ I (i + 1) (acc ++ [y]) (wipeE ς3 vs))
    (hd : ∀ acc ς, acc.length = ds.length → I ds.length acc ς → Q acc ς) : ∃ acc ς2, lcLoop vs tg (Lw.ret true) fe ds [] ς = some (acc, ς2) ∧ Q acc ς2 := by
  have main : ∀ (n i : Nat) (acc : List D) (ς : En), n = ds.length - i → i ≤ ds.length → acc.length = i → I i acc ς → ∃ acc' ς2, lcLoop vs tg (Lw.ret true) fe (ds.drop i) acc ς = some (acc', ς2) ∧ Q acc' ς2 := by
    intro n
    induction n with
    | zero =>
      intro i acc ς hn hi ha hI
      have : i = ds.length := by omega
      subst this
      rw [List.drop_length]
      exact ⟨acc, ς, rfl, hd acc ς ha hI⟩
    | succ n ih =>
      intro i acc ς hn hi ha hI
      have hlt : i < ds.length := by omega
      rw [List.drop_eq_getElem_cons hlt]
      obtain ⟨ς1, e1, r, ς2, e2, y, ς3, e3, hf, hI'⟩ := hs i _ acc ς (List.getElem?_eq_getElem hlt) ha hI
      obtain ⟨acc', ς4, e4, q⟩ := ih (i + 1) (acc ++ [y]) (wipeE ς3 vs) (by omega) hlt (by simp [ha]) hI'
      refine ⟨acc', ς4, ?_, q⟩
      rw [lcLoop]
      have ee : Lw.esc fe ς1 = some (y, ς3) := by unfold Lw.esc Lw.bd; rw [e2]; exact e3
      simp only [e1, Lw.ret, ee]
      rw [if_pos ⟨hf, by omega⟩]
      exact e4
  have := main ds.length 0 [] ς (by omega) (by omega) rfl h0
  rw [List.drop_zero] at this
  exact this
end
section
variable {ς : En} {Q : Out → Prop} {g g1 g2 : MS} {f : M R}
theorem skip (h : Q (.nx ς)) : wps Lw.skip ς Q := ⟨_, rfl, h⟩
def andThen (g : MS) (Q : Out → Prop) : Out → Prop
  | .nx ς => wps g ς Q
  | o => Q o
theorem sq (h : wps g1 ς (andThen g2 Q)) : wps (Lw.sq g1 g2) ς Q := by
  obtain ⟨o, e, q⟩ := h
  cases o with
  | nx ς1 => obtain ⟨o2, e2, q2⟩ := q; exact ⟨o2, by unfold Lw.sq; rw [e]; exact e2, q2⟩
  | rt r ς1 => exact ⟨_, by unfold Lw.sq; rw [e], q⟩
  | bk ς1 => exact ⟨_, by unfold Lw.sq; rw [e], q⟩
  | ct ς1 => exact ⟨_, by unfold Lw.sq; rw [e], q⟩
theorem asg {tg : Tg} (h : wp f ς fun r ς1 => ∃ d ς2 ς3, toD r ς1 = some (d, ς2) ∧ tg d ς2 = some ς3 ∧ Q (.nx ς3)) : wps (Lw.asg f tg) ς Q := by
  obtain ⟨r, ς1, e, d, ς2, ς3, e2, e3, q⟩ := h
  refine ⟨.nx ς3, ?_, q⟩
  have ee : Lw.esc f ς = some (d, ς2) := by unfold Lw.esc Lw.bd; rw [e]; exact e2
  unfold Lw.asg
  simp only [ee, e3]
theorem asgO {i : Nat} (h : wp f ς fun r ς1 => ∃ ds, r = .fresh ds ∧ free ς1 i = true ∧ Q (.nx (ς1.set i (some (.own false ds))))) : wps (Lw.asgO i f) ς Q := by
  obtain ⟨r, ς1, e, ds, rfl, hf, q⟩ := h
  exact ⟨_, by unfold Lw.asgO; rw [e]; exact if_pos hf, q⟩
theorem exS (h : wp f ς fun _ ς1 => Q (.nx ς1)) : wps (Lw.exS f) ς Q := by
  obtain ⟨r, ς1, e, q⟩ := h
  exact ⟨_, by unfold Lw.exS; rw [e], q⟩
/-- what is handed back -/
def outR (Q : Out → Prop) : R → En → Prop
  | .pure d, ς => Q (.rt (.pure d) ς)
  | .fresh ds, ς => Q (.rt (.fresh ds) ς)
  | .vx x, ς => Q (.rt (.vx x) ς)
  | .ref i, ς => (∃ ds, ς[i]? = some (some (.own false ds)) ∧ Q (.rt (.fresh ds) (ς.set i none))) ∨ (∃ d, ς[i]? = some (some (.pure d)) ∧ Q (.rt (.pure d) ς)) ∨
      ∃ kvs, ς[i]? = some (some (.vx (.odc kvs))) ∧ Q (.rt (.vx (.odc kvs)) (ς.set i none))
theorem retS (h : wp f ς (outR Q)) : wps (Lw.retS f) ς Q := by
  obtain ⟨r, ς1, e, q⟩ := h
  unfold wps Lw.retS
  rw [e]
  cases r with
  | pure d => exact ⟨_, rfl, q⟩
  | fresh ds => exact ⟨_, rfl, q⟩
  | ref i =>
    rcases q with ⟨ds, e2, q⟩ | ⟨d, e2, q⟩ | ⟨d, e2, q⟩
    · exact ⟨_, by simp only [e2], q⟩
    · exact ⟨_, by simp only [e2], q⟩
    · exact ⟨_, by simp only [e2], q⟩
  | vx x => exact ⟨_, rfl, q⟩
theorem ifS {t : M Bool} (h : wp t ς fun b ς1 => if b = true then wps g1 ς1 Q else wps g2 ς1 Q) : wps (Lw.ifS t g1 g2) ς Q := by
  obtain ⟨b, ς1, e, q⟩ := h
  unfold wps Lw.ifS
  rw [e]
  cases b
  · rw [if_neg (by decide)] at q; exact q
  · rw [if_pos rfl] at q; exact q
theorem forS {fi : M (List D)} {tg : Tg} (h : wp fi ς fun ds ς1 => wps (loop tg g ds) ς1 Q) : wps (Lw.forS fi tg g) ς Q := by
  obtain ⟨ds, ς1, e, o, e2, q⟩ := h
  exact ⟨o, by unfold Lw.forS; rw [e]; exact e2, q⟩
theorem loopInv {tg : Tg} {ds : List D} (I : Nat → En → Prop) (h0 : I 0 ς)
    (hs : ∀ (i : Nat) d ς, ds[i]? = some d → I i ς → ∃ ς1, tg d ς = some ς1 ∧ wps g ς1 fun o => match o with | .nx ς2 => I (i + 1) ς2 | .ct ς2 => I (i + 1) ς2 | .bk ς2 => Q (.nx ς2) | .rt r ς2 => Q (.rt r ς2))
    (hd : ∀ ς, I ds.length ς → Q (.nx ς)) : wps (loop tg g ds) ς Q := by
  have main : ∀ (n i : Nat) (ς : En), n = ds.length - i → i ≤ ds.length → I i ς → wps (loop tg g (ds.drop i)) ς Q := by
    intro n
    induction n with
    | zero =>
      intro i ς hn hi hI
      have : i = ds.length := by omega
      subst this
      rw [List.drop_length]
      exact ⟨_, rfl, hd ς hI⟩
    | succ n ih =>
      intro i ς hn hi hI
      have hlt : i < ds.length := by omega
      rw [List.drop_eq_getElem_cons hlt]
      obtain ⟨ς1, e1, o, e2, q⟩ := hs i _ ς (List.getElem?_eq_getElem hlt) hI
      unfold wps
      rw [loop]
      simp only [e1, e2]
      cases o with
      | nx ς2 => exact ih (i + 1) ς2 (by omega) hlt q
      | ct ς2 => exact ih (i + 1) ς2 (by omega) hlt q
      | bk ς2 => exact ⟨_, rfl, q⟩
      | rt r ς2 => exact ⟨_, rfl, q⟩
  have := main ds.length 0 ς (by omega) (by omega) h0
  rw [List.drop_zero] at this
  exact this
theorem par2 {i j : Nat} {o1 o2 : Bool} {fa fb : M R} (h : wp (pv' o1 fa) ς fun x ς1 => wp (pv' o2 fb) ς1 fun y ς2 => ∃ s t, put i x = some s ∧ put j y = some t ∧ (free ς2 i = true ∧ free (ς2.set i s) j = true ∧ i ≠ j) ∧ Q (.nx ((ς2.set i s).set j t))) : wps (Lw.par2 i j o1 o2 fa fb) ς Q := by
  obtain ⟨x, ς1, e1, y, ς2, e2, s, t, p1, p2, hf, q⟩ := h
  refine ⟨_, ?_, q⟩
  unfold Lw.par2
  have : Lw.bd (pv' o1 fa) (fun x => Lw.bd (pv' o2 fb) fun y => Lw.ret (x, y)) ς = some ((x, y), ς2) := by
    unfold Lw.bd
    rw [e1]
    simp only [e2, Lw.ret]
  rw [this]
  simp only [p1, p2]
  rw [if_pos hf]
theorem pvF {f : M R} {Q : R → En → Prop} (h : wp f ς fun r ς1 => ∃ d ς2, toD r ς1 = some (d, ς2) ∧ Q (.pure d) ς2) : wp (pv' false f) ς Q := by
  show wp (Lw.bd (Lw.esc f) fun d => Lw.ret (.pure d)) ς Q
  exact bd (esc (mono h fun r ς1 ⟨d, ς2, e, q⟩ => ⟨d, ς2, e, ret q⟩))
theorem pvT {f : M R} {Q : R → En → Prop} (h : wp f ς Q) : wp (pv' true f) ς Q := h
theorem par3 {i j l : Nat} {fa fb fc : M R} (h : wp fa ς fun a ς1 => ∃ x ς1', toD a ς1 = some (x, ς1') ∧ wp fb ς1' fun b ς2 => ∃ y ς2', toD b ς2 = some (y, ς2') ∧ wp fc ς2' fun c ς3 => ∃ z ς3', toD c ς3 = some (z, ς3') ∧
    (free ς3' i = true ∧ free (ς3'.set i (some (.pure x))) j = true ∧ free ((ς3'.set i (some (.pure x))).set j (some (.pure y))) l = true) ∧ Q (.nx (((ς3'.set i (some (.pure x))).set j (some (.pure y))).set l (some (.pure z))))) : wps (Lw.par3 i j l fa fb fc) ς Q := by
  obtain ⟨a, ς1, e1, x, ς1', t1, b, ς2, e2, y, ς2', t2, c, ς3, e3, z, ς3', t3, hf, q⟩ := h
  refine ⟨_, ?_, q⟩
  unfold Lw.par3
  have h1 : Lw.esc fa ς = some (x, ς1') := by unfold Lw.esc Lw.bd; rw [e1]; exact t1
  have h2 : Lw.esc fb ς1' = some (y, ς2') := by unfold Lw.esc Lw.bd; rw [e2]; exact t2
  have h3 : Lw.esc fc ς2' = some (z, ς3') := by unfold Lw.esc Lw.bd; rw [e3]; exact t3
  have : Lw.bd (Lw.esc fa) (fun x => Lw.bd (Lw.esc fb) fun y => Lw.bd (Lw.esc fc) fun z => Lw.ret (x, y, z)) ς = some ((x, y, z), ς3') := by
    unfold Lw.bd
    rw [h1]
    simp only [h2, h3, Lw.ret]
  rw [this]
  simp only
  rw [if_pos hf]
/-- a def by its body -/
def outF (n : Nat) (Q : R → List S → Prop) : Out → Prop
  | .rt r ς => (∀ i, r ≠ .ref i) ∧ Q r (outsOf ς n)
  | .nx ς => Q (.pure .none) (outsOf ς n)
  | _ => False
theorem run {n : Nat} {ss : List S} {Q : R → List S → Prop} (h : wps g (ent n ss) (outF ss.length Q)) : wpf (runFn g n) ss Q := by
  obtain ⟨o, e, q⟩ := h
  unfold wpf runFn
  rw [e]
  cases o with
  | nx ς => exact ⟨_, _, rfl, q⟩
  | rt r ς =>
    cases r with
    | ref i => exact absurd rfl (q.1 i)
    | pure d => exact ⟨_, _, rfl, q.2⟩
    | vx x => exact ⟨_, _, rfl, q.2⟩
    | fresh ds => exact ⟨_, _, rfl, q.2⟩
  | bk ς => exact q.elim
  | ct ς => exact q.elim
theorem at_nx (h : wps g ς Q) : andThen g Q (.nx ς) := h
theorem at_rt {r : R} (h : Q (.rt r ς)) : andThen g Q (.rt r ς) := h
theorem oP {d : D} (h : Q (.rt (.pure d) ς)) : outR Q (.pure d) ς := h
theorem oF {ds : List D} (h : Q (.rt (.fresh ds) ς)) : outR Q (.fresh ds) ς := h
theorem oM {i : Nat} {ds : List D} (e : ς[i]? = some (some (.own false ds))) (h : Q (.rt (.fresh ds) (ς.set i none))) : outR Q (.ref i) ς := .inl ⟨ds, e, h⟩
theorem fP {n : Nat} {d : D} {Q : R → List S → Prop} (h : Q (.pure d) (outsOf ς n)) : outF n Q (.rt (.pure d) ς) := ⟨(fun i z => by cases z), h⟩
theorem fF {n : Nat} {ds : List D} {Q : R → List S → Prop} (h : Q (.fresh ds) (outsOf ς n)) : outF n Q (.rt (.fresh ds) ς) := ⟨(fun i z => by cases z), h⟩
end
end Sm
class Stp (G : Prop) (P : outParam Prop) : Prop where
  go : P → G
class Evl (e : Option R) (r : outParam R) : Prop where
  ev : e = some r
class Gd (G : Prop) : Prop where
  keep : G → G
class Gd5 (G : Prop) : Prop where
  keep : G → G
instance {a b : D} {x : Option R} : Gd (gMulA a b = x) := ⟨id⟩
instance {a b : D} {x : Option R} : Gd (gDivA a b = x) := ⟨id⟩
instance {a b : D} {x : Option R} : Gd (gDm a b = x) := ⟨id⟩
instance {i : Int} {b : Bool} : Gd (inR i = b) := ⟨id⟩
namespace Sm
section
variable {α β : Type} {ς : En} {i : Nat} {d : D} {ds : List D} {b : Bool}
instance stp_ret {a : α} {Q : α → En → Prop} : Stp (wp (Lw.ret a) ς Q) (Q a ς) := ⟨Sm.ret⟩
instance stp_cn {Q : R → En → Prop} : Stp (wp (Lw.cn d) ς Q) (Q (.pure d) ς) := ⟨Sm.cn⟩
instance stp_op2 {g : D → D → Option R} {fa fb : M R} {Q : R → En → Prop} : Stp (wp (Lw.op2 g fa fb) ς Q) (wp fa ς fun a ς1 => wp fb ς1 fun b ς2 => ∃ x y r, rdD a ς2 = some x ∧ rdD b ς2 = some y ∧ g x y = some r ∧ Q r ς2) := ⟨Sm.op2⟩
instance stp_cal1 {g : D → Option R} {fa : M R} {Q : R → En → Prop} : Stp (wp (Lw.cal1 g fa) ς Q) (wp fa ς fun a ς1 => ∃ x r, rdD a ς1 = some x ∧ g x = some r ∧ Q r ς1) := ⟨Sm.cal1⟩
instance stp_isE {ts : List Tn} {fa : M R} {Q : R → En → Prop} : Stp (wp (Lw.isE fa ts) ς Q) (wp fa ς fun a ς1 => ∃ x, rdD a ς1 = some x ∧ Q (.pure (.bool (ts.any fun t => isD t x))) ς1) := ⟨Sm.isE⟩
instance stp_esc {f : M R} {Q : D → En → Prop} : Stp (wp (Lw.esc f) ς Q) (wp f ς fun r ς1 => ∃ d ς2, toD r ς1 = some (d, ς2) ∧ Q d ς2) := ⟨Sm.esc⟩
instance stp_tst {f : M R} {Q : Bool → En → Prop} : Stp (wp (Lw.tst f) ς Q) (wp f ς fun r ς1 => ∃ b, rdD r ς1 = some (.bool b) ∧ Q b ς1) := ⟨Sm.tst⟩
instance stp_tru {f : M R} {Q : Bool → En → Prop} : Stp (wp (Lw.tru f) ς Q) (wp f ς fun r ς1 => ∃ d b, rdD r ς1 = some d ∧ truD d = some b ∧ Q b ς1) := ⟨Sm.tru⟩
instance stp_andT {ta tb : M Bool} {Q : Bool → En → Prop} : Stp (wp (Lw.andT ta tb) ς Q) (wp ta ς fun b ς1 => if b = true then wp tb ς1 Q else Q false ς1) := ⟨Sm.andT⟩
instance stp_orT {ta tb : M Bool} {Q : Bool → En → Prop} : Stp (wp (Lw.orT ta tb) ς Q) (wp ta ς fun b ς1 => if b = true then Q true ς1 else wp tb ς1 Q) := ⟨Sm.orT⟩
instance stp_notT {ta : M Bool} {Q : Bool → En → Prop} : Stp (wp (Lw.notT ta) ς Q) (wp ta ς fun b ς1 => Q (!b) ς1) := ⟨Sm.notT⟩
instance stp_andV {fa fb : M R} {Q : R → En → Prop} : Stp (wp (Lw.andV fa fb) ς Q) (wp fa ς fun r ς1 => ∃ b, rdD r ς1 = some (.bool b) ∧ if b = true then wp fb ς1 Q else Q (.pure (.bool false)) ς1) := ⟨Sm.andV⟩
instance stp_orV {fa fb : M R} {Q : R → En → Prop} : Stp (wp (Lw.orV fa fb) ς Q) (wp fa ς fun r ς1 => ∃ b, rdD r ς1 = some (.bool b) ∧ if b = true then Q (.pure (.bool true)) ς1 else wp fb ς1 Q) := ⟨Sm.orV⟩
instance stp_notV {fa : M R} {Q : R → En → Prop} : Stp (wp (Lw.notV fa) ς Q) (wp fa ς fun r ς1 => ∃ b, rdD r ς1 = some (.bool b) ∧ Q (.pure (.bool !b)) ς1) := ⟨Sm.notV⟩
instance stp_negV {fa : M R} {Q : R → En → Prop} : Stp (wp (Lw.negV fa) ς Q) (wp fa ς fun r ς1 => ∃ i, rdD r ς1 = some (.int i) ∧ Q (.pure (.int (-i))) ς1) := ⟨Sm.negV⟩
instance stp_ife {t : M Bool} {fa fb : M R} {Q : R → En → Prop} : Stp (wp (Lw.ife t fa fb) ς Q) (wp t ς fun b ς1 => if b = true then wp fa ς1 Q else wp fb ς1 Q) := ⟨Sm.ife⟩
instance stp_chn {g g' : D → D → Option R} {fa fb fc : M R} {Q : R → En → Prop} : Stp (wp (Lw.chn g g' fa fb fc) ς Q) (wp fa ς fun a ς1 => wp fb ς1 fun b ς2 => ∃ x y k, rdD a ς2 = some x ∧ rdD b ς2 = some y ∧ g x y = some (.pure (.bool k)) ∧     if k = true then wp fc ς2 fun c ς3 => ∃ y z r, rdD b ς3 = some y ∧ rdD c ς3 = some z ∧ g' y z = some r ∧ Q r ς3 else Q (.pure (.bool false)) ς2) := ⟨Sm.chn⟩
instance stp_argN {Q : List Ar → En → Prop} : Stp (wp Lw.argN ς Q) (Q [] ς) := ⟨Sm.argN⟩
instance stp_argV {f : M R} {g : M (List Ar)} {Q : List Ar → En → Prop} : Stp (wp (Lw.argV f g) ς Q) (wp f ς fun r ς1 => ∃ d ς2, toD r ς1 = some (d, ς2) ∧ wp g ς2 fun as ς3 => Q (.val d :: as) ς3) := ⟨Sm.argV⟩
instance stp_argR {f : M R} {g : M (List Ar)} {Q : List Ar → En → Prop} : Stp (wp (Lw.argR f g) ς Q) (wp f ς fun r ς1 => ∃ i, r = .ref i ∧ wp g ς1 fun as ς3 => Q (.ref i :: as) ς3) := ⟨Sm.argR⟩
instance stp_tupE {g : M (List Ar)} {Q : R → En → Prop} : Stp (wp (Lw.tupE g) ς Q) (wp g ς fun as ς1 => ∃ ds, vals as = some ds ∧ ds.length ≤ sizeLine ∧ Q (.pure (.tuple ds)) ς1) := ⟨Sm.tupE⟩
instance stp_lstE {g : M (List Ar)} {Q : R → En → Prop} : Stp (wp (Lw.lstE g) ς Q) (wp g ς fun as ς1 => ∃ ds, vals as = some ds ∧ ds.length ≤ sizeLine ∧ Q (.fresh ds) ς1) := ⟨Sm.lstE⟩
instance stp_callE {m : Fsem} {g : M (List Ar)} {Q : R → En → Prop} : Stp (wp (Lw.callE m g) ς Q) (wp g ς fun as ς1 => ∃ ss, argS as ς1 = some ss ∧ (refsOf as).Nodup ∧ wpf m ss fun r outs => (∀ i, r ≠ .ref i) ∧ Q r (putBack as outs ς1)) := ⟨Sm.callE⟩
instance stp_callF {m : Fsem} {fe : M R} {Q : R → En → Prop} : Stp (wp (Lw.callF m fe) ς Q) (wp fe ς fun r ς1 => ∃ ds, r = .fresh ds ∧ wpf m [.own true ds] fun r outs => (∀ i, r ≠ .ref i) ∧ Q r ς1) := ⟨Sm.callF⟩
instance stp_ptN {Q : Option Int → En → Prop} : Stp (wp Lw.ptN ς Q) (Q none ς) := ⟨Sm.ptN⟩
instance stp_ptS {f : M R} {Q : Option Int → En → Prop} : Stp (wp (Lw.ptS f) ς Q) (wp f ς fun r ς1 => ∃ i, rdD r ς1 = some (.int i) ∧ Q (some i) ς1) := ⟨Sm.ptS⟩
instance stp_slE {fa : M R} {fl fh : M (Option Int)} {Q : R → En → Prop} : Stp (wp (Lw.slE fa fl fh) ς Q) (wp fa ς fun a ς1 => wp fl ς1 fun l ς2 => wp fh ς2 fun u ς3 => ∃ x r, rdD a ς3 = some x ∧ gSl x l u = some r ∧ Q r ς3) := ⟨Sm.slE⟩
instance stp_revE {fa : M R} {Q : R → En → Prop} : Stp (wp (Lw.revE fa) ς Q) (wp fa ς fun a ς1 => ∃ ds, rdD a ς1 = some (.list ds) ∧ Q (.fresh ds.reverse) ς1) := ⟨Sm.revE⟩
instance stp_mth {hh : List D → List D → Option (D × List D)} {fo : M R} {ga : M (List Ar)} {Q : R → En → Prop} : Stp (wp (Lw.mth hh fo ga) ς Q) (wp fo ς fun r ς1 => ∃ i b ds, r = .ref i ∧ ς1[i]? = some (some (.own b ds)) ∧ wp ga ς1 fun as ς2 => ∃ ws b ds d ds', vals as = some ws ∧ ς2[i]? = some (some (.own b ds)) ∧ hh ds ws = some (d, ds') ∧ Q (.pure d) (ς2.set i (some (.own b ds')))) := ⟨Sm.mth⟩
instance stp_itS {f : M R} {Q : List D → En → Prop} : Stp (wp (Lw.itS f) ς Q) (wp f ς fun r ς1 => ∃ d ς2 ds, toD r ς1 = some (d, ς2) ∧ items d = some ds ∧ Q ds ς2) := ⟨Sm.itS⟩
instance stp_itR1 {f : M R} {Q : List D → En → Prop} : Stp (wp (Lw.itR1 f) ς Q) (wp f ς fun r ς1 => ∃ n, rdD r ς1 = some (.int n) ∧ inR n = true ∧ Q (rngD 0 n.toNat) ς1) := ⟨Sm.itR1⟩
instance stp_itR2 {fa fb : M R} {Q : List D → En → Prop} : Stp (wp (Lw.itR2 fa fb) ς Q) (wp fa ς fun r ς1 => wp fb ς1 fun r2 ς2 => ∃ m n, rdD r ς2 = some (.int m) ∧ rdD r2 ς2 = some (.int n) ∧ inR m = true ∧ inR n = true ∧ Q (rngD m (n - m).toNat) ς2) := ⟨Sm.itR2⟩
instance stp_itE {f : M R} {Q : List D → En → Prop} : Stp (wp (Lw.itE f) ς Q) (wp f ς fun r ς1 => ∃ ds ς2, toD r ς1 = some (.list ds, ς2) ∧ Q (enumD 0 ds) ς2) := ⟨Sm.itE⟩
instance stp_itZ {fa fb : M R} {Q : List D → En → Prop} : Stp (wp (Lw.itZ fa fb) ς Q) (wp fa ς fun r ς1 => ∃ d ς2, toD r ς1 = some (d, ς2) ∧ wp fb ς2 fun r2 ς3 => ∃ d2 ς4 xs ys, toD r2 ς3 = some (d2, ς4) ∧ ((d = .list xs ∧ d2 = .list ys) ∨ (d = .tuple xs ∧ d2 = .tuple ys)) ∧ Q (zipD xs ys) ς4) := ⟨Sm.itZ⟩
end
section
variable {ς : En} {Q : Out → Prop} {g g1 g2 : MS} {f : M R}
instance stp_skip  : Stp (wps Lw.skip ς Q) (Q (.nx ς)) := ⟨Sm.skip⟩
instance stp_sq  : Stp (wps (Lw.sq g1 g2) ς Q) (wps g1 ς (andThen g2 Q)) := ⟨Sm.sq⟩
instance stp_asg {tg : Tg} : Stp (wps (Lw.asg f tg) ς Q) (wp f ς fun r ς1 => ∃ d ς2 ς3, toD r ς1 = some (d, ς2) ∧ tg d ς2 = some ς3 ∧ Q (.nx ς3)) := ⟨Sm.asg⟩
instance stp_asgO {i : Nat} : Stp (wps (Lw.asgO i f) ς Q) (wp f ς fun r ς1 => ∃ ds, r = .fresh ds ∧ free ς1 i = true ∧ Q (.nx (ς1.set i (some (.own false ds))))) := ⟨Sm.asgO⟩
instance stp_exS  : Stp (wps (Lw.exS f) ς Q) (wp f ς fun _ ς1 => Q (.nx ς1)) := ⟨Sm.exS⟩
instance stp_retS  : Stp (wps (Lw.retS f) ς Q) (wp f ς (outR Q)) := ⟨Sm.retS⟩
instance stp_ifS {t : M Bool} : Stp (wps (Lw.ifS t g1 g2) ς Q) (wp t ς fun b ς1 => if b = true then wps g1 ς1 Q else wps g2 ς1 Q) := ⟨Sm.ifS⟩
instance stp_forS {fi : M (List D)} {tg : Tg} : Stp (wps (Lw.forS fi tg g) ς Q) (wp fi ς fun ds ς1 => wps (loop tg g ds) ς1 Q) := ⟨Sm.forS⟩
instance stp_par2 {i j : Nat} {o1 o2 : Bool} {fa fb : M R} : Stp (wps (Lw.par2 i j o1 o2 fa fb) ς Q) (wp (pv' o1 fa) ς fun x ς1 => wp (pv' o2 fb) ς1 fun y ς2 => ∃ s t, put i x = some s ∧ put j y = some t ∧ (free ς2 i = true ∧ free (ς2.set i s) j = true ∧ i ≠ j) ∧ Q (.nx ((ς2.set i s).set j t))) := ⟨Sm.par2⟩
instance stp_pvF {f : M R} {Q : R → En → Prop} : Stp (wp (pv' false f) ς Q) (wp f ς fun r ς1 => ∃ d ς2, toD r ς1 = some (d, ς2) ∧ Q (.pure d) ς2) := ⟨Sm.pvF⟩
instance stp_pvT {f : M R} {Q : R → En → Prop} : Stp (wp (pv' true f) ς Q) (wp f ς Q) := ⟨Sm.pvT⟩
instance stp_par3 {i j l : Nat} {fa fb fc : M R} : Stp (wps (Lw.par3 i j l fa fb fc) ς Q) (wp fa ς fun a ς1 => ∃ x ς1', toD a ς1 = some (x, ς1') ∧ wp fb ς1' fun b ς2 => ∃ y ς2', toD b ς2 = some (y, ς2') ∧ wp fc ς2' fun c ς3 => ∃ z ς3', toD c ς3 = some (z, ς3') ∧     (free ς3' i = true ∧ free (ς3'.set i (some (.pure x))) j = true ∧ free ((ς3'.set i (some (.pure x))).set j (some (.pure y))) l = true) ∧ Q (.nx (((ς3'.set i (some (.pure x))).set j (some (.pure y))).set l (some (.pure z))))) := ⟨Sm.par3⟩
instance stp_at_nx  : Stp (andThen g Q (.nx ς)) (wps g ς Q) := ⟨Sm.at_nx⟩
instance stp_at_rt {r : R} : Stp (andThen g Q (.rt r ς)) (Q (.rt r ς)) := ⟨Sm.at_rt⟩
instance stp_oP {d : D} : Stp (outR Q (.pure d) ς) (Q (.rt (.pure d) ς)) := ⟨Sm.oP⟩
instance stp_oF {ds : List D} : Stp (outR Q (.fresh ds) ς) (Q (.rt (.fresh ds) ς)) := ⟨Sm.oF⟩
instance stp_fP {n : Nat} {d : D} {Q : R → List S → Prop} : Stp (outF n Q (.rt (.pure d) ς)) (Q (.pure d) (outsOf ς n)) := ⟨Sm.fP⟩
instance stp_fF {n : Nat} {ds : List D} {Q : R → List S → Prop} : Stp (outF n Q (.rt (.fresh ds) ς)) (Q (.fresh ds) (outsOf ς n)) := ⟨Sm.fF⟩
end
end Sm
end Lw
namespace Lw
open PySem PySem.Spec PyProof.Rows L2
/-! ### rows of new tuples out of one, two or three sequences, each a list or a tuple -/
inductive Kd where
  | L
  | T
namespace Kd
def Sq (k : Kd) (K : PySem.W.Frag) (H : Hp) (a : Addr) (xs : List V) : Prop := match k with
  | L => SqL K H a xs
  | T => SqT K H a xs
def Is (k : Kd) (h : Heap) (a : Addr) (its : Array Value) : Prop := match k with
  | L => h.IsList a its
  | T => h.IsTuple a its
def Iter (k : Kd) (h : Heap) (it a : Addr) (i : Nat) : Prop := match k with
  | L => h.IsListIter it a i
  | T => h.IsTupleIter it a i
def ob (k : Kd) (a : Addr) : Obj := match k with
  | L => { cls := .type "list_iterator", data := .fields #[.ref a, .int 0 0] }
  | T => { cls := .type "tuple_iterator", data := .fields #[.ref a, .int 0 0] }
theorem begins (k : Kd) (a : Addr) (its : Array Value) : Begins (.ref a) (k.ob a) fun h => k.Is h a its := by
  cases k
  · exact begins_list a its
  · exact begins_tuple a its
theorem iter0 (k : Kd) {h : Heap} {it a : Addr} (e : h.get? it = some (k.ob a)) : k.Iter h it a 0 := by
  cases k
  · exact ⟨_, e, rfl, rfl⟩
  · exact ⟨_, e, rfl, rfl⟩
theorem draws (k : Kd) {P : Program} {w : World} {A : Around} (hh : A.handled = none) (it a : Addr) (ne : a ≠ it) (its : Array Value) :
    Draws P w A it [it, a] its.size (fun i v => its[i]? = some v) (fun i h => k.Iter h it a i ∧ k.Is h a its) := by
  cases k
  · exact Draws.list hh it a ne its
  · exact Draws.tuple hh it a ne its
theorem iterAt (k : Kd) {h h' : Heap} {it a : Addr} {i : Nat} (x : k.Iter h it a i) (e : ∀ o, h.get? it = some o → h'.get? it = some o) : k.Iter h' it a i := by
  cases k
  · exact Heap.IsListIter.at x e
  · exact Heap.IsTupleIter.at x e
theorem iterOb (k : Kd) {h : Heap} {it a : Addr} {i : Nat} (x : k.Iter h it a i) : ∃ o, h.get? it = some o ∧ ∀ v, o.data ≠ .cell v := by
  cases k
  · obtain ⟨o, e, _, d⟩ := x; exact ⟨o, e, fun v q => by rw [d] at q; cases q⟩
  · obtain ⟨o, e, _, d⟩ := x; exact ⟨o, e, fun v q => by rw [d] at q; cases q⟩
theorem inv (k : Kd) {X : Cx} {pins : List (Addr × Obj)} {σ : L2.St} {H : Hp} {s : Shared} {a : Addr} {xs : List V} (I : Inv X pins σ H s) (h : k.Sq X.K H a xs) : ∃ its : List Value, Vals xs its ∧ k.Is s.heap a its.toArray ∧ a < s.heap.objs.size := by
  cases k
  · obtain ⟨its, r, pl, _⟩ := I.list h
    exact ⟨its, r, pl.isList, pl.lt⟩
  · obtain ⟨its, r, pl, _⟩ := I.tuple h
    obtain ⟨o, e, _⟩ := id pl
    exact ⟨its, r, pl, Heap.lt_size e⟩
theorem same (k : Kd) {K : PySem.W.Frag} {H H' : Hp} {a : Addr} {xs : List V} (s : Same H H') (h : k.Sq K H a xs) : k.Sq K H' a xs := by
  cases k
  · exact s.seq h
  · exact same_seqT s h
theorem of_items {K : PySem.W.Frag} {H : Hp} {v : V} {d : D} {ds : List D} (h : Dp K H v d) (e : items d = some ds) : ∃ (k : Kd) (a : Addr) (xs : List V), v = .ref a ∧ k.Sq K H a xs ∧ DpAll K H xs ds := by
  cases d with
  | list es => cases e; obtain ⟨a, vs, rfl, h1, h2⟩ := dp_list h; exact ⟨L, a, vs, rfl, h1, h2⟩
  | tuple es => cases e; obtain ⟨a, vs, rfl, h1, h2⟩ := dp_tuple h; exact ⟨T, a, vs, rfl, h1, h2⟩
  | _ => cases e
end Kd
/-- rows given out one by one, each a new tuple -/
def ItG (ok : Hp → Prop) (n : Nat) (row : Nat → List V) : It :=
  ⟨fun i H => ok H ∧ i < n, fun i H v H' => ∃ p, v = .ref p ∧ H p = none ∧ H' = upd H p (.tup (row i)), fun i H => ok H ∧ n ≤ i⟩
theorem turn_g {P : Program} {w : World} {K : PySem.W.Frag} {tg : Expr} {ok : Hp → Prop} {n : Nat} {row : Nat → List V} {fp : List Addr} {it : Addr} {S : Nat → Heap → Prop} (hm : it ∈ fp) (hn : ∀ i, (row i).length ≤ sizeLine)
    (ho : ∀ i h, S i h → ∀ b ∈ fp, ∃ o, h.get? b = some o ∧ ∀ v, o.data ≠ .cell v)
    (hk : ∀ i h h', S i h → (∀ b ∈ fp, ∀ o, h.get? b = some o → h'.get? b = some o) → S i h')
    (hw : ∀ (X : Cx), X.prog = P → X.w = w → X.K = K → X.calm = true → ∀ (pins : List (Addr × Obj)) (s : Shared) (σ : L2.St) (H : Hp), Inv X pins σ H s → ok H → ∀ i, S i s.heap → ∃ fp' wr St, (∀ b ∈ wr, b ∈ fp) ∧
      GoesN P w X.A tg it fp' wr n (fun i h₀ v h => ∃ T vals, v = .ref T ∧ h₀.objs.size ≤ T ∧ Vals (row i) vals ∧ h.IsTuple T vals.toArray) St ∧ St i s.heap ∧ ∀ j h, St j h → S j h)
    (hs : ∀ (A : Around) (i : Nat) (s : Shared) (Q : Value → Shared → Prop) (E : Value → Shared → Prop), S i s.heap → Q (.ref it) s → wpAny (model P w) A (pyIter (.ref it)) Q E s) :
    Turn P w K tg (ItG ok n row) fp it (fun i h => i ≤ n ∧ S i h) where
  mem := hm
  obj := fun i h st => ho i h st.2
  keep := fun i h h' st k => ⟨st.1, hk i h h' st.2 k⟩
  item := by
    intro X hP hW hK hc i pins s σ H E I hf st hg
    obtain ⟨fp', wr, St, hwr, W, w0, w1⟩ := hw X hP hW hK hc pins s σ H I hg.1 i st.2
    refine W.goes i s (fun u s2 => ∃ x H', Inv X pins σ H' s2 ∧ RelV x u ∧ (ItG ok n row).yld i H x H' ∧ (i + 1 ≤ n ∧ S (i + 1) s2.heap) ∧ ∀ b ∈ fp, H' b = none) E hg.2 w0 fun v h' tk y st' hkk htk => ?_
    obtain ⟨T, vals, rfl, hT, hv, hI⟩ := y
    have hlt : ∀ b ∈ fp, b < s.heap.objs.size := fun b hb => by obtain ⟨o, e, _⟩ := ho i _ st.2 b hb; exact Heap.lt_size e
    subst hP hW
    have new : ObjOk X.prog X.w (upd H T (.tup (row i))) h' T (.tup (row i)) := ⟨hn i, vals, hv, hI⟩
    have I1 : Inv X pins σ (upd H T (.tup (row i))) { s with heap := h', toks := tk } := I.turnedNew (ch := fp) (fun b o hb q => hkk b o (fun z => hb (hwr b z)) q) hf hT new
    refine ⟨.ref T, _, I1, rfl, ⟨T, rfl, I.hok.fresh hT, rfl⟩, ⟨hg.2, w1 _ _ st'⟩, fun b hb => ?_⟩
    rw [upd_ne (Nat.ne_of_lt (Nat.lt_of_lt_of_le (hlt b hb) hT))]
    exact (hf b hb).1
  done := by
    intro X hP hW hK hc i pins s σ H E I hf st hg
    obtain ⟨fp', wr, St, hwr, W, w0, w1⟩ := hw X hP hW hK hc pins s σ H I hg.1 i st.2
    have e : i = n := Nat.le_antisymm st.1 hg.2
    subst e
    exact W.stops s (fun s1 => Inv X pins σ H s1) E w0 fun h' tk hkk htk => I.turnedL (ch := fp) (fun b o hb q => hkk b o (fun z => hb (hwr b z)) q) hf
  self := fun A i s Q E st h => hs A i s Q E st.2 h
end Lw
namespace Lw
open PySem PySem.Spec PyProof.Rows L2
theorem vals_at {xs : List V} {its : List Value} {i : Nat} (r : Vals xs its) (h : i < xs.length) {u : Value} (e : its.toArray[i]? = some u) : RelV (xs.getD i .non) u := by
  obtain ⟨u', e', r'⟩ := r.get (List.getElem?_eq_getElem h)
  have : its[i]? = some u := by simpa using e
  rw [this] at e'
  cases e'
  rw [List.getD_eq_getElem?_getD, List.getElem?_eq_getElem h]
  exact r'
theorem mem5 (N : Nat) : ∀ c ∈ [N + 4, N + 2, N + 3, N, N + 1], N ≤ c := fun c hc => by
  have : c = N + 4 ∨ c = N + 2 ∨ c = N + 3 ∨ c = N ∨ c = N + 1 := by simpa using hc
  omega
def zS2 (k1 k2 : Kd) (z TI TO i1 i2 a b : Addr) (i : Nat) (h : Heap) : Prop := IsZip h z TI TO .none ∧ IsTupOf2 h TI (.ref i1) (.ref i2) ∧ (∃ x y, IsTupOf2 h TO x y) ∧ k1.Iter h i1 a i ∧ k2.Iter h i2 b i
theorem turn_z2 {P : Program} {w : World} {K : PySem.W.Frag} {elts : List Expr} {kk : Nat} {tpos : Pos} {k1 k2 : Kd} {z TI TO i1 i2 a b : Addr} {xs ys : List V} (SP : ZipSep2 z TI TO i1 i2 [i1, a] [i2, b]) (n1 : a ≠ i1) (n2 : b ≠ i2) :
    Turn P w K (.Tuple elts kk tpos) (ItG (fun H => k1.Sq K H a xs ∧ k2.Sq K H b ys) (min xs.length ys.length) (fun i => [xs.getD i .non, ys.getD i .non])) [z, TI, TO, i1, i2] z (fun i h => i ≤ min xs.length ys.length ∧ zS2 k1 k2 z TI TO i1 i2 a b i h) := by
  refine turn_g (by simp) (fun i => by show 2 ≤ sizeLine; decide) ?_ ?_ ?_ ?_
  · rintro i h ⟨e1, e2, ⟨x, y, e3⟩, e4, e5⟩ c hc
    have : c = z ∨ c = TI ∨ c = TO ∨ c = i1 ∨ c = i2 := by simpa using hc
    rcases this with rfl | rfl | rfl | rfl | rfl
    · exact ⟨_, e1, fun v q => nomatch q⟩
    · exact ⟨_, e2, fun v q => nomatch q⟩
    · exact ⟨_, e3, fun v q => nomatch q⟩
    · exact k1.iterOb e4
    · exact k2.iterOb e5
  · rintro i h h' ⟨e1, e2, ⟨x, y, e3⟩, e4, e5⟩ k
    exact ⟨k z (by simp) _ e1, k TI (by simp) _ e2, ⟨x, y, k TO (by simp) _ e3⟩, k1.iterAt e4 fun o q => k i1 (by simp) o q, k2.iterAt e5 fun o q => k i2 (by simp) o q⟩
  · intro X hP hW hK hc pins s σ H I hok i st
    subst hP hW hK
    obtain ⟨its, r1, s1, _⟩ := k1.inv I hok.1
    obtain ⟨its2, r2, s2, _⟩ := k2.inv I hok.2
    have hh : X.A.in1.handled = none := I.ok.hd hc
    have l1 := r1.length
    have l2 := r2.length
    have W := GoesN.zip2 (prog := X.prog) (w := X.w) (A := X.A) (elts := elts) (x1 := kk) (pos := tpos) SP (k1.draws hh i1 a n1 its.toArray) (k2.draws hh i2 b n2 its2.toArray)
    have en : min its.toArray.size its2.toArray.size = min xs.length ys.length := by rw [List.size_toArray, List.size_toArray, l1, l2]
    have W2 := W.mono (Y' := fun i h₀ v h => ∃ T vals, v = .ref T ∧ h₀.objs.size ≤ T ∧ Vals [xs.getD i .non, ys.getD i .non] vals ∧ h.IsTuple T vals.toArray) (fun i h₀ v h hi ⟨T, x, y, ev, hT, hx, hy, hI⟩ => ⟨T, [x, y], ev, hT, .cons (vals_at r1 (by omega) hx) (.cons (vals_at r2 (by omega) hy) .nil), hI⟩)
    rw [en] at W2
    exact ⟨_, [z, TO, i1, i2], _, by simp, W2, ⟨st.1, st.2.1, st.2.2.1, ⟨st.2.2.2.1, s1⟩, ⟨st.2.2.2.2, s2⟩⟩, fun j h e => ⟨e.1, e.2.1, e.2.2.1, e.2.2.2.1.1, e.2.2.2.2.1⟩⟩
  · exact fun A i s Q E st h => wpAny_pyIter_zip st.1 h
def iZipK (K : PySem.W.Frag) (ta : TA) : TI := fun σ H R => ta σ H fun vs H1 => ∃ (k1 k2 : Kd) (a b : Addr) (xs ys : List V), vs = [.ref a, .ref b] ∧ k1.Sq K H1 a xs ∧ k2.Sq K H1 b ys ∧
  R (ItG (fun H => k1.Sq K H a xs ∧ k2.Sq K H b ys) (min xs.length ys.length) (fun i => [xs.getD i .non, ys.getD i .non])) H1
section
variable {X : Cx} {e e2 e3 : Expr} {ta : TA} {p pos tpos : Pos} {elts : List Expr} {kk : Nat}
theorem fp_new {pins : List (Addr × Obj)} {σ : L2.St} {H : Hp} {s : Shared} (I : Inv X pins σ H s) {l : List Addr} (hl : ∀ c ∈ l, s.heap.objs.size ≤ c) : ∀ c ∈ l, FpOk X pins H c := fun c hc => I.fpOk (hl c hc) (I.hok.fresh (hl c hc))
theorem pi_zipK (hg : Gl X "zip") (hm : X.mg "zip" = none) (ha : PA X [e, e2] ta) (hs : starEach [e, e2] X.env = (false, eval e X.env) :: starEach [e2] X.env := by rfl) (hpl : (backTo pos (starEach [e2] X.env)).any (·.1) = false := by rfl) :
    PI X (.Tuple elts kk tpos) (.Call (.Name "zip" p) [e, e2] [] pos) (iZipK X.K ta) := by
  constructor
  intro pins s σ H R I h
  refine Call_ (ld_blt I hg hm PyProof.Rows.boot_zip (PyProof.Rows.callWith_type1 (thn (ha.run pos pins s σ H _ I h) fun us s1 ⟨vs, H1, I1, r1, q1⟩ => ?_) hs hpl))
  obtain ⟨k1, k2, a, b, xs, ys, ex, h1, h2, q⟩ := q1
  subst ex
  obtain ⟨u1, us1, rfl, ra, r1⟩ : ∃ u us', us = u :: us' ∧ RelV (.ref a) u ∧ Vals [.ref b] us' := by cases r1 with | cons x y => exact ⟨_, _, rfl, x, y⟩
  obtain ⟨u2, us2, rfl, rb, r1⟩ : ∃ u us', us1 = u :: us' ∧ RelV (.ref b) u ∧ Vals [] us' := by cases r1 with | cons x y => exact ⟨_, _, rfl, x, y⟩
  cases r1
  cases ra
  cases rb
  obtain ⟨its, v1, s1', l1⟩ := k1.inv I1 h1
  obtain ⟨its2, v2, s2', l2⟩ := k2.inv I1 h2
  refine zip_begins2 (k1.begins a its.toArray) (k2.begins b its2.toArray) s1' s2' fun h' hz hTI hTO g1 g2 hsz hk => wpAny_pyIter_zip hz ?_
  have I2 : Inv X pins σ H1 { s1 with heap := h' } := I1.kept (t' := s1.toks) hk
  refine ⟨s1.heap.objs.size + 4, [s1.heap.objs.size + 4, s1.heap.objs.size + 2, s1.heap.objs.size + 3, s1.heap.objs.size, s1.heap.objs.size + 1], _, _, H1, rfl, I2, turn_z2 ?_ (Nat.ne_of_lt l1) (Nat.ne_of_lt (Nat.lt_succ_of_lt l2)), ⟨Nat.zero_le _, hz, hTI, ⟨_, _, hTO⟩, k1.iter0 g1, k2.iter0 g2⟩, fp_new I1 ?_, q⟩
  · exact zip_sep2 (fun d hd => by cases List.mem_singleton.1 hd; exact l1) (fun d hd => by cases List.mem_singleton.1 hd; exact l2)
  · exact mem5 _
end
/-- what is walked, in data -/
theorem walk_g {K : PySem.W.Frag} {G : Hp} {ok : Hp → Prop} {n : Nat} {row : Nat → List V} {ds : List D} (hok : ∀ H, Same G H → ok H) (hn : ds.length = n) (hr : ∀ (i : Nat) d, ds[i]? = some d → ∃ es, d = .tuple es ∧ DpAll K G (row i) es) : WalkD K G (ItG ok n row) ds where
  stop := fun H s => ⟨hok H s, by omega⟩
  go := fun i H hl s => ⟨hok H s, by omega⟩
  yld := fun i H x H' d s y e => by
    obtain ⟨p, rfl, hp, rfl⟩ := y
    obtain ⟨es, rfl, he⟩ := hr i d e
    exact .inr ⟨p, _, es, rfl, hp, rfl, rfl, he⟩
theorem dpa_getD {K : PySem.W.Frag} {G : Hp} {vs : List V} {ds : List D} {i : Nat} {d : D} (h : DpAll K G vs ds) (e : ds[i]? = some d) : Dp K G (vs.getD i .non) d := by
  obtain ⟨v, e1, e2⟩ := dpa_get h e
  rw [List.getD_eq_getElem?_getD, e1]
  exact e2
/-- three at once -/
def zipD3 : List D → List D → List D → List D
  | a :: as, b :: bs, c :: cs => .tuple [a, b, c] :: zipD3 as bs cs
  | _, _, _ => []
section
variable {X : Cx} {a b c : Expr} {fa fb fc : M R} {p pos p2 : Pos} {elts : List Expr} {kk : Nat}
def itZ2 (fa fb : M R) : M (List D) := bd (esc fa) fun d => bd (esc fb) fun d2 => bd (lift (items d)) fun xs => bd (lift (items d2)) fun ys => ret (zipD xs ys)
def itZ3 (fa fb fc : M R) : M (List D) := bd (esc fa) fun d => bd (esc fb) fun d2 => bd (esc fc) fun d3 => bd (lift (items d)) fun xs => bd (lift (items d2)) fun ys => bd (lift (items d3)) fun zs => ret (zipD3 xs ys zs)
def itEn (fa : M R) : M (List D) := bd (esc fa) fun d => bd (lift (items d)) fun xs => ret (enumD 0 xs)
theorem i_zip2 (hg : Gl X "zip") (hm : X.mg "zip" = none) (ha : PEd X a fa) (hb : PEd X b fb) (hs1 : starEach [a, b] X.env = (false, eval a X.env) :: starEach [b] X.env := by rfl) (hs2 : starEach [b] X.env = (false, eval b X.env) :: starEach [] X.env := by rfl) (hpl : (backTo pos (starEach [b] X.env)).any (·.1) = false := by rfl) :
    PId X (.Tuple elts kk p2) (.Call (.Name "zip" p) [a, b] [] pos) (itZ2 fa fb) := fun F => PI.mono (pi_zipK hg hm (pa_cons (d_esc ha F) (pa_cons (d_esc hb F) pa_nil hs2) hs1) hs1 hpl) fun σ H R hq => by
  obtain ⟨ς, G, rl, ds, ς', e, k⟩ := hq
  obtain ⟨d, ς1, e1, q1⟩ := bd_some e
  obtain ⟨d2, ς2, e2, q2⟩ := bd_some q1
  obtain ⟨xs, ς3, e3', q3⟩ := bd_some q2
  obtain ⟨e3, h3⟩ := lift_some e3'
  obtain ⟨ys, ς4, e4', q4⟩ := bd_some q3
  obtain ⟨e4, h4⟩ := lift_some e4'
  subst h3 h4
  cases q4
  refine ⟨ς, G, rl, d, _, e1, fun v H1 G1 rl1 s1 dp => ⟨ς1, G1, rl1, d2, _, e2, fun w H2 G2 rl2 s2 dp2 => ?_⟩⟩
  obtain ⟨k1, l1, vs, rfl, h1, g1⟩ := Kd.of_items (dp_same s2 dp) e3
  obtain ⟨k2, l2, ws, rfl, h2, g2⟩ := Kd.of_items dp2 e4
  refine ⟨k1, k2, l1, l2, vs, ws, rfl, k1.same rl2.sub h1, k2.same rl2.sub h2, k _ H2 G2 rl2 (s1.trans s2) (walk_g (fun H s => ⟨k1.same s h1, k2.same s h2⟩) (by rw [zipD_len, dpa_len g1, dpa_len g2]) fun i d e => ?_)⟩
  obtain ⟨x, y, f1, f2, rfl⟩ := zipD_get xs ys i d e
  exact ⟨_, rfl, .cons (dpa_getD g1 f1) (.cons (dpa_getD g2 f2) .nil)⟩
end
namespace Sm
variable {ς : En}
theorem itZ2 {fa fb : M R} {Q : List D → En → Prop} (h : wp fa ς fun r ς1 => ∃ d ς2, toD r ς1 = some (d, ς2) ∧ wp fb ς2 fun r2 ς3 => ∃ d2 ς4, toD r2 ς3 = some (d2, ς4) ∧ ∃ xs ys, items d = some xs ∧ items d2 = some ys ∧ Q (zipD xs ys) ς4) : wp (Lw.itZ2 fa fb) ς Q := by
  refine bd (esc (mono h fun r ς1 h => ?_))
  obtain ⟨d, ς2, e, h⟩ := h
  refine ⟨d, ς2, e, bd (esc (mono h fun r2 ς3 h => ?_))⟩
  obtain ⟨d2, ς4, e2, xs, ys, i1, i2, q⟩ := h
  exact ⟨d2, ς4, e2, bd (lift i1 (bd (lift i2 (ret q))))⟩
theorem itZ3 {fa fb fc : M R} {Q : List D → En → Prop} (h : wp fa ς fun r ς1 => ∃ d ς2, toD r ς1 = some (d, ς2) ∧ wp fb ς2 fun r2 ς3 => ∃ d2 ς4, toD r2 ς3 = some (d2, ς4) ∧ wp fc ς4 fun r3 ς5 => ∃ d3 ς6, toD r3 ς5 = some (d3, ς6) ∧ ∃ xs ys zs, items d = some xs ∧ items d2 = some ys ∧ items d3 = some zs ∧ Q (zipD3 xs ys zs) ς6) : wp (Lw.itZ3 fa fb fc) ς Q := by
  refine bd (esc (mono h fun r ς1 h => ?_))
  obtain ⟨d, ς2, e, h⟩ := h
  refine ⟨d, ς2, e, bd (esc (mono h fun r2 ς3 h => ?_))⟩
  obtain ⟨d2, ς4, e2, h⟩ := h
  refine ⟨d2, ς4, e2, bd (esc (mono h fun r3 ς5 h => ?_))⟩
  obtain ⟨d3, ς6, e3, xs, ys, zs, i1, i2, i3, q⟩ := h
  exact ⟨d3, ς6, e3, bd (lift i1 (bd (lift i2 (bd (lift i3 (ret q))))))⟩
theorem itEn {f : M R} {Q : List D → En → Prop} (h : wp f ς fun r ς1 => ∃ d ς2, toD r ς1 = some (d, ς2) ∧ ∃ xs, items d = some xs ∧ Q (enumD 0 xs) ς2) : wp (Lw.itEn f) ς Q :=
  bd (esc (mono h fun r ς1 ⟨d, ς2, e, xs, i1, q⟩ => ⟨d, ς2, e, bd (lift i1 (ret q))⟩))
end Sm
namespace Sm
section
variable {ς : En}
instance stp_itZ2 {fa fb : M R} {Q : List D → En → Prop} : Stp (wp (Lw.itZ2 fa fb) ς Q) (wp fa ς fun r ς1 => ∃ d ς2, toD r ς1 = some (d, ς2) ∧ wp fb ς2 fun r2 ς3 => ∃ d2 ς4, toD r2 ς3 = some (d2, ς4) ∧ ∃ xs ys, items d = some xs ∧ items d2 = some ys ∧ Q (zipD xs ys) ς4) := ⟨Sm.itZ2⟩
instance stp_itZ3 {fa fb fc : M R} {Q : List D → En → Prop} : Stp (wp (Lw.itZ3 fa fb fc) ς Q) (wp fa ς fun r ς1 => ∃ d ς2, toD r ς1 = some (d, ς2) ∧ wp fb ς2 fun r2 ς3 => ∃ d2 ς4, toD r2 ς3 = some (d2, ς4) ∧ wp fc ς4 fun r3 ς5 => ∃ d3 ς6, toD r3 ς5 = some (d3, ς6) ∧ ∃ xs ys zs, items d = some xs ∧ items d2 = some ys ∧ items d3 = some zs ∧ Q (zipD3 xs ys zs) ς6) := ⟨Sm.itZ3⟩
instance stp_itEn {f : M R} {Q : List D → En → Prop} : Stp (wp (Lw.itEn f) ς Q) (wp f ς fun r ς1 => ∃ d ς2, toD r ς1 = some (d, ς2) ∧ ∃ xs, items d = some xs ∧ Q (enumD 0 xs) ς2) := ⟨Sm.itEn⟩
end
end Sm
end Lw
namespace Lw
open PySem PySem.Spec PyProof.Rows L2
/-! ### t[::-1] of a tuple -/
section
variable {P : Program} {w : World} {A : Around} {E : Value → Shared → Prop} {s : Shared}
theorem rev_applied {sl : Addr} {n : Nat} {u : Tok} {Q : Int × Int × Nat → Shared → Prop} (hs : s.heap.IsSliceOf sl .none .none (.int (-1) u)) (h : Q ((n : Int) - 1, -1, n) s) : wpAny (model P w) A (Builtin.Slice.sliceApplied (.ref sl) (pure (n : Int))) Q E s := by
  obtain ⟨os, f1, _, f2⟩ := id hs
  unfold Builtin.Slice.sliceApplied Builtin.Slice.sliceFields
  refine wpAny_bind (wpAny_bind (wpAny_field f1 f2 (x := .none) rfl (wpAny_bind (wpAny_field f1 f2 (x := .none) rfl (wpAny_bind (wpAny_field f1 f2 (x := .int (-1) u) rfl (wpAny_pure ?_)))))))
  refine wpAny_bind (slicePart_int ?_)
  show wpAny _ _ (if ((-1 : Int) == 0) = true then _ else _) _ _ s
  rw [if_neg (by decide)]
  refine wpAny_bind (slicePart_none (wpAny_bind (slicePart_none (wpAny_bind (wpAny_pure ?_)))))
  show wpAny _ _ (match Builtin.Slice.sliceAdjust none none (-1) (n : Int) with | (lo, hi) => pure (lo, (-1 : Int), Builtin.Slice.slicePlaces lo hi (-1))) _ _ s
  have e : Builtin.Slice.sliceAdjust none none (-1) (n : Int) = ((n : Int) - 1, -1) := by
    unfold Builtin.Slice.sliceAdjust
    simp
  rw [e]
  show wpAny _ _ (pure ((n : Int) - 1, (-1 : Int), Builtin.Slice.slicePlaces ((n : Int) - 1) (-1) (-1))) _ _ s
  have e2 : Builtin.Slice.slicePlaces ((n : Int) - 1) (-1) (-1) = n := by
    unfold Builtin.Slice.slicePlaces
    by_cases hn : n = 0
    · subst hn; simp
    · simp; omega
  rw [e2]
  exact wpAny_pure h
theorem rev_pick (xs : Array Value) : ((List.range xs.size).filterMap fun (k : Nat) => xs[((xs.size : Int) - 1 + (k : Int) * (-1)).toNat]?).toArray = xs.toList.reverse.toArray := by
  have e := PySem.W.krv_pick xs
  unfold slicePick at e
  rw [PySem.W.krv_bounds] at e
  replace e : ((sliceRange ((xs.size : Int) - 1) (-1) (-1)).filterMap (xs[·]?)).toArray = xs.toList.reverse.toArray := e
  rw [← e, PySem.W.krv_sliceRange, List.filterMap_map]
  have key : ∀ l : List Nat, (l.filterMap fun (k : Nat) => xs[((xs.size : Int) - 1 + (k : Int) * (-1)).toNat]?) = l.filterMap ((xs[·]?) ∘ fun k => xs.size - 1 - k) := by
    intro l
    induction l with
    | nil => rfl
    | cons k l ih =>
      have : xs[((xs.size : Int) - 1 + (k : Int) * (-1)).toNat]? = ((xs[·]?) ∘ fun k => xs.size - 1 - k) k := by
        show _ = xs[xs.size - 1 - k]?
        congr 1
        omega
      rw [List.filterMap_cons, List.filterMap_cons, ih, this]
  rw [key]
theorem rev_get {t sl : Addr} {its : Array Value} {u : Tok} {Q : Value → Shared → Prop} (ht : IsTup s.heap t its) (hs : s.heap.IsSliceOf sl .none .none (.int (-1) u)) (hz : its.size ≤ sizeLine)
    (h : Q (.ref s.heap.objs.size) { s with heap := s.heap.push { cls := .type "tuple", data := .seq its.toList.reverse.toArray } }) : wpAny (model P w) A (getItem (.ref t) (.ref sl)) Q E s := by
  have hd : sizeOk (.seq its.toList.reverse.toArray) := by
    show its.toList.reverse.toArray.size ≤ sizeLine
    rw [List.size_toArray, List.length_reverse, Array.length_toList]
    exact hz
  obtain ⟨os, f1, f2, _⟩ := id hs
  unfold getItem
  try with_reducible refine wpAny_holding ?_
  first | refine wpAny_bind (wpAny_pure ?_) | skip
  refine wpAny_bind (wpAny_sequenceKey ht.typeIs (by decide) (wpAny_bind (wpAny_callSpecial?_slot (name := Str.ofString "__getitem__") ht.typeIs PyProof.Rows.slot_tuple_getitem (wpAny_call_entry PyProof.Rows.slot_tuple_getitem ht.typeIs entry_tuple_getitem ?_ (args_tuple_getitem _ _)))))
  have tS : s.TypeIs (.ref sl) "slice" := ⟨os, f1, f2⟩
  show wpAny _ _ (Builtin.Tuple.tupleItemsOf (.ref t) >>= _) _ _ s
  refine wpAny_bind (tupleItemsOf_ ht (wpAny_bind (wpAny_typeOf tS ?_)))
  rw [if_pos (by decide)]
  refine wpAny_bind (rev_applied (n := its.size) hs ?_)
  show wpAny _ _ (if ((its.size : Int) - 1 == 0 && (-1 : Int) == 1 && its.size == its.size) = true then _ else _) _ _ s
  rw [if_neg (by simp), rev_pick]
  first
    | exact wpAny_bind (m := Builtin.Tuple.tupleExact _) (wpAny_newObj_type (wpAny_pure ⟨_, rfl, wpAny_pure h⟩) hd)
    | exact wpAny_bind (m := Builtin.Tuple.tupleExact _) (wpAny_newObj_type (wpAny_bind (wpAny_pure (wpAny_pure ⟨_, rfl, wpAny_pure h⟩))) hd)
    | exact wpAny_bind (wpAny_bind (m := Builtin.Tuple.tupleExact _) (wpAny_newObj_type (wpAny_pure (wpAny_pure ⟨_, rfl, wpAny_pure h⟩)) hd))
    | exact wpAny_bind (wpAny_bind (m := Builtin.Tuple.tupleExact _) (wpAny_newObj_type (wpAny_pure ⟨_, rfl, wpAny_pure h⟩) hd))
end
section
variable {X : Cx}
def tRevT (K : PySem.W.Frag) (te : TE) : TE := fun σ H Q => te σ H fun x H1 => ∃ a xs, x = .ref a ∧ SqT K H1 a xs ∧ ∀ p, H1 p = none → Q (.ref p) (upd H1 p (.tup xs.reverse))
theorem pe_revT {e : Expr} {te : TE} {k : Nat} {p1 p2 p3 pos : Pos} (he : PE X e te) : PE X (.Subscript e (.Slice none none (some (.UnaryOp .USub (.Constant (.int 1) k p1) p2)) p3) pos) (tRevT X.K te) := by
  constructor
  intro pins s σ H Q I h
  refine Subscript_ (thn (he.run pins s σ H _ I h) fun v s1 ⟨x, H1, I1, r1, a, xs, ex, hx, q⟩ => ?_)
  subst ex
  cases r1
  have hst : PO X (some (.UnaryOp .USub (.Constant (.int 1) k p1) p2)) (tPart (tUn (rU fun i => .int (-i)) (tC (.int 1)))) := po_some (pe_un un_neg pe_int)
  refine wpAny_Slice (thn (po_none.run pins s1 σ H1 (fun o H' => o = none ∧ H' = H1) I1 ⟨rfl, rfl⟩) fun vl s2 ⟨l, H2, I2, pl, el, e2⟩ => thn (po_none.run pins s2 σ H2 (fun o H' => o = none ∧ H' = H2) I2 ⟨rfl, rfl⟩) fun vu s3 ⟨u, H3, I3, pu, eu, e3⟩ => thn (hst.run pins s3 σ H3 (fun o H' => o = some (-1) ∧ H' = H3) I3 ⟨1, rfl, -1, rfl, rfl, rfl⟩) fun vs s4 ⟨o, H4, I4, ps, eo, e4⟩ => ?_)
  subst el e2 eu e3 eo e4
  cases pl
  cases pu
  obtain ⟨tk, rfl⟩ : ∃ tk, vs = .int (-1) tk := by cases ps; exact ⟨_, rfl⟩
  have I5 : Inv X pins σ H4 { s4 with heap := s4.heap.push { cls := .type "slice", data := .fields #[.none, .none, .int (-1) tk] } } := I4.kept (t' := s4.toks) fun b ob z => Heap.get?_push_of_some _ z
  obtain ⟨its, r, ht, hz⟩ := I5.tuple hx
  have hlen := r.length
  refine tail_any (ops := [.ref a, .ref s4.heap.objs.size]) ht.typeIs (PyProof.Rows.slot_tuple_getitem.lookup) (rev_get ht (Heap.IsSliceOf.new _ _ _ _) (by rw [List.size_toArray]; omega) ?_) (by with_unfolding_all rfl)
  refine ⟨.ref _, _, I5.laid (t' := s4.toks) (o := .tup xs.reverse) (fun b ob z => Heap.get?_push_of_some _ z) (Nat.le_refl _) ?_, rfl, q _ (I5.hok.fresh (Nat.le_refl _))⟩
  exact ⟨by rw [List.length_reverse]; exact hz, its.reverse, r.reverse, ⟨_, Heap.get?_push_size _ rfl, rfl, _, rfl⟩⟩
theorem _root_.L2.PE.or {e : Expr} {t t' : TE} (h : PE X e t) (h' : PE X e t') : PE X e (fun σ H Q => t σ H Q ∨ t' σ H Q) := ⟨fun pins s σ H Q I hw => by
  rcases hw with hw | hw
  · exact h.run pins s σ H Q I hw
  · exact h'.run pins s σ H Q I hw⟩
def gRev : D → Option R
  | .list ds => some (.fresh ds.reverse)
  | .tuple ds => some (.pure (.tuple ds.reverse))
  | _ => none
variable {a b c e : Expr} {fa fb fc f : M R} {pos p p1 p2 p3 : Pos} {x : Str}
theorem d_revA {k : Nat} (ha : PEd X a fa) : PEd X (.Subscript a (.Slice none none (some (.UnaryOp .USub (.Constant (.int 1) k p1) p2)) p3) pos) (cal1 gRev fa) :=
  fun F => PE.mono (PE.or (pe_revL (d_sub ha F)) (pe_revT (d_sub ha F))) fun σ H Q hq => by
    obtain ⟨ς, G, rl, r, ς', e, k⟩ := hq
    obtain ⟨a, ς1, e1, q1⟩ := bd_some e
    obtain ⟨x, ς4, e4', q4⟩ := bd_some q1
    obtain ⟨e4, h4⟩ := rd_some e4'
    obtain ⟨e5, h5⟩ := lift_some q4
    subst h4 h5
    cases x with
    | list ds =>
      refine .inl ⟨ς, G, rl, a, _, e1, fun v H1 G1 rl1 s1 rep1 => ?_⟩
      have rv := rdD_ok rl1 rep1 e4
      cases e5
      obtain ⟨p, vs, rfl, h1, h2⟩ := rv.list rl1.sub
      exact ⟨p, vs, rfl, h1, fun z hz => k _ _ G1 (rl1.layF hz) s1 (rl1.repF hz (dpa_rev h2))⟩
    | tuple ds =>
      refine .inr ⟨ς, G, rl, a, _, e1, fun v H1 G1 rl1 s1 rep1 => ?_⟩
      have rv := rdD_ok rl1 rep1 e4
      cases e5
      obtain ⟨p, vs, rfl, h1, h2⟩ := rv.tuple rl1.sub
      exact ⟨p, vs, rfl, h1, fun z hz => k _ _ _ (rl1.lay hz) (s1.trans (same_upd (rl1.gnone hz))) (rl1.layD hz (dpa_rev h2))⟩
    | _ => cases e5
/-! ### sum, min, max of a list or tuple -/
end
end Lw
namespace Lw
open PySem PySem.Spec PyProof.Rows L2
section
variable {X : Cx} {a b c e tg : Expr} {es : List Expr} {fa fb fc f : M R} {ta : M Bool} {pos p p1 p2 p3 : Pos} {x : Str} {st : Stmt} {sts rest : List Stmt} {g g1 g2 : MS}
/-- what no way of ours comes to -/
def rse : MS := fun _ => none
/-! ### [*a, b, ..] -/
def argX (f : M R) (g : M (List Ar)) : M (List Ar) := bd (esc f) fun d => bd (lift (items d)) fun ds => bd g fun as => ret (avs ds ++ as)
theorem Sm.argX {ς : En} {Q : List Ar → En → Prop} {f : M R} {g : M (List Ar)} (h : wp f ς fun r ς1 => ∃ d ς2, toD r ς1 = some (d, ς2) ∧ ∃ ds, items d = some ds ∧ wp g ς2 fun as ς3 => Q (avs ds ++ as) ς3) : wp (Lw.argX f g) ς Q :=
  Sm.bd (Sm.esc (Sm.mono h fun r ς1 ⟨d, ς2, e, ds, e2, q⟩ => ⟨d, ς2, e, Sm.bd (Sm.lift e2 (Sm.bd (Sm.mono q fun as ς3 q => Sm.ret q)))⟩))
/-! ### x += e, of numbers -/
def augI (i : Nat) (h : Int → Int → Int) (f : M R) : MS := fun ς => match ς[i]? with
  | some (some (.pure (.int m))) => match esc f ς with
    | some (.int n, ς1) => if free ς1 i = true then some (.nx (ς1.set i (some (.pure (.int (h m n)))))) else none
    | _ => none
  | _ => none
theorem Sm.augI {ς : En} {Q : Out → Prop} {i : Nat} {h : Int → Int → Int} {m : Int} (e : ς[i]? = some (some (.pure (.int m)))) (hh : wp f ς fun r ς1 => ∃ n ς2, toD r ς1 = some (.int n, ς2) ∧ free ς2 i = true ∧ Q (.nx (ς2.set i (some (.pure (.int (h m n))))))) : wps (Lw.augI i h f) ς Q := by
  obtain ⟨r, ς1, e1, n, ς2, e2, hf, q⟩ := hh
  refine ⟨_, ?_, q⟩
  have ee : Lw.esc f ς = some (.int n, ς2) := by unfold Lw.esc Lw.bd; rw [e1]; exact e2
  unfold Lw.augI
  simp only [e, ee]
  exact if_pos hf
/-! ### [..] * n -/
theorem _root_.L2.PE.ex {t : Fx → TE} (h : ∀ F, PE X e (t F)) : PE X e (fun σ H Q => ∃ F, t F σ H Q) := ⟨fun pins s σ H Q I ⟨F, hw⟩ => (h F).run pins s σ H Q I hw⟩
def repE (fa : M R) (n : Nat) : M R := bd fa fun r => match r with
  | .fresh ds => if ds.length * n ≤ 1000 ∧ n ≤ 1000 then ret (.fresh (List.replicate n ds).flatten) else lift none
  | _ => lift none
theorem Sm.repE {ς : En} {Q : R → En → Prop} {n : Nat} (h : wp fa ς fun r ς1 => ∃ ds, r = .fresh ds ∧ (ds.length * n ≤ 1000 ∧ n ≤ 1000) ∧ Q (.fresh (List.replicate n ds).flatten) ς1) : wp (Lw.repE fa n) ς Q := by
  refine Sm.bd (Sm.mono h fun r ς1 ⟨ds, e, hl, q⟩ => ?_)
  subst e
  show wp (if ds.length * n ≤ 1000 ∧ n ≤ 1000 then Lw.ret (R.fresh (List.replicate n ds).flatten) else Lw.lift none) ς1 Q
  rw [if_pos hl]
  exact Sm.ret q
/-! ### {text: a, text: b}[x] -/
def dicE (s t : Str) (fa fb fi : M R) : M R := bd (esc fa) fun x => bd (esc fb) fun y => bd (esc fi) fun z => match z with
  | .str w => if w = s ∧ s ≠ t then ret (.pure x) else if w = t ∧ s ≠ t then ret (.pure y) else lift none
  | _ => lift none
/-- no slot's own thing is at q -/
def NoS (ς : En) (σ : L2.St) (q : Addr) : Prop := (∀ (i : Nat) b ds, ς[i]? = some (some (.own b ds)) → σ[i]? ≠ some (some (.ref q))) ∧ ∀ (i : Nat) kvs, ς[i]? = some (some (.vx (.odc kvs))) → σ[i]? ≠ some (some (.ref q))
/-- an object that nobody touches -/
def Fx.pin (F : Fx) (p : Addr) (o : HO) : Fx := ⟨F.A, F.G0, upd F.H0 p o⟩
section
variable {K : PySem.W.Frag} {F : Fx} {ς : En} {G H : Hp} {σ : L2.St} {q : Addr} {o : HO}
theorem Rel.pin (r : Rel K F ς G σ H) (h : H q = some o) (hg : G q = none) (h0 : F.H0 q = none) (ho : NoS ς σ q) : Rel K (F.pin q o) ς G σ H where
  len := r.len
  sub := r.sub
  g0 := r.g0
  pu := r.pu
  ow := fun i b ds e => by
    obtain ⟨a, vs, e1, e2, e3, e4, e5, e6⟩ := r.ow i b ds e
    have ne : a ≠ q := fun z => ho.1 i b ds e (by rw [e1, z])
    exact ⟨a, vs, e1, e2, e3, e4, e5, fun z => by show upd F.H0 q o a = none; rw [upd_ne ne]; exact e6 z⟩
  ap := r.ap
  par := r.par
  fr := fun a u e na => by
    by_cases z : a = q
    · subst z
      replace e : upd F.H0 a o a = some u := e
      rw [upd_same] at e
      cases e
      exact h
    · replace e : upd F.H0 q o a = some u := e
      rw [upd_ne z] at e
      exact r.fr a u e na
  nw := fun a e => by
    rcases r.nw a e with z | z
    · exact .inl z
    · have ne : a ≠ q := fun w => by subst w; exact e hg
      exact .inr (by show upd F.H0 q o a = none; rw [upd_ne ne]; exact z)
  vx := r.vx
  od := fun i kvs e => by
    obtain ⟨a, u, e1, e2, e3, e4, e5⟩ := r.od i kvs e
    have ne : a ≠ q := fun z => ho.2 i kvs e (by rw [e1, z])
    exact ⟨a, u, e1, e2, e3, e4, by show upd F.H0 q o a = none; rw [upd_ne ne]; exact e5⟩
  oa := r.oa
theorem Rel.other (r : Rel K F ς G σ H) {o' : HO} (hg : G q = none) (h0 : F.H0 q = none) (ho : NoS ς σ q) : Rel K F ς G σ (upd H q o') where
  len := r.len
  sub := fun a u e => by
    have : a ≠ q := ne_of_none e hg
    rw [upd_ne this]; exact r.sub _ _ e
  g0 := r.g0
  pu := r.pu
  ow := fun i b ds e => by
    obtain ⟨a, vs, e1, e2, e3, e4, e5⟩ := r.ow i b ds e
    have ne : a ≠ q := fun z => ho.1 i b ds e (by rw [e1, z])
    exact ⟨a, vs, e1, by rw [upd_ne ne]; exact e2, e3, e4, e5⟩
  ap := r.ap
  par := r.par
  fr := fun a u e na => by
    have : a ≠ q := ne_of_none e h0
    rw [upd_ne this]; exact r.fr a u e na
  nw := r.nw
  vx := r.vx
  od := fun i kvs e => by
    obtain ⟨a, u, e1, e2, e3⟩ := r.od i kvs e
    have ne : a ≠ q := fun z => ho.2 i kvs e (by rw [e1, z])
    exact ⟨a, u, e1, by rw [upd_ne ne]; exact e2, e3⟩
  oa := r.oa
theorem Rel.newA (r : Rel K F ς G σ H) (h : H q = none) : (∀ i, F.A i ≠ some q) ∧ F.G0 q = none ∧ NoS ς σ q := by
  refine ⟨fun i e => ?_, ?_, fun i b ds e z => ?_, fun i kvs e z => ?_⟩
  · obtain ⟨_, vs, w⟩ := r.own_in e
    rw [w] at h; cases h
  · cases z : F.G0 q with
    | none => rfl
    | some u =>
      have := r.sub _ _ (r.g0 _ _ z)
      rw [this] at h; cases h
  · obtain ⟨a, vs, e1, e2, _⟩ := r.ow i b ds e
    rw [z] at e1
    cases e1
    rw [e2] at h; cases h
  · obtain ⟨a, vs, e1, e2, _⟩ := r.od i kvs e
    rw [z] at e1
    cases e1
    rw [e2] at h; cases h
end
variable {s t : Str}
theorem Sm.dicE {ς : En} {Q : R → En → Prop} (hst : s ≠ t) (h : wp fa ς fun r ς1 => ∃ x ς1', toD r ς1 = some (x, ς1') ∧ wp fb ς1' fun r2 ς2 => ∃ y ς2', toD r2 ς2 = some (y, ς2') ∧ wp fc ς2' fun r3 ς3 => ∃ w ς3', toD r3 ς3 = some (.str w, ς3') ∧ ((w = s ∧ Q (.pure x) ς3') ∨ (w = t ∧ Q (.pure y) ς3'))) : wp (Lw.dicE s t fa fb fc) ς Q := by
  refine Sm.bd (Sm.esc (Sm.mono h fun r ς1 ⟨x, ς1', e1, h⟩ => ⟨x, ς1', e1, Sm.bd (Sm.esc (Sm.mono h fun r2 ς2 ⟨y, ς2', e2, h⟩ => ⟨y, ς2', e2, Sm.bd (Sm.esc (Sm.mono h fun r3 ς3 ⟨w, ς3', e3, h⟩ => ⟨_, ς3', e3, ?_⟩))⟩))⟩))
  show wp (if w = s ∧ s ≠ t then Lw.ret (R.pure x) else if w = t ∧ s ≠ t then Lw.ret (R.pure y) else Lw.lift none) ς3' Q
  rcases h with ⟨rfl, q⟩ | ⟨rfl, q⟩
  · rw [if_pos ⟨rfl, hst⟩]; exact Sm.ret q
  · rw [if_neg (fun z => hst z.1.symm), if_pos ⟨rfl, hst⟩]; exact Sm.ret q
end
namespace Sm
section
variable {ς : En}
instance stp_argX {ς : En} {Q : List Ar → En → Prop} {f : M R} {g : M (List Ar)} : Stp (wp (Lw.argX f g) ς Q) (wp f ς fun r ς1 => ∃ d ς2, toD r ς1 = some (d, ς2) ∧ ∃ ds, items d = some ds ∧ wp g ς2 fun as ς3 => Q (avs ds ++ as) ς3) := ⟨Sm.argX⟩
instance stp_repE {ς : En} {Q : R → En → Prop} {n : Nat} : Stp (wp (Lw.repE fa n) ς Q) (wp fa ς fun r ς1 => ∃ ds, r = .fresh ds ∧ (ds.length * n ≤ 1000 ∧ n ≤ 1000) ∧ Q (.fresh (List.replicate n ds).flatten) ς1) := ⟨Sm.repE⟩
end
end Sm
end Lw
namespace Lw
open PySem PySem.Spec PyProof.Rows L2
theorem mem5u (N : Nat) : ∀ c ∈ [N + 4, N + 2, N + 3, N, N + 1], c ≤ N + 4 := fun c hc => by
  have : c = N + 4 ∨ c = N + 2 ∨ c = N + 3 ∨ c = N ∨ c = N + 1 := by simpa using hc
  omega
theorem neN {x y : Nat} (h : x ≠ y) : x ≠ y := h
/-! ### list(zip(a, b)) -/
section
variable {P : Program} {w : World} {A : Around} {E : Value → Shared → Prop} {s : Shared}
theorem Kd.nextItem (k : Kd) {it l : Addr} {i : Nat} {its : Array Value} {x : Value} {Q : Value → Shared → Prop} (hit : k.Iter s.heap it l i) (hl : k.Is s.heap l its) (hx : its[i]? = some x) (hQ : ∀ h', k.Iter h' it l (i + 1) → Heap.SameBut it s.heap h' → Q x { s with heap := h' }) : wpAny (model P w) A (Builtin.SmallTypes.nextOf (.ref it)) Q E s := by
  cases k
  · exact wpAny_nextOf_list_item hit hl hx hQ
  · exact RZ.nextOf_tuple_item hit hl hx hQ
theorem Kd.nextEnd (k : Kd) {it l : Addr} {i : Nat} {its : Array Value} {Q : Value → Shared → Prop} (hh : A.handled = none) (hit : k.Iter s.heap it l i) (hl : k.Is s.heap l its) (hx : its[i]? = none) (hE : ∀ h' e, Heap.ExtBut it s.heap h' → (∃ o, h'.get? e = some o ∧ o.cls = .type "StopIteration") → E (.ref e) { s with heap := h' }) : wpAny (model P w) A (Builtin.SmallTypes.nextOf (.ref it)) Q E s := by
  cases k
  · exact wpAny_nextOf_list_end hh hit hl hx hE
  · exact RZ.nextOf_tuple_end hh hit hl hx hE
theorem Kd.iterExt (k : Kd) {h h' : Heap} {it l b : Addr} {i : Nat} (x : k.Iter h it l i) (hs : Heap.ExtBut b h h') (hb : it ≠ b) : k.Iter h' it l i := by
  cases k
  · exact Heap.IsListIter.extBut x hs hb
  · exact Heap.IsTupleIter.extBut x hs hb
theorem Kd.isExt (k : Kd) {h h' : Heap} {l b : Addr} {its : Array Value} (x : k.Is h l its) (hs : Heap.ExtBut b h h') (hb : l ≠ b) : k.Is h' l its := by
  cases k
  · exact Heap.IsList.extBut x hs hb
  · exact Heap.IsTuple.extBut x hs hb
theorem held_item {k1 k2 : Kd} {z TI TO T i1 i2 l1 l2 : Addr} {f : Bool} {oT : Obj} {n1 n2 : Nat} {xs ys : Array Value} {x y : Value} {Q : Value → Shared → Prop} (D : ZipApart z TI TO i1 i2 l1 l2) (hz : IsZipHeld s.heap z TI TO T f) (hT : s.heap.get? T = some oT) (hTI : IsPair s.heap TI (.ref i1) (.ref i2))
    (h1 : k1.Iter s.heap i1 l1 n1) (h2 : k2.Iter s.heap i2 l2 n2) (hl1 : k1.Is s.heap l1 xs) (hl2 : k2.Is s.heap l2 ys) (hx : xs[n1]? = some x) (hy : ys[n2]? = some y)
    (hQ : ∀ h', IsZipHeld h' z TI TO T true → k1.Iter h' i1 l1 (n1 + 1) → k2.Iter h' i2 l2 (n2 + 1) → IsPair h' s.heap.objs.size x y → (∀ c o, c ≠ z → c ≠ i1 → c ≠ i2 → s.heap.get? c = some o → h'.get? c = some o) → Q (.ref s.heap.objs.size) { s with heap := h' }) :
    wpAny (model P w) A (Builtin.«zip.__next__» ⟨[.ref z], []⟩) (fun fin s' => ∃ v, fin = .done (.ret v) ∧ Q v s') E s := by
  show wpAny _ _ (field (.ref z) 2 >>= _) _ _ _
  refine wpAny_bind (wpAny_field hz rfl (x := .bool false) rfl ?_)
  show wpAny _ _ (field (.ref z) 3 >>= _) _ _ _
  refine wpAny_bind (wpAny_field hz rfl (x := .ref TI) rfl (wpAny_bind (wpAny_seqItems hTI rfl ?_)))
  show wpAny _ _ (Builtin.SmallTypes.ownedTupleIsFree (.ref z) >>= _) _ _ _
  refine wpAny_bind (wpAny_tupleHeld_zip hz hT fun g₁ hz₁ hs₁ => ?_)
  simp only [Bool.false_eq_true, if_false]
  refine wpAny_bind ?_
  rw [← Array.forIn_toList]
  simp only [List.forIn_cons, List.forIn_nil]
  refine wpAny_bind (wpAny_bind (wpAny_holding ?_))
  show wpAny _ _ (Builtin.SmallTypes.nextOf (.ref i1) >>= _) _ _ _
  refine wpAny_bind (k1.nextItem (s := { s with heap := g₁ }) (k1.iterExt h1 hs₁.extBut D.i1z) (k1.isExt hl1 hs₁.extBut D.l1z) hx fun g₂ h1₂ hs₂ => wpAny_pure (wpAny_pure ?_))
  refine wpAny_bind (wpAny_bind (wpAny_holding ?_))
  show wpAny _ _ (Builtin.SmallTypes.nextOf (.ref i2) >>= _) _ _ _
  refine wpAny_bind (k2.nextItem (s := { s with heap := g₂ }) (k2.iterExt (k2.iterExt h2 hs₁.extBut D.i2z) hs₂.extBut D.i12.symm) (k2.isExt (k2.isExt hl2 hs₁.extBut D.l2z) hs₂.extBut D.l2i1) hy fun g₃ h2₃ hs₃ => wpAny_pure (wpAny_pure (wpAny_pure ?_)))
  show wpAny _ _ (newTuple [x, y] >>= _) _ _ _
  refine wpAny_bind (wpAny_newTuple (wpAny_pure ⟨_, rfl, ?_⟩))
  have hsz : g₃.objs.size = s.heap.objs.size := by rw [hs₃.1, hs₂.1, hs₁.1]
  have hz₃ : IsZipHeld g₃ z TI TO T true := hs₃.extBut _ _ D.i2z.symm (hs₂.extBut _ _ D.i1z.symm hz₁)
  show Q (.ref g₃.objs.size) _
  have hp : IsPair (g₃.push { cls := .type "tuple", data := .seq #[x, y] }) g₃.objs.size x y := Heap.get?_push_size _ rfl
  rw [hsz] at hp ⊢
  exact hQ _ (Heap.get?_push_of_some _ hz₃) (k1.iterAt (k1.iterExt h1₂ hs₃.extBut D.i12) fun o e => Heap.get?_push_of_some _ e) (k2.iterAt h2₃ fun o e => Heap.get?_push_of_some _ e) hp fun c o c1 c2 c3 e => Heap.get?_push_of_some _ (hs₃.extBut _ _ c3 (hs₂.extBut _ _ c2 (hs₁.extBut _ _ c1 e)))
theorem held_end {k1 k2 : Kd} {z TI TO T i1 i2 l1 l2 : Addr} {f : Bool} {oT : Obj} {n1 n2 : Nat} {xs ys : Array Value} {Q : Fin → Shared → Prop} (hh : A.handled = none) (D : ZipApart z TI TO i1 i2 l1 l2) (hz : IsZipHeld s.heap z TI TO T f) (hT : s.heap.get? T = some oT) (hTI : IsPair s.heap TI (.ref i1) (.ref i2))
    (h1 : k1.Iter s.heap i1 l1 n1) (h2 : k2.Iter s.heap i2 l2 n2) (hl1 : k1.Is s.heap l1 xs) (hl2 : k2.Is s.heap l2 ys) (hend : xs[n1]? = none ∨ ys[n2]? = none)
    (hE : ∀ h' e, (∀ c o, c ≠ z → c ≠ i1 → c ≠ i2 → s.heap.get? c = some o → h'.get? c = some o) → (∃ o, h'.get? e = some o ∧ o.cls = .type "StopIteration") → E (.ref e) { s with heap := h' }) : wpAny (model P w) A (Builtin.«zip.__next__» ⟨[.ref z], []⟩) Q E s := by
  show wpAny _ _ (field (.ref z) 2 >>= _) _ _ _
  refine wpAny_bind (wpAny_field hz rfl (x := .bool false) rfl ?_)
  show wpAny _ _ (field (.ref z) 3 >>= _) _ _ _
  refine wpAny_bind (wpAny_field hz rfl (x := .ref TI) rfl (wpAny_bind (wpAny_seqItems hTI rfl ?_)))
  show wpAny _ _ (Builtin.SmallTypes.ownedTupleIsFree (.ref z) >>= _) _ _ _
  refine wpAny_bind (wpAny_tupleHeld_zip hz hT fun g₁ hz₁ hs₁ => ?_)
  simp only [Bool.false_eq_true, if_false]
  refine wpAny_bind ?_
  rw [← Array.forIn_toList]
  simp only [List.forIn_cons, List.forIn_nil]
  refine wpAny_bind (wpAny_bind (wpAny_holding ?_))
  show wpAny _ _ (Builtin.SmallTypes.nextOf (.ref i1) >>= _) _ _ _
  cases hx : xs[n1]? with
  | none => exact wpAny_bind (k1.nextEnd (s := { s with heap := g₁ }) hh (k1.iterExt h1 hs₁.extBut D.i1z) (k1.isExt hl1 hs₁.extBut D.l1z) hx fun g₂ e hs₂ he => hE g₂ e (fun c o c1 c2 _ x => hs₂ _ _ c2 (hs₁.extBut _ _ c1 x)) he)
  | some x =>
    have hy : ys[n2]? = none := by rcases hend with h | h; rw [hx] at h; cases h; exact h
    refine wpAny_bind (k1.nextItem (s := { s with heap := g₁ }) (k1.iterExt h1 hs₁.extBut D.i1z) (k1.isExt hl1 hs₁.extBut D.l1z) hx fun g₂ h1₂ hs₂ => wpAny_pure (wpAny_pure ?_))
    refine wpAny_bind (wpAny_bind (wpAny_holding ?_))
    show wpAny _ _ (Builtin.SmallTypes.nextOf (.ref i2) >>= _) _ _ _
    exact wpAny_bind (k2.nextEnd (s := { s with heap := g₂ }) hh (k2.iterExt (k2.iterExt h2 hs₁.extBut D.i2z) hs₂.extBut D.i12.symm) (k2.isExt (k2.isExt hl2 hs₁.extBut D.l2z) hs₂.extBut D.l2i1) hy fun g₃ e hs₃ he => hE g₃ e (fun c o c1 c2 c3 x => hs₃ _ _ c3 (hs₂.extBut _ _ c2 (hs₁.extBut _ _ c1 x))) he)
/-- a zip, its last tuple out or not -/
def ZSt (k1 k2 : Kd) (z TI TO i1 i2 a b : Addr) (i : Nat) (h : Heap) : Prop := IsPair h TI (.ref i1) (.ref i2) ∧ (∃ x y, IsPair h TO x y) ∧ k1.Iter h i1 a i ∧ k2.Iter h i2 b i ∧ (IsZip h z TI TO .none ∨ ∃ T f oT, IsZipHeld h z TI TO T f ∧ h.get? T = some oT ∧ T ≠ z ∧ T ≠ TO ∧ T ≠ i1 ∧ T ≠ i2)
theorem znext_item {k1 k2 : Kd} {z TI TO i1 i2 a b : Addr} {i : Nat} {xs ys : Array Value} {Q : Option Value → Shared → Prop} (hh : A.handled = none) (D : ZipApart z TI TO i1 i2 a b) (SP : ZipSep2 z TI TO i1 i2 [i1, a] [i2, b]) (st : ZSt k1 k2 z TI TO i1 i2 a b i s.heap) (hl1 : k1.Is s.heap a xs) (hl2 : k2.Is s.heap b ys) (hi1 : i < xs.size) (hi2 : i < ys.size)
    (hQ : ∀ x y h' tk, xs[i]? = some x → ys[i]? = some y → ZSt k1 k2 z TI TO i1 i2 a b (i + 1) h' → IsPair h' s.heap.objs.size x y → (∀ c o, c ≠ z → c ≠ TO → c ≠ i1 → c ≠ i2 → s.heap.get? c = some o → h'.get? c = some o) → Q (some (.ref s.heap.objs.size)) { s with heap := h', toks := tk }) : wpAny (model P w) A (pyNext (.ref z)) Q E s := by
  obtain ⟨e1, ⟨p, q, e2⟩, e3, e4, e5⟩ := st
  rcases e5 with e5 | ⟨T, f, oT, e5, e6, n1, n2, n3, n4⟩
  · have D1 := k1.draws (P := P) (w := w) (A := A.in1) hh i1 a D.l1i1 xs
    have D2 := k2.draws (P := P) (w := w) (A := A.in1) hh i2 b D.l2i2 ys
    obtain ⟨_, u1, _⟩ := k1.iterOb e3
    obtain ⟨_, u2, _⟩ := k2.iterOb e4
    have lz := Heap.lt_size e5
    have lt := Heap.lt_size e2
    have l1 := Heap.lt_size u1
    have l2 := Heap.lt_size u2
    exact wpAny_pyNext_zipD2_item SP D1 D2 e5 e1 e2 ⟨e3, hl1⟩ ⟨e4, hl2⟩ hi1 hi2 fun x y h' tk hx hy b1 b2 b3 b4 b5 b6 b7 => hQ x y h' tk hx hy ⟨b7 TI _ D.TIz D.TITO D.TIi1 D.TIi2 e1, ⟨x, y, b2⟩, b3.1, b4.1, .inr ⟨_, false, _, b1, b5, Nat.ne_of_gt lz, Nat.ne_of_gt lt, Nat.ne_of_gt l1, Nat.ne_of_gt l2⟩⟩ b5 b7
  · have hTy : s.TypeIs (.ref z) "zip" := ⟨_, e5, rfl⟩
    obtain ⟨x, hx⟩ : ∃ x, xs[i]? = some x := ⟨_, Array.getElem?_eq_getElem hi1⟩
    obtain ⟨y, hy⟩ : ∃ y, ys[i]? = some y := ⟨_, Array.getElem?_eq_getElem hi2⟩
    unfold pyNext
    refine wpAny_bind (wpAny_attempt (wpAny_callSpecial?_slot (name := Str.ofString "__next__") hTy F.slot_zip_next (wpAny_call_entry F.slot_zip_next hTy F.entry_zip_next (held_item D e5 e6 e1 e3 e4 hl1 hl2 hx hy fun h' c1 c2 c3 c4 c5 => wpAny_pure ?_) (F.args_zip_next_1 _))))
    exact hQ x y h' s.toks hx hy ⟨c5 TI _ D.TIz D.TIi1 D.TIi2 e1, ⟨p, q, c5 TO _ D.TOz D.TOi1 D.TOi2 e2⟩, c2, c3, .inr ⟨T, true, oT, c1, c5 T _ n1 n3 n4 e6, n1, n2, n3, n4⟩⟩ c4 fun c o a1 a2 a3 a4 e => c5 c o a1 a3 a4 e
theorem znext_end {k1 k2 : Kd} {z TI TO i1 i2 a b : Addr} {i : Nat} {xs ys : Array Value} {Q : Option Value → Shared → Prop} (hh : A.handled = none) (D : ZipApart z TI TO i1 i2 a b) (SP : ZipSep2 z TI TO i1 i2 [i1, a] [i2, b]) (st : ZSt k1 k2 z TI TO i1 i2 a b i s.heap) (hl1 : k1.Is s.heap a xs) (hl2 : k2.Is s.heap b ys) (hi1 : i ≤ xs.size) (hi2 : i ≤ ys.size) (hend : i = xs.size ∨ i = ys.size)
    (hQ : ∀ h' tk, (∀ c o, c ≠ z → c ≠ TO → c ≠ i1 → c ≠ i2 → s.heap.get? c = some o → h'.get? c = some o) → Q none { s with heap := h', toks := tk }) : wpAny (model P w) A (pyNext (.ref z)) Q E s := by
  obtain ⟨e1, ⟨p, q, e2⟩, e3, e4, e5⟩ := st
  rcases e5 with e5 | ⟨T, f, oT, e5, e6, n1, n2, n3, n4⟩
  · have D1 := k1.draws (P := P) (w := w) (A := A.in1) hh i1 a D.l1i1 xs
    have D2 := k2.draws (P := P) (w := w) (A := A.in1) hh i2 b D.l2i2 ys
    exact wpAny_pyNext_zipD2_end SP D1 D2 e5 e1 e2 ⟨e3, hl1⟩ ⟨e4, hl2⟩ hi1 hi2 hend hQ
  · have hTy : s.TypeIs (.ref z) "zip" := ⟨_, e5, rfl⟩
    have he : xs[i]? = none ∨ ys[i]? = none := by
      rcases hend with h | h
      · exact .inl (by simp [h])
      · exact .inr (by simp [h])
    unfold pyNext
    refine wpAny_bind (wpAny_attempt (wpAny_callSpecial?_slot (name := Str.ofString "__next__") hTy F.slot_zip_next (wpAny_call_entry F.slot_zip_next hTy F.entry_zip_next (held_end hh D e5 e6 e1 e3 e4 hl1 hl2 he fun h' e hk hee => ?_) (F.args_zip_next_1 _))))
    obtain ⟨o, ho, hc⟩ := hee
    exact wpAny_bind (wpAny_isInstance (T := "StopIteration") (b := true) ⟨o, ho, hc⟩ isSubtype_stop (wpAny_pure (hQ h' s.toks fun c o a1 a2 a3 a4 e => hk c o a1 a3 a4 e)))
theorem ZSt.upd {k1 k2 : Kd} {z TI TO i1 i2 a b S : Addr} {i : Nat} {h h' : Heap} (st : ZSt k1 k2 z TI TO i1 i2 a b i h) (hS : S ≠ z ∧ S ≠ TI ∧ S ≠ TO ∧ S ≠ i1 ∧ S ≠ i2) (hk : ∀ c o, c ≠ S → h.get? c = some o → h'.get? c = some o) (hs : ∃ o, h'.get? S = some o) : ZSt k1 k2 z TI TO i1 i2 a b i h' := by
  obtain ⟨e1, ⟨p, q, e2⟩, e3, e4, e5⟩ := st
  refine ⟨hk _ _ hS.2.1.symm e1, ⟨p, q, hk _ _ hS.2.2.1.symm e2⟩, k1.iterAt e3 fun o e => hk _ _ hS.2.2.2.1.symm e, k2.iterAt e4 fun o e => hk _ _ hS.2.2.2.2.symm e, ?_⟩
  rcases e5 with e5 | ⟨T, f, oT, e5, e6, n⟩
  · exact .inl (hk _ _ hS.1.symm e5)
  · by_cases hT : T = S
    · obtain ⟨o, ho⟩ := hs
      exact .inr ⟨T, f, o, hk _ _ hS.1.symm e5, by rw [hT]; exact ho, n⟩
    · exact .inr ⟨T, f, oT, hk _ _ hS.1.symm e5, hk _ _ hT e6, n⟩
theorem zloop {X : Cx} {pins : List (Addr × Obj)} {σ : L2.St} {k1 k2 : Kd} {z TI TO i1 i2 a b S : Addr} {xs ys : List V} {res : Value} {R : Result → Shared → Prop} (W : Nat → List V → Hp → Prop) (hh : A.handled = none) (D : ZipApart z TI TO i1 i2 a b) (SP : ZipSep2 z TI TO i1 i2 [i1, a] [i2, b]) (hS : S ≠ z ∧ S ≠ TI ∧ S ≠ TO ∧ S ≠ i1 ∧ S ≠ i2) (hn : min xs.length ys.length ≤ sizeLine)
    (hW : ∀ i vs H, W i vs H → vs.length = i ∧ H S = some (.lst vs) ∧ k1.Sq X.K H a xs ∧ k2.Sq X.K H b ys)
    (hstep : ∀ i vs H T, i < min xs.length ys.length → W i vs H → H T = none → W (i + 1) (vs ++ [.ref T]) (upd (upd H T (.tup [xs.getD i .non, ys.getD i .non])) S (.lst (vs ++ [.ref T]))))
    (hend : ∀ vs H s', W (min xs.length ys.length) vs H → Inv X pins σ H s' → R (.ok (.ret res)) s') :
    ∀ (m i : Nat) (vs : List V) (H : Hp) (s : Shared), m = min xs.length ys.length - i → i ≤ min xs.length ys.length → W i vs H → Inv X pins σ H s → (∀ c ∈ [z, TI, TO, i1, i2], FpOk X pins H c) → ZSt k1 k2 z TI TO i1 i2 a b i s.heap →
      codeAny (model X.prog X.w) A (.builtin "list.extend.loop" ⟨[.ref S, .ref z, res], []⟩) R s := by
  intro m
  induction m with
  | zero =>
    intro i vs H s hm hi w0 I hf st
    have ei : i = min xs.length ys.length := by omega
    obtain ⟨_, hHS, q1, q2⟩ := hW i vs H w0
    obtain ⟨its, r1, s1, _⟩ := k1.inv I q1
    obtain ⟨its2, r2, s2, _⟩ := k2.inv I q2
    have l1 := r1.length
    have l2 := r2.length
    refine codeAny_builtin F.entry_extend_loop ?_
    rw [Around.under_plainId F.plain_extend_loop _]
    show wpAny _ A.in1 (pyNext (.ref z) >>= _) _ _ s
    refine wpAny_bind (znext_end (A := A.in1) hh D SP st s1 s2 (by rw [List.size_toArray]; omega) (by rw [List.size_toArray]; omega) (by rw [List.size_toArray, List.size_toArray]; omega) fun h' tk hk => wpAny_pure ?_)
    subst ei
    exact hend vs H _ w0 (I.turnedL (ch := [z, TI, TO, i1, i2]) (fun c o hc q => hk c o (fun e => hc (by simp [e])) (fun e => hc (by simp [e])) (fun e => hc (by simp [e])) (fun e => hc (by simp [e])) q) hf)
  | succ m ih =>
    intro i vs H s hm hi w0 I hf st
    have hlt : i < min xs.length ys.length := by omega
    obtain ⟨hvl, hHS, q1, q2⟩ := hW i vs H w0
    obtain ⟨its, r1, s1, _⟩ := k1.inv I q1
    obtain ⟨its2, r2, s2, _⟩ := k2.inv I q2
    have l1 := r1.length
    have l2 := r2.length
    refine codeAny_builtin F.entry_extend_loop ?_
    rw [Around.under_plainId F.plain_extend_loop _]
    show wpAny _ A.in1 (pyNext (.ref z) >>= _) _ _ s
    refine wpAny_bind (znext_item (A := A.in1) hh D SP st s1 s2 (by rw [List.size_toArray]; omega) (by rw [List.size_toArray]; omega) fun x y h' tk hx hy st' hp hk => ?_)
    have hTn : H s.heap.objs.size = none := I.hok.fresh (Nat.le_refl _)
    have new : ObjOk X.prog X.w (upd H s.heap.objs.size (.tup [xs.getD i .non, ys.getD i .non])) h' s.heap.objs.size (.tup [xs.getD i .non, ys.getD i .non]) :=
      ⟨by show 2 ≤ sizeLine; decide, [x, y], .cons (vals_at r1 (by omega) hx) (.cons (vals_at r2 (by omega) hy) .nil), ⟨_, hp, rfl, _, rfl⟩⟩
    have I1 : Inv X pins σ (upd H s.heap.objs.size (.tup [xs.getD i .non, ys.getD i .non])) { s with heap := h', toks := tk } :=
      I.turnedNew (ch := [z, TI, TO, i1, i2]) (fun c o hc q => hk c o (fun e => hc (by simp [e])) (fun e => hc (by simp [e])) (fun e => hc (by simp [e])) (fun e => hc (by simp [e])) q) hf (Nat.le_refl _) new
    have hST : S ≠ s.heap.objs.size := fun e => by rw [e, hTn] at hHS; cases hHS
    have hH1 : upd H s.heap.objs.size (.tup [xs.getD i .non, ys.getD i .non]) S = some (.lst vs) := by rw [upd_ne hST]; exact hHS
    obtain ⟨zz, its3, c, r3, hl3, e3⟩ := I1.lstM hH1
    have hl4 : its3.length = vs.length := r3.length.symm
    show wpAny _ A.in1 (updateSeq S (·.push (.ref s.heap.objs.size)) >>= _) _ _ _
    refine wpAny_bind ?_
    refine wpAny_updateSeq e3 rfl (wpAny_pure ⟨plainId_quiet F.plain_extend_loop _, ?_⟩) (by rw [List.size_toArray]; omega) (by show (its3.toArray.push _).size ≤ sizeLine + 1; rw [Array.size_push, List.size_toArray]; omega)
    have I2 : Inv X pins σ (upd (upd H s.heap.objs.size (.tup [xs.getD i .non, ys.getD i .non])) S (.lst (vs ++ [.ref s.heap.objs.size]))) { s with heap := h'.update S (Obj.mapSeq (·.push (.ref s.heap.objs.size))), toks := tk } :=
      I1.lset (its' := its3 ++ [.ref s.heap.objs.size]) (t' := tk) hH1 e3 (by simp) (r3.append (.cons (show L2.RelV (V.ref s.heap.objs.size) (Value.ref s.heap.objs.size) from rfl) .nil)) (by rw [List.length_append, List.length_singleton]; omega)
    refine ih (i + 1) (vs ++ [.ref s.heap.objs.size]) _ _ (by omega) hlt (hstep i vs H _ hlt w0 hTn) I2 (fun c' hc => ?_) (st'.upd hS (fun c' o hc q => (Heap.get?_update_other _ _ (Ne.symm hc)).trans q) ⟨_, Heap.get?_update_self (Obj.mapSeq (·.push (.ref s.heap.objs.size))) e3 rfl⟩)
    have hlt' : c' < s.heap.objs.size := by
      obtain ⟨e1, ⟨p, q, e2⟩, e3', e4, e5⟩ := st
      have hz : z < s.heap.objs.size := by rcases e5 with e5 | ⟨T, f, oT, e5, _⟩ <;> exact Heap.lt_size e5
      obtain ⟨_, u1, _⟩ := k1.iterOb e3'
      obtain ⟨_, u2, _⟩ := k2.iterOb e4
      have : c' = z ∨ c' = TI ∨ c' = TO ∨ c' = i1 ∨ c' = i2 := by simpa using hc
      rcases this with rfl | rfl | rfl | rfl | rfl
      · exact hz
      · exact Heap.lt_size e1
      · exact Heap.lt_size e2
      · exact Heap.lt_size u1
      · exact Heap.lt_size u2
    have hcS : c' ≠ S := by
      have : c' = z ∨ c' = TI ∨ c' = TO ∨ c' = i1 ∨ c' = i2 := by simpa using hc
      rcases this with rfl | rfl | rfl | rfl | rfl
      · exact hS.1.symm
      · exact hS.2.1.symm
      · exact hS.2.2.1.symm
      · exact hS.2.2.2.1.symm
      · exact hS.2.2.2.2.symm
    obtain ⟨f0, f1⟩ := hf c' hc
    exact ⟨by rw [upd_ne hcS, upd_ne (Nat.ne_of_lt hlt')]; exact f0, f1⟩
theorem zip_no_len : typeLookup (.type "zip") "__len__" = pure none := by rw [typeLookup_type, builtinLookup_eq_fast]; kernel_rfl
theorem zip_no_hint : typeLookup (.type "zip") "__length_hint__" = pure none := by rw [typeLookup_type, builtinLookup_eq_fast]; kernel_rfl
theorem list_zip {z TI TO : Addr} {Q : Value → Shared → Prop} (hz : IsZip s.heap z TI TO .none)
    (h : ∀ h' c, (∀ b o, s.heap.get? b = some o → h'.get? b = some o) → h'.get? s.heap.objs.size = some { cls := .type "list", data := .seq #[] c } → ∀ R : Result → Shared → Prop, (∀ s', Q (.ref s.heap.objs.size) s' → R (.ok (.ret .none)) s') → codeAny (model P w) A.in1 (.builtin "list.extend.loop" ⟨[.ref s.heap.objs.size, .ref z, .none], []⟩) R { s with heap := h' }) :
    wpAny (model P w) A (call (.type "list") [.ref z]) Q E s := by
  have hSz : s.heap.objs.size ≠ z := Nat.ne_of_gt (Heap.lt_size hz)
  refine callType_codes (Q₁ := fun obj s₁ => obj = .ref s.heap.objs.size ∧ s₁ = { s with heap := s.heap.push { cls := .type "list", data := .seq #[] } }) F.called_list (F.typeCall_list_1 _) F.entry_list_init (code_list_new _ ⟨rfl, rfl⟩) fun obj s₁ h₁ => ?_
  obtain ⟨rfl, rfl⟩ := h₁
  have hS : (s.heap.push { cls := .type "list", data := .seq #[] }).get? s.heap.objs.size = some { cls := .type "list", data := .seq #[] } := Heap.get?_push_size _ rfl
  refine ⟨⟨_, hS, rfl⟩, F.args_list_init_2 _ _, ?_⟩
  show wpAny _ A.in1.in1 (do let old ← Builtin.List.listItems (.ref s.heap.objs.size); Builtin.List.listUpdate (.ref s.heap.objs.size) (fun _ => #[]); letGo old.toList.reverse; Builtin.List.listExtendWith (.ref s.heap.objs.size) (.ref z) .none) _ _ _
  refine wpAny_bind ?_
  unfold Builtin.List.listItems
  refine wpAny_bind (wpAny_seqItems hS rfl (wpAny_pure ?_))
  show wpAny _ A.in1.in1 (updateSeq s.heap.objs.size (fun _ => #[]) >>= fun _ => letGo (#[] : Array Value).toList.reverse >>= fun _ => Builtin.List.listExtendWith (.ref s.heap.objs.size) (.ref z) .none) _ _ _
  refine wpAny_bind (wpAny_updateSeq hS rfl ?_)
  have hS2 := Heap.get?_update_self (Obj.mapSeq (fun _ => (#[] : Array Value))) hS rfl
  refine wpAny_bind (wpAny_letGo ?_)
  unfold Builtin.List.listExtendWith
  have up : ∀ (h : Heap) (f : Obj → Obj), (∀ b o, s.heap.get? b = some o → h.get? b = some o) → ∀ b o, s.heap.get? b = some o → (h.update s.heap.objs.size f).get? b = some o := fun h f q b o e => (Heap.get?_update_other _ _ (Ne.symm (Nat.ne_of_lt (Heap.lt_size e)))).trans (q b o e)
  have u1 : ∀ b o, s.heap.get? b = some o → (s.heap.push { cls := .type "list", data := .seq #[] }).get? b = some o := fun b o e => Heap.get?_push_of_some _ e
  have u2 := up _ (Obj.mapSeq (fun _ => (#[] : Array Value))) u1
  have zt : ∀ {g : Heap}, (∀ b o, s.heap.get? b = some o → g.get? b = some o) → Shared.TypeIs { s with heap := g } (.ref z) "zip" := fun {g} q => ⟨_, q _ _ hz, rfl⟩
  refine wpAny_bind (wpAny_typeOf (zt u2) ?_)
  have b1 : Builtin.List.listSameRef (.ref s.heap.objs.size) (.ref z) = false := by simp [Builtin.List.listSameRef, hSz]
  have b2 : (Value.type "zip" == Value.type "list") = false := by decide
  have b3 : (Value.type "zip" == Value.type "tuple") = false := by decide
  simp only [b1, b2, b3, Bool.or_false, Bool.false_eq_true, if_false]
  refine wpAny_bind (wpAny_pyIter_zip (u2 _ _ hz) ?_)
  refine wpAny_bind (wpAny_holding ?_)
  unfold Builtin.List.listLengthHint
  refine wpAny_bind (wpAny_specialOf (zt u2) zip_no_len ?_)
  show wpAny _ A.in1.in1 (specialOf (Value.ref z) (Str.ofString "__length_hint__") >>= _) _ _ _
  refine wpAny_bind (wpAny_specialOf (zt u2) zip_no_hint (wpAny_pure ?_))
  show wpAny _ A.in1.in1 (rule "list.extend.makes-room" >>= fun _ => Builtin.List.listTouch (.ref s.heap.objs.size) >>= fun _ => again (.builtin "list.extend.loop" ⟨[.ref s.heap.objs.size, .ref z, .none], []⟩)) _ _ _
  refine wpAny_bind (wpAny_rule (wpAny_bind ?_))
  show wpAny _ A.in1.in1 (updateSeq s.heap.objs.size (·.push .none) >>= fun _ => updateSeq s.heap.objs.size (·.pop)) _ _ _
  refine wpAny_bind (wpAny_updateSeq hS2 rfl ?_)
  have hS3 := Heap.get?_update_self (Obj.mapSeq (·.push Value.none)) hS2 rfl
  refine wpAny_updateSeq (hz := by seq_fits) hS3 rfl ?_
  have hS4 := Heap.get?_update_self (Obj.mapSeq (·.pop)) hS3 rfl
  refine wpAny_pure ⟨plainId_quiet F.plain_extend_loop _, ?_⟩
  exact h _ _ (up _ (Obj.mapSeq (·.pop)) (up _ (Obj.mapSeq (·.push Value.none)) u2)) hS4 _ fun s' q => ⟨rfl, q⟩
end
def tLz (K : PySem.W.Frag) (ta : TA) : TE := fun σ H Q => ta σ H fun vs H1 => ∃ (k1 k2 : Kd) (a b : Addr) (xs ys : List V), vs = [.ref a, .ref b] ∧ k1.Sq K H1 a xs ∧ k2.Sq K H1 b ys ∧ min xs.length ys.length ≤ sizeLine ∧ ∃ W : Addr → Nat → List V → Hp → Prop,
  (∀ S, H1 S = none → W S 0 [] (upd H1 S (.lst []))) ∧ (∀ S i vs H, W S i vs H → vs.length = i ∧ H S = some (.lst vs) ∧ k1.Sq K H a xs ∧ k2.Sq K H b ys) ∧
  (∀ S i vs H T, i < min xs.length ys.length → W S i vs H → H T = none → W S (i + 1) (vs ++ [.ref T]) (upd (upd H T (.tup [xs.getD i .non, ys.getD i .non])) S (.lst (vs ++ [.ref T])))) ∧ ∀ S vs H, W S (min xs.length ys.length) vs H → Q (.ref S) H
theorem pe_lz {X : Cx} {e e2 : Expr} {ta : TA} {p p2 pos pos2 : Pos} (hc : X.calm = true) (hg : Gl X "list") (hm : X.mg "list" = none) (hg2 : Gl X "zip") (hm2 : X.mg "zip" = none) (ha : PA X [e, e2] ta) (na : starEach [.Call (.Name "zip" p2) [e, e2] [] pos2] X.env = (false, eval (.Call (.Name "zip" p2) [e, e2] [] pos2) X.env) :: starEach [] X.env := by rfl)
    (hs : starEach [e, e2] X.env = (false, eval e X.env) :: starEach [e2] X.env := by rfl) (hpl : (backTo pos2 (starEach [e2] X.env)).any (·.1) = false := by rfl) : PE X (.Call (.Name "list" p) [.Call (.Name "zip" p2) [e, e2] [] pos2] [] pos) (tLz X.K ta) := by
  constructor
  intro pins s σ H Q I h
  refine Call_ (ld_blt I hg hm boot_list ?_)
  refine PyProof.Rows.callWith_type1 (PyProof.Rows.args_cons ?_ na) na rfl
  refine Call_ (ld_blt I hg2 hm2 PyProof.Rows.boot_zip (PyProof.Rows.callWith_type1 (thn (ha.run pos2 pins s σ H _ I h) fun us s1 ⟨vs, H1, I1, r1, q1⟩ => ?_) hs hpl))
  obtain ⟨k1, k2, a, b, xs, ys, ex, h1, h2, hn, W, w0, w1, w2, q⟩ := q1
  subst ex
  obtain ⟨v1, us1, rfl, ra, r1⟩ : ∃ u us', us = u :: us' ∧ RelV (.ref a) u ∧ Vals [.ref b] us' := by cases r1 with | cons x y => exact ⟨_, _, rfl, x, y⟩
  obtain ⟨v2, us2, rfl, rb, r1⟩ : ∃ u us', us1 = u :: us' ∧ RelV (.ref b) u ∧ Vals [] us' := by cases r1 with | cons x y => exact ⟨_, _, rfl, x, y⟩
  cases r1
  cases ra
  cases rb
  obtain ⟨its, x1, s1', l1⟩ := k1.inv I1 h1
  obtain ⟨its2, x2, s2', l2⟩ := k2.inv I1 h2
  refine zip_begins2 (k1.begins a its.toArray) (k2.begins b its2.toArray) s1' s2' fun h' hz hTI hTO g1 g2 hsz hk => PyProof.Rows.args_nil ?_
  have I2 : Inv X pins σ H1 { s1 with heap := h' } := I1.kept (t' := s1.toks) hk
  have hhd : X.A.in1.handled = none := I1.ok.hd hc
  refine list_zip (s := { s1 with heap := h' }) hz fun h'' c hk2 hS R hR => ?_
  have hfr : H1 h'.objs.size = none := I2.hok.fresh (Nat.le_refl _)
  have I3 : Inv X pins σ (upd H1 h'.objs.size (.lst [])) { s1 with heap := h'' } := I2.laid (t' := s1.toks) hk2 (Nat.le_refl _) ⟨by show 0 ≤ sizeLine; exact Nat.zero_le _, [], c, .nil, hS⟩
  have hN : h'.objs.size = s1.heap.objs.size + 5 := hsz
  refine zloop (X := X) (k1 := k1) (k2 := k2) (TI := s1.heap.objs.size + 2) (TO := s1.heap.objs.size + 3) (i1 := s1.heap.objs.size) (i2 := s1.heap.objs.size + 1) (a := a) (b := b) (xs := xs) (ys := ys) (W h'.objs.size) hhd (PySem.W.ktu_apart s1.heap.objs.size a b l1 l2) (zip_sep2 (fun d hd => by cases List.mem_singleton.1 hd; exact l1) (fun d hd => by cases List.mem_singleton.1 hd; exact l2)) ?_ hn (w1 _) (w2 _) (fun vs H s' w I' => hR s' ⟨.ref h'.objs.size, H, I', rfl, q _ _ _ w⟩) _ 0 [] _ _ rfl (Nat.zero_le _) (w0 _ hfr) I3 ?_ ?_
  · rw [hN]
    refine ⟨?_, ?_, ?_, ?_, ?_⟩ <;> (refine neN ?_; omega)
  · intro d hd
    have hle := mem5 s1.heap.objs.size d hd
    have hlt : d < h'.objs.size := by rw [hN]; exact Nat.lt_of_le_of_lt (mem5u s1.heap.objs.size d hd) (by omega)
    refine I1.fpOk hle ?_
    rw [upd_ne (Nat.ne_of_lt hlt)]
    exact I1.hok.fresh hle
  · exact ⟨hk2 _ _ hTI, ⟨_, _, hk2 _ _ hTO⟩, k1.iterAt (k1.iter0 g1) fun o e => hk2 _ _ e, k2.iterAt (k2.iter0 g2) fun o e => hk2 _ _ e, .inl (hk2 _ _ hz)⟩
end Lw
namespace Lw
open PySem PySem.Spec PyProof.Rows L2
variable {X : Cx} {e a b : Expr} {f fa fb : M R} {p p2 pos pos2 : Pos}
/-! ### list(zip(a, b)) -/
def lzE (fa fb : M R) : M R := bd (itZ2 fa fb) fun zs => if small zs.length = true then ret (.fresh zs) else lift none
theorem take_succ_get {zs : List D} {i : Nat} {z : D} (e : zs[i]? = some z) : zs.take (i + 1) = zs.take i ++ [z] := by
  rw [List.take_add_one, e]; rfl
theorem d_lz (hc : X.calm = true) (hg : Gl X "list") (hm : X.mg "list" = none) (hg2 : Gl X "zip") (hm2 : X.mg "zip" = none) (ha : PEd X a fa) (hb : PEd X b fb) (na : starEach [.Call (.Name "zip" p2) [a, b] [] pos2] X.env = (false, eval (.Call (.Name "zip" p2) [a, b] [] pos2) X.env) :: starEach [] X.env := by rfl)
    (hs1 : starEach [a, b] X.env = (false, eval a X.env) :: starEach [b] X.env := by rfl) (hs2 : starEach [b] X.env = (false, eval b X.env) :: starEach [] X.env := by rfl) (hpl : (backTo pos2 (starEach [b] X.env)).any (·.1) = false := by rfl) :
    PEd X (.Call (.Name "list" p) [.Call (.Name "zip" p2) [a, b] [] pos2] [] pos) (lzE fa fb) := fun F => PE.mono (pe_lz hc hg hm hg2 hm2 (pa_cons (d_esc ha F) (pa_cons (d_esc hb F) pa_nil hs2) hs1) na hs1 hpl) fun σ H R hq => by
  obtain ⟨ς, G, rl, r, ς', e, k⟩ := hq
  obtain ⟨zs, ςz, ez, qz⟩ := bd_some e
  obtain ⟨d, ς1, e1, q1⟩ := bd_some ez
  obtain ⟨d2, ς2, e2, q2⟩ := bd_some q1
  obtain ⟨xs, ς3, e3', q3⟩ := bd_some q2
  obtain ⟨e3, h3⟩ := lift_some e3'
  obtain ⟨ys, ς4, e4', q4⟩ := bd_some q3
  obtain ⟨e4, h4⟩ := lift_some e4'
  subst h3 h4
  cases q4
  have hsm : (zipD xs ys).length ≤ sizeLine := by
    by_cases hx : small (zipD xs ys).length = true
    · exact of_decide_eq_true hx
    · rw [if_neg hx] at qz; cases qz
  rw [if_pos (show small (zipD xs ys).length = true from decide_eq_true hsm)] at qz
  cases qz
  refine ⟨ς, G, rl, d, _, e1, fun v H1 G1 rl1 s1 dp => ⟨ς1, G1, rl1, d2, _, e2, fun w H2 G2 rl2 s2 dp2 => ?_⟩⟩
  obtain ⟨k1, l1, vs, rfl, h1, g1⟩ := Kd.of_items (dp_same s2 dp) e3
  obtain ⟨k2, l2, ws, rfl, h2, g2⟩ := Kd.of_items dp2 e4
  have hmin : min vs.length ws.length = (zipD xs ys).length := by rw [zipD_len, dpa_len g1, dpa_len g2]
  refine ⟨k1, k2, l1, l2, vs, ws, rfl, k1.same rl2.sub h1, k2.same rl2.sub h2, by rw [hmin]; exact hsm, fun S i us H' => ∃ G', Rel X.K F ς' G' σ H' ∧ Same G2 G' ∧ G' S = none ∧ F.H0 S = none ∧ (∀ (j : Nat) b es, ς'[j]? = some (some (.own b es)) → σ[j]? ≠ some (some (.ref S))) ∧ H' S = some (.lst us) ∧ us.length = i ∧ DpAll X.K G' us ((zipD xs ys).take i), ?_, ?_, ?_, ?_⟩
  · intro S hS
    exact ⟨G2, rl2.layF hS, Same.refl _, rl2.gnone hS, rl2.new hS, (rl2.newA hS).2.2.1, upd_same, rfl, .nil⟩
  · rintro S i us H' ⟨G', r', s', n1, n2, n3, hS, hl, hd⟩
    exact ⟨hl, hS, k1.same r'.sub (k1.same s' h1), k2.same r'.sub (k2.same s' h2)⟩
  · rintro S i us H' T hi ⟨G', r', s', n1, n2, n3, hS, hl, hd⟩ hT
    have hST : S ≠ T := fun q => by rw [q, hT] at hS; cases hS
    have hT' : G' T = none := r'.gnone hT
    rw [hmin] at hi
    obtain ⟨z, ez⟩ : ∃ z, (zipD xs ys)[i]? = some z := ⟨_, List.getElem?_eq_getElem hi⟩
    obtain ⟨x, y, f1, f2, rfl⟩ := zipD_get xs ys i z ez
    have r1 : Rel X.K F ς' (upd G' T (.tup [vs.getD i .non, ws.getD i .non])) σ (upd H' T (.tup [vs.getD i .non, ws.getD i .non])) := r'.lay hT
    have n1' : upd G' T (.tup [vs.getD i .non, ws.getD i .non]) S = none := by rw [upd_ne hST]; exact n1
    refine ⟨_, r1.other n1' n2 ⟨n3, r'.lno hS⟩, s'.trans (same_upd hT'), n1', n2, n3, upd_same, by rw [List.length_append, hl]; rfl, ?_⟩
    rw [take_succ_get ez]
    refine dpa_app (dpa_same (same_upd hT') hd) (.cons ?_ .nil)
    exact r'.layD hT (.cons (dp_same s' (dpa_getD g1 f1)) (.cons (dp_same s' (dpa_getD g2 f2)) .nil))
  · rintro S us H' ⟨G', r', s', n1, n2, n3, hS, hl, hd⟩
    rw [hmin, List.take_length] at hd
    exact k _ H' G' r' (s1.trans (s2.trans s')) ⟨S, us, rfl, hS, n1, hd, n2, n3⟩
theorem Sm.lzE {ς : En} {Q : R → En → Prop} (h : wp fa ς fun r ς1 => ∃ d ς2, toD r ς1 = some (d, ς2) ∧ wp fb ς2 fun r2 ς3 => ∃ d2 ς4, toD r2 ς3 = some (d2, ς4) ∧ ∃ xs ys, items d = some xs ∧ items d2 = some ys ∧ (zipD xs ys).length ≤ sizeLine ∧ Q (.fresh (zipD xs ys)) ς4) : wp (Lw.lzE fa fb) ς Q := by
  refine Sm.bd (Sm.itZ2 (Sm.mono h fun r ς1 ⟨d, ς2, e, q⟩ => ⟨d, ς2, e, Sm.mono q fun r2 ς3 ⟨d2, ς4, e2, xs, ys, e3, e4, hl, q⟩ => ⟨d2, ς4, e2, xs, ys, e3, e4, ?_⟩⟩))
  rw [if_pos (show small (zipD xs ys).length = true from decide_eq_true hl)]
  exact Sm.ret q
/-! ### reversed(a list or tuple) -/
section
variable {tg c : Expr} {fc : M R} {K : PySem.W.Frag} {G : Hp}
theorem dpa_rget {vs : List V} {ds : List D} {i : Nat} {d : D} (h : DpAll K G vs ds) (e : ds.reverse[i]? = some d) : ∃ v, vs[vs.length - 1 - i]? = some v ∧ Dp K G v d := by
  have hl : i < ds.length := by have := (List.getElem?_eq_some_iff.mp e).1; rwa [List.length_reverse] at this
  rw [List.getElem?_reverse hl] at e
  rw [dpa_len h]
  exact dpa_get h e
theorem walk_revL {l : Addr} {xs : List V} {ds : List D} (h : SqL K G l xs) (hd : DpAll K G xs ds) : WalkD K G (Itv K l xs.length) ds.reverse where
  stop := fun H s => by rw [List.length_reverse, dpa_len hd]; exact Nat.le_refl _
  go := fun i H hl s => by
    obtain ⟨v, e, _⟩ := dpa_rget hd (List.getElem?_eq_getElem hl)
    rw [List.length_reverse, ← dpa_len hd] at hl
    exact ⟨hl, xs, v, s.seq h, e⟩
  yld := fun i H x H' d s y e => by
    obtain ⟨y1, y2⟩ := y
    obtain ⟨v, e1, e2⟩ := dpa_rget hd e
    have := y2 xs (s.seq h)
    rw [e1] at this; cases this
    exact .inl ⟨y1, e2⟩
theorem walk_revT {l : Addr} {xs : List V} {ds : List D} (h : SqT K G l xs) (hd : DpAll K G xs ds) : WalkD K G (RT.ItvT K l xs.length) ds.reverse where
  stop := fun H s => by rw [List.length_reverse, dpa_len hd]; exact Nat.le_refl _
  go := fun i H hl s => by
    obtain ⟨v, e, _⟩ := dpa_rget hd (List.getElem?_eq_getElem hl)
    rw [List.length_reverse, ← dpa_len hd] at hl
    exact ⟨hl, xs, v, same_seqT s h, e⟩
  yld := fun i H x H' d s y e => by
    obtain ⟨y1, y2⟩ := y
    obtain ⟨v, e1, e2⟩ := dpa_rget hd e
    have := y2 xs (same_seqT s h)
    rw [e1] at this; cases this
    exact .inl ⟨y1, e2⟩
def itV (f : M R) : M (List D) := bd (esc f) fun d => bd (lift (items d)) fun xs => ret xs.reverse
theorem i_rev (hg : Gl X "reversed") (hm : X.mg "reversed" = none) (he : PEd X e f) (hs : starEach [e] X.env = (false, eval e X.env) :: starEach [] X.env := by rfl) : PId X tg (.Call (.Name "reversed" p) [e] [] pos) (itV f) := fun F => PI.mono (RT.pi_revA hg hm (d_esc he F) hs) fun σ H R hq => by
  obtain ⟨ς, G, rl, ds, ς', e, k⟩ := hq
  obtain ⟨d, ς1, e1, q1⟩ := bd_some e
  obtain ⟨xs, ς2, e2', q2⟩ := bd_some q1
  obtain ⟨e2, h2⟩ := lift_some e2'
  subst h2
  cases q2
  refine ⟨ς, G, rl, _, _, e1, fun v H' G' rl' s dp => ?_⟩
  cases d with
  | list es =>
    cases e2
    obtain ⟨l, vs, rfl, h1, h2⟩ := dp_list dp
    exact ⟨l, vs, rfl, .inl ⟨rl'.sub.seq h1, k _ H' G' rl' s (walk_revL h1 h2)⟩⟩
  | tuple es =>
    cases e2
    obtain ⟨l, vs, rfl, h1, h2⟩ := dp_tuple dp
    exact ⟨l, vs, rfl, .inr ⟨same_seqT rl'.sub h1, k _ H' G' rl' s (walk_revT h1 h2)⟩⟩
  | _ => cases e2
theorem Sm.itV {ς : En} {Q : List D → En → Prop} (h : wp f ς fun r ς1 => ∃ d ς2, toD r ς1 = some (d, ς2) ∧ ∃ xs, items d = some xs ∧ Q xs.reverse ς2) : wp (Lw.itV f) ς Q :=
  Sm.bd (Sm.esc (Sm.mono h fun r ς1 ⟨d, ς2, e, xs, e2, q⟩ => ⟨d, ς2, e, Sm.bd (Sm.lift e2 (Sm.ret q))⟩))
/-! ### range(a, b, -1), reversed(range(..)) -/
def gDn : D → D → D → Option (List D)
  | .int m, .int n, .int k => if k = -1 ∧ inR m = true ∧ inR n = true then some (rngD (n + 1) (m - n).toNat).reverse else none
  | _, _, _ => none
def itR3 (fa fb fc : M R) : M (List D) := bd (esc fa) fun x => bd (esc fb) fun y => bd (esc fc) fun z => lift (gDn x y z)
theorem Sm.itR3 {ς : En} {Q : List D → En → Prop} {fc : M R} (h : wp fa ς fun r ς1 => ∃ d ς2, toD r ς1 = some (d, ς2) ∧ wp fb ς2 fun r2 ς3 => ∃ d2 ς4, toD r2 ς3 = some (d2, ς4) ∧ wp fc ς4 fun r3 ς5 => ∃ d3 ς6, toD r3 ς5 = some (d3, ς6) ∧ ∃ xs, gDn d d2 d3 = some xs ∧ Q xs ς6) : wp (Lw.itR3 fa fb fc) ς Q :=
  Sm.bd (Sm.esc (Sm.mono h fun r ς1 ⟨d, ς2, e, q⟩ => ⟨d, ς2, e, Sm.bd (Sm.esc (Sm.mono q fun r2 ς3 ⟨d2, ς4, e2, q2⟩ => ⟨d2, ς4, e2, Sm.bd (Sm.esc (Sm.mono q2 fun r3 ς5 ⟨d3, ς6, e3, xs, e4, q3⟩ => ⟨d3, ς6, e3, Sm.lift e4 q3⟩))⟩))⟩))
def gRn1 : D → Option (List D)
  | .int n => if inR n = true then some (rngD 0 n.toNat).reverse else none
  | _ => none
def itRv1 (f : M R) : M (List D) := bd (esc f) fun x => lift (gRn1 x)
theorem Sm.itRv1 {ς : En} {Q : List D → En → Prop} (h : wp fa ς fun r ς1 => ∃ d ς2, toD r ς1 = some (d, ς2) ∧ ∃ xs, gRn1 d = some xs ∧ Q xs ς2) : wp (Lw.itRv1 fa) ς Q :=
  Sm.bd (Sm.esc (Sm.mono h fun r ς1 ⟨d, ς2, e, xs, e2, q⟩ => ⟨d, ς2, e, Sm.lift e2 q⟩))
def gRn2 : D → D → Option (List D)
  | .int m, .int n => if inR m = true ∧ inR n = true then some (rngD m (n - m).toNat).reverse else none
  | _, _ => none
def itRv2 (fa fb : M R) : M (List D) := bd (esc fa) fun x => bd (esc fb) fun y => lift (gRn2 x y)
theorem Sm.itRv2 {ς : En} {Q : List D → En → Prop} (h : wp fa ς fun r ς1 => ∃ d ς2, toD r ς1 = some (d, ς2) ∧ wp fb ς2 fun r2 ς3 => ∃ d2 ς4, toD r2 ς3 = some (d2, ς4) ∧ ∃ xs, gRn2 d d2 = some xs ∧ Q xs ς4) : wp (Lw.itRv2 fa fb) ς Q :=
  Sm.bd (Sm.esc (Sm.mono h fun r ς1 ⟨d, ς2, e, q⟩ => ⟨d, ς2, e, Sm.bd (Sm.esc (Sm.mono q fun r2 ς3 ⟨d2, ς4, e2, xs, e3, q2⟩ => ⟨d2, ς4, e2, Sm.lift e3 q2⟩))⟩))
end
/-! ### xs[i] += e, of a list of one's own -/
theorem get_list : PGet X (rIxL X.K) := by
  intro pins s σ H o i ov iv Q I ro ri h
  obtain ⟨p, xs, k, v, rfl, rfl, hq, he, q⟩ := h
  cases ro
  obtain ⟨t, rfl⟩ := ri
  obtain ⟨its, r, pl, hz⟩ := I.list hq
  obtain ⟨j, h1, h2, h3, h4, h5⟩ := atI_get he
  obtain ⟨w, ew, rw'⟩ := r.get h2
  have hl := r.length
  have hn := line63
  have fin : EP X pins σ Q w s := ⟨v, H, I, rw', q⟩
  by_cases h0 : 0 ≤ k
  · have hj : k.toNat = j := by
      rw [seqIndex_of h0 h5] at h1
      exact Option.some.inj h1
    exact wpAny_getItem_list pl.isList h0 (by omega) (by rw [hj]; simpa using ew) fin
  · have hj : (k + (its.toArray.size : Int)).toNat = j := by
      rw [seqIndex_neg (by omega) h4] at h1
      rw [List.size_toArray, ← hl]
      exact Option.some.inj h1
    exact wpAny_getItem_list_neg pl.isList (by omega) (by rw [List.size_toArray] <;> omega) (by omega) (by rw [hj]; simpa using ew) fin
def augS (n : Nat) (fi : M R) (h : Int → Int → Int) (fe : M R) : MS := fun ς => match vr n ς with
  | some (.ref i, ς1) => match ptS fi ς1 with
    | some (some j, ς2) => match ς2[i]? with
      | some (some (.own _ ds)) => match ixN ds.length j with
        | some m => match ds[m]? with
          | some (.int x) => match esc fe ς2 with
            | some (.int y, ς3) => match ς3[i]? with
              | some (some (.own b ds')) => if ds'.length = ds.length then some (.nx (ς3.set i (some (.own b (ds'.set m (.int (h x y))))))) else none
              | _ => none
            | _ => none
          | _ => none
        | none => none
      | _ => none
    | _ => none
  | _ => none
theorem s_augS {o i : Expr} {n : Nat} {fi fe : M R} {h : Int → Int → Int} {op : Operator} {tpos : Pos} (ho : PEd X o (vr n)) (hi : PEd X i fi) (he : PEd X e fe) (hp : PIp X op (ipI h))
    (ha : ∀ ov iv new, augStore i ov iv new = (do holding [new, ov, iv] (setItem ov iv new); release [new, ov, iv] []; pure .next) := by intros; rfl) : PSd X (.AugAssign (.Subscript o i tpos) op e pos) (augS n fi h fe) := fun F => PS.mono (ps_augS (ho F) (d_sub hi F) get_list (d_esc he F) hp set_list ha) fun D σ H hq => by
  obtain ⟨ς, G, rl, oo, e, k⟩ := hq
  unfold augS at e
  split at e
  · rename_i nn ς1 q1
    split at e
    · rename_i j ς2 q2
      split at e
      · rename_i b ds q3
        split at e
        · rename_i m q4
          split at e
          · rename_i x q5
            split at e
            · rename_i y ς3 q6
              split at e
              · rename_i b' ds' q7
                split at e
                · rename_i hlen
                  cases e
                  obtain ⟨r, ς5, e3, q8⟩ := bd_some q2
                  obtain ⟨yy, ς4, e4', q9⟩ := bd_some q8
                  obtain ⟨e4, h4⟩ := rd_some e4'
                  obtain ⟨e5, h5⟩ := lift_some q9
                  subst h4 h5
                  refine ⟨ς, G, rl, _, ς1, q1, fun ov H1 G1 rl1 s1 rep1 => ⟨ς1, G1, rl1, r, _, e3, fun iv H2 G2 rl2 s2 rep2 => ?_⟩⟩
                  have ri := rdD_ok rl2 rep2 e4
                  cases yy with
                  | int jj =>
                    cases e5
                    obtain ⟨a, ws, f1, f2, f3, f4, _⟩ := rl2.ow _ b ds q3
                    rw [show σ[nn]? = some (some ov) from rep1] at f1
                    cases f1
                    obtain ⟨v, ev, dv⟩ := dpa_get f4 q5
                    refine ⟨a, ws, j, v, rfl, ri.int, .inl (.inl f2), ?_, ?_⟩
                    · unfold atI
                      rw [dpa_len f4, q4]
                      exact ev
                    · refine ⟨_, G2, rl2, _, _, q6, fun w H3 G3 rl3 s3 dp3 => ?_⟩
                      obtain ⟨a', ws', g1, g2, g3, g4, _⟩ := rl3.ow _ b' ds' q7
                      rw [show σ[nn]? = some (some (.ref a)) from rep1] at g1
                      cases g1
                      refine ⟨x, y, dp_int dv, dp_int dp3, a, ws', j, m, rfl, ri.int, g2, by rw [dpa_len g4, hlen]; exact q4, ?_⟩
                      exact k σ _ G3 (rl3.mut q7 rep1 (dpa_set (.int _) m g4)) (s1.trans (s2.trans s3))
                  | _ => cases e5
                · cases e
              · cases e
            · cases e
          · cases e
        · cases e
      · cases e
    · cases e
  · cases e
theorem Sm.augS {ς : En} {Q : Out → Prop} {n : Nat} {fi fe : M R} {h : Int → Int → Int} {b : Bool} {ds : List D} (e0 : ς[n]? = some (some (.own b ds))) (hi : wp fi ς fun r ς1 => ∃ (j : Int) (m : Nat) (x : Int), rdD r ς1 = some (.int j) ∧ ς1[n]? = some (some (.own b ds)) ∧ ixN ds.length j = some m ∧ ds[m]? = some (.int x) ∧ wp fe ς1 fun r2 ς2 => ∃ (y : Int) (ς3 : En), toD r2 ς2 = some (.int y, ς3) ∧ ς3[n]? = some (some (.own b ds)) ∧ Q (.nx (ς3.set n (some (.own b (ds.set m (.int (h x y)))))))) : wps (Lw.augS n fi h fe) ς Q := by
  have hp : wp (Lw.ptS fi) ς fun r ς1 => ∃ (j : Int), r = some j ∧ ∃ (m : Nat) (x : Int), ς1[n]? = some (some (.own b ds)) ∧ ixN ds.length j = some m ∧ ds[m]? = some (.int x) ∧ wp fe ς1 fun r2 ς2 => ∃ (y : Int) (ς3 : En), toD r2 ς2 = some (.int y, ς3) ∧ ς3[n]? = some (some (.own b ds)) ∧ Q (.nx (ς3.set n (some (.own b (ds.set m (.int (h x y))))))) :=
    Sm.ptS (Sm.mono hi fun r ς1 ⟨j, m, x, e1, e2, e3, e4, e5⟩ => ⟨j, e1, j, rfl, m, x, e2, e3, e4, e5⟩)
  obtain ⟨r, ς1, e1, j, rfl, m, x, e2, e3, e4, r2, ς2, e5, y, ς3, e6, e7, q⟩ := hp
  refine ⟨_, ?_, q⟩
  have ee : Lw.esc fe ς1 = some (.int y, ς3) := by unfold Lw.esc Lw.bd; rw [e5]; exact e6
  have ev : Lw.vr n ς = some (.ref n, ς) := by unfold Lw.vr; rw [e0]
  unfold Lw.augS
  simp only [ev, e1, e2, e3, e4, ee, e7, if_true]
namespace Sm
section
variable {ς : En}
instance stp_lzE {ς : En} {Q : R → En → Prop} : Stp (wp (Lw.lzE fa fb) ς Q) (wp fa ς fun r ς1 => ∃ d ς2, toD r ς1 = some (d, ς2) ∧ wp fb ς2 fun r2 ς3 => ∃ d2 ς4, toD r2 ς3 = some (d2, ς4) ∧ ∃ xs ys, items d = some xs ∧ items d2 = some ys ∧ (zipD xs ys).length ≤ sizeLine ∧ Q (.fresh (zipD xs ys)) ς4) := ⟨Sm.lzE⟩
instance stp_itV {ς : En} {Q : List D → En → Prop} : Stp (wp (Lw.itV f) ς Q) (wp f ς fun r ς1 => ∃ d ς2, toD r ς1 = some (d, ς2) ∧ ∃ xs, items d = some xs ∧ Q xs.reverse ς2) := ⟨Sm.itV⟩
instance stp_itR3 {ς : En} {Q : List D → En → Prop} {fc : M R} : Stp (wp (Lw.itR3 fa fb fc) ς Q) (wp fa ς fun r ς1 => ∃ d ς2, toD r ς1 = some (d, ς2) ∧ wp fb ς2 fun r2 ς3 => ∃ d2 ς4, toD r2 ς3 = some (d2, ς4) ∧ wp fc ς4 fun r3 ς5 => ∃ d3 ς6, toD r3 ς5 = some (d3, ς6) ∧ ∃ xs, gDn d d2 d3 = some xs ∧ Q xs ς6) := ⟨Sm.itR3⟩
instance stp_itRv1 {ς : En} {Q : List D → En → Prop} : Stp (wp (Lw.itRv1 fa) ς Q) (wp fa ς fun r ς1 => ∃ d ς2, toD r ς1 = some (d, ς2) ∧ ∃ xs, gRn1 d = some xs ∧ Q xs ς2) := ⟨Sm.itRv1⟩
instance stp_itRv2 {ς : En} {Q : List D → En → Prop} : Stp (wp (Lw.itRv2 fa fb) ς Q) (wp fa ς fun r ς1 => ∃ d ς2, toD r ς1 = some (d, ς2) ∧ wp fb ς2 fun r2 ς3 => ∃ d2 ς4, toD r2 ς3 = some (d2, ς4) ∧ ∃ xs, gRn2 d d2 = some xs ∧ Q xs ς4) := ⟨Sm.itRv2⟩
end
end Sm
end Lw
namespace Lw
open PySem PySem.Spec PyProof.Rows L2
def g_l_box : MS :=
  (sq (asg (ife (tst (op2 gLt (vr 1) (cal1 gLen (vr 0)))) (op2 gIx (vr 0) (vr 1)) (cn (.int 0))) (tgN 2))
  (retS (lstE (argV (op2 gMulA (cal1 gAbs (vr 2)) (cal1 gInt (op2 gGe (cal1 gAbs (vr 2)) (op2 gPowA (cn (.int 10)) (cn (.int 18)))))) (argV (op2 gModA (op2 gMulA (op2 gAddA (op2 gAddA (op2 gModA (vr 2) (cn (.int 2147483629))) (op2 gMulA (cn (.int 15485863)) (vr 1))) (cn (.int 43))) (cn (.int 48271))) (cn (.int 2147483647))) (argV (cn (.int 0)) argN))))))
def m_l_box : Fsem := runFn g_l_box 3
def g_l_take (self : Fsem) : MS :=
  (sq (ifS (tst (op2 gGt (op2 gIx (vr 0) (cn (.int 0))) (cn (.int 0)))) (sq (asg (op2 gDm (op2 gIx (vr 0) (cn (.int 0))) (vr 1)) (tgT 2 (tgsC (tgS (vr 0) (cn (.int 0))) (tgsC (tgN 2) tgsN))))
  (retS (vr 2))) skip)
  (sq (ifS (tst (op2 gGt (vr 1) (op2 gPowA (cn (.int 10)) (cn (.int 7))))) (retS (op2 gModA (op2 gAddA (callE self (argR (vr 0) (argV (op2 gPowA (cn (.int 10)) (cn (.int 7))) argN))) (op2 gMulA (op2 gPowA (cn (.int 10)) (cn (.int 7))) (callE self (argR (vr 0) (argV (op2 gAddA (op2 gDivA (op2 gSubA (vr 1) (cn (.int 1))) (op2 gPowA (cn (.int 10)) (cn (.int 7)))) (cn (.int 1))) argN))))) (vr 1))) skip)
  (sq (asg (op2 gAddA (op2 gIx (vr 0) (cn (.int 2))) (cn (.int 1))) (tgS (vr 0) (cn (.int 2))))
  (sq (asg (op2 gAddA (cn (.int 69621)) (op2 gMulA (op2 gIx (vr 0) (cn (.int 2))) (op2 gIx (vr 0) (cn (.int 2))))) (tgN 3))
  (sq (asg (op2 gModA (op2 gMulA (op2 gAddA (op2 gIx (vr 0) (cn (.int 1))) (op2 gMulA (cn (.int 39373)) (op2 gIx (vr 0) (cn (.int 2))))) (vr 3)) (cn (.int 2147483587))) (tgN 4))
  (sq (asg (op2 gModA (op2 gAddA (op2 gMulA (vr 4) (op2 gAddA (op2 gModA (vr 4) (cn (.int 30011))) (cn (.int 5)))) (op2 gIx (vr 0) (cn (.int 2)))) (cn (.int 2147483563))) (tgN 5))
  (retS (op2 gModA (op2 gDivA (op2 gModA (op2 gMulA (vr 5) (op2 gAddA (op2 gModA (vr 5) (cn (.int 1013))) (cn (.int 3)))) (cn (.int 998244353))) (cn (.int 16))) (vr 1)))))))))
def m_l_take : Nat → Fsem
  | 0 => fun _ => none
  | n + 1 => runFn (g_l_take (m_l_take n)) 6
def g_l_folded : MS :=
  (sq (asgO 2 (cal1 gList (slE (vr 0) ptN (ptS (vr 1)))))
  (sq (forS (itE (slE (vr 0) (ptS (vr 1)) (ptS (cn (.int 63))))) (tgT 2 (tgsC (tgN 3) (tgsC (tgN 4) tgsN))) (asg (op2 gAddA (op2 gIx (vr 2) (op2 gModA (vr 3) (vr 1))) (op2 gMulA (vr 4) (op2 gAddA (vr 3) (cn (.int 2))))) (tgS (vr 2) (op2 gModA (vr 3) (vr 1)))))
  (retS (vr 2))))
def m_l_folded : Fsem := runFn g_l_folded 5
def g_l_cells : MS :=
  (sq (asg (callE m_l_folded (argV (vr 0) (argV (vr 1) argN))) (tgN 2))
  (retS (ife (tst (op2 gNe (vr 2) (lstE argN))) (vr 2) (lstE (argV (cn (.int 0)) argN)))))
def m_l_cells : Fsem := runFn g_l_cells 3
def g_l_of : MS :=
  (retS (op2 gIx (vr 1) (callE (m_l_take 4) (argR (vr 0) (argV (cal1 gLen (vr 1)) argN)))))
def m_l_of : Fsem := runFn g_l_of 2
def g_l_same (self : Fsem) : MS :=
  (sq (ifS (tru (isE (vr 1) [.list, .tuple])) (sq (ifS (orT (tst (op2 gNe (isE (vr 0) [.list]) (isE (vr 1) [.list]))) (tst (op2 gNe (isE (vr 0) [.tuple]) (isE (vr 1) [.tuple])))) (retS (cn (.bool false))) skip)
  (retS (andV (op2 gEq (cal1 gLen (vr 0)) (cal1 gLen (vr 1))) (cal1 gAll (lcE (itZ (vr 0) (vr 1)) [2, 3] (tgT 2 (tgsC (tgN 2) (tgsC (tgN 3) tgsN))) (ret true) (callE self (argV (vr 2) (argV (vr 3) argN)))))))) skip)
  (sq (ifS (orT (tst (op2 gIs (vr 1) (cn .none))) (tru (isE (vr 1) [.str]))) (retS (andV (op2 gEq (vr 0) (vr 1)) (op2 gEq (isE (vr 0) [.str]) (isE (vr 1) [.str])))) skip)
  (retS (andV (isE (vr 0) [.int]) (andV (op2 gEq (isE (vr 0) [.bool]) (isE (vr 1) [.bool])) (op2 gEq (vr 0) (vr 1)))))))
def m_l_same : Nat → Fsem
  | 0 => fun _ => none
  | n + 1 => runFn (g_l_same (m_l_same n)) 4
end Lw
namespace Lw
open PySem PySem.Spec PyProof.Rows L2
def g_p_change_of : MS :=
  (sq (par2 2 3 false false (op2 gIx (vr 1) (cn (.int 0))) (op2 gIx (vr 1) (cn (.int 1))))
  (sq (ifS (tst (op2 gEq (vr 2) (cn (.str "fill")))) (retS (tupE (argV (vr 3) (argV (negV (op2 gIx (op2 gIx (vr 0) (op2 gSubA (vr 3) (cn (.int 1)))) (cn (.int 2)))) argN)))) skip)
  (sq (ifS (tst (op2 gEq (vr 2) (cn (.str "empty")))) (retS (tupE (argV (op2 gSubA (vr 3) (cn (.int 1))) (argV (op2 gIx (op2 gIx (vr 0) (op2 gSubA (vr 3) (cn (.int 1)))) (cn (.int 2))) argN)))) skip)
  (sq (ifS (tst (op2 gEq (vr 2) (cn (.str "raise")))) (retS (tupE (argV (vr 3) (argV (op2 gIx (vr 1) (cn (.int 2))) argN)))) skip)
  (retS (tupE (argV (vr 3) (argV (negV (op2 gIx (vr 1) (cn (.int 2)))) argN))))))))
def m_p_change_of : Fsem := runFn g_p_change_of 4
end Lw
namespace Lw
open PySem PySem.Spec PyProof.Rows L2
def g_p_run_over : MS :=
  (sq (asgO 2 (lstE argN))
  (sq (asgO 3 (lstE argN))
  (sq (asg (cn (.int 0)) (tgN 4))
  (sq (forS (itV (lzE (vr 0) (vr 1))) (tgT 2 (tgsC (tgN 5) (tgsC (tgN 6) tgsN))) (sq (asg (op2 gAddA (vr 6) (vr 4)) (tgN 7))
  (sq (asg (op2 (g2I fun i j => if j > i then j else i) (cn (.int 0)) (op2 gSubA (vr 7) (op2 gIx (vr 5) (cn (.int 1))))) (tgN 4))
  (sq (exS (mth hApp (vr 2) (argV (op2 gSubA (vr 7) (vr 4)) argN)))
  (exS (mth hApp (vr 3) (argV (vr 4) argN)))))))
  (retS (tupE (argV (cal1 gTuple (cal1 gRev (vr 2))) (argV (cal1 gTuple (cal1 gRev (vr 3))) argN))))))))
def m_p_run_over : Fsem := runFn g_p_run_over 8
def g_p_levels_behind : MS :=
  (sq (asg (callE m_p_change_of (argV (vr 0) (argV (vr 2) argN))) (tgT 2 (tgsC (tgN 3) (tgsC (tgN 4) tgsN))))
  (sq (asgO 5 (cal1 gList (vr 1)))
  (sq (ifS (tst (op2 gGt (vr 3) (cn (.int 0)))) (augS 5 (op2 gSubA (vr 3) (cn (.int 1))) (fun i j => i + j) (vr 4)) skip)
  (retS (callE m_p_run_over (argV (vr 0) (argV (vr 5) argN)))))))
def m_p_levels_behind : Fsem := runFn g_p_levels_behind 6
def g_p_chambers_behind : MS :=
  (sq (asgO 2 (cal1 gList (vr 0)))
  (sq (ifS (tst (op2 gEq (op2 gIx (vr 1) (cn (.int 0))) (cn (.str "fill")))) (asg (cn (.str "high")) (tgS (vr 2) (op2 gSubA (op2 gIx (vr 1) (cn (.int 1))) (cn (.int 1))))) skip)
  (sq (ifS (tst (op2 gEq (op2 gIx (vr 1) (cn (.int 0))) (cn (.str "empty")))) (asg (cn (.str "low")) (tgS (vr 2) (op2 gSubA (op2 gIx (vr 1) (cn (.int 1))) (cn (.int 1))))) skip)
  (retS (cal1 gTuple (vr 2))))))
def m_p_chambers_behind : Fsem := runFn g_p_chambers_behind 3
def g_p_is_shut : MS :=
  (sq (par2 2 3 false false (op2 gIx (vr 1) (cn (.int 0))) (op2 gIx (vr 1) (cn (.int 1))))
  (sq (ifS (tst (op2 gEq (vr 2) (cn (.str "fill")))) (retS (op2 gNe (op2 gIx (vr 0) (op2 gSubA (vr 3) (cn (.int 1)))) (cn (.str "low")))) skip)
  (retS (andV (op2 gEq (vr 2) (cn (.str "empty"))) (op2 gNe (op2 gIx (vr 0) (op2 gSubA (vr 3) (cn (.int 1)))) (cn (.str "high")))))))
def m_p_is_shut : Fsem := runFn g_p_is_shut 4
def g_p_asked_by : MS :=
  (sq (asg (callE m_p_change_of (argV (vr 0) (argV (vr 1) argN))) (tgT 2 (tgsC (tgN 2) (tgsC (tgN 3) tgsN))))
  (sq (ifS (tst (op2 gGe (vr 3) (cn (.int 0)))) (retS (cn .none)) skip)
  (retS (tupE (argV (vr 2) (argV (op2 gSubA (op2 gIx (op2 gIx (vr 0) (op2 gSubA (vr 2) (cn (.int 1)))) (cn (.int 0))) (vr 3)) argN))))))
def m_p_asked_by : Fsem := runFn g_p_asked_by 4
def g_p_is_dry : MS :=
  (sq (asg (callE m_p_asked_by (argV (vr 0) (argV (vr 2) argN))) (tgN 3))
  (retS (andV (op2 gIsNot (vr 3) (cn .none)) (op2 gLt (op2 gIx (vr 1) (op2 gSubA (op2 gIx (vr 3) (cn (.int 0))) (cn (.int 1)))) (op2 gIx (vr 3) (cn (.int 1)))))))
def m_p_is_dry : Fsem := runFn g_p_is_dry 4
def g_p_fault_of : MS :=
  (sq (asg (vr 1) (tgT 2 (tgsC (tgN 3) (tgsC (tgN 4) tgsN))))
  (sq (ifS (tru (callE m_p_is_shut (argV (vr 4) (argV (vr 2) argN)))) (retS (tupE (argV (cn (.str "shut")) (argV (op2 gIx (vr 2) (cn (.int 1))) argN)))) skip)
  (sq (ifS (tru (callE m_p_is_dry (argV (vr 0) (argV (vr 3) (argV (vr 2) argN))))) (retS (tupE (argV (cn (.str "dry")) (argV (op2 gIx (vr 2) (cn (.int 1))) argN)))) skip)
  (retS (cn .none)))))
def m_p_fault_of : Fsem := runFn g_p_fault_of 5
def g_p_refuse : MS :=
  (sq (asg (vr 0) (tgT 2 (tgsC (tgN 1) (tgsC (tgN 2) tgsN))))
  (sq (ifS (tst (op2 gEq (vr 1) (cn (.str "shut")))) rse skip)
  rse))
def m_p_refuse : Fsem := runFn g_p_refuse 3
def g_p_done : MS :=
  (sq (asg (callE m_p_fault_of (argV (vr 0) (argV (vr 1) (argV (vr 2) argN)))) (tgN 3))
  (sq (ifS (tst (op2 gIsNot (vr 3) (cn .none))) (exS (callE m_p_refuse (argV (vr 3) argN))) skip)
  (sq (asg (vr 1) (tgT 2 (tgsC (tgN 4) (tgsC (tgN 5) tgsN))))
  (sq (asg (callE m_p_levels_behind (argV (vr 0) (argV (vr 4) (argV (vr 2) argN)))) (tgT 2 (tgsC (tgN 6) (tgsC (tgN 7) tgsN))))
  (retS (tupE (argV (tupE (argV (vr 6) (argV (callE m_p_chambers_behind (argV (vr 5) (argV (vr 2) argN))) argN))) (argV (vr 7) argN))))))))
def m_p_done : Fsem := runFn g_p_done 8
def g_p_gone : MS :=
  (sq (asg (vr 1) (tgT 2 (tgsC (tgN 3) (tgsC (tgN 4) tgsN))))
  (sq (asg (tupE (argV (cal1 gTuple (vr 3)) (argV (cal1 gTuple (vr 4)) argN))) (tgN 5))
  (sq (asg (cal1 gTuple (lcE (itS (vr 0)) [7] (tgN 7) (ret true) (cn (.int 0)))) (tgN 6))
  (sq (forS (itS (vr 2)) (tgN 8) (sq (asg (callE m_p_done (argV (vr 0) (argV (vr 5) (argV (vr 8) argN)))) (tgT 2 (tgsC (tgN 5) (tgsC (tgN 9) tgsN))))
  (asg (cal1 gTuple (lcE (itZ2 (vr 6) (vr 9)) [10, 11] (tgT 2 (tgsC (tgN 10) (tgsC (tgN 11) tgsN))) (ret true) (op2 gAddA (vr 10) (vr 11)))) (tgN 6))))
  (retS (tupE (argV (vr 5) (argV (vr 6) argN))))))))
def m_p_gone : Fsem := runFn g_p_gone 12
end Lw
namespace Lw
open PySem PySem.Spec PyProof.Rows L2
section
variable {X : Cx} {a b c e tg : Expr} {es : List Expr} {fa fb fc f : M R} {pos p : Pos} {st : Stmt}
/-! ### x, y = a, b by the pair itself -/
theorem RepR.layF {K : PySem.W.Frag} {F : Fx} {ς : En} {G : Hp} {σ : L2.St} {H : Hp} {x : R} {v : V} {q : Addr} {o : HO} (h : RepR K F ς G σ H x v) (hq : H q = none) : RepR K F ς G σ (upd H q o) x v := by
  cases x with
  | pure d => exact h
  | vx x =>
    cases x with
    | exc nm d => exact h
    | odc kvs =>
      obtain ⟨a, o', rfl, h1, h2⟩ := h
      have ne : a ≠ q := fun z => by subst z; rw [h1] at hq; cases hq
      exact ⟨a, o', rfl, by rw [upd_ne ne]; exact h1, h2⟩
  | ref i => exact h
  | fresh ds =>
    obtain ⟨a, vs, rfl, h1, h2⟩ := h
    have ne : a ≠ q := fun z => by subst z; rw [h1] at hq; cases hq
    exact ⟨a, vs, rfl, by rw [upd_ne ne]; exact h1, h2⟩
/-! ### x, y, z = a, b, [..] -/
def parL3 (i j l : Nat) (fa fb fc : M R) : MS := fun ς => match bd (esc fa) (fun x => bd (esc fb) fun y => bd fc fun z => ret (x, y, z)) ς with
  | some ((x, y, .fresh zs), ς') => if free ς' i = true ∧ free (ς'.set i (some (.pure x))) j = true ∧ free ((ς'.set i (some (.pure x))).set j (some (.pure y))) l = true then some (.nx (((ς'.set i (some (.pure x))).set j (some (.pure y))).set l (some (.own false zs)))) else none
  | _ => none
theorem Sm.parL3 {ς : En} {Q : Out → Prop} {i j l : Nat} (h : wp fa ς fun a ς1 => ∃ x ς1', toD a ς1 = some (x, ς1') ∧ wp fb ς1' fun b ς2 => ∃ y ς2', toD b ς2 = some (y, ς2') ∧ wp fc ς2' fun c ς3 => ∃ zs, c = .fresh zs ∧
    (free ς3 i = true ∧ free (ς3.set i (some (.pure x))) j = true ∧ free ((ς3.set i (some (.pure x))).set j (some (.pure y))) l = true) ∧ Q (.nx (((ς3.set i (some (.pure x))).set j (some (.pure y))).set l (some (.own false zs))))) : wps (Lw.parL3 i j l fa fb fc) ς Q := by
  obtain ⟨a, ς1, e1, x, ς1', t1, b, ς2, e2, y, ς2', t2, c, ς3, e3, zs, rfl, hf, q⟩ := h
  refine ⟨_, ?_, q⟩
  unfold Lw.parL3
  have h1 : Lw.esc fa ς = some (x, ς1') := by unfold Lw.esc Lw.bd; rw [e1]; exact t1
  have h2 : Lw.esc fb ς1' = some (y, ς2') := by unfold Lw.esc Lw.bd; rw [e2]; exact t2
  have : Lw.bd (Lw.esc fa) (fun x => Lw.bd (Lw.esc fb) fun y => Lw.bd fc fun z => Lw.ret (x, y, z)) ς = some ((x, y, .fresh zs), ς3) := by
    unfold Lw.bd
    rw [h1]
    simp only [h2, e3, Lw.ret]
  rw [this]
  simp only
  rw [if_pos hf]
/-! ### x is True, x is not True, of truths -/
end
namespace Sm
section
variable {ς : En}
instance stp_parL3 {ς : En} {Q : Out → Prop} {i j l : Nat} : Stp (wps (Lw.parL3 i j l fa fb fc) ς Q) (wp fa ς fun a ς1 => ∃ x ς1', toD a ς1 = some (x, ς1') ∧ wp fb ς1' fun b ς2 => ∃ y ς2', toD b ς2 = some (y, ς2') ∧ wp fc ς2' fun c ς3 => ∃ zs, c = .fresh zs ∧     (free ς3 i = true ∧ free (ς3.set i (some (.pure x))) j = true ∧ free ((ς3.set i (some (.pure x))).set j (some (.pure y))) l = true) ∧ Q (.nx (((ς3.set i (some (.pure x))).set j (some (.pure y))).set l (some (.own false zs))))) := ⟨Sm.parL3⟩
end
end Sm
end Lw
namespace Lw
open PySem PySem.Spec PyProof.Rows L2
end Lw
namespace Lw
open PySem PySem.Spec PyProof.Rows L2
end Lw
namespace Lw
open PySem PySem.Spec PyProof.Rows L2
end Lw
namespace Lw
open PySem PySem.Spec PyProof.Rows L2
end Lw
namespace Lw
open PySem PySem.Spec PyProof.Rows L2
/-! ### while -/
/-! ### two generators -/
theorem wipe_wipe (σ : L2.St) : ∀ us : List Nat, wipe (wipe σ us) us = wipe σ us
  | [] => rfl
  | u :: us => by
    show (wipe ((wipe σ us).set u none) us).set u none = (wipe σ us).set u none
    rw [wipe_comm1, List.set_set, wipe_wipe σ us]
theorem wipeE_own {ς : En} {n : Nat} {b : Bool} {es : List D} : ∀ us : List Nat, (wipeE ς us)[n]? = some (some (.own b es)) → ς[n]? = some (some (.own b es))
  | [], h => h
  | u :: us, h => by
    have h' : ((wipeE ς us).set u none)[n]? = some (some (.own b es)) := h
    replace h' := get_set h'; rcases h' with ⟨rfl, h'⟩ | ⟨_, h'⟩
    · cases h'
    · exact wipeE_own us h'
section
variable {K : PySem.W.Frag} {F : Fx} {L : Addr} {ς ς' : En} {G G' : Hp} {σ σ' : L2.St} {H H' : Hp} {acc : List D}
/-- the list that a comprehension fills, nobody's yet -/
structure LcI (K : PySem.W.Frag) (F : Fx) (L : Addr) (ς : En) (G : Hp) (σ : L2.St) (H : Hp) (acc : List D) : Prop where
  rel : Rel K F ς G σ H
  h0 : F.H0 L = none
  gn : G L = none
  ns : ∀ (n : Nat) b es, ς[n]? = some (some (.own b es)) → σ[n]? ≠ some (some (.ref L))
  ac : ∃ accV, H L = some (.lst accV) ∧ DpAll K G accV acc
theorem LcI.step (h : LcI K F L ς G σ H acc) (r : Rel K (F.now ς G σ H) ς' G' σ' H') (s : Same G G') : LcI K F L ς' G' σ' H' acc := by
  obtain ⟨accV, e, d⟩ := h.ac
  obtain ⟨k1, k2, k3⟩ := h.rel.keepF r e h.gn h.ns
  exact ⟨h.rel.back r, h.h0, k2, k3, accV, k1, dpa_same s d⟩
theorem LcI.wiped (h : LcI K F L ς G σ H acc) (vs : List Nat) (hf : freeAll ς vs = true) : LcI K F L (wipeE ς vs) G (wipe σ vs) H acc :=
  ⟨h.rel.wiped vs hf, h.h0, h.gn, fun n b es z1 z2 => h.ns n b es (wipeE_own vs z1) (wipe_some z2).1, h.ac⟩
theorem LcI.push (h : LcI K F L ς G σ H acc) {accV : List V} {u : V} {y : D} (e : H L = some (.lst accV)) (d : DpAll K G accV acc) (dp : Dp K G u y) : LcI K F L ς G σ (upd H L (.lst (accV ++ [u]))) (acc ++ [y]) :=
  ⟨h.rel.touch h.gn h.h0 h.ns e, h.h0, h.gn, h.ns, _, upd_same, dpa_app d (.cons dp .nil)⟩
end
end Lw
namespace Lw
open PySem PySem.Spec PyProof.Rows L2
end Lw
namespace Lw
open PySem PySem.Spec PyProof.Rows L2
end Lw
namespace Lw
open PySem PySem.Spec PyProof.Rows L2
/-! ### min(xs, default = e) -/
end Lw
namespace Lw
open PySem PySem.Spec PyProof.Rows L2
/-! ### a list of lists of one's own, in one slot -/
def NoOwn (ς : En) (σ : L2.St) (x : Addr) : Prop := ∀ (n : Nat) b es, ς[n]? = some (some (.own b es)) → σ[n]? ≠ some (some (.ref x))
structure Priv (F : Fx) (ς : En) (G : Hp) (σ : L2.St) (x : Addr) : Prop where
  g : G x = none
  h0 : F.H0 x = none
  no : NoOwn ς σ x
structure Nest (K : PySem.W.Frag) (F : Fx) (i : Nat) (ς : En) (G : Hp) (σ : L2.St) (H : Hp) (a : Addr) (as : List Addr) (dss : List (List D)) : Prop where
  rel : Rel K F ς G σ H
  sg : σ[i]? = some (some (.ref a))
  ha : H a = some (.lst (as.map V.ref))
  pa : Priv F ς G σ a
  na : a ∉ as
  nd : as.Nodup
  len : as.length = dss.length
  inn : ∀ (k : Nat) b ds, as[k]? = some b → dss[k]? = some ds → ∃ vs, H b = some (.lst vs) ∧ Priv F ς G σ b ∧ DpAll K G vs ds
section
variable {K : PySem.W.Frag} {F : Fx} {i : Nat} {ς ς' : En} {G G' : Hp} {σ σ' : L2.St} {H H' : Hp} {a : Addr} {as : List Addr} {dss : List (List D)}
theorem Nest.step (h : Nest K F i ς G σ H a as dss) (r : Rel K (F.now ς G σ H) ς' G' σ' H') (s : Same G G') (e1 : σ'[i]? = σ[i]?) : Nest K F i ς' G' σ' H' a as dss := by
  have ka := h.rel.keepF r h.ha h.pa.g h.pa.no
  refine ⟨h.rel.back r, e1.trans h.sg, ka.1, ⟨ka.2.1, h.pa.h0, ka.2.2⟩, h.na, h.nd, h.len, fun k b ds h1 h2 => ?_⟩
  obtain ⟨vs, u1, u2, u3⟩ := h.inn k b ds h1 h2
  have kb := h.rel.keepF r u1 u2.g u2.no
  exact ⟨vs, kb.1, ⟨kb.2.1, u2.h0, kb.2.2⟩, dpa_same s u3⟩
theorem nodup_ix {α : Type} : ∀ {l : List α} {i j : Nat} {x : α}, l.Nodup → l[i]? = some x → l[j]? = some x → i = j
  | [], i, j, x, _, h, _ => by simp at h
  | y :: l, 0, 0, x, _, _, _ => rfl
  | y :: l, 0, j + 1, x, nd, h1, h2 => by
    have h1 : some y = some x := h1
    cases h1
    exact absurd (List.mem_of_getElem? (l := l) (i := j) h2) (List.nodup_cons.1 nd).1
  | y :: l, i + 1, 0, x, nd, h1, h2 => by
    have h2 : some y = some x := h2
    cases h2
    exact absurd (List.mem_of_getElem? (l := l) (i := i) h1) (List.nodup_cons.1 nd).1
  | y :: l, i + 1, j + 1, x, nd, h1, h2 => congrArg (· + 1) (nodup_ix (List.nodup_cons.1 nd).2 h1 h2)
theorem Nest.push (h : Nest K F i ς G σ H a as dss) {k : Nat} {b : Addr} {ds : List D} {vs : List V} {u : V} {d : D} (h1 : as[k]? = some b) (h2 : dss[k]? = some ds) (hv : H b = some (.lst vs)) (dp : Dp K G u d) : Nest K F i ς G σ (upd H b (.lst (vs ++ [u]))) a as (dss.set k (ds ++ [d])) := by
  have hm := List.mem_of_getElem? h1
  have hab : a ≠ b := fun e => h.na (e ▸ hm)
  obtain ⟨vs', w1, w2, w3⟩ := h.inn k b ds h1 h2
  rw [hv] at w1
  cases w1
  refine ⟨h.rel.touch w2.g w2.h0 w2.no hv, h.sg, by rw [upd_ne hab]; exact h.ha, h.pa, h.na, h.nd, by rw [List.length_set]; exact h.len, fun k' b' ds' q1 q2 => ?_⟩
  by_cases e : k' = k
  · subst e
    rw [h1] at q1
    cases q1
    have hk : k' < dss.length := (List.getElem?_eq_some_iff.mp h2).1
    rw [List.getElem?_set_self hk] at q2
    cases q2
    exact ⟨_, upd_same, w2, dpa_app w3 (.cons dp .nil)⟩
  · rw [List.getElem?_set_ne (fun z => e z.symm)] at q2
    obtain ⟨ws, x1, x2, x3⟩ := h.inn k' b' ds' q1 q2
    have hbb : b' ≠ b := fun z => e (nodup_ix h.nd (z ▸ q1) h1)
    exact ⟨ws, by rw [upd_ne hbb]; exact x1, x2, x3⟩
theorem Rel.frzX (r : Rel K F ς G σ H) {b : Addr} {vs : List V} {ds : List D} (h1 : H b = some (.lst vs)) (h2 : G b = none) (h3 : DpAll K G vs ds) (h4 : F.H0 b = none) (h5 : NoOwn ς σ b) : Rel K F ς (upd G b (.lst vs)) σ H ∧ Dp K (upd G b (.lst vs)) (.ref b) (.list ds) := by
  refine ⟨⟨r.len, ?_, r.g0.trans (same_upd h2), ?_, ?_, r.ap, r.par, r.fr, ?_, fun i x e => by
    obtain ⟨v, e1, e2⟩ := r.vx i x e
    exact ⟨v, e1, xp_same (same_upd h2) e2⟩, fun i kvs e => (r.od i kvs e).keep rfl (same_upd h2) fun c o e1 nl e2 => by
    have ne : c ≠ b := fun z => by subst z; rw [h1] at e1; cases e1; exact nl _ rfl
    exact ⟨e1, by rw [upd_ne ne]; exact e2⟩, r.oa⟩, .lst (.inl (.inl upd_same)) (dpa_same (same_upd h2) h3)⟩
  · intro c x e
    by_cases hb : c = b
    · subst hb; rw [upd_same] at e; rw [h1, e]
    · rw [upd_ne hb] at e; exact r.sub _ _ e
  · intro i d e
    obtain ⟨v, e1, e2⟩ := r.pu i d e
    exact ⟨v, e1, dp_same (same_upd h2) e2⟩
  · intro i b' es e
    obtain ⟨c, ws, e1, e2, e3, e4, e5⟩ := r.ow i b' es e
    have ne : c ≠ b := fun z => by subst z; exact h5 i b' es e e1
    exact ⟨c, ws, e1, e2, by rw [upd_ne ne]; exact e3, dpa_same (same_upd h2) e4, e5⟩
  · intro c e
    by_cases hc : c = b
    · subst hc; exact .inr h4
    · rw [upd_ne hc] at e; exact r.nw c e
/-- all are data from now on -/
theorem Nest.frz (h : Nest K F i ς G σ H a as dss) : ∃ G', Rel K F ς G' σ H ∧ Same G G' ∧ RepR K F ς G' σ H (.fresh (dss.map PyData.list)) (.ref a) := by
  have main : ∀ k, k ≤ as.length → ∃ G', Rel K F ς G' σ H ∧ Same G G' ∧ G' a = none ∧ (∀ b ∈ as.drop k, G' b = none) ∧ DpAll K G' ((as.take k).map V.ref) ((dss.take k).map PyData.list) := by
    intro k
    induction k with
    | zero => intro _; exact ⟨G, h.rel, Same.refl _, h.pa.g, fun b hb => by
        obtain ⟨j, hj⟩ := List.mem_iff_getElem?.1 hb
        rw [List.drop_zero] at hj
        have hjl : j < dss.length := by have := (List.getElem?_eq_some_iff.mp hj).1; have := h.len; omega
        obtain ⟨vs, _, p, _⟩ := h.inn j b _ hj (List.getElem?_eq_getElem hjl)
        exact p.g, .nil⟩
    | succ k ih =>
      intro hk
      obtain ⟨G1, r1, s1, ga, gd, dp⟩ := ih (by omega)
      have hkl : k < as.length := by omega
      have hkd : k < dss.length := by have := h.len; omega
      have hak := List.getElem?_eq_getElem hkl
      obtain ⟨vs, u1, u2, u3⟩ := h.inn k as[k] dss[k] hak (List.getElem?_eq_getElem hkd)
      have hdr : as.drop k = as[k] :: as.drop (k + 1) := List.drop_eq_getElem_cons hkl
      have gk : G1 as[k] = none := gd _ (hdr ▸ List.mem_cons_self)
      obtain ⟨r2, d2⟩ := r1.frzX u1 gk (dpa_same s1 u3) u2.h0 u2.no
      have hnd : as[k] ∉ as.drop (k + 1) := by
        have := (h.nd.sublist (List.drop_sublist k as))
        rw [hdr] at this
        exact (List.nodup_cons.1 this).1
      have s2 : Same G1 (upd G1 as[k] (.lst vs)) := same_upd gk
      have hak2 : a ≠ as[k] := fun e => h.na (e ▸ List.getElem_mem hkl)
      refine ⟨_, r2, s1.trans s2, by rw [upd_ne hak2]; exact ga, fun b hb => ?_, ?_⟩
      · have : b ≠ as[k] := fun e => hnd (e ▸ hb)
        rw [upd_ne this]
        exact gd b (by rw [hdr]; exact List.mem_cons_of_mem _ hb)
      · rw [List.take_add_one, hak, List.take_add_one, List.getElem?_eq_getElem hkd, List.map_append, List.map_append]
        exact dpa_app (dpa_same s2 dp) (.cons d2 .nil)
  obtain ⟨G1, r1, s1, ga, _, dp⟩ := main as.length (Nat.le_refl _)
  rw [List.take_length, h.len, List.take_length] at dp
  exact ⟨G1, r1, s1, a, as.map V.ref, rfl, h.ha, ga, dp, h.pa.h0, h.pa.no⟩
/-! ### statements over it -/
end
/-! ### xs = [[] for .. in ..]; ..; return xs -/
structure PL (K : PySem.W.Frag) (F : Fx) (L : Addr) (ς : En) (G : Hp) (σ : L2.St) (H : Hp) (as : List Addr) : Prop where
  rel : Rel K F ς G σ H
  ha : H L = some (.lst (as.map V.ref))
  pa : Priv F ς G σ L
  na : L ∉ as
  nd : as.Nodup
  inn : ∀ b ∈ as, H b = some (.lst []) ∧ Priv F ς G σ b
section
variable {K : PySem.W.Frag} {F : Fx} {L : Addr} {ς ς' : En} {G G' : Hp} {σ σ' : L2.St} {H H' : Hp} {as : List Addr}
theorem PL.step (h : PL K F L ς G σ H as) (r : Rel K (F.now ς G σ H) ς' G' σ' H') : PL K F L ς' G' σ' H' as := by
  have ka := h.rel.keepF r h.ha h.pa.g h.pa.no
  refine ⟨h.rel.back r, ka.1, ⟨ka.2.1, h.pa.h0, ka.2.2⟩, h.na, h.nd, fun b hb => ?_⟩
  obtain ⟨u1, u2⟩ := h.inn b hb
  have kb := h.rel.keepF r u1 u2.g u2.no
  exact ⟨kb.1, kb.2.1, u2.h0, kb.2.2⟩
theorem Priv.wiped (h : Priv F ς G σ L) (vs : List Nat) : Priv F (wipeE ς vs) G (wipe σ vs) L := ⟨h.g, h.h0, fun n b es z1 z2 => h.no n b es (wipeE_own vs z1) (wipe_some z2).1⟩
theorem PL.wiped (h : PL K F L ς G σ H as) (vs : List Nat) (hf : freeAll ς vs = true) : PL K F L (wipeE ς vs) G (wipe σ vs) H as :=
  ⟨h.rel.wiped vs hf, h.ha, h.pa.wiped vs, h.na, h.nd, fun b hb => ⟨(h.inn b hb).1, (h.inn b hb).2.wiped vs⟩⟩
theorem PL.push (h : PL K F L ς G σ H as) {p : Addr} (hp : H p = none) : PL K F L ς G σ (upd (upd H p (.lst [])) L (.lst (as.map V.ref ++ [.ref p]))) (as ++ [p]) := by
  have hpL : L ≠ p := fun e => by rw [← e, h.ha] at hp; cases hp
  have hpa : p ∉ as := fun m => by rw [(h.inn p m).1] at hp; cases hp
  have pp : Priv F ς G σ p := ⟨h.rel.gnone hp, h.rel.new hp, fun n b es z w => by
    obtain ⟨c, ws, f1, f2, _⟩ := h.rel.ow n b es z
    rw [w] at f1; cases f1
    rw [hp] at f2; cases f2⟩
  refine ⟨(h.rel.layF hp).touch h.pa.g h.pa.h0 h.pa.no (by rw [upd_ne hpL]; exact h.ha), by rw [upd_same, List.map_append]; rfl, h.pa, fun m => ?_, ?_, fun b hb => ?_⟩
  · rcases List.mem_append.1 m with m | m
    · exact h.na m
    · exact hpL (List.mem_singleton.1 m)
  · rw [List.nodup_append]
    exact ⟨h.nd, by simp, fun a ha b hb => by rw [List.mem_singleton.1 hb]; exact fun e => hpa (e ▸ ha)⟩
  · rcases List.mem_append.1 hb with hb | hb
    · have hbL : b ≠ L := fun e => h.na (e ▸ hb)
      have hbp : b ≠ p := fun e => hpa (e ▸ hb)
      rw [upd_ne hbL, upd_ne hbp]
      exact h.inn b hb
    · rw [List.mem_singleton.1 hb, upd_ne (fun e => hpL e.symm), upd_same]
      exact ⟨rfl, pp⟩
end
end Lw
namespace Lw
open PySem PySem.Spec PyProof.Rows L2
/-! ### a, rows = x, [list(row) for row in ..]; rows[k][a] = rows[k][a] - y -/
structure PQ (K : PySem.W.Frag) (F : Fx) (L : Addr) (ς : En) (G : Hp) (σ : L2.St) (H : Hp) (as : List Addr) (dss : List (List D)) : Prop where
  rel : Rel K F ς G σ H
  ha : H L = some (.lst (as.map V.ref))
  pa : Priv F ς G σ L
  na : L ∉ as
  nd : as.Nodup
  len : as.length = dss.length
  inn : ∀ (k : Nat) b ds, as[k]? = some b → dss[k]? = some ds → ∃ vs, H b = some (.lst vs) ∧ Priv F ς G σ b ∧ DpAll K G vs ds
section
variable {K : PySem.W.Frag} {F : Fx} {L : Addr} {ς ς' : En} {G G' : Hp} {σ σ' : L2.St} {H H' : Hp} {as : List Addr} {dss : List (List D)}
theorem PQ.step (h : PQ K F L ς G σ H as dss) (r : Rel K (F.now ς G σ H) ς' G' σ' H') : PQ K F L ς' G' σ' H' as dss := by
  have ka := h.rel.keepF r h.ha h.pa.g h.pa.no
  refine ⟨h.rel.back r, ka.1, ⟨ka.2.1, h.pa.h0, ka.2.2⟩, h.na, h.nd, h.len, fun k b ds h1 h2 => ?_⟩
  obtain ⟨vs, u1, u2, u3⟩ := h.inn k b ds h1 h2
  have kb := h.rel.keepF r u1 u2.g u2.no
  exact ⟨vs, kb.1, ⟨kb.2.1, u2.h0, kb.2.2⟩, dpa_same r.g0 u3⟩
theorem PQ.wiped (h : PQ K F L ς G σ H as dss) (vs : List Nat) (hf : freeAll ς vs = true) : PQ K F L (wipeE ς vs) G (wipe σ vs) H as dss :=
  ⟨h.rel.wiped vs hf, h.ha, h.pa.wiped vs, h.na, h.nd, h.len, fun k b ds h1 h2 => by
    obtain ⟨ws, u1, u2, u3⟩ := h.inn k b ds h1 h2
    exact ⟨ws, u1, u2.wiped vs, u3⟩⟩
theorem PQ.push (h : PQ K F L ς G σ H as dss) (r : Rel K (F.now ς G σ H) ς' G' σ' H') {es : List D} {v : V} (rep : RepR K (F.now ς G σ H) ς' G' σ' H' (.fresh es) v) :
    ∃ p, v = .ref p ∧ H' L = some (.lst (as.map V.ref)) ∧ PQ K F L ς' G' σ' (upd H' L (.lst (as.map V.ref ++ [.ref p]))) (as ++ [p]) (dss ++ [es]) := by
  obtain ⟨p, vs, rfl, f1, f2, f3, f4, f5⟩ := rep
  have hh := h.step r
  have hL : L ≠ p := fun e => by
    rw [← e, now_some h.rel h.ha h.pa.no] at f4
    cases f4
  have hpa : p ∉ as := fun m => by
    obtain ⟨k, hk⟩ := List.mem_iff_getElem?.1 m
    have hkl : k < dss.length := by have := (List.getElem?_eq_some_iff.mp hk).1; have := h.len; omega
    obtain ⟨ws, u1, u2, u3⟩ := h.inn k p _ hk (List.getElem?_eq_getElem hkl)
    rw [now_some h.rel u1 u2.no] at f4
    cases f4
  have pp : Priv F ς' G' σ' p := ⟨f2, now_none h.rel f4, f5⟩
  refine ⟨p, rfl, hh.ha, hh.rel.touch hh.pa.g hh.pa.h0 hh.pa.no hh.ha, by rw [upd_same, List.map_append]; rfl, hh.pa, fun m => ?_, ?_, by rw [List.length_append, List.length_append, hh.len]; rfl, fun k b ds h1 h2 => ?_⟩
  · rcases List.mem_append.1 m with m | m
    · exact h.na m
    · exact hL (List.mem_singleton.1 m)
  · rw [List.nodup_append]
    exact ⟨h.nd, by simp, fun a ha b hb => by rw [List.mem_singleton.1 hb]; exact fun e => hpa (e ▸ ha)⟩
  · by_cases hk : k < as.length
    · rw [List.getElem?_append_left hk] at h1
      rw [List.getElem?_append_left (by rw [← h.len]; exact hk)] at h2
      have hbL : b ≠ L := fun e => h.na (e ▸ List.mem_of_getElem? h1)
      rw [upd_ne hbL]
      exact hh.inn k b ds h1 h2
    · rw [List.getElem?_append_right (by omega)] at h1
      rw [List.getElem?_append_right (by rw [← h.len]; omega)] at h2
      have e0 : k - as.length = 0 := by
        have := (List.getElem?_eq_some_iff.mp h1).1
        simp at this
        omega
      rw [e0] at h1
      rw [← h.len, e0] at h2
      cases h1
      cases h2
      rw [upd_ne (fun e => hL e.symm)]
      exact ⟨vs, f1, pp, f3⟩
theorem NoOwn.set {s : Option S} {w : Option V} {x : Addr} {i : Nat} (hs : ∀ b es, s ≠ some (.own b es)) (h : NoOwn ς σ x) : NoOwn (ς.set i s) (σ.set i w) x := fun n b es z1 z2 => by
  rcases get_set z1 with ⟨_, e⟩ | ⟨ni, e⟩
  · exact hs b es e
  · rw [List.getElem?_set_ne ni] at z2
    exact h n b es e z2
theorem NoOwn.unwipe {vs : List Nat} {x : Addr} (r : Rel K F ς G (wipe σ vs) H) (h : NoOwn ς (wipe σ vs) x) : NoOwn ς σ x := fun n b es z1 z2 => by
  obtain ⟨c, ws, f1, _⟩ := r.ow n b es z1
  have f2 := (wipe_some f1).1
  rw [z2] at f2; cases f2
  exact h n b es z1 f1
end
def lrLoop (vs : List Nat) (t0 : Tg) (f : M R) : List D → List (List D) → En → Option (List (List D) × En)
  | [], acc, ς => some (acc, ς)
  | d :: ds, acc, ς => match t0 d ς with
    | some ς1 => match f ς1 with
      | some (.fresh es, ς2) => if freeAll ς2 vs = true ∧ acc.length < sizeLine then lrLoop vs t0 f ds (acc ++ [es]) (wipeE ς2 vs) else none
      | _ => none
    | none => none
end Lw
namespace Lw
open PySem PySem.Spec PyProof.Rows L2
/-! ### a dict of one's own, numbers by numbers, in one slot -/
abbrev KI := List (Int × Int)
def kvD (kv : KI) : List (Key × V) := kv.map fun p => (.inl p.1, V.int p.2)
structure Dic (K : PySem.W.Frag) (F : Fx) (i : Nat) (ς : En) (G : Hp) (σ : L2.St) (H : Hp) (a : Addr) (kv : KI) : Prop where
  rel : Rel K F ς G σ H
  sg : σ[i]? = some (some (.ref a))
  ha : H a = some (.dK (kvD kv))
  pa : Priv F ς G σ a
  nod : ∀ (n : Nat) kvs, ς[n]? = some (some (.vx (.odc kvs))) → σ[n]? ≠ some (some (.ref a))
section
variable {K : PySem.W.Frag} {F : Fx} {i : Nat} {ς ς' : En} {G G' : Hp} {σ σ' : L2.St} {H H' : Hp} {a : Addr} {kv : KI}
theorem Dic.step (h : Dic K F i ς G σ H a kv) (r : Rel K (F.now ς G σ H) ς' G' σ' H') (s : Same G G') (e1 : σ'[i]? = σ[i]?) : Dic K F i ς' G' σ' H' a kv := by
  have ka := h.rel.keepG r h.ha h.pa.g h.pa.no h.nod
  exact ⟨h.rel.back r, e1.trans h.sg, ka.1, ⟨ka.2.1, h.pa.h0, ka.2.2.1⟩, ka.2.2.2⟩
end
/-! ### d[k] = min(m, d.get(k, m)) -/
def putI (kv : KI) (k v : Int) : KI := if (kv.any fun p => decide (p.1 = k)) = true then kv.map (fun p => if p.1 = k then (p.1, v) else p) else kv ++ [(k, v)]
theorem putK_kv (k v : Int) (kv : KI) : putK (kvD kv) (Sum.inl k : Key) (V.int v) = kvD (putI kv k v) := by
  have e0 : (kvD kv).any (fun q => decide (q.1 = (Sum.inl k : Key))) = kv.any fun p => decide (p.1 = k) := by
    unfold kvD
    rw [List.any_map]
    congr 1
    funext p
    show decide ((Sum.inl p.1 : Key) = Sum.inl k) = decide (p.1 = k)
    by_cases h : p.1 = k
    · rw [h]; simp
    · rw [decide_eq_false h, decide_eq_false (fun e => h (Sum.inl.inj e))]
  unfold putK putI
  rw [e0]
  split
  · unfold kvD
    rw [List.map_map, List.map_map]
    refine List.map_congr_left fun p _ => ?_
    show (if (Sum.inl p.1 : Key) = Sum.inl k then ((Sum.inl p.1 : Key), V.int v) else (Sum.inl p.1, V.int p.2)) = _
    by_cases h : p.1 = k
    · rw [if_pos (by rw [h])]
      show _ = (Sum.inl (if p.1 = k then (p.1, v) else p).1, V.int (if p.1 = k then (p.1, v) else p).2)
      rw [if_pos h]
    · rw [if_neg (fun e => h (Sum.inl.inj e))]
      show _ = (Sum.inl (if p.1 = k then (p.1, v) else p).1, V.int (if p.1 = k then (p.1, v) else p).2)
      rw [if_neg h]
  · unfold kvD
    rw [List.map_append]
    rfl
theorem Dic.put {K : PySem.W.Frag} {F : Fx} {i : Nat} {ς : En} {G : Hp} {σ : L2.St} {H : Hp} {a : Addr} {kv : KI} (h : Dic K F i ς G σ H a kv) (k v : Int) : Dic K F i ς G σ (upd H a (.dK (putK (kvD kv) (Sum.inl k) (V.int v)))) a (putI kv k v) :=
  ⟨h.rel.touchG h.pa.g h.pa.h0 h.pa.no h.nod, h.sg, by rw [upd_same, putK_kv], h.pa, h.nod⟩
end Lw
namespace Lw
open PySem PySem.Spec PyProof.Rows L2
/-! ### d = {}; ..; return list(d.items()) -/
section
variable {K : PySem.W.Frag} {F : Fx} {ς : En} {G H H' : Hp} {σ : L2.St}
theorem Rel.ext (r : Rel K F ς G σ H) (s : ∀ b o, H b = some o → H' b = some o) : Rel K F ς G σ H' :=
  ⟨r.len, fun b o e => s b o (r.sub b o e), r.g0, r.pu, fun i b ds e => by
    obtain ⟨a, vs, e1, e2, e3⟩ := r.ow i b ds e
    exact ⟨a, vs, e1, s _ _ e2, e3⟩, r.ap, r.par, fun a o h n => s a o (r.fr a o h n), r.nw, r.vx, fun i kvs e => (r.od i kvs e).keep rfl (Same.refl _) fun c o e1 _ e2 => ⟨s _ _ e1, e2⟩, r.oa⟩
end
end Lw
namespace Lw
open PySem PySem.Spec PyProof.Rows L2
end Lw
namespace Lw
open PySem PySem.Spec PyProof.Rows L2
end Lw
namespace Lw
open PySem PySem.Spec PyProof.Rows L2
/-! ### sorted(set(xs)) of a list of ints -/
end Lw
namespace Lw
open PySem PySem.Spec PyProof.Rows L2
/-! ### in numbers -/
def insU (k : Int) : List Int → List Int
  | [] => [k]
  | x :: xs => if k < x then k :: x :: xs else if k = x then x :: xs else x :: insU k xs
def sortU (ns : List Int) : List Int := ns.foldr insU []
def gSoSe : D → Option R
  | .list ds => match intsD ds with
    | some ns => if ns.length < 60 then some (.fresh ((sortU ns).map PyData.int)) else none
    | none => none
  | _ => none
def soseE (f : M R) : M R := bd (esc f) fun d => lift (gSoSe d)
theorem Sm.soseE {ς : En} {f : M R} {Q : R → En → Prop} (h : wp f ς fun r ς1 => ∃ d ς2, toD r ς1 = some (d, ς2) ∧ ∃ r2, gSoSe d = some r2 ∧ Q r2 ς2) : wp (Lw.soseE f) ς Q :=
  Sm.bd (Sm.esc (Sm.mono h fun r ς1 ⟨d, ς2, e, r2, e2, q⟩ => ⟨d, ς2, e, Sm.lift e2 q⟩))
namespace Sm
section
variable {ς : En}
instance stp_soseE {ς : En} {f : M R} {Q : R → En → Prop} : Stp (wp (Lw.soseE f) ς Q) (wp f ς fun r ς1 => ∃ d ς2, toD r ς1 = some (d, ς2) ∧ ∃ r2, gSoSe d = some r2 ∧ Q r2 ς2) := ⟨Sm.soseE⟩
end
end Sm
end Lw
namespace Lw
open PySem PySem.Spec PyProof.Rows L2
/-! ### xs += [..], of a list of one's own -/
def augL (i : Nat) (f : M R) : MS := fun ς => match ς[i]? with
  | some (some (.own _ _)) => match f ς with
    | some (.fresh es, ς1) => match ς1[i]? with
      | some (some (.own b ds)) => if ds.length + es.length ≤ sizeLine then some (.nx (ς1.set i (some (.own b (ds ++ es))))) else none
      | _ => none
    | _ => none
  | _ => none
theorem Sm.augL {ς : En} {Q : Out → Prop} {i : Nat} {f : M R} {b0 : Bool} {ds0 : List D} (e0 : ς[i]? = some (some (.own b0 ds0))) (h : wp f ς fun r ς1 => ∃ es b ds, r = .fresh es ∧ ς1[i]? = some (some (.own b ds)) ∧ ds.length + es.length ≤ sizeLine ∧ Q (.nx (ς1.set i (some (.own b (ds ++ es)))))) : wps (Lw.augL i f) ς Q := by
  obtain ⟨r, ς1, e1, es, b, ds, rfl, e2, hl, q⟩ := h
  exact ⟨_, by unfold Lw.augL; simp only [e0, e1, e2]; exact if_pos hl, q⟩
/-! ### t < u, tuples of ints -/
end Lw
namespace Lw
open PySem PySem.Spec PyProof.Rows L2
end Lw
namespace Lw
open PySem PySem.Spec PyProof.Rows L2
/-! ### an exception class of the program's own, over any built-in one, whose __init__ keeps what it is handed -/
structure XC (K : PySem.W.Frag) (C fI : Addr) (bmB : List Value) (newId : String) : Prop where
  ini : PySem.W.excInitIn K C bmB newId = true
  ovr : PySem.W.excOver K C bmB = true
  sa : PySem.W.findIn K (.ref C) "__setattr__" = some (some (.builtin "object.__setattr__"))
  tk : PySem.W.takerIn K C "what" = some none
  hd : PySem.W.hasDictIn K C = true
  iC : PySem.W.findIn K (.ref C) "__init__" = some (some (.ref fI))
  tI : PySem.W.typeIn K (.ref fI) = some (.type "function")
  exC : PySem.W.subIn K (.ref C) (.type "BaseException") = some true
  tyC : PySem.W.typeIn K (.ref C) = some (.type "type")
  kC : PySem.W.keepIn K (.ref C) = true
section
variable {prog : Program} {w : World} {A : Around} {E : Value → Shared → Prop} {s : Shared} {K : PySem.W.Frag} {C fI x t1 : Addr} {B newId initId : String} {bmB : List Value} {v : Value} {Q : Unit → Shared → Prop}
theorem exc_set (SF : StoreFacts B bmB "object.__setattr__" "object") (T : XC K C fI bmB newId) (hK : K.In s.heap) (hx : s.heap.get? x = some (PySem.W.excObj C t1 none .none))
    (hq : ∀ (h' : Heap) (tk' : Nat) (dx : Addr), (∀ b o, b ≠ x → s.heap.get? b = some o → h'.get? b = some o) → s.heap.objs.size ≤ dx → dx ≠ x → h'.get? x = some (PySem.W.excObj C t1 (some dx) .none) →
      h'.Ns1 dx (fun y => if y = ("what" : Str) then some v else none) → Q () { s with heap := h', toks := tk' }) :
    wpAny (model prog w) A (setAttr (.ref x) "what" v) Q E s := by
  obtain ⟨hp, g, d, t, os⟩ := s
  have ne : x ≠ hp.objs.size := Nat.ne_of_lt (Heap.lt_size hx)
  have inst : PySem.W.InstAt hp x (PySem.W.excObj C t1 none .none) C none := ⟨hx, rfl, rfl, trivial⟩
  refine PySem.W.set_plain hK inst T.sa ?_
  refine PySem.W.osa_openX (r := none) SF hK inst T.ovr T.tk fun bb => ?_
  obtain ⟨cd, hc, hd'⟩ := PySem.W.any_some T.hd
  have hx1 : (hp.push (PySem.W.dictOf [] 0)).get? x = some (PySem.W.excObj C t1 none .none) := Heap.get?_push_of_some _ hx
  refine wpAny_bind (wpAny_pure (wpAny_bind (PySem.W.instanceDict_exc hx (PySem.W.looks_clsIn hK hc) hd' ?_)))
  refine PySem.HandSPX.store_in_new ?_ ?_
  · exact ⟨_, #[], _, (Heap.get?_update_ne _ _ _ _ ne.symm).trans (Heap.get?_push_at rfl rfl), rfl, fun e he => absurd he (by simp), fun _ => rfl⟩
  · intro h' tk' hn' hs
    refine hq h' tk' hp.objs.size (fun b o hb ho => ?_) (Nat.le_refl _) ne.symm ?_ hn'
    · have hb2 : b ≠ hp.objs.size := Nat.ne_of_lt (Heap.lt_size ho)
      rw [hs.2 b hb2, Heap.get?_update_ne _ _ _ _ hb]
      exact Heap.get?_push_of_some _ ho
    · rw [hs.2 x ne]
      exact Heap.get?_update_self _ hx1 rfl
end
end Lw
namespace Lw
open PySem PySem.Spec PyProof.Rows L2
/-- self.what = what, in the words of the heap -/
def wWh (C : Addr) (a : Addr) (y : V) (H : Hp) (Q : Hp → Prop) : Prop := H a = some (exo a C none) ∧ ∀ dx, H dx = none → dx ≠ a → Q (upd (upd H dx (exd dx [(("what" : Str), y)])) a (exo a C (some dx)))
section
variable {X : Cx} {pins : List (Addr × Obj)} {σ : L2.St} {H : Hp} {s : Shared} {C fI a : Addr} {y : V} {u : Value} {B newId initId : String} {bmB : List Value} {Q : Unit → Shared → Prop} {E : Value → Shared → Prop} {A : Around}
theorem what_set (SF : StoreFacts B bmB "object.__setattr__" "object") (T : XC X.K C fI bmB newId) (I : Inv X pins σ H s) (ry : RelV y u) {P : Hp → Prop} (h : wWh C a y H P) (hQ : ∀ H' s', Inv X pins σ H' s' → P H' → Q () s') :
    wpAny (model X.prog X.w) A (setAttr (.ref a) "what" u) Q E s := by
  obtain ⟨e, hp⟩ := h
  obtain ⟨t1, ho⟩ := exo_at I.hok e
  refine exc_set SF T I.kIn ho fun h' tk' dx k dn dne hx hn => ?_
  have hnd : H dx = none := I.hok.fresh dn
  have ltd : ∀ {b : Addr} {o : Obj}, s.heap.get? b = some o → b ≠ dx := fun {b o} q z => absurd (Heap.lt_size q) (by rw [z]; exact Nat.not_lt.mpr dn)
  have nota : ∀ {b : Addr}, H b = none → b ≠ a := fun {b} n z => by
    subst z
    rw [n] at e
    cases e
  have two : ∀ {b : Addr} {o : HO}, H b = some o → o ≠ exo a C none → upd (upd H dx (exd dx [(("what" : Str), y)])) a (exo a C (some dx)) b = some o := fun {b o} q ne => by
    have h1 : b ≠ a := fun z => by
      subst z
      rw [e] at q
      exact ne (Option.some.inj q).symm
    rw [upd_ne h1, upd_ne (ne_of_none q hnd)]
    exact q
  have un : Un X.fs [] H (upd (upd H dx (exd dx [(("what" : Str), y)])) a (exo a C (some dx))) s.heap h' := by
    constructor
    · exact fun b o q n _ _ => k b o (nota n) q
    · exact fun b o q n _ _ => ⟨o.slots, k b o (nota n) q⟩
    · intro b o q n _
      rw [upd_ne (nota n), upd_ne (ltd q)]
      exact n
    · intro b o q _
      by_cases z : b = a
      · exact ⟨_, by rw [z]; exact hx⟩
      · exact ⟨o, k b o z q⟩
    · exact fun b xs q => two q (Ne.symm exo_tup)
    · exact fun b o v q => two q (Ne.symm exo_frz)
    · intro b ps q
      refine ⟨#[], ?_⟩
      rw [two q (Ne.symm exo_tbl)]
      simp
  refine hQ _ _ (I.un (t' := tk') un fun b o q => ?_) (hp dx hnd dne)
  by_cases z : b = a
  · subst z
    rw [upd_same] at q
    cases q
    exact exo_ok hx
  rw [upd_ne z] at q
  by_cases z2 : b = dx
  · subst z2
    rw [upd_same] at q
    cases q
    exact exd_ok hn (relO_put (fs := []) ry fun g => True.intro)
  rw [upd_ne z2] at q
  refine (I.hok b o q).stay (fun c v hc r => k c v ?_ r) (fun c r => two r (Ne.symm exo_own)) fun c xs r => two r (Ne.symm exo_tup)
  rcases hc with hc | hc
  · rw [hc]; exact z
  · intro w
    rw [w, e] at hc
    exact exo_own (Option.some.inj hc)
end
end Lw
namespace Lw
open PySem PySem.Spec PyProof.Rows L2
section
variable {X : Cx} {C fI : Addr} {B newId initId : String} {bmB : List Value} {o e : Expr} {to te : TE} {p' pos : Pos}
/-- the one statement of such an __init__ -/
theorem ps_what (SF : StoreFacts B bmB "object.__setattr__" "object") (T : XC X.K C fI bmB newId) (ho : PE X o to) (he : PE X e te) (hs : swapsWith e (some (.Attribute o "what" p')) pos.line X.env = pure false := by rfl) :
    PS X (.Assign [.Attribute o "what" p'] e pos) (fun D σ H => te σ H fun y H1 => to σ H1 fun x H2 => ∃ a, x = .ref a ∧ wWh C a y H2 (D.nx σ)) := by
  refine ⟨fun pins s σ H D I h => ?_⟩
  refine plainObj_wpAny_Assign_Attribute ?_ hs
  refine thn (he.run pins s σ H _ I h) fun v s1 hv => ?_
  obtain ⟨y, H1, I1, r1, q1⟩ := hv
  refine thn (ho.run pins s1 σ H1 _ I1 q1) fun u s2 hu => ?_
  obtain ⟨x, H2, I2, r2, a, rfl, q⟩ := hu
  have eu : u = Value.ref a := r2
  subst eu
  exact what_set SF T I2 r1 q fun H' s' J z => ⟨σ, H', J, z⟩
/-- what its __init__ promises -/
def spW (C : Addr) : Sp := fun vs H Q _ => ∃ a y, vs = [.ref a, y] ∧ wWh C a y H (Q .non)
end
theorem init_ok {P : Program} {w : World} {K : PySem.W.Frag} {mg : Str → Option Value} {base : Heap} {C fI : Addr} {fd : FuncData} {B newId : String} {bmB : List Value} {qual x : Str} {params : Arguments} {scope : Scope} {k : Nat} {p1 p2 p3 p4 : Pos}
    (SF : StoreFacts B bmB "object.__setattr__" "object") (T : XC K C fI bmB newId)
    (F : FunD K x qual params [.Assign [.Attribute (.Name "self" p1) "what" p2] (.Name "what" p3) p4] scope [] [] fI fd) (S : FnScope ["self", "what"] ["self", "what"] scope) (h0 : Vis scope "self") (h1 : Vis scope "what") :
    FnOk P w K mg base CX0 (k + 1) fI fd ["self", "what"] (spW C) := by
  refine F.ok S (fun vs H Q E h => by obtain ⟨a, y, rfl, _⟩ := h; rfl) fun cdv A outer s H vs Q E hr h => ?_
  obtain ⟨a, y, rfl, hw⟩ := h
  refine ⟨_, pss_one (ps_what SF T (pe_var (i := 0) rfl h0 (by decide) (by decide)) (pe_var (i := 1) rfl h1 (by decide) (by decide)) rfl), ?_⟩
  exact ⟨y, rfl, .ref a, rfl, a, rfl, hw⟩
section
variable {X : Cx} {C fI : Addr} {fd : FuncData} {k : Nat} {B newId initId : String} {bmB : List Value} {x : Str} {e : Expr} {te : TE} {p pos : Pos}
def oneV (P : V → Hp → Prop) : List V → Hp → Prop
  | [v], H => P v H
  | _, _ => False
/-- x(e), of such a class -/
def tMkW (C : Addr) (te : TE) : L2.St → Hp → XK → Prop := fun σ H Q => te σ H fun v H1 => ∀ dd, H1 dd = none → Q (.ref C) (some dd) (upd H1 dd (.xd [(("what" : Str), v)]))
theorem pmk_what (FB : ExcBaseFacts B newId initId bmB) (T : XC X.K C fI bmB newId) (F1 : FnOk X.prog X.w X.K X.mg X.base CX0 k fI fd ["self", "what"] (spW C)) (hr : Room (k + 1) X.A) (hb : Binds X.K fd ["self", "what"] []) (hg : Gl X x) (hm : X.mg x = some (.ref C)) (ha : PE X e te)
    (hdb : (x == ("__debug__" : Str)) = false := by decide) (he : starEach [e] X.env = (false, eval e X.env) :: starEach [] X.env := by rfl) (hpl : (backTo pos (starEach [] X.env)).any (·.1) = false := by rfl) :
    PMk X (.Call (.Name x p) [e] [] pos) (tMkW C te) := by
  intro pins s σ H Q I h
  have hargs : PA X [e] (fun σ H Q => te σ H fun v H1 => Q [v] H1) := pa_cons ha pa_nil he
  refine wpAny_Call_Name_kw (ld_glob I hg hm ?_ hdb)
  refine PySem.W.callWith_K (h₀ := X.base) I.ok.mod.kin T.kC ?_ he hpl
  refine thn (hargs.run pos pins s σ H (oneV fun v H1 => ∀ dd, H1 dd = none → Q (.ref C) (some dd) (upd H1 dd (.xd [(("what" : Str), v)]))) I h) fun us s1 hh => ?_
  obtain ⟨vs, H1, I1, r1, q1⟩ := hh
  obtain ⟨v, rfl⟩ : ∃ v, vs = [v] := by
    rcases vs with _ | ⟨v, _ | ⟨v2, vs⟩⟩
    · exact q1.elim
    · exact ⟨v, rfl⟩
    · exact q1.elim
  obtain ⟨u, rfl, ru⟩ : ∃ u, us = [u] ∧ RelV v u := by
    cases r1 with
    | cons ra rb => cases rb with | nil => exact ⟨_, rfl, ra⟩
  refine ⟨I1.kIn, ?_⟩
  show wpAny _ _ (call (.ref C) [u]) _ _ _
  obtain ⟨nm, N, qn, bs, bm, hdct, sn, sub, ab, col, dd0, k0, k1, k2, k3, k5, hC, hcont⟩ := PySem.W.excInit_of I1.kIn T.ini
  obtain ⟨hp, g, dr, tk, os⟩ := s1
  have big : hp.objs.size ≤ hp.objs.size + 1 := Nat.le_succ _
  have fresh := I1.hok.fresh big
  have kept : ∀ b o, hp.get? b = some o → ((hp.push (PySem.W.kdv_tup [u])).push (PySem.HandSPX.excO C hp.objs.size)).get? b = some o := fun b o q => Heap.get?_push_of_some _ (Heap.get?_push_of_some _ q)
  have got : ((hp.push (PySem.W.kdv_tup [u])).push (PySem.HandSPX.excO C hp.objs.size)).get? (hp.objs.size + 1) = some (PySem.HandSPX.excO C hp.objs.size) := by heap_get
  have I2 := I1.laid (t' := tk) (o := exo (hp.objs.size + 1) C none) (h' := (hp.push (PySem.W.kdv_tup [u])).push (PySem.HandSPX.excO C hp.objs.size)) kept big (exo_ok got)
  have prom : spW C [.ref (hp.objs.size + 1), v] (upd H1 (hp.objs.size + 1) (exo (hp.objs.size + 1) C none))
      (fun z H2 => z = .non ∧ ∃ (d : Addr) (fs : List (Str × V)), H2 (hp.objs.size + 1) = some (exo (hp.objs.size + 1) C (some d)) ∧ H2 d = some (exd d fs) ∧ H1 d = none ∧ Q (.ref C) (some d) (upd (del H2 (hp.objs.size + 1)) d (.xd fs))) (fun _ _ _ => False) := by
    refine ⟨_, v, rfl, upd_same, fun d hd hne => ⟨rfl, d, [(("what" : Str), v)], upd_same, ?_, ?_, ?_⟩⟩
    · rw [upd_ne hne]
      exact upd_same
    · rw [upd_ne hne] at hd
      exact hd
    · rw [upd_ne hne] at hd
      have e2 : upd (del (upd (upd (upd H1 (hp.objs.size + 1) (exo (hp.objs.size + 1) C none)) d (exd d [(("what" : Str), v)])) (hp.objs.size + 1) (exo (hp.objs.size + 1) C (some d))) (hp.objs.size + 1)) d (.xd [(("what" : Str), v)]) = upd H1 d (.xd [(("what" : Str), v)]) := by
        funext b
        by_cases z : b = d
        · rw [z, upd_same, upd_same]
        · rw [upd_ne z, upd_ne z]
          by_cases z2 : b = hp.objs.size + 1
          · rw [z2, del_same, fresh]
          · rw [del_ne z2, upd_ne z2, upd_ne z, upd_ne z2]
      rw [e2]
      exact q1 d hd
  have r2 : Vals [V.ref (hp.objs.size + 1), v] [Value.ref (hp.objs.size + 1), u] := .cons rfl (.cons ru .nil)
  have bnd := hb _ [Value.ref (hp.objs.size + 1), u] I2.kIn rfl
  refine wpAny_call (PySem.HandSPX.call_own FB hcont hC (PySem.W.looks_findIn I1.kIn T.iC) (fun self => PySem.W.bind_fn I1.kIn self T.tI) (by rw [sizeLine_eq]; simp) ?_)
  refine codeAny_mono (F1.run _ X.stack _ _ ⟨[Value.ref (hp.objs.size + 1), u], []⟩ _ _ _ _ (hr.make C [u] []) (I2.env0.make C [u] []) bnd r2 prom) fun r s' hq' => ?_
  rcases r with er | fl
  · exact hq'.elim
  rcases fl with _ | _ | _ | z
  · exact hq'.elim
  · exact hq'.elim
  · exact hq'.elim
  obtain ⟨zv, H2, os2, bare2, un2, hok2, rv, ev, d, fs, ea, ed, hd1, q2⟩ := hq'
  subst ev
  obtain ⟨h2, g2, d2, t2, os'⟩ := s'
  exact ⟨rv, mk_end (raises_own T.exC T.tyC) I1 big kept un2 hok2 os2 bare2 ea ed hd1 q2⟩
end
end Lw
namespace Lw
open PySem PySem.Spec PyProof.Rows L2
/-! ### statements that may raise an exception of the program's own -/
inductive OutX where
  | nrm (o : Out)
  | exc (nm : Str) (d : D) (ς : En)
abbrev MX := En → Option OutX
/-- what is wished of an exception nm that keeps d -/
def ExcOk (K : PySem.W.Frag) (F : Fx) (G : Hp) (W : WX) (nm : Str) (d : D) (ς' : En) : Prop :=
  ∀ σ' H' G' dd v, Rel K F ς' G' σ' H' → Same G G' → G' dd = some (.xd [(("what" : Str), v)]) → Dp K G' v d → W (.ref (nmAt K nm)) (some dd) σ' H'
theorem ExcOk.mono {K : PySem.W.Frag} {F : Fx} {G G1 : Hp} {W : WX} {nm : Str} {d : D} {ς' : En} (s : Same G G1) (h : ExcOk K F G W nm d ς') : ExcOk K F G1 W nm d ς' :=
  fun σ' H' G' dd v rl s1 => h σ' H' G' dd v rl (s.trans s1)
def EndsX (K : PySem.W.Frag) (F : Fx) (G : Hp) (W : WX) (D : Ends) : OutX → Prop
  | .nrm o => EndsOk K F G D o
  | .exc nm d ς' => ExcOk K F G W nm d ς'
theorem EndsX.mono {K : PySem.W.Frag} {F : Fx} {G G1 : Hp} {W : WX} {D : Ends} {o : OutX} (s : Same G G1) (h : EndsX K F G W D o) : EndsX K F G1 W D o := by
  cases o with
  | nrm o => exact EndsOk.mono s h
  | exc nm d ς' => exact ExcOk.mono s h
def tSx (K : PySem.W.Frag) (F : Fx) (W : WX) (g : MX) : TS := fun D σ H => ∃ ς G, Rel K F ς G σ H ∧ ∃ o, g ς = some o ∧ EndsX K F G W D o
abbrev PSx (X : Cx) (st : Stmt) (g : MX) : Prop := ∀ (F : Fx) (W : WX), Takes X W → PS X st (tSx X.K F W g)
abbrev PSsx (X : Cx) (st : List Stmt) (g : MX) : Prop := ∀ (F : Fx) (W : WX), Takes X W → PSs X st (tSx X.K F W g)
/-- an expression that may raise one -/
inductive RX where
  | val (r : R) (ς : En)
  | exc (nm : Str) (d : D) (ς : En)
abbrev MRX := En → Option RX
def tEx' (K : PySem.W.Frag) (F : Fx) (W : WX) (f : MRX) : TE := fun σ H Q => ∃ ς G, Rel K F ς G σ H ∧ ∃ o, f ς = some o ∧ match o with
  | .val r ς' => ∀ v H' G', Rel K F ς' G' σ H' → Same G G' → RepR K F ς' G' σ H' r v → Q v H'
  | .exc nm d ς' => ExcOk K F G W nm d ς'
abbrev PEx (X : Cx) (e : Expr) (f : MRX) : Prop := ∀ (F : Fx) (W : WX), Takes X W → PE X e (tEx' X.K F W f)
section
variable {X : Cx} {c e : Expr} {fa f : M R} {fx : MRX} {ta : M Bool} {pos p : Pos} {x : Str} {st : Stmt} {sts rest : List Stmt} {g g1 g2 : MS} {gx gx1 gx2 : MX}
def nS (g : MS) : MX := fun ς => (g ς).map .nrm
theorem nS_some {g : MS} {ς : En} {o : OutX} (h : nS g ς = some o) : ∃ o', g ς = some o' ∧ o = .nrm o' := by
  unfold nS at h
  cases q : g ς with
  | none => rw [q] at h; cases h
  | some o' => rw [q] at h; cases h; exact ⟨o', rfl, rfl⟩
theorem t_nS {F : Fx} {W : WX} : ∀ D σ H, tSx X.K F W (nS g) D σ H → tSt X.K F g D σ H := fun D σ H hq => by
  obtain ⟨ς, G, rl, o, e, k⟩ := hq
  obtain ⟨o', e', rfl⟩ := nS_some e
  exact ⟨ς, G, rl, o', e', k⟩
theorem x_of (h : PSd X st g) : PSx X st (nS g) := fun F W _ => PS.mono (h F) t_nS
theorem x_ofs (h : PSsd X sts g) : PSsx X sts (nS g) := fun F W _ => PSs.mono (h F) t_nS
def sqX (g1 g2 : MX) : MX := fun ς => match g1 ς with
  | some (.nrm (.nx ς')) => g2 ς'
  | o => o
theorem x_cons (h1 : PSx X st gx1) (h2 : PSsx X rest gx2) : PSsx X (st :: rest) (sqX gx1 gx2) := fun F W tk => PSs.mono (pss_cons (h1 F W tk) (h2 F W tk)) fun D σ H hq => by
  obtain ⟨ς, G, rl, o, e, k⟩ := hq
  unfold sqX at e
  split at e
  · rename_i ς1 q
    exact ⟨ς, G, rl, _, q, fun σ' H' G' rl' s => ⟨ς1, G', rl', o, e, k.mono s⟩⟩
  · rename_i q
    refine ⟨ς, G, rl, o, e, ?_⟩
    rcases o with o | ⟨nm, d, ς1⟩
    · cases o with
      | nx ς1 => exact absurd e (q ς1)
      | rt r ς1 => exact k
      | bk ς1 => exact k
      | ct ς1 => exact k
    · exact k
theorem x_one (h : PSx X st gx) : PSsx X [st] gx := fun F W tk => pss_one (h F W tk)
def ifX (t : M Bool) (g1 g2 : MX) : MX := fun ς => match t ς with
  | some (true, ς') => g1 ς'
  | some (false, ς') => g2 ς'
  | none => none
theorem x_if (hc : PTd X c ta) (h1 : PSsx X sts gx1) (h2 : PSsx X rest gx2) : PSx X (.If c sts rest pos) (ifX ta gx1 gx2) := fun F W tk => PS.mono (ps_if (hc F) (h1 F W tk) (h2 F W tk)) fun D σ H hq => by
  obtain ⟨ς, G, rl, o, e, k⟩ := hq
  unfold ifX at e
  split at e
  · rename_i ς1 q
    exact ⟨ς, G, rl, true, ς1, q, fun H' G' rl' s => iteT ⟨ς1, G', rl', o, e, k.mono s⟩⟩
  · rename_i ς1 q
    exact ⟨ς, G, rl, false, ς1, q, fun H' G' rl' s => iteF ⟨ς1, G', rl', o, e, k.mono s⟩⟩
  · cases e
/-! ### raise -/
def raX (nm : Str) (f : M R) : MX := fun ς => match esc f ς with
  | some (d, ς') => some (.exc nm d ς')
  | none => none
theorem x_raise {nm : Str} {C : Addr} (hc : X.calm = true) (hC : C = nmAt X.K nm) (hp : ∀ te : TE, PE X e te → PMk X (.Call (.Name x p) [e] [] pos) (tMkW C te)) (he : PEd X e f) {p2 : Pos} : PSx X (.Raise (some (.Call (.Name x p) [e] [] pos)) none p2) (raX nm f) := fun F W tk =>
  PS.mono (ps_raise hc tk (hp _ (d_esc he F))) fun D σ H hq => by
    obtain ⟨ς, G, rl, o, e1, k⟩ := hq
    unfold raX at e1
    split at e1
    · rename_i d ς1 q
      cases e1
      refine ⟨ς, G, rl, d, ς1, q, fun v H1 G1 rl1 s1 dp dd hd => ?_⟩
      subst hC
      exact k σ _ _ dd v (rl1.lay hd) (s1.trans (same_upd (rl1.gnone hd))) upd_same (dp_same (same_upd (rl1.gnone hd)) dp)
    · cases e1
/-! ### a statement over a call that may raise -/
def exX (f : MRX) : MX := fun ς => match f ς with
  | some (.val _ ς') => some (.nrm (.nx ς'))
  | some (.exc nm d ς') => some (.exc nm d ς')
  | none => none
theorem x_expr (he : PEx X e fx) (hs : swapsWith e none pos.line X.env = pure false := by rfl) : PSx X (.Expr e pos) (exX fx) := fun F W tk => PS.mono (ps_expr (he F W tk) hs) fun D σ H hq => by
  obtain ⟨ς, G, rl, o, e1, k⟩ := hq
  unfold exX at e1
  split at e1
  · rename_i r ς1 q
    cases e1
    exact ⟨ς, G, rl, _, q, fun v H' G' rl' s _ => k σ H' G' rl' s⟩
  · rename_i nm d ς1 q
    cases e1
    exact ⟨ς, G, rl, _, q, k⟩
  · cases e1
def asX (f : MRX) (tg : Tg) : MX := fun ς => match f ς with
  | some (.val r ς') => match toD r ς' with
    | some (d, ς2) => match tg d ς2 with
      | some ς3 => some (.nrm (.nx ς3))
      | none => none
    | none => none
  | some (.exc nm d ς') => some (.exc nm d ς')
  | none => none
theorem x_asg {tg : Expr} {vs : List Nat} {t : Tg} (he : PEx X e fx) (hg : PGd X tg vs t) (hs : swapsWithSole [tg] e pos.line X.env = pure false := by rfl) (hw : swappedStores [tg] e X.env = pure none := by rfl) (h1 : (assignEach [tg] X.env).map (·.2) = [assign tg X.env] := by rfl) :
    PSx X (.Assign [tg] e pos) (asX fx t) := fun F W tk => PS.mono (ps_asg (he F W tk) (hg F) hs hw h1) fun D σ H hq => by
  obtain ⟨ς, G, rl, o, e1, k⟩ := hq
  unfold asX at e1
  split at e1
  · rename_i r ς1 q
    split at e1
    · rename_i d ς2 q2
      split at e1
      · rename_i ς3 q3
        cases e1
        refine ⟨ς, G, rl, _, q, fun v H' G' rl' s rep => ?_⟩
        obtain ⟨G2, rl2, s2, dp⟩ := toD_ok rl' rep q2
        exact ⟨ς2, G2, d, rl2, dp, ς3, q3, fun σ2 H2 G3 rl3 s3 _ => k σ2 H2 G3 rl3 (s.trans (s2.trans s3))⟩
      · cases e1
    · cases e1
  · rename_i nm d ς1 q
    cases e1
    exact ⟨ς, G, rl, _, q, k⟩
  · cases e1
/-! ### for -/
def loopX (tg : Tg) (body : MX) : List D → MX
  | [], ς => some (.nrm (.nx ς))
  | d :: ds, ς => match tg d ς with
    | some ς1 => match body ς1 with
      | some (.nrm (.nx ς2)) => loopX tg body ds ς2
      | some (.nrm (.ct ς2)) => loopX tg body ds ς2
      | some (.nrm (.bk ς2)) => some (.nrm (.nx ς2))
      | some (.nrm (.rt r ς2)) => some (.nrm (.rt r ς2))
      | some (.exc nm d ς2) => some (.exc nm d ς2)
      | none => none
    | none => none
def forX (f : M (List D)) (tg : Tg) (body : MX) : MX := fun ς => match f ς with
  | some (ds, ς1) => loopX tg body ds ς1
  | none => none
theorem x_for {tg it : Expr} {fi : M (List D)} {vs : List Nat} {t : Tg} (hp : PassesOwn (model X.prog X.w) X.A X.env X.xe) (hc : X.calm = true) (hi : PId X tg it fi) (hg : PGd X tg vs t) (hb : PSsx X sts gx) (hs : ∀ x, foldedSetIterable it X.env x = pure x := by intro _; rfl) : PSx X (.For tg it sts [] pos) (forX fi t gx) := fun F W tk =>
  PS.mono (ps_for hp hc (hi F) (hg F) (hb F W tk) hs) fun D σ H hq => by
    obtain ⟨ς, G, rl, o, e, k⟩ := hq
    unfold forX at e
    split at e
    · rename_i ds ς1 q
      refine ⟨ς, G, rl, ds, ς1, q, fun J H1 G1 rl1 s1 wk => ?_⟩
      refine ⟨fun i m σ' H' => m = ds.length - i ∧ i ≤ ds.length ∧ ∃ ς' G' o', Rel X.K F ς' G' σ' H' ∧ Same G1 G' ∧ loopX t gx (ds.drop i) ς' = some o' ∧ EndsX X.K F G' W D o', ⟨ds.length, by simp, Nat.zero_le _, ς1, G1, o, rl1, Same.refl _, e, k.mono s1⟩, ?_⟩
      rintro i m σ' H' ⟨rfl, hi', ς', G', o', rl', s', e', k'⟩
      by_cases hlt : i < ds.length
      · rw [List.drop_eq_getElem_cons hlt, loopX] at e'
        split at e'
        · rename_i ς2 q2
          refine .inr ⟨wk.go i H' hlt (s'.trans rl'.sub), fun σ3 H3 => ∃ ς3 G3 o3, Rel X.K F ς3 G3 σ3 H3 ∧ Same G1 G3 ∧ loopX t gx (ds.drop (i + 1)) ς3 = some o3 ∧ EndsX X.K F G3 W D o3, fun σ3 H3 h3 => ⟨ds.length - (i + 1), by omega, rfl, hlt, h3⟩, fun v H2 y => ?_⟩
          obtain ⟨G2, rl2, s2, dp2⟩ := rl'.tupled s' wk y (List.getElem?_eq_getElem hlt)
          refine ⟨ς', G2, _, rl2, dp2, ς2, q2, fun σ3 H3 G3 rl3 s3 _ => ?_⟩
          have s13 : Same G1 G3 := s'.trans (s2.trans s3)
          split at e'
          · rename_i ς4 q4
            exact ⟨ς2, G3, rl3, _, q4, fun σ5 H5 G5 rl5 s5 => ⟨ς4, G5, o', rl5, s13.trans s5, e', k'.mono (s2.trans (s3.trans s5))⟩⟩
          · rename_i ς4 q4
            exact ⟨ς2, G3, rl3, _, q4, fun σ5 H5 G5 rl5 s5 => ⟨ς4, G5, o', rl5, s13.trans s5, e', k'.mono (s2.trans (s3.trans s5))⟩⟩
          · rename_i ς4 q4
            cases e'
            exact ⟨ς2, G3, rl3, _, q4, fun σ5 H5 G5 rl5 s5 => k' σ5 H5 G5 rl5 (s2.trans (s3.trans s5))⟩
          · rename_i r ς4 q4
            cases e'
            exact ⟨ς2, G3, rl3, _, q4, fun v σ5 H5 G5 rl5 s5 rep => k' v σ5 H5 G5 rl5 (s2.trans (s3.trans s5)) rep⟩
          · rename_i nm d ς4 q4
            cases e'
            exact ⟨ς2, G3, rl3, _, q4, ExcOk.mono (s2.trans s3) k'⟩
          · cases e'
        · cases e'
      · have ei : i = ds.length := by omega
        subst ei
        rw [List.drop_length, loopX] at e'
        cases e'
        exact .inl ⟨wk.stop H' (s'.trans rl'.sub), k' σ' H' G' rl' (Same.refl _)⟩
    · cases e
end
end Lw
namespace Lw
open PySem PySem.Spec PyProof.Rows L2
/-! ### defs that may raise -/
inductive FX where
  | ret (r : R) (outs : List S)
  | exc (nm : Str) (d : D) (outs : List S)
abbrev FsemX := List S → Option FX
/-- the promise of such a def -/
def spX (K : PySem.W.Frag) (n : Nat) (m : FsemX) : Sp := fun vs H Q E => ∃ ss G, ss.length = n ∧ ArgsOk K ss G vs H ∧ ∃ o, m ss = some o ∧ match o with
  | .ret r outs => ∀ v H' G', RetOk K ss G vs H r outs v H' G' → Q v H'
  | .exc nm d outs => ∀ H' G' dd u, RetOk K ss G vs H (.pure .none) outs .non H' G' → G' dd = some (.xd [(("what" : Str), u)]) → Dp K G' u d → E (.ref (nmAt K nm)) (some dd) H'
/-- such a def, by its name -/
def FoX (P : Program) (w : World) (K : PySem.W.Frag) (mg : Str → Option Value) (base : Heap) (x : Str) (ps : List Str) (m : FsemX) (k : Nat) : Prop :=
  ∃ (f : Addr) (fd : FuncData), FnG P w K mg base (L2.CX P w) k f fd ps (spX K ps.length m) ∧ mg x = some (.ref f) ∧ PySem.W.keepIn K (.ref f) = true ∧ Binds K fd ps []
def callX (m : FsemX) (ga : M (List Ar)) : MRX := fun ς => match ga ς with
  | some (as, ς1) => match argS as ς1 with
    | some ss => match m ss with
      | some (.ret (.ref _) _) => none
      | some (.ret r outs) => if (refsOf as).Nodup then some (.val r (putBack as outs ς1)) else none
      | some (.exc nm d outs) => if (refsOf as).Nodup then some (.exc nm d (putBack as outs ς1)) else none
      | none => none
    | none => none
  | none => none
section
variable {X : Cx} {k j : Nat} {f : Addr} {fd : FuncData} {ps : List Str} {sp : Sp} {x : Str} {p pos : Pos} {e : Expr} {es : List Expr} {m : FsemX} {ga : M (List Ar)} {t : TA} {E : L2.St → XK} {CX : CXT}
/-- a call by name; what it lets out may speak of the slots -/
theorem pe_callY (F : FnG X.prog X.w X.K X.mg X.base CX k f fd ps sp) (hgd : X.A.guards = some []) (hr : Room k X.A) (hg : Gl X x) (hm : X.mg x = some (.ref f)) (hk : PySem.W.keepIn X.K (.ref f) = true) (hb : Binds X.K fd ps []) (hx : ∀ σ, PassesAt CX X σ (E σ))
    (ha : PA X (e :: es) t) (hdb : (x == ("__debug__" : Str)) = false := by decide) (he : starEach (e :: es) X.env = (false, eval e X.env) :: starEach es X.env := by rfl) (hpl : (backTo pos (starEach es X.env)).any (·.1) = false := by rfl) :
    PE X (.Call (.Name x p) (e :: es) [] pos) (fun σ H Q => t σ H fun vs H1 => sp vs H1 Q (E σ)) :=
  ⟨fun pins s σ H Q I h => wpAny_Call_Name_kw (ld_glob I hg hm
    (PySem.W.callWith_K (h₀ := X.base) I.ok.mod.kin hk (thn (ha.run pos pins s σ H _ I h) fun us s1 ⟨vs, H1, I1, r, q⟩ => ⟨I1.kIn, by
      have b := hb s1 us I1.kIn (by rw [List.append_nil, ← r.length]; exact F.len _ _ _ _ q)
      rw [List.append_nil] at b
      refine wpAny_call (codeAny_mono (F.run X.A X.stack s1 H1 ⟨us, []⟩ us vs Q (E σ) hgd hr I1.env0 b r q) ?_)
      rintro (er | (_ | _ | _ | u)) s' hq
      · exact hx σ pins H1 s1 er s' I1 hq
      · exact hq.elim
      · exact hq.elim
      · exact hq.elim
      · exact I1.after hq⟩) he hpl) hdb)⟩
theorem FoX.call (h : FoX X.prog X.w X.K X.mg X.base x ps m j) (hgd : X.A.guards = some []) (hr : Room k X.A) (hj : j ≤ k) (hg : Gl X x) (hn : (e :: es).length = ps.length) (ha : PAd X (e :: es) ga) (hla : ∀ ς as ς', ga ς = some (as, ς') → as.length = (e :: es).length)
    (hdb : (x == ("__debug__" : Str)) = false := by decide) (he : starEach (e :: es) X.env = (false, eval e X.env) :: starEach es X.env := by rfl) (hpl : (backTo pos (starEach es X.env)).any (·.1) = false := by rfl) :
    PEx X (.Call (.Name x p) (e :: es) [] pos) (callX m ga) := by
  obtain ⟨f, fd, Gf, hm, hk, hb⟩ := h
  intro F W tk
  refine PE.mono (pe_callY Gf hgd (hr.mono hj) hg hm hk hb (passAt tk) (ha F) hdb he hpl) fun σ H Q hq => ?_
  obtain ⟨ς, G, rl, o, e', kq⟩ := hq
  unfold callX at e'
  split at e'
  · rename_i as ς1 e1
    refine ⟨ς, G, rl, as, ς1, e1, fun vs H1 G1 rl1 s1 pr => ?_⟩
    split at e'
    · rename_i ss q2
      have hl : ss.length = ps.length := by rw [argS_len q2, hla _ _ _ e1, hn]
      split at e'
      · cases e'
      · rename_i r outs hne q3
        split at e'
        · rename_i nd
          cases e'
          refine ⟨ss, G1, hl, rl1.args q2 pr nd, _, q3, fun v H' G' t => kq v H' G' (rl1.called q2 pr nd t) (s1.trans t.same) ?_⟩
          cases r with
          | pure d => exact t.rep
          | vx x =>
            cases x with
            | exc nm d => exact t.rep
            | odc kvs =>
              obtain ⟨a, o, rfl, h1, h2, h3, h4⟩ := t.rep
              refine ⟨a, o, rfl, h1, h2, h3, rl1.new h4, fun i kws z1 z2 => ?_⟩
              obtain ⟨a', _, f1, f2, _⟩ := (rl1.od i kws (called_vx z1))
              rw [z2] at f1; cases f1
              rw [h4] at f2; cases f2
          | ref i => exact t.rep.elim
          | fresh ds =>
            obtain ⟨a, xs, rfl, h1, h2, h3, h4⟩ := t.rep
            refine ⟨a, xs, rfl, h1, h2, h3, rl1.new h4, fun i b es' z1 z2 => ?_⟩
            obtain ⟨es'', hq⟩ := putBack_own z1
            obtain ⟨a', _, f1, f2, _⟩ := rl1.ow i b es'' hq
            rw [z2] at f1; cases f1
            rw [h4] at f2; cases f2
        · cases e'
      · rename_i nm d outs q3
        split at e'
        · rename_i nd
          cases e'
          exact ⟨ss, G1, hl, rl1.args q2 pr nd, _, q3, fun H' G' dd u t h1 h2 => kq σ H' G' dd u (rl1.called q2 pr nd t) (s1.trans t.same) h1 h2⟩
        · cases e'
      · cases e'
    · cases e'
  · cases e'
end
/-! ### the def -/
def runX (g : MX) (n : Nat) : FsemX := fun ss => match g (ent n ss) with
  | some (.nrm (.rt (.ref _) _)) => none
  | some (.nrm (.rt r ς)) => some (.ret r (outsOf ς ss.length))
  | some (.nrm (.nx ς)) => some (.ret (.pure .none) (outsOf ς ss.length))
  | some (.exc nm d ς) => some (.exc nm d (outsOf ς ss.length))
  | _ => none
theorem fn_bodyX {X : Cx} {n : Nat} {N : List Str} {g : MX} {body : List Stmt} {vs : List V} {H : Hp} {Q : VK} {E : XK} (tk : Takes X fun cls d _ H' => E cls d H') (hb : PSsx X body g) (h : spX X.K n (runX g N.length) vs H Q E) :
    ∃ t, PSs X body t ∧ t { nx := fun _ H' => Q .non H', rt := Q } (L2.start N vs) H := by
  obtain ⟨ss, G, hl, a, o, e2, q⟩ := h
  refine ⟨_, hb (fxOf ss vs G H) _ tk, ?_⟩
  unfold runX at e2
  split at e2
  · cases e2
  · rename_i r' ς' hne q2
    cases e2
    exact ⟨ent N.length ss, G, rel_start a, _, q2, fun v σ' H' G' rl s rep => q v H' G' (ret_ok a rl s (fun i z => hne i z) rep)⟩
  · rename_i ς' q2
    cases e2
    exact ⟨ent N.length ss, G, rel_start a, _, q2, fun σ' H' G' rl s => q .non H' G' (ret_ok a rl s (fun i z => by cases z) .non)⟩
  · rename_i nm d ς' q2
    cases e2
    exact ⟨ent N.length ss, G, rel_start a, _, q2, fun σ' H' G' dd u rl s h1 h2 => q H' G' dd u (ret_ok a rl s (fun i z => by cases z) .non) h1 h2⟩
  · cases e2
theorem FunD.mkX {P : Program} {w : World} {K : PySem.W.Frag} {mg : Str → Option Value} {base : Heap} {k : Nat} {f : Addr} {fd : FuncData} {ps : List Str} {x : Str} {params : Arguments} {body : List Stmt} {scope : Scope} {dvs : List V} {kws : List (Str × V)} {N : List Str} {g : MX}
    (F : FunD K x x params body scope dvs kws f fd) (S : FnScope N ps scope)
    (hbody : ∀ (cdv : Value) (A : Around) (outer : List Env) (s : Shared) (H : Hp) (E : XK), A.guards = some [] → Room k (A.deeper (envOfC x scope s.heap.objs.size f cdv)) →
      PSsx (cxOf (L2.CX P w) P w K mg base N x scope f cdv A outer s H E) body g) (hm : mg x = some (.ref f)) (hb : Binds K fd ps []) : FoX P w K mg base x ps (runX g N.length) (k + 1) := by
  refine ⟨f, fd, ?_, hm, F.kp, hb⟩
  obtain ⟨oc, od, dV, kV, doc, pm, an, cdv, ct, osl, rfl, lk, hcd, _, _⟩ := F.ex
  refine fnG_of lk hcd S (fun vs H Q E h => ?_) (fun A outer s H vs Q E hgd hr h => ?_)
  · obtain ⟨ss, G, hl, a, _⟩ := h
    rw [a.len, hl]
  · exact fn_bodyX (takes_of rfl rfl rfl rfl) (hbody cdv A outer s H E hgd hr) h
end Lw
namespace Lw
open PySem PySem.Spec PyProof.Rows L2
/-! ### an exception held against the classes of a clause, however many -/
section
variable {M : Model} {A : Around} {E : Value → Shared → Prop} {s : Shared} {K : PySem.W.Frag}
theorem loop_thru {β : Type} {z : β} {f : Value → β → Sem (ForInStep β)} {Q : β → Shared → Prop} : ∀ {cs : List Value}, (∀ c ∈ cs, ∀ Q' : ForInStep β → Shared → Prop, Q' (.yield z) s → wpAny M A (f c z) Q' E s) → Q z s → wpAny M A (forIn cs z f) Q E s
  | [], _, q => by rw [List.forIn_nil]; exact wpAny_pure q
  | c :: cs, h, q => by
    rw [List.forIn_cons]
    refine wpAny_bind (h c List.mem_cons_self _ ?_)
    exact loop_thru (fun c' m => h c' (List.mem_cons_of_mem _ m)) q
theorem loop_find {β : Type} {z z1 : β} {b : Value → Bool} {f : Value → β → Sem (ForInStep β)} {Q : β → Shared → Prop} : ∀ {cs : List Value}, (∀ c ∈ cs, ∀ Q' : ForInStep β → Shared → Prop, Q' (if b c = true then .done z1 else .yield z) s → wpAny M A (f c z) Q' E s) → Q (if cs.any b = true then z1 else z) s → wpAny M A (forIn cs z f) Q E s
  | [], _, q => by rw [List.forIn_nil]; exact wpAny_pure q
  | c :: cs, h, q => by
    rw [List.forIn_cons]
    refine wpAny_bind (h c List.mem_cons_self _ ?_)
    rw [List.any_cons] at q
    cases e : b c with
    | true =>
      rw [e, Bool.true_or, if_pos rfl] at q
      rw [if_pos rfl]
      exact wpAny_pure q
    | false =>
      rw [e, Bool.false_or] at q
      rw [if_neg Bool.false_ne_true]
      exact loop_find (fun c' m => h c' (List.mem_cons_of_mem _ m)) q
def isB (K : PySem.W.Frag) (cls c : Value) : Bool := PySem.W.exmOne K cls c == some true
theorem exm_list {cs : List Value} {cls : Value} {tp e : Addr} {h : Heap} (X : K.In h) (LT : PySem.W.Looks M h (typeOf (.ref e)) cls) (hp : h.get? tp = some { cls := .type "tuple", data := .seq cs.toArray }) (hx : ∀ c ∈ cs, (PySem.W.exmOne K cls c).isSome = true) :
    PySem.W.Looks M h (excMatches (.ref e) (.ref tp)) (cs.any (isB K cls)) := by
  intro A Q E s k0 q
  obtain ⟨hh, g, d, tk, os⟩ := s
  have k : ∀ b o, h.get? b = some o → hh.get? b = some o := k0
  have isT : PySem.W.Looks M h (isInstance (.ref tp) (.type "tuple")) true := ((PySem.W.Looks.ld hp).andThen .now).andThen (PySem.W.Looks.of_pure PySem.isSubtype_tuple_tuple)
  have one : ∀ c ∈ cs, PySem.W.Looks M hh (isExcClass c) true ∧ PySem.W.Looks M hh (isSubtype cls c) (isB K cls c) := fun c m => by
    obtain ⟨v, hv⟩ := Option.isSome_iff_exists.mp (hx c m)
    obtain ⟨l1, l2⟩ := PySem.W.exm_cls (M := M) X hv
    have : isB K cls c = v := by unfold isB; rw [hv]; cases v <;> rfl
    rw [this]
    exact ⟨l1.keeps k, l2.keeps k⟩
  unfold excMatches
  refine wpAny_bind ((isT.keeps k).at ?_)
  dsimp only
  rw [if_pos rfl]
  first
    | refine wpAny_bind (wpAny_seqItems (k _ _ hp) rfl ?_)
    | refine wpAny_bind (wpAny_bind (wpAny_seqItems (k _ _ hp) rfl (wpAny_pure ?_)))
  refine wpAny_bind (wpAny_pure ?_)
  refine wpAny_bind (loop_thru (fun c m Q' q' => ?_) ?_)
  · refine wpAny_bind ((one c (by simpa using m)).1.at ?_)
    rw [if_neg (by decide)]
    first | exact wpAny_pure q' | exact wpAny_bind (wpAny_pure (wpAny_pure q'))
  refine wpAny_bind ((LT.keeps k).at ?_)
  refine wpAny_bind (loop_find (b := isB K cls) (z1 := (some true, ())) (fun c m Q' q' => ?_) ?_)
  · refine wpAny_bind ((one c (by simpa using m)).2.at ?_)
    cases e : isB K cls c with
    | true =>
      rw [e, if_pos rfl] at q'
      rw [if_pos rfl]
      exact wpAny_pure q'
    | false =>
      rw [e, if_neg Bool.false_ne_true] at q'
      rw [if_neg Bool.false_ne_true]
      exact wpAny_pure q'
  have ee : ((some cs.toArray).getD #[]).toList = cs := by simp
  rw [ee]
  cases e : cs.any (isB K cls) with
  | true =>
    rw [e] at q
    rw [if_pos rfl]
    exact wpAny_pure q
  | false =>
    rw [e] at q
    rw [if_neg Bool.false_ne_true]
    exact wpAny_pure q
end
end Lw
namespace Lw
open PySem PySem.Spec PyProof.Rows L2
section
variable {X : Cx} {pins : List (Addr × Obj)} {σ : L2.St} {H : Hp} {s : Shared}
/-- an exception's object, made since the entry, may be told of in the words of the heap -/
theorem track (I : Inv X pins σ H s) {a dd C : Addr} {oe : Obj} {vs : Array Value} (ha : s.heap.get? a = some oe) (hc : oe.cls = .ref C) (hdd : oe.dict = some dd) (hd : oe.data = .fields vs) (na : H a = none) (nl : a ≠ X.env.locals) (np : ∀ p ∈ X.pn ++ pins, p.1 ≠ a) (n0 : X.s_0.heap.get? a = none) :
    Inv X pins σ (upd H a (ExT a C dd)) s := by
  have off : ∀ {b : Addr} {u : HO}, H b = some u → b ≠ a := fun {b u} e z => by rw [z, na] at e; cases e
  have old : ∀ {b : Addr} {o : Obj}, X.s_0.heap.get? b = some o → b ≠ a := fun {b o} e z => by rw [z, n0] at e; cases e
  have keep : ∀ {b : Addr} {u : HO}, H b = some u → upd H a (ExT a C dd) b = some u := fun {b u} e => by rw [upd_ne (off e)]; exact e
  have cel : ∀ {x : Str} {c : Addr}, X.env.cells.lookup x = some c → c ≠ a := fun {x c} e z => by
    obtain ⟨v, o, ho, hv⟩ := I.cell x c e
    rw [z, ha] at ho
    cases ho
    rw [hd] at hv
    cases hv
  refine ⟨I.ok, I.os, I.bare, ⟨I.base.keep, I.base.slot, fun b o e n hx => ?_, I.base.there, fun b xs e => keep (I.base.tups b xs e), fun b o u e => keep (I.base.frzs b o u e), fun b ps e => ?_⟩, I.loc, I.cell, ?_, fun x c e => ?_, fun p hp => ?_, fun b u e => ?_, I.len⟩
  · rw [upd_ne (old e)]
    exact I.base.free b o e n hx
  · obtain ⟨more, e'⟩ := I.base.tbls b ps e
    exact ⟨more, keep e'⟩
  · rw [upd_ne nl.symm]
    exact I.free
  · rw [upd_ne (cel e)]
    exact I.freeC x c e
  · obtain ⟨e, n, r⟩ := I.pin p hp
    exact ⟨e, by rw [upd_ne (np p hp)]; exact n, r⟩
  · by_cases z : b = a
    · subst z
      rw [upd_same] at e
      cases e
      exact ⟨⟨oe, vs, ha, hc, hdd, hd⟩, ⟨oe, ha⟩, fun h1 h2 ⟨o1, v1, e1, r⟩ k => ⟨o1, v1, k _ e1, r⟩⟩
    · rw [upd_ne z] at e
      exact (I.hok b u e).stay (fun _ _ _ r => r) (fun _ r => keep r) fun _ _ r => keep r
/-! ### the test of a clause -/
inductive LdN (X : Cx) : List Expr → List Value → Prop
  | nil : LdN X [] []
  | cons {x : Str} {p : Pos} {c : Value} {es : List Expr} {cs : List Value} (h : Names X x c) (t : LdN X es cs) (hs : starEach (.Name x p :: es) X.env = (false, eval (.Name x p) X.env) :: starEach es X.env) : LdN X (.Name x p :: es) (c :: cs)
theorem load_name {E : Value → Shared → Prop} {Q : Value → Shared → Prop} {x : Str} {p : Pos} {c : Value} (I : Inv X pins σ H s) (h : Names X x c) (q : Q c s) : wpAny (model X.prog X.w) X.A (eval (.Name x p) X.env) Q E s := by
  obtain ⟨hg, hdb, hm | ⟨hm, hv, hn⟩⟩ := h
  · exact ld_glob I hg hm q hdb
  · exact ld_blt I hg hm hv q hn hdb
theorem load_names {E : Value → Shared → Prop} {pos : Pos} (I : Inv X pins σ H s) {es : List Expr} {cs : List Value} (h : LdN X es cs) : ∀ {Q : List Value → Shared → Prop}, Q cs s → wpAny (model X.prog X.w) X.A (spliced (backTo pos (starEach es X.env))) Q E s := by
  induction h with
  | nil => exact fun q => Calls.spliced_nil q
  | @cons x p c es cs h t hs ih =>
    intro Q q
    rw [hs]
    exact Calls.spliced_cons (load_name I h (ih q))
inductive ClsT (X : Cx) : Expr → List Value → Prop
  | one {x : Str} {p : Pos} {c : Value} (h : Names X x c) : ClsT X (.Name x p) [c]
  | tup {es : List Expr} {cs : List Value} {n p} (h : LdN X es cs) (hl : cs.length ≤ sizeLine) : ClsT X (.Tuple es n p) cs
theorem cls_test {E : Value → Shared → Prop} {T : Expr} {cs : List Value} {a : Addr} {cls : Value} {Q : Bool → Shared → Prop} (I : Inv X pins σ H s) (h : ClsT X T cs) (LT : PySem.W.Looks (model X.prog X.w) s.heap (typeOf (.ref a)) cls) (hx : ∀ c ∈ cs, (PySem.W.exmOne X.K cls c).isSome = true)
    (q : ∀ h', (∀ b o, s.heap.get? b = some o → h'.get? b = some o) → Q (cs.any (isB X.K cls)) { s with heap := h' }) :
    wpAny (model X.prog X.w) X.A (eval T X.env) (fun t s1 => wpAny (model X.prog X.w) X.A (excMatches (.ref a) t) Q E s1) E s := by
  cases h with
  | @one x p c h =>
    refine load_name I h ?_
    obtain ⟨b, hb⟩ := Option.isSome_iff_exists.mp (hx c List.mem_cons_self)
    have e : [c].any (isB X.K cls) = b := by
      rw [List.any_cons, List.any_nil, Bool.or_false]
      unfold isB
      rw [hb]
      cases b <;> rfl
    rw [e] at q
    exact (PySem.W.exm_one I.kIn LT hb).here (q s.heap fun _ _ r => r)
  | @tup es cs n p h hl =>
    refine wpAny_Tuple_spliced (load_names I h ⟨hl, ?_⟩)
    have k : ∀ b o, s.heap.get? b = some o → (s.heap.push { cls := .type "tuple", data := .seq cs.toArray }).get? b = some o := fun b o e => Heap.get?_push_of_some _ e
    exact (exm_list (I.kIn.keeps k) (LT.keeps k) (Heap.get?_push_size _ rfl) hx).here (q _ k)
end
end Lw
namespace Lw
open PySem PySem.Spec PyProof.Rows L2
/-- the suite `y = n` -/
theorem ps_keep {Y : Cx} {y n : Str} {iN iY : Nat} {q1 q2 q3 : Pos} (hN : Y.N.Nodup) (hi : Y.N[iN]? = some n) (hln : Y.env.kindOf n = some .local) (hj : Y.N[iY]? = some y) (hly : Y.env.kindOf y = some .local) (hd1 : (n == ("__debug__" : Str)) = false) (hd2 : (n == ("__classdict__" : Str)) = false)
    (hs : swapsWith (.Name n q2) (some (.Name y q1)) q3.line Y.env = pure false) : PSs Y [.Assign [.Name y q1] (.Name n q2) q3] (fun D σ H => ∃ v, σ[iN]? = some (some v) ∧ D.nx (σ.set iY (some v)) H) :=
  PSs.mono (pss_one (ps_set hN hj (.inl hly) (pe_var hi (.inl hln) hd1 hd2) hs (.inr hly))) fun D σ H ⟨v, h1, h2⟩ => ⟨v, h1, h2⟩
/-- what a clause of this kind wishes -/
def wKeep (K : PySem.W.Frag) (cs : List Value) (iN iY : Nat) (D : Ends) : WX := fun cls d σ H => ∃ C dd, cls = .ref C ∧ d = some dd ∧ (∀ c ∈ cs, (PySem.W.exmOne K cls c).isSome = true) ∧ cs.any (isB K cls) = true ∧
  ∀ a, H a = none → D.nx (((σ.set iN (some (.ref a))).set iY (some (.ref a))).set iN none) (upd H a (ExT a C dd))
section
variable {X : Cx} {pins : List (Addr × Obj)} {σ : L2.St} {H : Hp} {s : Shared} {T : Expr} {cs : List Value} {y n : Str} {iN iY : Nat} {q1 q2 q3 q4 : Pos} {D : Ends}
theorem catch_keep (ok : X.Ok) (hs : X.stack = X.env :: X.outer) (hf : X.env.frame = some X.env.locals) (hex : X.ex = []) (hN : X.N.Nodup) (hi : X.N[iN]? = some n) (hln : X.env.kindOf n = some .local) (hj : X.N[iY]? = some y) (hly : X.env.kindOf y = some .local) (hne : iN ≠ iY)
    (hT : ∀ a oe pn, ClsT (X.suite a ((a, oe) :: pn)) T cs) (hd1 : (n == ("__debug__" : Str)) = false) (hd2 : (n == ("__classdict__" : Str)) = false) (hsw : swapsWith (.Name n q2) (some (.Name y q1)) q3.line X.env = pure false)
    {u : Value} {s' : Shared} {xe : Value → Shared → Prop} (xx : XE (X.tr (X.pn ++ pins) xe) (wKeep X.K cs iN iY D) u s') :
    wpAny (model X.prog X.w) X.A (noteFrame u X.env) (fun _ s2 => wpAny (model X.prog X.w) X.A (setFlight u none) (fun _ s3 =>
      wpAny (model X.prog X.w) X.A (handleBy u X.env [.ExceptHandler (some T) (some n) [.Assign [.Name y q1] (.Name n q2) q3] q4]) (SP X pins D) X.xe s3) X.xe s2) X.xe s' := by
  obtain ⟨a, B, sI, ps, σ', H', cls, d, rfl, JT, nb, up, sky, na, os, ag, C, dd, rfl, rfl, hcx, hany, hgo⟩ := xx
  have J : Inv X pins σ' H' sI := JT.ofTry ok
  have fr : X.A.frames = some (X.env :: X.outer) := by rw [ok.frames, hs]
  have skyE : Sky B (X.env :: X.outer) a (Zc (.ref C) (some dd)) X.env.locals s'.heap := by
    have z := sky
    rw [show (X.tr (X.pn ++ pins) xe).stack = X.env :: X.outer from hs] at z
    exact z
  refine Sky.land Zc.steady fr hf skyE fun h3 fl3 up3 => ?_
  -- the exception's object is no frame, and new
  have Ba : B.get? a = none := fl3.2.1
  have notIn : a ∉ frs (X.env :: X.outer) := fun m => by
    obtain ⟨oe, vs, e1, _, e3⟩ := fl3.there
    obtain ⟨_, o2, e2, ne⟩ := fl3.2.2.1.mem m
    rw [e1] at e2
    cases e2
    exact ne _ e3
  have nl : a ≠ X.env.locals := fun z => notIn (List.mem_filterMap.mpr ⟨X.env, List.mem_cons_self, by rw [hf, z]⟩)
  have nfs : a ∉ X.fs := fun m => by
    obtain ⟨e, he, q⟩ := List.mem_filterMap.mp m
    exact notIn (List.mem_filterMap.mpr ⟨e, List.mem_cons_of_mem _ he, q⟩)
  have sIa : sI.heap.get? a = none := by
    cases q : sI.heap.get? a with
    | none => rfl
    | some o =>
      have := nb a o q (by rw [hs]; exact notIn)
      rw [Ba] at this
      cases this
  have s0a : X.s_0.heap.get? a = none := by
    cases q : X.s_0.heap.get? a with
    | none => rfl
    | some o =>
      obtain ⟨o', e⟩ := J.base.there a o q (by rw [hex]; simp)
      rw [sIa] at e
      cases e
  have pins_ne : ∀ p ∈ X.pn ++ pins, p.1 ≠ a := fun p hp z => by
    obtain ⟨e, _⟩ := J.pin p hp
    rw [z, sIa] at e
    cases e
  have J3 : Inv X pins σ' H' { s' with heap := h3 } := J.landed nb fl3.1 (up.trans up3) os ag
  obtain ⟨oe3, vs3, he3, hz3, hd3⟩ := fl3.there
  have S3 := J3.suite he3 hd3 na nl nfs
  have LT : PySem.W.Looks (model X.prog X.w) h3 (typeOf (.ref a)) (.ref C) := fun A Q E s k q => wpAny_typeOf_ref (k _ _ he3) (by rw [hz3.1]; exact q)
  refine wpAny_handleBy_cons (codeAny_handlers_test ?_) (by intro q; cases q)
  refine cls_test (X := X.suite a ((a, oe3) :: (X.pn ++ pins))) S3 (hT a oe3 _) LT hcx fun h5 k5 => ?_
  have fl5 : HandSPX.FlyingZ B (X.env :: X.outer) a (Zc (.ref C) (some dd)) h5 := by
    obtain ⟨k1, k2, kf, oe, vs, tb, ob, ts, e1, z1, e2, e3, e4, e5, e6, r⟩ := id fl3
    exact ⟨fun b o q => k5 _ _ (k1 b o q), k2, kf.of_keeps (fun b o q _ => ⟨o, k5 _ _ q, rfl⟩), oe, vs, tb, ob, ts, k5 _ _ e1, z1, e2, e3, e4, e5, k5 _ _ e6, r⟩
  have up5 : Heap.UpToSlots h3 h5 := fun b o q _ => ⟨o.slots, k5 _ _ q⟩
  rw [hany]
  refine codeAny_handlers_suite_as ?_
  refine HandSPX.lands_againZ fl5 fun h4 fl4 up4 => ?_
  have J4 : Inv X pins σ' H' { s' with heap := h4 } := J.landed nb fl4.1 (((up.trans up3).trans up5).trans up4) os ag
  obtain ⟨oe4, vs4, he4, hz4, hd4⟩ := fl4.there
  have S4 := J4.suite he4 hd4 na nl nfs
  refine store_ok (X := X.suite a ((a, oe4) :: (X.pn ++ pins))) (v := .ref a) S4 hN hi (.inl hln) rfl (fun s5 S5 => ?_) (.inr hln)
  have hlt : iN < σ'.length := by rw [J.len]; exact (List.getElem?_eq_some_iff.mp hi).1
  have suite := ps_keep (Y := X.suite a ((a, oe4) :: (X.pn ++ pins))) (q1 := q1) (q2 := q2) (q3 := q3) hN hi hln hj hly hd1 hd2 hsw
  refine wpAny_mono (suite.run [] s5 _ H' { nx := fun σ6 H6 => σ6 = (σ'.set iN (some (.ref a))).set iY (some (.ref a)) ∧ H6 = H', rt := fun _ _ => False } S5 ⟨.ref a, List.getElem?_set_self hlt, rfl, rfl⟩) (fun fl s6 h6 => ?_) (fun _ _ z => z.elim)
  rcases fl with _ | _ | _ | v
  · obtain ⟨σ6, H6, S6, rfl, rfl⟩ := h6
    have pinA := S6.pin (a, oe4) (List.mem_append_left _ List.mem_cons_self)
    have U6 : Inv X pins _ H6 s6 := S6.unsuite ok
    have T6 := track U6 pinA.1 hz4.1 hz4.2 hd4 na nl pins_ne s0a
    exact gone_ok T6 hN hi hln fun s7 J7 => ⟨_, _, J7, hgo a na⟩
  · obtain ⟨_, _, _, z⟩ := h6; exact z.elim
  · obtain ⟨_, _, _, z⟩ := h6; exact z.elim
  · obtain ⟨_, _, _, _, _, z⟩ := h6; exact z.elim
/-- try: body / except T as n: y = n -/
def tryS (gx : MX) (nms : List Str) (iN iY : Nat) : MS := fun ς => match gx ς with
  | some (.nrm o) => some o
  | some (.exc nm d ς') => if nms.contains nm = true ∧ free ς' iN = true ∧ free ς' iY = true then some (.nx ((ς'.set iN none).set iY (some (.vx (.exc nm d))))) else none
  | none => none
theorem s_try {body : List Stmt} {gx : MX} {nms : List Str} {p : Pos} (hs : X.stack = X.env :: X.outer) (hf : X.env.frame = some X.env.locals) (hex : X.ex = []) (hN : X.N.Nodup) (hi : X.N[iN]? = some n) (hln : X.env.kindOf n = some .local) (hj : X.N[iY]? = some y) (hly : X.env.kindOf y = some .local) (hne : iN ≠ iY)
    (hT : ∀ a oe pn, ClsT (X.suite a ((a, oe) :: pn)) T cs) (hd1 : (n == ("__debug__" : Str)) = false) (hd2 : (n == ("__classdict__" : Str)) = false) (hsw : swapsWith (.Name n q2) (some (.Name y q1)) q3.line X.env = pure false)
    (hm : ∀ nm ∈ nms, (∀ c ∈ cs, (PySem.W.exmOne X.K (.ref (nmAt X.K nm)) c).isSome = true) ∧ cs.any (isB X.K (.ref (nmAt X.K nm))) = true)
    (hb : ∀ (pn : List (Addr × Obj)) (xe : Value → Shared → Prop), PassesOwn (model X.prog X.w) X.A X.env xe → PSsx (X.tr pn xe) body gx) :
    PSd X (.Try body [.ExceptHandler (some T) (some n) [.Assign [.Name y q1] (.Name n q2) q3] q4] [] [] p) (tryS gx nms iN iY) := fun F => ⟨fun pins s σ H D I h => by
  obtain ⟨ς, G, rl, o, e, k⟩ := h
  have wish : tSx X.K F (wKeep X.K cs iN iY D) gx D σ H := by
    unfold tryS at e
    split at e
    · rename_i o' q
      cases e
      exact ⟨ς, G, rl, _, q, k⟩
    · rename_i nm d ς' q
      split at e
      · rename_i cnd
        cases e
        refine ⟨ς, G, rl, _, q, fun σ' H' G' dd v rl' s1 hv hd => ?_⟩
        obtain ⟨c1, c2, c3⟩ := cnd
        obtain ⟨m1, m2⟩ := hm nm (by simpa using c1)
        refine ⟨_, dd, rfl, rfl, m1, m2, fun a na => ?_⟩
        have r1 := rl'.lay (o := ExT a (nmAt X.K nm) dd) na
        have s2 : Same G' (upd G' a (ExT a (nmAt X.K nm) dd)) := same_upd (rl'.gnone na)
        have c4 : free (ς'.set iN none) iY = true := by
          unfold free at c3 ⊢
          rw [List.getElem?_set_ne hne]
          exact c3
        have r2 := (r1.setN (i := iN) (o := none) c2).setX (i := iY) (v := .ref a) (x := .exc nm d) c4 ⟨a, dd, v, rfl, upd_same, s2 _ _ hv, dp_same s2 hd⟩ (fun _ z => by cases z)
        have es : ((σ'.set iN (some (.ref a))).set iY (some (.ref a))).set iN none = (σ'.set iN none).set iY (some (.ref a)) := by
          rw [List.set_comm _ _ hne.symm, List.set_set]
        rw [es]
        exact k _ _ _ r2 (s1.trans s2)
      · cases e
    · cases e
  have ok := I.ok
  refine wpAny_Try_except ?_
  refine wpAny_mono ((hb (X.pn ++ pins) (fun u s1 => wpAny (model X.prog X.w) X.A (noteFrame u X.env) (fun _ s2 => wpAny (model X.prog X.w) X.A (setFlight u none) (fun _ s3 =>
    wpAny (model X.prog X.w) X.A (handleBy u X.env [.ExceptHandler (some T) (some n) [.Assign [.Name y q1] (.Name n q2) q3] q4]) (SP X pins D) X.xe s3) X.xe s2) X.xe s1) PassesOwn.looking F (wKeep X.K cs iN iY D) fun u s1 xx =>
      catch_keep ok hs hf hex hN hi hln hj hly hne hT hd1 hd2 hsw xx).run [] s σ H D (I.toTry _) wish) (fun fl s1 hsp => ?_) fun _ _ z => z
  rcases fl with _ | _ | _ | v
  · obtain ⟨σ', H', J', q⟩ := hsp
    exact wpAny_execs_nil ⟨σ', H', J'.ofTry ok, q⟩
  · obtain ⟨σ', H', J', q⟩ := hsp
    exact ⟨σ', H', J'.ofTry ok, q⟩
  · obtain ⟨σ', H', J', q⟩ := hsp
    exact ⟨σ', H', J'.ofTry ok, q⟩
  · obtain ⟨w, σ', H', J', r, q⟩ := hsp
    exact ⟨w, σ', H', J'.ofTry ok, r, q⟩⟩
end
end Lw
namespace Lw
open PySem PySem.Spec PyProof.Rows L2
/-! ### an exception that has been caught: is None, isinstance, .what -/
structure XI (K : PySem.W.Frag) (C : Addr) : Prop where
  xf : XfC K C
  no : PySem.W.findIn K (.ref C) "what" = some none
  hcl : (PySem.W.clsIn K C).isSome = true
  ha : PySem.W.findIn K (.ref C) "__class__" = some (some (.builtin "object.__class__"))
  hn : PySem.W.specialIn K (.builtin "object.__class__") "__get__" = some (some (.builtin "getset_descriptor.__get__"))
  ht : PySem.W.takesIn K (.builtin "object.__class__") = some true
  hm : PySem.W.mroIn K C (.type "object") = some true
/-- such an object in the heap -/
def Cgt (H : Hp) (a C : Addr) (u : V) : Prop := ∃ dd, H a = some (ExT a C dd) ∧ H dd = some (.xd [(("what" : Str), u)])
section
variable {X : Cx} {pins : List (Addr × Obj)} {σ : L2.St} {H : Hp} {s : Shared} {a C : Addr} {u : V}
theorem cgt_at (I : Inv X pins σ H s) (h : Cgt H a C u) : ∃ oe od u', PySem.W.InstAt s.heap a oe C (some od) ∧ PySem.W.lookIn "what" od = some (some u') ∧ RelV u u' := by
  obtain ⟨dd, h1, h2⟩ := h
  obtain ⟨⟨oe, vs, e1, e2, e3, e4⟩, _⟩ := I.hok a _ h1
  obtain ⟨mA, hns, hr⟩ := (show ObjOk X.prog X.w H s.heap dd (.xd [(("what" : Str), u)]) from I.hok dd _ h2)
  obtain ⟨od, ho, hl⟩ := lookIn_ns hns
  obtain ⟨u', hu, ru⟩ := RelO.some_of (v := u) (o := mA "what") (hr "what")
  exact ⟨oe, od, u', ⟨e1, e2, by unfold PySem.W.notCls; rw [e4], by rw [e3]; exact ho⟩, by rw [hl, hu], ru⟩
theorem what_of {e : Expr} {te : TE} {pos : Pos} (he : PE X e te) (hb : attributeBase e "what" X.env (eval e X.env) = eval e X.env := by rfl) :
    PE X (.Attribute e "what" pos) (fun σ H Q => te σ H fun x H1 => ∃ a C w, x = .ref a ∧ Cgt H1 a C w ∧ XI X.K C ∧ Q w H1) := by
  refine ⟨fun pins s σ H Q I h => attr_of hb (thn (he.run pins s σ H _ I h) fun u s1 hh => ?_)⟩
  obtain ⟨x, H1, I1, rx, a, C, w, rfl, hc, T, q⟩ := hh
  have eu : u = .ref a := rx
  subst eu
  obtain ⟨oe, od, u', J, l, ru⟩ := cgt_at I1 hc
  exact HandSPX.exc_get I1.kIn J T.xf.ga T.xf.gg T.xf.exC (PySem.W.findObj_own T.xf.hdC T.no rfl l) (handed_of ru) ⟨w, H1, I1.tok _, ru, q⟩
end
/-! ### the expressions over a slot that holds a caught one -/
section
variable {X : Cx} {F : Fx} {ς : En} {G H : Hp} {σ : L2.St} {x y : Str} {i : Nat} {p p1 p2 pos : Pos}
theorem Rel.cgt (rl : Rel X.K F ς G σ H) {nm : Str} {d : D} (e : ς[i]? = some (some (.vx (.exc nm d)))) : ∃ a u, σ[i]? = some (some (.ref a)) ∧ Cgt G a (nmAt X.K nm) u ∧ Dp X.K G u d := by
  obtain ⟨v, h1, a, dd, u, rfl, h2, h3, h4⟩ := rl.vx i _ e
  exact ⟨a, u, h1, ⟨dd, h2, h3⟩, h4⟩
theorem Cgt.same {G H : Hp} (s : Same G H) {a C : Addr} {u : V} (h : Cgt G a C u) : Cgt H a C u := by
  obtain ⟨dd, h1, h2⟩ := h
  exact ⟨dd, s _ _ h1, s _ _ h2⟩
/-- slot i is None -/
def isX (i : Nat) : M R := fun ς => match ς[i]? with
  | some (some (.vx (.exc _ _))) => some (.pure (.bool false), ς)
  | some (some (.pure d)) => some (.pure (.bool (isNone d)), ς)
  | _ => none
/-- isinstance of what slot i holds, by a table of the classes' names -/
def isiX (i : Nat) (tab : List (Str × Bool)) : M R := fun ς => match ς[i]? with
  | some (some (.vx (.exc nm _))) => match tab.lookup nm with
    | some b => some (.pure (.bool b), ς)
    | none => none
  | _ => none
/-- what the caught one keeps -/
def whX (i : Nat) (nms : List Str) : M R := fun ς => match ς[i]? with
  | some (some (.vx (.exc nm d))) => if nms.contains nm = true then some (.pure d, ς) else none
  | _ => none
theorem d_whX {nms : List Str} (h : PE X (.Name x p) (tVar i)) (ht : ∀ nm ∈ nms, XI X.K (nmAt X.K nm)) (hb : attributeBase (.Name x p) "what" X.env (eval (.Name x p) X.env) = eval (.Name x p) X.env := by rfl) : PEd X (.Attribute (.Name x p) "what" pos) (whX i nms) := fun F => PE.mono (what_of h hb) fun σ H Q hq => by
  obtain ⟨ς, G, rl, r, ς', e, k⟩ := hq
  unfold whX at e
  split at e
  · rename_i nm d q
    split at e
    · rename_i c
      cases e
      obtain ⟨a, w, h1, h2, h3⟩ := rl.cgt q
      exact ⟨.ref a, h1, a, _, w, rfl, h2.same rl.sub, ht nm (by simpa using c), k w H G rl (Same.refl _) h3⟩
    · cases e
  · cases e
end
end Lw
namespace Lw
open PySem PySem.Spec PyProof.Rows L2
/-! ### the facts of a class, looked up -/
theorem xcB_ok {nm : Str} {bmB : List Value} {newId : String} {K : PySem.W.Frag} (h : xcB nm bmB newId K = true) : XC K (nmAt K nm) (iniA K nm) bmB newId := by
  unfold xcB at h
  simp only [Bool.and_eq_true, decide_eq_true_eq] at h
  obtain ⟨h1, h2, h3, h4, h5, h6, h7, h8, h9, h10⟩ := h
  exact ⟨h1, h2, h3, h4, h5, h6, h7, h8, h9, h10⟩
theorem xiB_ok {nm : Str} {K : PySem.W.Frag} (h : xiB nm K = true) : XI K (nmAt K nm) := by
  unfold xiB at h
  simp only [Bool.and_eq_true, decide_eq_true_eq] at h
  obtain ⟨h1, h2, h3, h4, h5, h6, h7⟩ := h
  exact ⟨xfB_ok h1, h2, h3, h4, h5, h6, h7⟩
/-- a class as the text names it -/
theorem Cn.cls (K : PySem.W.Frag) (c : Cn) : ClsV (c.v K) (c.u K) := by
  cases c with
  | own nm => exact .own _
  | ty n => exact .ty n
/-- each of nms is caught by the clause of these classes -/
theorem hmB_ok {nms : List Str} {cs : List Cn} {K : PySem.W.Frag} (h : hmB nms cs K = true) : ∀ nm ∈ nms, (∀ c ∈ cs.map fun c => c.u K, (PySem.W.exmOne K (.ref (nmAt K nm)) c).isSome = true) ∧ (cs.map fun c => c.u K).any (isB K (.ref (nmAt K nm))) = true := fun nm m => by
  have := List.all_eq_true.mp h nm m
  rw [Bool.and_eq_true] at this
  exact ⟨fun c hc => List.all_eq_true.mp this.1 c hc, this.2⟩
theorem xisB_ok {nms : List Str} {K : PySem.W.Frag} (h : xisB nms K = true) : ∀ nm ∈ nms, XI K (nmAt K nm) := fun nm m => xiB_ok (List.all_eq_true.mp h nm m)
/-! ### the Hook: defs, facts, and closed looks of one's own -/
section
variable {fa : List He.Fa} {fn : List He.DefD} {xs : List (PySem.W.Frag → Bool)} {K : PySem.W.Frag}
theorem SaysX.base (c : SaysX fa fn xs K) : He.SaysD fa fn K := by
  have e1 : ((He.obsD fa fn K).1 && xs.all fun f => f K) = true := congrArg (fun z : He.AlD => z.1) c
  have e2 : (obsX fa fn xs K).2 = (He.valD fn).2 := congrArg (fun z : He.AlD => z.2) (show obsX fa fn xs K = He.valD fn from c)
  rw [Bool.and_eq_true] at e1
  exact Prod.ext e1.1 e2
theorem SaysX.look (c : SaysX fa fn xs K) (i : Nat) {f : PySem.W.Frag → Bool} (h : xs[i]? = some f := by rfl) : f K = true := by
  have e1 : ((He.obsD fa fn K).1 && xs.all fun f => f K) = true := congrArg (fun z : He.AlD => z.1) c
  rw [Bool.and_eq_true] at e1
  exact List.all_eq_true.mp e1.2 f (List.mem_of_getElem? h)
end
/-! ### a class of the program's own that may be raised -/
def XCls (P : Program) (w : World) (K : PySem.W.Frag) (mg : Str → Option Value) (base : Heap) (x : Str) : Prop :=
  ∃ (B newId initId : String) (bmB : List Value) (fI : Addr) (fd : FuncData), ExcBaseFacts B newId initId bmB ∧ XC K (nmAt K x) fI bmB newId ∧ FnOk P w K mg base CX0 1 fI fd ["self", "what"] (spW (nmAt K x)) ∧ Binds K fd ["self", "what"] [] ∧ mg x = some (.ref (nmAt K x))
theorem xcls_of {P : Program} {w : World} {K : PySem.W.Frag} {mg : Str → Option Value} {base : Heap} {nm : Str} {B newId initId : String} {bmB : List Value} {fd : FuncData} {qual x : Str} {params : Arguments} {scope : Scope} {p1 p2 p3 p4 : Pos}
    (FB : ExcBaseFacts B newId initId bmB) (SF : StoreFacts B bmB "object.__setattr__" "object") (hl : xcB nm bmB newId K = true) (hm : mg nm = some (.ref (nmAt K nm)))
    (F : FunD K x qual params [.Assign [.Attribute (.Name "self" p1) "what" p2] (.Name "what" p3) p4] scope [] [] (iniA K nm) fd) (S : FnScope ["self", "what"] ["self", "what"] scope) (h0 : Vis scope "self") (h1 : Vis scope "what") (hb : Binds K fd ["self", "what"] []) : XCls P w K mg base nm :=
  ⟨B, newId, initId, bmB, iniA K nm, fd, FB, xcB_ok hl, init_ok (k := 0) SF (xcB_ok hl) F S h0 h1, hb, hm⟩
section
variable {X : Cx} {x : Str} {e : Expr} {f : M R} {k : Nat} {p p2 pos : Pos}
theorem XCls.raise (c : XCls X.prog X.w X.K X.mg X.base x) (hc : X.calm = true) (hr : Room k X.A) (hk : 2 ≤ k) (hg : Gl X x) (he : PEd X e f) (hdb : (x == ("__debug__" : Str)) = false := by decide) (hst : starEach [e] X.env = (false, eval e X.env) :: starEach [] X.env := by rfl) (hpl : (backTo pos (starEach [] X.env)).any (·.1) = false := by rfl) :
    PSx X (.Raise (some (.Call (.Name x p) [e] [] pos)) none p2) (raX x f) := by
  obtain ⟨B, newId, initId, bmB, fI, fd, FB, T, F1, hb, hm⟩ := c
  exact x_raise hc rfl (fun te h => pmk_what FB T F1 (hr.mono hk) hb hg hm h hdb hst hpl) he
end
end Lw
namespace Lw
open PySem PySem.Spec PyProof.Rows L2
theorem cn_lenU (K : PySem.W.Frag) (cs : List Cn) (h : cs.length ≤ 100 := by decide) : (cs.map fun c => c.u K).length ≤ sizeLine := by
  rw [List.length_map, sizeLine_eq]
  omega
/-! ### what a program that may raise is worth -/
abbrev XE' := Str → D → En → Prop
def wpx (g : MX) (ς : En) (Q : Out → Prop) (E : XE') : Prop := ∃ o, g ς = some o ∧ match o with
  | .nrm o => Q o
  | .exc nm d ς' => E nm d ς'
def wpe (f : MRX) (ς : En) (Q : R → En → Prop) (E : XE') : Prop := ∃ o, f ς = some o ∧ match o with
  | .val r ς' => Q r ς'
  | .exc nm d ς' => E nm d ς'
def wpm (m : FsemX) (ss : List S) (Q : R → List S → Prop) (E : Str → D → List S → Prop) : Prop := ∃ o, m ss = some o ∧ match o with
  | .ret r outs => Q r outs
  | .exc nm d outs => E nm d outs
def andThenX (g : MX) (Q : Out → Prop) (E : XE') : Out → Prop
  | .nx ς => wpx g ς Q E
  | o => Q o
namespace Sm
section
variable {ς : En} {i iN iY : Nat} {d : D} {g : MS} {gx gx1 gx2 : MX} {fx : MRX} {m : FsemX} {f : M R} {t : M Bool} {Q : Out → Prop} {E : XE'} {nm : Str} {nms : List Str} {tg : Tg}
theorem mmono {ss : List S} {Q Q' : R → List S → Prop} {E E' : Str → D → List S → Prop} (h : wpm m ss Q E) (k : ∀ r o, Q r o → Q' r o) (l : ∀ nm d o, E nm d o → E' nm d o) : wpm m ss Q' E' := by
  obtain ⟨o, e, q⟩ := h
  refine ⟨o, e, ?_⟩
  cases o with
  | ret r o => exact k r o q
  | exc nm d o => exact l nm d o q
theorem nS (h : wps g ς Q) : wpx (Lw.nS g) ς Q E := by
  obtain ⟨o, e, q⟩ := h
  exact ⟨.nrm o, by unfold Lw.nS; rw [e]; rfl, q⟩
theorem sqX (h : wpx gx1 ς (andThenX gx2 Q E) E) : wpx (Lw.sqX gx1 gx2) ς Q E := by
  obtain ⟨o, e, q⟩ := h
  rcases o with o | ⟨nm, d, ς'⟩
  · cases o with
    | nx ς' =>
      obtain ⟨o2, e2, q2⟩ := q
      exact ⟨o2, by unfold Lw.sqX; rw [e]; exact e2, q2⟩
    | rt r ς' => exact ⟨.nrm (.rt r ς'), by unfold Lw.sqX; rw [e], q⟩
    | bk ς' => exact ⟨.nrm (.bk ς'), by unfold Lw.sqX; rw [e], q⟩
    | ct ς' => exact ⟨.nrm (.ct ς'), by unfold Lw.sqX; rw [e], q⟩
  · exact ⟨.exc nm d ς', by unfold Lw.sqX; rw [e], q⟩
theorem ifX (h : wp t ς fun b ς1 => if b = true then wpx gx1 ς1 Q E else wpx gx2 ς1 Q E) : wpx (Lw.ifX t gx1 gx2) ς Q E := by
  obtain ⟨b, ς1, e, q⟩ := h
  cases b with
  | true =>
    rw [if_pos rfl] at q
    obtain ⟨o, e2, q2⟩ := q
    exact ⟨o, by unfold Lw.ifX; rw [e]; exact e2, q2⟩
  | false =>
    rw [if_neg Bool.false_ne_true] at q
    obtain ⟨o, e2, q2⟩ := q
    exact ⟨o, by unfold Lw.ifX; rw [e]; exact e2, q2⟩
theorem raX (h : wp f ς fun r ς1 => ∃ d ς2, toD r ς1 = some (d, ς2) ∧ E nm d ς2) : wpx (Lw.raX nm f) ς Q E := by
  obtain ⟨d, ς1, e, q⟩ := esc (Q := fun d ς1 => E nm d ς1) h
  exact ⟨.exc nm d ς1, by unfold Lw.raX; rw [e], q⟩
theorem exX (h : wpe fx ς (fun _ ς1 => Q (.nx ς1)) E) : wpx (Lw.exX fx) ς Q E := by
  obtain ⟨o, e, q⟩ := h
  cases o with
  | val r ς1 => exact ⟨.nrm (.nx ς1), by unfold Lw.exX; rw [e], q⟩
  | exc nm d ς1 => exact ⟨.exc nm d ς1, by unfold Lw.exX; rw [e], q⟩
theorem asX (h : wpe fx ς (fun r ς1 => ∃ d ς2 ς3, toD r ς1 = some (d, ς2) ∧ tg d ς2 = some ς3 ∧ Q (.nx ς3)) E) : wpx (Lw.asX fx tg) ς Q E := by
  obtain ⟨o, e, q⟩ := h
  cases o with
  | val r ς1 =>
    obtain ⟨d, ς2, ς3, e2, e3, q⟩ := q
    exact ⟨.nrm (.nx ς3), by unfold Lw.asX; rw [e]; simp only [e2, e3], q⟩
  | exc nm d ς1 => exact ⟨.exc nm d ς1, by unfold Lw.asX; rw [e], q⟩
theorem callX {ga : M (List Ar)} {Q : R → En → Prop} (h : wp ga ς fun as ς1 => ∃ ss, argS as ς1 = some ss ∧ (refsOf as).Nodup ∧ wpm m ss (fun r outs => (∀ i, r ≠ .ref i) ∧ Q r (putBack as outs ς1)) fun nm d outs => E nm d (putBack as outs ς1)) : wpe (Lw.callX m ga) ς Q E := by
  obtain ⟨as, ς1, e, ss, e2, nd, o, e3, q⟩ := h
  cases o with
  | ret r outs =>
    obtain ⟨hr, q⟩ := q
    refine ⟨.val r (putBack as outs ς1), ?_, q⟩
    unfold Lw.callX
    simp only [e, e2, e3]
    cases r with
    | ref i => exact absurd rfl (hr i)
    | pure d => exact if_pos nd
    | vx x => exact if_pos nd
    | fresh ds => exact if_pos nd
  | exc nm d outs =>
    refine ⟨.exc nm d (putBack as outs ς1), ?_, q⟩
    unfold Lw.callX
    simp only [e, e2, e3]
    exact if_pos nd
theorem forX {fi : M (List D)} (h : wp fi ς fun ds ς1 => wpx (loopX tg gx ds) ς1 Q E) : wpx (Lw.forX fi tg gx) ς Q E := by
  obtain ⟨ds, ς1, e, o, e2, q⟩ := h
  exact ⟨o, by unfold Lw.forX; rw [e]; exact e2, q⟩
theorem tryS (h : wpx gx ς Q fun nm d ς' => nms.contains nm = true ∧ free ς' iN = true ∧ free ς' iY = true ∧ Q (.nx ((ς'.set iN none).set iY (some (.vx (.exc nm d)))))) : wps (Lw.tryS gx nms iN iY) ς Q := by
  obtain ⟨o, e, q⟩ := h
  rcases o with o | ⟨nm, d, ς'⟩
  · exact ⟨o, by unfold Lw.tryS; rw [e], q⟩
  · obtain ⟨h1, h2, h3, q⟩ := q
    exact ⟨_, by unfold Lw.tryS; rw [e]; exact if_pos ⟨h1, h2, h3⟩, q⟩
end
end Sm
def isXv (i : Nat) (ς : En) : Option Bool := match ς[i]? with
  | some (some (.vx (.exc _ _))) => some false
  | some (some (.pure d)) => some (isNone d)
  | _ => none
def isiXv (i : Nat) (tab : List (Str × Bool)) (ς : En) : Option Bool := match ς[i]? with
  | some (some (.vx (.exc nm _))) => tab.lookup nm
  | _ => none
def whXv (i : Nat) (nms : List Str) (ς : En) : Option D := match ς[i]? with
  | some (some (.vx (.exc nm d))) => if nms.contains nm = true then some d else none
  | _ => none
/-- slot i is None, as a test -/
def isT (i : Nat) : M Bool := fun ς => match isXv i ς with
  | some b => some (b, ς)
  | none => none
theorem d_isT {X : Cx} {x : Str} {i : Nat} {p pos : Pos} {e : Expr} (h : PE X (.Name x p) (tVar i)) (hn : PE X e (tC .non)) (hm : behindInMarks .Is e = false) : PTd X (.Compare (.Name x p) [.Is] [e] pos) (isT i) := fun F => PT.mono (pt_cmpR op_isN h hn hm) fun σ H Q hq => by
  obtain ⟨ς, G, rl, b, ς', e, k⟩ := hq
  unfold isT isXv at e
  split at e
  · rename_i b' q
    cases e
    split at q
    · rename_i nm d q2
      cases q
      obtain ⟨a, u, h1, _⟩ := rl.cgt q2
      exact ⟨.ref a, h1, rfl, false, rfl, k H G rl (Same.refl _)⟩
    · rename_i d q2
      cases q
      obtain ⟨v, h1, h2⟩ := rl.pu i d q2
      have hv := isNone_V (.inl h2 : RdV X.K G H v d)
      refine ⟨v, h1, rfl, isNone d, ?_, k H G rl (Same.refl _)⟩
      rw [hv]
    · cases q
  · cases e
namespace Sm
section
variable {ς : En} {i n : Nat} {nms : List Str} {tab : List (Str × Bool)} {Q : R → En → Prop}
theorem isX (h : ∃ b, isXv i ς = some b ∧ Q (.pure (.bool b)) ς) : wp (Lw.isX i) ς Q := by
  obtain ⟨b, e, q⟩ := h
  refine ⟨.pure (.bool b), ς, ?_, q⟩
  unfold isXv at e
  unfold Lw.isX
  split at e
  · rename_i h1; cases e; first | rfl | rw [h1]
  · rename_i h1; cases e; first | rfl | rw [h1]
  · cases e
theorem isT {Q : Bool → En → Prop} (h : ∃ b, isXv i ς = some b ∧ Q b ς) : wp (Lw.isT i) ς Q := by
  obtain ⟨b, e, q⟩ := h
  exact ⟨b, ς, by unfold Lw.isT; rw [e], q⟩
theorem isiX (h : ∃ b, isiXv i tab ς = some b ∧ Q (.pure (.bool b)) ς) : wp (Lw.isiX i tab) ς Q := by
  obtain ⟨b, e, q⟩ := h
  refine ⟨.pure (.bool b), ς, ?_, q⟩
  unfold isiXv at e
  unfold Lw.isiX
  split at e
  · rename_i h1; first | (rw [h1]; simp only [e]) | simp only [e]
  · cases e
theorem whX (h : ∃ d, whXv i nms ς = some d ∧ Q (.pure d) ς) : wp (Lw.whX i nms) ς Q := by
  obtain ⟨d, e, q⟩ := h
  refine ⟨.pure d, ς, ?_, q⟩
  unfold whXv at e
  unfold Lw.whX
  split at e
  · rename_i h1
    split at e
    · rename_i h2; cases e; first | (rw [h1]; exact if_pos h2) | exact if_pos h2
    · cases e
  · cases e
theorem runX {g : MX} {ss : List S} {Q : R → List S → Prop} {E : Str → D → List S → Prop} (h : wpx g (ent n ss) (outF ss.length Q) fun nm d ς => E nm d (outsOf ς ss.length)) : wpm (Lw.runX g n) ss Q E := by
  obtain ⟨o, e, q⟩ := h
  rcases o with o | ⟨nm, d, ς'⟩
  · cases o with
    | nx ς' => exact ⟨_, by unfold Lw.runX; rw [e], q⟩
    | rt r ς' =>
      cases r with
      | ref i => exact absurd rfl (q.1 i)
      | pure d => exact ⟨.ret (.pure d) (outsOf ς' ss.length), by unfold Lw.runX; rw [e], q.2⟩
      | vx x => exact ⟨.ret (.vx x) (outsOf ς' ss.length), by unfold Lw.runX; rw [e], q.2⟩
      | fresh ds => exact ⟨.ret (.fresh ds) (outsOf ς' ss.length), by unfold Lw.runX; rw [e], q.2⟩
    | bk ς' => exact q.elim
    | ct ς' => exact q.elim
  · exact ⟨_, by unfold Lw.runX; rw [e], q⟩
end
section
variable {ς : En} {i n iN iY : Nat} {d : D} {g : MS} {gx gx1 gx2 : MX} {fx : MRX} {m : FsemX} {f : M R} {t : M Bool} {Q : Out → Prop} {E : XE'} {nm : Str} {nms : List Str} {tg : Tg} {tab : List (Str × Bool)}
instance stp_nS : Stp (wpx (Lw.nS g) ς Q E) (wps g ς Q) := ⟨Sm.nS⟩
instance stp_sqX : Stp (wpx (Lw.sqX gx1 gx2) ς Q E) (wpx gx1 ς (andThenX gx2 Q E) E) := ⟨Sm.sqX⟩
instance stp_ifX : Stp (wpx (Lw.ifX t gx1 gx2) ς Q E) (wp t ς fun b ς1 => if b = true then wpx gx1 ς1 Q E else wpx gx2 ς1 Q E) := ⟨Sm.ifX⟩
instance stp_raX : Stp (wpx (Lw.raX nm f) ς Q E) (wp f ς fun r ς1 => ∃ d ς2, toD r ς1 = some (d, ς2) ∧ E nm d ς2) := ⟨Sm.raX⟩
instance stp_exX : Stp (wpx (Lw.exX fx) ς Q E) (wpe fx ς (fun _ ς1 => Q (.nx ς1)) E) := ⟨Sm.exX⟩
instance stp_asX : Stp (wpx (Lw.asX fx tg) ς Q E) (wpe fx ς (fun r ς1 => ∃ d ς2 ς3, toD r ς1 = some (d, ς2) ∧ tg d ς2 = some ς3 ∧ Q (.nx ς3)) E) := ⟨Sm.asX⟩
instance stp_callX {ga : M (List Ar)} {Q : R → En → Prop} : Stp (wpe (Lw.callX m ga) ς Q E) (wp ga ς fun as ς1 => ∃ ss, argS as ς1 = some ss ∧ (refsOf as).Nodup ∧ wpm m ss (fun r outs => (∀ i, r ≠ .ref i) ∧ Q r (putBack as outs ς1)) fun nm d outs => E nm d (putBack as outs ς1)) := ⟨Sm.callX⟩
instance stp_forX {fi : M (List D)} : Stp (wpx (Lw.forX fi tg gx) ς Q E) (wp fi ς fun ds ς1 => wpx (loopX tg gx ds) ς1 Q E) := ⟨Sm.forX⟩
instance stp_tryS : Stp (wps (Lw.tryS gx nms iN iY) ς Q) (wpx gx ς Q fun nm d ς' => nms.contains nm = true ∧ free ς' iN = true ∧ free ς' iY = true ∧ Q (.nx ((ς'.set iN none).set iY (some (.vx (.exc nm d)))))) := ⟨Sm.tryS⟩
instance stp_isX {Q : R → En → Prop} : Stp (wp (Lw.isX i) ς Q) (∃ b, isXv i ς = some b ∧ Q (.pure (.bool b)) ς) := ⟨Sm.isX⟩
instance stp_isT {Q : Bool → En → Prop} : Stp (wp (Lw.isT i) ς Q) (∃ b, isXv i ς = some b ∧ Q b ς) := ⟨Sm.isT⟩
instance stp_isiX {Q : R → En → Prop} : Stp (wp (Lw.isiX i tab) ς Q) (∃ b, isiXv i tab ς = some b ∧ Q (.pure (.bool b)) ς) := ⟨Sm.isiX⟩
instance stp_whX {Q : R → En → Prop} : Stp (wp (Lw.whX i nms) ς Q) (∃ d, whXv i nms ς = some d ∧ Q (.pure d) ς) := ⟨Sm.whX⟩
instance stp_ax_nx : Stp (andThenX gx Q E (.nx ς)) (wpx gx ς Q E) := ⟨id⟩
instance stp_ax_rt {r : R} : Stp (andThenX gx Q E (.rt r ς)) (Q (.rt r ς)) := ⟨id⟩
end
end Sm
end Lw
namespace Lw
open PySem PySem.Spec PyProof.Rows L2
/-! ### a def that may raise, called where it does not -/
def clm (m : FsemX) : Fsem := fun ss => match m ss with
  | some (.ret r outs) => some (r, outs)
  | _ => none
theorem FoX.calm {P : Program} {w : World} {K : PySem.W.Frag} {mg : Str → Option Value} {base : Heap} {x : Str} {ps : List Str} {m : FsemX} {k : Nat} (h : FoX P w K mg base x ps m k) : Fo P w K mg base x ps (clm m) k := by
  obtain ⟨f, fd, G, hm, hk, hb⟩ := h
  have key : ∀ vs H (Q : VK) (E : XK), spF K ps.length (clm m) vs H Q E → spX K ps.length m vs H Q (fun _ _ _ => False) := by
    intro vs H Q E h
    obtain ⟨ss, G1, hl, a, r, outs, e, q⟩ := h
    unfold clm at e
    split at e
    · rename_i r' outs' e2
      cases e
      exact ⟨ss, G1, hl, a, _, e2, q⟩
    · cases e
  refine ⟨f, fd, ⟨fun vs H Q E h => G.len _ _ _ _ (key vs H Q E h), fun A outer s H args us vs Q E hgd hr he hb' hv h => ?_⟩, hm, hk, hb⟩
  refine codeAny_mono (G.run A outer s H args us vs Q _ hgd hr he hb' hv (key vs H Q E h)) ?_
  rintro (er | fl) s' hq
  · obtain ⟨_, _, _, _, _, _, _, _, _, _, _, _, z⟩ := hq
    exact z.elim
  · rcases fl with _ | _ | _ | u <;> exact hq
theorem Sm.clm {m : FsemX} {ss : List S} {Q : R → List S → Prop} (h : wpm m ss Q fun _ _ _ => False) : wpf (Lw.clm m) ss Q := by
  obtain ⟨o, e, q⟩ := h
  cases o with
  | ret r outs => exact ⟨r, outs, by unfold Lw.clm; rw [e], q⟩
  | exc nm d outs => exact q.elim
end Lw
namespace Lw
open PySem PySem.Spec PyProof.Rows L2
theorem Sm.loopInvX {tg : Tg} {gx : MX} {ς : En} {ds : List D} {Q : Out → Prop} {E : XE'} (I : Nat → En → Prop) (h0 : I 0 ς)
    (hs : ∀ (i : Nat) d ς, ds[i]? = some d → I i ς → ∃ ς1, tg d ς = some ς1 ∧ wpx gx ς1 (fun o => match o with | .nx ς2 => I (i + 1) ς2 | .ct ς2 => I (i + 1) ς2 | .bk ς2 => Q (.nx ς2) | .rt r ς2 => Q (.rt r ς2)) E)
    (hd : ∀ ς, I ds.length ς → Q (.nx ς)) : wpx (loopX tg gx ds) ς Q E := by
  have main : ∀ (n i : Nat) (ς : En), n = ds.length - i → i ≤ ds.length → I i ς → wpx (loopX tg gx (ds.drop i)) ς Q E := by
    intro n
    induction n with
    | zero =>
      intro i ς hn hi hI
      have : i = ds.length := by omega
      subst this
      rw [List.drop_length]
      exact ⟨_, rfl, hd ς hI⟩
    | succ n ih =>
      intro i ς hn hi hI
      have hlt : i < ds.length := by omega
      rw [List.drop_eq_getElem_cons hlt]
      obtain ⟨ς1, e1, o, e2, q⟩ := hs i _ ς (List.getElem?_eq_getElem hlt) hI
      unfold wpx
      rw [loopX]
      simp only [e1, e2]
      rcases o with o | ⟨nm, d, ς2⟩
      · cases o with
        | nx ς2 => exact ih (i + 1) ς2 (by omega) hlt q
        | ct ς2 => exact ih (i + 1) ς2 (by omega) hlt q
        | bk ς2 => exact ⟨_, rfl, q⟩
        | rt r ς2 => exact ⟨_, rfl, q⟩
      · exact ⟨_, rfl, q⟩
  have := main ds.length 0 ς (by omega) (by omega) h0
  rw [List.drop_zero] at this
  exact this
end Lw
namespace Lw
open PySem PySem.Spec PyProof.Rows L2
/-! ### sum(range(a, b)) -/
def rsum (a b : Int) : Int := preSum (fun i => a + (i : Int)) (b - a).toNat
section
variable {X : Cx} {pos p1 p2 p3 : Pos} {a b : Expr} {fa fb : M R}
theorem cr_sumR (hc : X.calm = true) : CallR X (.builtin "sum") (fun vs H Q => ∃ (p : Addr) (lo hi : Int), vs = [V.ref p] ∧ H p = some (.rng lo hi) ∧ Builtin.Range.small lo hi 1 = true ∧ Builtin.Range.rangeSize lo hi 1 = ((hi - lo).toNat : Nat) ∧ Q (.int (rsum lo hi)) H) := by
  intro pins s σ H vs us Q I r h
  obtain ⟨p, lo, hi, rfl, hp, hsm, hn, q⟩ := h
  rw [Vals.ref1 r]
  obtain ⟨t, u, v, e⟩ := (show ObjOk X.prog X.w H s.heap p (.rng lo hi) from I.hok p _ hp)
  have W := (Walks.range (prog := X.prog) (w := X.w) (A := X.A.in1) (I.ok.hd hc) s.heap.objs.size lo 1 (hi - lo).toNat).toS
  refine call_sum_walkAnyS (wpAny_pyIter_range e hsm ?_)
  refine ⟨s.heap.objs.size, _, _, _, _, _, _, fun i => lo + (i : Int), rfl, W, ?_, fun b hb => ?_, fun i v hP => ?_, fun s' t' hm => ?_⟩
  · show IsRangeIter _ _ _ _ _
    rw [hn]
    simpa using Heap.get?_push_size _ rfl
  · obtain rfl := List.mem_singleton.mp hb
    exact Heap.lt_size (Heap.get?_push_size _ rfl)
  · obtain ⟨t, e⟩ := hP
    exact ⟨t, by simpa using e⟩
  · obtain ⟨h', g', d', tk', os'⟩ := s'
    have e1 : g' = s.gens := hm.gens
    have e2 : d' = s.drawn := hm.drawn
    have e3 : os' = s.os := hm.os
    subst e1 e2 e3
    have hk : ∀ b o, s.heap.get? b = some o → h'.get? b = some o := fun b o e => hm.heap b o (fun hb => absurd (Heap.lt_size e) ((List.mem_singleton.mp hb) ▸ Nat.lt_irrefl _)) (Heap.get?_push_of_some _ e)
    exact ⟨.int (rsum lo hi), H, I.kept hk, ⟨t', rfl⟩, q⟩
theorem size_one (a b : Int) : Builtin.Range.rangeSize a b 1 = ((b - a).toNat : Nat) := by
  unfold Builtin.Range.rangeSize
  rw [if_pos (by decide)]
  split <;> omega
def sumRE (fa fb : M R) : M R := bd (sub fa) fun r => bd (sub fb) fun r2 => bd (rd r) fun d => bd (rd r2) fun d2 => match d, d2 with
  | .int m, .int n => if Lw.inR m = true ∧ Lw.inR n = true then ret (.pure (.int (rsum m n))) else lift none
  | _, _ => lift none
theorem d_sumR (hc : X.calm = true) (hg : Gl X "sum") (hm : X.mg "sum" = none) (hg2 : Gl X "range") (hm2 : X.mg "range" = none) (ha : PEd X a fa) (hb : PEd X b fb) (hs1 : starEach [a, b] X.env = (false, eval a X.env) :: starEach [b] X.env := by rfl) (hs2 : starEach [b] X.env = (false, eval b X.env) :: starEach [] X.env := by rfl)
    (he : starEach [.Call (.Name "range" p2) [a, b] [] p3] X.env = (false, eval (.Call (.Name "range" p2) [a, b] [] p3) X.env) :: starEach [] X.env := by rfl) (hpl : (backTo p3 (starEach [b] X.env)).any (·.1) = false := by rfl) :
    PEd X (.Call (.Name "sum" p1) [.Call (.Name "range" p2) [a, b] [] p3] [] pos) (sumRE fa fb) := fun F =>
  PE.mono (pe_callB (cr_sumR hc) hg hm (by decide +kernel) (pa_cons (pe_callTy cr_range2 hg2 hm2 (by decide +kernel) (pa_cons (d_sub ha F) (pa_cons (d_sub hb F) pa_nil hs2) hs1) (he := hs1) (hpl := hpl)) pa_nil he) (he := he) (hpl := rfl)) fun σ H Q hq => by
    obtain ⟨ς, G, rl, res, ς', e, k⟩ := hq
    obtain ⟨r, ς1, e1, q1⟩ := bd_some e
    obtain ⟨r2, ς2, e2, q2⟩ := bd_some q1
    obtain ⟨d, ς3, e3', q3⟩ := bd_some q2
    obtain ⟨e3, h3⟩ := rd_some e3'
    obtain ⟨d2, ς4, e4', q4⟩ := bd_some q3
    obtain ⟨e4, h4⟩ := rd_some e4'
    subst h3 h4
    refine ⟨ς, G, rl, r, _, e1, fun v H1 G1 rl1 s1 rep1 => ⟨ς1, G1, rl1, r2, _, e2, fun w H2 G2 rl2 s2 rep2 => ?_⟩⟩
    have rv := rdD_ok rl2 (rep_keep (ς' := ς4) (H' := H2) rep1 (sub_nf e1) s2) e3
    have rw' := rdD_ok rl2 rep2 e4
    cases d with
    | int m =>
      cases d2 with
      | int n =>
        replace q4 : (if Lw.inR m = true ∧ Lw.inR n = true then ret (.pure (.int (rsum m n))) else lift none) _ = some (res, ς') := q4
        by_cases hn : Lw.inR m = true ∧ Lw.inR n = true
        · rw [if_pos hn] at q4
          cases q4
          obtain ⟨h1, h2⟩ := hn
          unfold Lw.inR at h1 h2
          simp only [Bool.and_eq_true, decide_eq_true_eq] at h1 h2
          refine ⟨m, n, by rw [rv.int, rw'.int], fun p hp => ⟨p, m, n, rfl, upd_same, small_one h1.1 h1.2 h2.1 h2.2, size_one m n, ?_⟩⟩
          exact k _ _ _ (rl2.lay hp) ((s1.trans s2).trans (same_upd (rl2.gnone hp))) (.int _)
        · rw [if_neg hn] at q4
          cases q4
      | _ => cases q4
    | _ => cases q4
end
namespace Sm
section
variable {fa fb : M R} {ς : En} {Q : R → En → Prop}
theorem sumRE (h : wp fa ς fun r ς1 => wp fb ς1 fun r2 ς2 => ∃ m n, rdD r ς2 = some (.int m) ∧ rdD r2 ς2 = some (.int n) ∧ Lw.inR m = true ∧ Lw.inR n = true ∧ Q (.pure (.int (rsum m n))) ς2) : wp (Lw.sumRE fa fb) ς Q := by
  refine bd (sub (mono h fun a ς1 h => bd (sub (mono h fun b ς2 h => ?_))))
  obtain ⟨m, n, e1, e2, h1, h2, q⟩ := h
  refine bd (rd (rd_nf e1) (bd (rd (rd_nf e2) ?_)))
  show wp (if Lw.inR m = true ∧ Lw.inR n = true then Lw.ret (.pure (.int (rsum m n))) else Lw.lift none) ς2 Q
  rw [if_pos ⟨h1, h2⟩]
  exact ret q
instance stp_sumRE : Stp (wp (Lw.sumRE fa fb) ς Q) (wp fa ς fun r ς1 => wp fb ς1 fun r2 ς2 => ∃ m n, rdD r ς2 = some (.int m) ∧ rdD r2 ς2 = some (.int n) ∧ Lw.inR m = true ∧ Lw.inR n = true ∧ Q (.pure (.int (rsum m n))) ς2) := ⟨sumRE⟩
end
end Sm
end Lw
namespace Lw
open PySem PySem.Spec PyProof.Rows L2
/-! ### xs = [f for .. in ..], each a new list; return all([e for x in xs]), each x changed on the way -/
def boxLoop (j : Nat) (fe : M R) : List (List D) → List D → En → Option (List D × En)
  | [], acc, ς => some (acc, ς)
  | ds :: dss, acc, ς => match esc fe (ς.set j (some (.own false ds))) with
    | some (y, ς1) => if freeAll ς1 [j] = true ∧ acc.length < sizeLine then boxLoop j fe dss (acc ++ [y]) (wipeE ς1 [j]) else none
    | none => none
def boxS (i : Nat) (fl : M (List D)) (vs : List Nat) (t0 : Tg) (f : M R) (j : Nat) (fe : M R) : MS := fun ς => match fl ς with
  | some (ds, ς1) => if freeAll ς1 vs = true then match lrLoop vs t0 f ds [] (wipeE ς1 vs) with
      | some (dss, ς2) => if free ς2 i = true ∧ free (ς2.set i none) j = true then match boxLoop j fe dss [] (wipeE (ς2.set i none) [j]) with
          | some (acc, ς3) => match gAll (.list acc) with
            | some r => some (.rt r ς3)
            | none => none
          | none => none
        else none
      | none => none
    else none
  | none => none
structure BX (K : PySem.W.Frag) (F : Fx) (L M : Addr) (ς : En) (G : Hp) (σ : L2.St) (H : Hp) (as : List Addr) (dss : List (List D)) (k : Nat) (acc : List D) : Prop where
  rel : Rel K F ς G σ H
  ha : H L = some (.lst (as.map V.ref))
  pa : Priv F ς G σ L
  na : L ∉ as
  nd : as.Nodup
  len : as.length = dss.length
  inn : ∀ (q : Nat) b ds, k ≤ q → as[q]? = some b → dss[q]? = some ds → ∃ vs, H b = some (.lst vs) ∧ Priv F ς G σ b ∧ DpAll K G vs ds
  hm : ∃ accV, H M = some (.lst accV) ∧ DpAll K G accV acc
  pm : Priv F ς G σ M
  ml : M ≠ L
  ma : M ∉ as
section
variable {K : PySem.W.Frag} {F : Fx} {L M : Addr} {ς ς' : En} {G G' : Hp} {σ σ' : L2.St} {H H' : Hp} {as : List Addr} {dss : List (List D)} {k j : Nat} {acc : List D}
theorem NoOwn.setO {b x : Addr} {ds : List D} (hj : j < σ.length) (h : NoOwn ς σ x) (ne : b ≠ x) : NoOwn (ς.set j (some (.own false ds))) (σ.set j (some (.ref b))) x := fun n c es z1 z2 => by
  rcases get_set z1 with ⟨rfl, e⟩ | ⟨ni, e⟩
  · rw [List.getElem?_set_self hj] at z2
    cases z2
    exact ne rfl
  · rw [List.getElem?_set_ne ni] at z2
    exact h n c es e z2
theorem Priv.keep {x : Addr} {vs : List V} (r : Rel K F ς G σ H) (r1 : Rel K (F.now ς G σ H) ς' G' σ' H') (h : H x = some (.lst vs)) (p : Priv F ς G σ x) : H' x = some (.lst vs) ∧ Priv F ς' G' σ' x := by
  have k := r.keepF r1 h p.g p.no
  exact ⟨k.1, k.2.1, p.h0, k.2.2⟩
theorem BX.step {b : Addr} {ds : List D} {y : D} {v : V} (h : BX K F L M ς G σ H as dss k acc) (hj : free ς j = true) (h1 : as[k]? = some b) (h2 : dss[k]? = some ds)
    (r1 : Rel K (F.now (ς.set j (some (.own false ds))) G (σ.set j (some (.ref b))) H) ς' G' (σ.set j (some (.ref b))) H') (s : Same G G') (dp : Dp K G' v y) (hf : freeAll ς' [j] = true) (hs : σ.set j none = σ) :
    ∃ accV, H' M = some (.lst accV) ∧ DpAll K G' accV acc ∧ BX K F L M (wipeE ς' [j]) G' σ (upd H' M (.lst (accV ++ [v]))) as dss (k + 1) (acc ++ [y]) := by
  obtain ⟨vs, w1, w2, w3⟩ := h.inn k b ds (Nat.le_refl _) h1 h2
  have r2 := h.rel.setO (v := .ref b) hj ⟨b, vs, rfl, w1, w2.g, w3, w2.h0, w2.no⟩
  have jl : j < σ.length := by rw [h.rel.len]; exact free_lt hj
  have hbm := List.mem_of_getElem? h1
  have pv : ∀ x, Priv F ς G σ x → b ≠ x → Priv F (ς.set j (some (.own false ds))) G (σ.set j (some (.ref b))) x := fun x p ne => ⟨p.g, p.h0, p.no.setO jl ne⟩
  have sw : wipe (σ.set j (some (.ref b))) [j] = σ := by
    show (σ.set j (some (.ref b))).set j none = σ
    rw [List.set_set]; exact hs
  have kL := Priv.keep r2 r1 h.ha (pv L h.pa fun z => h.na (z ▸ hbm))
  obtain ⟨accV, m1, m2⟩ := h.hm
  have kM := Priv.keep r2 r1 m1 (pv M h.pm fun z => h.ma (z ▸ hbm))
  have rb := (r2.back r1).wiped [j] hf
  have pL := kL.2.wiped [j]
  have pM := kM.2.wiped [j]
  rw [sw] at rb pL pM
  refine ⟨accV, kM.1, dpa_same s m2, rb.touch pM.g pM.h0 pM.no kM.1, by rw [upd_ne (fun z => h.ml z.symm)]; exact kL.1, pL, h.na, h.nd, h.len, fun q b' ds' hq e1 e2 => ?_, ⟨_, upd_same, dpa_app (dpa_same s m2) (.cons dp .nil)⟩, pM, h.ml, h.ma⟩
  obtain ⟨us, u1, u2, u3⟩ := h.inn q b' ds' (by omega) e1 e2
  have ne : b ≠ b' := fun z => by
    have := nodup_ix h.nd h1 (z ▸ e1)
    omega
  have kb := Priv.keep r2 r1 u1 (pv b' u2 ne)
  have pb := kb.2.wiped [j]
  rw [sw] at pb
  have nm : b' ≠ M := fun z => h.ma (z ▸ List.mem_of_getElem? e1)
  exact ⟨us, by rw [upd_ne nm]; exact kb.1, pb, dpa_same s u3⟩
end
section
variable {X : Cx} {i j : Nat} {f fe : M R} {fl : M (List D)} {vs : List Nat} {t0 : Tg}
theorem t_box {K : PySem.W.Frag} {F : Fx} {D : Ends} {σ : L2.St} {H : Hp} (hq : tSt K F (boxS i fl vs t0 f j fe) D σ H) :
    tSeq (tAsg (tLc (fun σ H R => ∃ F, tEvI K F fl σ H R) (gEx K vs t0) (tEx K (ret true)) (fun σ H Q => ∃ F, tEv K F f σ H Q) vs) (gName i))
      (tRet (tCB (fun xs H Q => ∃ (l : Addr) (bs : List Bool), xs = [.ref l] ∧ SqL K H l (bs.map V.bl) ∧ Q (.bl (bs.all id)) H) (tCons (tLc (iList K (tVar i)) (gName j) (tEx K (ret true)) (eEx K (esc fe)) [j]) tNil))) D σ H := by
  obtain ⟨ς, G, rl, o, e, k⟩ := hq
  unfold boxS at e
  split at e
  · rename_i ds ς1 q1
    split at e
    · rename_i hf
      split at e
      · rename_i dssF ς2 q2
        split at e
        · rename_i hfi
          split at e
          · rename_i accF ς3 q3
            split at e
            · rename_i rr qr
              cases e
              refine ⟨F, ς, G, rl, ds, ς1, q1, fun J H1 G1 rl1 s1 wk L hL => ?_⟩
              have h0 : PQ K F L (wipeE ς1 vs) G1 (wipe σ vs) (upd H1 L (.lst [])) [] [] := by
                refine ⟨(rl1.wiped vs hf).layF hL, upd_same, ⟨rl1.gnone hL, rl1.new hL, fun n b es z w => ?_⟩, by simp, by simp, rfl, fun k b ds h1 h2 => by simp at h1⟩
                obtain ⟨c, ws, f1, f2, _⟩ := (rl1.wiped vs hf).ow n b es z
                rw [w] at f1; cases f1
                rw [hL] at f2; cases f2
              refine ⟨fun jj m H' => m = ds.length - jj ∧ jj ≤ ds.length ∧ ∃ ςj Gj as acc, PQ K F L ςj Gj (wipe σ vs) H' as acc ∧ Same G1 Gj ∧ as.length = jj ∧ lrLoop vs t0 f (ds.drop jj) acc ςj = some (dssF, ς2), ⟨ds.length, by simp, Nat.zero_le _, _, G1, [], [], h0, Same.refl _, rfl, q2⟩, ?_⟩
              rintro jj m H' ⟨rfl, hj, ςj, Gj, as, acc, hP, sj, hal, ej⟩
              by_cases hlt : jj < ds.length
              · rw [List.drop_eq_getElem_cons hlt, lrLoop] at ej
                split at ej
                · rename_i ς4 q4
                  split at ej
                  · rename_i es ς5 q5
                    split at ej
                    · rename_i hf5
                      refine .inr ⟨wk.go jj H' hlt (sj.trans hP.rel.sub), fun H3 => ∃ ςj Gj as acc, PQ K F L ςj Gj (wipe σ vs) H3 as acc ∧ Same G1 Gj ∧ as.length = jj + 1 ∧ lrLoop vs t0 f (ds.drop (jj + 1)) acc ςj = some (dssF, ς2), fun H3 h3 => ⟨ds.length - (jj + 1), by omega, rfl, hlt, h3⟩, fun v H2 y => ?_⟩
                      obtain ⟨G2, rl2, s2, dp2⟩ := hP.rel.now.tupled sj wk y (List.getElem?_eq_getElem hlt)
                      refine ⟨F.now ςj Gj (wipe σ vs) H', ςj, G2, _, rl2, dp2, ς4, q4, fun σ3 H3 G3 rl3 s3 w3 => ⟨w3.trans (wipe_wipe σ vs), ?_⟩⟩
                      have w3' : wipe σ3 vs = wipe σ vs := w3.trans (wipe_wipe σ vs)
                      refine ⟨F.now ςj Gj (wipe σ vs) H', ς4, G3, rl3, true, ς4, rfl, fun H4 G4 rl4 s4 => iteT ?_⟩
                      refine ⟨F.now ςj Gj (wipe σ vs) H', ς4, G4, rl4, .fresh es, ς5, q5, fun pv H5 G5 rl5 s5 rep5 => ?_⟩
                      obtain ⟨p, rfl, hL5, hP5⟩ := hP.push rl5 rep5
                      have h6 := hP5.wiped vs hf5.1
                      rw [w3'] at h6
                      refine ⟨as.map V.ref, hL5, by rw [List.length_map, hP.len]; exact hf5.2, ?_⟩
                      exact ⟨_, G5, as ++ [p], acc ++ [es], h6, sj.trans (s2.trans (s3.trans (s4.trans s5))), by rw [List.length_append, List.length_singleton, hal], ej⟩
                    · cases ej
                  · cases ej
                · cases ej
              · have ejj : jj = ds.length := by omega
                subst ejj
                rw [List.drop_length, lrLoop] at ej
                cases ej
                refine .inl ⟨wk.stop H' (sj.trans hP.rel.sub), ?_⟩
                -- the second statement
                have rlu := hP.rel.unwipe
                have r2 := rlu.setN (o := some (.ref L)) hfi.1
                have hil : i < σ.length := by rw [rlu.len]; exact free_lt hfi.1
                have prv : ∀ x, Priv F ς2 Gj (wipe σ vs) x → Priv F (ς2.set i none) Gj (σ.set i (some (.ref L))) x := fun x p => ⟨p.g, p.h0, NoOwn.set (fun _ _ => by simp) (NoOwn.unwipe hP.rel p.no)⟩
                refine ⟨.ref L, List.getElem?_set_self hil, L, rfl, ⟨_, SqL.of hP.ha⟩, fun M hM => ?_⟩
                generalize hσ1 : σ.set i (some (.ref L)) = σ1 at *
                have hfj : freeAll (ς2.set i none) [j] = true := by
                  show (free (ς2.set i none) j && true) = true
                  rw [hfi.2]; rfl
                have rw1 := r2.wiped [j] hfj
                have mL : M ≠ L := fun z => by rw [z, hP.ha] at hM; cases hM
                have mA : M ∉ as := fun z => by
                  obtain ⟨q, hq⟩ := List.mem_iff_getElem?.1 z
                  have hql : q < dssF.length := by have := (List.getElem?_eq_some_iff.mp hq).1; have := hP.len; omega
                  obtain ⟨ws, u1, _⟩ := hP.inn q M _ hq (List.getElem?_eq_getElem hql)
                  rw [u1] at hM; cases hM
                have b0 : BX K F L M (wipeE (ς2.set i none) [j]) Gj (wipe σ1 [j]) (upd H' M (.lst [])) as dssF 0 [] := by
                  refine ⟨rw1.layF hM, by rw [upd_ne (fun z => mL z.symm)]; exact hP.ha, (prv L hP.pa).wiped [j], hP.na, hP.nd, hP.len, fun q b es _ h1 h2 => ?_, ⟨[], upd_same, .nil⟩, ⟨rw1.gnone hM, rw1.new hM, fun n b es z w => ?_⟩, mL, mA⟩
                  · obtain ⟨ws, u1, u2, u3⟩ := hP.inn q b es h1 h2
                    have nm : b ≠ M := fun z => mA (z ▸ List.mem_of_getElem? h1)
                    exact ⟨ws, by rw [upd_ne nm]; exact u1, (prv b u2).wiped [j], u3⟩
                  · obtain ⟨c, ws, f1, f2, _⟩ := rw1.ow n b es z
                    rw [w] at f1; cases f1
                    rw [hM] at f2; cases f2
                have hw0 : (wipe σ1 [j]).set j none = wipe σ1 [j] := by
                  show (σ1.set j none).set j none = σ1.set j none
                  rw [List.set_set]
                have fr0 : ∀ {ςk : En} {ψ : En}, wipeE ψ [j] = ςk → free ψ j = true → free ςk j = true := fun {ςk ψ} z h => by subst z; exact free_set h
                refine ⟨fun q m H'' => m = dssF.length - q ∧ q ≤ dssF.length ∧ ∃ ςk Gk acc, BX K F L M ςk Gk (wipe σ1 [j]) H'' as dssF q acc ∧ Same Gj Gk ∧ free ςk j = true ∧ boxLoop j fe (dssF.drop q) acc ςk = some (accF, ς3), ⟨dssF.length, by simp, Nat.zero_le _, _, Gj, [], b0, Same.refl _, fr0 rfl hfi.2, q3⟩, ?_⟩
                rintro q m H'' ⟨rfl, hqd, ςk, Gk, acc, hB, sk, hfk, ek⟩
                by_cases hql : q < dssF.length
                · rw [List.drop_eq_getElem_cons hql, boxLoop] at ek
                  split at ek
                  · rename_i y ς5 q5
                    split at ek
                    · rename_i hf5
                      have hqa : q < as.length := by rw [hP.len]; exact hql
                      have ha := List.getElem?_eq_getElem hqa
                      have hd := List.getElem?_eq_getElem hql
                      refine .inr ⟨⟨as.map V.ref, .ref as[q], SqL.of hB.ha, by rw [List.getElem?_map, ha]; rfl⟩, fun H3 => ∃ ςk Gk acc, BX K F L M ςk Gk (wipe σ1 [j]) H3 as dssF (q + 1) acc ∧ Same Gj Gk ∧ free ςk j = true ∧ boxLoop j fe (dssF.drop (q + 1)) acc ςk = some (accF, ς3), fun H3 h3 => ⟨dssF.length - (q + 1), by omega, rfl, hql, h3⟩, fun v H2 y2 => ?_⟩
                      obtain ⟨y1, y2⟩ := y2
                      have y2 := y2 _ (SqL.of hB.ha)
                      rw [List.getElem?_map, ha] at y2
                      cases y2
                      subst y1
                      obtain ⟨ws, w1, w2, w3⟩ := hB.inn q as[q] dssF[q] (Nat.le_refl _) ha hd
                      have r5 := hB.rel.setO (v := .ref as[q]) hfk ⟨as[q], ws, rfl, w1, w2.g, w3, w2.h0, w2.no⟩
                      refine ⟨?_, F.now _ Gk _ H2, _, Gk, r5.now, true, _, rfl, fun H4 G4 rl4 s4 => iteT ?_⟩
                      · show ((wipe σ1 [j]).set j (some (.ref as[q]))).set j none = (wipe σ1 [j])
                        rw [List.set_set]; exact hw0
                      · refine ⟨F.now _ Gk _ H2, _, G4, rl4, y, ς5, q5, fun u H5 G5 rl5 s5 dp5 => ?_⟩
                        obtain ⟨accV, m1, m2, hB'⟩ := hB.step hfk ha hd rl5 (s4.trans s5) dp5 hf5.1 hw0
                        have h55 : free ς5 j = true := by
                          have z : (free ς5 j && true) = true := hf5.1
                          rw [Bool.and_true] at z
                          exact z
                        exact ⟨accV, m1, by rw [dpa_len m2]; exact hf5.2, _, G5, acc ++ [y], hB', sk.trans (s4.trans s5), fr0 rfl h55, ek⟩
                    · cases ek
                  · cases ek
                · have eq : q = dssF.length := by omega
                  subst eq
                  rw [List.drop_length, boxLoop] at ek
                  cases ek
                  obtain ⟨accV, m1, m2⟩ := hB.hm
                  unfold gAll at qr
                  simp only at qr
                  split at qr
                  · rename_i bs qb
                    cases qr
                    refine .inl ⟨⟨as.map V.ref, SqL.of hB.ha, by rw [List.length_map, hP.len]; exact Nat.le_refl _⟩, M, bs, rfl, ?_, ?_⟩
                    · rw [bools_map qb] at m2
                      rw [dpa_bools_inv m2] at m1
                      exact SqL.of m1
                    · exact k _ σ1 H'' Gk hB.rel.unwipe (s1.trans (sj.trans sk)) (.bl _)
                  · cases qr
            · cases e
          · cases e
        · cases e
      · cases e
    · cases e
  · cases e
end
namespace Sm
theorem lrPure {vs : List Nat} {t0 : Tg} {f : M R} {ς : En} (P : List D → Prop) : ∀ (ds : List D) (acc : List (List D)), acc.length + ds.length ≤ sizeLine → (∀ d ∈ ds, ∃ ς1, t0 d ς = some ς1 ∧ wp f ς1 fun r ς2 => ∃ es, r = .fresh es ∧ P es ∧ freeAll ς2 vs = true ∧ wipeE ς2 vs = ς) →
    ∃ dss, (∀ es ∈ dss, P es) ∧ dss.length = ds.length ∧ lrLoop vs t0 f ds acc ς = some (acc ++ dss, ς)
  | [], acc, _, _ => ⟨[], (fun _ h => by cases h), rfl, by rw [List.append_nil]; rfl⟩
  | d :: ds, acc, hl, h => by
    obtain ⟨ς1, e1, r, ς2, e2, es, rfl, hp, hf, hw⟩ := h d List.mem_cons_self
    rw [List.length_cons] at hl
    obtain ⟨dss, h1, h2, h3⟩ := lrPure P ds (acc ++ [es]) (by rw [List.length_append, List.length_singleton]; omega) fun x hx => h x (List.mem_cons_of_mem _ hx)
    refine ⟨es :: dss, fun x hx => ?_, by rw [List.length_cons, List.length_cons, h2], ?_⟩
    · rcases List.mem_cons.1 hx with rfl | hx
      · exact hp
      · exact h1 x hx
    · rw [lrLoop, e1]
      simp only [e2]
      rw [if_pos ⟨hf, by omega⟩, hw, h3, List.append_assoc]
      rfl
theorem boxPure {j : Nat} {fe : M R} {ς : En} (P : List D → Prop) (h : ∀ ds, P ds → wp fe (ς.set j (some (.own false ds))) fun r ς2 => ∃ ς3, toD r ς2 = some (.bool true, ς3) ∧ freeAll ς3 [j] = true ∧ wipeE ς3 [j] = ς) : ∀ (dss : List (List D)) (acc : List D), acc.length + dss.length ≤ sizeLine → (∀ ds ∈ dss, P ds) → boxLoop j fe dss acc ς = some (acc ++ List.replicate dss.length (.bool true), ς)
  | [], acc, _, _ => by rw [List.length_nil, List.replicate_zero, List.append_nil]; rfl
  | ds :: dss, acc, hl, hp => by
    rw [List.length_cons] at hl
    obtain ⟨y, ς3, e1, e2⟩ := esc (Q := fun y ς3 => y = .bool true ∧ freeAll ς3 [j] = true ∧ wipeE ς3 [j] = ς) (Sm.mono (h ds (hp ds List.mem_cons_self)) fun r ς2 h => by
      obtain ⟨ς3, h1, h2, h3⟩ := h
      exact ⟨_, ς3, h1, rfl, h2, h3⟩)
    obtain ⟨rfl, h2, h3⟩ := e2
    rw [boxLoop, e1]
    simp only
    rw [if_pos ⟨h2, by omega⟩, h3, boxPure P h dss (acc ++ [PyData.bool true]) (by rw [List.length_append, List.length_singleton]; omega) fun x hx => hp x (List.mem_cons_of_mem _ hx), List.append_assoc, List.length_cons, List.replicate_succ]
    rfl
theorem boxS {ς : En} {i j : Nat} {f fe : M R} {fl : M (List D)} {vs : List Nat} {t0 : Tg} {Q : Out → Prop} (h : wp fl ς fun ds ς1 => freeAll ς1 vs = true ∧ ∃ dss ς2, lrLoop vs t0 f ds [] (wipeE ς1 vs) = some (dss, ς2) ∧ free ς2 i = true ∧ free (ς2.set i none) j = true ∧
    ∃ acc ς3, boxLoop j fe dss [] (wipeE (ς2.set i none) [j]) = some (acc, ς3) ∧ ∃ r, gAll (.list acc) = some r ∧ Q (.rt r ς3)) : wps (Lw.boxS i fl vs t0 f j fe) ς Q := by
  obtain ⟨ds, ς1, e1, hf, dss, ς2, e2, h1, h2, acc, ς3, e3, r, e4, q⟩ := h
  refine ⟨_, ?_, q⟩
  unfold Lw.boxS
  simp only [e1, e2, e3, e4]
  rw [if_pos hf, if_pos ⟨h1, h2⟩]
end Sm
end Lw
namespace Lw
open PySem PySem.Spec PyProof.Rows L2
local macro_rules | `(tactic| walk_at "lw e") => `(tactic| (repeat (first | (with_reducible refine Stp.go ?_) | (with_reducible apply Exists.intro) | ((with_reducible refine And.intro ?_ ?_); · (first | (with_reducible exact Evl.ev) | ((fail_if_success (with_reducible refine Gd.keep ?_)); rfl) | ((with_reducible apply mul_r); decide) | ((with_reducible apply mul_l); decide) | ((with_reducible apply div_i); decide) | ((with_reducible apply in_R); decide) | (exact Nat.le_of_ble_eq_true rfl) | (simp [refsOf]; done) | (exact ⟨rfl, rfl, by decide⟩) | (exact ⟨rfl, rfl, rfl⟩))) | ((with_reducible apply Sm.vrP); (focus rfl)) | ((with_reducible apply Sm.vrO); (focus rfl)) | (with_reducible refine iteTT ?_) | (with_reducible refine iteT ?_) | (with_reducible refine iteF ?_) | ((with_reducible refine iteB1 ?_ ?_); (focus rfl)) | ((with_reducible refine iteB0 ?_ ?_); (focus rfl)))))
local macro_rules | `(tactic| walk_at "lw n") => `(tactic| (try dsimp only [ent, List.map, Nat.reduceAdd, Nat.reduceSub, List.length_cons, List.length_nil, List.replicate_succ, List.replicate_zero, List.cons_append, List.nil_append, putBack, setOwn, List.getElem?_cons_zero, List.getElem?_cons_succ, List.set_cons_zero, List.set_cons_succ, Sm.nf]))
local macro_rules | `(tactic| walk_at "lw v") => `(tactic| (try simp only [pb1, pb2, pb3, pb4]))
theorem pw_6 : gPowA (.int 10) (.int 6) = some (.pure (.int 1000000)) := rfl
theorem pw_7 : gPowA (.int 10) (.int 7) = some (.pure (.int 10000000)) := rfl
theorem pw_15 : gPowA (.int 10) (.int 15) = some (.pure (.int 1000000000000000)) := rfl
theorem pw_18 : gPowA (.int 10) (.int 18) = some (.pure (.int 1000000000000000000)) := rfl
theorem pw_19 : gPowA (.int 10) (.int 19) = some (.pure (.int 10000000000000000000)) := rfl
theorem pw_30 : gPowA (.int 10) (.int 30) = some (.pure (.int 1000000000000000000000000000000)) := rfl
theorem pw_40 : gPowA (.int 10) (.int 40) = some (.pure (.int 10000000000000000000000000000000000000000)) := rfl
instance : Evl (gPowA (.int 10) (.int 6)) (.pure (.int 1000000)) := ⟨pw_6⟩
instance : Evl (gPowA (.int 10) (.int 7)) (.pure (.int 10000000)) := ⟨pw_7⟩
instance : Evl (gPowA (.int 10) (.int 15)) (.pure (.int 1000000000000000)) := ⟨pw_15⟩
instance : Evl (gPowA (.int 10) (.int 18)) (.pure (.int 1000000000000000000)) := ⟨pw_18⟩
instance : Evl (gPowA (.int 10) (.int 19)) (.pure (.int 10000000000000000000)) := ⟨pw_19⟩
instance : Evl (gPowA (.int 10) (.int 30)) (.pure (.int 1000000000000000000000000000000)) := ⟨pw_30⟩
instance : Evl (gPowA (.int 10) (.int 40)) (.pure (.int 10000000000000000000000000000000000000000)) := ⟨pw_40⟩
theorem iteDT {p A B : Prop} [Decidable p] (hp : p) (h : A) : if decide p = true then A else B := by rw [if_pos (decide_eq_true hp)]; exact h
theorem iteDF {p A B : Prop} [Decidable p] (hp : ¬ p) (h : B) : if decide p = true then A else B := by rw [if_neg (by rw [decide_eq_false hp]; decide)]; exact h
theorem dm_int {i j : Int} (h : 0 < j ∧ j < 2 ^ 200) : gDm (.int i) (.int j) = some (.pure (.tuple [.int (i / j), .int (i % j)])) := if_pos h
theorem mul_i {i j : Int} (h : cMul i j = true) : gMulA (.int i) (.int j) = some (.pure (.int (i * j))) := by
  unfold gMulA orG gI; simp only [h, if_true]
theorem cMul_r {i j : Int} (h : -18446744073709551616 < j ∧ j < 18446744073709551616) : cMul i j = true := by
  unfold cMul
  rw [Bool.or_eq_true]
  exact .inr (by rw [Bool.and_eq_true]; exact ⟨decide_eq_true h.1, decide_eq_true h.2⟩)
theorem cMul_l {i j : Int} (h : -18446744073709551616 < i ∧ i < 18446744073709551616) : cMul i j = true := by
  unfold cMul
  rw [Bool.or_eq_true]
  exact .inl (by rw [Bool.and_eq_true]; exact ⟨decide_eq_true h.1, decide_eq_true h.2⟩)
theorem mul_r {i j : Int} (h : -18446744073709551616 < j ∧ j < 18446744073709551616) : gMulA (.int i) (.int j) = some (.pure (.int (i * j))) := mul_i (cMul_r h)
theorem mul_l {i j : Int} (h : -18446744073709551616 < i ∧ i < 18446744073709551616) : gMulA (.int i) (.int j) = some (.pure (.int (i * j))) := mul_i (cMul_l h)
theorem mod_i {i j : Int} (h : 0 < j) : gModA (.int i) (.int j) = some (.pure (.int (i % j))) := if_pos (decide_eq_true h)
theorem div_i {i j : Int} (h : 0 < j ∧ j < 2 ^ 200) : gDivA (.int i) (.int j) = some (.pure (.int (i / j))) := if_pos (by unfold cDiv; rw [Bool.and_eq_true]; exact ⟨decide_eq_true h.1, decide_eq_true h.2⟩)
local macro_rules | `(tactic| walk_at "lw e") => `(tactic| (repeat (first | (with_reducible refine Stp.go ?_) | (with_reducible apply Exists.intro) | ((with_reducible refine And.intro ?_ ?_); · (first | (with_reducible exact Evl.ev) | ((fail_if_success (with_reducible refine Gd.keep ?_)); rfl) | ((with_reducible apply mul_r); decide) | ((with_reducible apply mul_l); decide) | ((with_reducible apply div_i); decide) | ((with_reducible apply in_R); decide) | (exact Nat.le_of_ble_eq_true rfl) | (simp [refsOf]; done) | (exact ⟨rfl, rfl, by decide⟩) | (exact ⟨rfl, rfl, rfl⟩))) | ((with_reducible apply Sm.vrP); (focus rfl)) | ((with_reducible apply Sm.vrO); (focus rfl)) | (with_reducible refine iteTT ?_) | (with_reducible refine iteT ?_) | (with_reducible refine iteF ?_) | ((with_reducible refine iteB1 ?_ ?_); (focus rfl)) | ((with_reducible refine iteB0 ?_ ?_); (focus rfl)))))
local macro_rules | `(tactic| walk_at "lw n") => `(tactic| (try dsimp only [ent, List.map, Nat.reduceAdd, Nat.reduceSub, List.length_cons, List.length_nil, List.replicate_succ, List.replicate_zero, List.cons_append, List.nil_append, putBack, setOwn, List.getElem?_cons_zero, List.getElem?_cons_succ, List.set_cons_zero, List.set_cons_succ, Sm.nf]))
local macro_rules | `(tactic| walk_at "lw v") => `(tactic| (try simp only [pb1, pb2, pb3, pb4]))
/-- what is drawn from -/
def Box (c : Nat) (ds : List D) : Prop := ∃ x y z : Int, ds = [.int x, .int y, .int z] ∧ 0 ≤ x ∧ 0 ≤ y ∧ y < 2147483647 ∧ 0 ≤ z ∧ z + c ≤ 1000000
theorem Box.less {c c' : Nat} {ds : List D} (h : Box c ds) (k : c' ≤ c) : Box c' ds := by
  obtain ⟨x, y, z, e, h1, h2, h3, h4, h5⟩ := h
  exact ⟨x, y, z, e, h1, h2, h3, h4, by omega⟩
def TakeQ (c : Nat) (k : Int) (r : R) (outs : List S) : Prop := ∃ v ds', r = .pure (.int v) ∧ 0 ≤ v ∧ v < k ∧ Box c ds' ∧ outs = [.own true ds', .pure (.int k)]
theorem take_one {c : Nat} {ds : List D} {k : Int} (hb : Box (c + 1) ds) (h1 : 1 ≤ k) (h2 : k ≤ 10000000) (ms : Fsem) : wpf (runFn (g_l_take ms) 6) [.own true ds, .pure (.int k)] (TakeQ c k) := by
  obtain ⟨x, y, z, rfl, hx, hy, hy2, hz, hz2⟩ := hb
  refine Sm.run ?_
  unfold g_l_take
  walk_at "lw e"
  by_cases hx0 : 0 < x
  · refine iteDT hx0 ?_
    walk_at "lw e"
    refine ⟨dm_int ⟨by omega, by omega⟩, ?_⟩
    walk_at "lw e"
    refine ⟨x % k, [.int (x / k), .int y, .int z], rfl, Int.emod_nonneg _ (by omega), Int.emod_lt_of_pos _ (by omega), ⟨_, _, _, rfl, Int.ediv_nonneg hx (by omega), hy, hy2, hz, by omega⟩, rfl⟩
  · refine iteDF hx0 ?_
    walk_at "lw e"
    refine iteDF (by omega) ?_
    walk_at "lw e"
    have hz1 : (z + 1) * (z + 1) ≤ 1000001 * 1000001 := Int.mul_le_mul (by omega) (by omega) (by omega) (by omega)
    have hz0 : 0 ≤ (z + 1) * (z + 1) := Int.mul_nonneg (by omega) (by omega)
    refine ⟨mul_r (j := z + 1) ⟨by omega, by omega⟩, ?_⟩
    walk_at "lw e"
    refine ⟨mul_l (i := y + 39373 * (z + 1)) ⟨by omega, by omega⟩, ?_⟩
    walk_at "lw e"
    refine ⟨mul_l ⟨by omega, by omega⟩, ?_⟩
    walk_at "lw e"
    refine ⟨mul_l ⟨by omega, by omega⟩, ?_⟩
    walk_at "lw e"
    refine ⟨mod_i (by omega), ?_⟩
    walk_at "lw e"
    refine ⟨_, [.int x, .int y, .int (z + 1)], rfl, Int.emod_nonneg _ (by omega), Int.emod_lt_of_pos _ (by omega), ⟨_, _, _, rfl, hx, hy, hy2, by omega, by omega⟩, rfl⟩
theorem nref {d : D} : ∀ i, R.pure d ≠ .ref i := fun i z => by cases z
theorem nfr {ds : List D} : ∀ i, R.fresh ds ≠ .ref i := fun i z => by cases z
theorem pow7_pos (n : Nat) : (1 : Int) ≤ 10000000 ^ n := by
  induction n with
  | zero => decide
  | succ n ih => rw [Int.pow_succ]; omega
theorem take_ok (n : Nat) : ∀ (c : Nat) (ds : List D) (k : Int), Box (c + 2 ^ (n + 1)) ds → 1 ≤ k → k ≤ 10000000 ^ (n + 1) → k < 1000000000000000000000000000000 → wpf (m_l_take (n + 1)) [.own true ds, .pure (.int k)] (TakeQ c k) := by
  induction n with
  | zero =>
    intro c ds k hb h1 h2 _
    exact take_one (hb.less (by omega)) h1 (by omega) _
  | succ n ih =>
    intro c ds k hb h1 h2 h3
    by_cases hk : k ≤ 10000000
    · exact take_one (hb.less (by have : 0 < 2 ^ (n + 1 + 1) := Nat.two_pow_pos _; omega)) h1 hk _
    · obtain ⟨x, y, z, rfl, hx, hy, hy2, hz, hz2⟩ := hb
      have hq : 0 < (2 : Nat) ^ n := Nat.two_pow_pos n
      have hp : (2 : Nat) ^ (n + 1 + 1) = 2 ^ (n + 1) + 2 ^ (n + 1) := by rw [Nat.pow_succ]; omega
      have hk2 : (k - 1) / 10000000 + 1 ≤ 10000000 ^ (n + 1) := by
        have e : (10000000 : Int) ^ (n + 1 + 1) = 10000000 ^ (n + 1) * 10000000 := Int.pow_succ _ _
        rw [e] at h2
        omega
      have h7 : (10000000 : Int) ≤ 10000000 ^ (n + 1) := by
        have e : (10000000 : Int) ^ (n + 1) = 10000000 ^ n * 10000000 := Int.pow_succ _ _
        have : (1 : Int) ≤ 10000000 ^ n := pow7_pos n
        omega
      show wpf (runFn (g_l_take (m_l_take (n + 1))) 6) _ _
      refine Sm.run ?_
      unfold g_l_take
      walk_at "lw e"
      by_cases hx0 : 0 < x
      · refine iteDT hx0 ?_
        walk_at "lw e"
        refine ⟨dm_int ⟨by omega, by omega⟩, ?_⟩
        walk_at "lw e"
        exact ⟨x % k, [.int (x / k), .int y, .int z], rfl, Int.emod_nonneg _ (by omega), Int.emod_lt_of_pos _ (by omega), ⟨_, _, _, rfl, Int.ediv_nonneg hx (by omega), hy, hy2, hz, by omega⟩, rfl⟩
      · refine iteDF hx0 ?_
        walk_at "lw e"
        refine iteDT (by omega) ?_
        walk_at "lw e"
        refine Sm.fmono (ih (c + 2 ^ (n + 1)) _ 10000000 ⟨x, y, z, rfl, hx, hy, hy2, hz, by omega⟩ (by decide) h7 (by decide)) fun r o h => ?_
        obtain ⟨v1, ds1, rfl, a1, a2, hb1, rfl⟩ := h
        refine ⟨nref, ?_⟩
        walk_at "lw e"
        refine Sm.fmono (ih c _ ((k - 1) / 10000000 + 1) hb1 (by omega) hk2 (by omega)) fun r o h => ?_
        obtain ⟨v2, ds2, rfl, b1, b2, hb2, rfl⟩ := h
        refine ⟨nref, ?_⟩
        walk_at "lw e"
        refine ⟨mod_i (by omega), ?_⟩
        walk_at "lw e"
        exact ⟨_, ds2, rfl, Int.emod_nonneg _ (by omega), Int.emod_lt_of_pos _ (by omega), hb2, rfl⟩
theorem take4 {c : Nat} {ds : List D} {k : Int} (hb : Box (c + 16) ds) (h1 : 1 ≤ k) (h2 : k ≤ 10000000000000000000000000000) : wpf (m_l_take 4) [.own true ds, .pure (.int k)] (TakeQ c k) := take_ok 3 c ds k hb h1 h2 (by omega)
end Lw
namespace Lw
open PySem PySem.Spec PyProof.Rows L2
local macro_rules | `(tactic| walk_at "lw e") => `(tactic| (repeat (first | (with_reducible refine Stp.go ?_) | (with_reducible apply Exists.intro) | ((with_reducible refine And.intro ?_ ?_); · (first | (with_reducible exact Evl.ev) | ((fail_if_success (with_reducible refine Gd.keep ?_)); rfl) | ((with_reducible apply mul_r); decide) | ((with_reducible apply mul_l); decide) | ((with_reducible apply div_i); decide) | ((with_reducible apply in_R); decide) | (exact Nat.le_of_ble_eq_true rfl) | (simp [refsOf]; done) | (exact ⟨rfl, rfl, by decide⟩) | (exact ⟨rfl, rfl, rfl⟩))) | ((with_reducible apply Sm.vrP); (focus rfl)) | ((with_reducible apply Sm.vrO); (focus rfl)) | (with_reducible refine iteTT ?_) | (with_reducible refine iteT ?_) | (with_reducible refine iteF ?_) | ((with_reducible refine iteB1 ?_ ?_); (focus rfl)) | ((with_reducible refine iteB0 ?_ ?_); (focus rfl)))))
local macro_rules | `(tactic| walk_at "lw n") => `(tactic| (try dsimp only [ent, List.map, Nat.reduceAdd, Nat.reduceSub, List.length_cons, List.length_nil, List.replicate_succ, List.replicate_zero, List.cons_append, List.nil_append, putBack, setOwn, List.getElem?_cons_zero, List.getElem?_cons_succ, List.set_cons_zero, List.set_cons_succ, Sm.nf]))
local macro_rules | `(tactic| walk_at "lw v") => `(tactic| (try simp only [pb1, pb2, pb3, pb4]))
abbrev ilist (ns : List Int) : D := .list (ns.map PyData.int)
def cutI (ns : List Int) (lo hi : Option Int) : List Int := (ns.drop (HT.sIx ns.length 0 lo)).take (HT.sIx ns.length ns.length hi - HT.sIx ns.length 0 lo)
theorem cutD_ints (ns : List Int) (lo hi : Option Int) : cutD (ns.map PyData.int) lo hi = (cutI ns lo hi).map PyData.int := by
  unfold cutD cutI
  rw [List.length_map, List.map_take, List.map_drop]
theorem atI_ints {ns : List Int} {i : Int} (h0 : 0 ≤ i) (h1 : i < ns.length) : gIx (ilist ns) (.int i) = some (.pure (.int (ns.getD i.toNat 0))) := by
  have hl : i.toNat < ns.length := by omega
  have : atI (ns.map PyData.int) i = some (.int (ns.getD i.toNat 0)) := by
    unfold atI ixN
    rw [List.length_map]
    simp only [h0, if_true]
    rw [if_pos (by omega)]
    simp [hl]
  show (atI (ns.map PyData.int) i).map R.pure = _
  rw [this]; rfl
def BoxQ (r : R) (_ : List S) : Prop := ∃ ds, r = .fresh ds ∧ Box 1000000 ds
def IntQ (ς0 : En) (r : R) (ς1 : En) : Prop := ∃ i : Int, r = .pure (.int i) ∧ ς1 = ς0
def IntsQ (n : Nat) (r : R) (_ : List S) : Prop := ∃ cs : List Int, r = .fresh (cs.map PyData.int) ∧ cs.length ≤ n
theorem box_ok {ns : List Int} {k : Nat} (hk : k ≤ 100) : wpf m_l_box [.pure (ilist ns), .pure (.int k)] BoxQ := by
  refine Sm.run ?_
  unfold g_l_box
  refine Sm.sq (Sm.asg (Sm.mono (Q := IntQ (ent 3 [.pure (ilist ns), .pure (.int k)])) ?_ ?_))
  · walk_at "lw e"
    rw [List.length_map]
    by_cases h : (k : Int) < ns.length
    · refine iteDT h ?_
      walk_at "lw e"
      exact ⟨atI_ints (by omega) h, _, rfl, rfl⟩
    · refine iteDF h ?_
      walk_at "lw e"
      exact ⟨_, rfl, rfl⟩
  · rintro r ς1 ⟨cell, rfl, rfl⟩
    walk_at "lw e"
    refine ⟨mul_r (by split <;> omega), ?_⟩
    walk_at "lw e"
    refine ⟨_, rfl, _, _, _, rfl, ?_, Int.emod_nonneg _ (by decide), Int.emod_lt_of_pos _ (by decide), by decide, by decide⟩
    have h1 : 0 ≤ (if cell < 0 then -cell else cell) := by split <;> omega
    exact Int.mul_nonneg h1 (by split <;> omega)
theorem enum_ints {ns : List Int} : ∀ {i j : Nat} {d : D}, (enumD i (ns.map PyData.int))[j]? = some d → ∃ n, ns[j]? = some n ∧ d = .tuple [.int ((i + j : Nat) : Int), .int n] := by
  intro i j d h
  rw [enumD_get, List.getElem?_map] at h
  cases q : ns[j]? with
  | none => rw [q] at h; cases h
  | some n => rw [q] at h; cases h; exact ⟨n, rfl, rfl⟩
theorem set_ints (ns : List Int) (i : Nat) (n : Int) : (ns.map PyData.int).set i (.int n) = (ns.set i n).map PyData.int := by rw [List.map_set]
/-- a slot that may be written -/
def Fr : Option S → Prop
  | some (.own true _) => False
  | some (.vx _) => False
  | _ => True
theorem tgN_o {i : Nat} {x : D} {ς : En} {o : Option S} (h : ς[i]? = some o) (f : Fr o) : tgN i x ς = some (ς.set i (some (.pure x))) := by
  unfold tgN free
  rw [h]
  rcases o with _ | _ | ⟨_ | _, _⟩ | _
  · rfl
  · rfl
  · rfl
  · exact f.elim
  · exact f.elim
theorem tgsC_o {i : Nat} {x : D} {xs : List D} {u : Tgs} {ς : En} {o : Option S} (h : ς[i]? = some o) (f : Fr o) : tgsC (tgN i) u (x :: xs) ς = u xs (ς.set i (some (.pure x))) := by
  unfold tgsC
  simp only [tgN_o h f]
theorem tgT2_o {i j : Nat} {x y : D} {ς : En} {a b : Option S} (h1 : ς[i]? = some a) (f1 : Fr a) (h2 : (ς.set i (some (.pure x)))[j]? = some b) (f2 : Fr b) : tgT 2 (tgsC (tgN i) (tgsC (tgN j) tgsN)) (.tuple [x, y]) ς = some ((ς.set i (some (.pure x))).set j (some (.pure y))) := by
  show tgsC (tgN i) (tgsC (tgN j) tgsN) [x, y] ς = _
  rw [tgsC_o h1 f1, tgsC_o h2 f2]
  rfl
theorem Sm.asgS {ς : En} {Q : Out → Prop} {f fo fi : M R} (h : wp f ς fun r ς1 => ∃ d ς2, toD r ς1 = some (d, ς2) ∧ wp fo ς2 fun r ς3 => ∃ i, r = .ref i ∧ wp fi ς3 fun r2 ς4 => ∃ j n b ds, rdD r2 ς4 = some (.int j) ∧ ς4[i]? = some (some (.own b ds)) ∧ ixN ds.length j = some n ∧ Q (.nx (ς4.set i (some (.own b (ds.set n d)))))) : wps (Lw.asg f (tgS fo fi)) ς Q := by
  refine Sm.asg (Sm.mono h fun r ς1 h => ?_)
  obtain ⟨d, ς2, e, r2, ς3, e2, i, rfl, r3, ς4, e3, j, n, b, ds, e4, e5, e6, q⟩ := h
  refine ⟨d, ς2, _, e, ?_, q⟩
  have hp : Lw.ptS fi ς3 = some (some j, ς4) := by
    obtain ⟨a, ς', ee, qq⟩ : wp (Lw.ptS fi) ς3 (fun a ς' => a = some j ∧ ς' = ς4) := Sm.ptS ⟨r3, ς4, e3, j, e4, rfl, rfl⟩
    obtain ⟨rfl, rfl⟩ := qq
    exact ee
  unfold tgS
  rw [e2]
  simp only [hp, e5, e6]
namespace Sm
section
variable {ς : En}
instance stp_asgS {ς : En} {Q : Out → Prop} {f fo fi : M R} : Stp (wps (Lw.asg f (tgS fo fi)) ς Q) (wp f ς fun r ς1 => ∃ d ς2, toD r ς1 = some (d, ς2) ∧ wp fo ς2 fun r ς3 => ∃ i, r = .ref i ∧ wp fi ς3 fun r2 ς4 => ∃ j n b ds, rdD r2 ς4 = some (.int j) ∧ ς4[i]? = some (some (.own b ds)) ∧ ixN ds.length j = some n ∧ Q (.nx (ς4.set i (some (.own b (ds.set n d)))))) := ⟨Sm.asgS⟩
end
end Sm
theorem ix_in {n : Nat} {i : Int} (h0 : 0 ≤ i) (h1 : i < n) : ixN n i = some i.toNat := by
  unfold ixN
  rw [if_pos h0, if_pos (by omega)]
local macro_rules | `(tactic| walk_at "lw e") => `(tactic| (repeat (first | (with_reducible refine Stp.go ?_) | (with_reducible apply Exists.intro) | ((with_reducible refine And.intro ?_ ?_); · (first | (with_reducible exact Evl.ev) | ((fail_if_success (with_reducible refine Gd.keep ?_)); rfl) | ((with_reducible apply mul_r); decide) | ((with_reducible apply mul_l); decide) | ((with_reducible apply div_i); decide) | ((with_reducible apply in_R); decide) | (exact Nat.le_of_ble_eq_true rfl) | (simp [refsOf]; done) | (exact ⟨rfl, rfl, by decide⟩) | (exact ⟨rfl, rfl, rfl⟩))) | ((with_reducible apply Sm.vrP); (focus rfl)) | ((with_reducible apply Sm.vrO); (focus rfl)) | (with_reducible refine iteTT ?_) | (with_reducible refine iteT ?_) | (with_reducible refine iteF ?_) | ((with_reducible refine iteB1 ?_ ?_); (focus rfl)) | ((with_reducible refine iteB0 ?_ ?_); (focus rfl)))))
local macro_rules | `(tactic| walk_at "lw n") => `(tactic| (try dsimp only [ent, List.map, Nat.reduceAdd, Nat.reduceSub, List.length_cons, List.length_nil, List.replicate_succ, List.replicate_zero, List.cons_append, List.nil_append, putBack, setOwn, List.getElem?_cons_zero, List.getElem?_cons_succ, List.set_cons_zero, List.set_cons_succ, Sm.nf]))
local macro_rules | `(tactic| walk_at "lw v") => `(tactic| (try simp only [pb1, pb2, pb3, pb4]))
theorem cut_lt {ns : List Int} {s : Nat} (h : 0 < (cutI ns (some (s : Int)) (some 63)).length) (hl : ns.length ≤ 63) : (cutI ns none (some (s : Int))).length = s := by
  unfold cutI at h ⊢
  simp only [List.length_take, List.length_drop] at h ⊢
  have e : ∀ d, HT.sIx ns.length d (some (s : Int)) = min s ns.length := by
    intro d
    unfold HT.sIx
    simp only
    split <;> omega
  rw [e] at h ⊢
  have e0 : HT.sIx ns.length 0 none = 0 := rfl
  rw [e0] at *
  omega
theorem folded_ok {ns : List Int} {s : Nat} (hl : ns.length ≤ 63) (h1 : 1 ≤ s) (h2 : s ≤ 60) : wpf m_l_folded [.pure (ilist ns), .pure (.int s)] (IntsQ s) := by
  refine Sm.run ?_
  unfold g_l_folded
  walk_at "lw e"
  rw [cutD_ints, cutD_ints]
  refine Sm.loopInv (fun _ ς => ∃ cs : List Int, ∃ a b, ς = [some (.pure (ilist ns)), some (.pure (.int s)), some (.own false (cs.map PyData.int)), a, b] ∧ cs.length = (cutI ns none (some (s : Int))).length ∧ Fr a ∧ Fr b) ⟨_, _, _, rfl, rfl, trivial, trivial⟩ ?_ ?_
  · rintro i d ς hd ⟨cs, a, b, rfl, hc, fa, fb⟩
    obtain ⟨n, hn, rfl⟩ := enum_ints hd
    refine ⟨_, tgT2_o rfl fa rfl fb, ?_⟩
    have hi : i < (cutI ns (some (s : Int)) (some 63)).length := by
      obtain ⟨h, -⟩ := List.getElem?_eq_some_iff.1 hn
      exact h
    have hlt : 0 < (cutI ns (some (s : Int)) (some 63)).length := by omega
    have hi63 : i < 63 := by
      unfold cutI at hi
      rw [List.length_take, List.length_drop] at hi
      omega
    have hcs : cs.length = s := hc.trans (cut_lt hlt hl)
    have hm : ((0 + i : Nat) : Int) % (s : Int) < s := Int.emod_lt_of_pos _ (by omega)
    have hm0 : 0 ≤ ((0 + i : Nat) : Int) % (s : Int) := Int.emod_nonneg _ (by omega)
    walk_at "lw e"
    refine ⟨mod_i (by omega), ?_⟩
    walk_at "lw e"
    refine ⟨atI_ints hm0 (by omega), ?_⟩
    walk_at "lw e"
    refine ⟨mul_r (by omega), ?_⟩
    walk_at "lw e"
    refine ⟨mod_i (by omega), ?_⟩
    walk_at "lw e"
    refine ⟨ix_in hm0 (by rw [List.length_map]; omega), ?_⟩
    dsimp only
    rw [set_ints]
    exact ⟨_, _, _, rfl, by rw [List.length_set]; exact hc, trivial, trivial⟩
  · rintro ς ⟨cs, a, b, rfl, hc, fa, fb⟩
    walk_at "lw e"
    refine Sm.oM rfl (Sm.fF ⟨cs, rfl, ?_⟩)
    rw [hc]
    unfold cutI
    rw [List.length_take, HT.sIx_nat]
    omega
end Lw
namespace Lw
open PySem PySem.Spec PyProof.Rows L2
local macro_rules | `(tactic| walk_at "lw e") => `(tactic| (repeat (first | (with_reducible refine Stp.go ?_) | (with_reducible apply Exists.intro) | ((with_reducible refine And.intro ?_ ?_); · (first | (with_reducible exact Evl.ev) | ((fail_if_success (with_reducible refine Gd.keep ?_)); rfl) | ((with_reducible apply mul_r); decide) | ((with_reducible apply mul_l); decide) | ((with_reducible apply div_i); decide) | ((with_reducible apply in_R); decide) | (exact Nat.le_of_ble_eq_true rfl) | (simp [refsOf]; done) | (exact ⟨rfl, rfl, by decide⟩) | (exact ⟨rfl, rfl, rfl⟩))) | ((with_reducible apply Sm.vrP); (focus rfl)) | ((with_reducible apply Sm.vrO); (focus rfl)) | (with_reducible refine iteTT ?_) | (with_reducible refine iteT ?_) | (with_reducible refine iteF ?_) | ((with_reducible refine iteB1 ?_ ?_); (focus rfl)) | ((with_reducible refine iteB0 ?_ ?_); (focus rfl)))))
local macro_rules | `(tactic| walk_at "lw n") => `(tactic| (try dsimp only [ent, List.map, Nat.reduceAdd, Nat.reduceSub, List.length_cons, List.length_nil, List.replicate_succ, List.replicate_zero, List.cons_append, List.nil_append, putBack, setOwn, List.getElem?_cons_zero, List.getElem?_cons_succ, List.set_cons_zero, List.set_cons_succ, Sm.nf]))
local macro_rules | `(tactic| walk_at "lw v") => `(tactic| (try simp only [pb1, pb2, pb3, pb4]))
/-- a leaf whose numbers are at most B -/
def lfb (B : Nat) : D → Bool
  | .none => true
  | .bool _ => true
  | .int i => decide (i.natAbs ≤ B)
  | .str x => PyData.strOk x
  | _ => false
/-- a thing at most e deep, its numbers at most B -/
def fnb (B : Nat) : Nat → D → Bool
  | 0, d => lfb B d
  | e + 1, d => match d with
    | .list xs => xs.all (fnb B e)
    | .tuple xs => xs.all (fnb B e)
    | d => lfb B d
theorem lfb_fnb {B e : Nat} {d : D} (h : lfb B d = true) : fnb B e d = true := by
  cases e with
  | zero => exact h
  | succ e => cases d <;> first | exact h | cases h
theorem lay_all {xs : List D} (h : ∀ x ∈ xs, PyData.canLay0 x = true) : PyData.canLayAll0 xs = true := by
  induction xs with
  | nil => rfl
  | cons x xs ih => rw [PyData.canLayAll0, h x (by simp), ih fun y hy => h y (by simp [hy])]; rfl
theorem show_all {xs : List D} (h : ∀ x ∈ xs, PyData.showable x = true) : PyData.showableAll xs = true := by
  induction xs with
  | nil => rfl
  | cons x xs ih => rw [PyData.showableAll, h x (by simp), ih fun y hy => h y (by simp [hy])]; rfl
theorem short_all {B : Nat} {xs : List D} (h : ∀ x ∈ xs, PyData.leavesShort B x = true) : PyData.leavesShortAll B xs = true := by
  induction xs with
  | nil => rfl
  | cons x xs ih => rw [PyData.leavesShortAll, h x (by simp), ih fun y hy => h y (by simp [hy])]; rfl
theorem depth_all {e : Nat} {xs : List D} (h : ∀ x ∈ xs, PyData.depth x ≤ e) : PyData.depthAll xs ≤ e := by
  induction xs with
  | nil => exact Nat.zero_le _
  | cons x xs ih => rw [PyData.depthAll]; exact Nat.max_le.2 ⟨h x (by simp), ih fun y hy => h y (by simp [hy])⟩
theorem lf_facts {B : Nat} (hB : B < 10 ^ 90) {d : D} (h : lfb B d = true) : d.canLay0 = true ∧ d.showable = true ∧ d.leavesShort 100 = true ∧ d.depth = 0 := by
  cases d with
  | none => exact ⟨rfl, rfl, rfl, rfl⟩
  | bool b => exact ⟨rfl, rfl, rfl, rfl⟩
  | int i =>
    have hi : i.natAbs < 10 ^ 90 := Nat.lt_of_le_of_lt (of_decide_eq_true h) hB
    refine ⟨rfl, decide_eq_true ?_, decide_eq_true ?_, rfl⟩
    · by_cases h0 : i.natAbs = 0
      · rw [h0]; decide
      · exact (Nat.log2_lt h0).2 (Nat.lt_trans hi (by decide +kernel))
    · have := int_text_length_le10 (k := 90) (by decide) hi
      show (Str.ofString (toString i)).length ≤ 100
      rw [PySem.ofString_length]
      omega
  | str x =>
    refine ⟨h, rfl, ?_, rfl⟩
    have h' : PyData.strOk x = true := h
    unfold PyData.strOk at h'
    rw [Array.all_eq_true_iff_forall_mem] at h'
    simp only [PyData.leavesShort, List.all_eq_true, decide_eq_true_eq]
    intro c hc
    have := h' c (by simpa using hc)
    have : c < 0x110000 := of_decide_eq_true this
    omega
  | list xs => cases h
  | tuple xs => cases h
  | dict xs => cases h
theorem fn_facts {B : Nat} (hB : B < 10 ^ 90) : ∀ (e : Nat) (d : D), fnb B e d = true → d.canLay0 = true ∧ d.showable = true ∧ d.leavesShort 100 = true ∧ d.depth ≤ e
  | 0, d, h => by obtain ⟨a, b, c, q⟩ := lf_facts hB h; exact ⟨a, b, c, by omega⟩
  | e + 1, d, h => by
    have key : ∀ xs : List D, xs.all (fnb B e) = true → PyData.canLayAll0 xs = true ∧ PyData.showableAll xs = true ∧ PyData.leavesShortAll 100 xs = true ∧ PyData.depthAll xs ≤ e := fun xs hx => by
      rw [List.all_eq_true] at hx
      exact ⟨lay_all fun x m => (fn_facts hB e x (hx x m)).1, show_all fun x m => (fn_facts hB e x (hx x m)).2.1, short_all fun x m => (fn_facts hB e x (hx x m)).2.2.1, depth_all fun x m => (fn_facts hB e x (hx x m)).2.2.2⟩
    cases d with
    | list xs =>
      obtain ⟨a, b, c, q⟩ := key xs h
      refine ⟨by rw [PyData.canLay0]; exact a, by rw [PyData.showable]; exact b, by rw [PyData.leavesShort]; exact c, by rw [PyData.depth]; omega⟩
    | tuple xs =>
      obtain ⟨a, b, c, q⟩ := key xs h
      refine ⟨by rw [PyData.canLay0]; exact a, by rw [PyData.showable]; exact b, by rw [PyData.leavesShort]; exact c, by rw [PyData.depth]; omega⟩
    | dict xs => cases h
    | none => exact ⟨rfl, rfl, rfl, Nat.zero_le _⟩
    | bool b => exact ⟨rfl, rfl, rfl, Nat.zero_le _⟩
    | int i => obtain ⟨a, b, c, q⟩ := lf_facts hB (d := .int i) h; exact ⟨a, b, c, by omega⟩
    | str i => obtain ⟨a, b, c, q⟩ := lf_facts hB (d := .str i) h; exact ⟨a, b, c, by omega⟩
theorem fn_shaped {B e : Nat} {d : D} (h : fnb B e d = true) (hB : B < 10 ^ 90) (he : e ≤ 64) : SeqAt.shaped d = true := by
  obtain ⟨a, b, c, q⟩ := fn_facts hB e d h
  unfold SeqAt.shaped
  rw [a, Bool.true_and]
  exact decide_eq_true (by omega)
theorem fn_mono {B B' : Nat} (hB : B ≤ B') : ∀ (e e' : Nat) (d : D), e ≤ e' → fnb B e d = true → fnb B' e' d = true := by
  have hl : ∀ d, lfb B d = true → lfb B' d = true := fun d h => by
    cases d <;> first | exact h | (exact decide_eq_true (Nat.le_trans (of_decide_eq_true h) hB))
  intro e
  induction e with
  | zero => intro e' d _ h; exact lfb_fnb (hl d h)
  | succ e ih =>
    intro e' d he h
    obtain ⟨f, rfl⟩ : ∃ f, e' = f + 1 := ⟨e' - 1, by omega⟩
    cases d with
    | list xs =>
      have h' : xs.all (fnb B e) = true := h
      show xs.all (fnb B' f) = true
      rw [List.all_eq_true] at h' ⊢
      exact fun x m => ih f x (by omega) (h' x m)
    | tuple xs =>
      have h' : xs.all (fnb B e) = true := h
      show xs.all (fnb B' f) = true
      rw [List.all_eq_true] at h' ⊢
      exact fun x m => ih f x (by omega) (h' x m)
    | none => rfl
    | bool b => rfl
    | int i => exact hl (.int i) h
    | str i => exact hl (.str i) h
    | dict kv => cases h
theorem eqv_str {a b : Str} : PyData.eqv (.str a) (.str b) = decide (a = b) := by
  show (a == b) = decide (a = b)
  by_cases h : a = b <;> simp [h]
theorem eq_ok {x y : D} (hx : SeqAt.shaped x = true) (hy : SeqAt.shaped y = true) : gEq x y = some (.pure (.bool (PyData.eqv x y))) := by
  have h0 : gEq0 x y = some (.pure (.bool (PyData.eqv x y))) := if_pos ⟨hx, hy⟩
  cases x with
  | str a =>
    cases y with
    | str b => rw [eqv_str]; rfl
    | _ => exact h0
  | _ => exact h0
theorem ne_ok {x y : D} (hx : SeqAt.shaped x = true) (hy : SeqAt.shaped y = true) : gNe x y = some (.pure (.bool (!PyData.eqv x y))) := by
  have h0 : gNe0 x y = some (.pure (.bool (!PyData.eqv x y))) := if_pos ⟨hx, hy⟩
  cases x with
  | str a =>
    cases y with
    | str b => rw [eqv_str]; rfl
    | _ => exact h0
  | _ => exact h0
end Lw
namespace Lw
open PySem PySem.Spec PyProof.Rows L2
local macro_rules | `(tactic| walk_at "lw e") => `(tactic| (repeat (first | (with_reducible refine Stp.go ?_) | (with_reducible apply Exists.intro) | ((with_reducible refine And.intro ?_ ?_); · (first | (with_reducible exact Evl.ev) | ((fail_if_success (with_reducible refine Gd.keep ?_)); rfl) | ((with_reducible apply mul_r); decide) | ((with_reducible apply mul_l); decide) | ((with_reducible apply div_i); decide) | ((with_reducible apply in_R); decide) | (exact Nat.le_of_ble_eq_true rfl) | (simp [refsOf]; done) | (exact ⟨rfl, rfl, by decide⟩) | (exact ⟨rfl, rfl, rfl⟩))) | ((with_reducible apply Sm.vrP); (focus rfl)) | ((with_reducible apply Sm.vrO); (focus rfl)) | (with_reducible refine iteTT ?_) | (with_reducible refine iteT ?_) | (with_reducible refine iteF ?_) | ((with_reducible refine iteB1 ?_ ?_); (focus rfl)) | ((with_reducible refine iteB0 ?_ ?_); (focus rfl)))))
local macro_rules | `(tactic| walk_at "lw n") => `(tactic| (try dsimp only [ent, List.map, Nat.reduceAdd, Nat.reduceSub, List.length_cons, List.length_nil, List.replicate_succ, List.replicate_zero, List.cons_append, List.nil_append, putBack, setOwn, List.getElem?_cons_zero, List.getElem?_cons_succ, List.set_cons_zero, List.set_cons_succ, Sm.nf]))
local macro_rules | `(tactic| walk_at "lw v") => `(tactic| (try simp only [pb1, pb2, pb3, pb4]))
theorem at_list {xs : List D} {i : Int} (h0 : 0 ≤ i) (h1 : i < xs.length) : gIx (.list xs) (.int i) = some (.pure (xs.getD i.toNat .none)) := by
  have hl : i.toNat < xs.length := by omega
  have : atI xs i = some (xs.getD i.toNat .none) := by
    unfold atI ixN
    simp only [h0, if_true]
    rw [if_pos (by omega)]
    simp [hl]
  show (atI xs i).map R.pure = _
  rw [this]; rfl
theorem at_tup {xs : List D} {i : Int} (h0 : 0 ≤ i) (h1 : i < xs.length) : gIx (.tuple xs) (.int i) = some (.pure (xs.getD i.toNat .none)) := at_list h0 h1
/-- something was drawn: P holds of it -/
def DrawQ (c : Nat) (P : D → Prop) (rest : List S) (r : R) (outs : List S) : Prop := ∃ d ds', r = .pure d ∧ P d ∧ Box c ds' ∧ outs = .own true ds' :: rest
theorem rng_at {n i : Nat} {d : D} (h : (rngD 0 n)[i]? = some d) : i < n ∧ d = .int i := by
  have hl : i < n := by
    obtain ⟨h1, -⟩ := List.getElem?_eq_some_iff.1 h
    rw [rngD_len] at h1
    exact h1
  rw [rngD_get n 0 i hl] at h
  cases h
  exact ⟨hl, by rw [Int.zero_add]⟩
theorem in_R {i : Int} (h : -1000 ≤ i ∧ i ≤ 100000) : inR i = true := by
  unfold inR
  rw [Bool.and_eq_true]
  exact ⟨decide_eq_true (by omega), decide_eq_true (by omega)⟩
theorem app_ok {ds : List D} {d : D} (h : ds.length < 10000) : hApp ds [d] = some (.none, ds ++ [d]) := by
  unfold hApp
  have hs : sizeLine = 16777216 := rfl
  exact if_pos (by omega)
end Lw
namespace Lw
open PySem PySem.Spec PyProof.Rows L2
local macro_rules | `(tactic| walk_at "lw e") => `(tactic| (repeat (first | (with_reducible refine Stp.go ?_) | (with_reducible apply Exists.intro) | ((with_reducible refine And.intro ?_ ?_); · (first | (with_reducible exact Evl.ev) | ((fail_if_success (with_reducible refine Gd.keep ?_)); rfl) | ((with_reducible apply mul_r); decide) | ((with_reducible apply mul_l); decide) | ((with_reducible apply div_i); decide) | ((with_reducible apply in_R); decide) | (exact Nat.le_of_ble_eq_true rfl) | (simp [refsOf]; done) | (exact ⟨rfl, rfl, by decide⟩) | (exact ⟨rfl, rfl, rfl⟩))) | ((with_reducible apply Sm.vrP); (focus rfl)) | ((with_reducible apply Sm.vrO); (focus rfl)) | (with_reducible refine iteTT ?_) | (with_reducible refine iteT ?_) | (with_reducible refine iteF ?_) | ((with_reducible refine iteB1 ?_ ?_); (focus rfl)) | ((with_reducible refine iteB0 ?_ ?_); (focus rfl)))))
local macro_rules | `(tactic| walk_at "lw n") => `(tactic| (try dsimp only [ent, List.map, Nat.reduceAdd, Nat.reduceSub, List.length_cons, List.length_nil, List.replicate_succ, List.replicate_zero, List.cons_append, List.nil_append, putBack, setOwn, List.getElem?_cons_zero, List.getElem?_cons_succ, List.set_cons_zero, List.set_cons_succ, Sm.nf]))
local macro_rules | `(tactic| walk_at "lw v") => `(tactic| (try simp only [pb1, pb2, pb3, pb4]))
def DeedP (n g : Nat) (d : D) : Prop := ∃ a m : Int, 1 ≤ a ∧ a ≤ n ∧ 1 ≤ m ∧ m ≤ 9 * g ∧ (d = .tuple [.str "fill", .int a] ∨ d = .tuple [.str "empty", .int a] ∨ d = .tuple [.str "raise", .int a, .int m] ∨ d = .tuple [.str "lower", .int a, .int m])
def ValQ (P : D → Prop) (r : R) (_ : List S) : Prop := ∃ d, r = .pure d ∧ P d
abbrev TrueQ : R → List S → Prop := ValQ fun d => d = .bool true
theorem iteB1 {b : Bool} {A B : Prop} (e : b = true) (h : A) : if b = true then A else B := by rw [if_pos e]; exact h
theorem iteB0 {b : Bool} {A B : Prop} (e : b = false) (h : B) : if b = true then A else B := by rw [if_neg (by rw [e]; decide)]; exact h
def lcQ (vs : List Nat) (tg : Tg) (tt : M Bool) (fe : M R) (ds : List D) (ς : En) (Q : List D → En → Prop) : Prop := ∃ acc ς2, lcLoop vs tg tt fe ds [] ς = some (acc, ς2) ∧ Q acc ς2
theorem Sm.lcE2 {ς : En} {fi : M (List D)} {vs : List Nat} {tg : Tg} {tt : M Bool} {fe : M R} {Q : R → En → Prop}
    (h : wp fi ς fun ds ς1 => freeAll ς1 vs = true ∧ lcQ vs tg tt fe ds (wipeE ς1 vs) fun acc ς2 => Q (.fresh acc) ς2) : wp (Lw.lcE fi vs tg tt fe) ς Q := Sm.lcE h
namespace Sm
section
variable {ς : En}
instance stp_lcE2 {ς : En} {fi : M (List D)} {vs : List Nat} {tg : Tg} {tt : M Bool} {fe : M R} {Q : R → En → Prop} : Stp (wp (Lw.lcE fi vs tg tt fe) ς Q) (wp fi ς fun ds ς1 => freeAll ς1 vs = true ∧ lcQ vs tg tt fe ds (wipeE ς1 vs) fun acc ς2 => Q (.fresh acc) ς2) := ⟨Sm.lcE2⟩
end
end Sm
theorem Sm.lcPure {ς : En} {vs : List Nat} {tg : Tg} {fe : M R} {ds : List D} {Q : List D → En → Prop} (f : D → D) (hlen : ds.length ≤ sizeLine)
    (hs : ∀ d ∈ ds, ∃ ς1, tg d ς = some ς1 ∧ wp fe ς1 fun r ς2 => ∃ ς3, toD r ς2 = some (f d, ς3) ∧ freeAll ς3 vs = true ∧ wipeE ς3 vs = ς)
    (hd : Q (ds.map f) ς) : lcQ vs tg (Lw.ret true) fe ds ς Q := by
  refine Sm.lcInv (fun i acc ς' => acc = (ds.take i).map f ∧ ς' = ς) ⟨by simp, rfl⟩ hlen ?_ ?_
  · rintro i d acc ς' hi _ ⟨rfl, rfl⟩
    obtain ⟨ς1, e1, h⟩ := hs d (List.mem_of_getElem? hi)
    refine ⟨ς1, e1, Sm.mono h fun r ς2 h => ?_⟩
    obtain ⟨ς3, e3, hf, hw⟩ := h
    refine ⟨_, ς3, e3, hf, ?_, hw⟩
    rw [List.take_add_one, hi]
    simp
  · rintro acc ς' _ ⟨rfl, rfl⟩
    rw [List.take_length]
    exact hd
local macro_rules | `(tactic| walk_at "lw e") => `(tactic| (repeat (first | (with_reducible refine Stp.go ?_) | (with_reducible apply Exists.intro) | ((with_reducible refine And.intro ?_ ?_); · (first | (with_reducible exact Evl.ev) | ((fail_if_success (with_reducible refine Gd.keep ?_)); rfl) | ((with_reducible apply mul_r); decide) | ((with_reducible apply mul_l); decide) | ((with_reducible apply div_i); decide) | ((with_reducible apply in_R); decide) | (exact Nat.le_of_ble_eq_true rfl) | (simp [refsOf]; done) | (exact ⟨rfl, rfl, by decide⟩) | (exact ⟨rfl, rfl, rfl⟩))) | ((with_reducible apply Sm.vrP); (focus rfl)) | ((with_reducible apply Sm.vrO); (focus rfl)) | (with_reducible refine iteTT ?_) | (with_reducible refine iteT ?_) | (with_reducible refine iteF ?_) | ((with_reducible refine iteB1 ?_ ?_); (focus rfl)) | ((with_reducible refine iteB0 ?_ ?_); (focus rfl)))))
local macro_rules | `(tactic| walk_at "lw n") => `(tactic| (try dsimp only [ent, List.map, Nat.reduceAdd, Nat.reduceSub, List.length_cons, List.length_nil, List.replicate_succ, List.replicate_zero, List.cons_append, List.nil_append, putBack, setOwn, List.getElem?_cons_zero, List.getElem?_cons_succ, List.set_cons_zero, List.set_cons_succ, Sm.nf]))
local macro_rules | `(tactic| walk_at "lw v") => `(tactic| (try simp only [pb1, pb2, pb3, pb4]))
theorem bools_mk : ∀ bs : List Bool, bools (bs.map PyData.bool) = some bs
  | [] => rfl
  | b :: bs => by rw [List.map_cons, bools, bools_mk bs]
theorem all_mk {xs : List D} {p : D → Bool} : gAll (.list (xs.map fun x => .bool (p x))) = some (.pure (.bool (xs.all p))) := by
  unfold gAll
  have : xs.map (fun x => PyData.bool (p x)) = (xs.map p).map PyData.bool := by rw [List.map_map]; rfl
  rw [this]
  simp only [bools_mk]
  rw [List.all_map]; rfl
theorem eqv_int {a b : Int} : PyData.eqv (.int a) (.int b) = decide (a = b) := by
  show (a == b) = decide (a = b)
  by_cases h : a = b <;> simp [h]
theorem w_len (xs : List D) : xs.length ≤ PyData.weightAll xs := by
  induction xs with
  | nil => exact Nat.zero_le _
  | cons x xs ih => rw [PyData.weightAll, List.length_cons]; omega
theorem w_mem {xs : List D} {x : D} (h : x ∈ xs) : x.weight ≤ PyData.weightAll xs := by
  induction xs with
  | nil => cases h
  | cons y xs ih =>
    rw [PyData.weightAll]
    rcases List.mem_cons.1 h with rfl | h
    · omega
    · have := ih h; omega
theorem zip_self {xs : List D} {d : D} (h : d ∈ zipD xs xs) : ∃ a, a ∈ xs ∧ d = .tuple [a, a] := by
  obtain ⟨i, hi⟩ := List.mem_iff_getElem?.1 h
  obtain ⟨a, b, h1, h2, rfl⟩ := zipD_get xs xs i d hi
  rw [h1] at h2
  cases h2
  exact ⟨a, List.mem_of_getElem? h1, rfl⟩
theorem pb0 {o : List S} {ς : En} : putBack [] o ς = ς := by cases o <;> rfl
theorem pbv {a : D} {as : List Ar} {o : List S} {ς : En} (h : ∀ o, putBack as o ς = ς) : putBack (.val a :: as) o ς = ς := by
  cases o with
  | nil => rfl
  | cons s o => exact h o
theorem pb1 {a : D} {o : List S} {ς : En} : putBack [.val a] o ς = ς := pbv fun _ => pb0
theorem pb2 {a b : D} {o : List S} {ς : En} : putBack [.val a, .val b] o ς = ς := pbv fun _ => pb1
theorem pb3 {a b c : D} {o : List S} {ς : En} : putBack [.val a, .val b, .val c] o ς = ς := pbv fun _ => pb2
theorem pb4 {a b c d : D} {o : List S} {ς : En} : putBack [.val a, .val b, .val c, .val d] o ς = ς := pbv fun _ => pb3
local macro_rules | `(tactic| walk_at "lw e") => `(tactic| (repeat (first | (with_reducible refine Stp.go ?_) | (with_reducible apply Exists.intro) | ((with_reducible refine And.intro ?_ ?_); · (first | (with_reducible exact Evl.ev) | ((fail_if_success (with_reducible refine Gd.keep ?_)); rfl) | ((with_reducible apply mul_r); decide) | ((with_reducible apply mul_l); decide) | ((with_reducible apply div_i); decide) | ((with_reducible apply in_R); decide) | (exact Nat.le_of_ble_eq_true rfl) | (simp [refsOf]; done) | (exact ⟨rfl, rfl, by decide⟩) | (exact ⟨rfl, rfl, rfl⟩))) | ((with_reducible apply Sm.vrP); (focus rfl)) | ((with_reducible apply Sm.vrO); (focus rfl)) | (with_reducible refine iteTT ?_) | (with_reducible refine iteT ?_) | (with_reducible refine iteF ?_) | ((with_reducible refine iteB1 ?_ ?_); (focus rfl)) | ((with_reducible refine iteB0 ?_ ?_); (focus rfl)))))
local macro_rules | `(tactic| walk_at "lw n") => `(tactic| (try dsimp only [ent, List.map, Nat.reduceAdd, Nat.reduceSub, List.length_cons, List.length_nil, List.replicate_succ, List.replicate_zero, List.cons_append, List.nil_append, putBack, setOwn, List.getElem?_cons_zero, List.getElem?_cons_succ, List.set_cons_zero, List.set_cons_succ, Sm.nf]))
local macro_rules | `(tactic| walk_at "lw v") => `(tactic| (try simp only [pb1, pb2, pb3, pb4]))
theorem same_ok {B : Nat} (hB : B < 10 ^ 90) : ∀ (e n : Nat) (d : D), fnb B e d = true → e < n → e ≤ 64 → d.weight ≤ 160000 → wpf (m_l_same n) [.pure d, .pure d] TrueQ := by
  intro e
  induction e with
  | zero =>
    intro n d h hn he hw
    obtain ⟨m, rfl⟩ : ∃ m, n = m + 1 := ⟨n - 1, by omega⟩
    have hs := fn_shaped h hB he
    show wpf (runFn (g_l_same (m_l_same m)) 4) _ _
    refine Sm.run ?_
    unfold g_l_same
    have hr : PyData.eqv d d = true := SeqAt.eqv_refl d (fn_facts hB 0 d h).1
    cases d with
    | none => walk_at "lw e"; exact ⟨_, rfl, rfl⟩
    | bool b => walk_at "lw e"; exact ⟨_, rfl, by rw [hr]⟩
    | int i => walk_at "lw e"; exact ⟨_, rfl, by rw [hr]⟩
    | str x =>
      walk_at "lw e"
      refine iteB1 (decide_eq_true rfl) ?_
      walk_at "lw e"
      exact ⟨_, rfl, rfl⟩
    | list xs => cases h
    | tuple xs => cases h
    | dict xs => cases h
  | succ e ih =>
    intro n d h hn he hw
    obtain ⟨m, rfl⟩ : ∃ m, n = m + 1 := ⟨n - 1, by omega⟩
    have hs := fn_shaped h hB he
    show wpf (runFn (g_l_same (m_l_same m)) 4) _ _
    refine Sm.run ?_
    unfold g_l_same
    have hr : PyData.eqv d d = true := SeqAt.eqv_refl d (fn_facts hB (e + 1) d h).1
    cases d with
    | none => walk_at "lw e"; exact ⟨_, rfl, rfl⟩
    | bool b => walk_at "lw e"; exact ⟨_, rfl, by rw [hr]⟩
    | int i => walk_at "lw e"; exact ⟨_, rfl, by rw [hr]⟩
    | str x =>
      walk_at "lw e"
      refine iteB1 (decide_eq_true rfl) ?_
      walk_at "lw e"
      exact ⟨_, rfl, rfl⟩
    | list xs =>
      have hw' : PyData.weightAll xs ≤ 160000 := hw
      have hl := w_len xs
      have hsl : sizeLine = 16777216 := rfl
      have hx : ∀ x ∈ xs, fnb B e x = true := List.all_eq_true.1 h
      walk_at "lw e"
      refine iteB1 (by rw [eqv_int]; exact decide_eq_true rfl) ?_
      walk_at "lw e"
      refine ⟨.inl ⟨rfl, rfl⟩, ?_⟩
      walk_at "lw e"
      refine Sm.lcPure (ds := zipD xs xs) (fun _ => .bool true) (by rw [zipD_len]; omega) ?_ ?_
      · intro d hd
        obtain ⟨a, ha, rfl⟩ := zip_self hd
        refine ⟨_, tgT2_o rfl trivial rfl trivial, ?_⟩
        walk_at "lw e"
        have := w_mem ha
        refine Sm.fmono (ih m a (hx a ha) (by omega) (by omega) (by omega)) fun r o h => ?_
        obtain ⟨d, rfl, rfl⟩ := h
        refine ⟨nref, ?_⟩
        walk_at "lw v"
        walk_at "lw e"
        rfl
      · refine ⟨_, _, rfl, all_mk (p := fun _ => true), ?_⟩
        walk_at "lw e"
        refine ⟨_, rfl, ?_⟩
        rw [List.all_eq_true.2 (fun _ _ => rfl)]
    | tuple xs =>
      have hw' : PyData.weightAll xs ≤ 160000 := hw
      have hl := w_len xs
      have hsl : sizeLine = 16777216 := rfl
      have hx : ∀ x ∈ xs, fnb B e x = true := List.all_eq_true.1 h
      walk_at "lw e"
      refine iteB1 (by rw [eqv_int]; exact decide_eq_true rfl) ?_
      walk_at "lw e"
      refine ⟨.inr ⟨rfl, rfl⟩, ?_⟩
      walk_at "lw e"
      refine Sm.lcPure (ds := zipD xs xs) (fun _ => .bool true) (by rw [zipD_len]; omega) ?_ ?_
      · intro d hd
        obtain ⟨a, ha, rfl⟩ := zip_self hd
        refine ⟨_, tgT2_o rfl trivial rfl trivial, ?_⟩
        walk_at "lw e"
        have := w_mem ha
        refine Sm.fmono (ih m a (hx a ha) (by omega) (by omega) (by omega)) fun r o h => ?_
        obtain ⟨d, rfl, rfl⟩ := h
        refine ⟨nref, ?_⟩
        walk_at "lw v"
        walk_at "lw e"
        rfl
      · refine ⟨_, _, rfl, all_mk (p := fun _ => true), ?_⟩
        walk_at "lw e"
        refine ⟨_, rfl, ?_⟩
        rw [List.all_eq_true.2 (fun _ _ => rfl)]
    | dict xs => cases h
end Lw
namespace Lw
open PySem PySem.Spec PyProof.Rows L2
local macro_rules | `(tactic| walk_at "lw e") => `(tactic| (repeat (first | (with_reducible refine Stp.go ?_) | (with_reducible apply Exists.intro) | ((with_reducible refine And.intro ?_ ?_); · (first | (with_reducible exact Evl.ev) | ((fail_if_success (with_reducible refine Gd.keep ?_)); rfl) | ((with_reducible apply mul_r); decide) | ((with_reducible apply mul_l); decide) | ((with_reducible apply div_i); decide) | ((with_reducible apply in_R); decide) | (exact Nat.le_of_ble_eq_true rfl) | (simp [refsOf]; done) | (exact ⟨rfl, rfl, by decide⟩) | (exact ⟨rfl, rfl, rfl⟩))) | ((with_reducible apply Sm.vrP); (focus rfl)) | ((with_reducible apply Sm.vrO); (focus rfl)) | (with_reducible refine iteTT ?_) | (with_reducible refine iteT ?_) | (with_reducible refine iteF ?_) | ((with_reducible refine iteB1 ?_ ?_); (focus rfl)) | ((with_reducible refine iteB0 ?_ ?_); (focus rfl)))))
local macro_rules | `(tactic| walk_at "lw n") => `(tactic| (try dsimp only [ent, List.map, Nat.reduceAdd, Nat.reduceSub, List.length_cons, List.length_nil, List.replicate_succ, List.replicate_zero, List.cons_append, List.nil_append, putBack, setOwn, List.getElem?_cons_zero, List.getElem?_cons_succ, List.set_cons_zero, List.set_cons_succ, Sm.nf]))
local macro_rules | `(tactic| walk_at "lw v") => `(tactic| (try simp only [pb1, pb2, pb3, pb4]))
theorem strOk_str (s : String) : PyData.strOk (Str.ofString s) = true := by
  rw [PySem.Str.ofString_eq_toList]
  unfold PyData.strOk
  simp only [List.all_toArray, List.all_map, List.all_eq_true, Function.comp]
  intro c _
  exact decide_eq_true (by
    have := c.valid
    rcases this with h | h
    · exact Nat.lt_trans h (by decide)
    · exact h.2)
end Lw
namespace Lw
open PySem PySem.Spec PyProof.Rows L2
local macro_rules | `(tactic| walk_at "lw e") => `(tactic| (repeat (first | (with_reducible refine Stp.go ?_) | (with_reducible apply Exists.intro) | ((with_reducible refine And.intro ?_ ?_); · (first | (with_reducible exact Evl.ev) | ((fail_if_success (with_reducible refine Gd.keep ?_)); rfl) | ((with_reducible apply mul_r); decide) | ((with_reducible apply mul_l); decide) | ((with_reducible apply div_i); decide) | ((with_reducible apply in_R); decide) | (exact Nat.le_of_ble_eq_true rfl) | (simp [refsOf]; done) | (exact ⟨rfl, rfl, by decide⟩) | (exact ⟨rfl, rfl, rfl⟩))) | ((with_reducible apply Sm.vrP); (focus rfl)) | ((with_reducible apply Sm.vrO); (focus rfl)) | (with_reducible refine iteTT ?_) | (with_reducible refine iteT ?_) | (with_reducible refine iteF ?_) | ((with_reducible refine iteB1 ?_ ?_); (focus rfl)) | ((with_reducible refine iteB0 ?_ ?_); (focus rfl)))))
local macro_rules | `(tactic| walk_at "lw n") => `(tactic| (try dsimp only [ent, List.map, Nat.reduceAdd, Nat.reduceSub, List.length_cons, List.length_nil, List.replicate_succ, List.replicate_zero, List.cons_append, List.nil_append, putBack, setOwn, List.getElem?_cons_zero, List.getElem?_cons_succ, List.set_cons_zero, List.set_cons_succ, Sm.nf]))
local macro_rules | `(tactic| walk_at "lw v") => `(tactic| (try simp only [pb1, pb2, pb3, pb4]))
theorem tix0 {w : D} {r : List D} : gIx (.tuple (w :: r)) (.int 0) = some (.pure w) := at_tup (xs := w :: r) (by decide) (by rw [List.length_cons]; omega)
theorem tix1 {w y : D} {r : List D} : gIx (.tuple (w :: y :: r)) (.int 1) = some (.pure y) := at_tup (xs := w :: y :: r) (by decide) (by rw [List.length_cons, List.length_cons]; omega)
theorem tix2 {w y z : D} {r : List D} : gIx (.tuple (w :: y :: z :: r)) (.int 2) = some (.pure z) := at_tup (xs := w :: y :: z :: r) (by decide) (by rw [List.length_cons, List.length_cons, List.length_cons]; omega)
instance {w : D} {r : List D} : Evl (gIx (.tuple (w :: r)) (.int 0)) (.pure w) := ⟨tix0⟩
instance {w y : D} {r : List D} : Evl (gIx (.tuple (w :: y :: r)) (.int 1)) (.pure y) := ⟨tix1⟩
instance {w y z : D} {r : List D} : Evl (gIx (.tuple (w :: y :: z :: r)) (.int 2)) (.pure z) := ⟨tix2⟩
local macro_rules | `(tactic| walk_at "lw e") => `(tactic| (repeat (first | (with_reducible refine Stp.go ?_) | (with_reducible apply Exists.intro) | ((with_reducible refine And.intro ?_ ?_); · (first | (with_reducible exact Evl.ev) | ((fail_if_success (with_reducible refine Gd.keep ?_)); rfl) | ((with_reducible apply mul_r); decide) | ((with_reducible apply mul_l); decide) | ((with_reducible apply div_i); decide) | ((with_reducible apply in_R); decide) | (exact Nat.le_of_ble_eq_true rfl) | (simp [refsOf]; done) | (exact ⟨rfl, rfl, by decide⟩) | (exact ⟨rfl, rfl, rfl⟩))) | ((with_reducible apply Sm.vrP); (focus rfl)) | ((with_reducible apply Sm.vrO); (focus rfl)) | (with_reducible refine iteTT ?_) | (with_reducible refine iteT ?_) | (with_reducible refine iteF ?_) | ((with_reducible refine iteB1 ?_ ?_); (focus rfl)) | ((with_reducible refine iteB0 ?_ ?_); (focus rfl)))))
local macro_rules | `(tactic| walk_at "lw n") => `(tactic| (try dsimp only [ent, List.map, Nat.reduceAdd, Nat.reduceSub, List.length_cons, List.length_nil, List.replicate_succ, List.replicate_zero, List.cons_append, List.nil_append, putBack, setOwn, List.getElem?_cons_zero, List.getElem?_cons_succ, List.set_cons_zero, List.set_cons_succ, Sm.nf]))
local macro_rules | `(tactic| walk_at "lw v") => `(tactic| (try simp only [pb1, pb2, pb3, pb4]))
theorem shaped_ints (cs : List Int) : SeqAt.shaped (ilist cs) = true := by
  unfold SeqAt.shaped
  rw [Bool.and_eq_true]
  refine ⟨lay_all fun x h => ?_, decide_eq_true ?_⟩
  · obtain ⟨i, -, rfl⟩ := List.mem_map.1 h
    rfl
  · show PyData.depthAll _ + 1 ≤ 64
    have := depth_all (e := 0) (xs := cs.map PyData.int) fun x h => by
      obtain ⟨i, -, rfl⟩ := List.mem_map.1 h
      exact Nat.le_refl _
    omega
theorem eqv_nil (cs : List Int) : PyData.eqv (ilist cs) (.list []) = cs.isEmpty := by
  cases cs <;> rfl
def CellsQ (n : Nat) (r : R) (_ : List S) : Prop := ∃ cs : List Int, (r = .pure (ilist cs) ∨ r = .fresh (cs.map PyData.int)) ∧ cs.length ≤ n
theorem cells_ok {ns : List Int} {s : Nat} (hl : ns.length ≤ 63) (h1 : 1 ≤ s) (h2 : s ≤ 60) : wpf m_l_cells [.pure (ilist ns), .pure (.int s)] (CellsQ s) := by
  refine Sm.run ?_
  unfold g_l_cells
  walk_at "lw n"
  walk_at "lw e"
  refine Sm.fmono (folded_ok hl h1 h2) fun r o h => ?_
  obtain ⟨cs, rfl, hc⟩ := h
  refine ⟨nfr, ?_⟩
  walk_at "lw v"
  walk_at "lw e"
  refine ⟨ne_ok (shaped_ints cs) rfl, ?_⟩
  walk_at "lw e"
  by_cases h : cs.isEmpty = true
  · refine iteB0 (by rw [eqv_nil, h]; rfl) ?_
    walk_at "lw e"
    exact ⟨[0], .inr rfl, h1⟩
  · refine iteB1 (by rw [eqv_nil]; simpa using h) ?_
    walk_at "lw e"
    exact ⟨cs, .inl rfl, hc⟩
theorem wpf_law {m : Fsem} {ss : List S} (h : wpf m ss TrueQ) : ∃ outs, m ss = some (.pure (.bool true), outs) := by
  obtain ⟨r, o, e, d, rfl, rfl⟩ := h
  exact ⟨o, e⟩
end Lw
namespace Lw
open PySem PySem.Spec PyProof.Rows L2
local macro_rules | `(tactic| walk_at "lw e") => `(tactic| (repeat (first | (with_reducible refine Stp.go ?_) | (with_reducible apply Exists.intro) | ((with_reducible refine And.intro ?_ ?_); · (first | (with_reducible exact Evl.ev) | ((fail_if_success (with_reducible refine Gd.keep ?_)); rfl) | ((with_reducible apply mul_r); decide) | ((with_reducible apply mul_l); decide) | ((with_reducible apply div_i); decide) | ((with_reducible apply in_R); decide) | (exact Nat.le_of_ble_eq_true rfl) | (simp [refsOf]; done) | (exact ⟨rfl, rfl, by decide⟩) | (exact ⟨rfl, rfl, rfl⟩))) | ((with_reducible apply Sm.vrP); (focus rfl)) | ((with_reducible apply Sm.vrO); (focus rfl)) | (with_reducible refine iteTT ?_) | (with_reducible refine iteT ?_) | (with_reducible refine iteF ?_) | ((with_reducible refine iteB1 ?_ ?_); (focus rfl)) | ((with_reducible refine iteB0 ?_ ?_); (focus rfl)))))
local macro_rules | `(tactic| walk_at "lw n") => `(tactic| (try dsimp only [ent, List.map, Nat.reduceAdd, Nat.reduceSub, List.length_cons, List.length_nil, List.replicate_succ, List.replicate_zero, List.cons_append, List.nil_append, putBack, setOwn, List.getElem?_cons_zero, List.getElem?_cons_succ, List.set_cons_zero, List.set_cons_succ, Sm.nf]))
local macro_rules | `(tactic| walk_at "lw v") => `(tactic| (try simp only [pb1, pb2, pb3, pb4]))
theorem iteTT {A B : Prop} (h : A) : if True then A else B := by rw [if_pos trivial]; exact h
local macro_rules | `(tactic| walk_at "lw e") => `(tactic| (repeat (first | (with_reducible refine Stp.go ?_) | (with_reducible apply Exists.intro) | ((with_reducible refine And.intro ?_ ?_); · (first | (with_reducible exact Evl.ev) | ((fail_if_success (with_reducible refine Gd.keep ?_)); rfl) | ((with_reducible apply mul_r); decide) | ((with_reducible apply mul_l); decide) | ((with_reducible apply div_i); decide) | ((with_reducible apply in_R); decide) | (exact Nat.le_of_ble_eq_true rfl) | (simp [refsOf]; done) | (exact ⟨rfl, rfl, by decide⟩) | (exact ⟨rfl, rfl, rfl⟩))) | ((with_reducible apply Sm.vrP); (focus rfl)) | ((with_reducible apply Sm.vrO); (focus rfl)) | (with_reducible refine iteTT ?_) | (with_reducible refine iteT ?_) | (with_reducible refine iteF ?_) | ((with_reducible refine iteB1 ?_ ?_); (focus rfl)) | ((with_reducible refine iteB0 ?_ ?_); (focus rfl)))))
local macro_rules | `(tactic| walk_at "lw n") => `(tactic| (try dsimp only [ent, List.map, Nat.reduceAdd, Nat.reduceSub, List.length_cons, List.length_nil, List.replicate_succ, List.replicate_zero, List.cons_append, List.nil_append, putBack, setOwn, List.getElem?_cons_zero, List.getElem?_cons_succ, List.set_cons_zero, List.set_cons_succ, Sm.nf]))
local macro_rules | `(tactic| walk_at "lw v") => `(tactic| (try simp only [pb1, pb2, pb3, pb4]))
theorem w_intk {k : Nat} {i : Int} (h : i.natAbs < 2 ^ k) : (PyData.int i).weight ≤ k := by
  show (if i == 0 then 0 else i.natAbs.log2 + 1) ≤ k
  split
  · omega
  · rename_i h0
    have h0 : i.natAbs ≠ 0 := by
      intro z
      exact h0 (by simp [Int.natAbs_eq_zero.1 z])
    have := (Nat.log2_lt (k := k) h0).2 h
    omega
def DatQ (P : D → Prop) (r : R) (_ : List S) : Prop := ∃ d, (r = .pure d ∨ ∃ xs, r = .fresh xs ∧ d = .list xs) ∧ P d
theorem DatQ.ref {P : D → Prop} {r : R} {o : List S} (h : DatQ P r o) : ∀ i, r ≠ .ref i := by
  obtain ⟨d, rfl | ⟨xs, rfl, rfl⟩, -⟩ := h <;> (intro i z; cases z)
end Lw
namespace Lw
open PySem PySem.Spec PyProof.Rows L2
local macro_rules | `(tactic| walk_at "lw e") => `(tactic| (repeat (first | (with_reducible refine Stp.go ?_) | (with_reducible apply Exists.intro) | ((with_reducible refine And.intro ?_ ?_); · (first | (with_reducible exact Evl.ev) | ((fail_if_success (with_reducible refine Gd.keep ?_)); rfl) | ((with_reducible apply mul_r); decide) | ((with_reducible apply mul_l); decide) | ((with_reducible apply div_i); decide) | ((with_reducible apply in_R); decide) | (exact Nat.le_of_ble_eq_true rfl) | (simp [refsOf]; done) | (exact ⟨rfl, rfl, by decide⟩) | (exact ⟨rfl, rfl, rfl⟩) | ((with_reducible apply tgN_o); (focus rfl); (focus (first | assumption | trivial))))) | ((with_reducible apply Sm.vrP); (focus rfl)) | ((with_reducible apply Sm.vrO); (focus rfl)) | ((with_reducible apply Sm.augI); (focus rfl)) | ((with_reducible refine Sm.dicE ?_ ?_); (focus decide)) | (with_reducible refine iteTT ?_) | (with_reducible refine iteT ?_) | (with_reducible refine iteF ?_) | ((with_reducible refine iteB1 ?_ ?_); (focus rfl)) | ((with_reducible refine iteB0 ?_ ?_); (focus rfl)))))
local macro_rules | `(tactic| walk_at "lw n") => `(tactic| (try dsimp only [ent, List.map, Nat.reduceAdd, Nat.reduceSub, List.length_cons, List.length_nil, List.replicate_succ, List.replicate_zero, List.cons_append, List.nil_append, putBack, setOwn, List.getElem?_cons_zero, List.getElem?_cons_succ, List.set_cons_zero, List.set_cons_succ, Sm.nf]))
local macro_rules | `(tactic| walk_at "lw v") => `(tactic| (try simp only [pb1, pb2, pb3, pb4]))
end Lw
namespace Lw
open PySem PySem.Spec PyProof.Rows L2
local macro_rules | `(tactic| walk_at "lw e") => `(tactic| (repeat (first | (with_reducible refine Stp.go ?_) | (with_reducible apply Exists.intro) | ((with_reducible refine And.intro ?_ ?_); · (first | (with_reducible exact Evl.ev) | ((fail_if_success (with_reducible refine Gd.keep ?_)); rfl) | ((with_reducible apply mul_r); decide) | ((with_reducible apply mul_l); decide) | ((with_reducible apply div_i); decide) | ((with_reducible apply in_R); decide) | (exact Nat.le_of_ble_eq_true rfl) | (simp [refsOf]; done) | (exact ⟨rfl, rfl, by decide⟩) | (exact ⟨rfl, rfl, rfl⟩) | ((with_reducible apply tgN_o); (focus rfl); (focus (first | assumption | trivial))))) | ((with_reducible apply Sm.vrP); (focus rfl)) | ((with_reducible apply Sm.vrO); (focus rfl)) | ((with_reducible apply Sm.augI); (focus rfl)) | ((with_reducible refine Sm.dicE ?_ ?_); (focus decide)) | (with_reducible refine iteTT ?_) | (with_reducible refine iteT ?_) | (with_reducible refine iteF ?_) | ((with_reducible refine iteB1 ?_ ?_); (focus rfl)) | ((with_reducible refine iteB0 ?_ ?_); (focus rfl)))))
local macro_rules | `(tactic| walk_at "lw n") => `(tactic| (try dsimp only [ent, List.map, Nat.reduceAdd, Nat.reduceSub, List.length_cons, List.length_nil, List.replicate_succ, List.replicate_zero, List.cons_append, List.nil_append, putBack, setOwn, List.getElem?_cons_zero, List.getElem?_cons_succ, List.set_cons_zero, List.set_cons_succ, Sm.nf]))
local macro_rules | `(tactic| walk_at "lw v") => `(tactic| (try simp only [pb1, pb2, pb3, pb4]))
/-! ### tuples of numbers -/
def it (ns : List Int) : D := .tuple (ns.map PyData.int)
def il (ns : List Int) : D := .list (ns.map PyData.int)
/-- a list or tuple of these numbers -/
def Seq (t : D) (ns : List Int) : Prop := t = il ns ∨ t = it ns
theorem Seq.items {t : D} {ns : List Int} (h : Seq t ns) : items t = some (ns.map PyData.int) := by rcases h with rfl | rfl <;> rfl
theorem rng_map {α : Type} (f : D → α) : ∀ (n : Nat) (lo : Int), (rngD lo n).map f = (List.range n).map fun (i : Nat) => f (.int (lo + i))
  | 0, _ => rfl
  | n + 1, lo => by
    rw [rngD, List.map_cons, rng_map f n (lo + 1), List.range_succ_eq_map, List.map_cons, List.map_map]
    congr 1
    · simp
    · apply List.map_congr_left
      intro i _
      show f _ = f _
      congr 2
      push_cast
      omega
theorem zip_ints : ∀ (xs ys : List Int), zipD (xs.map PyData.int) (ys.map PyData.int) = (List.zip xs ys).map fun p => PyData.tuple [.int p.1, .int p.2]
  | [], ys => by simp [zipD]
  | x :: xs, [] => by simp [zipD]
  | x :: xs, y :: ys => by rw [List.map_cons, List.map_cons, zipD, zip_ints xs ys, List.zip_cons_cons, List.map_cons]
/-! ### things that are fine -/
def Fine (B e w : Nat) (d : D) : Prop := fnb B e d = true ∧ d.weight ≤ w
theorem Fine.int {B e w : Nat} {i : Int} (h : i.natAbs ≤ B) (hw : B < 2 ^ w) : Fine B e w (.int i) := ⟨lfb_fnb (decide_eq_true h), w_intk (Nat.lt_of_le_of_lt h hw)⟩
theorem Fine.bool {B e : Nat} {b : Bool} : Fine B e 1 (.bool b) := ⟨lfb_fnb rfl, by cases b <;> decide⟩
theorem Fine.mono {B e w w' : Nat} {d : D} (h : Fine B e w d) (hw : w ≤ w') : Fine B e w' d := ⟨h.1, Nat.le_trans h.2 hw⟩
theorem w_all_le {k : Nat} {xs : List D} (h : ∀ x ∈ xs, x.weight ≤ k) : PyData.weightAll xs ≤ (k + 1) * xs.length := by
  induction xs with
  | nil => exact Nat.zero_le _
  | cons x xs ih =>
    have h1 := h x (by simp)
    have h2 := ih fun y hy => h y (by simp [hy])
    rw [PyData.weightAll, List.length_cons, Nat.mul_add]
    omega
theorem Fine.tup {B e w n : Nat} {xs : List D} (h : ∀ x ∈ xs, Fine B e w x) (hn : xs.length ≤ n) : Fine B (e + 1) ((w + 1) * n) (.tuple xs) :=
  ⟨List.all_eq_true.2 fun x m => (h x m).1, Nat.le_trans (w_all_le fun x m => (h x m).2) (Nat.mul_le_mul_left _ hn)⟩
theorem Fine.lst {B e w n : Nat} {xs : List D} (h : ∀ x ∈ xs, Fine B e w x) (hn : xs.length ≤ n) : Fine B (e + 1) ((w + 1) * n) (.list xs) :=
  ⟨List.all_eq_true.2 fun x m => (h x m).1, Nat.le_trans (w_all_le fun x m => (h x m).2) (Nat.mul_le_mul_left _ hn)⟩
theorem Fine.it {B e w n : Nat} {ns : List Int} (h : ∀ i ∈ ns, i.natAbs ≤ B) (hw : B < 2 ^ w) (hn : ns.length ≤ n) : Fine B (e + 1) ((w + 1) * n) (it ns) :=
  Fine.tup (fun x m => by obtain ⟨i, hi, rfl⟩ := List.mem_map.1 m; exact Fine.int (h i hi) hw) (by rw [List.length_map]; exact hn)
theorem same_fine {B e w : Nat} {d : D} (h : Fine B e w d) (hB : B < 10 ^ 90) (he : e < 10) (hw : w ≤ 160000) : wpf (m_l_same 10) [.pure d, .pure d] TrueQ :=
  same_ok hB e 10 d h.1 he (by omega) (Nat.le_trans h.2 hw)
end Lw
namespace Lw
open PySem PySem.Spec PyProof.Rows L2
local macro_rules | `(tactic| walk_at "lw e") => `(tactic| (repeat (first | (with_reducible refine Stp.go ?_) | (with_reducible apply Exists.intro) | ((with_reducible refine And.intro ?_ ?_); · (first | (with_reducible exact Evl.ev) | ((fail_if_success (with_reducible refine Gd.keep ?_)); rfl) | ((with_reducible apply mul_r); decide) | ((with_reducible apply mul_l); decide) | ((with_reducible apply div_i); decide) | ((with_reducible apply in_R); decide) | (exact Nat.le_of_ble_eq_true rfl) | (simp [refsOf]; done) | (exact ⟨rfl, rfl, by decide⟩) | (exact ⟨rfl, rfl, rfl⟩) | ((with_reducible apply tgN_o); (focus rfl); (focus (first | assumption | trivial))))) | ((with_reducible apply Sm.vrP); (focus rfl)) | ((with_reducible apply Sm.vrO); (focus rfl)) | ((with_reducible apply Sm.augI); (focus rfl)) | ((with_reducible refine Sm.dicE ?_ ?_); (focus decide)) | (with_reducible refine iteTT ?_) | (with_reducible refine iteT ?_) | (with_reducible refine iteF ?_) | ((with_reducible refine iteB1 ?_ ?_); (focus rfl)) | ((with_reducible refine iteB0 ?_ ?_); (focus rfl)))))
local macro_rules | `(tactic| walk_at "lw n") => `(tactic| (try dsimp only [ent, List.map, Nat.reduceAdd, Nat.reduceSub, List.length_cons, List.length_nil, List.replicate_succ, List.replicate_zero, List.cons_append, List.nil_append, putBack, setOwn, List.getElem?_cons_zero, List.getElem?_cons_succ, List.set_cons_zero, List.set_cons_succ, Sm.nf]))
local macro_rules | `(tactic| walk_at "lw v") => `(tactic| (try simp only [pb1, pb2, pb3, pb4]))
/-! ### stairs, deeds, what they add -/
def pd (p : Int × Int × Int) : D := .tuple [.int p.1, .int p.2.1, .int p.2.2]
def Stair (st : D) (ps : List (Int × Int × Int)) : Prop := st = .tuple (ps.map pd) ∨ st = .list (ps.map pd)
theorem Stair.items {st : D} {ps : List (Int × Int × Int)} (h : Stair st ps) : items st = some (ps.map pd) := by rcases h with rfl | rfl <;> rfl
theorem Stair.len {st : D} {ps : List (Int × Int × Int)} (h : Stair st ps) : gLen st = some (.pure (.int ps.length)) := by
  rcases h with rfl | rfl
  · show some (R.pure (.int ((ps.map pd).length : Nat))) = _; rw [List.length_map]
  · show some (R.pure (.int ((ps.map pd).length : Nat))) = _; rw [List.length_map]
def pAt (ps : List (Int × Int × Int)) (i : Nat) : Int × Int × Int := ps.getD i (0, 0, 0)
theorem Stair.ix {st : D} {ps : List (Int × Int × Int)} (h : Stair st ps) {i : Int} (h0 : 0 ≤ i) (h1 : i < ps.length) : gIx st (.int i) = some (.pure (pd (pAt ps i.toNat))) := by
  have hlt : i.toNat < ps.length := by omega
  have key : (ps.map pd).getD i.toNat .none = pd (pAt ps i.toNat) := by
    unfold pAt
    rw [List.getD_eq_getElem?_getD, List.getElem?_map, List.getElem?_eq_getElem hlt, List.getD_eq_getElem?_getD, List.getElem?_eq_getElem hlt]
    rfl
  rcases h with rfl | rfl
  · rw [at_tup h0 (by rw [List.length_map]; exact h1), key]
  · rw [at_list h0 (by rw [List.length_map]; exact h1), key]
inductive Dd where
  | fill (l : Nat)
  | empty (l : Nat)
  | raise (l : Nat) (m : Int)
  | lower (l : Nat) (m : Int)
def Dd.at : Dd → Nat
  | .fill l => l
  | .empty l => l
  | .raise l _ => l
  | .lower l _ => l
def dd : Dd → D
  | .fill l => .tuple [.str "fill", .int l]
  | .empty l => .tuple [.str "empty", .int l]
  | .raise l m => .tuple [.str "raise", .int l, .int m]
  | .lower l m => .tuple [.str "lower", .int l, .int m]
def sz (ps : List (Int × Int × Int)) (l : Nat) : Int := (pAt ps (l - 1)).2.2
def chg (ps : List (Int × Int × Int)) : Dd → Int × Int
  | .fill l => (l, -sz ps l)
  | .empty l => ((l : Int) - 1, sz ps l)
  | .raise l m => (l, m)
  | .lower l m => (l, -m)
/-- the deed is of the stair -/
def Dd.On (n : Nat) (d : Dd) : Prop := 1 ≤ d.at ∧ d.at ≤ n
/-- what deeds add to pound j and all above it -/
def addTo (ps : List (Int × Int × Int)) (j : Int) (d : Dd) : Int := if (chg ps d).1 ≥ j then (chg ps d).2 else 0
def sumAt (ps : List (Int × Int × Int)) (ds : List Dd) (j : Int) : Int := (ds.map (addTo ps j)).sum
def sums (ps : List (Int × Int × Int)) (ds : List Dd) : List Int := (List.range ps.length).map fun (i : Nat) => sumAt ps ds (1 + (i : Int))
theorem sumAt_app (ps : List (Int × Int × Int)) (a b : List Dd) (j : Int) : sumAt ps (a ++ b) j = sumAt ps a j + sumAt ps b j := by
  unfold sumAt; rw [List.map_append, List.sum_append]
def pr (p : Int × Int) : D := .tuple [.int p.1, .int p.2]
def undd : D → Dd
  | .tuple [.str s, .int l] => if s = "fill" then .fill l.toNat else .empty l.toNat
  | .tuple [.str s, .int l, .int m] => if s = "raise" then .raise l.toNat m else .lower l.toNat m
  | _ => .fill 0
def Deeds (t : D) (ds : List Dd) : Prop := t = .list (ds.map dd) ∨ t = .tuple (ds.map dd)
theorem Deeds.items {t : D} {ds : List Dd} (h : Deeds t ds) : items t = some (ds.map dd) := by rcases h with rfl | rfl <;> rfl
end Lw
namespace Lw
open PySem PySem.Spec PyProof.Rows L2
local macro_rules | `(tactic| walk_at "lw e") => `(tactic| (repeat (first | (with_reducible refine Stp.go ?_) | (with_reducible apply Exists.intro) | ((with_reducible refine And.intro ?_ ?_); · (first | (with_reducible exact Evl.ev) | ((fail_if_success (with_reducible refine Gd.keep ?_)); rfl) | ((with_reducible apply mul_r); decide) | ((with_reducible apply mul_l); decide) | ((with_reducible apply div_i); decide) | ((with_reducible apply in_R); decide) | (exact Nat.le_of_ble_eq_true rfl) | (simp [refsOf]; done) | (exact ⟨rfl, rfl, by decide⟩) | (exact ⟨rfl, rfl, rfl⟩) | ((with_reducible apply tgN_o); (focus rfl); (focus (first | assumption | trivial))))) | ((with_reducible apply Sm.vrP); (focus rfl)) | ((with_reducible apply Sm.vrO); (focus rfl)) | ((with_reducible apply Sm.augI); (focus rfl)) | ((with_reducible refine Sm.dicE ?_ ?_); (focus decide)) | (with_reducible refine iteTT ?_) | (with_reducible refine iteT ?_) | (with_reducible refine iteF ?_) | ((with_reducible refine iteB1 ?_ ?_); (focus rfl)) | ((with_reducible refine iteB0 ?_ ?_); (focus rfl)))))
local macro_rules | `(tactic| walk_at "lw n") => `(tactic| (try dsimp only [ent, List.map, Nat.reduceAdd, Nat.reduceSub, List.length_cons, List.length_nil, List.replicate_succ, List.replicate_zero, List.cons_append, List.nil_append, putBack, setOwn, List.getElem?_cons_zero, List.getElem?_cons_succ, List.set_cons_zero, List.set_cons_succ, Sm.nf]))
local macro_rules | `(tactic| walk_at "lw v") => `(tactic| (try simp only [pb1, pb2, pb3, pb4]))
def addPre : Nat → Int → List Int → List Int
  | 0, _, xs => xs
  | _ + 1, _, [] => []
  | i + 1, m, x :: xs => (x + m) :: addPre i m xs
theorem addPre_get (m : Int) : ∀ (i : Nat) (xs : List Int) (a : Nat), (addPre i m xs)[a]? = if a < i then (xs[a]?).map (· + m) else xs[a]?
  | 0, xs, a => by simp [addPre]
  | i + 1, [], a => by simp [addPre]
  | i + 1, x :: xs, 0 => by simp [addPre]
  | i + 1, x :: xs, a + 1 => by
    rw [addPre, List.getElem?_cons_succ, List.getElem?_cons_succ, addPre_get m i xs a]
    by_cases h : a < i
    · rw [if_pos h, if_pos (by omega)]
    · rw [if_neg h, if_neg (by omega)]
theorem addPre_sums (ps : List (Int × Int × Int)) (ds : List Dd) (d : Dd) (c : Nat) (hc : (chg ps d).1 = c) : addPre c (chg ps d).2 (sums ps ds) = sums ps (ds ++ [d]) := by
  apply List.ext_getElem?
  intro a
  rw [addPre_get]
  unfold sums
  rw [List.getElem?_map, List.getElem?_map]
  by_cases h : a < ps.length
  · rw [List.getElem?_range h]
    simp only [Option.map_some]
    rw [sumAt_app]
    have : sumAt ps [d] (1 + (a : Int)) = if a < c then (chg ps d).2 else 0 := by
      unfold sumAt addTo
      rw [List.map_cons, List.map_nil, List.sum_cons, List.sum_nil, hc]
      by_cases q : a < c
      · rw [if_pos (by omega), if_pos q]; omega
      · rw [if_neg (by omega), if_neg q]; omega
    rw [this]
    by_cases q : a < c
    · rw [if_pos q, if_pos q]
    · rw [if_neg q, if_neg q]; simp
  · rw [List.getElem?_eq_none (by rw [List.length_range]; omega)]
    simp
end Lw
namespace Lw
open PySem PySem.Spec PyProof.Rows L2
local macro_rules | `(tactic| walk_at "lw e") => `(tactic| (repeat (first | (with_reducible refine Stp.go ?_) | (with_reducible apply Exists.intro) | ((with_reducible refine And.intro ?_ ?_); · (first | (with_reducible exact Evl.ev) | ((fail_if_success (with_reducible refine Gd.keep ?_)); rfl) | ((with_reducible apply mul_r); decide) | ((with_reducible apply mul_l); decide) | ((with_reducible apply div_i); decide) | ((with_reducible apply in_R); decide) | (exact Nat.le_of_ble_eq_true rfl) | (simp [refsOf]; done) | (exact ⟨rfl, rfl, by decide⟩) | (exact ⟨rfl, rfl, rfl⟩) | ((with_reducible apply tgN_o); (focus rfl); (focus (first | assumption | trivial))))) | ((with_reducible apply Sm.vrP); (focus rfl)) | ((with_reducible apply Sm.vrO); (focus rfl)) | ((with_reducible apply Sm.augI); (focus rfl)) | ((with_reducible refine Sm.dicE ?_ ?_); (focus decide)) | (with_reducible refine iteTT ?_) | (with_reducible refine iteT ?_) | (with_reducible refine iteF ?_) | ((with_reducible refine iteB1 ?_ ?_); (focus rfl)) | ((with_reducible refine iteB0 ?_ ?_); (focus rfl)))))
local macro_rules | `(tactic| walk_at "lw n") => `(tactic| (try dsimp only [ent, List.map, Nat.reduceAdd, Nat.reduceSub, List.length_cons, List.length_nil, List.replicate_succ, List.replicate_zero, List.cons_append, List.nil_append, putBack, setOwn, List.getElem?_cons_zero, List.getElem?_cons_succ, List.set_cons_zero, List.set_cons_succ, Sm.nf]))
local macro_rules | `(tactic| walk_at "lw v") => `(tactic| (try simp only [pb1, pb2, pb3, pb4]))
/-! ### stones -/
theorem foldl_min_le : ∀ (xs : List Int) (a : Int), xs.foldl min a ≤ a ∧ ∀ x ∈ xs, xs.foldl min a ≤ x
  | [], a => ⟨by simp, fun x h => by cases h⟩
  | y :: ys, a => by
    obtain ⟨h1, h2⟩ := foldl_min_le ys (min a y)
    rw [List.foldl_cons]
    refine ⟨by omega, fun x hx => ?_⟩
    rcases List.mem_cons.1 hx with rfl | hx
    · omega
    · exact h2 x hx
theorem foldl_min_mem : ∀ (xs : List Int) (a : Int), xs.foldl min a = a ∨ xs.foldl min a ∈ xs
  | [], a => .inl rfl
  | y :: ys, a => by
    rw [List.foldl_cons]
    rcases foldl_min_mem ys (min a y) with h | h
    · rw [h]
      by_cases q : a ≤ y
      · rw [Int.min_eq_left q]; exact .inl rfl
      · rw [Int.min_eq_right (by omega)]; exact .inr (by simp)
    · exact .inr (by simp [h])
/-! ### a lap by draws -/
end Lw
-- F2
namespace Lw
open PySem PySem.Spec PyProof.Rows L2
local macro_rules | `(tactic| walk_at "lw e") => `(tactic| (repeat (first | (with_reducible refine Stp.go ?_) | (with_reducible apply Exists.intro) | ((with_reducible refine And.intro ?_ ?_); · (first | (with_reducible exact Evl.ev) | ((fail_if_success (with_reducible refine Gd.keep ?_)); rfl) | ((with_reducible apply mul_r); decide) | ((with_reducible apply mul_l); decide) | ((with_reducible apply div_i); decide) | ((with_reducible apply in_R); decide) | (exact Nat.le_of_ble_eq_true rfl) | (simp [refsOf]; done) | (exact ⟨rfl, rfl, by decide⟩) | (exact ⟨rfl, rfl, rfl⟩) | ((with_reducible apply tgN_o); (focus rfl); (focus (first | assumption | trivial))))) | ((with_reducible apply Sm.vrP); (focus rfl)) | ((with_reducible apply Sm.vrO); (focus rfl)) | ((with_reducible apply Sm.augI); (focus rfl)) | ((with_reducible refine Sm.dicE ?_ ?_); (focus decide)) | ((with_reducible apply Sm.augS); (focus rfl)) | (with_reducible refine iteTT ?_) | (with_reducible refine iteT ?_) | (with_reducible refine iteF ?_) | ((with_reducible refine iteB1 ?_ ?_); (focus rfl)) | ((with_reducible refine iteB0 ?_ ?_); (focus rfl)))))
local macro_rules | `(tactic| walk_at "lw n") => `(tactic| (try dsimp only [ent, List.map, Nat.reduceAdd, Nat.reduceSub, List.length_cons, List.length_nil, List.replicate_succ, List.replicate_zero, List.cons_append, List.nil_append, putBack, setOwn, List.getElem?_cons_zero, List.getElem?_cons_succ, List.set_cons_zero, List.set_cons_succ, Sm.nf]))
local macro_rules | `(tactic| walk_at "lw v") => `(tactic| (try simp only [pb1, pb2, pb3, pb4]))
/-! ### stairs, deeds as tuples or lists, at any depth -/
theorem ix_items {t : D} {ds : List D} (h : items t = some ds) {i : Int} (h0 : 0 ≤ i) (h1 : i < ds.length) : gIx t (.int i) = some (.pure (ds.getD i.toNat .none)) := by
  cases t with
  | list es => cases h; exact at_list h0 h1
  | tuple es => cases h; exact at_tup h0 h1
  | _ => cases h
def Pnd (x : D) (p : Int × Int × Int) : Prop := items x = some [.int p.1, .int p.2.1, .int p.2.2]
structure StairG (st : D) (xs : List D) (ps : List (Int × Int × Int)) : Prop where
  its : items st = some xs
  len : xs.length = ps.length
  ok : ∀ (i : Nat) x p, xs[i]? = some x → ps[i]? = some p → Pnd x p
theorem Pnd.of (p : Int × Int × Int) : Pnd (pd p) p := rfl
theorem Stair.gen {st : D} {ps : List (Int × Int × Int)} (h : Stair st ps) : StairG st (ps.map pd) ps := ⟨h.items, List.length_map _, fun i x p h1 h2 => by
  rw [List.getElem?_map, h2] at h1
  cases h1
  exact Pnd.of p⟩
theorem StairG.ix {st : D} {xs : List D} {ps : List (Int × Int × Int)} (h : StairG st xs ps) {l : Nat} (h0 : 1 ≤ l) (h1 : l ≤ ps.length) : ∃ x, gIx st (.int ((l : Int) - 1)) = some (.pure x) ∧ Pnd x (pAt ps (l - 1)) := by
  have hl := h.len
  have hlt : l - 1 < xs.length := by omega
  have hlp : l - 1 < ps.length := by omega
  refine ⟨xs.getD (l - 1) .none, ?_, ?_⟩
  · rw [ix_items h.its (by omega) (by omega)]
    congr 4
    omega
  · refine h.ok (l - 1) _ _ ?_ ?_
    · rw [List.getD_eq_getElem?_getD, List.getElem?_eq_getElem hlt]; rfl
    · unfold pAt; rw [List.getD_eq_getElem?_getD, List.getElem?_eq_getElem hlp]; rfl
theorem items_cases {t : D} {ds : List D} (h : items t = some ds) : t = .list ds ∨ t = .tuple ds := by
  cases t with
  | list es => cases h; exact .inl rfl
  | tuple es => cases h; exact .inr rfl
  | _ => cases h
theorem Pnd.a {x : D} {p : Int × Int × Int} (h : Pnd x p) : gIx x (.int 0) = some (.pure (.int p.1)) := by rcases items_cases h with rfl | rfl <;> rfl
theorem Pnd.b {x : D} {p : Int × Int × Int} (h : Pnd x p) : gIx x (.int 1) = some (.pure (.int p.2.1)) := by rcases items_cases h with rfl | rfl <;> rfl
theorem Pnd.c {x : D} {p : Int × Int × Int} (h : Pnd x p) : gIx x (.int 2) = some (.pure (.int p.2.2)) := by rcases items_cases h with rfl | rfl <;> rfl
/-- the parts of a deed -/
def dl : Dd → List D
  | .fill l => [.str "fill", .int l]
  | .empty l => [.str "empty", .int l]
  | .raise l m => [.str "raise", .int l, .int m]
  | .lower l m => [.str "lower", .int l, .int m]
def Dt (t : D) (d : Dd) : Prop := items t = some (dl d)
theorem Dt.of (d : Dd) : Dt (dd d) d := by cases d <;> rfl
theorem changeG {st t : D} {xs : List D} {ps : List (Int × Int × Int)} {d : Dd} (hs : StairG st xs ps) (ht : Dt t d) (hd : d.On ps.length) : wpf m_p_change_of [.pure st, .pure t] (ValQ fun x => x = .tuple [.int (chg ps d).1, .int (chg ps d).2]) := by
  obtain ⟨h1, h2⟩ := hd
  have ix : ∀ l : Nat, 1 ≤ l → l ≤ ps.length → ∃ x, gIx st (.int ((l : Int) - 1)) = some (.pure x) ∧ gIx x (.int 2) = some (.pure (.int (sz ps l))) := fun l a b => by
    obtain ⟨x, i1, i2⟩ := hs.ix a b
    exact ⟨x, i1, i2.c⟩
  refine Sm.run ?_
  unfold g_p_change_of
  walk_at "lw n"
  cases d with
  | fill l =>
    obtain ⟨x, i1, i2⟩ := ix l h1 h2
    rcases items_cases ht with rfl | rfl
    all_goals
      walk_at "lw e"
      refine ⟨i1, ?_⟩
      walk_at "lw e"
      refine ⟨i2, ?_⟩
      walk_at "lw e"
      exact ⟨_, rfl, rfl⟩
  | empty l =>
    obtain ⟨x, i1, i2⟩ := ix l h1 h2
    rcases items_cases ht with rfl | rfl
    all_goals
      walk_at "lw e"
      refine ⟨i1, ?_⟩
      walk_at "lw e"
      refine ⟨i2, ?_⟩
      walk_at "lw e"
      exact ⟨_, rfl, rfl⟩
  | raise l m => rcases items_cases ht with rfl | rfl <;> (walk_at "lw e"; exact ⟨_, rfl, rfl⟩)
  | lower l m => rcases items_cases ht with rfl | rfl <;> (walk_at "lw e"; exact ⟨_, rfl, rfl⟩)
/-! ### running over -/
abbrev Pz := (Int × Int × Int) × Int
def spill (m : Int) : Int := if m > 0 then m else 0
/-- levels, what ran over out of each pound, what ran over out of the lowest -/
def ov : List Pz → List Int × List Int × Int
  | [] => ([], [], 0)
  | z :: zs => ((z.2 + (ov zs).2.2 - spill (z.2 + (ov zs).2.2 - z.1.2.1)) :: (ov zs).1, spill (z.2 + (ov zs).2.2 - z.1.2.1) :: (ov zs).2.1, spill (z.2 + (ov zs).2.2 - z.1.2.1))
theorem ov_len : ∀ zs : List Pz, (ov zs).1.length = zs.length ∧ (ov zs).2.1.length = zs.length
  | [] => ⟨rfl, rfl⟩
  | z :: zs => by
    obtain ⟨h1, h2⟩ := ov_len zs
    exact ⟨by rw [ov, List.length_cons, h1]; rfl, by rw [ov, List.length_cons, h2]; rfl⟩
abbrev Qz := D × Pz
def zd (z : Qz) : D := .tuple [z.1, .int z.2.2]
def qz : List D → List (Int × Int × Int) → List Int → List Qz
  | x :: xs, p :: ps, l :: ls => (x, (p, l)) :: qz xs ps ls
  | _, _, _ => []
theorem qz_snd : ∀ (xs : List D) (ps : List (Int × Int × Int)) (ls : List Int), xs.length = ps.length → (qz xs ps ls).map (·.2) = ps.zip ls
  | [], [], ls, _ => by simp [qz]
  | [], p :: ps, ls, h => by simp at h
  | x :: xs, [], ls, h => by simp at h
  | x :: xs, p :: ps, [], h => by simp [qz]
  | x :: xs, p :: ps, l :: ls, h => by rw [qz, List.map_cons, qz_snd xs ps ls (by simpa using h), List.zip_cons_cons]
theorem qz_zip : ∀ (xs : List D) (ps : List (Int × Int × Int)) (ls : List Int), xs.length = ps.length → zipD xs (ls.map PyData.int) = (qz xs ps ls).map zd
  | [], [], ls, _ => by simp [qz, zipD]
  | [], p :: ps, ls, h => by simp at h
  | x :: xs, [], ls, h => by simp at h
  | x :: xs, p :: ps, [], h => by simp [qz, zipD]
  | x :: xs, p :: ps, l :: ls, h => by rw [qz, List.map_cons, List.map_cons, zipD, qz_zip xs ps ls (by simpa using h)]; rfl
theorem qz_ok : ∀ (xs : List D) (ps : List (Int × Int × Int)) (ls : List Int), (∀ (i : Nat) x p, xs[i]? = some x → ps[i]? = some p → Pnd x p) → ∀ z ∈ qz xs ps ls, Pnd z.1 z.2.1
  | [], ps, ls, _, z, hz => by simp [qz] at hz
  | x :: xs, [], ls, _, z, hz => by simp [qz] at hz
  | x :: xs, p :: ps, [], _, z, hz => by simp [qz] at hz
  | x :: xs, p :: ps, l :: ls, h, z, hz => by
    rw [qz] at hz
    rcases List.mem_cons.1 hz with rfl | hz
    · exact h 0 x p rfl rfl
    · exact qz_ok xs ps ls (fun i x p a b => h (i + 1) x p (by simpa using a) (by simpa using b)) z hz
def IOv (st lv : D) (zs : List Pz) (i : Nat) (ς : En) : Prop := ∃ (o5 o6 o7 : Option S), ς = [some (.pure st), some (.pure lv), some (.own false ((ov (zs.drop (zs.length - i))).1.reverse.map PyData.int)), some (.own false ((ov (zs.drop (zs.length - i))).2.1.reverse.map PyData.int)), some (.pure (.int (ov (zs.drop (zs.length - i))).2.2)), o5, o6, o7] ∧ Fr o5 ∧ Fr o6 ∧ Fr o7
theorem rev_map_at {α : Type} {f : α → D} {zs : List α} {i : Nat} {d : D} (h : (zs.map f).reverse[i]? = some d) : i < zs.length ∧ ∃ z ∈ zs, d = f z ∧ zs.drop (zs.length - (i + 1)) = z :: zs.drop (zs.length - i) := by
  have hl : i < zs.length := by have := (List.getElem?_eq_some_iff.mp h).1; simpa using this
  refine ⟨hl, zs[zs.length - (i + 1)], List.getElem_mem _, ?_, ?_⟩
  · rw [List.getElem?_reverse (by simpa using hl), List.length_map, List.getElem?_map, List.getElem?_eq_getElem (by omega)] at h
    have h := Option.some.inj h
    rw [← h]
    congr 2
    omega
  · rw [List.drop_eq_getElem_cons (by omega)]
    congr 2
    omega
theorem run_overG {st lv : D} {xs : List D} {ps : List (Int × Int × Int)} {ls : List Int} (hs : StairG st xs ps) (hv : Seq lv ls) (hp : ps.length ≤ 1000) (hl : ls.length ≤ 1000) : wpf m_p_run_over [.pure st, .pure lv] (ValQ fun x => x = .tuple [it (ov (ps.zip ls)).1, it (ov (ps.zip ls)).2.1]) := by
  have hsl : sizeLine = 16777216 := rfl
  have hzl : (ps.zip ls).length ≤ 1000 := by rw [List.length_zip]; omega
  have hq := qz_snd xs ps ls hs.len
  have hok := qz_ok xs ps ls hs.ok
  have hql : (qz xs ps ls).length = (ps.zip ls).length := by rw [← hq, List.length_map]
  refine Sm.run ?_
  unfold g_p_run_over
  walk_at "lw n"
  walk_at "lw e"
  refine ⟨hs.its, hv.items, by rw [qz_zip xs ps ls hs.len, List.length_map]; omega, ?_⟩
  walk_at "lw e"
  rw [qz_zip xs ps ls hs.len]
  walk_at "lw n"
  have h0 : IOv st lv (ps.zip ls) 0 [some (.pure st), some (.pure lv), some (.own false []), some (.own false []), some (.pure (.int 0)), none, none, none] := by
    refine ⟨none, none, none, ?_, trivial, trivial, trivial⟩
    rw [Nat.sub_zero, List.drop_length]
    rfl
  refine Sm.loopInv (IOv st lv (ps.zip ls)) h0 ?_ ?_
  · rintro i d ς hd ⟨o5, o6, o7, rfl, f5, f6, f7⟩
    obtain ⟨hi, z, hz, rfl, ez⟩ := rev_map_at hd
    have hb := (hok z hz).b
    have ez2 : (ps.zip ls).drop ((ps.zip ls).length - (i + 1)) = z.2 :: (ps.zip ls).drop ((ps.zip ls).length - i) := by
      have := congrArg (List.map (·.2)) ez
      rw [List.map_drop, List.map_cons, List.map_drop, hq, hql] at this
      exact this
    unfold IOv
    rw [ez2]
    generalize he : (ps.zip ls).drop ((ps.zip ls).length - i) = es
    have hel : es.length ≤ 1000 := by rw [← he, List.length_drop]; omega
    obtain ⟨l1, l2⟩ := ov_len es
    refine ⟨_, tgT2_o rfl f5 rfl f6, ?_⟩
    walk_at "lw n"
    walk_at "lw e"
    refine ⟨hb, ?_⟩
    walk_at "lw e"
    refine ⟨app_ok (by rw [List.length_map, List.length_reverse]; omega), ?_⟩
    walk_at "lw n"
    walk_at "lw e"
    refine ⟨app_ok (by rw [List.length_map, List.length_reverse]; omega), ?_⟩
    walk_at "lw n"
    refine ⟨some (.pure z.1), some (.pure (.int z.2.2)), some (.pure (.int (z.2.2 + (ov es).2.2))), ?_, trivial, trivial, trivial⟩
    rw [ov]
    simp only [List.reverse_cons, List.map_append, List.map_cons, List.map_nil]
    rfl
  · rintro ς ⟨o5, o6, o7, rfl, f5, f6, f7⟩
    rw [List.length_reverse, List.length_map, hql, Nat.sub_self, List.drop_zero]
    walk_at "lw e"
    walk_at "lw n"
    walk_at "lw e"
    walk_at "lw n"
    walk_at "lw e"
    refine ⟨_, rfl, ?_⟩
    rw [← List.map_reverse, ← List.map_reverse, List.reverse_reverse, List.reverse_reverse]
    rfl
end Lw
-- F2
namespace Lw
open PySem PySem.Spec PyProof.Rows L2
local macro_rules | `(tactic| walk_at "lw e") => `(tactic| (repeat (first | (with_reducible refine Stp.go ?_) | (with_reducible apply Exists.intro) | ((with_reducible refine And.intro ?_ ?_); · (first | (with_reducible exact Evl.ev) | ((fail_if_success (with_reducible refine Gd.keep ?_)); rfl) | ((with_reducible apply mul_r); decide) | ((with_reducible apply mul_l); decide) | ((with_reducible apply div_i); decide) | ((with_reducible apply in_R); decide) | (exact Nat.le_of_ble_eq_true rfl) | (simp [refsOf]; done) | (exact ⟨rfl, rfl, by decide⟩) | (exact ⟨rfl, rfl, rfl⟩) | ((with_reducible apply tgN_o); (focus rfl); (focus (first | assumption | trivial))))) | ((with_reducible apply Sm.vrP); (focus rfl)) | ((with_reducible apply Sm.vrO); (focus rfl)) | ((with_reducible apply Sm.augI); (focus rfl)) | ((with_reducible refine Sm.dicE ?_ ?_); (focus decide)) | ((with_reducible apply Sm.augS); (focus rfl)) | (with_reducible refine iteTT ?_) | (with_reducible refine iteT ?_) | (with_reducible refine iteF ?_) | ((with_reducible refine iteB1 ?_ ?_); (focus rfl)) | ((with_reducible refine iteB0 ?_ ?_); (focus rfl)))))
local macro_rules | `(tactic| walk_at "lw n") => `(tactic| (try dsimp only [ent, List.map, Nat.reduceAdd, Nat.reduceSub, List.length_cons, List.length_nil, List.replicate_succ, List.replicate_zero, List.cons_append, List.nil_append, putBack, setOwn, List.getElem?_cons_zero, List.getElem?_cons_succ, List.set_cons_zero, List.set_cons_succ, Sm.nf]))
local macro_rules | `(tactic| walk_at "lw v") => `(tactic| (try simp only [pb1, pb2, pb3, pb4]))
/-! ### one deed -/
def add1 (ls : List Int) (p m : Int) : List Int := if p > 0 then ls.set (p.toNat - 1) (ls.getD (p.toNat - 1) 0 + m) else ls
theorem add1_len (ls : List Int) (p m : Int) : (add1 ls p m).length = ls.length := by unfold add1; split <;> simp
theorem chg_on {ps : List (Int × Int × Int)} {d : Dd} {n : Nat} (h : d.On n) : 0 ≤ (chg ps d).1 ∧ (chg ps d).1 ≤ n := by
  obtain ⟨h1, h2⟩ := h
  cases d with
  | fill l => exact ⟨by show (0 : Int) ≤ l; omega, by show (l : Int) ≤ n; have : l ≤ n := h2; omega⟩
  | empty l => have a : 1 ≤ l := h1; have b : l ≤ n := h2; exact ⟨by show (0 : Int) ≤ (l : Int) - 1; omega, by show (l : Int) - 1 ≤ n; omega⟩
  | raise l m => exact ⟨by show (0 : Int) ≤ l; omega, by show (l : Int) ≤ n; have : l ≤ n := h2; omega⟩
  | lower l m => exact ⟨by show (0 : Int) ≤ l; omega, by show (l : Int) ≤ n; have : l ≤ n := h2; omega⟩
theorem ls_at {ls : List Int} {i : Nat} (h : i < ls.length) : (ls.map PyData.int)[i]? = some (.int (ls.getD i 0)) := by
  rw [List.getElem?_map, List.getD_eq_getElem?_getD, List.getElem?_eq_getElem h]; rfl
theorem levelsG {st lv t : D} {xs : List D} {ps : List (Int × Int × Int)} {ls : List Int} {d : Dd} (hs : StairG st xs ps) (hv : Seq lv ls) (ht : Dt t d) (hd : d.On ps.length) (hp : ps.length ≤ 1000) (hl : ls.length = ps.length) :
    wpf m_p_levels_behind [.pure st, .pure lv, .pure t] (ValQ fun x => x = .tuple [it (ov (ps.zip (add1 ls (chg ps d).1 (chg ps d).2))).1, it (ov (ps.zip (add1 ls (chg ps d).1 (chg ps d).2))).2.1]) := by
  have hsl : sizeLine = 16777216 := rfl
  obtain ⟨c0, c1⟩ := chg_on (ps := ps) hd
  refine Sm.run ?_
  unfold g_p_levels_behind
  walk_at "lw n"
  walk_at "lw e"
  (refine Sm.fmono (changeG hs ht hd) fun r o h => ?_; obtain ⟨d, rfl, rfl⟩ := h; refine ⟨nref, ?_⟩; walk_at "lw v"; walk_at "lw e")
  walk_at "lw n"
  walk_at "lw e"
  have hg : gList lv = some (.fresh (ls.map PyData.int)) := by rcases hv with rfl | rfl <;> rfl
  refine ⟨hg, ?_⟩
  walk_at "lw e"
  walk_at "lw n"
  by_cases h : (chg ps d).1 > 0
  · walk_at "lw e"
    refine iteDT h ?_
    walk_at "lw e"
    refine ⟨ix_in (by omega) (by rw [List.length_map]; omega), ?_⟩
    refine ⟨ls_at (by omega), ?_⟩
    walk_at "lw e"
    walk_at "lw n"
    have e1 : ((chg ps d).1 - 1).toNat = (chg ps d).1.toNat - 1 := by omega
    rw [e1, set_ints]
    have e2 : ls.set ((chg ps d).1.toNat - 1) (ls.getD ((chg ps d).1.toNat - 1) 0 + (chg ps d).2) = add1 ls (chg ps d).1 (chg ps d).2 := by unfold add1; rw [if_pos h]
    rw [e2]
    walk_at "lw e"
    (refine Sm.fmono (run_overG hs (.inl rfl) hp (by rw [add1_len]; omega)) fun r o h => ?_; obtain ⟨d, rfl, rfl⟩ := h; refine ⟨nref, ?_⟩; walk_at "lw v"; walk_at "lw e")
    exact ⟨_, rfl, rfl⟩
  · walk_at "lw e"
    refine iteDF h ?_
    walk_at "lw e"
    have e2 : add1 ls (chg ps d).1 (chg ps d).2 = ls := by unfold add1; rw [if_neg h]
    rw [e2]
    (refine Sm.fmono (run_overG hs (.inl rfl) hp (by omega)) fun r o h => ?_; obtain ⟨d, rfl, rfl⟩ := h; refine ⟨nref, ?_⟩; walk_at "lw v"; walk_at "lw e")
    exact ⟨_, rfl, rfl⟩
def chD (b : Bool) : D := .str (if b = true then "high" else "low")
def Chs (t : D) (bs : List Bool) : Prop := items t = some (bs.map chD)
def turn (bs : List Bool) : Dd → List Bool
  | .fill l => bs.set (l - 1) true
  | .empty l => bs.set (l - 1) false
  | _ => bs
theorem turn_len (bs : List Bool) (d : Dd) : (turn bs d).length = bs.length := by cases d <;> simp [turn]
def shut (bs : List Bool) : Dd → Bool
  | .fill l => bs.getD (l - 1) false
  | .empty l => !bs.getD (l - 1) false
  | _ => false
theorem Chs.ix {t : D} {bs : List Bool} (h : Chs t bs) {l : Nat} (h0 : 1 ≤ l) (h1 : l ≤ bs.length) : gIx t (.int ((l : Int) - 1)) = some (.pure (chD (bs.getD (l - 1) false))) := by
  have hlt : l - 1 < bs.length := by omega
  rw [ix_items h (by omega) (by rw [List.length_map]; omega)]
  have e : ((l : Int) - 1).toNat = l - 1 := by omega
  rw [e, List.getD_eq_getElem?_getD, List.getElem?_map, List.getD_eq_getElem?_getD, List.getElem?_eq_getElem hlt]
  rfl
theorem chD_set (bs : List Bool) (i : Nat) (b : Bool) : (bs.map chD).set i (chD b) = (bs.set i b).map chD := by rw [List.map_set]
theorem chambersG {cv t : D} {bs : List Bool} {d : Dd} (hc : Chs cv bs) (ht : Dt t d) (hd : d.On bs.length) (hl : bs.length ≤ 1000) : wpf m_p_chambers_behind [.pure cv, .pure t] (ValQ fun x => x = .tuple ((turn bs d).map chD)) := by
  have hsl : sizeLine = 16777216 := rfl
  obtain ⟨h1, h2⟩ := hd
  have hg : gList cv = some (.fresh (bs.map chD)) := by rcases items_cases hc with rfl | rfl <;> rfl
  refine Sm.run ?_
  unfold g_p_chambers_behind
  walk_at "lw n"
  cases d with
  | fill l =>
    have a : 1 ≤ l := h1
    have b : l ≤ bs.length := h2
    rcases items_cases ht with rfl | rfl
    all_goals
      walk_at "lw e"
      refine ⟨hg, ?_⟩
      walk_at "lw e"
      refine ⟨ix_in (by omega) (by rw [List.length_map]; omega), ?_⟩
      walk_at "lw n"
      rw [show ((l : Int) - 1).toNat = l - 1 by omega, show PyData.str (Str.ofString "high") = chD true from rfl, chD_set]
      walk_at "lw e"
      exact ⟨_, rfl, rfl⟩
  | empty l =>
    have a : 1 ≤ l := h1
    have b : l ≤ bs.length := h2
    rcases items_cases ht with rfl | rfl
    all_goals
      walk_at "lw e"
      refine ⟨hg, ?_⟩
      walk_at "lw e"
      refine ⟨ix_in (by omega) (by rw [List.length_map]; omega), ?_⟩
      walk_at "lw n"
      rw [show ((l : Int) - 1).toNat = l - 1 by omega, show PyData.str (Str.ofString "low") = chD false from rfl, chD_set]
      walk_at "lw e"
      exact ⟨_, rfl, rfl⟩
  | raise l m =>
    rcases items_cases ht with rfl | rfl
    all_goals
      walk_at "lw e"
      refine ⟨hg, ?_⟩
      walk_at "lw e"
      exact ⟨_, rfl, rfl⟩
  | lower l m =>
    rcases items_cases ht with rfl | rfl
    all_goals
      walk_at "lw e"
      refine ⟨hg, ?_⟩
      walk_at "lw e"
      exact ⟨_, rfl, rfl⟩
theorem shutG {cv t : D} {bs : List Bool} {d : Dd} (hc : Chs cv bs) (ht : Dt t d) (hd : d.On bs.length) : wpf m_p_is_shut [.pure cv, .pure t] (ValQ fun x => x = .bool (shut bs d)) := by
  obtain ⟨h1, h2⟩ := hd
  refine Sm.run ?_
  unfold g_p_is_shut
  walk_at "lw n"
  cases d with
  | fill l =>
    have ix : gIx cv (.int ((l : Int) - 1)) = some (.pure (chD (bs.getD (l - 1) false))) := hc.ix h1 h2
    rcases items_cases ht with rfl | rfl
    all_goals
      walk_at "lw e"
      refine ⟨ix, ?_⟩
      walk_at "lw e"
      refine ⟨_, rfl, ?_⟩
      show _ = PyData.bool (bs.getD (l - 1) false)
      cases bs.getD (l - 1) false <;> rfl
  | empty l =>
    have ix : gIx cv (.int ((l : Int) - 1)) = some (.pure (chD (bs.getD (l - 1) false))) := hc.ix h1 h2
    rcases items_cases ht with rfl | rfl
    all_goals
      walk_at "lw e"
      refine ⟨ix, ?_⟩
      walk_at "lw e"
      refine ⟨_, rfl, ?_⟩
      show _ = PyData.bool (!bs.getD (l - 1) false)
      cases bs.getD (l - 1) false <;> rfl
  | raise l m => rcases items_cases ht with rfl | rfl <;> (walk_at "lw e"; exact ⟨_, rfl, rfl⟩)
  | lower l m => rcases items_cases ht with rfl | rfl <;> (walk_at "lw e"; exact ⟨_, rfl, rfl⟩)
def asks (ps : List (Int × Int × Int)) (d : Dd) : Int := (pAt ps ((chg ps d).1.toNat - 1)).1 - (chg ps d).2
def dry (ps : List (Int × Int × Int)) (ls : List Int) (d : Dd) : Bool := if (chg ps d).2 ≥ 0 then false else decide (ls.getD ((chg ps d).1.toNat - 1) 0 < asks ps d)
def Down (ps : List (Int × Int × Int)) (d : Dd) : Prop := (chg ps d).2 < 0 → 1 ≤ (chg ps d).1
theorem askedG {st t : D} {xs : List D} {ps : List (Int × Int × Int)} {d : Dd} (hs : StairG st xs ps) (ht : Dt t d) (hd : d.On ps.length) (hdn : Down ps d) : wpf m_p_asked_by [.pure st, .pure t] (ValQ fun x => x = if (chg ps d).2 ≥ 0 then .none else .tuple [.int (chg ps d).1, .int (asks ps d)]) := by
  obtain ⟨c0, c1⟩ := chg_on (ps := ps) hd
  refine Sm.run ?_
  unfold g_p_asked_by
  walk_at "lw n"
  walk_at "lw e"
  (refine Sm.fmono (changeG hs ht hd) fun r o h => ?_; obtain ⟨d, rfl, rfl⟩ := h; refine ⟨nref, ?_⟩; walk_at "lw v"; walk_at "lw e")
  walk_at "lw n"
  by_cases h : (chg ps d).2 ≥ 0
  · walk_at "lw e"
    refine iteDT h ?_
    walk_at "lw e"
    exact ⟨_, rfl, by rw [if_pos h]⟩
  · have h1 := hdn (by omega)
    obtain ⟨x, i1, i2⟩ := hs.ix (l := (chg ps d).1.toNat) (by omega) (by omega)
    rw [show (((chg ps d).1.toNat : Nat) : Int) - 1 = (chg ps d).1 - 1 by omega] at i1
    have i3 := i2.a
    walk_at "lw e"
    refine iteDF h ?_
    walk_at "lw e"
    refine ⟨i1, ?_⟩
    walk_at "lw e"
    refine ⟨i3, ?_⟩
    walk_at "lw e"
    exact ⟨_, rfl, by rw [if_neg h]; rfl⟩
theorem dryG {st lv t : D} {xs : List D} {ps : List (Int × Int × Int)} {ls : List Int} {d : Dd} (hs : StairG st xs ps) (hv : Seq lv ls) (ht : Dt t d) (hd : d.On ps.length) (hdn : Down ps d) (hl : ls.length = ps.length) : wpf m_p_is_dry [.pure st, .pure lv, .pure t] (ValQ fun x => x = .bool (dry ps ls d)) := by
  obtain ⟨c0, c1⟩ := chg_on (ps := ps) hd
  refine Sm.run ?_
  unfold g_p_is_dry
  walk_at "lw n"
  walk_at "lw e"
  (refine Sm.fmono (askedG hs ht hd hdn) fun r o h => ?_; obtain ⟨d, rfl, rfl⟩ := h; refine ⟨nref, ?_⟩; walk_at "lw v"; walk_at "lw e")
  by_cases h : (chg ps d).2 ≥ 0
  · rw [if_pos h]
    walk_at "lw n"
    walk_at "lw e"
    exact ⟨_, rfl, by unfold dry; rw [if_pos h]⟩
  · have h1 := hdn (by omega)
    have i1 : gIx lv (.int ((chg ps d).1 - 1)) = some (.pure (.int (ls.getD ((chg ps d).1.toNat - 1) 0))) := by
      rw [ix_items hv.items (by omega) (by rw [List.length_map]; omega), show ((chg ps d).1 - 1).toNat = (chg ps d).1.toNat - 1 by omega, List.getD_eq_getElem?_getD, ls_at (by omega)]
      rfl
    rw [if_neg h]
    walk_at "lw n"
    walk_at "lw e"
    refine ⟨i1, ?_⟩
    walk_at "lw e"
    exact ⟨_, rfl, by unfold dry; rw [if_neg h]⟩
end Lw
-- F2
namespace Lw
open PySem PySem.Spec PyProof.Rows L2
local macro_rules | `(tactic| walk_at "lw e") => `(tactic| (repeat (first | (with_reducible refine Stp.go ?_) | (with_reducible apply Exists.intro) | ((with_reducible refine And.intro ?_ ?_); · (first | (with_reducible exact Evl.ev) | ((fail_if_success (with_reducible refine Gd.keep ?_)); rfl) | ((with_reducible apply mul_r); decide) | ((with_reducible apply mul_l); decide) | ((with_reducible apply div_i); decide) | ((with_reducible apply in_R); decide) | (exact Nat.le_of_ble_eq_true rfl) | (simp [refsOf]; done) | (exact ⟨rfl, rfl, by decide⟩) | (exact ⟨rfl, rfl, rfl⟩) | ((with_reducible apply tgN_o); (focus rfl); (focus (first | assumption | trivial))))) | ((with_reducible apply Sm.vrP); (focus rfl)) | ((with_reducible apply Sm.vrO); (focus rfl)) | ((with_reducible apply Sm.augI); (focus rfl)) | ((with_reducible refine Sm.dicE ?_ ?_); (focus decide)) | ((with_reducible apply Sm.augS); (focus rfl)) | (with_reducible refine iteTT ?_) | (with_reducible refine iteT ?_) | (with_reducible refine iteF ?_) | ((with_reducible refine iteB1 ?_ ?_); (focus rfl)) | ((with_reducible refine iteB0 ?_ ?_); (focus rfl)))))
local macro_rules | `(tactic| walk_at "lw n") => `(tactic| (try dsimp only [ent, List.map, Nat.reduceAdd, Nat.reduceSub, List.length_cons, List.length_nil, List.replicate_succ, List.replicate_zero, List.cons_append, List.nil_append, putBack, setOwn, List.getElem?_cons_zero, List.getElem?_cons_succ, List.set_cons_zero, List.set_cons_succ, Sm.nf]))
local macro_rules | `(tactic| walk_at "lw v") => `(tactic| (try simp only [pb1, pb2, pb3, pb4]))
/-! ### fault_of, done, gone -/
structure Stand (t : D) (ls : List Int) (bs : List Bool) : Prop where
  ex : ∃ lv cv, items t = some [lv, cv] ∧ Seq lv ls ∧ Chs cv bs
theorem tgT2_i {i j : Nat} {t x y : D} {ς : En} {a b : Option S} (h : items t = some [x, y]) (h1 : ς[i]? = some a) (f1 : Fr a) (h2 : (ς.set i (some (.pure x)))[j]? = some b) (f2 : Fr b) : tgT 2 (tgsC (tgN i) (tgsC (tgN j) tgsN)) t ς = some ((ς.set i (some (.pure x))).set j (some (.pure y))) := by
  unfold tgT
  rw [h]
  show tgsC (tgN i) (tgsC (tgN j) tgsN) [x, y] ς = _
  rw [tgsC_o h1 f1, tgsC_o h2 f2]
  rfl
def fault (ps : List (Int × Int × Int)) (ls : List Int) (bs : List Bool) (d : Dd) : D := if shut bs d = true then .tuple [.str "shut", .int d.at] else if dry ps ls d = true then .tuple [.str "dry", .int d.at] else .none
theorem Dt.p1 {t : D} {d : Dd} (h : Dt t d) : gIx t (.int 1) = some (.pure (.int d.at)) := by
  rcases items_cases h with rfl | rfl <;> (cases d <;> rfl)
theorem faultG {st sd t : D} {xs : List D} {ps : List (Int × Int × Int)} {ls : List Int} {bs : List Bool} {d : Dd} (hs : StairG st xs ps) (hd : Stand sd ls bs) (ht : Dt t d) (ho : d.On ps.length) (hdn : Down ps d) (hl : ls.length = ps.length) (hb : bs.length = ps.length) : wpf m_p_fault_of [.pure st, .pure sd, .pure t] (ValQ fun x => x = fault ps ls bs d) := by
  obtain ⟨lv, cv, ei, hv, hc⟩ := hd.ex
  refine Sm.run ?_
  unfold g_p_fault_of
  walk_at "lw n"
  have hsh := shutG hc ht (by rw [hb]; exact ho)
  have hdr := dryG hs hv ht ho hdn hl
  have p1 := ht.p1
  cases qs : shut bs d with
  | true =>
    rw [qs] at hsh
    walk_at "lw e"
    refine ⟨tgT2_i ei rfl trivial rfl trivial, ?_⟩
    walk_at "lw n"
    walk_at "lw e"
    (refine Sm.fmono (hsh) fun r o h => ?_; obtain ⟨d, rfl, rfl⟩ := h; refine ⟨nref, ?_⟩; walk_at "lw v"; walk_at "lw e")
    walk_at "lw n"
    walk_at "lw e"
    refine ⟨p1, ?_⟩
    walk_at "lw e"
    exact ⟨_, rfl, by unfold fault; rw [if_pos qs]⟩
  | false =>
    rw [qs] at hsh
    cases qd : dry ps ls d with
    | true =>
      rw [qd] at hdr
      walk_at "lw e"
      refine ⟨tgT2_i ei rfl trivial rfl trivial, ?_⟩
      walk_at "lw n"
      walk_at "lw e"
      (refine Sm.fmono (hsh) fun r o h => ?_; obtain ⟨d, rfl, rfl⟩ := h; refine ⟨nref, ?_⟩; walk_at "lw v"; walk_at "lw e")
      walk_at "lw n"
      walk_at "lw e"
      (refine Sm.fmono (hdr) fun r o h => ?_; obtain ⟨d, rfl, rfl⟩ := h; refine ⟨nref, ?_⟩; walk_at "lw v"; walk_at "lw e")
      walk_at "lw n"
      walk_at "lw e"
      refine ⟨p1, ?_⟩
      walk_at "lw e"
      exact ⟨_, rfl, by unfold fault; rw [if_neg (by rw [qs]; decide), if_pos qd]⟩
    | false =>
      rw [qd] at hdr
      walk_at "lw e"
      refine ⟨tgT2_i ei rfl trivial rfl trivial, ?_⟩
      walk_at "lw n"
      walk_at "lw e"
      (refine Sm.fmono (hsh) fun r o h => ?_; obtain ⟨d, rfl, rfl⟩ := h; refine ⟨nref, ?_⟩; walk_at "lw v"; walk_at "lw e")
      walk_at "lw n"
      walk_at "lw e"
      (refine Sm.fmono (hdr) fun r o h => ?_; obtain ⟨d, rfl, rfl⟩ := h; refine ⟨nref, ?_⟩; walk_at "lw v"; walk_at "lw e")
      walk_at "lw n"
      walk_at "lw e"
      exact ⟨_, rfl, by unfold fault; rw [if_neg (by rw [qs]; decide), if_neg (by rw [qd]; decide)]⟩
def aft (ps : List (Int × Int × Int)) (ls : List Int) (d : Dd) : List Int := (ov (ps.zip (add1 ls (chg ps d).1 (chg ps d).2))).1
def spl (ps : List (Int × Int × Int)) (ls : List Int) (d : Dd) : List Int := (ov (ps.zip (add1 ls (chg ps d).1 (chg ps d).2))).2.1
theorem aft_len {ps : List (Int × Int × Int)} {ls : List Int} {d : Dd} (hl : ls.length = ps.length) : (aft ps ls d).length = ps.length ∧ (spl ps ls d).length = ps.length := by
  obtain ⟨h1, h2⟩ := ov_len (ps.zip (add1 ls (chg ps d).1 (chg ps d).2))
  have e : (ps.zip (add1 ls (chg ps d).1 (chg ps d).2)).length = ps.length := by rw [List.length_zip, add1_len, hl]; omega
  exact ⟨by unfold aft; rw [h1, e], by unfold spl; rw [h2, e]⟩
def sD (ls : List Int) (bs : List Bool) : D := .tuple [it ls, .tuple (bs.map chD)]
theorem sD_stand (ls : List Int) (bs : List Bool) : Stand (sD ls bs) ls bs := ⟨⟨it ls, .tuple (bs.map chD), rfl, .inr rfl, rfl⟩⟩
def Let (ps : List (Int × Int × Int)) (ls : List Int) (bs : List Bool) (d : Dd) : Prop := shut bs d = false ∧ dry ps ls d = false
theorem doneG {st sd t : D} {xs : List D} {ps : List (Int × Int × Int)} {ls : List Int} {bs : List Bool} {d : Dd} (hs : StairG st xs ps) (hd : Stand sd ls bs) (ht : Dt t d) (ho : d.On ps.length) (hdn : Down ps d) (hp : ps.length ≤ 1000) (hl : ls.length = ps.length) (hb : bs.length = ps.length) (hlet : Let ps ls bs d) : wpf m_p_done [.pure st, .pure sd, .pure t] (ValQ fun x => x = .tuple [sD (aft ps ls d) (turn bs d), it (spl ps ls d)]) := by
  obtain ⟨lv, cv, ei, hv, hc⟩ := hd.ex
  have hf := faultG hs hd ht ho hdn hl hb
  have ef : fault ps ls bs d = .none := by unfold fault; rw [if_neg (by rw [hlet.1]; decide), if_neg (by rw [hlet.2]; decide)]
  rw [ef] at hf
  refine Sm.run ?_
  unfold g_p_done
  walk_at "lw n"
  walk_at "lw e"
  (refine Sm.fmono (hf) fun r o h => ?_; obtain ⟨d, rfl, rfl⟩ := h; refine ⟨nref, ?_⟩; walk_at "lw v"; walk_at "lw e")
  walk_at "lw n"
  walk_at "lw e"
  refine ⟨tgT2_i ei rfl trivial rfl trivial, ?_⟩
  walk_at "lw n"
  walk_at "lw e"
  (refine Sm.fmono (levelsG hs hv ht ho hp hl) fun r o h => ?_; obtain ⟨d, rfl, rfl⟩ := h; refine ⟨nref, ?_⟩; walk_at "lw v"; walk_at "lw e")
  walk_at "lw n"
  walk_at "lw e"
  (refine Sm.fmono (chambersG hc ht (by rw [hb]; exact ho) (by omega)) fun r o h => ?_; obtain ⟨d, rfl, rfl⟩ := h; refine ⟨nref, ?_⟩; walk_at "lw v"; walk_at "lw e")
  walk_at "lw n"
  walk_at "lw e"
  exact ⟨_, rfl, rfl⟩
end Lw
-- F2
namespace Lw
open PySem PySem.Spec PyProof.Rows L2
local macro_rules | `(tactic| walk_at "lw e") => `(tactic| (repeat (first | (with_reducible refine Stp.go ?_) | (with_reducible apply Exists.intro) | ((with_reducible refine And.intro ?_ ?_); · (first | (with_reducible exact Evl.ev) | ((fail_if_success (with_reducible refine Gd.keep ?_)); rfl) | ((with_reducible apply mul_r); decide) | ((with_reducible apply mul_l); decide) | ((with_reducible apply div_i); decide) | ((with_reducible apply in_R); decide) | (exact Nat.le_of_ble_eq_true rfl) | (simp [refsOf]; done) | (exact ⟨rfl, rfl, by decide⟩) | (exact ⟨rfl, rfl, rfl⟩) | ((with_reducible apply tgN_o); (focus rfl); (focus (first | assumption | trivial))))) | ((with_reducible apply Sm.vrP); (focus rfl)) | ((with_reducible apply Sm.vrO); (focus rfl)) | ((with_reducible apply Sm.augI); (focus rfl)) | ((with_reducible refine Sm.dicE ?_ ?_); (focus decide)) | ((with_reducible apply Sm.augS); (focus rfl)) | (with_reducible refine iteTT ?_) | (with_reducible refine iteT ?_) | (with_reducible refine iteF ?_) | ((with_reducible refine iteB1 ?_ ?_); (focus rfl)) | ((with_reducible refine iteB0 ?_ ?_); (focus rfl)))))
local macro_rules | `(tactic| walk_at "lw n") => `(tactic| (try dsimp only [ent, List.map, Nat.reduceAdd, Nat.reduceSub, List.length_cons, List.length_nil, List.replicate_succ, List.replicate_zero, List.cons_append, List.nil_append, putBack, setOwn, List.getElem?_cons_zero, List.getElem?_cons_succ, List.set_cons_zero, List.set_cons_succ, Sm.nf]))
local macro_rules | `(tactic| walk_at "lw v") => `(tactic| (try simp only [pb1, pb2, pb3, pb4]))
structure DeedsG (t : D) (ts : List D) (ds : List Dd) : Prop where
  its : items t = some ts
  len : ts.length = ds.length
  ok : ∀ (i : Nat) x d, ts[i]? = some x → ds[i]? = some d → Dt x d
abbrev Gs := List Int × List Bool × List Int
def gst (ps : List (Int × Int × Int)) (s : Gs) (d : Dd) : Gs := (aft ps s.1 d, turn s.2.1 d, (s.2.2.zip (spl ps s.1 d)).map fun p => p.1 + p.2)
def gn (ps : List (Int × Int × Int)) (s : Gs) (ds : List Dd) : Gs := ds.foldl (gst ps) s
def IGs (st sd t lv cv : D) (s : Gs) (ς : En) : Prop := ∃ (o8 o9 : Option S), ς = [some (.pure st), some (.pure sd), some (.pure t), some (.pure lv), some (.pure cv), some (.pure (sD s.1 s.2.1)), some (.pure (it s.2.2)), none, o8, o9, none, none] ∧ Fr o8 ∧ Fr o9
def add2 : D → D
  | .tuple [.int a, .int b] => .int (a + b)
  | d => d
end Lw
-- F2
namespace Lw
open PySem PySem.Spec PyProof.Rows L2
local macro_rules | `(tactic| walk_at "lw e") => `(tactic| (repeat (first | (with_reducible refine Stp.go ?_) | (with_reducible apply Exists.intro) | ((with_reducible refine And.intro ?_ ?_); · (first | (with_reducible exact Evl.ev) | ((fail_if_success (with_reducible refine Gd.keep ?_)); rfl) | ((with_reducible apply mul_r); decide) | ((with_reducible apply mul_l); decide) | ((with_reducible apply div_i); decide) | ((with_reducible apply in_R); decide) | (exact Nat.le_of_ble_eq_true rfl) | (simp [refsOf]; done) | (exact ⟨rfl, rfl, by decide⟩) | (exact ⟨rfl, rfl, rfl⟩) | ((with_reducible apply tgN_o); (focus rfl); (focus (first | assumption | trivial))))) | ((with_reducible apply Sm.vrP); (focus rfl)) | ((with_reducible apply Sm.vrO); (focus rfl)) | ((with_reducible apply Sm.augI); (focus rfl)) | ((with_reducible refine Sm.dicE ?_ ?_); (focus decide)) | ((with_reducible apply Sm.augS); (focus rfl)) | (with_reducible refine iteTT ?_) | (with_reducible refine iteT ?_) | (with_reducible refine iteF ?_) | ((with_reducible refine iteB1 ?_ ?_); (focus rfl)) | ((with_reducible refine iteB0 ?_ ?_); (focus rfl)))))
local macro_rules | `(tactic| walk_at "lw n") => `(tactic| (try dsimp only [ent, List.map, Nat.reduceAdd, Nat.reduceSub, List.length_cons, List.length_nil, List.replicate_succ, List.replicate_zero, List.cons_append, List.nil_append, putBack, setOwn, List.getElem?_cons_zero, List.getElem?_cons_succ, List.set_cons_zero, List.set_cons_succ, Sm.nf]))
local macro_rules | `(tactic| walk_at "lw v") => `(tactic| (try simp only [pb1, pb2, pb3, pb4]))
/-! ### sums_of, stairs and deeds as lists or tuples -/
def undg (x : D) : Dd := undd (.tuple ((items x).getD []))
theorem undg_dt {x : D} {d : Dd} (h : Dt x d) : undg x = d := by
  unfold undg
  rw [show items x = some (dl d) from h]
  cases d <;> rfl
theorem DeedsG.mem {t : D} {ts : List D} {ds : List Dd} (h : DeedsG t ts ds) {x : D} (hx : x ∈ ts) : ∃ d ∈ ds, Dt x d := by
  obtain ⟨i, hi⟩ := List.mem_iff_getElem?.1 hx
  have hil := (List.getElem?_eq_some_iff.mp hi).1
  rw [h.len] at hil
  exact ⟨ds[i], List.getElem_mem hil, h.ok i x _ hi (List.getElem?_eq_getElem hil)⟩
theorem DeedsG.map {α : Type} {t : D} {ts : List D} {ds : List Dd} (h : DeedsG t ts ds) (f : Dd → α) : ts.map (fun x => f (undg x)) = ds.map f := by
  apply List.ext_getElem?
  intro i
  rw [List.getElem?_map, List.getElem?_map]
  by_cases hi : i < ts.length
  · have hj : i < ds.length := by rw [← h.len]; exact hi
    rw [List.getElem?_eq_getElem hi, List.getElem?_eq_getElem hj]
    show some (f (undg ts[i])) = some (f ds[i])
    rw [undg_dt (h.ok i _ _ (List.getElem?_eq_getElem hi) (List.getElem?_eq_getElem hj))]
  · have hj : ¬ i < ds.length := by rw [← h.len]; exact hi
    rw [List.getElem?_eq_none (by omega), List.getElem?_eq_none (by omega)]
    rfl
end Lw
-- F2
namespace Lw
open PySem PySem.Spec PyProof.Rows L2
local macro_rules | `(tactic| walk_at "lw e") => `(tactic| (repeat (first | (with_reducible refine Stp.go ?_) | (with_reducible apply Exists.intro) | ((with_reducible refine And.intro ?_ ?_); · (first | (with_reducible exact Evl.ev) | ((fail_if_success (with_reducible refine Gd.keep ?_)); rfl) | ((with_reducible apply mul_r); decide) | ((with_reducible apply mul_l); decide) | ((with_reducible apply div_i); decide) | ((with_reducible apply in_R); decide) | (exact Nat.le_of_ble_eq_true rfl) | (simp [refsOf]; done) | (exact ⟨rfl, rfl, by decide⟩) | (exact ⟨rfl, rfl, rfl⟩) | ((with_reducible apply tgN_o); (focus rfl); (focus (first | assumption | trivial))))) | ((with_reducible apply Sm.vrP); (focus rfl)) | ((with_reducible apply Sm.vrO); (focus rfl)) | ((with_reducible apply Sm.augI); (focus rfl)) | ((with_reducible refine Sm.dicE ?_ ?_); (focus decide)) | ((with_reducible apply Sm.augS); (focus rfl)) | (with_reducible refine iteTT ?_) | (with_reducible refine iteT ?_) | (with_reducible refine iteF ?_) | ((with_reducible refine iteB1 ?_ ?_); (focus rfl)) | ((with_reducible refine iteB0 ?_ ?_); (focus rfl)))))
local macro_rules | `(tactic| walk_at "lw n") => `(tactic| (try dsimp only [ent, List.map, Nat.reduceAdd, Nat.reduceSub, List.length_cons, List.length_nil, List.replicate_succ, List.replicate_zero, List.cons_append, List.nil_append, putBack, setOwn, List.getElem?_cons_zero, List.getElem?_cons_succ, List.set_cons_zero, List.set_cons_succ, Sm.nf]))
local macro_rules | `(tactic| walk_at "lw v") => `(tactic| (try simp only [pb1, pb2, pb3, pb4]))
/-! ### laps whose turns are let -/
def turns (bs : List Bool) (ds : List Dd) : List Bool := ds.foldl turn bs
structure Runs (bs : List Bool) (ds : List Dd) (bs' : List Bool) : Prop where
  fin : turns bs ds = bs'
  ok : ∀ (i : Nat) d, ds[i]? = some d → shut (turns bs (ds.take i)) d = false
theorem Runs.nil (bs : List Bool) : Runs bs [] bs := ⟨rfl, fun i d h => by simp at h⟩
end Lw
-- F2
namespace Lw
open PySem PySem.Spec PyProof.Rows L2
local macro_rules | `(tactic| walk_at "lw e") => `(tactic| (repeat (first | (with_reducible refine Stp.go ?_) | (with_reducible apply Exists.intro) | ((with_reducible refine And.intro ?_ ?_); · (first | (with_reducible exact Evl.ev) | ((fail_if_success (with_reducible refine Gd.keep ?_)); rfl) | ((with_reducible apply mul_r); decide) | ((with_reducible apply mul_l); decide) | ((with_reducible apply div_i); decide) | ((with_reducible apply in_R); decide) | (exact Nat.le_of_ble_eq_true rfl) | (simp [refsOf]; done) | (exact ⟨rfl, rfl, by decide⟩) | (exact ⟨rfl, rfl, rfl⟩) | ((with_reducible apply tgN_o); (focus rfl); (focus (first | assumption | trivial))))) | ((with_reducible apply Sm.vrP); (focus rfl)) | ((with_reducible apply Sm.vrO); (focus rfl)) | ((with_reducible apply Sm.augI); (focus rfl)) | ((with_reducible refine Sm.dicE ?_ ?_); (focus decide)) | ((with_reducible apply Sm.augS); (focus rfl)) | (with_reducible refine iteTT ?_) | (with_reducible refine iteT ?_) | (with_reducible refine iteF ?_) | ((with_reducible refine iteB1 ?_ ?_); (focus rfl)) | ((with_reducible refine iteB0 ?_ ?_); (focus rfl)))))
local macro_rules | `(tactic| walk_at "lw n") => `(tactic| (try dsimp only [ent, List.map, Nat.reduceAdd, Nat.reduceSub, List.length_cons, List.length_nil, List.replicate_succ, List.replicate_zero, List.cons_append, List.nil_append, putBack, setOwn, List.getElem?_cons_zero, List.getElem?_cons_succ, List.set_cons_zero, List.set_cons_succ, Sm.nf]))
local macro_rules | `(tactic| walk_at "lw v") => `(tactic| (try simp only [pb1, pb2, pb3, pb4]))
/-! ### sums of laps, lock by lock -/
theorem Runs.tail {bs bs' : List Bool} {d : Dd} {ds : List Dd} (h : Runs bs (d :: ds) bs') : shut bs d = false ∧ Runs (turn bs d) ds bs' := by
  refine ⟨h.ok 0 d rfl, ⟨h.fin, fun i e he => ?_⟩⟩
  exact h.ok (i + 1) e (by rw [List.getElem?_cons_succ]; exact he)
end Lw
-- F2
namespace Lw
open PySem PySem.Spec PyProof.Rows L2
local macro_rules | `(tactic| walk_at "lw e") => `(tactic| (repeat (first | (with_reducible refine Stp.go ?_) | (with_reducible apply Exists.intro) | ((with_reducible refine And.intro ?_ ?_); · (first | (with_reducible exact Evl.ev) | ((fail_if_success (with_reducible refine Gd.keep ?_)); rfl) | ((with_reducible apply mul_r); decide) | ((with_reducible apply mul_l); decide) | ((with_reducible apply div_i); decide) | ((with_reducible apply in_R); decide) | (exact Nat.le_of_ble_eq_true rfl) | (simp [refsOf]; done) | (exact ⟨rfl, rfl, by decide⟩) | (exact ⟨rfl, rfl, rfl⟩) | ((with_reducible apply tgN_o); (focus rfl); (focus (first | assumption | trivial))))) | ((with_reducible apply Sm.vrP); (focus rfl)) | ((with_reducible apply Sm.vrO); (focus rfl)) | ((with_reducible apply Sm.augI); (focus rfl)) | ((with_reducible refine Sm.dicE ?_ ?_); (focus decide)) | ((with_reducible apply Sm.augS); (focus rfl)) | (with_reducible refine iteTT ?_) | (with_reducible refine iteT ?_) | (with_reducible refine iteF ?_) | ((with_reducible refine iteB1 ?_ ?_); (focus rfl)) | ((with_reducible refine iteB0 ?_ ?_); (focus rfl)))))
local macro_rules | `(tactic| walk_at "lw n") => `(tactic| (try dsimp only [ent, List.map, Nat.reduceAdd, Nat.reduceSub, List.length_cons, List.length_nil, List.replicate_succ, List.replicate_zero, List.cons_append, List.nil_append, putBack, setOwn, List.getElem?_cons_zero, List.getElem?_cons_succ, List.set_cons_zero, List.set_cons_succ, Sm.nf]))
local macro_rules | `(tactic| walk_at "lw v") => `(tactic| (try simp only [pb1, pb2, pb3, pb4]))
end Lw
-- F2
namespace Lw
open PySem PySem.Spec PyProof.Rows L2
local macro_rules | `(tactic| walk_at "lw e") => `(tactic| (repeat (first | (with_reducible refine Stp.go ?_) | (with_reducible apply Exists.intro) | ((with_reducible refine And.intro ?_ ?_); · (first | (with_reducible exact Evl.ev) | ((fail_if_success (with_reducible refine Gd.keep ?_)); rfl) | ((with_reducible apply mul_r); decide) | ((with_reducible apply mul_l); decide) | ((with_reducible apply div_i); decide) | ((with_reducible apply in_R); decide) | (exact Nat.le_of_ble_eq_true rfl) | (simp [refsOf]; done) | (exact ⟨rfl, rfl, by decide⟩) | (exact ⟨rfl, rfl, rfl⟩) | ((with_reducible apply tgN_o); (focus rfl); (focus (first | assumption | trivial))))) | ((with_reducible apply Sm.vrP); (focus rfl)) | ((with_reducible apply Sm.vrO); (focus rfl)) | ((with_reducible apply Sm.augI); (focus rfl)) | ((with_reducible refine Sm.dicE ?_ ?_); (focus decide)) | ((with_reducible apply Sm.augS); (focus rfl)) | (with_reducible refine iteTT ?_) | (with_reducible refine iteT ?_) | (with_reducible refine iteF ?_) | ((with_reducible refine iteB1 ?_ ?_); (focus rfl)) | ((with_reducible refine iteB0 ?_ ?_); (focus rfl)))))
local macro_rules | `(tactic| walk_at "lw n") => `(tactic| (try dsimp only [ent, List.map, Nat.reduceAdd, Nat.reduceSub, List.length_cons, List.length_nil, List.replicate_succ, List.replicate_zero, List.cons_append, List.nil_append, putBack, setOwn, List.getElem?_cons_zero, List.getElem?_cons_succ, List.set_cons_zero, List.set_cons_succ, Sm.nf]))
local macro_rules | `(tactic| walk_at "lw v") => `(tactic| (try simp only [pb1, pb2, pb3, pb4]))
end Lw
-- F2
namespace Lw
open PySem PySem.Spec PyProof.Rows L2
local macro_rules | `(tactic| walk_at "lw e") => `(tactic| (repeat (first | (with_reducible refine Stp.go ?_) | (with_reducible apply Exists.intro) | ((with_reducible refine And.intro ?_ ?_); · (first | (with_reducible exact Evl.ev) | ((fail_if_success (with_reducible refine Gd.keep ?_)); rfl) | ((with_reducible apply mul_r); decide) | ((with_reducible apply mul_l); decide) | ((with_reducible apply div_i); decide) | ((with_reducible apply in_R); decide) | (exact Nat.le_of_ble_eq_true rfl) | (simp [refsOf]; done) | (exact ⟨rfl, rfl, by decide⟩) | (exact ⟨rfl, rfl, rfl⟩) | ((with_reducible apply tgN_o); (focus rfl); (focus (first | assumption | trivial))))) | ((with_reducible apply Sm.vrP); (focus rfl)) | ((with_reducible apply Sm.vrO); (focus rfl)) | ((with_reducible apply Sm.augI); (focus rfl)) | ((with_reducible refine Sm.dicE ?_ ?_); (focus decide)) | ((with_reducible apply Sm.augS); (focus rfl)) | (with_reducible refine iteTT ?_) | (with_reducible refine iteT ?_) | (with_reducible refine iteF ?_) | ((with_reducible refine iteB1 ?_ ?_); (focus rfl)) | ((with_reducible refine iteB0 ?_ ?_); (focus rfl)))))
local macro_rules | `(tactic| walk_at "lw n") => `(tactic| (try dsimp only [ent, List.map, Nat.reduceAdd, Nat.reduceSub, List.length_cons, List.length_nil, List.replicate_succ, List.replicate_zero, List.cons_append, List.nil_append, putBack, setOwn, List.getElem?_cons_zero, List.getElem?_cons_succ, List.set_cons_zero, List.set_cons_succ, Sm.nf]))
local macro_rules | `(tactic| walk_at "lw v") => `(tactic| (try simp only [pb1, pb2, pb3, pb4]))
theorem pw_9 : gPowA (.int 10) (.int 9) = some (.pure (.int 1000000000)) := rfl
theorem pw_12 : gPowA (.int 10) (.int 12) = some (.pure (.int 1000000000000)) := rfl
theorem pw_17 : gPowA (.int 10) (.int 17) = some (.pure (.int 100000000000000000)) := rfl
theorem pw_20 : gPowA (.int 10) (.int 20) = some (.pure (.int 100000000000000000000)) := rfl
theorem pw_60 : gPowA (.int 10) (.int 60) = some (.pure (.int 1000000000000000000000000000000000000000000000000000000000000)) := rfl
instance : Evl (gPowA (.int 10) (.int 9)) (.pure (.int 1000000000)) := ⟨pw_9⟩
instance : Evl (gPowA (.int 10) (.int 12)) (.pure (.int 1000000000000)) := ⟨pw_12⟩
instance : Evl (gPowA (.int 10) (.int 17)) (.pure (.int 100000000000000000)) := ⟨pw_17⟩
instance : Evl (gPowA (.int 10) (.int 20)) (.pure (.int 100000000000000000000)) := ⟨pw_20⟩
instance : Evl (gPowA (.int 10) (.int 60)) (.pure (.int 1000000000000000000000000000000000000000000000000000000000000)) := ⟨pw_60⟩
def PoundI (g : Nat) (p : Int × Int × Int) : Prop := ∃ a b s : Int, p = (a * g, (a + b) * g, s * g) ∧ 0 ≤ a ∧ a < 4 ∧ 0 ≤ b ∧ b < 30 ∧ 1 ≤ s ∧ s < 5
theorem pound_b {g : Nat} (hg : g ≤ 1000000000000000) {p : Int × Int × Int} (h : PoundI g p) : 0 ≤ p.1 ∧ p.1 ≤ p.2.1 ∧ p.2.1 ≤ 40000000000000000 := by
  obtain ⟨a, b, s, rfl, h1, h2, h3, h4, h5, h6⟩ := h
  have k1 : 0 ≤ a * g := Int.mul_nonneg h1 (by omega)
  have k2 : (a + b) * g = a * g + b * g := Int.add_mul _ _ _
  have k3 : 0 ≤ b * g := Int.mul_nonneg h3 (by omega)
  have k4 : (a + b) * g ≤ 40 * g := Int.mul_le_mul_of_nonneg_right (by omega) (by omega)
  refine ⟨k1, ?_, ?_⟩
  · show a * g ≤ (a + b) * g; omega
  · show (a + b) * g ≤ _; omega
end Lw
-- F2
-- F3
namespace Lw
open PySem PySem.Spec PyProof.Rows L2
local macro_rules | `(tactic| walk_at "lw e") => `(tactic| (repeat (first | (with_reducible refine Stp.go ?_) | (with_reducible apply Exists.intro) | ((with_reducible refine And.intro ?_ ?_); · (first | (with_reducible exact Evl.ev) | ((fail_if_success (with_reducible refine Gd.keep ?_)); rfl) | ((with_reducible apply mul_r); decide) | ((with_reducible apply mul_l); decide) | ((with_reducible apply div_i); decide) | ((with_reducible apply in_R); decide) | (exact Nat.le_of_ble_eq_true rfl) | (simp [refsOf]; done) | (exact ⟨rfl, rfl, by decide⟩) | (exact ⟨rfl, rfl, rfl⟩) | ((with_reducible apply tgN_o); (focus rfl); (focus (first | assumption | trivial))))) | ((with_reducible apply Sm.vrP); (focus rfl)) | ((with_reducible apply Sm.vrO); (focus rfl)) | ((with_reducible apply Sm.augI); (focus rfl)) | ((with_reducible refine Sm.dicE ?_ ?_); (focus decide)) | ((with_reducible apply Sm.augS); (focus rfl)) | (with_reducible refine iteTT ?_) | (with_reducible refine iteT ?_) | (with_reducible refine iteF ?_) | ((with_reducible refine iteB1 ?_ ?_); (focus rfl)) | ((with_reducible refine iteB0 ?_ ?_); (focus rfl)))))
local macro_rules | `(tactic| walk_at "lw n") => `(tactic| (try dsimp only [ent, List.map, Nat.reduceAdd, Nat.reduceSub, List.length_cons, List.length_nil, List.replicate_succ, List.replicate_zero, List.cons_append, List.nil_append, putBack, setOwn, List.getElem?_cons_zero, List.getElem?_cons_succ, List.set_cons_zero, List.set_cons_succ, Sm.nf]))
local macro_rules | `(tactic| walk_at "lw v") => `(tactic| (try simp only [pb1, pb2, pb3, pb4]))
/-! ### totals, great stairs on which nothing runs over -/
def tots (xs : List Int) : List Int := (List.range xs.length).map fun i => (xs.drop i).sum
theorem tots_get (xs : List Int) (i : Nat) : (tots xs)[i]? = if i < xs.length then some (xs.drop i).sum else none := by
  unfold tots
  rw [List.getElem?_map]
  by_cases h : i < xs.length
  · rw [List.getElem?_range h, if_pos h]; rfl
  · rw [List.getElem?_eq_none (by rw [List.length_range]; omega), if_neg h]; rfl
theorem sum_set : ∀ (xs : List Int) (k : Nat) (v : Int), k < xs.length → (xs.set k v).sum = xs.sum + (v - xs.getD k 0)
  | [], k, v, h => by simp at h
  | x :: xs, 0, v, _ => by simp; omega
  | x :: xs, k + 1, v, h => by
    rw [List.set_cons_succ, List.sum_cons, List.sum_cons, sum_set xs k v (by simpa using h)]
    simp only [List.getD_cons_succ]
    omega
theorem tots_add1 {ls : List Int} {c : Nat} {m : Int} (hc : c ≤ ls.length) : tots (add1 ls (c : Int) m) = addPre c m (tots ls) := by
  apply List.ext_getElem?
  intro a
  rw [addPre_get, tots_get, tots_get, add1_len]
  by_cases h : a < ls.length
  · rw [if_pos h, if_pos h]
    unfold add1
    by_cases h0 : (c : Int) > 0
    · rw [if_pos h0, Int.toNat_natCast]
      by_cases q : a < c
      · rw [if_pos q]
        have e : (ls.set (c - 1) (ls.getD (c - 1) 0 + m)).drop a = (ls.drop a).set (c - 1 - a) (ls.getD (c - 1) 0 + m) := by
          rw [List.drop_set, if_neg (by omega)]
        rw [e, sum_set _ _ _ (by rw [List.length_drop]; omega)]
        have e2 : (ls.drop a).getD (c - 1 - a) 0 = ls.getD (c - 1) 0 := by
          rw [List.getD_eq_getElem?_getD, List.getD_eq_getElem?_getD, List.getElem?_drop]
          congr 2
          omega
        rw [e2]
        simp only [Option.map_some]
        congr 1
        omega
      · rw [if_neg q]
        have e : (ls.set (c - 1) (ls.getD (c - 1) 0 + m)).drop a = ls.drop a := by
          rw [List.drop_set, if_pos (by omega)]
        rw [e]
    · rw [if_neg h0]
      rw [if_neg (by omega)]
  · rw [if_neg h, if_neg h]
    simp
theorem ov_flat : ∀ zs : List Pz, (∀ z ∈ zs, z.2 ≤ z.1.2.1) → ov zs = (zs.map (·.2), zs.map (fun _ => 0), 0)
  | [], _ => rfl
  | z :: zs, h => by
    have h1 := h z (by simp)
    have ih := ov_flat zs fun y hy => h y (by simp [hy])
    rw [ov, ih]
    have e : spill (z.2 + 0 - z.1.2.1) = 0 := by unfold spill; rw [if_neg (by omega)]
    dsimp only
    rw [e]
    simp
/-- the stair with the same locks and pounds so great -/
def greatS (F : Int) (ps : List (Int × Int × Int)) : List (Int × Int × Int) := ps.map fun p => (0, 2 * F, p.2.2)
theorem greatS_len (F : Int) (ps : List (Int × Int × Int)) : (greatS F ps).length = ps.length := List.length_map _
theorem great_sz (F : Int) (ps : List (Int × Int × Int)) {l : Nat} (h0 : 1 ≤ l) (h1 : l ≤ ps.length) : sz (greatS F ps) l = sz ps l := by
  have hlt : l - 1 < ps.length := by omega
  unfold sz pAt greatS
  rw [List.getD_eq_getElem?_getD, List.getElem?_map, List.getD_eq_getElem?_getD, List.getElem?_eq_getElem hlt]
  rfl
theorem great_chg (F : Int) {ps : List (Int × Int × Int)} {d : Dd} (h : d.On ps.length) : chg (greatS F ps) d = chg ps d := by
  obtain ⟨h0, h1⟩ := h
  cases d with
  | fill l => show ((l : Int), -sz (greatS F ps) l) = _; rw [great_sz F ps (l := l) h0 h1]; rfl
  | empty l => show ((l : Int) - 1, sz (greatS F ps) l) = _; rw [great_sz F ps (l := l) h0 h1]; rfl
  | raise l m => rfl
  | lower l m => rfl
theorem great_most {F : Int} {ps : List (Int × Int × Int)} {ls : List Int} (h : ∀ l ∈ ls, l ≤ 2 * F) : ∀ z ∈ (greatS F ps).zip ls, z.2 ≤ z.1.2.1 := by
  intro z hz
  have h1 := (List.of_mem_zip hz).1
  have h2 := (List.of_mem_zip hz).2
  unfold greatS at h1
  obtain ⟨p, _, e⟩ := List.mem_map.1 h1
  rw [← e]
  exact h _ h2
theorem zip_snd {F : Int} {ps : List (Int × Int × Int)} {ls : List Int} (h : ls.length = ps.length) : ((greatS F ps).zip ls).map (·.2) = ls := by
  have := List.map_snd_zip (l₁ := greatS F ps) (l₂ := ls) (by rw [greatS_len]; omega)
  exact this
/-- what stands in the midst behind so many deeds -/
structure Mid (F B : Int) (ps : List (Int × Int × Int)) (bs : List Bool) (ds : List Dd) (s : Gs) : Prop where
  len : s.1.length = ps.length
  bd : ∀ l ∈ s.1, F - B * ds.length ≤ l ∧ l ≤ F + B * ds.length
  tot : tots s.1 = ((tots (ps.map fun _ => F)).zip (sums ps ds)).map fun p => p.1 + p.2
  ch : s.2.1 = turns bs ds
  ran : s.2.2 = ps.map fun _ => 0
theorem add1_mem {ls : List Int} {p m l : Int} (h : l ∈ add1 ls p m) : l ∈ ls ∨ ∃ x ∈ ls, l = x + m := by
  unfold add1 at h
  split at h
  · rename_i hp
    by_cases hlt : p.toNat - 1 < ls.length
    · rcases List.mem_or_eq_of_mem_set h with h | h
      · exact .inl h
      · refine .inr ⟨ls.getD (p.toNat - 1) 0, ?_, h⟩
        rw [List.getD_eq_getElem?_getD, List.getElem?_eq_getElem hlt]
        exact List.getElem_mem hlt
    · rw [List.set_eq_of_length_le (by omega)] at h
      exact .inl h
  · exact .inl h
theorem zip_addPre (c : Nat) (m : Int) : ∀ (xs ys : List Int), addPre c m ((xs.zip ys).map fun p => p.1 + p.2) = (xs.zip (addPre c m ys)).map fun p => p.1 + p.2 := by
  induction c with
  | zero => intro xs ys; rfl
  | succ c ih =>
    intro xs ys
    cases xs with
    | nil => simp [addPre]
    | cons x xs =>
      cases ys with
      | nil => simp [addPre]
      | cons y ys =>
        rw [List.zip_cons_cons, List.map_cons, addPre, ih, addPre, List.zip_cons_cons, List.map_cons]
        congr 1
        dsimp only
        omega
theorem Mid.step {F B : Int} {ps : List (Int × Int × Int)} {bs : List Bool} {ds : List Dd} {d : Dd} {s : Gs} (h : Mid F B ps bs ds s) (ho : d.On ps.length) (hb : -B ≤ (chg ps d).2 ∧ (chg ps d).2 ≤ B) (hF : B * (ds.length + 1) ≤ F) : Mid F B ps bs (ds ++ [d]) (gst (greatS F ps) s d) := by
  have hc := chg_on (ps := ps) ho
  have ec : ((chg ps d).1.toNat : Int) = (chg ps d).1 := by omega
  have eB : B * ((ds ++ [d]).length : Nat) = B * ds.length + B := by
    rw [List.length_append, List.length_singleton]; push_cast; rw [Int.mul_add, Int.mul_one]
  have hB0 : 0 ≤ B := by omega
  have eB2 : B * ((ds.length : Int) + 1) = B * ds.length + B := by rw [Int.mul_add, Int.mul_one]
  have bd2 : ∀ l ∈ add1 s.1 (chg ps d).1 (chg ps d).2, F - B * ((ds ++ [d]).length : Nat) ≤ l ∧ l ≤ F + B * ((ds ++ [d]).length : Nat) := by
    intro l hm
    rw [eB]
    rcases add1_mem hm with hm | ⟨x, hx, rfl⟩
    · have := h.bd l hm; omega
    · have := h.bd x hx; omega
  have hmost : ∀ l ∈ add1 s.1 (chg ps d).1 (chg ps d).2, l ≤ 2 * F := fun l hm => by
    have := bd2 l hm
    omega
  have fl := ov_flat ((greatS F ps).zip (add1 s.1 (chg ps d).1 (chg ps d).2)) (great_most hmost)
  have ea : aft (greatS F ps) s.1 d = add1 s.1 (chg ps d).1 (chg ps d).2 := by
    unfold aft
    rw [great_chg F ho, fl]
    exact zip_snd (by rw [add1_len]; exact h.len)
  have es : spl (greatS F ps) s.1 d = ps.map fun _ => 0 := by
    unfold spl
    rw [great_chg F ho, fl]
    show List.map (fun _ => (0 : Int)) ((greatS F ps).zip (add1 s.1 (chg ps d).1 (chg ps d).2)) = _
    rw [List.map_const', List.map_const', List.length_zip, greatS_len, add1_len, h.len, Nat.min_self]
  refine ⟨?_, ?_, ?_, ?_, ?_⟩
  · show (aft (greatS F ps) s.1 d).length = _
    rw [ea, add1_len]; exact h.len
  · intro l hm
    rw [show (gst (greatS F ps) s d).1 = aft (greatS F ps) s.1 d from rfl, ea] at hm
    exact bd2 l hm
  · show tots (aft (greatS F ps) s.1 d) = _
    rw [ea, ← ec, tots_add1 (by rw [h.len]; omega), h.tot, zip_addPre, addPre_sums ps ds d _ ec.symm]
  · show turn s.2.1 d = _
    rw [h.ch]
    unfold turns
    rw [List.foldl_append]
    rfl
  · show ((s.2.2.zip (spl (greatS F ps) s.1 d)).map fun p => p.1 + p.2) = _
    rw [h.ran, es]
    generalize ps = qs
    induction qs with
    | nil => rfl
    | cons q qs ih => rw [List.map_cons, List.zip_cons_cons, List.map_cons, ih]; rfl
end Lw
-- F2
-- F3
namespace Lw
open PySem PySem.Spec PyProof.Rows L2
local macro_rules | `(tactic| walk_at "lw e") => `(tactic| (repeat (first | (with_reducible refine Stp.go ?_) | (with_reducible apply Exists.intro) | ((with_reducible refine And.intro ?_ ?_); · (first | (with_reducible exact Evl.ev) | ((fail_if_success (with_reducible refine Gd.keep ?_)); rfl) | ((with_reducible apply mul_r); decide) | ((with_reducible apply mul_l); decide) | ((with_reducible apply div_i); decide) | ((with_reducible apply in_R); decide) | (exact Nat.le_of_ble_eq_true rfl) | (simp [refsOf]; done) | (exact ⟨rfl, rfl, by decide⟩) | (exact ⟨rfl, rfl, rfl⟩) | ((with_reducible apply tgN_o); (focus rfl); (focus (first | assumption | trivial))))) | ((with_reducible apply Sm.vrP); (focus rfl)) | ((with_reducible apply Sm.vrO); (focus rfl)) | ((with_reducible apply Sm.augI); (focus rfl)) | ((with_reducible refine Sm.dicE ?_ ?_); (focus decide)) | ((with_reducible apply Sm.augS); (focus rfl)) | (with_reducible refine iteTT ?_) | (with_reducible refine iteT ?_) | (with_reducible refine iteF ?_) | ((with_reducible refine iteB1 ?_ ?_); (focus rfl)) | ((with_reducible refine iteB0 ?_ ?_); (focus rfl)))))
local macro_rules | `(tactic| walk_at "lw n") => `(tactic| (try dsimp only [ent, List.map, Nat.reduceAdd, Nat.reduceSub, List.length_cons, List.length_nil, List.replicate_succ, List.replicate_zero, List.cons_append, List.nil_append, putBack, setOwn, List.getElem?_cons_zero, List.getElem?_cons_succ, List.set_cons_zero, List.set_cons_succ, Sm.nf]))
local macro_rules | `(tactic| walk_at "lw v") => `(tactic| (try simp only [pb1, pb2, pb3, pb4]))
/-! ### running over, by the law's own loop -/
abbrev P3 := Int × Int × Int
end Lw
-- F2
-- F3
namespace Lw
open PySem PySem.Spec PyProof.Rows L2
local macro_rules | `(tactic| walk_at "lw e") => `(tactic| (repeat (first | (with_reducible refine Stp.go ?_) | (with_reducible apply Exists.intro) | ((with_reducible refine And.intro ?_ ?_); · (first | (with_reducible exact Evl.ev) | ((fail_if_success (with_reducible refine Gd.keep ?_)); rfl) | ((with_reducible apply mul_r); decide) | ((with_reducible apply mul_l); decide) | ((with_reducible apply div_i); decide) | ((with_reducible apply in_R); decide) | (exact Nat.le_of_ble_eq_true rfl) | (simp [refsOf]; done) | (exact ⟨rfl, rfl, by decide⟩) | (exact ⟨rfl, rfl, rfl⟩) | ((with_reducible apply tgN_o); (focus rfl); (focus (first | assumption | trivial))))) | ((with_reducible apply Sm.vrP); (focus rfl)) | ((with_reducible apply Sm.vrO); (focus rfl)) | ((with_reducible apply Sm.augI); (focus rfl)) | ((with_reducible refine Sm.dicE ?_ ?_); (focus decide)) | ((with_reducible apply Sm.augS); (focus rfl)) | (with_reducible refine iteTT ?_) | (with_reducible refine iteT ?_) | (with_reducible refine iteF ?_) | ((with_reducible refine iteB1 ?_ ?_); (focus rfl)) | ((with_reducible refine iteB0 ?_ ?_); (focus rfl)))))
local macro_rules | `(tactic| walk_at "lw n") => `(tactic| (try dsimp only [ent, List.map, Nat.reduceAdd, Nat.reduceSub, List.length_cons, List.length_nil, List.replicate_succ, List.replicate_zero, List.cons_append, List.nil_append, putBack, setOwn, List.getElem?_cons_zero, List.getElem?_cons_succ, List.set_cons_zero, List.set_cons_succ, Sm.nf]))
local macro_rules | `(tactic| walk_at "lw v") => `(tactic| (try simp only [pb1, pb2, pb3, pb4]))
/-! ### the law's own step -/
/-- what takes takes something -/
def Takes (ps : List P3) : Dd → Prop
  | .fill l => 1 ≤ sz ps l
  | .lower _ m => 1 ≤ m
  | .empty l => 1 ≤ sz ps l
  | .raise _ m => 1 ≤ m
end Lw
-- F2
-- F3
namespace Lw
open PySem PySem.Spec PyProof.Rows L2
local macro_rules | `(tactic| walk_at "lw e") => `(tactic| (repeat (first | (with_reducible refine Stp.go ?_) | (with_reducible apply Exists.intro) | ((with_reducible refine And.intro ?_ ?_); · (first | (with_reducible exact Evl.ev) | ((fail_if_success (with_reducible refine Gd.keep ?_)); rfl) | ((with_reducible apply mul_r); decide) | ((with_reducible apply mul_l); decide) | ((with_reducible apply div_i); decide) | ((with_reducible apply in_R); decide) | (exact Nat.le_of_ble_eq_true rfl) | (simp [refsOf]; done) | (exact ⟨rfl, rfl, by decide⟩) | (exact ⟨rfl, rfl, rfl⟩) | ((with_reducible apply tgN_o); (focus rfl); (focus (first | assumption | trivial))))) | ((with_reducible apply Sm.vrP); (focus rfl)) | ((with_reducible apply Sm.vrO); (focus rfl)) | ((with_reducible apply Sm.augI); (focus rfl)) | ((with_reducible refine Sm.dicE ?_ ?_); (focus decide)) | ((with_reducible apply Sm.augS); (focus rfl)) | (with_reducible refine iteTT ?_) | (with_reducible refine iteT ?_) | (with_reducible refine iteF ?_) | ((with_reducible refine iteB1 ?_ ?_); (focus rfl)) | ((with_reducible refine iteB0 ?_ ?_); (focus rfl)))))
local macro_rules | `(tactic| walk_at "lw n") => `(tactic| (try dsimp only [ent, List.map, Nat.reduceAdd, Nat.reduceSub, List.length_cons, List.length_nil, List.replicate_succ, List.replicate_zero, List.cons_append, List.nil_append, putBack, setOwn, List.getElem?_cons_zero, List.getElem?_cons_succ, List.set_cons_zero, List.set_cons_succ, Sm.nf]))
local macro_rules | `(tactic| walk_at "lw v") => `(tactic| (try simp only [pb1, pb2, pb3, pb4]))
/-! ### the law's own walk -/
def okD (s : Gs) : D := .tuple [sD s.1 s.2.1, it s.2.2, .none]
def badD (s : Gs) (i : Nat) (w : Str) (a : Nat) : D := .tuple [sD s.1 s.2.1, it s.2.2, .tuple [.int i, .str w, .int a]]
def wk (ps : List P3) (loose : Bool) : Gs → List Dd → Nat → D
  | s, [], _ => okD s
  | s, d :: ds, i => if loose = false ∧ shut s.2.1 d = true then badD s i "shut" d.at
    else if loose = false ∧ dry ps s.1 d = true then badD s i "dry" d.at else wk ps loose (gst ps s d) ds (i + 1)
end Lw
-- F2
-- F3
namespace Lw
open PySem PySem.Spec PyProof.Rows L2
local macro_rules | `(tactic| walk_at "lw e") => `(tactic| (repeat (first | (with_reducible refine Stp.go ?_) | (with_reducible apply Exists.intro) | ((with_reducible refine And.intro ?_ ?_); · (first | (with_reducible exact Evl.ev) | ((fail_if_success (with_reducible refine Gd.keep ?_)); rfl) | ((with_reducible apply mul_r); decide) | ((with_reducible apply mul_l); decide) | ((with_reducible apply div_i); decide) | ((with_reducible apply in_R); decide) | (exact Nat.le_of_ble_eq_true rfl) | (simp [refsOf]; done) | (exact ⟨rfl, rfl, by decide⟩) | (exact ⟨rfl, rfl, rfl⟩) | ((with_reducible apply tgN_o); (focus rfl); (focus (first | assumption | trivial))))) | ((with_reducible apply Sm.vrP); (focus rfl)) | ((with_reducible apply Sm.vrO); (focus rfl)) | ((with_reducible apply Sm.augI); (focus rfl)) | ((with_reducible refine Sm.dicE ?_ ?_); (focus decide)) | ((with_reducible apply Sm.augS); (focus rfl)) | (with_reducible refine iteTT ?_) | (with_reducible refine iteT ?_) | (with_reducible refine iteF ?_) | ((with_reducible refine iteB1 ?_ ?_); (focus rfl)) | ((with_reducible refine iteB0 ?_ ?_); (focus rfl)))))
local macro_rules | `(tactic| walk_at "lw n") => `(tactic| (try dsimp only [ent, List.map, Nat.reduceAdd, Nat.reduceSub, List.length_cons, List.length_nil, List.replicate_succ, List.replicate_zero, List.cons_append, List.nil_append, putBack, setOwn, List.getElem?_cons_zero, List.getElem?_cons_succ, List.set_cons_zero, List.set_cons_succ, Sm.nf]))
local macro_rules | `(tactic| walk_at "lw v") => `(tactic| (try simp only [pb1, pb2, pb3, pb4]))
/-! ### tables -/
abbrev Tab := List (List Int)
def fmin : List Int → Int
  | [] => 0
  | x :: xs => xs.foldl min x
def ev (row parts : List Int) : Int := fmin (List.zipWith (· + ·) row parts)
def ledT : Tab → List Int → List Int
  | [], _ => []
  | row :: rows, parts => ev row parts :: ledT rows parts.tail
def hd0 (t : Tab) : List Int := t.headD [0]
def Shp : Nat → Tab → Prop
  | 0, t => t = []
  | n + 1, t => ∃ row rows, t = row :: rows ∧ row.length = n + 2 ∧ Shp n rows
theorem Shp.len : ∀ {n : Nat} {t : Tab}, Shp n t → t.length = n
  | 0, _, h => by rw [show _ = [] from h]; rfl
  | n + 1, _, ⟨row, rows, e, _, h⟩ => by rw [e, List.length_cons, h.len]
theorem Shp.hd : ∀ {n : Nat} {t : Tab}, Shp n t → (hd0 t).length = n + 1
  | 0, _, h => by rw [show _ = [] from h]; rfl
  | n + 1, _, ⟨row, rows, e, h, _⟩ => by rw [e]; exact h
/-- levels behind deeds, leasts and chambers left aside -/
def lvs (ps : List P3) (ls : List Int) (ds : List Dd) : List Int := ds.foldl (aft ps) ls
end Lw
-- F2
-- F3
namespace Lw
open PySem PySem.Spec PyProof.Rows L2
local macro_rules | `(tactic| walk_at "lw e") => `(tactic| (repeat (first | (with_reducible refine Stp.go ?_) | (with_reducible apply Exists.intro) | ((with_reducible refine And.intro ?_ ?_); · (first | (with_reducible exact Evl.ev) | ((fail_if_success (with_reducible refine Gd.keep ?_)); rfl) | ((with_reducible apply mul_r); decide) | ((with_reducible apply mul_l); decide) | ((with_reducible apply div_i); decide) | ((with_reducible apply in_R); decide) | (exact Nat.le_of_ble_eq_true rfl) | (simp [refsOf]; done) | (exact ⟨rfl, rfl, by decide⟩) | (exact ⟨rfl, rfl, rfl⟩) | ((with_reducible apply tgN_o); (focus rfl); (focus (first | assumption | trivial))))) | ((with_reducible apply Sm.vrP); (focus rfl)) | ((with_reducible apply Sm.vrO); (focus rfl)) | ((with_reducible apply Sm.augI); (focus rfl)) | ((with_reducible refine Sm.dicE ?_ ?_); (focus decide)) | ((with_reducible apply Sm.augS); (focus rfl)) | (with_reducible refine iteTT ?_) | (with_reducible refine iteT ?_) | (with_reducible refine iteF ?_) | ((with_reducible refine iteB1 ?_ ?_); (focus rfl)) | ((with_reducible refine iteB0 ?_ ?_); (focus rfl)))))
local macro_rules | `(tactic| walk_at "lw n") => `(tactic| (try dsimp only [ent, List.map, Nat.reduceAdd, Nat.reduceSub, List.length_cons, List.length_nil, List.replicate_succ, List.replicate_zero, List.cons_append, List.nil_append, putBack, setOwn, List.getElem?_cons_zero, List.getElem?_cons_succ, List.set_cons_zero, List.set_cons_succ, Sm.nf]))
local macro_rules | `(tactic| walk_at "lw v") => `(tactic| (try simp only [pb1, pb2, pb3, pb4]))
def tabD (t : Tab) : D := .tuple (t.map it)
structure TabG (tv : D) (xs : List D) (t : Tab) : Prop where
  its : items tv = some xs
  len : xs.length = t.length
  ok : ∀ (i : Nat) x r, xs[i]? = some x → t[i]? = some r → Seq x r
theorem TabG.of (t : Tab) : TabG (tabD t) (t.map it) t := ⟨rfl, List.length_map _, fun i x r h1 h2 => by
  rw [List.getElem?_map, h2] at h1
  cases h1
  exact .inr rfl⟩
/-! ### table_behind -/
theorem Shp.dropS : ∀ {n : Nat} {t : Tab} (k : Nat), Shp n t → k ≤ n → Shp (n - k) (t.drop k)
  | n, t, 0, h, _ => h
  | 0, t, k + 1, h, hk => by omega
  | n + 1, t, k + 1, h, hk => by
    obtain ⟨row, rows, rfl, _, h2⟩ := h
    rw [List.drop_succ_cons, show n + 1 - (k + 1) = n - k by omega]
    exact Shp.dropS k h2 (by omega)
theorem Shp.row {n : Nat} {t : Tab} {k : Nat} (h : Shp n t) (hk : k < n) : ∃ a r, t.drop k = (a :: r) :: t.drop (k + 1) ∧ t[k]? = some (a :: r) ∧ r.length = n - k := by
  have hd := h.dropS k (by omega)
  rw [show n - k = (n - k - 1) + 1 by omega] at hd
  obtain ⟨row, rows, e, hl, _⟩ := hd
  have hlt : k < t.length := by rw [h.len]; exact hk
  rw [List.drop_eq_getElem_cons hlt] at e ⊢
  injection e with e1 e2
  cases row with
  | nil => simp at hl
  | cons a r => exact ⟨a, r, by rw [e1], by rw [List.getElem?_eq_getElem hlt, e1], by rw [List.length_cons] at hl; omega⟩
end Lw
-- F2
-- F3
namespace Lw
open PySem PySem.Spec PyProof.Rows L2
local macro_rules | `(tactic| walk_at "lw e") => `(tactic| (repeat (first | (with_reducible refine Stp.go ?_) | (with_reducible apply Exists.intro) | ((with_reducible refine And.intro ?_ ?_); · (first | (with_reducible exact Evl.ev) | ((fail_if_success (with_reducible refine Gd.keep ?_)); rfl) | ((with_reducible apply mul_r); decide) | ((with_reducible apply mul_l); decide) | ((with_reducible apply div_i); decide) | ((with_reducible apply in_R); decide) | (exact Nat.le_of_ble_eq_true rfl) | (simp [refsOf]; done) | (exact ⟨rfl, rfl, by decide⟩) | (exact ⟨rfl, rfl, rfl⟩) | ((with_reducible apply tgN_o); (focus rfl); (focus (first | assumption | trivial))))) | ((with_reducible apply Sm.vrP); (focus rfl)) | ((with_reducible apply Sm.vrO); (focus rfl)) | ((with_reducible apply Sm.augI); (focus rfl)) | ((with_reducible refine Sm.dicE ?_ ?_); (focus decide)) | ((with_reducible apply Sm.augS); (focus rfl)) | (with_reducible refine iteTT ?_) | (with_reducible refine iteT ?_) | (with_reducible refine iteF ?_) | ((with_reducible refine iteB1 ?_ ?_); (focus rfl)) | ((with_reducible refine iteB0 ?_ ?_); (focus rfl)))))
local macro_rules | `(tactic| walk_at "lw n") => `(tactic| (try dsimp only [ent, List.map, Nat.reduceAdd, Nat.reduceSub, List.length_cons, List.length_nil, List.replicate_succ, List.replicate_zero, List.cons_append, List.nil_append, putBack, setOwn, List.getElem?_cons_zero, List.getElem?_cons_succ, List.set_cons_zero, List.set_cons_succ, Sm.nf]))
local macro_rules | `(tactic| walk_at "lw v") => `(tactic| (try simp only [pb1, pb2, pb3, pb4]))
/-! ### led -/
/-! ### is_table of a table -/
/-! ### totals and levels -/
end Lw
-- F2
-- F3
namespace Lw
open PySem PySem.Spec PyProof.Rows L2
local macro_rules | `(tactic| walk_at "lw e") => `(tactic| (repeat (first | (with_reducible refine Stp.go ?_) | (with_reducible apply Exists.intro) | ((with_reducible refine And.intro ?_ ?_); · (first | (with_reducible exact Evl.ev) | ((fail_if_success (with_reducible refine Gd.keep ?_)); rfl) | ((with_reducible apply mul_r); decide) | ((with_reducible apply mul_l); decide) | ((with_reducible apply div_i); decide) | ((with_reducible apply in_R); decide) | (exact Nat.le_of_ble_eq_true rfl) | (simp [refsOf]; done) | (exact ⟨rfl, rfl, by decide⟩) | (exact ⟨rfl, rfl, rfl⟩) | ((with_reducible apply tgN_o); (focus rfl); (focus (first | assumption | trivial))))) | ((with_reducible apply Sm.vrP); (focus rfl)) | ((with_reducible apply Sm.vrO); (focus rfl)) | ((with_reducible apply Sm.augI); (focus rfl)) | ((with_reducible refine Sm.dicE ?_ ?_); (focus decide)) | ((with_reducible apply Sm.augS); (focus rfl)) | (with_reducible refine iteTT ?_) | (with_reducible refine iteT ?_) | (with_reducible refine iteF ?_) | ((with_reducible refine iteB1 ?_ ?_); (focus rfl)) | ((with_reducible refine iteB0 ?_ ?_); (focus rfl)))))
local macro_rules | `(tactic| walk_at "lw n") => `(tactic| (try dsimp only [ent, List.map, Nat.reduceAdd, Nat.reduceSub, List.length_cons, List.length_nil, List.replicate_succ, List.replicate_zero, List.cons_append, List.nil_append, putBack, setOwn, List.getElem?_cons_zero, List.getElem?_cons_succ, List.set_cons_zero, List.set_cons_succ, Sm.nf]))
local macro_rules | `(tactic| walk_at "lw v") => `(tactic| (try simp only [pb1, pb2, pb3, pb4]))
/-! ### how great a table's numbers are -/
/-! ### a table is read off -/
theorem fmin_mem : ∀ {zs : List Int}, zs ≠ [] → fmin zs ∈ zs
  | [], h => absurd rfl h
  | z :: zs, _ => by
    rcases foldl_min_mem zs z with e | e
    · show zs.foldl min z ∈ _; rw [e]; simp
    · exact List.mem_cons_of_mem _ e
theorem fmin_le : ∀ {zs : List Int} {x : Int}, x ∈ zs → fmin zs ≤ x
  | z :: zs, x, h => by
    have := foldl_min_le zs z
    rcases List.mem_cons.1 h with rfl | h
    · exact this.1
    · exact this.2 x h
end Lw
-- F2
-- F3
namespace Lw
open PySem PySem.Spec PyProof.Rows L2
local macro_rules | `(tactic| walk_at "lw e") => `(tactic| (repeat (first | (with_reducible refine Stp.go ?_) | (with_reducible apply Exists.intro) | ((with_reducible refine And.intro ?_ ?_); · (first | (with_reducible exact Evl.ev) | ((fail_if_success (with_reducible refine Gd.keep ?_)); rfl) | ((with_reducible apply mul_r); decide) | ((with_reducible apply mul_l); decide) | ((with_reducible apply div_i); decide) | ((with_reducible apply in_R); decide) | (exact Nat.le_of_ble_eq_true rfl) | (simp [refsOf]; done) | (exact ⟨rfl, rfl, by decide⟩) | (exact ⟨rfl, rfl, rfl⟩) | ((with_reducible apply tgN_o); (focus rfl); (focus (first | assumption | trivial))))) | ((with_reducible apply Sm.vrP); (focus rfl)) | ((with_reducible apply Sm.vrO); (focus rfl)) | ((with_reducible apply Sm.augI); (focus rfl)) | ((with_reducible refine Sm.dicE ?_ ?_); (focus decide)) | ((with_reducible apply Sm.augS); (focus rfl)) | (with_reducible refine iteTT ?_) | (with_reducible refine iteT ?_) | (with_reducible refine iteF ?_) | ((with_reducible refine iteB1 ?_ ?_); (focus rfl)) | ((with_reducible refine iteB0 ?_ ?_); (focus rfl)))))
local macro_rules | `(tactic| walk_at "lw n") => `(tactic| (try dsimp only [ent, List.map, Nat.reduceAdd, Nat.reduceSub, List.length_cons, List.length_nil, List.replicate_succ, List.replicate_zero, List.cons_append, List.nil_append, putBack, setOwn, List.getElem?_cons_zero, List.getElem?_cons_succ, List.set_cons_zero, List.set_cons_succ, Sm.nf]))
local macro_rules | `(tactic| walk_at "lw v") => `(tactic| (try simp only [pb1, pb2, pb3, pb4]))
/-! ### the law's own reading of a table -/
def lowsB (n : Nat) : List Bool := List.replicate n false
theorem lows_ch (n : Nat) : List.replicate n (PyData.str "low") = (lowsB n).map chD := by
  unfold lowsB
  rw [List.map_replicate]
  rfl
theorem fa1 {ς : En} {a : Nat} (h1 : free ς a = true) : freeAll ς [a] = true := by
  simp only [freeAll, List.all_cons, List.all_nil, Bool.and_true]; exact h1
end Lw
-- F2
-- F3
namespace Lw
open PySem PySem.Spec PyProof.Rows L2
local macro_rules | `(tactic| walk_at "lw e") => `(tactic| (repeat (first | (with_reducible refine Stp.go ?_) | (with_reducible apply Exists.intro) | ((with_reducible refine And.intro ?_ ?_); · (first | (with_reducible exact Evl.ev) | ((fail_if_success (with_reducible refine Gd.keep ?_)); rfl) | ((with_reducible apply mul_r); decide) | ((with_reducible apply mul_l); decide) | ((with_reducible apply div_i); decide) | ((with_reducible apply in_R); decide) | (exact Nat.le_of_ble_eq_true rfl) | (simp [refsOf]; done) | (exact ⟨rfl, rfl, by decide⟩) | (exact ⟨rfl, rfl, rfl⟩) | ((with_reducible apply tgN_o); (focus rfl); (focus (first | assumption | trivial))))) | ((with_reducible apply Sm.vrP); (focus rfl)) | ((with_reducible apply Sm.vrO); (focus rfl)) | ((with_reducible apply Sm.augI); (focus rfl)) | ((with_reducible refine Sm.dicE ?_ ?_); (focus decide)) | ((with_reducible apply Sm.augS); (focus rfl)) | (with_reducible refine iteTT ?_) | (with_reducible refine iteT ?_) | (with_reducible refine iteF ?_) | ((with_reducible refine iteB1 ?_ ?_); (focus rfl)) | ((with_reducible refine iteB0 ?_ ?_); (focus rfl)))))
local macro_rules | `(tactic| walk_at "lw n") => `(tactic| (try dsimp only [ent, List.map, Nat.reduceAdd, Nat.reduceSub, List.length_cons, List.length_nil, List.replicate_succ, List.replicate_zero, List.cons_append, List.nil_append, putBack, setOwn, List.getElem?_cons_zero, List.getElem?_cons_succ, List.set_cons_zero, List.set_cons_succ, Sm.nf]))
local macro_rules | `(tactic| walk_at "lw v") => `(tactic| (try simp only [pb1, pb2, pb3, pb4]))
theorem deeds_gen (ds : List Dd) : DeedsG (.list (ds.map dd)) (ds.map dd) ds := ⟨rfl, List.length_map _, fun i x d h1 h2 => by
  rw [List.getElem?_map, h2] at h1
  cases h1
  exact Dt.of d⟩
/-- deeds whose numbers are small -/
def D9 (g : Nat) : Dd → Prop
  | .raise _ m => 1 ≤ m ∧ m ≤ 9 * g
  | .lower _ m => 1 ≤ m ∧ m ≤ 9 * g
  | _ => True
theorem deed_of {n g : Nat} {x : D} (h : DeedP n g x) : ∃ d : Dd, x = dd d ∧ d.On n ∧ D9 g d := by
  obtain ⟨a, m, h1, h2, h3, h4, h⟩ := h
  obtain ⟨k, rfl⟩ : ∃ k : Nat, a = k := ⟨a.toNat, by omega⟩
  have o : 1 ≤ k ∧ k ≤ n := ⟨by omega, by omega⟩
  rcases h with rfl | rfl | rfl | rfl
  · exact ⟨.fill k, rfl, o, trivial⟩
  · exact ⟨.empty k, rfl, o, trivial⟩
  · exact ⟨.raise k m, rfl, o, h3, h4⟩
  · exact ⟨.lower k m, rfl, o, h3, h4⟩
theorem sz_b {g : Nat} (hg1 : 1 ≤ g) (hg : g ≤ 1000000000000000) {ps : List (Int × Int × Int)} (hp : ∀ p ∈ ps, PoundI g p) {l : Nat} (h0 : 1 ≤ l) (h1 : l ≤ ps.length) : 1 ≤ sz ps l ∧ sz ps l ≤ 10000000000000000 := by
  have hlt : l - 1 < ps.length := by omega
  have hm : pAt ps (l - 1) ∈ ps := by
    unfold pAt
    rw [List.getD_eq_getElem?_getD, List.getElem?_eq_getElem hlt]
    exact List.getElem_mem hlt
  obtain ⟨a, b, s, e, _, _, _, _, h5, h6⟩ := hp _ hm
  unfold sz
  rw [e]
  show 1 ≤ s * (g : Int) ∧ s * (g : Int) ≤ _
  have e1 : (1 : Int) * g ≤ s * g := Int.mul_le_mul_of_nonneg_right h5 (by omega)
  have e2 : s * g ≤ 5 * (g : Int) := Int.mul_le_mul_of_nonneg_right (by omega) (by omega)
  omega
/-- deeds of a stair, at most so many -/
def LotN (N n g : Nat) (ds : List Dd) : Prop := ds.length ≤ N ∧ ∀ d ∈ ds, d.On n ∧ D9 g d
theorem takes_of {g : Nat} (hg1 : 1 ≤ g) (hg : g ≤ 1000000000000000) {ps : List P3} (hp : ∀ p ∈ ps, PoundI g p) {d : Dd} (h : d.On ps.length ∧ D9 g d) : Takes ps d := by
  obtain ⟨⟨h1, h2⟩, h3⟩ := h
  cases d with
  | fill l => exact (sz_b hg1 hg hp (l := l) h1 h2).1
  | empty l => exact (sz_b hg1 hg hp (l := l) h1 h2).1
  | raise l m => have hm : 1 ≤ m ∧ m ≤ 9 * g := h3; exact hm.1
  | lower l m => have hm : 1 ≤ m ∧ m ≤ 9 * g := h3; exact hm.1
/-! ### the first numbers of a table's rows -/
/-! ### any levels -/
end Lw
-- F2
-- F3
namespace Lw
open PySem PySem.Spec PyProof.Rows L2
local macro_rules | `(tactic| walk_at "lw e") => `(tactic| (repeat (first | (with_reducible refine Stp.go ?_) | (with_reducible apply Exists.intro) | ((with_reducible refine And.intro ?_ ?_); · (first | (with_reducible exact Evl.ev) | ((fail_if_success (with_reducible refine Gd.keep ?_)); rfl) | ((with_reducible apply mul_r); decide) | ((with_reducible apply mul_l); decide) | ((with_reducible apply div_i); decide) | ((with_reducible apply in_R); decide) | (exact Nat.le_of_ble_eq_true rfl) | (simp [refsOf]; done) | (exact ⟨rfl, rfl, by decide⟩) | (exact ⟨rfl, rfl, rfl⟩) | ((with_reducible apply tgN_o); (focus rfl); (focus (first | assumption | trivial))))) | ((with_reducible apply Sm.vrP); (focus rfl)) | ((with_reducible apply Sm.vrO); (focus rfl)) | ((with_reducible apply Sm.augI); (focus rfl)) | ((with_reducible refine Sm.dicE ?_ ?_); (focus decide)) | ((with_reducible apply Sm.augS); (focus rfl)) | (with_reducible refine iteTT ?_) | (with_reducible refine iteT ?_) | (with_reducible refine iteF ?_) | ((with_reducible refine iteB1 ?_ ?_); (focus rfl)) | ((with_reducible refine iteB0 ?_ ?_); (focus rfl)))))
local macro_rules | `(tactic| walk_at "lw n") => `(tactic| (try dsimp only [ent, List.map, Nat.reduceAdd, Nat.reduceSub, List.length_cons, List.length_nil, List.replicate_succ, List.replicate_zero, List.cons_append, List.nil_append, putBack, setOwn, List.getElem?_cons_zero, List.getElem?_cons_succ, List.set_cons_zero, List.set_cons_succ, Sm.nf]))
local macro_rules | `(tactic| walk_at "lw v") => `(tactic| (try simp only [pb1, pb2, pb3, pb4]))
/-! ### tables behind one another -/
theorem getD_some {xs : List Int} {i : Nat} (h : i < xs.length) : xs[i]? = some (xs.getD i 0) := by
  rw [List.getD_eq_getElem?_getD, List.getElem?_eq_getElem h]; rfl
/-! ### so often -/
def iter {α : Type} (f : α → α) : Nat → α → α
  | 0, x => x
  | k + 1, x => iter f k (f x)
def Led (t : Tab) (T : List Int) : List Int := ledT t (T ++ [0])
/-- whether a bit is set -/
def bit (m i : Nat) : Bool := m / 2 ^ i % 2 != 0
end Lw
-- F2
-- F3
namespace Lw
open PySem PySem.Spec PyProof.Rows L2
local macro_rules | `(tactic| walk_at "lw e") => `(tactic| (repeat (first | (with_reducible refine Stp.go ?_) | (with_reducible apply Exists.intro) | ((with_reducible refine And.intro ?_ ?_); · (first | (with_reducible exact Evl.ev) | ((fail_if_success (with_reducible refine Gd.keep ?_)); rfl) | ((with_reducible apply mul_r); decide) | ((with_reducible apply mul_l); decide) | ((with_reducible apply div_i); decide) | ((with_reducible apply in_R); decide) | (exact Nat.le_of_ble_eq_true rfl) | (simp [refsOf]; done) | (exact ⟨rfl, rfl, by decide⟩) | (exact ⟨rfl, rfl, rfl⟩) | ((with_reducible apply tgN_o); (focus rfl); (focus (first | assumption | trivial))))) | ((with_reducible apply Sm.vrP); (focus rfl)) | ((with_reducible apply Sm.vrO); (focus rfl)) | ((with_reducible apply Sm.augI); (focus rfl)) | ((with_reducible refine Sm.dicE ?_ ?_); (focus decide)) | ((with_reducible apply Sm.augS); (focus rfl)) | (with_reducible refine iteTT ?_) | (with_reducible refine iteT ?_) | (with_reducible refine iteF ?_) | ((with_reducible refine iteB1 ?_ ?_); (focus rfl)) | ((with_reducible refine iteB0 ?_ ?_); (focus rfl)))))
local macro_rules | `(tactic| walk_at "lw n") => `(tactic| (try dsimp only [ent, List.map, Nat.reduceAdd, Nat.reduceSub, List.length_cons, List.length_nil, List.replicate_succ, List.replicate_zero, List.cons_append, List.nil_append, putBack, setOwn, List.getElem?_cons_zero, List.getElem?_cons_succ, List.set_cons_zero, List.set_cons_succ, Sm.nf]))
local macro_rules | `(tactic| walk_at "lw v") => `(tactic| (try simp only [pb1, pb2, pb3, pb4]))
theorem TabG.ix {tv : D} {xs : List D} {t : Tab} (h : TabG tv xs t) {i : Nat} (hi : i < t.length) : ∃ x, gIx tv (.int (i : Int)) = some (.pure x) ∧ Seq x (t.getD i []) := by
  have hl := h.len
  refine ⟨xs.getD i .none, ?_, ?_⟩
  · rw [ix_items h.its (by omega) (by omega), Int.toNat_natCast]
  · refine h.ok i _ _ ?_ ?_
    · rw [List.getD_eq_getElem?_getD, List.getElem?_eq_getElem (by omega)]; rfl
    · rw [List.getD_eq_getElem?_getD, List.getElem?_eq_getElem hi]; rfl
end Lw
-- F2
-- F3
namespace Lw
open PySem PySem.Spec PyProof.Rows L2
local macro_rules | `(tactic| walk_at "lw e") => `(tactic| (repeat (first | (with_reducible refine Stp.go ?_) | (with_reducible apply Exists.intro) | ((with_reducible refine And.intro ?_ ?_); · (first | (with_reducible exact Evl.ev) | ((fail_if_success (with_reducible refine Gd.keep ?_)); rfl) | ((with_reducible apply mul_r); decide) | ((with_reducible apply mul_l); decide) | ((with_reducible apply div_i); decide) | ((with_reducible apply in_R); decide) | (exact Nat.le_of_ble_eq_true rfl) | (simp [refsOf]; done) | (exact ⟨rfl, rfl, by decide⟩) | (exact ⟨rfl, rfl, rfl⟩) | ((with_reducible apply tgN_o); (focus rfl); (focus (first | assumption | trivial))))) | ((with_reducible apply Sm.vrP); (focus rfl)) | ((with_reducible apply Sm.vrO); (focus rfl)) | ((with_reducible apply Sm.augI); (focus rfl)) | ((with_reducible refine Sm.dicE ?_ ?_); (focus decide)) | ((with_reducible apply Sm.augS); (focus rfl)) | (with_reducible refine iteTT ?_) | (with_reducible refine iteT ?_) | (with_reducible refine iteF ?_) | ((with_reducible refine iteB1 ?_ ?_); (focus rfl)) | ((with_reducible refine iteB0 ?_ ?_); (focus rfl)))))
local macro_rules | `(tactic| walk_at "lw n") => `(tactic| (try dsimp only [ent, List.map, Nat.reduceAdd, Nat.reduceSub, List.length_cons, List.length_nil, List.replicate_succ, List.replicate_zero, List.cons_append, List.nil_append, putBack, setOwn, List.getElem?_cons_zero, List.getElem?_cons_succ, List.set_cons_zero, List.set_cons_succ, Sm.nf]))
local macro_rules | `(tactic| walk_at "lw v") => `(tactic| (try simp only [pb1, pb2, pb3, pb4]))
/-- how many doubles are wanted -/
def dn (m : Nat) : Nat := Builtin.Int.intBits (m : Int) - 1 + 1
end Lw
-- F2
-- F3
namespace Lw
open PySem PySem.Spec PyProof.Rows L2
local macro_rules | `(tactic| walk_at "lw e") => `(tactic| (repeat (first | (with_reducible refine Stp.go ?_) | (with_reducible apply Exists.intro) | ((with_reducible refine And.intro ?_ ?_); · (first | (with_reducible exact Evl.ev) | ((fail_if_success (with_reducible refine Gd.keep ?_)); rfl) | ((with_reducible apply mul_r); decide) | ((with_reducible apply mul_l); decide) | ((with_reducible apply div_i); decide) | ((with_reducible apply in_R); decide) | (exact Nat.le_of_ble_eq_true rfl) | (simp [refsOf]; done) | (exact ⟨rfl, rfl, by decide⟩) | (exact ⟨rfl, rfl, rfl⟩) | ((with_reducible apply tgN_o); (focus rfl); (focus (first | assumption | trivial))))) | ((with_reducible apply Sm.vrP); (focus rfl)) | ((with_reducible apply Sm.vrO); (focus rfl)) | ((with_reducible apply Sm.augI); (focus rfl)) | ((with_reducible refine Sm.dicE ?_ ?_); (focus decide)) | ((with_reducible apply Sm.augS); (focus rfl)) | (with_reducible refine iteTT ?_) | (with_reducible refine iteT ?_) | (with_reducible refine iteF ?_) | ((with_reducible refine iteB1 ?_ ?_); (focus rfl)) | ((with_reducible refine iteB0 ?_ ?_); (focus rfl)))))
local macro_rules | `(tactic| walk_at "lw n") => `(tactic| (try dsimp only [ent, List.map, Nat.reduceAdd, Nat.reduceSub, List.length_cons, List.length_nil, List.replicate_succ, List.replicate_zero, List.cons_append, List.nil_append, putBack, setOwn, List.getElem?_cons_zero, List.getElem?_cons_succ, List.set_cons_zero, List.set_cons_succ, Sm.nf]))
local macro_rules | `(tactic| walk_at "lw v") => `(tactic| (try simp only [pb1, pb2, pb3, pb4]))
/-! ### levels none above its most -/
def Below (ps : List P3) (ls : List Int) : Prop := ls.length = ps.length ∧ ∀ z ∈ ps.zip ls, z.2 ≤ z.1.2.1
theorem ov_most : ∀ (ps : List P3) (ls : List Int), ls.length = ps.length → Below ps (ov (ps.zip ls)).1
  | [], [], _ => ⟨rfl, fun z h => by cases h⟩
  | p :: ps, l :: ls, h => by
    have ih := ov_most ps ls (by simpa using h)
    rw [List.zip_cons_cons, ov]
    refine ⟨by rw [List.length_cons, List.length_cons, ih.1], fun z hz => ?_⟩
    rw [List.zip_cons_cons] at hz
    rcases List.mem_cons.1 hz with rfl | hz
    · dsimp only
      unfold spill
      split <;> omega
    · exact ih.2 z hz
theorem aft_below {ps : List P3} {ls : List Int} {d : Dd} (hl : ls.length = ps.length) : Below ps (aft ps ls d) := ov_most ps _ (by rw [add1_len]; exact hl)
theorem lvs_below {ps : List P3} : ∀ (ds : List Dd) {ls : List Int}, Below ps ls → Below ps (lvs ps ls ds)
  | [], ls, h => h
  | d :: ds, ls, h => lvs_below ds (aft_below h.1)
def rnd (ps : List P3) (ds : List Dd) (ls : List Int) : List Int := lvs ps ls ds
theorem iter_below {ps : List P3} {ds : List Dd} : ∀ (m : Nat) {ls : List Int}, Below ps ls → Below ps (iter (rnd ps ds) m ls)
  | 0, ls, h => h
  | m + 1, ls, h => iter_below m (lvs_below ds h)
/-! ### what ran over, by totals -/
end Lw
-- F2
-- F3
namespace Lw
open PySem PySem.Spec PyProof.Rows L2
local macro_rules | `(tactic| walk_at "lw e") => `(tactic| (repeat (first | (with_reducible refine Stp.go ?_) | (with_reducible apply Exists.intro) | ((with_reducible refine And.intro ?_ ?_); · (first | (with_reducible exact Evl.ev) | ((fail_if_success (with_reducible refine Gd.keep ?_)); rfl) | ((with_reducible apply mul_r); decide) | ((with_reducible apply mul_l); decide) | ((with_reducible apply div_i); decide) | ((with_reducible apply in_R); decide) | (exact Nat.le_of_ble_eq_true rfl) | (simp [refsOf]; done) | (exact ⟨rfl, rfl, by decide⟩) | (exact ⟨rfl, rfl, rfl⟩) | ((with_reducible apply tgN_o); (focus rfl); (focus (first | assumption | trivial))))) | ((with_reducible apply Sm.vrP); (focus rfl)) | ((with_reducible apply Sm.vrO); (focus rfl)) | ((with_reducible apply Sm.augI); (focus rfl)) | ((with_reducible refine Sm.dicE ?_ ?_); (focus decide)) | ((with_reducible apply Sm.augS); (focus rfl)) | (with_reducible refine iteTT ?_) | (with_reducible refine iteT ?_) | (with_reducible refine iteF ?_) | ((with_reducible refine iteB1 ?_ ?_); (focus rfl)) | ((with_reducible refine iteB0 ?_ ?_); (focus rfl)))))
local macro_rules | `(tactic| walk_at "lw n") => `(tactic| (try dsimp only [ent, List.map, Nat.reduceAdd, Nat.reduceSub, List.length_cons, List.length_nil, List.replicate_succ, List.replicate_zero, List.cons_append, List.nil_append, putBack, setOwn, List.getElem?_cons_zero, List.getElem?_cons_succ, List.set_cons_zero, List.set_cons_succ, Sm.nf]))
local macro_rules | `(tactic| walk_at "lw v") => `(tactic| (try simp only [pb1, pb2, pb3, pb4]))
/-! ### levels drawn below the most -/
end Lw
-- F2
-- F3
namespace Lw
open PySem PySem.Spec PyProof.Rows L2
local macro_rules | `(tactic| walk_at "lw e") => `(tactic| (repeat (first | (with_reducible refine Stp.go ?_) | (with_reducible apply Exists.intro) | ((with_reducible refine And.intro ?_ ?_); · (first | (with_reducible exact Evl.ev) | ((fail_if_success (with_reducible refine Gd.keep ?_)); rfl) | ((with_reducible apply mul_r); decide) | ((with_reducible apply mul_l); decide) | ((with_reducible apply div_i); decide) | ((with_reducible apply in_R); decide) | (exact Nat.le_of_ble_eq_true rfl) | (simp [refsOf]; done) | (exact ⟨rfl, rfl, by decide⟩) | (exact ⟨rfl, rfl, rfl⟩) | ((with_reducible apply tgN_o); (focus rfl); (focus (first | assumption | trivial))))) | ((with_reducible apply Sm.vrP); (focus rfl)) | ((with_reducible apply Sm.vrO); (focus rfl)) | ((with_reducible apply Sm.augI); (focus rfl)) | ((with_reducible refine Sm.dicE ?_ ?_); (focus decide)) | ((with_reducible apply Sm.augS); (focus rfl)) | (with_reducible refine iteTT ?_) | (with_reducible refine iteT ?_) | (with_reducible refine iteF ?_) | ((with_reducible refine iteB1 ?_ ?_); (focus rfl)) | ((with_reducible refine iteB0 ?_ ?_); (focus rfl)))))
local macro_rules | `(tactic| walk_at "lw n") => `(tactic| (try dsimp only [ent, List.map, Nat.reduceAdd, Nat.reduceSub, List.length_cons, List.length_nil, List.replicate_succ, List.replicate_zero, List.cons_append, List.nil_append, putBack, setOwn, List.getElem?_cons_zero, List.getElem?_cons_succ, List.set_cons_zero, List.set_cons_succ, Sm.nf]))
local macro_rules | `(tactic| walk_at "lw v") => `(tactic| (try simp only [pb1, pb2, pb3, pb4]))
theorem pw_4 : gPowA (.int 10) (.int 4) = some (.pure (.int 10000)) := rfl
theorem pw_11 : gPowA (.int 10) (.int 11) = some (.pure (.int 100000000000)) := rfl
theorem pw_13 : gPowA (.int 10) (.int 13) = some (.pure (.int 10000000000000)) := rfl
theorem pw_14 : gPowA (.int 10) (.int 14) = some (.pure (.int 100000000000000)) := rfl
theorem pw_16 : gPowA (.int 10) (.int 16) = some (.pure (.int 10000000000000000)) := rfl
instance : Evl (gPowA (.int 10) (.int 4)) (.pure (.int 10000)) := ⟨pw_4⟩
instance : Evl (gPowA (.int 10) (.int 11)) (.pure (.int 100000000000)) := ⟨pw_11⟩
instance : Evl (gPowA (.int 10) (.int 13)) (.pure (.int 10000000000000)) := ⟨pw_13⟩
instance : Evl (gPowA (.int 10) (.int 14)) (.pure (.int 100000000000000)) := ⟨pw_14⟩
instance : Evl (gPowA (.int 10) (.int 16)) (.pure (.int 10000000000000000)) := ⟨pw_16⟩
theorem pb5 {a b c d e : D} {o : List S} {ς : En} : putBack [.val a, .val b, .val c, .val d, .val e] o ς = ς := pbv fun _ => pb4
theorem pb6 {a b c d e f : D} {o : List S} {ς : En} : putBack [.val a, .val b, .val c, .val d, .val e, .val f] o ς = ς := pbv fun _ => pb5
theorem DeedsG.take {t d : D} {ts : List D} {ds : List Dd} (h : DeedsG t ts ds) {i : Nat} (hi : items d = some (ts.take i)) : DeedsG d (ts.take i) (ds.take i) := by
  have hl := h.len
  refine ⟨hi, by rw [List.length_take, List.length_take, hl], fun j x e h1 h2 => ?_⟩
  by_cases hj : j < i
  · rw [List.getElem?_take_of_lt hj] at h1 h2
    exact h.ok j x e h1 h2
  · rw [List.getElem?_take_eq_none (by omega)] at h1
    cases h1
/-! ### a stair, a round, levels below the most -/
structure Rnd (g : Nat) (ps : List P3) (ds : List Dd) (ns : List Int) : Prop where
  g1 : 1 ≤ g
  g2 : g ≤ 1000000000000000
  x1 : 1 ≤ ps.length
  x2 : ps.length ≤ 6
  hp : ∀ p ∈ ps, PoundI g p
  hd : LotN 40 ps.length g ds
  hb : Below ps ns
  nb : ∀ n ∈ ns, n.natAbs ≤ 200000000000000000
section
variable {g : Nat} {ps : List P3} {ds : List Dd} {ns : List Int}
theorem Rnd.on (e : Rnd g ps ds ns) : ∀ d ∈ ds, d.On ps.length := fun d m => (e.hd.2 d m).1
theorem Rnd.tk (e : Rnd g ps ds ns) : ∀ d ∈ ds, d.On ps.length ∧ Takes ps d := fun d m => ⟨e.on d m, takes_of e.g1 e.g2 e.hp (e.hd.2 d m)⟩
theorem Rnd.len (e : Rnd g ps ds ns) (m : Nat) : (iter (rnd ps ds) m ns).length = ps.length := (iter_below m e.hb).1
theorem Rnd.take (e : Rnd g ps ds ns) (k : Nat) : LotN 40 ps.length g (ds.take k) := ⟨by have := e.hd.1; rw [List.length_take]; omega, fun d m => e.hd.2 d (List.mem_of_mem_take m)⟩
end
end Lw
-- F2
-- F3
-- F4
namespace Lw
open PySem PySem.Spec PyProof.Rows L2
local macro_rules | `(tactic| walk_at "lw e") => `(tactic| (repeat (first | (with_reducible refine Stp.go ?_) | (with_reducible apply Exists.intro) | ((with_reducible refine And.intro ?_ ?_); · (first | (with_reducible exact Evl.ev) | ((fail_if_success (with_reducible refine Gd.keep ?_)); rfl) | ((with_reducible apply mul_r); decide) | ((with_reducible apply mul_l); decide) | ((with_reducible apply div_i); decide) | ((with_reducible apply in_R); decide) | (exact Nat.le_of_ble_eq_true rfl) | (simp [refsOf]; done) | (exact ⟨rfl, rfl, by decide⟩) | (exact ⟨rfl, rfl, rfl⟩) | ((with_reducible apply tgN_o); (focus rfl); (focus (first | assumption | trivial))))) | ((with_reducible apply Sm.vrP); (focus rfl)) | ((with_reducible apply Sm.vrO); (focus rfl)) | ((with_reducible apply Sm.augI); (focus rfl)) | ((with_reducible refine Sm.dicE ?_ ?_); (focus decide)) | ((with_reducible apply Sm.augS); (focus rfl)) | (with_reducible refine iteTT ?_) | (with_reducible refine iteT ?_) | (with_reducible refine iteF ?_) | ((with_reducible refine iteB1 ?_ ?_); (focus rfl)) | ((with_reducible refine iteB0 ?_ ?_); (focus rfl)))))
local macro_rules | `(tactic| walk_at "lw n") => `(tactic| (try dsimp only [ent, List.map, Nat.reduceAdd, Nat.reduceSub, List.length_cons, List.length_nil, List.replicate_succ, List.replicate_zero, List.cons_append, List.nil_append, putBack, setOwn, List.getElem?_cons_zero, List.getElem?_cons_succ, List.set_cons_zero, List.set_cons_succ, Sm.nf]))
local macro_rules | `(tactic| walk_at "lw v") => `(tactic| (try simp only [pb1, pb2, pb3, pb4, pb5, pb6]))
theorem spill_nn (m : Int) : 0 ≤ spill m := by unfold spill; split <;> omega
end Lw
-- F2
-- F3
namespace Lw
open PySem PySem.Spec PyProof.Rows L2
local macro_rules | `(tactic| walk_at "lw e") => `(tactic| (repeat (first | (with_reducible refine Stp.go ?_) | (with_reducible apply Exists.intro) | ((with_reducible refine And.intro ?_ ?_); · (first | (with_reducible exact Evl.ev) | ((fail_if_success (with_reducible refine Gd.keep ?_)); rfl) | ((with_reducible apply mul_r); decide) | ((with_reducible apply mul_l); decide) | ((with_reducible apply div_i); decide) | ((with_reducible apply in_R); decide) | (exact Nat.le_of_ble_eq_true rfl) | (simp [refsOf]; done) | (exact ⟨rfl, rfl, by decide⟩) | (exact ⟨rfl, rfl, rfl⟩) | ((with_reducible apply tgN_o); (focus rfl); (focus (first | assumption | trivial))))) | ((with_reducible apply Sm.vrP); (focus rfl)) | ((with_reducible apply Sm.vrO); (focus rfl)) | ((with_reducible apply Sm.augI); (focus rfl)) | ((with_reducible refine Sm.dicE ?_ ?_); (focus decide)) | ((with_reducible apply Sm.augS); (focus rfl)) | (with_reducible refine iteTT ?_) | (with_reducible refine iteT ?_) | (with_reducible refine iteF ?_) | ((with_reducible refine iteB1 ?_ ?_); (focus rfl)) | ((with_reducible refine iteB0 ?_ ?_); (focus rfl)))))
local macro_rules | `(tactic| walk_at "lw n") => `(tactic| (try dsimp only [ent, List.map, Nat.reduceAdd, Nat.reduceSub, List.length_cons, List.length_nil, List.replicate_succ, List.replicate_zero, List.cons_append, List.nil_append, putBack, setOwn, List.getElem?_cons_zero, List.getElem?_cons_succ, List.set_cons_zero, List.set_cons_succ, Sm.nf]))
local macro_rules | `(tactic| walk_at "lw v") => `(tactic| (try simp only [pb1, pb2, pb3, pb4]))
/-- u is t, m times (m at least 1) -/
def Pow (n : Nat) (t : Tab) (m : Nat) (u : Tab) : Prop := Shp n u ∧ ∀ T : List Int, T.length = n → Led u T = iter (Led t) m T
end Lw
-- F2
-- F3
namespace Lw
open PySem PySem.Spec PyProof.Rows L2
local macro_rules | `(tactic| walk_at "lw e") => `(tactic| (repeat (first | (with_reducible refine Stp.go ?_) | (with_reducible apply Exists.intro) | ((with_reducible refine And.intro ?_ ?_); · (first | (with_reducible exact Evl.ev) | ((fail_if_success (with_reducible refine Gd.keep ?_)); rfl) | ((with_reducible apply mul_r); decide) | ((with_reducible apply mul_l); decide) | ((with_reducible apply div_i); decide) | ((with_reducible apply in_R); decide) | (exact Nat.le_of_ble_eq_true rfl) | (simp [refsOf]; done) | (exact ⟨rfl, rfl, by decide⟩) | (exact ⟨rfl, rfl, rfl⟩) | ((with_reducible apply tgN_o); (focus rfl); (focus (first | assumption | trivial))))) | ((with_reducible apply Sm.vrP); (focus rfl)) | ((with_reducible apply Sm.vrO); (focus rfl)) | ((with_reducible apply Sm.augI); (focus rfl)) | ((with_reducible refine Sm.dicE ?_ ?_); (focus decide)) | ((with_reducible apply Sm.augS); (focus rfl)) | (with_reducible refine iteTT ?_) | (with_reducible refine iteT ?_) | (with_reducible refine iteF ?_) | ((with_reducible refine iteB1 ?_ ?_); (focus rfl)) | ((with_reducible refine iteB0 ?_ ?_); (focus rfl)))))
local macro_rules | `(tactic| walk_at "lw n") => `(tactic| (try dsimp only [ent, List.map, Nat.reduceAdd, Nat.reduceSub, List.length_cons, List.length_nil, List.replicate_succ, List.replicate_zero, List.cons_append, List.nil_append, putBack, setOwn, List.getElem?_cons_zero, List.getElem?_cons_succ, List.set_cons_zero, List.set_cons_succ, Sm.nf]))
local macro_rules | `(tactic| walk_at "lw v") => `(tactic| (try simp only [pb1, pb2, pb3, pb4]))
def bl (m : Nat) : List Nat := (List.range (dn m)).filter (bit m)
end Lw
-- F2
-- F3
namespace Lw
open PySem PySem.Spec PyProof.Rows L2
local macro_rules | `(tactic| walk_at "lw e") => `(tactic| (repeat (first | (with_reducible refine Stp.go ?_) | (with_reducible apply Exists.intro) | ((with_reducible refine And.intro ?_ ?_); · (first | (with_reducible exact Evl.ev) | ((fail_if_success (with_reducible refine Gd.keep ?_)); rfl) | ((with_reducible apply mul_r); decide) | ((with_reducible apply mul_l); decide) | ((with_reducible apply div_i); decide) | ((with_reducible apply in_R); decide) | (exact Nat.le_of_ble_eq_true rfl) | (simp [refsOf]; done) | (exact ⟨rfl, rfl, by decide⟩) | (exact ⟨rfl, rfl, rfl⟩) | ((with_reducible apply tgN_o); (focus rfl); (focus (first | assumption | trivial))))) | ((with_reducible apply Sm.vrP); (focus rfl)) | ((with_reducible apply Sm.vrO); (focus rfl)) | ((with_reducible apply Sm.augI); (focus rfl)) | ((with_reducible refine Sm.dicE ?_ ?_); (focus decide)) | ((with_reducible apply Sm.augS); (focus rfl)) | (with_reducible refine iteTT ?_) | (with_reducible refine iteT ?_) | (with_reducible refine iteF ?_) | ((with_reducible refine iteB1 ?_ ?_); (focus rfl)) | ((with_reducible refine iteB0 ?_ ?_); (focus rfl)))))
local macro_rules | `(tactic| walk_at "lw n") => `(tactic| (try dsimp only [ent, List.map, Nat.reduceAdd, Nat.reduceSub, List.length_cons, List.length_nil, List.replicate_succ, List.replicate_zero, List.cons_append, List.nil_append, putBack, setOwn, List.getElem?_cons_zero, List.getElem?_cons_succ, List.set_cons_zero, List.set_cons_succ, Sm.nf]))
local macro_rules | `(tactic| walk_at "lw v") => `(tactic| (try simp only [pb1, pb2, pb3, pb4]))
end Lw
-- F2
-- F3
namespace Lw
open PySem PySem.Spec PyProof.Rows L2
local macro_rules | `(tactic| walk_at "lw e") => `(tactic| (repeat (first | (with_reducible refine Stp.go ?_) | (with_reducible apply Exists.intro) | ((with_reducible refine And.intro ?_ ?_); · (first | (with_reducible exact Evl.ev) | ((fail_if_success (with_reducible refine Gd.keep ?_)); rfl) | ((with_reducible apply mul_r); decide) | ((with_reducible apply mul_l); decide) | ((with_reducible apply div_i); decide) | ((with_reducible apply in_R); decide) | (exact Nat.le_of_ble_eq_true rfl) | (simp [refsOf]; done) | (exact ⟨rfl, rfl, by decide⟩) | (exact ⟨rfl, rfl, rfl⟩) | ((with_reducible apply tgN_o); (focus rfl); (focus (first | assumption | trivial))))) | ((with_reducible apply Sm.vrP); (focus rfl)) | ((with_reducible apply Sm.vrO); (focus rfl)) | ((with_reducible apply Sm.augI); (focus rfl)) | ((with_reducible refine Sm.dicE ?_ ?_); (focus decide)) | ((with_reducible apply Sm.augS); (focus rfl)) | (with_reducible refine iteTT ?_) | (with_reducible refine iteT ?_) | (with_reducible refine iteF ?_) | ((with_reducible refine iteB1 ?_ ?_); (focus rfl)) | ((with_reducible refine iteB0 ?_ ?_); (focus rfl)))))
local macro_rules | `(tactic| walk_at "lw n") => `(tactic| (try dsimp only [ent, List.map, Nat.reduceAdd, Nat.reduceSub, List.length_cons, List.length_nil, List.replicate_succ, List.replicate_zero, List.cons_append, List.nil_append, putBack, setOwn, List.getElem?_cons_zero, List.getElem?_cons_succ, List.set_cons_zero, List.set_cons_succ, Sm.nf]))
local macro_rules | `(tactic| walk_at "lw v") => `(tactic| (try simp only [pb1, pb2, pb3, pb4]))
end Lw
-- F2
-- F3
namespace Lw
open PySem PySem.Spec PyProof.Rows L2
local macro_rules | `(tactic| walk_at "lw e") => `(tactic| (repeat (first | (with_reducible refine Stp.go ?_) | (with_reducible apply Exists.intro) | ((with_reducible refine And.intro ?_ ?_); · (first | (with_reducible exact Evl.ev) | ((fail_if_success (with_reducible refine Gd.keep ?_)); rfl) | ((with_reducible apply mul_r); decide) | ((with_reducible apply mul_l); decide) | ((with_reducible apply div_i); decide) | ((with_reducible apply in_R); decide) | (exact Nat.le_of_ble_eq_true rfl) | (simp [refsOf]; done) | (exact ⟨rfl, rfl, by decide⟩) | (exact ⟨rfl, rfl, rfl⟩) | ((with_reducible apply tgN_o); (focus rfl); (focus (first | assumption | trivial))))) | ((with_reducible apply Sm.vrP); (focus rfl)) | ((with_reducible apply Sm.vrO); (focus rfl)) | ((with_reducible apply Sm.augI); (focus rfl)) | ((with_reducible refine Sm.dicE ?_ ?_); (focus decide)) | ((with_reducible apply Sm.augS); (focus rfl)) | (with_reducible refine iteTT ?_) | (with_reducible refine iteT ?_) | (with_reducible refine iteF ?_) | ((with_reducible refine iteB1 ?_ ?_); (focus rfl)) | ((with_reducible refine iteB0 ?_ ?_); (focus rfl)))))
local macro_rules | `(tactic| walk_at "lw n") => `(tactic| (try dsimp only [ent, List.map, Nat.reduceAdd, Nat.reduceSub, List.length_cons, List.length_nil, List.replicate_succ, List.replicate_zero, List.cons_append, List.nil_append, putBack, setOwn, List.getElem?_cons_zero, List.getElem?_cons_succ, List.set_cons_zero, List.set_cons_succ, Sm.nf]))
local macro_rules | `(tactic| walk_at "lw v") => `(tactic| (try simp only [pb1, pb2, pb3, pb4]))
/-- the deed as the upper part of a cut stair knows it -/
def Dd.dn (c : Nat) : Dd → Dd
  | .fill l => .fill (l - c)
  | .empty l => .empty (l - c)
  | .raise l m => .raise (l - c) m
  | .lower l m => .lower (l - c) m
end Lw
-- F2
-- F3
-- F4
namespace Lw
open PySem PySem.Spec PyProof.Rows L2
local macro_rules | `(tactic| walk_at "lw e") => `(tactic| (repeat (first | (with_reducible refine Stp.go ?_) | (with_reducible apply Exists.intro) | ((with_reducible refine And.intro ?_ ?_); · (first | (with_reducible exact Evl.ev) | ((fail_if_success (with_reducible refine Gd.keep ?_)); rfl) | ((with_reducible apply mul_r); decide) | ((with_reducible apply mul_l); decide) | ((with_reducible apply div_i); decide) | ((with_reducible apply in_R); decide) | (exact Nat.le_of_ble_eq_true rfl) | (simp [refsOf]; done) | (exact ⟨rfl, rfl, by decide⟩) | (exact ⟨rfl, rfl, rfl⟩) | ((with_reducible apply tgN_o); (focus rfl); (focus (first | assumption | trivial))))) | ((with_reducible apply Sm.vrP); (focus rfl)) | ((with_reducible apply Sm.vrO); (focus rfl)) | ((with_reducible apply Sm.augI); (focus rfl)) | ((with_reducible refine Sm.dicE ?_ ?_); (focus decide)) | ((with_reducible apply Sm.augS); (focus rfl)) | (with_reducible refine iteTT ?_) | (with_reducible refine iteT ?_) | (with_reducible refine iteF ?_) | ((with_reducible refine iteB1 ?_ ?_); (focus rfl)) | ((with_reducible refine iteB0 ?_ ?_); (focus rfl)))))
local macro_rules | `(tactic| walk_at "lw n") => `(tactic| (try dsimp only [ent, List.map, Nat.reduceAdd, Nat.reduceSub, List.length_cons, List.length_nil, List.replicate_succ, List.replicate_zero, List.cons_append, List.nil_append, putBack, setOwn, List.getElem?_cons_zero, List.getElem?_cons_succ, List.set_cons_zero, List.set_cons_succ, Sm.nf]))
local macro_rules | `(tactic| walk_at "lw v") => `(tactic| (try simp only [pb1, pb2, pb3, pb4, pb5, pb6]))
/-- levels from the least to the most -/
def Within (ps : List P3) (ls : List Int) : Prop := Below ps ls ∧ ∀ z ∈ ps.zip ls, z.1.1 ≤ z.2
theorem Within.len {ps : List P3} {ls : List Int} (h : Within ps ls) : ls.length = ps.length := h.1.1
theorem ov_lo : ∀ (ps : List P3) (ls : List Int), ls.length = ps.length → (∀ p ∈ ps, p.1 ≤ p.2.1) → (∀ z ∈ ps.zip ls, z.1.1 ≤ z.2) → ∀ z ∈ ps.zip (ov (ps.zip ls)).1, z.1.1 ≤ z.2
  | [], _, _, _, _ => fun z hz => by simp at hz
  | p :: ps, [], h, _, _ => by simp at h
  | p :: ps, l :: ls, h, hp, hz => by
    have ih := ov_lo ps ls (by simpa using h) (fun q m => hp q (by simp [m])) (fun z m => hz z (by rw [List.zip_cons_cons]; simp [m]))
    intro z m
    rw [List.zip_cons_cons] at m
    simp only [ov, List.zip_cons_cons, List.mem_cons] at m
    rcases m with rfl | m
    · have h1 := hp p (by simp)
      have h2 : p.1 ≤ l := hz (p, l) (by rw [List.zip_cons_cons]; simp)
      have h3 : 0 ≤ (ov (ps.zip ls)).2.2 := by
        cases ps.zip ls with
        | nil => exact Int.le_refl _
        | cons y ys => exact spill_nn _
      show p.1 ≤ l + (ov (ps.zip ls)).2.2 - spill (l + (ov (ps.zip ls)).2.2 - p.2.1)
      unfold spill
      split <;> omega
    · exact ih z m
theorem zip_ix {α β : Type} {xs : List α} {ys : List β} {z : α × β} (h : z ∈ xs.zip ys) : ∃ i : Nat, xs[i]? = some z.1 ∧ ys[i]? = some z.2 := by
  obtain ⟨i, hi⟩ := List.mem_iff_getElem?.1 h
  exact ⟨i, List.getElem?_zip_eq_some.1 hi⟩
theorem Within.at {ps : List P3} {ls : List Int} (h : Within ps ls) {i : Nat} {p : P3} {l : Int} (h1 : ps[i]? = some p) (h2 : ls[i]? = some l) : p.1 ≤ l ∧ l ≤ p.2.1 := by
  have hm : (p, l) ∈ ps.zip ls := List.mem_of_getElem? (List.getElem?_zip_eq_some (z := (p, l)).2 ⟨h1, h2⟩)
  exact ⟨h.2 _ hm, h.1.2 _ hm⟩
theorem Within.aft {ps : List P3} {ls : List Int} {d : Dd} (h : Within ps ls) (hp : ∀ p ∈ ps, p.1 ≤ p.2.1) (hd : dry ps ls d = false) : Within ps (aft ps ls d) := by
  have hl := h.len
  refine ⟨aft_below hl, ?_⟩
  unfold Lw.aft
  refine ov_lo ps _ (by rw [add1_len]; exact hl) hp ?_
  rintro ⟨pz, lz⟩ hz
  obtain ⟨i, h1, h2⟩ := zip_ix hz
  have h1 : ps[i]? = some pz := h1
  have h2 : (add1 ls (chg ps d).1 (chg ps d).2)[i]? = some lz := h2
  show pz.1 ≤ lz
  have hi : i < ls.length := by have := (List.getElem?_eq_some_iff.mp h1).1; omega
  have h3 := h.at h1 (getD_some hi)
  unfold add1 at h2
  split at h2
  · by_cases q : i = (chg ps d).1.toNat - 1
    · subst q
      rw [List.getElem?_set_self hi] at h2
      have h2 := Option.some.inj h2
      unfold dry at hd
      by_cases q2 : (chg ps d).2 ≥ 0
      · omega
      · rw [if_neg q2] at hd
        have hd := of_decide_eq_false hd
        have e : pAt ps ((chg ps d).1.toNat - 1) = pz := by unfold pAt; rw [List.getD_eq_getElem?_getD, h1]; rfl
        unfold asks at hd
        rw [e] at hd
        omega
    · rw [List.getElem?_set_ne (fun e => q e.symm), getD_some hi] at h2
      rw [← Option.some.inj h2]
      exact h3.1
  · rw [getD_some hi] at h2
    rw [← Option.some.inj h2]
    exact h3.1
theorem Within.bd {g : Nat} (hg : g ≤ 1000000000000000) {ps : List P3} {ls : List Int} (h : Within ps ls) (hp : ∀ p ∈ ps, PoundI g p) : ∀ l ∈ ls, 0 ≤ l ∧ l ≤ 40000000000000000 := by
  intro l hm
  obtain ⟨i, hi⟩ := List.mem_iff_getElem?.1 hm
  have hl : i < ps.length := by have := (List.getElem?_eq_some_iff.mp hi).1; have := h.len; omega
  have := h.at (List.getElem?_eq_getElem hl) hi
  have := pound_b hg (hp _ (List.getElem_mem hl))
  omega
theorem down_on {ps : List P3} (hz : ∀ l : Nat, 1 ≤ l → l ≤ ps.length → 1 ≤ sz ps l) {d : Dd} (ho : d.On ps.length) : Down ps d := by
  intro h
  obtain ⟨h0, h1⟩ := ho
  cases d with
  | fill l => have h0 : 1 ≤ l := h0; show (1 : Int) ≤ (l : Int); omega
  | empty l => have := hz l h0 h1; have h : sz ps l < 0 := h; omega
  | raise l m => have h0 : 1 ≤ l := h0; show (1 : Int) ≤ (l : Int); omega
  | lower l m => have h0 : 1 ≤ l := h0; show (1 : Int) ≤ (l : Int); omega
theorem down_pi {g : Nat} (hg1 : 1 ≤ g) (hg : g ≤ 1000000000000000) {ps : List P3} (hp : ∀ p ∈ ps, PoundI g p) {d : Dd} (ho : d.On ps.length) : Down ps d := down_on (fun l h0 h1 => (sz_b hg1 hg hp h0 h1).1) ho
end Lw
-- F2
-- F3
-- F4
namespace Lw
open PySem PySem.Spec PyProof.Rows L2
local macro_rules | `(tactic| walk_at "lw e") => `(tactic| (repeat (first | (with_reducible refine Stp.go ?_) | (with_reducible apply Exists.intro) | ((with_reducible refine And.intro ?_ ?_); · (first | (with_reducible exact Evl.ev) | ((fail_if_success (with_reducible refine Gd.keep ?_)); rfl) | ((with_reducible apply mul_r); decide) | ((with_reducible apply mul_l); decide) | ((with_reducible apply div_i); decide) | ((with_reducible apply in_R); decide) | (exact Nat.le_of_ble_eq_true rfl) | (simp [refsOf]; done) | (exact ⟨rfl, rfl, by decide⟩) | (exact ⟨rfl, rfl, rfl⟩) | ((with_reducible apply tgN_o); (focus rfl); (focus (first | assumption | trivial))))) | ((with_reducible apply Sm.vrP); (focus rfl)) | ((with_reducible apply Sm.vrO); (focus rfl)) | ((with_reducible apply Sm.augI); (focus rfl)) | ((with_reducible refine Sm.dicE ?_ ?_); (focus decide)) | ((with_reducible apply Sm.augS); (focus rfl)) | (with_reducible refine iteTT ?_) | (with_reducible refine iteT ?_) | (with_reducible refine iteF ?_) | ((with_reducible refine iteB1 ?_ ?_); (focus rfl)) | ((with_reducible refine iteB0 ?_ ?_); (focus rfl)))))
local macro_rules | `(tactic| walk_at "lw n") => `(tactic| (try dsimp only [ent, List.map, Nat.reduceAdd, Nat.reduceSub, List.length_cons, List.length_nil, List.replicate_succ, List.replicate_zero, List.cons_append, List.nil_append, putBack, setOwn, List.getElem?_cons_zero, List.getElem?_cons_succ, List.set_cons_zero, List.set_cons_succ, Sm.nf]))
local macro_rules | `(tactic| walk_at "lw v") => `(tactic| (try simp only [pb1, pb2, pb3, pb4, pb5, pb6]))
/-! ### raises -/
/-- a raise of no less than nothing -/
def Dd.Rain (n : Nat) : Dd → Prop
  | .raise l m => 1 ≤ l ∧ l ≤ n ∧ 0 ≤ m
  | _ => False
theorem Dd.Rain.on {n : Nat} {d : Dd} (h : d.Rain n) : d.On n := by
  cases d with
  | raise l m => exact ⟨h.1, h.2.1⟩
  | _ => exact h.elim
/-! ### lowering: nothing runs over -/
/-! ### all numbers so many times as great -/
end Lw
-- F2
-- F3
-- F4
namespace Lw
open PySem PySem.Spec PyProof.Rows L2
local macro_rules | `(tactic| walk_at "lw e") => `(tactic| (repeat (first | (with_reducible refine Stp.go ?_) | (with_reducible apply Exists.intro) | ((with_reducible refine And.intro ?_ ?_); · (first | (with_reducible exact Evl.ev) | ((fail_if_success (with_reducible refine Gd.keep ?_)); rfl) | ((with_reducible apply mul_r); decide) | ((with_reducible apply mul_l); decide) | ((with_reducible apply div_i); decide) | ((with_reducible apply in_R); decide) | (exact Nat.le_of_ble_eq_true rfl) | (simp [refsOf]; done) | (exact ⟨rfl, rfl, by decide⟩) | (exact ⟨rfl, rfl, rfl⟩) | ((with_reducible apply tgN_o); (focus rfl); (focus (first | assumption | trivial))))) | ((with_reducible apply Sm.vrP); (focus rfl)) | ((with_reducible apply Sm.vrO); (focus rfl)) | ((with_reducible apply Sm.augI); (focus rfl)) | ((with_reducible refine Sm.dicE ?_ ?_); (focus decide)) | ((with_reducible apply Sm.augS); (focus rfl)) | (with_reducible refine iteTT ?_) | (with_reducible refine iteT ?_) | (with_reducible refine iteF ?_) | ((with_reducible refine iteB1 ?_ ?_); (focus rfl)) | ((with_reducible refine iteB0 ?_ ?_); (focus rfl)))))
local macro_rules | `(tactic| walk_at "lw n") => `(tactic| (try dsimp only [ent, List.map, Nat.reduceAdd, Nat.reduceSub, List.length_cons, List.length_nil, List.replicate_succ, List.replicate_zero, List.cons_append, List.nil_append, putBack, setOwn, List.getElem?_cons_zero, List.getElem?_cons_succ, List.set_cons_zero, List.set_cons_succ, Sm.nf]))
local macro_rules | `(tactic| walk_at "lw v") => `(tactic| (try simp only [pb1, pb2, pb3, pb4, pb5, pb6]))
theorem le_most {g : Nat} (hg : g ≤ 1000000000000000) {ps : List P3} (hp : ∀ p ∈ ps, PoundI g p) : ∀ p ∈ ps, p.1 ≤ p.2.1 := fun p m => (pound_b hg (hp p m)).2.1
theorem ch_fine {bs : List Bool} (h : bs.length ≤ 6) : Fine 1000000000000000000 1 ((60 + 1) * 6) (.tuple (bs.map chD)) := by
  refine Fine.tup (fun x hx => ?_) (by rw [List.length_map]; exact h)
  obtain ⟨b, _, rfl⟩ := List.mem_map.1 hx
  cases b
  · exact ⟨lfb_fnb (strOk_str "low"), by decide⟩
  · exact ⟨lfb_fnb (strOk_str "high"), by decide⟩
theorem found_fine {ls rs : List Int} {bs : List Bool} (hl : ls.length ≤ 6) (hr : rs.length ≤ 6) (hb : bs.length ≤ 6) (h1 : ∀ x ∈ ls, x.natAbs ≤ 1000000000000000000) (h2 : ∀ x ∈ rs, x.natAbs ≤ 1000000000000000000) : Fine 1000000000000000000 3 ((((60 + 1) * 6 + 1) * 2 + 1) * 2) (.tuple [sD ls bs, it rs]) := by
  have f1 : Fine 1000000000000000000 1 ((60 + 1) * 6) (it ls) := Fine.it h1 (by decide) hl
  have f2 : Fine 1000000000000000000 1 ((60 + 1) * 6) (it rs) := Fine.it h2 (by decide) hr
  have f3 : Fine 1000000000000000000 2 (((60 + 1) * 6 + 1) * 2) (sD ls bs) := by
    refine Fine.tup (fun x hx => ?_) (by simp)
    simp only [List.mem_cons, List.not_mem_nil, or_false] at hx
    rcases hx with rfl | rfl
    · exact f1
    · exact ch_fine hb
  refine Fine.tup (fun x hx => ?_) (by simp)
  simp only [List.mem_cons, List.not_mem_nil, or_false] at hx
  rcases hx with rfl | rfl
  · exact f3
  · exact ⟨fn_mono (Nat.le_refl _) 1 2 _ (by decide) f2.1, Nat.le_trans f2.2 (by decide)⟩
/-- a stair of drawn pounds, levels within, chambers -/
structure Sb (g : Nat) (ps : List P3) (ls : List Int) (bs : List Bool) : Prop where
  g1 : 1 ≤ g
  g2 : g ≤ 1000000000000000
  x1 : 1 ≤ ps.length
  x2 : ps.length ≤ 6
  hp : ∀ p ∈ ps, PoundI g p
  w : Within ps ls
  bl : bs.length = ps.length
section
variable {g : Nat} {ps : List P3} {ls : List Int} {bs : List Bool}
theorem Sb.st (e : Sb g ps ls bs) : StairG (.tuple (ps.map pd)) (ps.map pd) ps := Stair.gen (.inl rfl)
theorem Sb.dn (e : Sb g ps ls bs) {d : Dd} (ho : d.On ps.length) : Down ps d := down_pi e.g1 e.g2 e.hp ho
theorem Sb.done (e : Sb g ps ls bs) {d : Dd} (ho : d.On ps.length) (hlet : Let ps ls bs d) : wpf m_p_done [.pure (.tuple (ps.map pd)), .pure (sD ls bs), .pure (dd d)] (ValQ fun x => x = .tuple [sD (aft ps ls d) (turn bs d), it (spl ps ls d)]) := doneG e.st (sD_stand ls bs) (Dt.of d) ho (e.dn ho) (by have := e.x2; omega) e.w.len e.bl hlet
theorem Sb.next (e : Sb g ps ls bs) {d : Dd} (hlet : Let ps ls bs d) : Sb g ps (aft ps ls d) (turn bs d) := ⟨e.g1, e.g2, e.x1, e.x2, e.hp, e.w.aft (le_most e.g2 e.hp) hlet.2, by rw [turn_len]; exact e.bl⟩
theorem Sb.fin (e : Sb g ps ls bs) {rs : List Int} (hr : rs.length ≤ 6) (h2 : ∀ x ∈ rs, x.natAbs ≤ 1000000000000000000) : Fine 1000000000000000000 3 ((((60 + 1) * 6 + 1) * 2 + 1) * 2) (.tuple [sD ls bs, it rs]) := by
  have hb := e.w.bd e.g2 e.hp
  have := e.x2
  exact found_fine (by rw [e.w.len]; omega) hr (by rw [e.bl]; omega) (fun x m => by have := hb x m; omega) h2
end
end Lw
-- F2
-- F3
-- F4
namespace Lw
open PySem PySem.Spec PyProof.Rows L2
local macro_rules | `(tactic| walk_at "lw e") => `(tactic| (repeat (first | (with_reducible refine Stp.go ?_) | (with_reducible apply Exists.intro) | ((with_reducible refine And.intro ?_ ?_); · (first | (with_reducible exact Evl.ev) | ((fail_if_success (with_reducible refine Gd.keep ?_)); rfl) | ((with_reducible apply mul_r); decide) | ((with_reducible apply mul_l); decide) | ((with_reducible apply div_i); decide) | ((with_reducible apply in_R); decide) | (exact Nat.le_of_ble_eq_true rfl) | (simp [refsOf]; done) | (exact ⟨rfl, rfl, by decide⟩) | (exact ⟨rfl, rfl, rfl⟩) | ((with_reducible apply tgN_o); (focus rfl); (focus (first | assumption | trivial))))) | ((with_reducible apply Sm.vrP); (focus rfl)) | ((with_reducible apply Sm.vrO); (focus rfl)) | ((with_reducible apply Sm.augI); (focus rfl)) | ((with_reducible refine Sm.dicE ?_ ?_); (focus decide)) | ((with_reducible apply Sm.augS); (focus rfl)) | (with_reducible refine iteTT ?_) | (with_reducible refine iteT ?_) | (with_reducible refine iteF ?_) | ((with_reducible refine iteB1 ?_ ?_); (focus rfl)) | ((with_reducible refine iteB0 ?_ ?_); (focus rfl)))))
local macro_rules | `(tactic| walk_at "lw n") => `(tactic| (try dsimp only [ent, List.map, Nat.reduceAdd, Nat.reduceSub, List.length_cons, List.length_nil, List.replicate_succ, List.replicate_zero, List.cons_append, List.nil_append, putBack, setOwn, List.getElem?_cons_zero, List.getElem?_cons_succ, List.set_cons_zero, List.set_cons_succ, Sm.nf]))
local macro_rules | `(tactic| walk_at "lw v") => `(tactic| (try simp only [pb1, pb2, pb3, pb4, pb5, pb6]))
/-! ### tables side by side -/
theorem eqvAll_ints : ∀ xs ys : List Int, PyData.eqvAll (xs.map PyData.int) (ys.map PyData.int) = decide (xs = ys)
  | [], [] => rfl
  | [], y :: ys => rfl
  | x :: xs, [] => rfl
  | x :: xs, y :: ys => by
    rw [List.map_cons, List.map_cons, PyData.eqvAll, eqvAll_ints xs ys, eqv_int]
    by_cases h1 : x = y <;> by_cases h2 : xs = ys <;> simp [h1, h2]
theorem eqv_it (xs ys : List Int) : PyData.eqv (it xs) (it ys) = decide (xs = ys) := eqvAll_ints xs ys
end Lw
-- F2
-- F3
-- F4
namespace Lw
open PySem PySem.Spec PyProof.Rows L2
local macro_rules | `(tactic| walk_at "lw e") => `(tactic| (repeat (first | (with_reducible refine Stp.go ?_) | (with_reducible apply Exists.intro) | ((with_reducible refine And.intro ?_ ?_); · (first | (with_reducible exact Evl.ev) | ((fail_if_success (with_reducible refine Gd.keep ?_)); rfl) | ((with_reducible apply mul_r); decide) | ((with_reducible apply mul_l); decide) | ((with_reducible apply div_i); decide) | ((with_reducible apply in_R); decide) | (exact Nat.le_of_ble_eq_true rfl) | (simp [refsOf]; done) | (exact ⟨rfl, rfl, by decide⟩) | (exact ⟨rfl, rfl, rfl⟩) | ((with_reducible apply tgN_o); (focus rfl); (focus (first | assumption | trivial))))) | ((with_reducible apply Sm.vrP); (focus rfl)) | ((with_reducible apply Sm.vrO); (focus rfl)) | ((with_reducible apply Sm.augI); (focus rfl)) | ((with_reducible refine Sm.dicE ?_ ?_); (focus decide)) | ((with_reducible apply Sm.augS); (focus rfl)) | (with_reducible refine iteTT ?_) | (with_reducible refine iteT ?_) | (with_reducible refine iteF ?_) | ((with_reducible refine iteB1 ?_ ?_); (focus rfl)) | ((with_reducible refine iteB0 ?_ ?_); (focus rfl)))))
local macro_rules | `(tactic| walk_at "lw n") => `(tactic| (try dsimp only [ent, List.map, Nat.reduceAdd, Nat.reduceSub, List.length_cons, List.length_nil, List.replicate_succ, List.replicate_zero, List.cons_append, List.nil_append, putBack, setOwn, List.getElem?_cons_zero, List.getElem?_cons_succ, List.set_cons_zero, List.set_cons_succ, Sm.nf]))
local macro_rules | `(tactic| walk_at "lw v") => `(tactic| (try simp only [pb1, pb2, pb3, pb4, pb5, pb6]))
/-- no total is less -/
def Ge (T U : List Int) : Prop := T.length = U.length ∧ ∀ j : Nat, U.getD j 0 ≤ T.getD j 0
theorem Ge.refl (T : List Int) : Ge T T := ⟨rfl, fun _ => Int.le_refl _⟩
theorem Ge.trans {T U V : List Int} (h : Ge T U) (k : Ge U V) : Ge T V := ⟨h.1.trans k.1, fun j => Int.le_trans (k.2 j) (h.2 j)⟩
theorem Ge.cons {t u : Int} {T U : List Int} (h : u ≤ t) (k : Ge T U) : Ge (t :: T) (u :: U) := ⟨by rw [List.length_cons, List.length_cons, k.1], fun j => by
  cases j with
  | zero => exact h
  | succ j => exact k.2 j⟩
theorem Ge.tail {t u : Int} {T U : List Int} (h : Ge (t :: T) (u :: U)) : u ≤ t ∧ Ge T U := ⟨h.2 0, by have := h.1; simpa using this, fun j => h.2 (j + 1)⟩
/-! ### rains -/
/-! ### tables by what they do -/
end Lw
-- F2
-- F3
-- F4
namespace Lw
open PySem PySem.Spec PyProof.Rows L2
local macro_rules | `(tactic| walk_at "lw e") => `(tactic| (repeat (first | (with_reducible refine Stp.go ?_) | (with_reducible apply Exists.intro) | ((with_reducible refine And.intro ?_ ?_); · (first | (with_reducible exact Evl.ev) | ((fail_if_success (with_reducible refine Gd.keep ?_)); rfl) | ((with_reducible apply mul_r); decide) | ((with_reducible apply mul_l); decide) | ((with_reducible apply div_i); decide) | ((with_reducible apply in_R); decide) | (exact Nat.le_of_ble_eq_true rfl) | (simp [refsOf]; done) | (exact ⟨rfl, rfl, by decide⟩) | (exact ⟨rfl, rfl, rfl⟩) | ((with_reducible apply tgN_o); (focus rfl); (focus (first | assumption | trivial))))) | ((with_reducible apply Sm.vrP); (focus rfl)) | ((with_reducible apply Sm.vrO); (focus rfl)) | ((with_reducible apply Sm.augI); (focus rfl)) | ((with_reducible refine Sm.dicE ?_ ?_); (focus decide)) | ((with_reducible apply Sm.augS); (focus rfl)) | (with_reducible refine iteTT ?_) | (with_reducible refine iteT ?_) | (with_reducible refine iteF ?_) | ((with_reducible refine iteB1 ?_ ?_); (focus rfl)) | ((with_reducible refine iteB0 ?_ ?_); (focus rfl)))))
local macro_rules | `(tactic| walk_at "lw n") => `(tactic| (try dsimp only [ent, List.map, Nat.reduceAdd, Nat.reduceSub, List.length_cons, List.length_nil, List.replicate_succ, List.replicate_zero, List.cons_append, List.nil_append, putBack, setOwn, List.getElem?_cons_zero, List.getElem?_cons_succ, List.set_cons_zero, List.set_cons_succ, Sm.nf]))
local macro_rules | `(tactic| walk_at "lw v") => `(tactic| (try simp only [pb1, pb2, pb3, pb4, pb5, pb6]))
/-! ### ways through a table, and their straight lines: places 0 to n, M a b what a way from a to b costs in a round -/
section
variable {n : Nat} {M : Nat → Nat → Int} {e : Nat → Int}
/-- where the line begins of the ways that wait at w -/
structure Begins (n : Nat) (M : Nat → Nat → Int) (e : Nat → Int) (w : Nat) (B : Nat → Int) : Prop where
  end_le : ∀ a, w ≤ a → a ≤ n → B a ≤ e a
  up_le : ∀ a u, w ≤ a → a < u → u ≤ n → B a ≤ M a u - M w w + B u
  up_ex : ∀ a, w ≤ a → a ≤ n → B a = e a ∨ ∃ u, a < u ∧ u ≤ n ∧ B a = M a u - M w w + B u
  low_le : ∀ a u, a < w → a < u → u ≤ w → B a ≤ M a u - M w w + B u
  low_ex : ∀ a, a < w → ∃ u, a < u ∧ u ≤ w ∧ B a = M a u - M w w + B u
/-- a way of so many moves, what it costs, the places where it was -/
inductive Way (n : Nat) (M : Nat → Nat → Int) (e : Nat → Int) : Nat → Nat → Int → List Nat → Prop
  | nil (a : Nat) : a ≤ n → Way n M e a 0 (e a) [a]
  | cons (a u m : Nat) (C : Int) (vs : List Nat) : a < u → u ≤ n → Way n M e u m C vs → Way n M e a (m + 1) (M a u + C) (a :: vs)
theorem Way.start {a m : Nat} {C : Int} {vs : List Nat} (h : Way n M e a m C vs) : a ∈ vs ∧ ∀ v ∈ vs, a ≤ v ∧ v ≤ n := by
  induction h with
  | nil a ha => exact ⟨by simp, fun v m => by rw [List.mem_singleton.1 m]; exact ⟨Nat.le_refl _, ha⟩⟩
  | cons a u m C vs h1 h2 hw ih =>
    refine ⟨by simp, fun v hm => ?_⟩
    rcases List.mem_cons.1 hm with rfl | hm
    · exact ⟨Nat.le_refl _, by omega⟩
    · have := ih.2 v hm
      exact ⟨by omega, this.2⟩
theorem Way.above {a m w : Nat} {C : Int} {vs : List Nat} {B : Nat → Int} (hB : Begins n M e w B) (h : Way n M e a m C vs) (ha : w ≤ a) : B a ≤ C - M w w * m := by
  induction h with
  | nil a hn => have := hB.end_le a ha hn; simp; omega
  | cons a u m C vs h1 h2 hw ih =>
    have k := ih (by omega)
    have := hB.up_le a u ha h1 h2
    have em : M w w * ((m + 1 : Nat) : Int) = M w w * m + M w w := by push_cast; rw [Int.mul_add, Int.mul_one]
    rw [em]
    omega
theorem Way.line {a m w : Nat} {C : Int} {vs : List Nat} {B : Nat → Int} (hB : Begins n M e w B) (h : Way n M e a m C vs) (hw : w ∈ vs) : B a ≤ C - M w w * m := by
  induction h with
  | nil a hn =>
    rw [List.mem_singleton] at hw
    subst hw
    have := hB.end_le w (Nat.le_refl _) hn
    simp; omega
  | cons a u m C vs h1 h2 hway ih =>
    rcases List.mem_cons.1 hw with rfl | hw
    · exact (Way.cons w u m C vs h1 h2 hway).above hB (Nat.le_refl _)
    · have k := ih hw
      have hs := hway.start.2 w hw
      have := hB.low_le a u (by omega) h1 hs.1
      have em : M w w * ((m + 1 : Nat) : Int) = M w w * m + M w w := by push_cast; rw [Int.mul_add, Int.mul_one]
      rw [em]
      omega
end
end Lw
-- F2
-- F3
-- F4
namespace Lw
open PySem PySem.Spec PyProof.Rows L2
local macro_rules | `(tactic| walk_at "lw e") => `(tactic| (repeat (first | (with_reducible refine Stp.go ?_) | (with_reducible apply Exists.intro) | ((with_reducible refine And.intro ?_ ?_); · (first | (with_reducible exact Evl.ev) | ((fail_if_success (with_reducible refine Gd.keep ?_)); rfl) | ((with_reducible apply mul_r); decide) | ((with_reducible apply mul_l); decide) | ((with_reducible apply div_i); decide) | ((with_reducible apply in_R); decide) | (exact Nat.le_of_ble_eq_true rfl) | (simp [refsOf]; done) | (exact ⟨rfl, rfl, by decide⟩) | (exact ⟨rfl, rfl, rfl⟩) | ((with_reducible apply tgN_o); (focus rfl); (focus (first | assumption | trivial))))) | ((with_reducible apply Sm.vrP); (focus rfl)) | ((with_reducible apply Sm.vrO); (focus rfl)) | ((with_reducible apply Sm.augI); (focus rfl)) | ((with_reducible refine Sm.dicE ?_ ?_); (focus decide)) | ((with_reducible apply Sm.augS); (focus rfl)) | (with_reducible refine iteTT ?_) | (with_reducible refine iteT ?_) | (with_reducible refine iteF ?_) | ((with_reducible refine iteB1 ?_ ?_); (focus rfl)) | ((with_reducible refine iteB0 ?_ ?_); (focus rfl)))))
local macro_rules | `(tactic| walk_at "lw n") => `(tactic| (try dsimp only [ent, List.map, Nat.reduceAdd, Nat.reduceSub, List.length_cons, List.length_nil, List.replicate_succ, List.replicate_zero, List.cons_append, List.nil_append, putBack, setOwn, List.getElem?_cons_zero, List.getElem?_cons_succ, List.set_cons_zero, List.set_cons_succ, Sm.nf]))
local macro_rules | `(tactic| walk_at "lw v") => `(tactic| (try simp only [pb1, pb2, pb3, pb4, pb5, pb6]))
/-! ### the least of a few straight lines (step, begin) -/
abbrev Ln := Int × Int
def lAt (l : Ln) (k : Int) : Int := l.2 + l.1 * k
def lowL (ls : List Ln) (k : Int) : Int := fmin (ls.map fun l => lAt l k)
theorem lAt_succ (l : Ln) (k : Int) : lAt l (k + 1) = lAt l k + l.1 := by unfold lAt; rw [Int.mul_add, Int.mul_one]; omega
theorem low_le {ls : List Ln} {l : Ln} (h : l ∈ ls) (k : Int) : lowL ls k ≤ lAt l k := fmin_le (List.mem_map.2 ⟨l, h, rfl⟩)
theorem low_ex {ls : List Ln} (h : ls ≠ []) (k : Int) : ∃ l ∈ ls, lowL ls k = lAt l k := by
  have := fmin_mem (zs := ls.map fun l => lAt l k) (by simpa using h)
  obtain ⟨l, hm, e⟩ := List.mem_map.1 this
  exact ⟨l, hm, e.symm⟩
/-- steps fall -/
theorem low_bend {ls : List Ln} (h : ls ≠ []) (k : Int) : lowL ls (k + 2) - lowL ls (k + 1) ≤ lowL ls (k + 1) - lowL ls k := by
  obtain ⟨l, hm, e⟩ := low_ex h (k + 1)
  have h1 := low_le hm k
  have h2 := low_le hm (k + 2)
  have e1 := lAt_succ l k
  have e2 := lAt_succ l (k + 1)
  rw [show k + 1 + 1 = k + 2 by omega] at e2
  omega
theorem low_fall {ls : List Ln} (h : ls ≠ []) (k : Int) : ∀ d : Nat, lowL ls (k + d + 1) - lowL ls (k + d) ≤ lowL ls (k + 1) - lowL ls k
  | 0 => by simp
  | d + 1 => by
    have ih := low_fall h k d
    have := low_bend h (k + d)
    rw [show k + ((d + 1 : Nat) : Int) + 1 = k + d + 2 by omega, show k + ((d + 1 : Nat) : Int) = k + d + 1 by omega]
    omega
theorem low_under {ls : List Ln} (h : ls ≠ []) (k : Int) : ∀ d : Nat, lowL ls (k + d) ≤ lowL ls k + (lowL ls (k + 1) - lowL ls k) * d
  | 0 => by simp
  | d + 1 => by
    have ih := low_under h k d
    have := low_fall h k d
    rw [show k + ((d + 1 : Nat) : Int) = k + d + 1 by omega]
    have e : (lowL ls (k + 1) - lowL ls k) * ((d + 1 : Nat) : Int) = (lowL ls (k + 1) - lowL ls k) * d + (lowL ls (k + 1) - lowL ls k) := by push_cast; rw [Int.mul_add, Int.mul_one]
    omega
/-- a row (first, step, begin) -/
abbrev Rw := Int × Int × Int
def rowL (ls : List Ln) (first : Int) : Rw := (first, lowL ls (first + 1) - lowL ls first, lowL ls first - (lowL ls (first + 1) - lowL ls first) * first)
def rAt (r : Rw) (k : Int) : Int := r.2.2 + r.2.1 * k
theorem rAt_succ (r : Rw) (k : Int) : rAt r (k + 1) = rAt r k + r.2.1 := by unfold rAt; rw [Int.mul_add, Int.mul_one]; omega
theorem rAt_add (r : Rw) (k : Int) (d : Int) : rAt r (k + d) = rAt r k + r.2.1 * d := by unfold rAt; rw [Int.mul_add]; omega
theorem row_first (ls : List Ln) (f : Int) : rAt (rowL ls f) f = lowL ls f := by unfold rAt rowL; simp only; omega
theorem row_next (ls : List Ln) (f : Int) : rAt (rowL ls f) (f + 1) = lowL ls (f + 1) := by rw [rAt_succ, row_first]; unfold rowL; simp only; omega
theorem row_up {ls : List Ln} (h : ls ≠ []) (f : Int) {k : Int} (hk : f ≤ k) : lowL ls k ≤ rAt (rowL ls f) k := by
  obtain ⟨d, rfl⟩ : ∃ d : Nat, k = f + d := ⟨(k - f).toNat, by omega⟩
  rw [rAt_add, row_first]
  exact low_under h f d
/-- the lines that fall below the row -/
def lessL (ls : List Ln) (s : Int) : List Ln := ls.filter fun l => decide (l.1 < s)
def bendAt (r : Rw) (l : Ln) : Int := (l.2 - r.2.2) / (r.2.1 - l.1)
def bendL (ls : List Ln) (r : Rw) : Option Int := match lessL ls r.2.1 with
  | [] => none
  | x :: xs => some (fmin ((x :: xs).map (bendAt r)))
theorem mem_less {ls : List Ln} {s : Int} {l : Ln} : l ∈ lessL ls s ↔ l ∈ ls ∧ l.1 < s := by
  unfold lessL
  rw [List.mem_filter, decide_eq_true_eq]
theorem bend_iff {r : Rw} {l : Ln} (h : l.1 < r.2.1) (k : Int) : k ≤ bendAt r l ↔ rAt r k ≤ lAt l k := by
  unfold bendAt rAt lAt
  rw [Int.le_ediv_iff_mul_le (by omega)]
  have : k * (r.2.1 - l.1) = r.2.1 * k - l.1 * k := by rw [Int.mul_sub, Int.mul_comm k, Int.mul_comm k]
  rw [this]
  omega
theorem row_on {ls : List Ln} (h : ls ≠ []) {f k : Int} (hk : f ≤ k) (hb : ∀ b, bendL ls (rowL ls f) = some b → k ≤ b) : lowL ls k = rAt (rowL ls f) k := by
  refine Int.le_antisymm (row_up h f hk) ?_
  obtain ⟨l, hm, e⟩ := low_ex h k
  rw [e]
  by_cases q : l.1 < (rowL ls f).2.1
  · refine (bend_iff q k).1 ?_
    have hml := mem_less.2 ⟨hm, q⟩
    unfold bendL at hb
    cases hl : lessL ls (rowL ls f).2.1 with
    | nil => rw [hl] at hml; cases hml
    | cons x xs =>
      rw [hl] at hb hml
      have := hb _ rfl
      exact Int.le_trans this (fmin_le (List.mem_map.2 ⟨l, hml, rfl⟩))
  · obtain ⟨d, rfl⟩ : ∃ d : Nat, k = f + d := ⟨(k - f).toNat, by omega⟩
    have h1 := low_le hm f
    rw [rAt_add, row_first]
    have e2 : lAt l (f + d) = lAt l f + l.1 * d := by unfold lAt; rw [Int.mul_add]; omega
    rw [e2]
    have : (rowL ls f).2.1 * (d : Int) ≤ l.1 * d := Int.mul_le_mul_of_nonneg_right (by omega) (by omega)
    omega
theorem bend_facts {ls : List Ln} (h : ls ≠ []) {f b : Int} (hb : bendL ls (rowL ls f) = some b) : f + 1 ≤ b ∧ lowL ls b = rAt (rowL ls f) b ∧ lowL ls (b + 1) < rAt (rowL ls f) (b + 1) ∧ (rowL ls b).2.1 < (rowL ls f).2.1 := by
  have hb0 := hb
  unfold bendL at hb
  cases hl : lessL ls (rowL ls f).2.1 with
  | nil => rw [hl] at hb; cases hb
  | cons x xs =>
    rw [hl] at hb
    have hb := Option.some.inj hb
    have hmem := fmin_mem (zs := (x :: xs).map (bendAt (rowL ls f))) (by simp)
    rw [hb] at hmem
    obtain ⟨l, hm, el⟩ := List.mem_map.1 hmem
    rw [← hl] at hm
    obtain ⟨hm1, hm2⟩ := mem_less.1 hm
    have h1 : f + 1 ≤ b := by
      rw [← el]
      refine (bend_iff hm2 _).2 ?_
      rw [row_next]
      exact low_le hm1 _
    have h2 : lowL ls b = rAt (rowL ls f) b := row_on h (by omega) fun b' e => by rw [hb0] at e; cases e; exact Int.le_refl _
    have h3 : lowL ls (b + 1) < rAt (rowL ls f) (b + 1) := by
      have : ¬ b + 1 ≤ bendAt (rowL ls f) l := by rw [el]; omega
      rw [bend_iff hm2] at this
      have := low_le hm1 (b + 1)
      omega
    refine ⟨h1, h2, h3, ?_⟩
    rw [rAt_succ] at h3
    show lowL ls (b + 1) - lowL ls b < _
    omega
theorem no_bend {ls : List Ln} {r : Rw} (hb : bendL ls r = none) : ∀ l ∈ ls, r.2.1 ≤ l.1 := by
  intro l hm
  unfold bendL at hb
  cases hl : lessL ls r.2.1 with
  | nil =>
    by_cases q : l.1 < r.2.1
    · have := mem_less.2 ⟨hm, q⟩
      rw [hl] at this
      cases this
    · omega
  | cons x xs => rw [hl] at hb; cases hb
/-! ### how many rows -/
def cntL (ls : List Ln) (s : Int) : Nat := (lessL ls s).length
def Tang (ls : List Ln) (r : Rw) : Prop := ∃ l ∈ ls, l.1 = r.2.1 ∧ lAt l (r.1 + 1) = lowL ls (r.1 + 1)
open Classical in
noncomputable def muL (ls : List Ln) (r : Rw) : Nat := 2 * cntL ls r.2.1 + if Tang ls r then 1 else 0
theorem cnt_mono {ls : List Ln} {s t : Int} (h : s ≤ t) : cntL ls s ≤ cntL ls t := by
  unfold cntL lessL
  rw [← List.countP_eq_length_filter, ← List.countP_eq_length_filter]
  apply List.countP_mono_left
  intro l _ q
  have := of_decide_eq_true q
  exact decide_eq_true (by omega)
theorem cnt_less {ls : List Ln} {s t : Int} {l : Ln} (hm : l ∈ ls) (h : s ≤ l.1) (h2 : l.1 < t) : cntL ls s + 1 ≤ cntL ls t := by
  unfold cntL lessL
  rw [← List.countP_eq_length_filter, ← List.countP_eq_length_filter]
  induction ls with
  | nil => cases hm
  | cons x ls ih =>
    rw [List.countP_cons, List.countP_cons]
    have mono : ls.countP (fun l => decide (l.1 < s)) ≤ ls.countP (fun l => decide (l.1 < t)) := List.countP_mono_left fun l _ q => by
      have := of_decide_eq_true q
      exact decide_eq_true (by omega)
    rcases List.mem_cons.1 hm with rfl | hm
    · rw [if_neg (by rw [decide_eq_false (by omega)]; decide), if_pos (decide_eq_true h2)]
      omega
    · have := ih hm
      by_cases q : x.1 < s
      · rw [if_pos (decide_eq_true q), if_pos (decide_eq_true (by omega))]; omega
      · rw [if_neg (by rw [decide_eq_false q]; decide)]
        split <;> omega
theorem slope_le {ls : List Ln} {l : Ln} (hm : l ∈ ls) {k : Int} (h : lAt l (k + 1) = lowL ls (k + 1)) : l.1 ≤ (rowL ls k).2.1 := by
  have := low_le hm k
  rw [lAt_succ] at h
  show l.1 ≤ lowL ls (k + 1) - lowL ls k
  omega
theorem slope_ge {ls : List Ln} {l : Ln} (hm : l ∈ ls) {k : Int} (h : lAt l k = lowL ls k) : (rowL ls k).2.1 ≤ l.1 := by
  have := low_le hm (k + 1)
  rw [lAt_succ] at this
  show lowL ls (k + 1) - lowL ls k ≤ l.1
  omega
theorem mu_bend {ls : List Ln} (h : ls ≠ []) {f b : Int} (hb : bendL ls (rowL ls f) = some b) : muL ls (rowL ls b) < muL ls (rowL ls f) := by
  classical
  obtain ⟨h1, h2, h3, h4⟩ := bend_facts h hb
  have cm := cnt_mono (ls := ls) (Int.le_of_lt h4)
  unfold muL
  by_cases t' : Tang ls (rowL ls b)
  · obtain ⟨l, hm, e1, e2⟩ := t'
    have := cnt_less hm (s := (rowL ls b).2.1) (t := (rowL ls f).2.1) (by omega) (by omega)
    rw [if_pos ⟨l, hm, e1, e2⟩]
    split <;> omega
  · rw [if_neg t']
    by_cases t : Tang ls (rowL ls f)
    · rw [if_pos t]; omega
    · rw [if_neg t]
      obtain ⟨l, hm, e⟩ := low_ex h (f + 1)
      have q1 := slope_le hm e.symm
      have q2 : l.1 ≠ (rowL ls f).2.1 := fun q => t ⟨l, hm, q, e.symm⟩
      have q3 : (rowL ls b).2.1 ≤ l.1 := by
        obtain ⟨d, rfl⟩ : ∃ d : Nat, b = f + 1 + d := ⟨(b - (f + 1)).toNat, by omega⟩
        have k1 := low_fall h (f + 1) d
        have k2 := slope_ge hm e.symm
        show lowL ls (f + 1 + d + 1) - lowL ls (f + 1 + d) ≤ l.1
        have k2 : lowL ls (f + 1 + 1) - lowL ls (f + 1) ≤ l.1 := k2
        omega
      have := cnt_less hm q3 (t := (rowL ls f).2.1) (by omega)
      omega
theorem mu_last {ls : List Ln} (h : ls ≠ []) {f : Int} (hb : bendL ls (rowL ls f) = none) : muL ls (rowL ls f) = 1 ∧ ∃ l ∈ ls, l.1 = (rowL ls f).2.1 := by
  classical
  have nb := no_bend hb
  obtain ⟨l, hm, e⟩ := low_ex h (f + 1)
  have q1 := slope_le hm e.symm
  have q2 := nb l hm
  have c0 : cntL ls (rowL ls f).2.1 = 0 := by
    unfold cntL
    cases hl : lessL ls (rowL ls f).2.1 with
    | nil => rfl
    | cons x xs =>
      have hx := mem_less.1 (by rw [hl]; simp : x ∈ lessL ls (rowL ls f).2.1)
      have := nb x hx.1
      omega
  refine ⟨?_, l, hm, by omega⟩
  unfold muL
  rw [c0, if_pos ⟨l, hm, by omega, e.symm⟩]
/-! ### the rows -/
/-- rows from a first number of rounds on -/
inductive RowsL (ls : List Ln) : Int → List Rw → Prop
  | last (f : Int) : bendL ls (rowL ls f) = none → RowsL ls f [rowL ls f]
  | next (f b : Int) (rs : List Rw) : bendL ls (rowL ls f) = some b → RowsL ls b rs → RowsL ls f (rowL ls f :: rs)
theorem RowsL.len {ls : List Ln} (h : ls ≠ []) {f : Int} {rs : List Rw} (hr : RowsL ls f rs) : rs.length ≤ muL ls (rowL ls f) := by
  induction hr with
  | last f hb => rw [(mu_last h hb).1]; exact Nat.le_refl _
  | next f b rs hb _ ih => have := mu_bend h hb; rw [List.length_cons]; omega
end Lw
-- F2
-- F3
-- F4
namespace Lw
open PySem PySem.Spec PyProof.Rows L2
local macro_rules | `(tactic| walk_at "lw e") => `(tactic| (repeat (first | (with_reducible refine Stp.go ?_) | (with_reducible apply Exists.intro) | ((with_reducible refine And.intro ?_ ?_); · (first | (with_reducible exact Evl.ev) | ((fail_if_success (with_reducible refine Gd.keep ?_)); rfl) | ((with_reducible apply mul_r); decide) | ((with_reducible apply mul_l); decide) | ((with_reducible apply div_i); decide) | ((with_reducible apply in_R); decide) | (exact Nat.le_of_ble_eq_true rfl) | (simp [refsOf]; done) | (exact ⟨rfl, rfl, by decide⟩) | (exact ⟨rfl, rfl, rfl⟩) | ((with_reducible apply tgN_o); (focus rfl); (focus (first | assumption | trivial))))) | ((with_reducible apply Sm.vrP); (focus rfl)) | ((with_reducible apply Sm.vrO); (focus rfl)) | ((with_reducible apply Sm.augI); (focus rfl)) | ((with_reducible refine Sm.dicE ?_ ?_); (focus decide)) | ((with_reducible apply Sm.augS); (focus rfl)) | (with_reducible refine iteTT ?_) | (with_reducible refine iteT ?_) | (with_reducible refine iteF ?_) | ((with_reducible refine iteB1 ?_ ?_); (focus rfl)) | ((with_reducible refine iteB0 ?_ ?_); (focus rfl)))))
local macro_rules | `(tactic| walk_at "lw n") => `(tactic| (try dsimp only [ent, List.map, Nat.reduceAdd, Nat.reduceSub, List.length_cons, List.length_nil, List.replicate_succ, List.replicate_zero, List.cons_append, List.nil_append, putBack, setOwn, List.getElem?_cons_zero, List.getElem?_cons_succ, List.set_cons_zero, List.set_cons_succ, Sm.nf]))
local macro_rules | `(tactic| walk_at "lw v") => `(tactic| (try simp only [pb1, pb2, pb3, pb4, pb5, pb6]))
/-! ### lowest, row_at, bend_of, rows_from -/
end Lw
-- F2
-- F3
-- F4
namespace Lw
open PySem PySem.Spec PyProof.Rows L2
local macro_rules | `(tactic| walk_at "lw e") => `(tactic| (repeat (first | (with_reducible refine Stp.go ?_) | (with_reducible apply Exists.intro) | ((with_reducible refine And.intro ?_ ?_); · (first | (with_reducible exact Evl.ev) | ((fail_if_success (with_reducible refine Gd.keep ?_)); rfl) | ((with_reducible apply mul_r); decide) | ((with_reducible apply mul_l); decide) | ((with_reducible apply div_i); decide) | ((with_reducible apply in_R); decide) | (exact Nat.le_of_ble_eq_true rfl) | (simp [refsOf]; done) | (exact ⟨rfl, rfl, by decide⟩) | (exact ⟨rfl, rfl, rfl⟩) | ((with_reducible apply tgN_o); (focus rfl); (focus (first | assumption | trivial))))) | ((with_reducible apply Sm.vrP); (focus rfl)) | ((with_reducible apply Sm.vrO); (focus rfl)) | ((with_reducible apply Sm.augI); (focus rfl)) | ((with_reducible refine Sm.dicE ?_ ?_); (focus decide)) | ((with_reducible apply Sm.augS); (focus rfl)) | (with_reducible refine iteTT ?_) | (with_reducible refine iteT ?_) | (with_reducible refine iteF ?_) | ((with_reducible refine iteB1 ?_ ?_); (focus rfl)) | ((with_reducible refine iteB0 ?_ ?_); (focus rfl)))))
local macro_rules | `(tactic| walk_at "lw n") => `(tactic| (try dsimp only [ent, List.map, Nat.reduceAdd, Nat.reduceSub, List.length_cons, List.length_nil, List.replicate_succ, List.replicate_zero, List.cons_append, List.nil_append, putBack, setOwn, List.getElem?_cons_zero, List.getElem?_cons_succ, List.set_cons_zero, List.set_cons_succ, Sm.nf]))
local macro_rules | `(tactic| walk_at "lw v") => `(tactic| (try simp only [pb1, pb2, pb3, pb4, pb5, pb6]))
/-! ### rules for lists of lists and dicts of one's own -/
instance {a b : D} {x : Option (List D)} : Gd5 (gRn2 a b = x) := ⟨id⟩
instance {a : D} {x : Option (List D)} : Gd5 (gRn1 a = x) := ⟨id⟩
/-! ### stepped_on -/
end Lw
-- F2
-- F3
-- F4
-- F5
namespace Lw
open PySem PySem.Spec PyProof.Rows L2
local macro_rules | `(tactic| walk_at "lw e") => `(tactic| (repeat (first | (with_reducible refine Stp.go ?_) | (with_reducible apply Exists.intro) | ((with_reducible refine And.intro ?_ ?_); · (first | (with_reducible exact Evl.ev) | ((fail_if_success (with_reducible refine Gd.keep ?_)); (fail_if_success (with_reducible refine Gd5.keep ?_)); rfl) | ((with_reducible apply mul_r); decide) | ((with_reducible apply mul_l); decide) | ((with_reducible apply div_i); decide) | ((with_reducible apply in_R); decide) | (exact Nat.le_of_ble_eq_true rfl) | (simp [refsOf]; done) | (exact ⟨rfl, rfl, by decide⟩) | (exact ⟨rfl, rfl, rfl⟩) | ((with_reducible apply tgN_o); (focus rfl); (focus (first | assumption | trivial))))) | ((with_reducible apply Sm.vrP); (focus rfl)) | ((with_reducible apply Sm.vrO); (focus rfl)) | ((with_reducible apply Sm.augI); (focus rfl)) | ((with_reducible refine Sm.dicE ?_ ?_); (focus decide)) | ((with_reducible apply Sm.augS); (focus rfl)) | ((with_reducible apply Sm.augL); (focus rfl)) | (with_reducible refine iteTT ?_) | (with_reducible refine iteT ?_) | (with_reducible refine iteF ?_) | ((with_reducible refine iteB1 ?_ ?_); (focus rfl)) | ((with_reducible refine iteB0 ?_ ?_); (focus rfl)))))
local macro_rules | `(tactic| walk_at "lw n") => `(tactic| (try dsimp only [ent, List.map, Nat.reduceAdd, Nat.reduceSub, List.length_cons, List.length_nil, List.replicate_succ, List.replicate_zero, List.cons_append, List.nil_append, putBack, setOwn, List.getElem?_cons_zero, List.getElem?_cons_succ, List.set_cons_zero, List.set_cons_succ, Sm.nf]))
local macro_rules | `(tactic| walk_at "lw v") => `(tactic| (try simp only [pb1, pb2, pb3, pb4, pb5, pb6]))
/-! ### begins_waiting -/
end Lw
-- F2
-- F3
-- F4
-- F5
namespace Lw
open PySem PySem.Spec PyProof.Rows L2
local macro_rules | `(tactic| walk_at "lw e") => `(tactic| (repeat (first | (with_reducible refine Stp.go ?_) | (with_reducible apply Exists.intro) | ((with_reducible refine And.intro ?_ ?_); · (first | (with_reducible exact Evl.ev) | ((fail_if_success (with_reducible refine Gd.keep ?_)); (fail_if_success (with_reducible refine Gd5.keep ?_)); rfl) | ((with_reducible apply mul_r); decide) | ((with_reducible apply mul_l); decide) | ((with_reducible apply div_i); decide) | ((with_reducible apply in_R); decide) | (exact Nat.le_of_ble_eq_true rfl) | (simp [refsOf]; done) | (exact ⟨rfl, rfl, by decide⟩) | (exact ⟨rfl, rfl, rfl⟩) | ((with_reducible apply tgN_o); (focus rfl); (focus (first | assumption | trivial))))) | ((with_reducible apply Sm.vrP); (focus rfl)) | ((with_reducible apply Sm.vrO); (focus rfl)) | ((with_reducible apply Sm.augI); (focus rfl)) | ((with_reducible refine Sm.dicE ?_ ?_); (focus decide)) | ((with_reducible apply Sm.augS); (focus rfl)) | ((with_reducible apply Sm.augL); (focus rfl)) | (with_reducible refine iteTT ?_) | (with_reducible refine iteT ?_) | (with_reducible refine iteF ?_) | ((with_reducible refine iteB1 ?_ ?_); (focus rfl)) | ((with_reducible refine iteB0 ?_ ?_); (focus rfl)))))
local macro_rules | `(tactic| walk_at "lw n") => `(tactic| (try dsimp only [ent, List.map, Nat.reduceAdd, Nat.reduceSub, List.length_cons, List.length_nil, List.replicate_succ, List.replicate_zero, List.cons_append, List.nil_append, putBack, setOwn, List.getElem?_cons_zero, List.getElem?_cons_succ, List.set_cons_zero, List.set_cons_succ, Sm.nf]))
local macro_rules | `(tactic| walk_at "lw v") => `(tactic| (try simp only [pb1, pb2, pb3, pb4, pb5, pb6]))
/-! ### merged lines -/
/-! ### the totals' lines -/
end Lw
-- F2
-- F3
-- F4
-- F5
namespace Lw
open PySem PySem.Spec PyProof.Rows L2
local macro_rules | `(tactic| walk_at "lw e") => `(tactic| (repeat (first | (with_reducible refine Stp.go ?_) | (with_reducible apply Exists.intro) | ((with_reducible refine And.intro ?_ ?_); · (first | (with_reducible exact Evl.ev) | ((fail_if_success (with_reducible refine Gd.keep ?_)); (fail_if_success (with_reducible refine Gd5.keep ?_)); rfl) | ((with_reducible apply mul_r); decide) | ((with_reducible apply mul_l); decide) | ((with_reducible apply div_i); decide) | ((with_reducible apply in_R); decide) | (exact Nat.le_of_ble_eq_true rfl) | (simp [refsOf]; done) | (exact ⟨rfl, rfl, by decide⟩) | (exact ⟨rfl, rfl, rfl⟩) | ((with_reducible apply tgN_o); (focus rfl); (focus (first | assumption | trivial))))) | ((with_reducible apply Sm.vrP); (focus rfl)) | ((with_reducible apply Sm.vrO); (focus rfl)) | ((with_reducible apply Sm.augI); (focus rfl)) | ((with_reducible refine Sm.dicE ?_ ?_); (focus decide)) | ((with_reducible apply Sm.augS); (focus rfl)) | ((with_reducible apply Sm.augL); (focus rfl)) | (with_reducible refine iteTT ?_) | (with_reducible refine iteT ?_) | (with_reducible refine iteF ?_) | ((with_reducible refine iteB1 ?_ ?_); (focus rfl)) | ((with_reducible refine iteB0 ?_ ?_); (focus rfl)))))
local macro_rules | `(tactic| walk_at "lw n") => `(tactic| (try dsimp only [ent, List.map, Nat.reduceAdd, Nat.reduceSub, List.length_cons, List.length_nil, List.replicate_succ, List.replicate_zero, List.cons_append, List.nil_append, putBack, setOwn, List.getElem?_cons_zero, List.getElem?_cons_succ, List.set_cons_zero, List.set_cons_succ, Sm.nf]))
local macro_rules | `(tactic| walk_at "lw v") => `(tactic| (try simp only [pb1, pb2, pb3, pb4, pb5, pb6]))
/-! ### lines_of -/
end Lw
-- F2
-- F3
-- F4
-- F5
namespace Lw
open PySem PySem.Spec PyProof.Rows L2
local macro_rules | `(tactic| walk_at "lw e") => `(tactic| (repeat (first | (with_reducible refine Stp.go ?_) | (with_reducible apply Exists.intro) | ((with_reducible refine And.intro ?_ ?_); · (first | (with_reducible exact Evl.ev) | ((fail_if_success (with_reducible refine Gd.keep ?_)); (fail_if_success (with_reducible refine Gd5.keep ?_)); rfl) | ((with_reducible apply mul_r); decide) | ((with_reducible apply mul_l); decide) | ((with_reducible apply div_i); decide) | ((with_reducible apply in_R); decide) | (exact Nat.le_of_ble_eq_true rfl) | (simp [refsOf]; done) | (exact ⟨rfl, rfl, by decide⟩) | (exact ⟨rfl, rfl, rfl⟩) | ((with_reducible apply tgN_o); (focus rfl); (focus (first | assumption | trivial))))) | ((with_reducible apply Sm.vrP); (focus rfl)) | ((with_reducible apply Sm.vrO); (focus rfl)) | ((with_reducible apply Sm.augI); (focus rfl)) | ((with_reducible refine Sm.dicE ?_ ?_); (focus decide)) | ((with_reducible apply Sm.augS); (focus rfl)) | ((with_reducible apply Sm.augL); (focus rfl)) | (with_reducible refine iteTT ?_) | (with_reducible refine iteT ?_) | (with_reducible refine iteF ?_) | ((with_reducible refine iteB1 ?_ ?_); (focus rfl)) | ((with_reducible refine iteB0 ?_ ?_); (focus rfl)))))
local macro_rules | `(tactic| walk_at "lw n") => `(tactic| (try dsimp only [ent, List.map, Nat.reduceAdd, Nat.reduceSub, List.length_cons, List.length_nil, List.replicate_succ, List.replicate_zero, List.cons_append, List.nil_append, putBack, setOwn, List.getElem?_cons_zero, List.getElem?_cons_succ, List.set_cons_zero, List.set_cons_succ, Sm.nf]))
local macro_rules | `(tactic| walk_at "lw v") => `(tactic| (try simp only [pb1, pb2, pb3, pb4, pb5, pb6]))
/-! ### merged -/
end Lw
-- F2
-- F3
-- F4
-- F5
namespace Lw
open PySem PySem.Spec PyProof.Rows L2
local macro_rules | `(tactic| walk_at "lw e") => `(tactic| (repeat (first | (with_reducible refine Stp.go ?_) | (with_reducible apply Exists.intro) | ((with_reducible refine And.intro ?_ ?_); · (first | (with_reducible exact Evl.ev) | ((fail_if_success (with_reducible refine Gd.keep ?_)); (fail_if_success (with_reducible refine Gd5.keep ?_)); rfl) | ((with_reducible apply mul_r); decide) | ((with_reducible apply mul_l); decide) | ((with_reducible apply div_i); decide) | ((with_reducible apply in_R); decide) | (exact Nat.le_of_ble_eq_true rfl) | (simp [refsOf]; done) | (exact ⟨rfl, rfl, by decide⟩) | (exact ⟨rfl, rfl, rfl⟩) | ((with_reducible apply tgN_o); (focus rfl); (focus (first | assumption | trivial))))) | ((with_reducible apply Sm.vrP); (focus rfl)) | ((with_reducible apply Sm.vrO); (focus rfl)) | ((with_reducible apply Sm.augI); (focus rfl)) | ((with_reducible refine Sm.dicE ?_ ?_); (focus decide)) | ((with_reducible apply Sm.augS); (focus rfl)) | ((with_reducible apply Sm.augL); (focus rfl)) | (with_reducible refine iteTT ?_) | (with_reducible refine iteT ?_) | (with_reducible refine iteF ?_) | ((with_reducible refine iteB1 ?_ ?_); (focus rfl)) | ((with_reducible refine iteB0 ?_ ?_); (focus rfl)))))
local macro_rules | `(tactic| walk_at "lw n") => `(tactic| (try dsimp only [ent, List.map, Nat.reduceAdd, Nat.reduceSub, List.length_cons, List.length_nil, List.replicate_succ, List.replicate_zero, List.cons_append, List.nil_append, putBack, setOwn, List.getElem?_cons_zero, List.getElem?_cons_succ, List.set_cons_zero, List.set_cons_succ, Sm.nf]))
local macro_rules | `(tactic| walk_at "lw v") => `(tactic| (try simp only [pb1, pb2, pb3, pb4, pb5, pb6]))
/-! ### rows_at -/
end Lw
-- F2
-- F3
-- F4
-- F5
namespace Lw
open PySem PySem.Spec PyProof.Rows L2
local macro_rules | `(tactic| walk_at "lw e") => `(tactic| (repeat (first | (with_reducible refine Stp.go ?_) | (with_reducible apply Exists.intro) | ((with_reducible refine And.intro ?_ ?_); · (first | (with_reducible exact Evl.ev) | ((fail_if_success (with_reducible refine Gd.keep ?_)); (fail_if_success (with_reducible refine Gd5.keep ?_)); rfl) | ((with_reducible apply mul_r); decide) | ((with_reducible apply mul_l); decide) | ((with_reducible apply div_i); decide) | ((with_reducible apply in_R); decide) | (exact Nat.le_of_ble_eq_true rfl) | (simp [refsOf]; done) | (exact ⟨rfl, rfl, by decide⟩) | (exact ⟨rfl, rfl, rfl⟩) | ((with_reducible apply tgN_o); (focus rfl); (focus (first | assumption | trivial))))) | ((with_reducible apply Sm.vrP); (focus rfl)) | ((with_reducible apply Sm.vrO); (focus rfl)) | ((with_reducible apply Sm.augI); (focus rfl)) | ((with_reducible refine Sm.dicE ?_ ?_); (focus decide)) | ((with_reducible apply Sm.augS); (focus rfl)) | ((with_reducible apply Sm.augL); (focus rfl)) | (with_reducible refine iteTT ?_) | (with_reducible refine iteT ?_) | (with_reducible refine iteF ?_) | ((with_reducible refine iteB1 ?_ ?_); (focus rfl)) | ((with_reducible refine iteB0 ?_ ?_); (focus rfl)))))
local macro_rules | `(tactic| walk_at "lw n") => `(tactic| (try dsimp only [ent, List.map, Nat.reduceAdd, Nat.reduceSub, List.length_cons, List.length_nil, List.replicate_succ, List.replicate_zero, List.cons_append, List.nil_append, putBack, setOwn, List.getElem?_cons_zero, List.getElem?_cons_succ, List.set_cons_zero, List.set_cons_succ, Sm.nf]))
local macro_rules | `(tactic| walk_at "lw v") => `(tactic| (try simp only [pb1, pb2, pb3, pb4, pb5, pb6]))
/-! ### rows, by what they tell -/
structure RowsF (n : Int) (F : Int → Int) (rs : List Rw) : Prop where
  head : ∃ r rest, rs = r :: rest ∧ r.1 = n
  inc : rs.Pairwise fun a b => a.1 < b.1
  fall : rs.Pairwise fun a b => b.2.1 < a.2.1
  cov : ∀ (i : Nat) r, rs[i]? = some r → ∀ k, r.1 ≤ k → (∀ r', rs[i + 1]? = some r' → k ≤ r'.1) → F k = rAt r k
  nxt : ∀ (i : Nat) r, rs[i]? = some r → F (r.1 + 1) = rAt r (r.1 + 1)
/-! ### the first number of rounds at which a difference of rows is below a level -/
end Lw
-- F2
-- F3
-- F4
-- F5
namespace Lw
open PySem PySem.Spec PyProof.Rows L2
local macro_rules | `(tactic| walk_at "lw e") => `(tactic| (repeat (first | (with_reducible refine Stp.go ?_) | (with_reducible apply Exists.intro) | ((with_reducible refine And.intro ?_ ?_); · (first | (with_reducible exact Evl.ev) | ((fail_if_success (with_reducible refine Gd.keep ?_)); (fail_if_success (with_reducible refine Gd5.keep ?_)); rfl) | ((with_reducible apply mul_r); decide) | ((with_reducible apply mul_l); decide) | ((with_reducible apply div_i); decide) | ((with_reducible apply in_R); decide) | (exact Nat.le_of_ble_eq_true rfl) | (simp [refsOf]; done) | (exact ⟨rfl, rfl, by decide⟩) | (exact ⟨rfl, rfl, rfl⟩) | ((with_reducible apply tgN_o); (focus rfl); (focus (first | assumption | trivial))))) | ((with_reducible apply Sm.vrP); (focus rfl)) | ((with_reducible apply Sm.vrO); (focus rfl)) | ((with_reducible apply Sm.augI); (focus rfl)) | ((with_reducible refine Sm.dicE ?_ ?_); (focus decide)) | ((with_reducible apply Sm.augS); (focus rfl)) | ((with_reducible apply Sm.augL); (focus rfl)) | (with_reducible refine iteTT ?_) | (with_reducible refine iteT ?_) | (with_reducible refine iteF ?_) | ((with_reducible refine iteB1 ?_ ?_); (focus rfl)) | ((with_reducible refine iteB0 ?_ ?_); (focus rfl)))))
local macro_rules | `(tactic| walk_at "lw n") => `(tactic| (try dsimp only [ent, List.map, Nat.reduceAdd, Nat.reduceSub, List.length_cons, List.length_nil, List.replicate_succ, List.replicate_zero, List.cons_append, List.nil_append, putBack, setOwn, List.getElem?_cons_zero, List.getElem?_cons_succ, List.set_cons_zero, List.set_cons_succ, Sm.nf]))
local macro_rules | `(tactic| walk_at "lw v") => `(tactic| (try simp only [pb1, pb2, pb3, pb4, pb5, pb6]))
/-! ### row_over, less, first_below -/
end Lw
-- F2
-- F3
-- F4
-- F5
namespace Lw
open PySem PySem.Spec PyProof.Rows L2
local macro_rules | `(tactic| walk_at "lw e") => `(tactic| (repeat (first | (with_reducible refine Stp.go ?_) | (with_reducible apply Exists.intro) | ((with_reducible refine And.intro ?_ ?_); · (first | (with_reducible exact Evl.ev) | ((fail_if_success (with_reducible refine Gd.keep ?_)); (fail_if_success (with_reducible refine Gd5.keep ?_)); rfl) | ((with_reducible apply mul_r); decide) | ((with_reducible apply mul_l); decide) | ((with_reducible apply div_i); decide) | ((with_reducible apply in_R); decide) | (exact Nat.le_of_ble_eq_true rfl) | (simp [refsOf]; done) | (exact ⟨rfl, rfl, by decide⟩) | (exact ⟨rfl, rfl, rfl⟩) | ((with_reducible apply tgN_o); (focus rfl); (focus (first | assumption | trivial))))) | ((with_reducible apply Sm.vrP); (focus rfl)) | ((with_reducible apply Sm.vrO); (focus rfl)) | ((with_reducible apply Sm.augI); (focus rfl)) | ((with_reducible refine Sm.dicE ?_ ?_); (focus decide)) | ((with_reducible apply Sm.augS); (focus rfl)) | ((with_reducible apply Sm.augL); (focus rfl)) | (with_reducible refine iteTT ?_) | (with_reducible refine iteT ?_) | (with_reducible refine iteF ?_) | ((with_reducible refine iteB1 ?_ ?_); (focus rfl)) | ((with_reducible refine iteB0 ?_ ?_); (focus rfl)))))
local macro_rules | `(tactic| walk_at "lw n") => `(tactic| (try dsimp only [ent, List.map, Nat.reduceAdd, Nat.reduceSub, List.length_cons, List.length_nil, List.replicate_succ, List.replicate_zero, List.cons_append, List.nil_append, putBack, setOwn, List.getElem?_cons_zero, List.getElem?_cons_succ, List.set_cons_zero, List.set_cons_succ, Sm.nf]))
local macro_rules | `(tactic| walk_at "lw v") => `(tactic| (try simp only [pb1, pb2, pb3, pb4, pb5, pb6]))
/-! ### dry deeds, round by round -/
def lvAt (ps : List P3) (ds : List Dd) (ls : List Int) (k p : Nat) : List Int := lvs ps (iter (rnd ps ds) k ls) (ds.take p)
def d3 (k p po : Int) : D := .tuple [.int k, .int p, .int po]
end Lw
-- F2
-- F3
-- F4
-- F5
namespace Lw
open PySem PySem.Spec PyProof.Rows L2
local macro_rules | `(tactic| walk_at "lw e") => `(tactic| (repeat (first | (with_reducible refine Stp.go ?_) | (with_reducible apply Exists.intro) | ((with_reducible refine And.intro ?_ ?_); · (first | (with_reducible exact Evl.ev) | ((fail_if_success (with_reducible refine Gd.keep ?_)); (fail_if_success (with_reducible refine Gd5.keep ?_)); rfl) | ((with_reducible apply mul_r); decide) | ((with_reducible apply mul_l); decide) | ((with_reducible apply div_i); decide) | ((with_reducible apply in_R); decide) | (exact Nat.le_of_ble_eq_true rfl) | (simp [refsOf]; done) | (exact ⟨rfl, rfl, by decide⟩) | (exact ⟨rfl, rfl, rfl⟩) | ((with_reducible apply tgN_o); (focus rfl); (focus (first | assumption | trivial))))) | ((with_reducible apply Sm.vrP); (focus rfl)) | ((with_reducible apply Sm.vrO); (focus rfl)) | ((with_reducible apply Sm.augI); (focus rfl)) | ((with_reducible refine Sm.dicE ?_ ?_); (focus decide)) | ((with_reducible apply Sm.augS); (focus rfl)) | ((with_reducible apply Sm.augL); (focus rfl)) | (with_reducible refine iteTT ?_) | (with_reducible refine iteT ?_) | (with_reducible refine iteF ?_) | ((with_reducible refine iteB1 ?_ ?_); (focus rfl)) | ((with_reducible refine iteB0 ?_ ?_); (focus rfl)))))
local macro_rules | `(tactic| walk_at "lw n") => `(tactic| (try dsimp only [ent, List.map, Nat.reduceAdd, Nat.reduceSub, List.length_cons, List.length_nil, List.replicate_succ, List.replicate_zero, List.cons_append, List.nil_append, putBack, setOwn, List.getElem?_cons_zero, List.getElem?_cons_succ, List.set_cons_zero, List.set_cons_succ, Sm.nf]))
local macro_rules | `(tactic| walk_at "lw v") => `(tactic| (try simp only [pb1, pb2, pb3, pb4, pb5, pb6]))
/-! ### far_dry, first_dry -/
def Ttl (ps : List P3) (ds : List Dd) (ls : List Int) (p j k : Nat) : Int := (tots (lvAt ps ds ls k p) ++ [0]).getD j 0
/-! ### the least of found -/
abbrev Fnd := Nat × Nat × Dd
def LexLe (a b : Fnd) : Prop := a.1 < b.1 ∨ (a.1 = b.1 ∧ a.2.1 ≤ b.2.1)
theorem LexLe.trans {a b c : Fnd} (h : LexLe a b) (k : LexLe b c) : LexLe a c := by unfold LexLe at *; omega
end Lw
-- F2
-- F3
-- F4
-- F5
namespace Lw
open PySem PySem.Spec PyProof.Rows L2
local macro_rules | `(tactic| walk_at "lw e") => `(tactic| (repeat (first | (with_reducible refine Stp.go ?_) | (with_reducible apply Exists.intro) | ((with_reducible refine And.intro ?_ ?_); · (first | (with_reducible exact Evl.ev) | ((fail_if_success (with_reducible refine Gd.keep ?_)); (fail_if_success (with_reducible refine Gd5.keep ?_)); rfl) | ((with_reducible apply mul_r); decide) | ((with_reducible apply mul_l); decide) | ((with_reducible apply div_i); decide) | ((with_reducible apply in_R); decide) | (exact Nat.le_of_ble_eq_true rfl) | (simp [refsOf]; done) | (exact ⟨rfl, rfl, by decide⟩) | (exact ⟨rfl, rfl, rfl⟩) | ((with_reducible apply tgN_o); (focus rfl); (focus (first | assumption | trivial))))) | ((with_reducible apply Sm.vrP); (focus rfl)) | ((with_reducible apply Sm.vrO); (focus rfl)) | ((with_reducible apply Sm.augI); (focus rfl)) | ((with_reducible refine Sm.dicE ?_ ?_); (focus decide)) | ((with_reducible apply Sm.augS); (focus rfl)) | ((with_reducible apply Sm.augL); (focus rfl)) | (with_reducible refine iteTT ?_) | (with_reducible refine iteT ?_) | (with_reducible refine iteF ?_) | ((with_reducible refine iteB1 ?_ ?_); (focus rfl)) | ((with_reducible refine iteB0 ?_ ?_); (focus rfl)))))
local macro_rules | `(tactic| walk_at "lw n") => `(tactic| (try dsimp only [ent, List.map, Nat.reduceAdd, Nat.reduceSub, List.length_cons, List.length_nil, List.replicate_succ, List.replicate_zero, List.cons_append, List.nil_append, putBack, setOwn, List.getElem?_cons_zero, List.getElem?_cons_succ, List.set_cons_zero, List.set_cons_succ, Sm.nf]))
local macro_rules | `(tactic| walk_at "lw v") => `(tactic| (try simp only [pb1, pb2, pb3, pb4, pb5, pb6]))
/-! ### a stair, levels and deeds such as these defs take -/
end Lw
-- F2
-- F3
-- F4
-- F5
namespace Lw
open PySem PySem.Spec PyProof.Rows L2
local macro_rules | `(tactic| walk_at "lw e") => `(tactic| (repeat (first | (with_reducible refine Stp.go ?_) | (with_reducible apply Exists.intro) | ((with_reducible refine And.intro ?_ ?_); · (first | (with_reducible exact Evl.ev) | ((fail_if_success (with_reducible refine Gd.keep ?_)); (fail_if_success (with_reducible refine Gd5.keep ?_)); rfl) | ((with_reducible apply mul_r); decide) | ((with_reducible apply mul_l); decide) | ((with_reducible apply div_i); decide) | ((with_reducible apply in_R); decide) | (exact Nat.le_of_ble_eq_true rfl) | (simp [refsOf]; done) | (exact ⟨rfl, rfl, by decide⟩) | (exact ⟨rfl, rfl, rfl⟩) | ((with_reducible apply tgN_o); (focus rfl); (focus (first | assumption | trivial))))) | ((with_reducible apply Sm.vrP); (focus rfl)) | ((with_reducible apply Sm.vrO); (focus rfl)) | ((with_reducible apply Sm.augI); (focus rfl)) | ((with_reducible refine Sm.dicE ?_ ?_); (focus decide)) | ((with_reducible apply Sm.augS); (focus rfl)) | ((with_reducible apply Sm.augL); (focus rfl)) | (with_reducible refine iteTT ?_) | (with_reducible refine iteT ?_) | (with_reducible refine iteF ?_) | ((with_reducible refine iteB1 ?_ ?_); (focus rfl)) | ((with_reducible refine iteB0 ?_ ?_); (focus rfl)))))
local macro_rules | `(tactic| walk_at "lw n") => `(tactic| (try dsimp only [ent, List.map, Nat.reduceAdd, Nat.reduceSub, List.length_cons, List.length_nil, List.replicate_succ, List.replicate_zero, List.cons_append, List.nil_append, putBack, setOwn, List.getElem?_cons_zero, List.getElem?_cons_succ, List.set_cons_zero, List.set_cons_succ, Sm.nf]))
local macro_rules | `(tactic| walk_at "lw v") => `(tactic| (try simp only [pb1, pb2, pb3, pb4, pb5, pb6]))
/-! ### drawn worlds fit -/
/-! ### more water is no less -/
inductive LeA : List Int → List Int → Prop
  | nil : LeA [] []
  | cons {x y : Int} {xs ys : List Int} : x ≤ y → LeA xs ys → LeA (x :: xs) (y :: ys)
theorem LeA.len {xs ys : List Int} (h : LeA xs ys) : xs.length = ys.length := by
  induction h with
  | nil => rfl
  | cons _ _ ih => rw [List.length_cons, List.length_cons, ih]
theorem LeA.get {xs ys : List Int} (h : LeA xs ys) : ∀ i, xs.getD i 0 ≤ ys.getD i 0 := by
  induction h with
  | nil => intro i; exact Int.le_refl _
  | cons hx _ ih =>
    intro i
    cases i with
    | zero => exact hx
    | succ i => exact ih i
theorem LeA.set {xs ys : List Int} (h : LeA xs ys) {x y : Int} (hxy : x ≤ y) : ∀ i, LeA (xs.set i x) (ys.set i y) := by
  induction h with
  | nil => intro i; exact .nil
  | cons hx hs ih =>
    intro i
    cases i with
    | zero => exact .cons hxy hs
    | succ i => exact .cons hx (ih i)
theorem LeA.of : ∀ {xs ys : List Int}, xs.length = ys.length → (∀ (i : Nat) x y, xs[i]? = some x → ys[i]? = some y → x ≤ y) → LeA xs ys
  | [], [], _, _ => .nil
  | [], _ :: _, h, _ => by cases h
  | _ :: _, [], h, _ => by cases h
  | x :: xs, y :: ys, h, k => .cons (k 0 x y rfl rfl) (LeA.of (by simpa using h) fun i a b ha hb => k (i + 1) a b (by simpa using ha) (by simpa using hb))
end Lw
-- F2
-- F3
-- F4
-- F5
namespace Lw
open PySem PySem.Spec PyProof.Rows L2
local macro_rules | `(tactic| walk_at "lw e") => `(tactic| (repeat (first | (with_reducible refine Stp.go ?_) | (with_reducible apply Exists.intro) | ((with_reducible refine And.intro ?_ ?_); · (first | (with_reducible exact Evl.ev) | ((fail_if_success (with_reducible refine Gd.keep ?_)); (fail_if_success (with_reducible refine Gd5.keep ?_)); rfl) | ((with_reducible apply mul_r); decide) | ((with_reducible apply mul_l); decide) | ((with_reducible apply div_i); decide) | ((with_reducible apply in_R); decide) | (exact Nat.le_of_ble_eq_true rfl) | (simp [refsOf]; done) | (exact ⟨rfl, rfl, by decide⟩) | (exact ⟨rfl, rfl, rfl⟩) | ((with_reducible apply tgN_o); (focus rfl); (focus (first | assumption | trivial))))) | ((with_reducible apply Sm.vrP); (focus rfl)) | ((with_reducible apply Sm.vrO); (focus rfl)) | ((with_reducible apply Sm.augI); (focus rfl)) | ((with_reducible refine Sm.dicE ?_ ?_); (focus decide)) | ((with_reducible apply Sm.augS); (focus rfl)) | ((with_reducible apply Sm.augL); (focus rfl)) | (with_reducible refine iteTT ?_) | (with_reducible refine iteT ?_) | (with_reducible refine iteF ?_) | ((with_reducible refine iteB1 ?_ ?_); (focus rfl)) | ((with_reducible refine iteB0 ?_ ?_); (focus rfl)))))
local macro_rules | `(tactic| walk_at "lw n") => `(tactic| (try dsimp only [ent, List.map, Nat.reduceAdd, Nat.reduceSub, List.length_cons, List.length_nil, List.replicate_succ, List.replicate_zero, List.cons_append, List.nil_append, putBack, setOwn, List.getElem?_cons_zero, List.getElem?_cons_succ, List.set_cons_zero, List.set_cons_succ, Sm.nf]))
local macro_rules | `(tactic| walk_at "lw v") => `(tactic| (try simp only [pb1, pb2, pb3, pb4, pb5, pb6]))
/-! ### stairs with wide pounds -/
structure PoundW (W : Int) (p : P3) : Prop where
  a0 : 0 ≤ p.1
  ab : p.1 ≤ p.2.1
  bw : p.2.1 ≤ W
  s1 : 1 ≤ p.2.2
  s2 : p.2.2 ≤ 10000000000000000
def Amt (A : Int) : Dd → Prop
  | .raise _ m => 1 ≤ m ∧ m ≤ A
  | .lower _ m => 1 ≤ m ∧ m ≤ A
  | _ => True
theorem Amt.mono {A B : Int} (h : A ≤ B) {d : Dd} (k : Amt A d) : Amt B d := by
  cases d with
  | raise l m => exact ⟨k.1, Int.le_trans k.2 h⟩
  | lower l m => exact ⟨k.1, Int.le_trans k.2 h⟩
  | _ => trivial
/-! ### strict walks -/
/-! ### levels stay within, as long as nothing is dry -/
end Lw
-- F2
-- F3
-- F4
-- F5
namespace Lw
open PySem PySem.Spec PyProof.Rows L2
local macro_rules | `(tactic| walk_at "lw e") => `(tactic| (repeat (first | (with_reducible refine Stp.go ?_) | (with_reducible apply Exists.intro) | ((with_reducible refine And.intro ?_ ?_); · (first | (with_reducible exact Evl.ev) | ((fail_if_success (with_reducible refine Gd.keep ?_)); (fail_if_success (with_reducible refine Gd5.keep ?_)); rfl) | ((with_reducible apply mul_r); decide) | ((with_reducible apply mul_l); decide) | ((with_reducible apply div_i); decide) | ((with_reducible apply in_R); decide) | (exact Nat.le_of_ble_eq_true rfl) | (simp [refsOf]; done) | (exact ⟨rfl, rfl, by decide⟩) | (exact ⟨rfl, rfl, rfl⟩) | ((with_reducible apply tgN_o); (focus rfl); (focus (first | assumption | trivial))))) | ((with_reducible apply Sm.vrP); (focus rfl)) | ((with_reducible apply Sm.vrO); (focus rfl)) | ((with_reducible apply Sm.augI); (focus rfl)) | ((with_reducible refine Sm.dicE ?_ ?_); (focus decide)) | ((with_reducible apply Sm.augS); (focus rfl)) | ((with_reducible apply Sm.augL); (focus rfl)) | (with_reducible refine iteTT ?_) | (with_reducible refine iteT ?_) | (with_reducible refine iteF ?_) | ((with_reducible refine iteB1 ?_ ?_); (focus rfl)) | ((with_reducible refine iteB0 ?_ ?_); (focus rfl)))))
local macro_rules | `(tactic| walk_at "lw n") => `(tactic| (try dsimp only [ent, List.map, Nat.reduceAdd, Nat.reduceSub, List.length_cons, List.length_nil, List.replicate_succ, List.replicate_zero, List.cons_append, List.nil_append, putBack, setOwn, List.getElem?_cons_zero, List.getElem?_cons_succ, List.set_cons_zero, List.set_cons_succ, Sm.nf]))
local macro_rules | `(tactic| walk_at "lw v") => `(tactic| (try simp only [pb1, pb2, pb3, pb4, pb5, pb6]))
/-! ### rounds as one row of deeds without end -/
/-! ### rounds put otherwise -/
end Lw
-- F2
-- F3
-- F4
-- F5
namespace Lw
open PySem PySem.Spec PyProof.Rows L2
local macro_rules | `(tactic| walk_at "lw e") => `(tactic| (repeat (first | (with_reducible refine Stp.go ?_) | (with_reducible apply Exists.intro) | ((with_reducible refine And.intro ?_ ?_); · (first | (with_reducible exact Evl.ev) | ((fail_if_success (with_reducible refine Gd.keep ?_)); (fail_if_success (with_reducible refine Gd5.keep ?_)); rfl) | ((with_reducible apply mul_r); decide) | ((with_reducible apply mul_l); decide) | ((with_reducible apply div_i); decide) | ((with_reducible apply in_R); decide) | (exact Nat.le_of_ble_eq_true rfl) | (simp [refsOf]; done) | (exact ⟨rfl, rfl, by decide⟩) | (exact ⟨rfl, rfl, rfl⟩) | ((with_reducible apply tgN_o); (focus rfl); (focus (first | assumption | trivial))))) | ((with_reducible apply Sm.vrP); (focus rfl)) | ((with_reducible apply Sm.vrO); (focus rfl)) | ((with_reducible apply Sm.augI); (focus rfl)) | ((with_reducible refine Sm.dicE ?_ ?_); (focus decide)) | ((with_reducible apply Sm.augS); (focus rfl)) | ((with_reducible apply Sm.augL); (focus rfl)) | (with_reducible refine iteTT ?_) | (with_reducible refine iteT ?_) | (with_reducible refine iteF ?_) | ((with_reducible refine iteB1 ?_ ?_); (focus rfl)) | ((with_reducible refine iteB0 ?_ ?_); (focus rfl)))))
local macro_rules | `(tactic| walk_at "lw n") => `(tactic| (try dsimp only [ent, List.map, Nat.reduceAdd, Nat.reduceSub, List.length_cons, List.length_nil, List.replicate_succ, List.replicate_zero, List.cons_append, List.nil_append, putBack, setOwn, List.getElem?_cons_zero, List.getElem?_cons_succ, List.set_cons_zero, List.set_cons_succ, Sm.nf]))
local macro_rules | `(tactic| walk_at "lw v") => `(tactic| (try simp only [pb1, pb2, pb3, pb4, pb5, pb6]))
/-! ### wide pounds, drawn levels in them -/
def PoundG (g : Nat) (p : Int × Int × Int) : Prop := ∃ a b s : Int, p = (a * g, (a + b) * g, s * g) ∧ 0 ≤ a ∧ a < 4 ∧ 0 ≤ b ∧ b < 200000 ∧ 1 ≤ s ∧ s < 5
theorem PoundI.g {g : Nat} {p : P3} (h : PoundI g p) : PoundG g p := by
  obtain ⟨a, b, s, rfl, h1, h2, h3, h4, h5, h6⟩ := h
  exact ⟨a, b, s, rfl, h1, h2, h3, by omega, h5, h6⟩
theorem PoundG.w {g : Nat} (hg1 : 1 ≤ g) (hg : g ≤ 1000000000000000) {p : P3} (h : PoundG g p) : PoundW 300000000000000000000 p := by
  obtain ⟨a, b, s, rfl, h1, h2, h3, h4, h5, h6⟩ := h
  have k1 : 0 ≤ a * (g : Int) := Int.mul_nonneg h1 (by omega)
  have k2 : (a + b) * (g : Int) = a * g + b * g := Int.add_mul _ _ _
  have k3 : 0 ≤ b * (g : Int) := Int.mul_nonneg h3 (by omega)
  have k4 : (a + b) * (g : Int) ≤ 200004 * g := Int.mul_le_mul_of_nonneg_right (by omega) (by omega)
  have e1 : 1 * 1 ≤ s * (g : Int) := Int.mul_le_mul h5 (by omega) (by omega) (by omega)
  have e2 : s * (g : Int) ≤ 4 * g := Int.mul_le_mul_of_nonneg_right (by omega) (by omega)
  exact ⟨k1, by show a * (g : Int) ≤ (a + b) * g; omega, by show (a + b) * (g : Int) ≤ _; omega, by show 1 ≤ s * (g : Int); omega, by show s * (g : Int) ≤ _; omega⟩
/-! ### a law that is right several times over each box -/
end Lw
-- F2
-- F3
-- F4
-- F5
namespace Lw
open PySem PySem.Spec PyProof.Rows L2
local macro_rules | `(tactic| walk_at "lw e") => `(tactic| (repeat (first | (with_reducible refine Stp.go ?_) | (with_reducible apply Exists.intro) | ((with_reducible refine And.intro ?_ ?_); · (first | (with_reducible exact Evl.ev) | ((fail_if_success (with_reducible refine Gd.keep ?_)); (fail_if_success (with_reducible refine Gd5.keep ?_)); rfl) | ((with_reducible apply mul_r); decide) | ((with_reducible apply mul_l); decide) | ((with_reducible apply div_i); decide) | ((with_reducible apply in_R); decide) | (exact Nat.le_of_ble_eq_true rfl) | (simp [refsOf]; done) | (exact ⟨rfl, rfl, by decide⟩) | (exact ⟨rfl, rfl, rfl⟩) | ((with_reducible apply tgN_o); (focus rfl); (focus (first | assumption | trivial))))) | ((with_reducible apply Sm.vrP); (focus rfl)) | ((with_reducible apply Sm.vrO); (focus rfl)) | ((with_reducible apply Sm.augI); (focus rfl)) | ((with_reducible refine Sm.dicE ?_ ?_); (focus decide)) | ((with_reducible apply Sm.augS); (focus rfl)) | ((with_reducible apply Sm.augL); (focus rfl)) | (with_reducible refine iteTT ?_) | (with_reducible refine iteT ?_) | (with_reducible refine iteF ?_) | ((with_reducible refine iteB1 ?_ ?_); (focus rfl)) | ((with_reducible refine iteB0 ?_ ?_); (focus rfl)))))
local macro_rules | `(tactic| walk_at "lw n") => `(tactic| (try dsimp only [ent, List.map, Nat.reduceAdd, Nat.reduceSub, List.length_cons, List.length_nil, List.replicate_succ, List.replicate_zero, List.cons_append, List.nil_append, putBack, setOwn, List.getElem?_cons_zero, List.getElem?_cons_succ, List.set_cons_zero, List.set_cons_succ, Sm.nf]))
local macro_rules | `(tactic| walk_at "lw v") => `(tactic| (try simp only [pb1, pb2, pb3, pb4, pb5, pb6]))
/-! ### things that may be compared -/
def Sh0 (e : Nat) (d : D) : Prop := d.canLay0 = true ∧ d.depth ≤ e
theorem Sh0.int (e : Nat) (i : Int) : Sh0 e (.int i) := ⟨rfl, Nat.zero_le _⟩
theorem Sh0.bool (e : Nat) (b : Bool) : Sh0 e (.bool b) := ⟨rfl, Nat.zero_le _⟩
theorem Sh0.non (e : Nat) : Sh0 e .none := ⟨rfl, Nat.zero_le _⟩
theorem Sh0.str (e : Nat) (w : String) : Sh0 e (.str w) := ⟨strOk_str w, Nat.zero_le _⟩
theorem Sh0.tup {e : Nat} {xs : List D} (h : ∀ x ∈ xs, Sh0 e x) : Sh0 (e + 1) (.tuple xs) := by
  refine ⟨lay_all fun x hx => (h x hx).1, ?_⟩
  unfold PyData.depth
  have := depth_all (e := e) fun x hx => (h x hx).2
  omega
theorem Sh0.lst {e : Nat} {xs : List D} (h : ∀ x ∈ xs, Sh0 e x) : Sh0 (e + 1) (.list xs) := by
  refine ⟨lay_all fun x hx => (h x hx).1, ?_⟩
  unfold PyData.depth
  have := depth_all (e := e) fun x hx => (h x hx).2
  omega
theorem Sh0.it (ns : List Int) : Sh0 1 (it ns) := Sh0.tup fun x hx => by obtain ⟨i, _, rfl⟩ := List.mem_map.1 hx; exact Sh0.int 0 i
theorem Sh0.sh {e : Nat} {d : D} (h : Sh0 e d) (he : e ≤ 64) : SeqAt.shaped d = true := by
  unfold SeqAt.shaped
  rw [h.1, decide_eq_true (Nat.le_trans h.2 he)]
  rfl
theorem Sh0.mono {e e' : Nat} {d : D} (h : Sh0 e d) (he : e ≤ e') : Sh0 e' d := ⟨h.1, Nat.le_trans h.2 he⟩
end Lw
-- F2
-- F3
-- F4
namespace Lw
open PySem PySem.Spec PyProof.Rows L2
local macro_rules | `(tactic| walk_at "lw e") => `(tactic| (repeat (first | (with_reducible refine Stp.go ?_) | (with_reducible apply Exists.intro) | ((with_reducible refine And.intro ?_ ?_); · (first | (with_reducible exact Evl.ev) | ((fail_if_success (with_reducible refine Gd.keep ?_)); rfl) | ((with_reducible apply mul_r); decide) | ((with_reducible apply mul_l); decide) | ((with_reducible apply div_i); decide) | ((with_reducible apply in_R); decide) | (exact Nat.le_of_ble_eq_true rfl) | (simp [refsOf]; done) | (exact ⟨rfl, rfl, by decide⟩) | (exact ⟨rfl, rfl, rfl⟩) | ((with_reducible apply tgN_o); (focus rfl); (focus (first | assumption | trivial))))) | ((with_reducible apply Sm.vrP); (focus rfl)) | ((with_reducible apply Sm.vrO); (focus rfl)) | ((with_reducible apply Sm.augI); (focus rfl)) | ((with_reducible refine Sm.dicE ?_ ?_); (focus decide)) | ((with_reducible apply Sm.augS); (focus rfl)) | (with_reducible refine iteTT ?_) | (with_reducible refine iteT ?_) | (with_reducible refine iteF ?_) | ((with_reducible refine iteB1 ?_ ?_); (focus rfl)) | ((with_reducible refine iteB0 ?_ ?_); (focus rfl)))))
local macro_rules | `(tactic| walk_at "lw n") => `(tactic| (try dsimp only [ent, List.map, Nat.reduceAdd, Nat.reduceSub, List.length_cons, List.length_nil, List.replicate_succ, List.replicate_zero, List.cons_append, List.nil_append, putBack, setOwn, List.getElem?_cons_zero, List.getElem?_cons_succ, List.set_cons_zero, List.set_cons_succ, Sm.nf]))
local macro_rules | `(tactic| walk_at "lw v") => `(tactic| (try simp only [pb1, pb2, pb3, pb4, pb5, pb6]))
/-! ### deeds at most nine times five thousand million million; what is fine about faults -/
/-- on the stair, and not too much -/
def DX (n : Nat) (d : Dd) : Prop := d.On n ∧ D9 5000000000000000 d
theorem D9.up {g k : Nat} {d : Dd} (h : D9 g d) (hk : g ≤ k) : D9 k d := by
  cases d with
  | fill l => trivial
  | empty l => trivial
  | raise l m => have h : 1 ≤ m ∧ m ≤ 9 * g := h; exact ⟨h.1, by omega⟩
  | lower l m => have h : 1 ≤ m ∧ m ≤ 9 * g := h; exact ⟨h.1, by omega⟩
theorem DX.of {n g : Nat} (hg : g ≤ 5000000000000000) {x : D} (h : DeedP n g x) : ∃ d : Dd, x = dd d ∧ DX n d := by
  obtain ⟨d, e, ho, h9⟩ := deed_of h
  exact ⟨d, e, ho, h9.up hg⟩
end Lw
-- F2
-- F3
-- F4
-- F5
namespace Lw
open PySem PySem.Spec PyProof.Rows L2
local macro_rules | `(tactic| walk_at "lw e") => `(tactic| (repeat (first | (with_reducible refine Stp.go ?_) | (with_reducible apply Exists.intro) | ((with_reducible refine And.intro ?_ ?_); · (first | (with_reducible exact Evl.ev) | ((fail_if_success (with_reducible refine Gd.keep ?_)); (fail_if_success (with_reducible refine Gd5.keep ?_)); rfl) | ((with_reducible apply mul_r); decide) | ((with_reducible apply mul_l); decide) | ((with_reducible apply div_i); decide) | ((with_reducible apply in_R); decide) | (exact Nat.le_of_ble_eq_true rfl) | (simp [refsOf]; done) | (exact ⟨rfl, rfl, by decide⟩) | (exact ⟨rfl, rfl, rfl⟩) | ((with_reducible apply tgN_o); (focus rfl); (focus (first | assumption | trivial))))) | ((with_reducible apply Sm.vrP); (focus rfl)) | ((with_reducible apply Sm.vrO); (focus rfl)) | ((with_reducible apply Sm.augI); (focus rfl)) | ((with_reducible refine Sm.dicE ?_ ?_); (focus decide)) | ((with_reducible apply Sm.augS); (focus rfl)) | ((with_reducible apply Sm.augL); (focus rfl)) | (with_reducible refine iteTT ?_) | (with_reducible refine iteT ?_) | (with_reducible refine iteF ?_) | ((with_reducible refine iteB1 ?_ ?_); (focus rfl)) | ((with_reducible refine iteB0 ?_ ?_); (focus rfl)))))
local macro_rules | `(tactic| walk_at "lw n") => `(tactic| (try dsimp only [ent, List.map, Nat.reduceAdd, Nat.reduceSub, List.length_cons, List.length_nil, List.replicate_succ, List.replicate_zero, List.cons_append, List.nil_append, putBack, setOwn, List.getElem?_cons_zero, List.getElem?_cons_succ, List.set_cons_zero, List.set_cons_succ, Sm.nf]))
local macro_rules | `(tactic| walk_at "lw v") => `(tactic| (try simp only [pb1, pb2, pb3, pb4, pb5, pb6]))
/-! ### things of any size that are the same -/
def LeafS : D → Prop
  | .none => True
  | .bool _ => True
  | .int _ => True
  | .str w => Sh0 0 (.str w)
  | _ => False
def OkS : Nat → D → Prop
  | 0, d => LeafS d
  | e + 1, .list xs => xs.length ≤ 10000 ∧ ∀ x ∈ xs, OkS e x
  | e + 1, .tuple xs => xs.length ≤ 10000 ∧ ∀ x ∈ xs, OkS e x
  | _ + 1, d => LeafS d
theorem LeafS.sh {d : D} (h : LeafS d) : Sh0 0 d := by
  cases d with
  | none => exact Sh0.non 0
  | bool b => exact Sh0.bool 0 b
  | int i => exact Sh0.int 0 i
  | str w => exact h
  | list xs => exact h.elim
  | tuple xs => exact h.elim
  | dict xs => exact h.elim
theorem OkS.sh : ∀ {e : Nat} {d : D}, OkS e d → Sh0 e d
  | 0, d, h => LeafS.sh h
  | e + 1, d, h => by
    cases d with
    | none => exact Sh0.non _
    | bool b => exact Sh0.bool _ b
    | int i => exact Sh0.int _ i
    | str w => exact (show LeafS (.str w) from h).sh.mono (Nat.zero_le _)
    | list xs => exact Sh0.lst fun x hx => (h.2 x hx).sh
    | tuple xs => exact Sh0.tup fun x hx => (h.2 x hx).sh
    | dict xs => exact (show LeafS (.dict xs) from h).elim
theorem OkS.int (e : Nat) (i : Int) : OkS e (.int i) := by cases e <;> trivial
theorem OkS.bool (e : Nat) (b : Bool) : OkS e (.bool b) := by cases e <;> trivial
theorem OkS.non (e : Nat) : OkS e .none := by cases e <;> trivial
theorem OkS.str (e : Nat) (w : String) : OkS e (.str w) := by cases e <;> exact Sh0.str 0 w
theorem OkS.it {ns : List Int} (h : ns.length ≤ 10000) (e : Nat) : OkS (e + 1) (it ns) := ⟨by rw [List.length_map]; exact h, fun x hx => by obtain ⟨i, _, rfl⟩ := List.mem_map.1 hx; exact OkS.int e i⟩
theorem sameS : ∀ (e n : Nat) (d : D), OkS e d → e < n → e ≤ 64 → wpf (m_l_same n) [.pure d, .pure d] TrueQ := by
  intro e
  induction e with
  | zero =>
    intro n d h hn he
    obtain ⟨m, rfl⟩ : ∃ m, n = m + 1 := ⟨n - 1, by omega⟩
    have hs := h.sh.sh he
    show wpf (runFn (g_l_same (m_l_same m)) 4) _ _
    refine Sm.run ?_
    unfold g_l_same
    have hr : PyData.eqv d d = true := SeqAt.eqv_refl d h.sh.1
    cases d with
    | none => walk_at "lw e"; exact ⟨_, rfl, rfl⟩
    | bool b => walk_at "lw e"; exact ⟨_, rfl, by rw [hr]⟩
    | int i => walk_at "lw e"; exact ⟨_, rfl, by rw [hr]⟩
    | str x =>
      walk_at "lw e"
      refine iteB1 (decide_eq_true rfl) ?_
      walk_at "lw e"
      exact ⟨_, rfl, rfl⟩
    | list xs => exact h.elim
    | tuple xs => exact h.elim
    | dict xs => exact h.elim
  | succ e ih =>
    intro n d h hn he
    obtain ⟨m, rfl⟩ : ∃ m, n = m + 1 := ⟨n - 1, by omega⟩
    have hs := h.sh.sh he
    show wpf (runFn (g_l_same (m_l_same m)) 4) _ _
    refine Sm.run ?_
    unfold g_l_same
    have hr : PyData.eqv d d = true := SeqAt.eqv_refl d h.sh.1
    cases d with
    | none => walk_at "lw e"; exact ⟨_, rfl, rfl⟩
    | bool b => walk_at "lw e"; exact ⟨_, rfl, by rw [hr]⟩
    | int i => walk_at "lw e"; exact ⟨_, rfl, by rw [hr]⟩
    | str x =>
      walk_at "lw e"
      refine iteB1 (decide_eq_true rfl) ?_
      walk_at "lw e"
      exact ⟨_, rfl, rfl⟩
    | list xs =>
      have hl := h.1
      have hsl : sizeLine = 16777216 := rfl
      have hx := h.2
      walk_at "lw e"
      refine iteB1 (by rw [eqv_int]; exact decide_eq_true rfl) ?_
      walk_at "lw e"
      refine ⟨.inl ⟨rfl, rfl⟩, ?_⟩
      walk_at "lw e"
      refine Sm.lcPure (ds := zipD xs xs) (fun _ => .bool true) (by rw [zipD_len]; omega) ?_ ?_
      · intro d hd
        obtain ⟨a, ha, rfl⟩ := zip_self hd
        refine ⟨_, tgT2_o rfl trivial rfl trivial, ?_⟩
        walk_at "lw e"
        refine Sm.fmono (ih m a (hx a ha) (by omega) (by omega)) fun r o h => ?_
        obtain ⟨d, rfl, rfl⟩ := h
        refine ⟨nref, ?_⟩
        walk_at "lw v"
        walk_at "lw e"
        rfl
      · refine ⟨_, _, rfl, all_mk (p := fun _ => true), ?_⟩
        walk_at "lw e"
        refine ⟨_, rfl, ?_⟩
        rw [List.all_eq_true.2 (fun _ _ => rfl)]
    | tuple xs =>
      have hl := h.1
      have hsl : sizeLine = 16777216 := rfl
      have hx := h.2
      walk_at "lw e"
      refine iteB1 (by rw [eqv_int]; exact decide_eq_true rfl) ?_
      walk_at "lw e"
      refine ⟨.inr ⟨rfl, rfl⟩, ?_⟩
      walk_at "lw e"
      refine Sm.lcPure (ds := zipD xs xs) (fun _ => .bool true) (by rw [zipD_len]; omega) ?_ ?_
      · intro d hd
        obtain ⟨a, ha, rfl⟩ := zip_self hd
        refine ⟨_, tgT2_o rfl trivial rfl trivial, ?_⟩
        walk_at "lw e"
        refine Sm.fmono (ih m a (hx a ha) (by omega) (by omega)) fun r o h => ?_
        obtain ⟨d, rfl, rfl⟩ := h
        refine ⟨nref, ?_⟩
        walk_at "lw v"
        walk_at "lw e"
        rfl
      · refine ⟨_, _, rfl, all_mk (p := fun _ => true), ?_⟩
        walk_at "lw e"
        refine ⟨_, rfl, ?_⟩
        rw [List.all_eq_true.2 (fun _ _ => rfl)]
    | dict xs => exact h.elim
end Lw
namespace Lw
open PySem PySem.Spec PyProof.Rows L2
theorem OkS.tp {e : Nat} {xs : List D} (hl : xs.length ≤ 10000) (h : ∀ x ∈ xs, OkS e x) : OkS (e + 1) (.tuple xs) := ⟨hl, h⟩
theorem OkS.ls {e : Nat} {xs : List D} (hl : xs.length ≤ 10000) (h : ∀ x ∈ xs, OkS e x) : OkS (e + 1) (.list xs) := ⟨hl, h⟩
theorem OkS.nl {e : Nat} : ∀ x ∈ ([] : List D), OkS e x := fun _ h => by cases h
theorem OkS.cs {e : Nat} {y : D} {xs : List D} (h : OkS e y) (k : ∀ x ∈ xs, OkS e x) : ∀ x ∈ y :: xs, OkS e x := List.forall_mem_cons.2 ⟨h, k⟩
def lcA (vs : List Nat) (tg : Tg) (fe : M R) (ds acc : List D) (ς : En) (Q : List D → En → Prop) : Prop := ∃ acc' ς4, lcLoop vs tg (Lw.ret true) fe ds acc ς = some (acc', ς4) ∧ Q acc' ς4
theorem lc_cons {vs : List Nat} {tg : Tg} {fe : M R} {d : D} {ds acc : List D} {ς : En} {Q : List D → En → Prop} (ha : acc.length < sizeLine)
    (h : ∃ ς1, tg d ς = some ς1 ∧ wp fe ς1 fun r ς2 => ∃ y ς3, toD r ς2 = some (y, ς3) ∧ freeAll ς3 vs = true ∧ lcA vs tg fe ds (acc ++ [y]) (wipeE ς3 vs) Q) :
    lcA vs tg fe (d :: ds) acc ς Q := by
  obtain ⟨ς1, e1, r, ς2, e2, y, ς3, e3, hf, acc', ς4, e4, q⟩ := h
  refine ⟨acc', ς4, ?_, q⟩
  rw [lcLoop]
  have ee : Lw.esc fe ς1 = some (y, ς3) := by unfold Lw.esc Lw.bd; rw [e2]; exact e3
  simp only [e1, Lw.ret, ee]
  rw [if_pos ⟨hf, ha⟩]
  exact e4
theorem lc_nil {vs : List Nat} {tg : Tg} {fe : M R} {acc : List D} {ς : En} {Q : List D → En → Prop} (h : Q acc ς) : lcA vs tg fe [] acc ς Q := ⟨acc, ς, rfl, h⟩
end Lw
namespace Lw
open PySem PySem.Spec PyProof.Rows L2
end Lw
-- F2
-- F3
-- F4
-- F5
namespace Lw
open PySem PySem.Spec PyProof.Rows L2
local macro_rules | `(tactic| walk_at "lw e") => `(tactic| (repeat (first | (with_reducible refine Stp.go ?_) | (with_reducible apply Exists.intro) | ((with_reducible refine And.intro ?_ ?_); · (first | (with_reducible exact Evl.ev) | ((fail_if_success (with_reducible refine Gd.keep ?_)); (fail_if_success (with_reducible refine Gd5.keep ?_)); rfl) | ((with_reducible apply mul_r); decide) | ((with_reducible apply mul_l); decide) | ((with_reducible apply div_i); decide) | ((with_reducible apply in_R); decide) | (exact Nat.le_of_ble_eq_true rfl) | (simp [refsOf]; done) | (exact ⟨rfl, rfl, by decide⟩) | (exact ⟨rfl, rfl, rfl⟩) | ((with_reducible apply tgN_o); (focus rfl); (focus (first | assumption | trivial))))) | ((with_reducible apply Sm.vrP); (focus rfl)) | ((with_reducible apply Sm.vrO); (focus rfl)) | ((with_reducible apply Sm.augI); (focus rfl)) | ((with_reducible refine Sm.dicE ?_ ?_); (focus decide)) | ((with_reducible apply Sm.augS); (focus rfl)) | ((with_reducible apply Sm.augL); (focus rfl)) | (with_reducible refine iteTT ?_) | (with_reducible refine iteT ?_) | (with_reducible refine iteF ?_) | ((with_reducible refine iteB1 ?_ ?_); (focus rfl)) | ((with_reducible refine iteB0 ?_ ?_); (focus rfl)))))
local macro_rules | `(tactic| walk_at "lw n") => `(tactic| (try dsimp only [ent, List.map, Nat.reduceAdd, Nat.reduceSub, List.length_cons, List.length_nil, List.replicate_succ, List.replicate_zero, List.cons_append, List.nil_append, putBack, setOwn, List.getElem?_cons_zero, List.getElem?_cons_succ, List.set_cons_zero, List.set_cons_succ, Sm.nf]))
local macro_rules | `(tactic| walk_at "lw v") => `(tactic| (try simp only [pb1, pb2, pb3, pb4, pb5, pb6]))
/-! ### where nothing is ever dry no sum is below 0 -/
/-! ### totals bend down from round n on -/
end Lw
-- F2
-- F3
-- F4
-- F5
namespace Lw
open PySem PySem.Spec PyProof.Rows L2
local macro_rules | `(tactic| walk_at "lw e") => `(tactic| (repeat (first | (with_reducible refine Stp.go ?_) | (with_reducible apply Exists.intro) | ((with_reducible refine And.intro ?_ ?_); · (first | (with_reducible exact Evl.ev) | ((fail_if_success (with_reducible refine Gd.keep ?_)); (fail_if_success (with_reducible refine Gd5.keep ?_)); rfl) | ((with_reducible apply mul_r); decide) | ((with_reducible apply mul_l); decide) | ((with_reducible apply div_i); decide) | ((with_reducible apply in_R); decide) | (exact Nat.le_of_ble_eq_true rfl) | (simp [refsOf]; done) | (exact ⟨rfl, rfl, by decide⟩) | (exact ⟨rfl, rfl, rfl⟩) | ((with_reducible apply tgN_o); (focus rfl); (focus (first | assumption | trivial))))) | ((with_reducible apply Sm.vrP); (focus rfl)) | ((with_reducible apply Sm.vrO); (focus rfl)) | ((with_reducible apply Sm.augI); (focus rfl)) | ((with_reducible refine Sm.dicE ?_ ?_); (focus decide)) | ((with_reducible apply Sm.augS); (focus rfl)) | ((with_reducible apply Sm.augL); (focus rfl)) | (with_reducible refine iteTT ?_) | (with_reducible refine iteT ?_) | (with_reducible refine iteF ?_) | ((with_reducible refine iteB1 ?_ ?_); (focus rfl)) | ((with_reducible refine iteB0 ?_ ?_); (focus rfl)))))
local macro_rules | `(tactic| walk_at "lw n") => `(tactic| (try dsimp only [ent, List.map, Nat.reduceAdd, Nat.reduceSub, List.length_cons, List.length_nil, List.replicate_succ, List.replicate_zero, List.cons_append, List.nil_append, putBack, setOwn, List.getElem?_cons_zero, List.getElem?_cons_succ, List.set_cons_zero, List.set_cons_succ, Sm.nf]))
local macro_rules | `(tactic| walk_at "lw v") => `(tactic| (try simp only [pb1, pb2, pb3, pb4, pb5, pb6]))
/-! ### rows_of, and that rows are one list only -/
theorem RowsF.lt {n : Int} {F : Int → Int} {rs : List Rw} (h : RowsF n F rs) {i j : Nat} {a b : Rw} (ha : rs[i]? = some a) (hb : rs[j]? = some b) (hij : i < j) : a.1 < b.1 ∧ b.2.1 < a.2.1 := by
  obtain ⟨h1, rfl⟩ := List.getElem?_eq_some_iff.1 ha
  obtain ⟨h2, rfl⟩ := List.getElem?_eq_some_iff.1 hb
  exact ⟨List.pairwise_iff_getElem.1 h.inc i j h1 h2 hij, List.pairwise_iff_getElem.1 h.fall i j h1 h2 hij⟩
end Lw
-- F2
namespace Lw
open PySem PySem.Spec PyProof.Rows L2
local macro_rules | `(tactic| walk_at "lw e") => `(tactic| (repeat (first | (with_reducible refine Stp.go ?_) | (with_reducible apply Exists.intro) | ((with_reducible refine And.intro ?_ ?_); · (first | (with_reducible exact Evl.ev) | ((fail_if_success (with_reducible refine Gd.keep ?_)); rfl) | ((with_reducible apply mul_r); decide) | ((with_reducible apply mul_l); decide) | ((with_reducible apply div_i); decide) | ((with_reducible apply in_R); decide) | (exact Nat.le_of_ble_eq_true rfl) | (simp [refsOf]; done) | (exact ⟨rfl, rfl, by decide⟩) | (exact ⟨rfl, rfl, rfl⟩) | ((with_reducible apply tgN_o); (focus rfl); (focus (first | assumption | trivial))))) | ((with_reducible apply Sm.vrP); (focus rfl)) | ((with_reducible apply Sm.vrO); (focus rfl)) | ((with_reducible apply Sm.augI); (focus rfl)) | ((with_reducible refine Sm.dicE ?_ ?_); (focus decide)) | ((with_reducible apply Sm.augS); (focus rfl)) | (with_reducible refine iteTT ?_) | (with_reducible refine iteT ?_) | (with_reducible refine iteF ?_) | ((with_reducible refine iteB1 ?_ ?_); (focus rfl)) | ((with_reducible refine iteB0 ?_ ?_); (focus rfl)))))
local macro_rules | `(tactic| walk_at "lw n") => `(tactic| (try dsimp only [ent, List.map, Nat.reduceAdd, Nat.reduceSub, List.length_cons, List.length_nil, List.replicate_succ, List.replicate_zero, List.cons_append, List.nil_append, putBack, setOwn, List.getElem?_cons_zero, List.getElem?_cons_succ, List.set_cons_zero, List.set_cons_succ, Sm.nf]))
local macro_rules | `(tactic| walk_at "lw v") => `(tactic| (try simp only [pb1, pb2, pb3, pb4]))
/-! ### all numbers so many times as great, each pound so much higher -/
end Lw
-- F2
namespace Lw
open PySem PySem.Spec PyProof.Rows L2
local macro_rules | `(tactic| walk_at "lw e") => `(tactic| (repeat (first | (with_reducible refine Stp.go ?_) | (with_reducible apply Exists.intro) | ((with_reducible refine And.intro ?_ ?_); · (first | (with_reducible exact Evl.ev) | ((fail_if_success (with_reducible refine Gd.keep ?_)); rfl) | ((with_reducible apply mul_r); decide) | ((with_reducible apply mul_l); decide) | ((with_reducible apply div_i); decide) | ((with_reducible apply in_R); decide) | (exact Nat.le_of_ble_eq_true rfl) | (simp [refsOf]; done) | (exact ⟨rfl, rfl, by decide⟩) | (exact ⟨rfl, rfl, rfl⟩) | ((with_reducible apply tgN_o); (focus rfl); (focus (first | assumption | trivial))))) | ((with_reducible apply Sm.vrP); (focus rfl)) | ((with_reducible apply Sm.vrO); (focus rfl)) | ((with_reducible apply Sm.augI); (focus rfl)) | ((with_reducible refine Sm.dicE ?_ ?_); (focus decide)) | ((with_reducible apply Sm.augS); (focus rfl)) | (with_reducible refine iteTT ?_) | (with_reducible refine iteT ?_) | (with_reducible refine iteF ?_) | ((with_reducible refine iteB1 ?_ ?_); (focus rfl)) | ((with_reducible refine iteB0 ?_ ?_); (focus rfl)))))
local macro_rules | `(tactic| walk_at "lw n") => `(tactic| (try dsimp only [ent, List.map, Nat.reduceAdd, Nat.reduceSub, List.length_cons, List.length_nil, List.replicate_succ, List.replicate_zero, List.cons_append, List.nil_append, putBack, setOwn, List.getElem?_cons_zero, List.getElem?_cons_succ, List.set_cons_zero, List.set_cons_succ, Sm.nf]))
local macro_rules | `(tactic| walk_at "lw v") => `(tactic| (try simp only [pb1, pb2, pb3, pb4]))
/-! ### the upper pounds by themselves -/
end Lw
-- F2
-- F3
-- F4
-- F5
namespace Lw
open PySem PySem.Spec PyProof.Rows L2
local macro_rules | `(tactic| walk_at "lw e") => `(tactic| (repeat (first | (with_reducible refine Stp.go ?_) | (with_reducible apply Exists.intro) | ((with_reducible refine And.intro ?_ ?_); · (first | (with_reducible exact Evl.ev) | ((fail_if_success (with_reducible refine Gd.keep ?_)); (fail_if_success (with_reducible refine Gd5.keep ?_)); rfl) | ((with_reducible apply mul_r); decide) | ((with_reducible apply mul_l); decide) | ((with_reducible apply div_i); decide) | ((with_reducible apply in_R); decide) | (exact Nat.le_of_ble_eq_true rfl) | (simp [refsOf]; done) | (exact ⟨rfl, rfl, by decide⟩) | (exact ⟨rfl, rfl, rfl⟩) | ((with_reducible apply tgN_o); (focus rfl); (focus (first | assumption | trivial))))) | ((with_reducible apply Sm.vrP); (focus rfl)) | ((with_reducible apply Sm.vrO); (focus rfl)) | ((with_reducible apply Sm.augI); (focus rfl)) | ((with_reducible refine Sm.dicE ?_ ?_); (focus decide)) | ((with_reducible apply Sm.augS); (focus rfl)) | ((with_reducible apply Sm.augL); (focus rfl)) | (with_reducible refine iteTT ?_) | (with_reducible refine iteT ?_) | (with_reducible refine iteF ?_) | ((with_reducible refine iteB1 ?_ ?_); (focus rfl)) | ((with_reducible refine iteB0 ?_ ?_); (focus rfl)))))
local macro_rules | `(tactic| walk_at "lw n") => `(tactic| (try dsimp only [ent, List.map, Nat.reduceAdd, Nat.reduceSub, List.length_cons, List.length_nil, List.replicate_succ, List.replicate_zero, List.cons_append, List.nil_append, putBack, setOwn, List.getElem?_cons_zero, List.getElem?_cons_succ, List.set_cons_zero, List.set_cons_succ, Sm.nf]))
local macro_rules | `(tactic| walk_at "lw v") => `(tactic| (try simp only [pb1, pb2, pb3, pb4, pb5, pb6]))
local macro_rules | `(tactic| walk_at "lw w") => `(tactic| (try dsimp only [wipeE, ent, List.map, Nat.reduceAdd, Nat.reduceSub, List.length_cons, List.length_nil, List.replicate_succ, List.replicate_zero, List.cons_append, List.nil_append, putBack, setOwn, List.getElem?_cons_zero, List.getElem?_cons_succ, List.set_cons_zero, List.set_cons_succ, Sm.nf]))
end Lw
-- F2
-- F3
-- F4
-- F5
namespace Lw
open PySem PySem.Spec PyProof.Rows L2
local macro_rules | `(tactic| walk_at "lw e") => `(tactic| (repeat (first | (with_reducible refine Stp.go ?_) | (with_reducible apply Exists.intro) | ((with_reducible refine And.intro ?_ ?_); · (first | (with_reducible exact Evl.ev) | ((fail_if_success (with_reducible refine Gd.keep ?_)); (fail_if_success (with_reducible refine Gd5.keep ?_)); rfl) | ((with_reducible apply mul_r); decide) | ((with_reducible apply mul_l); decide) | ((with_reducible apply div_i); decide) | ((with_reducible apply in_R); decide) | (exact Nat.le_of_ble_eq_true rfl) | (simp [refsOf]; done) | (exact ⟨rfl, rfl, by decide⟩) | (exact ⟨rfl, rfl, rfl⟩) | ((with_reducible apply tgN_o); (focus rfl); (focus (first | assumption | trivial))))) | ((with_reducible apply Sm.vrP); (focus rfl)) | ((with_reducible apply Sm.vrO); (focus rfl)) | ((with_reducible apply Sm.augI); (focus rfl)) | ((with_reducible refine Sm.dicE ?_ ?_); (focus decide)) | ((with_reducible apply Sm.augS); (focus rfl)) | ((with_reducible apply Sm.augL); (focus rfl)) | (with_reducible refine iteTT ?_) | (with_reducible refine iteT ?_) | (with_reducible refine iteF ?_) | ((with_reducible refine iteB1 ?_ ?_); (focus rfl)) | ((with_reducible refine iteB0 ?_ ?_); (focus rfl)))))
local macro_rules | `(tactic| walk_at "lw n") => `(tactic| (try dsimp only [ent, List.map, Nat.reduceAdd, Nat.reduceSub, List.length_cons, List.length_nil, List.replicate_succ, List.replicate_zero, List.cons_append, List.nil_append, putBack, setOwn, List.getElem?_cons_zero, List.getElem?_cons_succ, List.set_cons_zero, List.set_cons_succ, Sm.nf]))
local macro_rules | `(tactic| walk_at "lw v") => `(tactic| (try simp only [pb1, pb2, pb3, pb4, pb5, pb6]))
/-! ### what a road tells -/
end Lw
-- F2
-- F3
-- F4
-- F5
namespace Lw
open PySem PySem.Spec PyProof.Rows L2
local macro_rules | `(tactic| walk_at "lw e") => `(tactic| (repeat (first | (with_reducible refine Stp.go ?_) | (with_reducible apply Exists.intro) | ((with_reducible refine And.intro ?_ ?_); · (first | (with_reducible exact Evl.ev) | ((fail_if_success (with_reducible refine Gd.keep ?_)); (fail_if_success (with_reducible refine Gd5.keep ?_)); rfl) | ((with_reducible apply mul_r); decide) | ((with_reducible apply mul_l); decide) | ((with_reducible apply div_i); decide) | ((with_reducible apply in_R); decide) | (exact Nat.le_of_ble_eq_true rfl) | (simp [refsOf]; done) | (exact ⟨rfl, rfl, by decide⟩) | (exact ⟨rfl, rfl, rfl⟩) | ((with_reducible apply tgN_o); (focus rfl); (focus (first | assumption | trivial))))) | ((with_reducible apply Sm.vrP); (focus rfl)) | ((with_reducible apply Sm.vrO); (focus rfl)) | ((with_reducible apply Sm.augI); (focus rfl)) | ((with_reducible refine Sm.dicE ?_ ?_); (focus decide)) | ((with_reducible apply Sm.augS); (focus rfl)) | ((with_reducible apply Sm.augL); (focus rfl)) | (with_reducible refine iteTT ?_) | (with_reducible refine iteT ?_) | (with_reducible refine iteF ?_) | ((with_reducible refine iteB1 ?_ ?_); (focus rfl)) | ((with_reducible refine iteB0 ?_ ?_); (focus rfl)))))
local macro_rules | `(tactic| walk_at "lw n") => `(tactic| (try dsimp only [ent, List.map, Nat.reduceAdd, Nat.reduceSub, List.length_cons, List.length_nil, List.replicate_succ, List.replicate_zero, List.cons_append, List.nil_append, putBack, setOwn, List.getElem?_cons_zero, List.getElem?_cons_succ, List.set_cons_zero, List.set_cons_succ, Sm.nf]))
local macro_rules | `(tactic| walk_at "lw v") => `(tactic| (try simp only [pb1, pb2, pb3, pb4, pb5, pb6]))
end Lw
-- F2
-- F3
-- F4
-- F5
namespace Lw
open PySem PySem.Spec PyProof.Rows L2
local macro_rules | `(tactic| walk_at "lw e") => `(tactic| (repeat (first | (with_reducible refine Stp.go ?_) | (with_reducible apply Exists.intro) | ((with_reducible refine And.intro ?_ ?_); · (first | (with_reducible exact Evl.ev) | ((fail_if_success (with_reducible refine Gd.keep ?_)); (fail_if_success (with_reducible refine Gd5.keep ?_)); rfl) | ((with_reducible apply mul_r); decide) | ((with_reducible apply mul_l); decide) | ((with_reducible apply div_i); decide) | ((with_reducible apply in_R); decide) | (exact Nat.le_of_ble_eq_true rfl) | (simp [refsOf]; done) | (exact ⟨rfl, rfl, by decide⟩) | (exact ⟨rfl, rfl, rfl⟩) | ((with_reducible apply tgN_o); (focus rfl); (focus (first | assumption | trivial))))) | ((with_reducible apply Sm.vrP); (focus rfl)) | ((with_reducible apply Sm.vrO); (focus rfl)) | ((with_reducible apply Sm.augI); (focus rfl)) | ((with_reducible refine Sm.dicE ?_ ?_); (focus decide)) | ((with_reducible apply Sm.augS); (focus rfl)) | ((with_reducible apply Sm.augL); (focus rfl)) | (with_reducible refine iteTT ?_) | (with_reducible refine iteT ?_) | (with_reducible refine iteF ?_) | ((with_reducible refine iteB1 ?_ ?_); (focus rfl)) | ((with_reducible refine iteB0 ?_ ?_); (focus rfl)))))
local macro_rules | `(tactic| walk_at "lw n") => `(tactic| (try dsimp only [ent, List.map, Nat.reduceAdd, Nat.reduceSub, List.length_cons, List.length_nil, List.replicate_succ, List.replicate_zero, List.cons_append, List.nil_append, putBack, setOwn, List.getElem?_cons_zero, List.getElem?_cons_succ, List.set_cons_zero, List.set_cons_succ, Sm.nf]))
local macro_rules | `(tactic| walk_at "lw v") => `(tactic| (try simp only [pb1, pb2, pb3, pb4, pb5, pb6]))
end Lw
-- F2
namespace Lw
open PySem PySem.Spec PyProof.Rows L2
local macro_rules | `(tactic| walk_at "lw e") => `(tactic| (repeat (first | (with_reducible refine Stp.go ?_) | (with_reducible apply Exists.intro) | ((with_reducible refine And.intro ?_ ?_); · (first | (with_reducible exact Evl.ev) | ((fail_if_success (with_reducible refine Gd.keep ?_)); rfl) | ((with_reducible apply mul_r); decide) | ((with_reducible apply mul_l); decide) | ((with_reducible apply div_i); decide) | ((with_reducible apply in_R); decide) | (exact Nat.le_of_ble_eq_true rfl) | (simp [refsOf]; done) | (exact ⟨rfl, rfl, by decide⟩) | (exact ⟨rfl, rfl, rfl⟩) | ((with_reducible apply tgN_o); (focus rfl); (focus (first | assumption | trivial))))) | ((with_reducible apply Sm.vrP); (focus rfl)) | ((with_reducible apply Sm.vrO); (focus rfl)) | ((with_reducible apply Sm.augI); (focus rfl)) | ((with_reducible refine Sm.dicE ?_ ?_); (focus decide)) | ((with_reducible apply Sm.augS); (focus rfl)) | (with_reducible refine iteTT ?_) | (with_reducible refine iteT ?_) | (with_reducible refine iteF ?_) | ((with_reducible refine iteB1 ?_ ?_); (focus rfl)) | ((with_reducible refine iteB0 ?_ ?_); (focus rfl)))))
local macro_rules | `(tactic| walk_at "lw n") => `(tactic| (try dsimp only [ent, List.map, Nat.reduceAdd, Nat.reduceSub, List.length_cons, List.length_nil, List.replicate_succ, List.replicate_zero, List.cons_append, List.nil_append, putBack, setOwn, List.getElem?_cons_zero, List.getElem?_cons_succ, List.set_cons_zero, List.set_cons_succ, Sm.nf]))
local macro_rules | `(tactic| walk_at "lw v") => `(tactic| (try simp only [pb1, pb2, pb3, pb4]))
/-! ### rows from a later round on -/
/-! ### a further pound on top -/
end Lw
-- F2
-- F3
-- F4
-- F5
namespace Lw
open PySem PySem.Spec PyProof.Rows L2
local macro_rules | `(tactic| walk_at "lw e") => `(tactic| (repeat (first | (with_reducible refine Stp.go ?_) | (with_reducible apply Exists.intro) | ((with_reducible refine And.intro ?_ ?_); · (first | (with_reducible exact Evl.ev) | ((fail_if_success (with_reducible refine Gd.keep ?_)); (fail_if_success (with_reducible refine Gd5.keep ?_)); rfl) | ((with_reducible apply mul_r); decide) | ((with_reducible apply mul_l); decide) | ((with_reducible apply div_i); decide) | ((with_reducible apply in_R); decide) | (exact Nat.le_of_ble_eq_true rfl) | (simp [refsOf]; done) | (exact ⟨rfl, rfl, by decide⟩) | (exact ⟨rfl, rfl, rfl⟩) | ((with_reducible apply tgN_o); (focus rfl); (focus (first | assumption | trivial))))) | ((with_reducible apply Sm.vrP); (focus rfl)) | ((with_reducible apply Sm.vrO); (focus rfl)) | ((with_reducible apply Sm.augI); (focus rfl)) | ((with_reducible refine Sm.dicE ?_ ?_); (focus decide)) | ((with_reducible apply Sm.augS); (focus rfl)) | ((with_reducible apply Sm.augL); (focus rfl)) | (with_reducible refine iteTT ?_) | (with_reducible refine iteT ?_) | (with_reducible refine iteF ?_) | ((with_reducible refine iteB1 ?_ ?_); (focus rfl)) | ((with_reducible refine iteB0 ?_ ?_); (focus rfl)))))
local macro_rules | `(tactic| walk_at "lw n") => `(tactic| (try dsimp only [ent, List.map, Nat.reduceAdd, Nat.reduceSub, List.length_cons, List.length_nil, List.replicate_succ, List.replicate_zero, List.cons_append, List.nil_append, putBack, setOwn, List.getElem?_cons_zero, List.getElem?_cons_succ, List.set_cons_zero, List.set_cons_succ, Sm.nf]))
local macro_rules | `(tactic| walk_at "lw v") => `(tactic| (try simp only [pb1, pb2, pb3, pb4, pb5, pb6]))
/-! ### rows and how they end -/
end Lw
-- F2
-- F3
-- F4
-- F5
namespace Lw
open PySem PySem.Spec PyProof.Rows L2
local macro_rules | `(tactic| walk_at "lw e") => `(tactic| (repeat (first | (with_reducible refine Stp.go ?_) | (with_reducible apply Exists.intro) | ((with_reducible refine And.intro ?_ ?_); · (first | (with_reducible exact Evl.ev) | ((fail_if_success (with_reducible refine Gd.keep ?_)); (fail_if_success (with_reducible refine Gd5.keep ?_)); rfl) | ((with_reducible apply mul_r); decide) | ((with_reducible apply mul_l); decide) | ((with_reducible apply div_i); decide) | ((with_reducible apply in_R); decide) | (exact Nat.le_of_ble_eq_true rfl) | (simp [refsOf]; done) | (exact ⟨rfl, rfl, by decide⟩) | (exact ⟨rfl, rfl, rfl⟩) | ((with_reducible apply tgN_o); (focus rfl); (focus (first | assumption | trivial))))) | ((with_reducible apply Sm.vrP); (focus rfl)) | ((with_reducible apply Sm.vrO); (focus rfl)) | ((with_reducible apply Sm.augI); (focus rfl)) | ((with_reducible refine Sm.dicE ?_ ?_); (focus decide)) | ((with_reducible apply Sm.augS); (focus rfl)) | ((with_reducible apply Sm.augL); (focus rfl)) | (with_reducible refine iteTT ?_) | (with_reducible refine iteT ?_) | (with_reducible refine iteF ?_) | ((with_reducible refine iteB1 ?_ ?_); (focus rfl)) | ((with_reducible refine iteB0 ?_ ?_); (focus rfl)))))
local macro_rules | `(tactic| walk_at "lw n") => `(tactic| (try dsimp only [ent, List.map, Nat.reduceAdd, Nat.reduceSub, List.length_cons, List.length_nil, List.replicate_succ, List.replicate_zero, List.cons_append, List.nil_append, putBack, setOwn, List.getElem?_cons_zero, List.getElem?_cons_succ, List.set_cons_zero, List.set_cons_succ, Sm.nf]))
local macro_rules | `(tactic| walk_at "lw v") => `(tactic| (try simp only [pb1, pb2, pb3, pb4, pb5, pb6]))
/-! ### firsts of rows up to a last number -/
def cutF (last : Nat) : List Rw → List Nat
  | [] => [last]
  | r :: rs => if r.1 < (last : Int) then r.1.toNat :: cutF last rs else [last]
end Lw
-- F2
-- F3
-- F4
-- F5
namespace Lw
open PySem PySem.Spec PyProof.Rows L2
local macro_rules | `(tactic| walk_at "lw e") => `(tactic| (repeat (first | (with_reducible refine Stp.go ?_) | (with_reducible apply Exists.intro) | ((with_reducible refine And.intro ?_ ?_); · (first | (with_reducible exact Evl.ev) | ((fail_if_success (with_reducible refine Gd.keep ?_)); (fail_if_success (with_reducible refine Gd5.keep ?_)); rfl) | ((with_reducible apply mul_r); decide) | ((with_reducible apply mul_l); decide) | ((with_reducible apply div_i); decide) | ((with_reducible apply in_R); decide) | (exact Nat.le_of_ble_eq_true rfl) | (simp [refsOf]; done) | (exact ⟨rfl, rfl, by decide⟩) | (exact ⟨rfl, rfl, rfl⟩) | ((with_reducible apply tgN_o); (focus rfl); (focus (first | assumption | trivial))))) | ((with_reducible apply Sm.vrP); (focus rfl)) | ((with_reducible apply Sm.vrO); (focus rfl)) | ((with_reducible apply Sm.augI); (focus rfl)) | ((with_reducible refine Sm.dicE ?_ ?_); (focus decide)) | ((with_reducible apply Sm.augS); (focus rfl)) | ((with_reducible apply Sm.augL); (focus rfl)) | (with_reducible refine iteTT ?_) | (with_reducible refine iteT ?_) | (with_reducible refine iteF ?_) | ((with_reducible refine iteB1 ?_ ?_); (focus rfl)) | ((with_reducible refine iteB0 ?_ ?_); (focus rfl)))))
local macro_rules | `(tactic| walk_at "lw n") => `(tactic| (try dsimp only [ent, List.map, Nat.reduceAdd, Nat.reduceSub, List.length_cons, List.length_nil, List.replicate_succ, List.replicate_zero, List.cons_append, List.nil_append, putBack, setOwn, List.getElem?_cons_zero, List.getElem?_cons_succ, List.set_cons_zero, List.set_cons_succ, Sm.nf]))
local macro_rules | `(tactic| walk_at "lw v") => `(tactic| (try simp only [pb1, pb2, pb3, pb4, pb5, pb6]))
section
variable {ps : List P3} {ds : List Dd} {ls : List Int} {m last : Nat} {Ls : List (List Nat)}
/-- the paper to a last number -/
def PapP (ps : List P3) (ds : List Dd) (ls : List Int) (last : Nat) (p : Nat) (d : Dd) (ns : List Nat) : Prop :=
  if (chg ps d).2 ≥ 0 then ns = [] else ∃ (G : Int → Int) (rs : List Rw), RowsF (ps.length : Int) G rs ∧ rs.length ≤ 25 ∧ (∀ k : Nat, ps.length ≤ k → G (k : Int) = Ttl ps ds ls p d.at k) ∧ ns = cutF last rs
def PapL (ps : List P3) (ds : List Dd) (ls : List Int) (last : Nat) (Ls : List (List Nat)) : Prop := Ls.length = ds.length ∧ ∀ (p : Nat) d ns, ds[p]? = some d → Ls[p]? = some ns → PapP ps ds ls last p d ns
theorem PapL.get (h : PapL ps ds ls last Ls) {q : Dd × List Nat} (hq : q ∈ ds.zip Ls) : ∃ p : Nat, ds[p]? = some q.1 ∧ Ls[p]? = some q.2 := by
  obtain ⟨p, hp, e⟩ := List.mem_iff_getElem.1 hq
  refine ⟨p, ?_, ?_⟩
  · rw [← e, List.getElem_zip, List.getElem?_eq_getElem]
  · rw [← e, List.getElem_zip, List.getElem?_eq_getElem]
end
end Lw
-- F2
-- F3
-- F4
-- F5
namespace Lw
open PySem PySem.Spec PyProof.Rows L2
local macro_rules | `(tactic| walk_at "lw e") => `(tactic| (repeat (first | (with_reducible refine Stp.go ?_) | (with_reducible apply Exists.intro) | ((with_reducible refine And.intro ?_ ?_); · (first | (with_reducible exact Evl.ev) | ((fail_if_success (with_reducible refine Gd.keep ?_)); (fail_if_success (with_reducible refine Gd5.keep ?_)); rfl) | ((with_reducible apply mul_r); decide) | ((with_reducible apply mul_l); decide) | ((with_reducible apply div_i); decide) | ((with_reducible apply in_R); decide) | (exact Nat.le_of_ble_eq_true rfl) | (simp [refsOf]; done) | (exact ⟨rfl, rfl, by decide⟩) | (exact ⟨rfl, rfl, rfl⟩) | ((with_reducible apply tgN_o); (focus rfl); (focus (first | assumption | trivial))))) | ((with_reducible apply Sm.vrP); (focus rfl)) | ((with_reducible apply Sm.vrO); (focus rfl)) | ((with_reducible apply Sm.augI); (focus rfl)) | ((with_reducible refine Sm.dicE ?_ ?_); (focus decide)) | ((with_reducible apply Sm.augS); (focus rfl)) | ((with_reducible apply Sm.augL); (focus rfl)) | (with_reducible refine iteTT ?_) | (with_reducible refine iteT ?_) | (with_reducible refine iteF ?_) | ((with_reducible refine iteB1 ?_ ?_); (focus rfl)) | ((with_reducible refine iteB0 ?_ ?_); (focus rfl)))))
local macro_rules | `(tactic| walk_at "lw n") => `(tactic| (try dsimp only [ent, List.map, Nat.reduceAdd, Nat.reduceSub, List.length_cons, List.length_nil, List.replicate_succ, List.replicate_zero, List.cons_append, List.nil_append, putBack, setOwn, List.getElem?_cons_zero, List.getElem?_cons_succ, List.set_cons_zero, List.set_cons_succ, Sm.nf]))
local macro_rules | `(tactic| walk_at "lw v") => `(tactic| (try simp only [pb1, pb2, pb3, pb4, pb5, pb6]))
local macro_rules | `(tactic| walk_at "lw w") => `(tactic| (try dsimp only [wipeE, ent, List.map, Nat.reduceAdd, Nat.reduceSub, List.length_cons, List.length_nil, List.replicate_succ, List.replicate_zero, List.cons_append, List.nil_append, putBack, setOwn, List.getElem?_cons_zero, List.getElem?_cons_succ, List.set_cons_zero, List.set_cons_succ, Sm.nf]))
end Lw
-- F2
-- F3
-- F4
-- F5
namespace Lw
open PySem PySem.Spec PyProof.Rows L2
local macro_rules | `(tactic| walk_at "lw e") => `(tactic| (repeat (first | (with_reducible refine Stp.go ?_) | (with_reducible apply Exists.intro) | ((with_reducible refine And.intro ?_ ?_); · (first | (with_reducible exact Evl.ev) | ((fail_if_success (with_reducible refine Gd.keep ?_)); (fail_if_success (with_reducible refine Gd5.keep ?_)); rfl) | ((with_reducible apply mul_r); decide) | ((with_reducible apply mul_l); decide) | ((with_reducible apply div_i); decide) | ((with_reducible apply in_R); decide) | (exact Nat.le_of_ble_eq_true rfl) | (simp [refsOf]; done) | (exact ⟨rfl, rfl, by decide⟩) | (exact ⟨rfl, rfl, rfl⟩) | ((with_reducible apply tgN_o); (focus rfl); (focus (first | assumption | trivial))))) | ((with_reducible apply Sm.vrP); (focus rfl)) | ((with_reducible apply Sm.vrO); (focus rfl)) | ((with_reducible apply Sm.augI); (focus rfl)) | ((with_reducible refine Sm.dicE ?_ ?_); (focus decide)) | ((with_reducible apply Sm.augS); (focus rfl)) | ((with_reducible apply Sm.augL); (focus rfl)) | (with_reducible refine iteTT ?_) | (with_reducible refine iteT ?_) | (with_reducible refine iteF ?_) | ((with_reducible refine iteB1 ?_ ?_); (focus rfl)) | ((with_reducible refine iteB0 ?_ ?_); (focus rfl)))))
local macro_rules | `(tactic| walk_at "lw n") => `(tactic| (try dsimp only [ent, List.map, Nat.reduceAdd, Nat.reduceSub, List.length_cons, List.length_nil, List.replicate_succ, List.replicate_zero, List.cons_append, List.nil_append, putBack, setOwn, List.getElem?_cons_zero, List.getElem?_cons_succ, List.set_cons_zero, List.set_cons_succ, Sm.nf]))
local macro_rules | `(tactic| walk_at "lw v") => `(tactic| (try simp only [pb1, pb2, pb3, pb4, pb5, pb6]))
theorem eq_its (xs ys : List Int) : gEq (it xs) (it ys) = some (.pure (.bool (decide (xs = ys)))) := by
  rw [eq_ok ((Sh0.it xs).sh (by decide)) ((Sh0.it ys).sh (by decide)), eqv_it]
end Lw
namespace K08
open PySem PySem.Spec PyProof.Rows L2 Lw
def g_p_refuse : MX :=
  (sqX (nS (asg (vr 0) (tgT 2 (tgsC (tgN 1) (tgsC (tgN 2) tgsN)))))
  (sqX (ifX (tst (op2 gEq (vr 1) (cn (.str "shut")))) (raX "Shut" (vr 2)) (nS skip))
  (raX "Dry" (vr 2))))
def m_p_refuse : FsemX := runX g_p_refuse 3
def g_p_done : MX :=
  (sqX (nS (asg (callE m_p_fault_of (argV (vr 0) (argV (vr 1) (argV (vr 2) argN)))) (tgN 3)))
  (sqX (ifX (tst (op2 gIsNot (vr 3) (cn .none))) (exX (callX m_p_refuse (argV (vr 3) argN))) (nS skip))
  (nS (sq (asg (vr 1) (tgT 2 (tgsC (tgN 4) (tgsC (tgN 5) tgsN))))
  (sq (asg (callE m_p_levels_behind (argV (vr 0) (argV (vr 4) (argV (vr 2) argN)))) (tgT 2 (tgsC (tgN 6) (tgsC (tgN 7) tgsN))))
  (retS (tupE (argV (tupE (argV (vr 6) (argV (callE m_p_chambers_behind (argV (vr 5) (argV (vr 2) argN))) argN))) (argV (vr 7) argN)))))))))
def m_p_done : FsemX := runX g_p_done 8
def g_p_gone : MX :=
  (sqX (nS (asg (vr 1) (tgT 2 (tgsC (tgN 3) (tgsC (tgN 4) tgsN)))))
  (sqX (nS (asg (tupE (argV (cal1 gTuple (vr 3)) (argV (cal1 gTuple (vr 4)) argN))) (tgN 5)))
  (sqX (nS (asg (cal1 gTuple (lcE (itS (vr 0)) [7] (tgN 7) (ret true) (cn (.int 0)))) (tgN 6)))
  (sqX (forX (itS (vr 2)) (tgN 8) (sqX (asX (callX m_p_done (argV (vr 0) (argV (vr 5) (argV (vr 8) argN)))) (tgT 2 (tgsC (tgN 5) (tgsC (tgN 9) tgsN))))
  (nS (asg (cal1 gTuple (lcE (itZ2 (vr 6) (vr 9)) [10, 11] (tgT 2 (tgsC (tgN 10) (tgsC (tgN 11) tgsN))) (ret true) (op2 gAddA (vr 10) (vr 11)))) (tgN 6)))))
  (nS (retS (tupE (argV (vr 5) (argV (vr 6) argN)))))))))
def m_p_gone : FsemX := runX g_p_gone 12
def g_l_refused : MS :=
  (sq (asg (cn .none) (tgN 3))
  (sq (tryS (exX (callX m_p_done (argV (vr 0) (argV (vr 1) (argV (vr 2) argN))))) ["Dry", "Shut"] 4 3)
  (sq (ifS (orT (isT 3) (notT (tru (callE (m_l_same 10) (argV (op2 gIx (callE m_p_fault_of (argV (vr 0) (argV (vr 1) (argV (vr 2) argN)))) (cn (.int 1))) (argV (whX 3 ["Dry", "Shut"]) argN)))))) (retS (cn .none)) skip)
  (retS (callE m_p_fault_of (argV (vr 0) (argV (vr 1) (argV (vr 2) argN))))))))
def m_l_refused : Fsem := runFn g_l_refused 5
def g_l_thaw_right : MS :=
  (sq (asg (tupE (argV (op2 gAddA (cn (.int 2)) (callE (m_l_take 4) (argR (vr 0) (argV (cn (.int 5)) argN)))) (argV (callE (m_l_take 4) (argR (vr 0) (argV (op2 gPowA (cn (.int 10)) (cn (.int 6))) argN))) argN))) (tgT 2 (tgsC (tgN 1) (tgsC (tgN 2) tgsN))))
  (sq (asg (cal1 gTuple (lcE (itR1 (vr 1)) [4] (tgN 4) (ret true) (tupE (argV (cn (.int 0)) (argV (op2 gMulA (cn (.int 3)) (op2 gAddA (vr 4) (cn (.int 1)))) (argV (cn (.int 1)) argN)))))) (tgN 3))
  (sq (par2 5 6 false false (tupE (argV (op2 gMulA (tupE (argV (cn (.int 0)) argN)) (vr 1)) (argV (op2 gMulA (tupE (argV (cn (.str "low")) argN)) (vr 1)) argN))) (op2 gMulA (cn (.int 3)) (sumRE (cn (.int 1)) (op2 gAddA (vr 1) (cn (.int 1))))))
  (sq (asg (callE (clm m_p_done) (argV (vr 3) (argV (vr 5) (argV (tupE (argV (cn (.str "raise")) (argV (vr 1) (argV (op2 gAddA (op2 gAddA (vr 6) (cn (.int 1))) (vr 2)) argN)))) argN)))) (tgT 2 (tgsC (tgN 7) (tgsC (tgN 8) tgsN))))
  (sq (asg (lcE (itR1 (vr 1)) [4] (tgN 4) (ret true) (op2 gAddA (op2 gAddA (op2 gMulA (cn (.int 3)) (sumRE (cn (.int 1)) (op2 gAddA (vr 4) (cn (.int 1))))) (cn (.int 1))) (vr 2))) (tgN 9))
  (sq (ifS (notT (tru (callE (m_l_same 10) (argV (tupE (argV (op2 gIx (vr 7) (cn (.int 0))) (argV (vr 8) argN))) (argV (tupE (argV (cal1 gTuple (lcE (itS (vr 3)) [10] (tgN 10) (ret true) (op2 gIx (vr 10) (cn (.int 1))))) (argV (cal1 gTuple (vr 9)) argN))) argN))))) (retS (cn (.bool false))) skip)
  (sq (asg (callE (clm m_p_done) (argV (vr 3) (argV (vr 5) (argV (tupE (argV (cn (.str "raise")) (argV (vr 1) (argV (vr 6) argN)))) argN)))) (tgT 2 (tgsC (tgN 7) (tgsC (tgN 8) tgsN))))
  (retS (andV (op2 gEq (op2 gIx (vr 7) (cn (.int 0))) (cal1 gTuple (lcE (itS (vr 3)) [10] (tgN 10) (ret true) (op2 gIx (vr 10) (cn (.int 1)))))) (andV (op2 gEq (op2 gIx (vr 8) (cn (.int 0))) (cn (.int 0))) (op2 gEq (op2 gIx (vr 8) (op2 gSubA (vr 1) (cn (.int 1)))) (op2 gSubA (vr 6) (op2 gMulA (cn (.int 3)) (vr 1))))))))))))))
def m_l_thaw_right : Fsem := runFn g_l_thaw_right 11
def g_l_bounds_right : MS :=
  (sq (par2 1 2 false false (op2 gAddA (cn (.int 1)) (callE (m_l_take 4) (argR (vr 0) (argV (op2 gPowA (cn (.int 10)) (cn (.int 9))) argN)))) (callE (m_l_take 4) (argR (vr 0) (argV (op2 gPowA (cn (.int 10)) (cn (.int 9))) argN))))
  (sq (asg (tupE (argV (tupE (argV (vr 2) (argV (vr 2) (argV (vr 1) argN)))) (argV (tupE (argV (vr 2) (argV (op2 gAddA (vr 2) (vr 1)) (argV (vr 1) argN)))) argN))) (tgN 3))
  (sq (asg (tupE (argV (tupE (argV (vr 2) (argV (op2 gAddA (vr 2) (vr 1)) argN))) (argV (tupE (argV (cn (.str "low")) (argV (cn (.str "low")) argN))) argN))) (tgN 4))
  (sq (asg (lcE (itS (tupE (argV (tupE (argV (cn (.str "fill")) (argV (cn (.int 1)) argN))) (argV (tupE (argV (cn (.str "fill")) (argV (cn (.int 2)) argN))) (argV (tupE (argV (cn (.str "empty")) (argV (cn (.int 2)) argN))) argN))))) [6] (tgN 6) (ret true) (callE m_p_fault_of (argV (vr 3) (argV (vr 4) (argV (vr 6) argN))))) (tgN 5))
  (sq (ifS (notT (tru (callE (m_l_same 10) (argV (vr 5) (argV (lstE (argV (tupE (argV (cn (.str "dry")) (argV (cn (.int 1)) argN))) (argV (cn .none) (argV (tupE (argV (cn (.str "shut")) (argV (cn (.int 2)) argN))) argN)))) argN))))) (retS (cn (.bool false))) skip)
  (sq (asg (callE (clm m_p_done) (argV (vr 3) (argV (vr 4) (argV (tupE (argV (cn (.str "fill")) (argV (cn (.int 2)) argN))) argN)))) (tgT 2 (tgsC (tgN 7) (tgsC (tgN 8) tgsN))))
  (sq (ifS (notT (tru (callE (m_l_same 10) (argV (tupE (argV (vr 7) (argV (vr 8) argN))) (argV (tupE (argV (tupE (argV (tupE (argV (vr 2) (argV (vr 2) argN))) (argV (tupE (argV (cn (.str "low")) (argV (cn (.str "high")) argN))) argN))) (argV (tupE (argV (cn (.int 0)) (argV (cn (.int 0)) argN))) argN))) argN))))) (retS (cn (.bool false))) skip)
  (sq (asg (lcE (itS (tupE (argV (tupE (argV (cn (.str "fill")) (argV (cn (.int 2)) argN))) (argV (tupE (argV (cn (.str "lower")) (argV (cn (.int 2)) (argV (cn (.int 1)) argN)))) (argV (tupE (argV (cn (.str "lower")) (argV (cn (.int 1)) (argV (cn (.int 1)) argN)))) argN))))) [6] (tgN 6) (ret true) (callE m_l_refused (argV (vr 3) (argV (vr 7) (argV (vr 6) argN))))) (tgN 9))
  (sq (ifS (notT (tru (callE (m_l_same 10) (argV (vr 9) (argV (lstE (argV (tupE (argV (cn (.str "shut")) (argV (cn (.int 2)) argN))) (argV (tupE (argV (cn (.str "dry")) (argV (cn (.int 2)) argN))) (argV (tupE (argV (cn (.str "dry")) (argV (cn (.int 1)) argN))) argN)))) argN))))) (retS (cn (.bool false))) skip)
  (sq (ifS (notT (tru (callE (m_l_same 10) (argV (callE (clm m_p_done) (argV (vr 3) (argV (vr 7) (argV (tupE (argV (cn (.str "empty")) (argV (cn (.int 2)) argN))) argN)))) (argV (tupE (argV (tupE (argV (tupE (argV (vr 2) (argV (vr 2) argN))) (argV (tupE (argV (cn (.str "low")) (argV (cn (.str "low")) argN))) argN))) (argV (tupE (argV (vr 1) (argV (cn (.int 0)) argN))) argN))) argN))))) (retS (cn (.bool false))) skip)
  (sq (asg (tupE (argV (op2 gIx (vr 7) (cn (.int 0))) (argV (tupE (argV (cn (.str "high")) (argV (cn (.str "high")) argN))) argN))) (tgN 10))
  (sq (asg (callE (clm m_p_done) (argV (vr 3) (argV (vr 10) (argV (tupE (argV (cn (.str "empty")) (argV (cn (.int 1)) argN))) argN)))) (tgN 11))
  (retS (callE (m_l_same 10) (argV (vr 11) (argV (tupE (argV (tupE (argV (tupE (argV (vr 2) (argV (vr 2) argN))) (argV (tupE (argV (cn (.str "low")) (argV (cn (.str "high")) argN))) argN))) (argV (tupE (argV (cn (.int 0)) (argV (cn (.int 0)) argN))) argN))) argN))))))))))))))))
def m_l_bounds_right : Fsem := runFn g_l_bounds_right 12
def g_l_lift_right : MS :=
  (sq (par2 1 2 false false (op2 gAddA (cn (.int 1)) (callE (m_l_take 4) (argR (vr 0) (argV (cn (.int 1000)) argN)))) (op2 gAddA (cn (.int 1)) (callE (m_l_take 4) (argR (vr 0) (argV (cn (.int 1000)) argN)))))
  (sq (asg (tupE (argV (tupE (argV (cn (.int 0)) (argV (op2 gPowA (cn (.int 10)) (cn (.int 9))) (argV (cn (.int 1)) argN)))) (argV (tupE (argV (cn (.int 0)) (argV (op2 gPowA (cn (.int 10)) (cn (.int 9))) (argV (vr 1) argN)))) argN))) (tgN 3))
  (sq (asg (tupE (argV (tupE (argV (op2 gPowA (cn (.int 10)) (cn (.int 6))) (argV (op2 gPowA (cn (.int 10)) (cn (.int 6))) argN))) (argV (tupE (argV (cn (.str "low")) (argV (cn (.str "high")) argN))) argN))) (tgN 4))
  (sq (asg (lstE (argV (tupE (argV (cn (.str "raise")) (argV (cn (.int 2)) (argV (vr 2) argN)))) (argV (tupE (argV (cn (.str "empty")) (argV (cn (.int 2)) argN))) (argV (tupE (argV (cn (.str "lower")) (argV (cn (.int 1)) (argV (vr 2) argN)))) (argV (tupE (argV (cn (.str "fill")) (argV (cn (.int 2)) argN))) argN))))) (tgN 5))
  (sq (asg (callE (clm m_p_gone) (argV (vr 3) (argV (vr 4) (argV (vr 5) argN)))) (tgT 2 (tgsC (tgN 6) (tgsC (tgN 7) tgsN))))
  (sq (asg (tupE (argV (op2 gSubA (op2 gAddA (op2 gPowA (cn (.int 10)) (cn (.int 6))) (vr 1)) (vr 2)) (argV (op2 gSubA (op2 gAddA (op2 gPowA (cn (.int 10)) (cn (.int 6))) (vr 2)) (vr 1)) argN))) (tgN 8))
  (retS (callE (m_l_same 10) (argV (tupE (argV (vr 6) (argV (vr 7) argN))) (argV (tupE (argV (tupE (argV (vr 8) (argV (tupE (argV (cn (.str "low")) (argV (cn (.str "high")) argN))) argN))) (argV (tupE (argV (cn (.int 0)) (argV (cn (.int 0)) argN))) argN))) argN))))))))))
def m_l_lift_right : Fsem := runFn g_l_lift_right 9
def g_p_law : MS :=
  (sq (asg (callE m_l_cells (argV (vr 0) (argV (cn (.int 4)) argN))) (tgN 1))
  (boxS 2 (itR1 (cal1 gLen (vr 1))) [3] (tgN 3) (callE m_l_box (argV (vr 1) (argV (vr 3) argN))) 4 (andV (callE m_l_thaw_right (argR (vr 4) argN)) (andV (callE m_l_bounds_right (argR (vr 4) argN)) (callE m_l_lift_right (argR (vr 4) argN))))))
def m_p_law : Fsem := runFn g_p_law 5
end K08
-- F2
-- F3
namespace K08
open PySem PySem.Spec PyProof.Rows L2 Lw
local macro_rules | `(tactic| walk_at "lw e") => `(tactic| (repeat (first | (with_reducible refine Stp.go ?_) | (with_reducible apply Exists.intro) | ((with_reducible refine And.intro ?_ ?_); · (first | (with_reducible exact Evl.ev) | ((fail_if_success (with_reducible refine Gd.keep ?_)); rfl) | ((with_reducible apply mul_r); decide) | ((with_reducible apply mul_l); decide) | ((with_reducible apply div_i); decide) | ((with_reducible apply in_R); decide) | (exact Nat.le_of_ble_eq_true rfl) | (simp [refsOf]; done) | (exact ⟨rfl, rfl, by decide⟩) | (exact ⟨rfl, rfl, rfl⟩) | ((with_reducible apply tgN_o); (focus rfl); (focus (first | assumption | trivial))))) | ((with_reducible apply Sm.vrP); (focus rfl)) | ((with_reducible apply Sm.vrO); (focus rfl)) | ((with_reducible apply Sm.augI); (focus rfl)) | ((with_reducible refine Sm.dicE ?_ ?_); (focus decide)) | ((with_reducible apply Sm.augS); (focus rfl)) | (with_reducible refine iteTT ?_) | (with_reducible refine iteT ?_) | (with_reducible refine iteF ?_) | ((with_reducible refine iteB1 ?_ ?_); (focus rfl)) | ((with_reducible refine iteB0 ?_ ?_); (focus rfl)))))
local macro_rules | `(tactic| walk_at "lw n") => `(tactic| (try dsimp only [ent, List.map, Nat.reduceAdd, Nat.reduceSub, List.length_cons, List.length_nil, List.replicate_succ, List.replicate_zero, List.cons_append, List.nil_append, putBack, setOwn, List.getElem?_cons_zero, List.getElem?_cons_succ, List.set_cons_zero, List.set_cons_succ, Sm.nf]))
local macro_rules | `(tactic| walk_at "lw v") => `(tactic| (try simp only [pb1, pb2, pb3, pb4]))
/-- what done may do -/
def DoneX (ps : List P3) (ls : List Int) (bs : List Bool) (d : Dd) : Str → D → List S → Prop := fun nm x _ => (shut bs d = true ∧ nm = "Shut" ∧ x = .int d.at) ∨ (shut bs d = false ∧ dry ps ls d = true ∧ nm = "Dry" ∧ x = .int d.at)
theorem refuse_shut (n : Nat) : wpm m_p_refuse [.pure (.tuple [.str "shut", .int n])] (fun _ _ => False) (fun nm x _ => nm = "Shut" ∧ x = .int n) := by
  refine Sm.runX ?_
  unfold g_p_refuse
  walk_at "lw n"
  walk_at "lw e"
  rfl
theorem refuse_dry (n : Nat) : wpm m_p_refuse [.pure (.tuple [.str "dry", .int n])] (fun _ _ => False) (fun nm x _ => nm = "Dry" ∧ x = .int n) := by
  refine Sm.runX ?_
  unfold g_p_refuse
  walk_at "lw n"
  walk_at "lw e"
  rfl
theorem done_ok {st sd t : D} {xs : List D} {ps : List P3} {ls : List Int} {bs : List Bool} {d : Dd} (hs : StairG st xs ps) (hd : Stand sd ls bs) (ht : Dt t d) (ho : d.On ps.length) (hdn : Down ps d) (hp : ps.length ≤ 1000) (hl : ls.length = ps.length) (hb : bs.length = ps.length) :
    wpm m_p_done [.pure st, .pure sd, .pure t] (fun r o => shut bs d = false ∧ dry ps ls d = false ∧ ValQ (fun x => x = .tuple [sD (aft ps ls d) (turn bs d), it (spl ps ls d)]) r o) (DoneX ps ls bs d) := by
  obtain ⟨lv, cv, ei, hv, hc⟩ := hd.ex
  have hf := faultG hs hd ht ho hdn hl hb
  refine Sm.runX ?_
  unfold g_p_done
  walk_at "lw n"
  cases qs : shut bs d with
  | true =>
    have ef : fault ps ls bs d = .tuple [.str "shut", .int d.at] := by unfold fault; rw [if_pos qs]
    rw [ef] at hf
    walk_at "lw e"
    (refine Sm.fmono (hf) fun r o h => ?_; obtain ⟨d, rfl, rfl⟩ := h; refine ⟨nref, ?_⟩; walk_at "lw v"; walk_at "lw e")
    walk_at "lw n"
    walk_at "lw e"
    refine Sm.mmono (refuse_shut d.at) (fun _ _ z => z.elim) fun nm x o h => ?_
    exact .inl ⟨qs, h⟩
  | false =>
    cases qd : dry ps ls d with
    | true =>
      have ef : fault ps ls bs d = .tuple [.str "dry", .int d.at] := by unfold fault; rw [if_neg (by rw [qs]; decide), if_pos qd]
      rw [ef] at hf
      walk_at "lw e"
      (refine Sm.fmono (hf) fun r o h => ?_; obtain ⟨d, rfl, rfl⟩ := h; refine ⟨nref, ?_⟩; walk_at "lw v"; walk_at "lw e")
      walk_at "lw n"
      walk_at "lw e"
      refine Sm.mmono (refuse_dry d.at) (fun _ _ z => z.elim) fun nm x o h => ?_
      exact .inr ⟨qs, qd, h⟩
    | false =>
      have ef : fault ps ls bs d = .none := by unfold fault; rw [if_neg (by rw [qs]; decide), if_neg (by rw [qd]; decide)]
      rw [ef] at hf
      walk_at "lw e"
      (refine Sm.fmono (hf) fun r o h => ?_; obtain ⟨d, rfl, rfl⟩ := h; refine ⟨nref, ?_⟩; walk_at "lw v"; walk_at "lw e")
      walk_at "lw n"
      walk_at "lw e"
      refine ⟨tgT2_i ei rfl trivial rfl trivial, ?_⟩
      walk_at "lw n"
      walk_at "lw e"
      (refine Sm.fmono (levelsG hs hv ht ho hp hl) fun r o h => ?_; obtain ⟨d, rfl, rfl⟩ := h; refine ⟨nref, ?_⟩; walk_at "lw v"; walk_at "lw e")
      walk_at "lw n"
      walk_at "lw e"
      (refine Sm.fmono (chambersG hc ht (by rw [hb]; exact ho) (by omega)) fun r o h => ?_; obtain ⟨d, rfl, rfl⟩ := h; refine ⟨nref, ?_⟩; walk_at "lw v"; walk_at "lw e")
      walk_at "lw n"
      walk_at "lw e"
      all_goals first | exact qs | exact qd | exact ⟨_, rfl, rfl⟩ | exact rfl
/-- how far the deeds go: what is left behind, and the first fault -/
def goX (ps : List P3) : Gs → List Dd → Gs × Option (Str × Nat)
  | s, [] => (s, none)
  | s, d :: ds => if shut s.2.1 d = true then (s, some ("shut", d.at)) else if dry ps s.1 d = true then (s, some ("dry", d.at)) else goX ps (gst ps s d) ds
def clsN (w : Str) : Str := if w = "shut" then "Shut" else "Dry"
def zeroG (ps : List P3) (ls : List Int) (bs : List Bool) : Gs := (ls, bs, ps.map fun _ => 0)
def GoneX (F : Option (Str × Nat)) : Str → D → List S → Prop := fun nm x _ => ∃ w n, F = some (w, n) ∧ nm = clsN w ∧ x = .int n
def IGx (st sd t lv cv : D) (ps : List P3) (ds : List Dd) (F : Gs × Option (Str × Nat)) (i : Nat) (ς : En) : Prop := ∃ s : Gs, IGs st sd t lv cv s ς ∧ goX ps s (ds.drop i) = F ∧ s.1.length = ps.length ∧ s.2.1.length = ps.length ∧ s.2.2.length = ps.length
theorem gone_ok {st sd t : D} {xs ts : List D} {ps : List P3} {ls : List Int} {bs : List Bool} {ds : List Dd} (hs : StairG st xs ps) (hd : Stand sd ls bs) (ht : DeedsG t ts ds) (hp : ps.length ≤ 1000) (hl : ls.length = ps.length) (hb : bs.length = ps.length)
    (ho : ∀ d ∈ ds, d.On ps.length ∧ Down ps d) :
    wpm m_p_gone [.pure st, .pure sd, .pure t] (fun r o => (goX ps (zeroG ps ls bs) ds).2 = none ∧ ValQ (fun x => x = .tuple [sD (goX ps (zeroG ps ls bs) ds).1.1 (goX ps (zeroG ps ls bs) ds).1.2.1, it (goX ps (zeroG ps ls bs) ds).1.2.2]) r o) (GoneX (goX ps (zeroG ps ls bs) ds).2) := by
  have hsl : sizeLine = 16777216 := rfl
  obtain ⟨lv, cv, ei, hv, hc⟩ := hd.ex
  have hxl := hs.len
  generalize hF : goX ps (zeroG ps ls bs) ds = F
  refine Sm.runX ?_
  unfold g_p_gone
  walk_at "lw n"
  walk_at "lw e"
  refine ⟨tgT2_i ei rfl trivial rfl trivial, ?_⟩
  walk_at "lw n"
  have g1 : gTuple lv = some (.pure (it ls)) := by rcases hv with rfl | rfl <;> rfl
  have g2 : gTuple cv = some (.pure (.tuple (bs.map chD))) := by rcases items_cases hc with rfl | rfl <;> rfl
  walk_at "lw e"
  refine ⟨g1, ?_⟩
  walk_at "lw e"
  refine ⟨g2, ?_⟩
  walk_at "lw e"
  refine ⟨hs.its, ?_⟩
  walk_at "lw e"
  refine Sm.lcPure (fun _ => .int 0) (by omega) ?_ ?_
  · intro d hd
    refine ⟨_, tgN_o rfl trivial, ?_⟩
    walk_at "lw n"
    walk_at "lw e"
    exact rfl
  · have e0 : xs.map (fun _ => PyData.int 0) = (ps.map fun _ => (0 : Int)).map PyData.int := by
      rw [List.map_map, List.map_const', hxl]
      exact (List.map_const' ..).symm
    rw [e0]
    walk_at "lw e"
    walk_at "lw n"
    walk_at "lw e"
    refine ⟨ht.its, ?_⟩
    walk_at "lw e"
    refine Sm.loopInvX (IGx st sd t lv cv ps ds F) ⟨zeroG ps ls bs, ⟨_, _, rfl, trivial, trivial⟩, hF, hl, hb, List.length_map _⟩ ?_ ?_
    · rintro i x ς hx ⟨s, ⟨o8, o9, rfl, f8, f9⟩, hG, n1, n2, n3⟩
      have hi : i < ds.length := by have := (List.getElem?_eq_some_iff.mp hx).1; rw [ht.len] at this; exact this
      have hdi := List.getElem?_eq_getElem hi
      rw [List.drop_eq_getElem_cons hi] at hG
      generalize ds[i] = d at hdi hG
      have hm : d ∈ ds := List.mem_of_getElem? hdi
      have hx2 := ht.ok i x d hx hdi
      obtain ⟨a1, a2⟩ := aft_len (d := d) n1
      refine ⟨_, tgN_o rfl f8, ?_⟩
      walk_at "lw n"
      walk_at "lw e"
      refine Sm.mmono (done_ok hs (sD_stand s.1 s.2.1) hx2 (ho d hm).1 (ho d hm).2 hp n1 n2) (fun r o h => ?_) fun nm y o h => ?_
      · obtain ⟨qs, qd, y, rfl, rfl⟩ := h
        rw [goX, if_neg (by rw [qs]; decide), if_neg (by rw [qd]; decide)] at hG
        refine ⟨nref, ?_⟩
        walk_at "lw v"
        walk_at "lw n"
        walk_at "lw e"
        refine ⟨tgT2_o rfl trivial rfl f9, ?_⟩
        walk_at "lw n"
        walk_at "lw e"
        have ez : zipD (s.2.2.map PyData.int) ((spl ps s.1 d).map PyData.int) = (s.2.2.zip (spl ps s.1 d)).map fun p => PyData.tuple [.int p.1, .int p.2] := zip_ints _ _
        rw [ez]
        refine Sm.lcPure add2 (by rw [List.length_map, List.length_zip]; omega) ?_ ?_
        · intro z hz
          obtain ⟨q, hq, rfl⟩ := List.mem_map.1 hz
          refine ⟨_, tgT2_o rfl trivial rfl trivial, ?_⟩
          walk_at "lw n"
          walk_at "lw e"
          exact rfl
        · have e2 : ((s.2.2.zip (spl ps s.1 d)).map fun p => PyData.tuple [.int p.1, .int p.2]).map add2 = ((s.2.2.zip (spl ps s.1 d)).map fun p => p.1 + p.2).map PyData.int := by rw [List.map_map, List.map_map]; rfl
          rw [e2]
          walk_at "lw e"
          walk_at "lw n"
          exact ⟨gst ps s d, ⟨some (.pure x), some (.pure (it (spl ps s.1 d))), rfl, trivial, trivial⟩, hG, a1, by show (turn s.2.1 d).length = _; rw [turn_len]; exact n2, by show ((s.2.2.zip (spl ps s.1 d)).map fun p => p.1 + p.2).length = _; rw [List.length_map, List.length_zip]; omega⟩
      · rcases h with ⟨qs, rfl, rfl⟩ | ⟨qs, qd, rfl, rfl⟩
        · rw [goX, if_pos qs] at hG
          subst hG
          exact ⟨_, _, rfl, rfl, rfl⟩
        · rw [goX, if_neg (by rw [qs]; decide), if_pos qd] at hG
          subst hG
          exact ⟨_, _, rfl, rfl, rfl⟩
    · rintro ς ⟨s, ⟨o8, o9, rfl, f8, f9⟩, hG, n1, n2, n3⟩
      rw [ht.len, List.drop_length, goX] at hG
      subst hG
      walk_at "lw e"
      exact ⟨_, rfl, rfl⟩
theorem refused_ok {st sd t : D} {xs : List D} {ps : List P3} {ls : List Int} {bs : List Bool} {d : Dd} (hs : StairG st xs ps) (hd : Stand sd ls bs) (ht : Dt t d) (ho : d.On ps.length) (hdn : Down ps d) (hp : ps.length ≤ 1000) (hl : ls.length = ps.length) (hb : bs.length = ps.length)
    (hx : shut bs d = true ∨ dry ps ls d = true) : wpf m_l_refused [.pure st, .pure sd, .pure t] (ValQ fun x => x = fault ps ls bs d) := by
  have hdo := done_ok hs hd ht ho hdn hp hl hb
  have hf := faultG hs hd ht ho hdn hl hb
  have hw : ∃ w : Str, fault ps ls bs d = .tuple [.str w, .int d.at] := by
    unfold fault
    by_cases q : shut bs d = true
    · rw [if_pos q]; exact ⟨_, rfl⟩
    · rw [if_neg q, if_pos (hx.resolve_left q)]; exact ⟨_, rfl⟩
  obtain ⟨w, ew⟩ := hw
  have sm := same_fine (Fine.int (B := 1000) (e := 0) (w := 10) (i := (d.at : Int)) (by have := ho.2; omega) (by decide)) (by decide) (by decide) (by decide)
  rw [ew] at hf ⊢
  refine Sm.run ?_
  unfold g_l_refused
  walk_at "lw n"
  walk_at "lw e"
  refine Sm.mmono hdo (fun r o h => ?_) fun nm x o h => ?_
  · obtain ⟨q1, q2, _⟩ := h
    rcases hx with z | z
    · rw [z] at q1; cases q1
    · rw [z] at q2; cases q2
  · rcases h with ⟨qs, rfl, rfl⟩ | ⟨qs, qd, rfl, rfl⟩
    · walk_at "lw v"
      walk_at "lw e"
      walk_at "lw n"
      walk_at "lw e"
      (refine Sm.fmono (hf) fun r o h => ?_; obtain ⟨d, rfl, rfl⟩ := h; refine ⟨nref, ?_⟩; walk_at "lw v"; walk_at "lw e")
      walk_at "lw n"
      walk_at "lw e"
      (refine Sm.fmono (sm) fun r o h => ?_; obtain ⟨d, rfl, rfl⟩ := h; refine ⟨nref, ?_⟩; walk_at "lw v"; walk_at "lw e")
      walk_at "lw n"
      walk_at "lw e"
      (refine Sm.fmono (hf) fun r o h => ?_; obtain ⟨d, rfl, rfl⟩ := h; refine ⟨nref, ?_⟩; walk_at "lw v"; walk_at "lw e")
      walk_at "lw n"
      walk_at "lw e"
      exact ⟨_, rfl, rfl⟩
    · walk_at "lw v"
      walk_at "lw e"
      walk_at "lw n"
      walk_at "lw e"
      (refine Sm.fmono (hf) fun r o h => ?_; obtain ⟨d, rfl, rfl⟩ := h; refine ⟨nref, ?_⟩; walk_at "lw v"; walk_at "lw e")
      walk_at "lw n"
      walk_at "lw e"
      (refine Sm.fmono (sm) fun r o h => ?_; obtain ⟨d, rfl, rfl⟩ := h; refine ⟨nref, ?_⟩; walk_at "lw v"; walk_at "lw e")
      walk_at "lw n"
      walk_at "lw e"
      (refine Sm.fmono (hf) fun r o h => ?_; obtain ⟨d, rfl, rfl⟩ := h; refine ⟨nref, ?_⟩; walk_at "lw v"; walk_at "lw e")
      walk_at "lw n"
      walk_at "lw e"
      exact ⟨_, rfl, rfl⟩
end K08
-- F2
-- F3
-- F4
namespace K08
open PySem PySem.Spec PyProof.Rows L2 Lw
local macro_rules | `(tactic| walk_at "lw e") => `(tactic| (repeat (first | (with_reducible refine Stp.go ?_) | (with_reducible apply Exists.intro) | ((with_reducible refine And.intro ?_ ?_); · (first | (with_reducible exact Evl.ev) | ((fail_if_success (with_reducible refine Gd.keep ?_)); rfl) | ((with_reducible apply mul_r); decide) | ((with_reducible apply mul_l); decide) | ((with_reducible apply div_i); decide) | ((with_reducible apply in_R); decide) | (exact Nat.le_of_ble_eq_true rfl) | (simp [refsOf]; done) | (exact ⟨rfl, rfl, by decide⟩) | (exact ⟨rfl, rfl, rfl⟩) | ((with_reducible apply tgN_o); (focus rfl); (focus (first | assumption | trivial))))) | ((with_reducible apply Sm.vrP); (focus rfl)) | ((with_reducible apply Sm.vrO); (focus rfl)) | ((with_reducible apply Sm.augI); (focus rfl)) | ((with_reducible refine Sm.dicE ?_ ?_); (focus decide)) | ((with_reducible apply Sm.augS); (focus rfl)) | (with_reducible refine iteTT ?_) | (with_reducible refine iteT ?_) | (with_reducible refine iteF ?_) | ((with_reducible refine iteB1 ?_ ?_); (focus rfl)) | ((with_reducible refine iteB0 ?_ ?_); (focus rfl)))))
local macro_rules | `(tactic| walk_at "lw n") => `(tactic| (try dsimp only [ent, List.map, Nat.reduceAdd, Nat.reduceSub, List.length_cons, List.length_nil, List.replicate_succ, List.replicate_zero, List.cons_append, List.nil_append, putBack, setOwn, List.getElem?_cons_zero, List.getElem?_cons_succ, List.set_cons_zero, List.set_cons_succ, Sm.nf]))
local macro_rules | `(tactic| walk_at "lw v") => `(tactic| (try simp only [pb1, pb2, pb3, pb4, pb5, pb6]))
/-! ### a thaw through all pounds -/
def pT (k : Nat) : P3 := (0, 3 * ((k : Int) + 1), 1)
def psT (n : Nat) : List P3 := (List.range n).map pT
def triT : Nat → Int
  | 0 => 0
  | n + 1 => triT n + ((n : Int) + 1)
theorem spill_n {x : Int} (h : 0 ≤ x) : spill x = x := by unfold spill; split <;> omega
theorem thaw_facts {n : Nat} (h1 : 2 ≤ n) (h2 : n ≤ 6) {y : Int} (hy : 0 ≤ y) :
    aft (psT n) (List.replicate n 0) (.raise n (3 * triT n + y)) = (psT n).map (fun p => p.2.1) ∧ spl (psT n) (List.replicate n 0) (.raise n (3 * triT n + y)) = (List.range n).map fun k => 3 * triT k + y := by
  have h : n = 2 ∨ n = 3 ∨ n = 4 ∨ n = 5 ∨ n = 6 := by omega
  have e2 : List.range 2 = [0, 1] := rfl
  have e3 : List.range 3 = [0, 1, 2] := rfl
  have e4 : List.range 4 = [0, 1, 2, 3] := rfl
  have e5 : List.range 5 = [0, 1, 2, 3, 4] := rfl
  have e6 : List.range 6 = [0, 1, 2, 3, 4, 5] := rfl
  rcases h with rfl | rfl | rfl | rfl | rfl
  all_goals
    unfold aft spl psT chg add1
    simp [e2, e3, e4, e5, e6, pT, triT, ov, List.replicate]
    try simp only [List.getElem?_cons_zero, Option.getD_some]
    simp (disch := omega) only [spill_n]
    omega
end K08
-- F2
-- F3
-- F4
namespace K08
open PySem PySem.Spec PyProof.Rows L2 Lw
local macro_rules | `(tactic| walk_at "lw e") => `(tactic| (repeat (first | (with_reducible refine Stp.go ?_) | (with_reducible apply Exists.intro) | ((with_reducible refine And.intro ?_ ?_); · (first | (with_reducible exact Evl.ev) | ((fail_if_success (with_reducible refine Gd.keep ?_)); rfl) | ((with_reducible apply mul_r); decide) | ((with_reducible apply mul_l); decide) | ((with_reducible apply div_i); decide) | ((with_reducible apply in_R); decide) | (exact Nat.le_of_ble_eq_true rfl) | (simp [refsOf]; done) | (exact ⟨rfl, rfl, by decide⟩) | (exact ⟨rfl, rfl, rfl⟩) | ((with_reducible apply tgN_o); (focus rfl); (focus (first | assumption | trivial))))) | ((with_reducible apply Sm.vrP); (focus rfl)) | ((with_reducible apply Sm.vrO); (focus rfl)) | ((with_reducible apply Sm.augI); (focus rfl)) | ((with_reducible refine Sm.dicE ?_ ?_); (focus decide)) | ((with_reducible apply Sm.augS); (focus rfl)) | (with_reducible refine iteTT ?_) | (with_reducible refine iteT ?_) | (with_reducible refine iteF ?_) | ((with_reducible refine iteB1 ?_ ?_); (focus rfl)) | ((with_reducible refine iteB0 ?_ ?_); (focus rfl)))))
local macro_rules | `(tactic| walk_at "lw n") => `(tactic| (try dsimp only [ent, List.map, Nat.reduceAdd, Nat.reduceSub, List.length_cons, List.length_nil, List.replicate_succ, List.replicate_zero, List.cons_append, List.nil_append, putBack, setOwn, List.getElem?_cons_zero, List.getElem?_cons_succ, List.set_cons_zero, List.set_cons_succ, Sm.nf]))
local macro_rules | `(tactic| walk_at "lw v") => `(tactic| (try simp only [pb1, pb2, pb3, pb4, pb5, pb6]))
theorem rsum_tri : ∀ n : Nat, rsum 1 ((n : Int) + 1) = triT n := by
  intro n
  have key : ∀ n : Nat, preSum (fun i => 1 + (i : Int)) n = triT n := by
    intro n
    induction n with
    | zero => rfl
    | succ n ih => rw [triT, ← ih]; show preSum _ n + (1 + (n : Int)) = _; omega
  unfold rsum
  rw [← key n]
  congr 1
  omega
def fStair (d : D) : D := match d with
  | .int k => .tuple [.int 0, .int (3 * (k + 1)), .int 1]
  | _ => .none
def fLeft (m : Int) (d : D) : D := match d with
  | .int k => .int (3 * triT k.toNat + 1 + m)
  | _ => .none
def fMost (d : D) : D := match d with
  | .tuple [_, y, _] => y
  | _ => .none
theorem rng_map (f : D → D) (g : Nat → D) (h : ∀ k : Nat, f (.int k) = g k) (n : Nat) : (rngD 0 n).map f = (List.range n).map g := by
  apply List.ext_getElem?
  intro i
  rw [List.getElem?_map, List.getElem?_map]
  by_cases hi : i < n
  · rw [rngD_get n 0 i hi, List.getElem?_range hi]
    show some (f (.int (0 + i))) = some (g i)
    rw [Int.zero_add, h]
  · rw [List.getElem?_eq_none (by rw [rngD_len]; omega), List.getElem?_eq_none (by rw [List.length_range]; omega)]
    rfl
theorem stair_eq (n : Nat) : (rngD 0 n).map fStair = (psT n).map pd := by
  rw [rng_map fStair (fun k => pd (pT k)) (fun k => rfl), psT, List.map_map]
  rfl
theorem left_eq (n : Nat) (m : Int) : (rngD 0 n).map (fLeft m) = ((List.range n).map fun k => 3 * triT k + (1 + m)).map PyData.int := by
  rw [rng_map (fLeft m) (fun k => .int (3 * triT k + (1 + m))) (fun k => by show PyData.int (3 * triT (k : Int).toNat + 1 + m) = _; rw [Int.toNat_natCast, Int.add_assoc]), List.map_map]
  rfl
theorem most_eq (ps : List P3) : (ps.map pd).map fMost = (ps.map fun p => p.2.1).map PyData.int := by
  rw [List.map_map, List.map_map]; rfl
theorem psT_len (n : Nat) : (psT n).length = n := by rw [psT, List.length_map, List.length_range]
theorem tri_b {n : Nat} (h : n ≤ 6) : 0 ≤ triT n ∧ triT n ≤ 21 := by
  have h : n = 0 ∨ n = 1 ∨ n = 2 ∨ n = 3 ∨ n = 4 ∨ n = 5 ∨ n = 6 := by omega
  rcases h with rfl | rfl | rfl | rfl | rfl | rfl | rfl <;> decide
theorem repT_ok {x : D} {n : Nat} (h1 : 2 ≤ n) (h2 : n ≤ 6) : gMulA (.tuple [x]) (.int (n : Int)) = some (.pure (.tuple (List.replicate n x))) := by
  have h : n = 2 ∨ n = 3 ∨ n = 4 ∨ n = 5 ∨ n = 6 := by omega
  rcases h with rfl | rfl | rfl | rfl | rfl <;> rfl
theorem stand0 (n : Nat) : PyData.tuple [.tuple (List.replicate n (.int 0)), .tuple (List.replicate n (.str "low"))] = sD (List.replicate n 0) (lowsB n) := by
  unfold sD it
  rw [List.map_replicate, ← lows_ch]
def mosts (n : Nat) : List Int := (psT n).map fun p => p.2.1
def lefts (n : Nat) (y : Int) : List Int := (List.range n).map fun k => 3 * triT k + y
theorem thaw_done {n : Nat} (h1 : 2 ≤ n) (h2 : n ≤ 6) {y : Int} (hy : 0 ≤ y) : wpf (clm m_p_done) [.pure (.tuple ((psT n).map pd)), .pure (sD (List.replicate n 0) (lowsB n)), .pure (dd (.raise n (3 * triT n + y)))] (ValQ fun x => x = .tuple [sD (mosts n) (lowsB n), it (lefts n y)]) := by
  have tb := tri_b h2
  have pl := psT_len n
  obtain ⟨e1, e2⟩ := thaw_facts h1 h2 hy
  have hs : Stair (.tuple ((psT n).map pd)) (psT n) := .inl rfl
  refine Sm.clm (Sm.mmono (done_ok hs.gen (sD_stand _ _) (Dt.of _) ⟨by show 1 ≤ n; omega, by show n ≤ _; omega⟩ (fun q => ?_) (by omega) (by rw [List.length_replicate, pl]) (by unfold lowsB; rw [List.length_replicate, pl])) (fun r o z => ?_) fun nm x o z => ?_)
  · have q : 3 * triT n + y < 0 := q
    omega
  · obtain ⟨_, _, x, rfl, rfl⟩ := z
    refine ⟨_, rfl, ?_⟩
    rw [e1, e2]
    rfl
  · rcases z with ⟨z, _⟩ | ⟨_, z, _⟩
    · cases z
    · unfold dry at z
      rw [if_pos (show (chg (psT n) (Dd.raise n (3 * triT n + y))).snd ≥ 0 by show (3 * triT n + y) ≥ 0; omega)] at z
      cases z
theorem ix_it {xs : List Int} {i : Nat} (h : i < xs.length) : gIx (it xs) (.int (i : Int)) = some (.pure (.int (xs.getD i 0))) := by
  rw [ix_items (t := it xs) (ds := xs.map PyData.int) rfl (by omega) (by rw [List.length_map]; omega), Int.toNat_natCast, List.getD_eq_getElem?_getD, List.getElem?_map, List.getElem?_eq_getElem h, List.getD_eq_getElem?_getD, List.getElem?_eq_getElem h]
  rfl
theorem lefts_len (n : Nat) (y : Int) : (lefts n y).length = n := by unfold lefts; rw [List.length_map, List.length_range]
theorem lefts_get {n : Nat} {y : Int} {i : Nat} (h : i < n) : (lefts n y).getD i 0 = 3 * triT i + y := by
  unfold lefts
  rw [List.getD_eq_getElem?_getD, List.getElem?_map, List.getElem?_range h]
  rfl
theorem thaw_ok {c : Nat} {b : List D} (hb : Box (c + 100) b) : wpf m_l_thaw_right [.own true b] (DrawQ c (fun d => d = .bool true) []) := by
  have hsl : sizeLine = 16777216 := rfl
  refine Sm.run ?_
  unfold g_l_thaw_right
  walk_at "lw n"
  walk_at "lw e"
  (refine Sm.fmono (take4 (c := c + 32) (Box.less hb (by omega)) (by omega) (by omega)) fun r o h => ?_; obtain ⟨v1, b1, rfl, l1, u1, h1, rfl⟩ := h; refine ⟨nref, ?_⟩; walk_at "lw n"; walk_at "lw e")
  (refine Sm.fmono (take4 (c := c) (Box.less h1 (by omega)) (by omega) (by omega)) fun r o h => ?_; obtain ⟨v2, b2, rfl, l2, u2, h2, rfl⟩ := h; refine ⟨nref, ?_⟩; walk_at "lw n"; walk_at "lw e")
  walk_at "lw n"
  obtain ⟨n, hn⟩ : ∃ n : Nat, 2 + v1 = (n : Int) := ⟨(2 + v1).toNat, by omega⟩
  have n2 : 2 ≤ n := by omega
  have n6 : n ≤ 6 := by omega
  have tb := tri_b n6
  have pl := psT_len n
  rw [hn]
  walk_at "lw n"
  walk_at "lw e"
  refine ⟨in_R (by omega), ?_⟩
  walk_at "lw e"
  rw [Int.toNat_natCast]
  refine Sm.lcPure fStair (by rw [rngD_len]; omega) ?_ ?_
  · intro d hd
    obtain ⟨i, hi⟩ := List.mem_iff_getElem?.1 hd
    obtain ⟨hi, rfl⟩ := rng_at hi
    refine ⟨_, tgN_o rfl trivial, ?_⟩
    walk_at "lw n"
    walk_at "lw e"
    exact rfl
  · rw [stair_eq]
    dsimp only [wipeE]
    walk_at "lw n"
    walk_at "lw e"
    refine ⟨repT_ok n2 n6, ?_⟩
    walk_at "lw e"
    refine ⟨repT_ok n2 n6, ?_⟩
    walk_at "lw e"
    refine ⟨in_R (by omega), ?_⟩
    rw [rsum_tri]
    walk_at "lw e"
    walk_at "lw n"
    walk_at "lw e"
    have td1 := thaw_done n2 n6 (y := 1 + v2) (by omega)
    have td2 := thaw_done n2 n6 (y := 0) (by omega)
    rw [Int.add_zero] at td2
    have sm : wpf (m_l_same 10) [.pure (.tuple [it (mosts n), it (lefts n (1 + v2))]), .pure (.tuple [it (mosts n), it (lefts n (1 + v2))])] TrueQ := by
      refine sameS 2 10 _ ?_ (by decide) (by decide)
      refine OkS.tp (Nat.le_of_ble_eq_true rfl) (OkS.cs (OkS.it ?_ 0) (OkS.cs (OkS.it ?_ 0) OkS.nl))
      · unfold mosts; rw [List.length_map]; omega
      · unfold lefts; rw [List.length_map, List.length_range]; omega
    rw [stand0, show 3 * triT n + 1 + v2 = 3 * triT n + (1 + v2) by omega]
    (refine Sm.fmono (td1) fun r o h => ?_; obtain ⟨d, rfl, rfl⟩ := h; refine ⟨nref, ?_⟩; walk_at "lw v"; walk_at "lw e")
    walk_at "lw n"
    walk_at "lw e"
    walk_at "lw n"
    walk_at "lw e"
    refine ⟨in_R (by omega), ?_⟩
    walk_at "lw e"
    rw [Int.toNat_natCast]
    refine Sm.lcPure (fLeft v2) (by rw [rngD_len]; omega) ?_ ?_
    · intro d hd
      obtain ⟨i, hi⟩ := List.mem_iff_getElem?.1 hd
      obtain ⟨hi, rfl⟩ := rng_at hi
      refine ⟨_, tgN_o rfl trivial, ?_⟩
      walk_at "lw n"
      walk_at "lw e"
      refine ⟨in_R (by omega), ?_⟩
      walk_at "lw e"
      rw [rsum_tri]
      exact ⟨rfl, rfl, rfl⟩
    · rw [left_eq]
      walk_at "lw n"
      walk_at "lw e"
      dsimp only [wipeE]
      walk_at "lw n"
      rw [show (List.map (fun k => 3 * triT k + (1 + v2)) (List.range n)) = lefts n (1 + v2) from rfl]
      refine Sm.lcPure fMost (by rw [List.length_map]; omega) ?_ ?_
      · intro d hd
        obtain ⟨p, hp, rfl⟩ := List.mem_map.1 hd
        refine ⟨_, tgN_o rfl trivial, ?_⟩
        walk_at "lw n"
        walk_at "lw e"
        exact rfl
      · rw [most_eq]
        walk_at "lw e"
        walk_at "lw n"
        walk_at "lw e"
        (refine Sm.fmono (sm) fun r o h => ?_; obtain ⟨d, rfl, rfl⟩ := h; refine ⟨nref, ?_⟩; walk_at "lw v"; walk_at "lw e")
        walk_at "lw n"
        walk_at "lw e"
        (refine Sm.fmono (td2) fun r o h => ?_; obtain ⟨d, rfl, rfl⟩ := h; refine ⟨nref, ?_⟩; walk_at "lw v"; walk_at "lw e")
        walk_at "lw n"
        walk_at "lw e"
        walk_at "lw n"
        walk_at "lw e"
        dsimp only [wipeE]
        walk_at "lw n"
        refine Sm.lcPure fMost (by rw [List.length_map]; omega) ?_ ?_
        · intro d hd
          obtain ⟨p, hp, rfl⟩ := List.mem_map.1 hd
          refine ⟨_, tgN_o rfl trivial, ?_⟩
          walk_at "lw n"
          walk_at "lw e"
          exact rfl
        · rw [most_eq]
          walk_at "lw e"
          refine ⟨(eq_its (mosts n) (mosts n)).trans (by rw [decide_eq_true rfl]), ?_⟩
          walk_at "lw e"
          refine ⟨ix_it (i := 0) (by rw [lefts_len]; omega), ?_⟩
          rw [lefts_get (by omega)]
          walk_at "lw e"
          have hix : gIx (it (lefts n 0)) (.int ((n : Int) - 1)) = some (.pure (.int (3 * triT (n - 1) + 0))) := by
            rw [show (n : Int) - 1 = ((n - 1 : Nat) : Int) by omega, ix_it (by rw [lefts_len]; omega), lefts_get (by omega)]
          have htr : triT n = triT (n - 1) + n := by
            obtain ⟨k, rfl⟩ : ∃ k, n = k + 1 := ⟨n - 1, by omega⟩
            rw [triT, Nat.add_sub_cancel]
            push_cast
            omega
          refine ⟨hix, ?_⟩
          walk_at "lw e"
          refine ⟨_, b2, rfl, ?_, h2.less (by omega), rfl⟩
          show PyData.bool (decide ((3 * triT (n - 1) + 0) = 3 * triT n - 3 * n)) = _
          rw [decide_eq_true (by omega)]
end K08
-- F2
-- F3
-- F4
namespace K08
open PySem PySem.Spec PyProof.Rows L2 Lw
local macro_rules | `(tactic| walk_at "lw e") => `(tactic| (repeat (first | (with_reducible refine Stp.go ?_) | (with_reducible apply Exists.intro) | ((with_reducible refine And.intro ?_ ?_); · (first | (with_reducible exact Evl.ev) | ((fail_if_success (with_reducible refine Gd.keep ?_)); rfl) | ((with_reducible apply mul_r); decide) | ((with_reducible apply mul_l); decide) | ((with_reducible apply div_i); decide) | ((with_reducible apply in_R); decide) | (exact Nat.le_of_ble_eq_true rfl) | (simp [refsOf]; done) | (exact ⟨rfl, rfl, by decide⟩) | (exact ⟨rfl, rfl, rfl⟩) | ((with_reducible apply tgN_o); (focus rfl); (focus (first | assumption | trivial))))) | ((with_reducible apply Sm.vrP); (focus rfl)) | ((with_reducible apply Sm.vrO); (focus rfl)) | ((with_reducible apply Sm.augI); (focus rfl)) | ((with_reducible refine Sm.dicE ?_ ?_); (focus decide)) | ((with_reducible apply Sm.augS); (focus rfl)) | (with_reducible refine iteTT ?_) | (with_reducible refine iteT ?_) | (with_reducible refine iteF ?_) | ((with_reducible refine iteB1 ?_ ?_); (focus rfl)) | ((with_reducible refine iteB0 ?_ ?_); (focus rfl)))))
local macro_rules | `(tactic| walk_at "lw n") => `(tactic| (try dsimp only [ent, List.map, Nat.reduceAdd, Nat.reduceSub, List.length_cons, List.length_nil, List.replicate_succ, List.replicate_zero, List.cons_append, List.nil_append, putBack, setOwn, List.getElem?_cons_zero, List.getElem?_cons_succ, List.set_cons_zero, List.set_cons_succ, Sm.nf]))
local macro_rules | `(tactic| walk_at "lw v") => `(tactic| (try simp only [pb1, pb2, pb3, pb4, pb5, pb6]))
/-! ### bounds -/
def ps2 (a s : Int) : List P3 := [(a, a, s), (a, a + s, s)]
section
variable {a s : Int}
theorem spill_z {x : Int} (h : x ≤ 0) : spill x = 0 := by unfold spill; split <;> omega
theorem ff1 (h : 1 ≤ s) : fault (ps2 a s) [a, a + s] [false, false] (.fill 1) = .tuple [.str "dry", .int 1] := by
  have : dry (ps2 a s) [a, a + s] (.fill 1) = true := by simp [dry, chg, sz, pAt, ps2, asks]; omega
  unfold fault
  rw [if_neg (by decide), if_pos this]
  rfl
theorem fd2 (h : 1 ≤ s) : dry (ps2 a s) [a, a + s] (.fill 2) = false := by simp [dry, chg, sz, pAt, ps2, asks]
theorem ff2 (h : 1 ≤ s) : fault (ps2 a s) [a, a + s] [false, false] (.fill 2) = .none := by
  unfold fault
  rw [if_neg (by decide), if_neg (by rw [fd2 h]; decide)]
theorem ff3 : fault (ps2 a s) [a, a + s] [false, false] (.empty 2) = .tuple [.str "shut", .int 2] := by
  unfold fault
  rw [if_pos (by decide)]
  rfl
theorem fa1 (h : 1 ≤ s) : aft (ps2 a s) [a, a + s] (.fill 2) = [a, a] ∧ spl (ps2 a s) [a, a + s] (.fill 2) = [0, 0] := by
  unfold aft spl chg add1 sz pAt ps2
  simp [ov]
  try simp only [List.getElem?_cons_zero, Option.getD_some]
  try simp (disch := omega) only [spill_n, spill_z]
  (try simp only [and_true, true_and])
  omega
theorem ff4 : fault (ps2 a s) [a, a] [false, true] (.fill 2) = .tuple [.str "shut", .int 2] := by
  unfold fault
  rw [if_pos (by decide)]
  rfl
theorem fd5 : dry (ps2 a s) [a, a] (.lower 2 1) = true := by simp [dry, chg, sz, pAt, ps2, asks]; omega
theorem fd6 : dry (ps2 a s) [a, a] (.lower 1 1) = true := by simp [dry, chg, sz, pAt, ps2, asks]; omega
theorem ff5 : fault (ps2 a s) [a, a] [false, true] (.lower 2 1) = .tuple [.str "dry", .int 2] := by
  unfold fault
  rw [if_neg (by decide), if_pos fd5]
  rfl
theorem ff6 : fault (ps2 a s) [a, a] [false, true] (.lower 1 1) = .tuple [.str "dry", .int 1] := by
  unfold fault
  rw [if_neg (by decide), if_pos fd6]
  rfl
theorem fd7 (h : 1 ≤ s) : dry (ps2 a s) [a, a] (.empty 2) = false := by simp [dry, chg, sz, pAt, ps2, asks]; omega
theorem fa7 (h : 1 ≤ s) : aft (ps2 a s) [a, a] (.empty 2) = [a, a] ∧ spl (ps2 a s) [a, a] (.empty 2) = [s, 0] := by
  unfold aft spl chg add1 sz pAt ps2
  simp [ov]
  try simp only [List.getElem?_cons_zero, Option.getD_some]
  try simp (disch := omega) only [spill_n, spill_z]
  (try simp only [and_true, true_and])
  omega
theorem fd8 (h : 1 ≤ s) : dry (ps2 a s) [a, a] (.empty 1) = false := by simp [dry, chg, sz, pAt, ps2, asks]; omega
theorem fa8 (h : 1 ≤ s) : aft (ps2 a s) [a, a] (.empty 1) = [a, a] ∧ spl (ps2 a s) [a, a] (.empty 1) = [0, 0] := by
  unfold aft spl chg add1 sz pAt ps2
  simp [ov]
  try simp only [List.getElem?_cons_zero, Option.getD_some]
  try simp (disch := omega) only [spill_n, spill_z]
  (try simp only [and_true, true_and])
  omega
end
theorem st2 (a s : Int) : Stair (.tuple [.tuple [.int a, .int a, .int s], .tuple [.int a, .int (a + s), .int s]]) (ps2 a s) := .inl rfl
theorem dn_up {ps : List P3} {d : Dd} (h : d.On ps.length) (h' : (∃ l, d = .empty l ∧ 0 ≤ sz ps l) ∨ (∃ l, d = .fill l) ∨ ∃ l m, d = .lower l m) : Down ps d := fun q => by
  rcases h' with ⟨l, rfl, h'⟩ | ⟨l, rfl⟩ | ⟨l, m, rfl⟩
  · have q : sz ps l < 0 := q
    omega
  · have h1 : 1 ≤ l := h.1
    show (1 : Int) ≤ l
    omega
  · have h1 : 1 ≤ l := h.1
    show (1 : Int) ≤ l
    omega
end K08
-- F2
-- F3
-- F4
namespace K08
open PySem PySem.Spec PyProof.Rows L2 Lw
local macro_rules | `(tactic| walk_at "lw e") => `(tactic| (repeat (first | (with_reducible refine Stp.go ?_) | (with_reducible apply Exists.intro) | ((with_reducible refine And.intro ?_ ?_); · (first | (with_reducible exact Evl.ev) | ((fail_if_success (with_reducible refine Gd.keep ?_)); rfl) | ((with_reducible apply mul_r); decide) | ((with_reducible apply mul_l); decide) | ((with_reducible apply div_i); decide) | ((with_reducible apply in_R); decide) | (exact Nat.le_of_ble_eq_true rfl) | (simp [refsOf]; done) | (exact ⟨rfl, rfl, by decide⟩) | (exact ⟨rfl, rfl, rfl⟩) | ((with_reducible apply tgN_o); (focus rfl); (focus (first | assumption | trivial))))) | ((with_reducible apply Sm.vrP); (focus rfl)) | ((with_reducible apply Sm.vrO); (focus rfl)) | ((with_reducible apply Sm.augI); (focus rfl)) | ((with_reducible refine Sm.dicE ?_ ?_); (focus decide)) | ((with_reducible apply Sm.augS); (focus rfl)) | (with_reducible refine iteTT ?_) | (with_reducible refine iteT ?_) | (with_reducible refine iteF ?_) | ((with_reducible refine iteB1 ?_ ?_); (focus rfl)) | ((with_reducible refine iteB0 ?_ ?_); (focus rfl)))))
local macro_rules | `(tactic| walk_at "lw n") => `(tactic| (try dsimp only [ent, List.map, Nat.reduceAdd, Nat.reduceSub, List.length_cons, List.length_nil, List.replicate_succ, List.replicate_zero, List.cons_append, List.nil_append, putBack, setOwn, List.getElem?_cons_zero, List.getElem?_cons_succ, List.set_cons_zero, List.set_cons_succ, Sm.nf]))
local macro_rules | `(tactic| walk_at "lw v") => `(tactic| (try simp only [pb1, pb2, pb3, pb4, pb5, pb6]))
/-- the law's same, of one thing beside itself, whatever its numbers -/
theorem bd_fault {a s : Int} (h : 1 ≤ s) {bs : List Bool} (hb : bs.length = 2) {ls : List Int} (hl : ls.length = 2) {d : Dd} (ho : d.On 2) (hd : Down (ps2 a s) d) : wpf m_p_fault_of [.pure (.tuple [.tuple [.int a, .int a, .int s], .tuple [.int a, .int (a + s), .int s]]), .pure (sD ls bs), .pure (dd d)] (ValQ fun x => x = fault (ps2 a s) ls bs d) :=
  faultG (st2 a s).gen (sD_stand ls bs) (Dt.of d) ho hd hl hb
theorem bd_ref {a s : Int} (h : 1 ≤ s) {bs : List Bool} (hb : bs.length = 2) {ls : List Int} (hl : ls.length = 2) {d : Dd} (ho : d.On 2) (hd : Down (ps2 a s) d) (hx : shut bs d = true ∨ dry (ps2 a s) ls d = true) : wpf m_l_refused [.pure (.tuple [.tuple [.int a, .int a, .int s], .tuple [.int a, .int (a + s), .int s]]), .pure (sD ls bs), .pure (dd d)] (ValQ fun x => x = fault (ps2 a s) ls bs d) :=
  refused_ok (st2 a s).gen (sD_stand ls bs) (Dt.of d) ho hd (Nat.le_of_ble_eq_true rfl) hl hb hx
theorem bd_done {a s : Int} (h : 1 ≤ s) {bs : List Bool} (hb : bs.length = 2) {ls : List Int} (hl : ls.length = 2) {d : Dd} (ho : d.On 2) (hd : Down (ps2 a s) d) (h1 : shut bs d = false) (h2 : dry (ps2 a s) ls d = false) : wpf (clm m_p_done) [.pure (.tuple [.tuple [.int a, .int a, .int s], .tuple [.int a, .int (a + s), .int s]]), .pure (sD ls bs), .pure (dd d)] (ValQ fun x => x = .tuple [sD (aft (ps2 a s) ls d) (turn bs d), it (spl (ps2 a s) ls d)]) :=
  Sm.clm (Sm.mmono (done_ok (st2 a s).gen (sD_stand ls bs) (Dt.of d) ho hd (Nat.le_of_ble_eq_true rfl) hl hb) (fun r o z => z.2.2) fun nm x o z => by
    rcases z with ⟨z, _⟩ | ⟨_, z, _⟩
    · rw [h1] at z; cases z
    · rw [h2] at z; cases z)
theorem bounds_ok {c : Nat} {b : List D} (hb : Box (c + 100) b) : wpf m_l_bounds_right [.own true b] (DrawQ c (fun d => d = .bool true) []) := by
  have hsl : sizeLine = 16777216 := rfl
  refine Sm.run ?_
  unfold g_l_bounds_right
  walk_at "lw n"
  walk_at "lw e"
  (refine Sm.fmono (take4 (c := c + 32) (Box.less hb (by omega)) (by omega) (by omega)) fun r o h => ?_; obtain ⟨v1, b1, rfl, l1, u1, h1, rfl⟩ := h; refine ⟨nref, ?_⟩; walk_at "lw n"; walk_at "lw e")
  (refine Sm.fmono (take4 (c := c) (Box.less h1 (by omega)) (by omega) (by omega)) fun r o h => ?_; obtain ⟨v2, b2, rfl, l2, u2, h2, rfl⟩ := h; refine ⟨nref, ?_⟩; walk_at "lw n"; walk_at "lw e")
  walk_at "lw n"
  generalize hs : 1 + v1 = s
  have s1 : 1 ≤ s := by omega
  have s2 : s ≤ 1000000000 := by omega
  generalize v2 = a at *
  have dF : ∀ l : Nat, 1 ≤ l → l ≤ 2 → Down (ps2 a s) (.fill l) := fun l x y => dn_up ⟨x, y⟩ (.inr (.inl ⟨l, rfl⟩))
  have dE : ∀ l : Nat, 1 ≤ l → l ≤ 2 → Down (ps2 a s) (.empty l) := fun l x y => dn_up ⟨x, y⟩ (.inl ⟨l, rfl, by
    have : l = 1 ∨ l = 2 := by omega
    rcases this with rfl | rfl <;> (show (0 : Int) ≤ s; omega)⟩)
  have dL : ∀ (l : Nat) (m : Int), 1 ≤ l → l ≤ 2 → Down (ps2 a s) (.lower l m) := fun l m x y => dn_up ⟨x, y⟩ (.inr (.inr ⟨l, m, rfl⟩))
  have sm1 : wpf (m_l_same 10) [.pure (.list [.tuple [.str "dry", .int 1], .none, .tuple [.str "shut", .int 2]]), .pure (.list [.tuple [.str "dry", .int 1], .none, .tuple [.str "shut", .int 2]])] TrueQ := by
    refine sameS 2 10 _ ?_ (by decide) (by decide)
    (repeat (first | exact OkS.int _ _ | exact OkS.str _ _ | exact OkS.non _ | exact OkS.bool _ _ | (refine OkS.tp ?_ ?_; exact Nat.le_of_ble_eq_true rfl) | (refine OkS.ls ?_ ?_; exact Nat.le_of_ble_eq_true rfl) | exact OkS.nl | refine OkS.cs ?_ ?_))
  have sm2 : ∀ (x y u v : Int) (p q : String), wpf (m_l_same 10) [.pure (.tuple [.tuple [.tuple [.int x, .int y], .tuple [.str p, .str q]], .tuple [.int u, .int v]]), .pure (.tuple [.tuple [.tuple [.int x, .int y], .tuple [.str p, .str q]], .tuple [.int u, .int v]])] TrueQ := fun x y u v p q => by
    refine sameS 3 10 _ ?_ (by decide) (by decide)
    (repeat (first | exact OkS.int _ _ | exact OkS.str _ _ | exact OkS.non _ | exact OkS.bool _ _ | (refine OkS.tp ?_ ?_; exact Nat.le_of_ble_eq_true rfl) | (refine OkS.ls ?_ ?_; exact Nat.le_of_ble_eq_true rfl) | exact OkS.nl | refine OkS.cs ?_ ?_))
  have sm3 : wpf (m_l_same 10) [.pure (.list [.tuple [.str "shut", .int 2], .tuple [.str "dry", .int 2], .tuple [.str "dry", .int 1]]), .pure (.list [.tuple [.str "shut", .int 2], .tuple [.str "dry", .int 2], .tuple [.str "dry", .int 1]])] TrueQ := by
    refine sameS 2 10 _ ?_ (by decide) (by decide)
    (repeat (first | exact OkS.int _ _ | exact OkS.str _ _ | exact OkS.non _ | exact OkS.bool _ _ | (refine OkS.tp ?_ ?_; exact Nat.le_of_ble_eq_true rfl) | (refine OkS.ls ?_ ?_; exact Nat.le_of_ble_eq_true rfl) | exact OkS.nl | refine OkS.cs ?_ ?_))
  have f1 := bd_fault (a := a) s1 (bs := [false, false]) rfl (ls := [a, a + s]) rfl (d := .fill 1) ⟨by decide, by decide⟩ (dF 1 (by decide) (by decide))
  have f2 := bd_fault (a := a) s1 (bs := [false, false]) rfl (ls := [a, a + s]) rfl (d := .fill 2) ⟨by decide, by decide⟩ (dF 2 (by decide) (by decide))
  have f3 := bd_fault (a := a) s1 (bs := [false, false]) rfl (ls := [a, a + s]) rfl (d := .empty 2) ⟨by decide, by decide⟩ (dE 2 (by decide) (by decide))
  rw [ff1 s1] at f1
  rw [ff2 s1] at f2
  rw [ff3] at f3
  have g1 := bd_done (a := a) s1 (bs := [false, false]) rfl (ls := [a, a + s]) rfl (d := .fill 2) ⟨by decide, by decide⟩ (dF 2 (by decide) (by decide)) rfl (fd2 s1)
  rw [(fa1 s1).1, (fa1 s1).2] at g1
  have f4 := bd_ref (a := a) s1 (bs := [false, true]) rfl (ls := [a, a]) rfl (d := .fill 2) ⟨by decide, by decide⟩ (dF 2 (by decide) (by decide)) (.inl rfl)
  have f5 := bd_ref (a := a) s1 (bs := [false, true]) rfl (ls := [a, a]) rfl (d := .lower 2 1) ⟨by decide, by decide⟩ (dL 2 1 (by decide) (by decide)) (.inr fd5)
  have f6 := bd_ref (a := a) s1 (bs := [false, true]) rfl (ls := [a, a]) rfl (d := .lower 1 1) ⟨by decide, by decide⟩ (dL 1 1 (by decide) (by decide)) (.inr fd6)
  rw [ff4] at f4
  rw [ff5] at f5
  rw [ff6] at f6
  have g7 := bd_done (a := a) s1 (bs := [false, true]) rfl (ls := [a, a]) rfl (d := .empty 2) ⟨by decide, by decide⟩ (dE 2 (by decide) (by decide)) rfl (fd7 s1)
  rw [(fa7 s1).1, (fa7 s1).2] at g7
  have g8 := bd_done (a := a) s1 (bs := [true, true]) rfl (ls := [a, a]) rfl (d := .empty 1) ⟨by decide, by decide⟩ (dE 1 (by decide) (by decide)) rfl (fd8 s1)
  rw [(fa8 s1).1, (fa8 s1).2] at g8
  walk_at "lw e"
  walk_at "lw n"
  walk_at "lw e"
  dsimp only [wipeE]
  walk_at "lw n"
  refine lc_cons (by simp [hsl]) ⟨_, tgN_o rfl trivial, ?_⟩
  walk_at "lw n"
  walk_at "lw e"
  (refine Sm.fmono (f1) fun r o h => ?_; obtain ⟨d, rfl, rfl⟩ := h; refine ⟨nref, ?_⟩; walk_at "lw v"; walk_at "lw e")
  walk_at "lw n"
  walk_at "lw e"
  dsimp only [wipeE]
  walk_at "lw n"
  refine lc_cons (by simp [hsl]) ⟨_, tgN_o rfl trivial, ?_⟩
  walk_at "lw n"
  walk_at "lw e"
  (refine Sm.fmono (f2) fun r o h => ?_; obtain ⟨d, rfl, rfl⟩ := h; refine ⟨nref, ?_⟩; walk_at "lw v"; walk_at "lw e")
  walk_at "lw n"
  walk_at "lw e"
  dsimp only [wipeE]
  walk_at "lw n"
  refine lc_cons (by simp [hsl]) ⟨_, tgN_o rfl trivial, ?_⟩
  walk_at "lw n"
  walk_at "lw e"
  (refine Sm.fmono (f3) fun r o h => ?_; obtain ⟨d, rfl, rfl⟩ := h; refine ⟨nref, ?_⟩; walk_at "lw v"; walk_at "lw e")
  walk_at "lw n"
  walk_at "lw e"
  dsimp only [wipeE]
  walk_at "lw n"
  refine lc_nil ?_
  walk_at "lw e"
  walk_at "lw n"
  walk_at "lw e"
  (refine Sm.fmono (sm1) fun r o h => ?_; obtain ⟨d, rfl, rfl⟩ := h; refine ⟨nref, ?_⟩; walk_at "lw v"; walk_at "lw e")
  walk_at "lw n"
  walk_at "lw e"
  (refine Sm.fmono (g1) fun r o h => ?_; obtain ⟨d, rfl, rfl⟩ := h; refine ⟨nref, ?_⟩; walk_at "lw v"; walk_at "lw e")
  walk_at "lw n"
  walk_at "lw e"
  walk_at "lw n"
  walk_at "lw e"
  (refine Sm.fmono (sm2 a a 0 0 "low" "high") fun r o h => ?_; obtain ⟨d, rfl, rfl⟩ := h; refine ⟨nref, ?_⟩; walk_at "lw v"; walk_at "lw e")
  walk_at "lw n"
  walk_at "lw e"
  walk_at "lw n"
  walk_at "lw e"
  dsimp only [wipeE]
  walk_at "lw n"
  refine lc_cons (by simp [hsl]) ⟨_, tgN_o rfl trivial, ?_⟩
  walk_at "lw n"
  walk_at "lw e"
  (refine Sm.fmono (f4) fun r o h => ?_; obtain ⟨d, rfl, rfl⟩ := h; refine ⟨nref, ?_⟩; walk_at "lw v"; walk_at "lw e")
  walk_at "lw n"
  walk_at "lw e"
  dsimp only [wipeE]
  walk_at "lw n"
  refine lc_cons (by simp [hsl]) ⟨_, tgN_o rfl trivial, ?_⟩
  walk_at "lw n"
  walk_at "lw e"
  (refine Sm.fmono (f5) fun r o h => ?_; obtain ⟨d, rfl, rfl⟩ := h; refine ⟨nref, ?_⟩; walk_at "lw v"; walk_at "lw e")
  walk_at "lw n"
  walk_at "lw e"
  dsimp only [wipeE]
  walk_at "lw n"
  refine lc_cons (by simp [hsl]) ⟨_, tgN_o rfl trivial, ?_⟩
  walk_at "lw n"
  walk_at "lw e"
  (refine Sm.fmono (f6) fun r o h => ?_; obtain ⟨d, rfl, rfl⟩ := h; refine ⟨nref, ?_⟩; walk_at "lw v"; walk_at "lw e")
  walk_at "lw n"
  walk_at "lw e"
  dsimp only [wipeE]
  walk_at "lw n"
  refine lc_nil ?_
  walk_at "lw e"
  walk_at "lw n"
  walk_at "lw e"
  (refine Sm.fmono (sm3) fun r o h => ?_; obtain ⟨d, rfl, rfl⟩ := h; refine ⟨nref, ?_⟩; walk_at "lw v"; walk_at "lw e")
  walk_at "lw n"
  walk_at "lw e"
  (refine Sm.fmono (g7) fun r o h => ?_; obtain ⟨d, rfl, rfl⟩ := h; refine ⟨nref, ?_⟩; walk_at "lw v"; walk_at "lw e")
  walk_at "lw n"
  walk_at "lw e"
  (refine Sm.fmono (sm2 a a s 0 "low" "low") fun r o h => ?_; obtain ⟨d, rfl, rfl⟩ := h; refine ⟨nref, ?_⟩; walk_at "lw v"; walk_at "lw e")
  walk_at "lw n"
  walk_at "lw e"
  walk_at "lw n"
  walk_at "lw e"
  (refine Sm.fmono (g8) fun r o h => ?_; obtain ⟨d, rfl, rfl⟩ := h; refine ⟨nref, ?_⟩; walk_at "lw v"; walk_at "lw e")
  walk_at "lw n"
  walk_at "lw e"
  walk_at "lw n"
  walk_at "lw e"
  (refine Sm.fmono (sm2 a a 0 0 "low" "high") fun r o h => ?_; obtain ⟨d, rfl, rfl⟩ := h; refine ⟨nref, ?_⟩; walk_at "lw v"; walk_at "lw e")
  walk_at "lw n"
  walk_at "lw e"
  exact ⟨_, b2, rfl, rfl, h2.less (by omega), rfl⟩
end K08
-- F2
-- F3
-- F4
namespace K08
open PySem PySem.Spec PyProof.Rows L2 Lw
local macro_rules | `(tactic| walk_at "lw e") => `(tactic| (repeat (first | (with_reducible refine Stp.go ?_) | (with_reducible apply Exists.intro) | ((with_reducible refine And.intro ?_ ?_); · (first | (with_reducible exact Evl.ev) | ((fail_if_success (with_reducible refine Gd.keep ?_)); rfl) | ((with_reducible apply mul_r); decide) | ((with_reducible apply mul_l); decide) | ((with_reducible apply div_i); decide) | ((with_reducible apply in_R); decide) | (exact Nat.le_of_ble_eq_true rfl) | (simp [refsOf]; done) | (exact ⟨rfl, rfl, by decide⟩) | (exact ⟨rfl, rfl, rfl⟩) | ((with_reducible apply tgN_o); (focus rfl); (focus (first | assumption | trivial))))) | ((with_reducible apply Sm.vrP); (focus rfl)) | ((with_reducible apply Sm.vrO); (focus rfl)) | ((with_reducible apply Sm.augI); (focus rfl)) | ((with_reducible refine Sm.dicE ?_ ?_); (focus decide)) | ((with_reducible apply Sm.augS); (focus rfl)) | (with_reducible refine iteTT ?_) | (with_reducible refine iteT ?_) | (with_reducible refine iteF ?_) | ((with_reducible refine iteB1 ?_ ?_); (focus rfl)) | ((with_reducible refine iteB0 ?_ ?_); (focus rfl)))))
local macro_rules | `(tactic| walk_at "lw n") => `(tactic| (try dsimp only [ent, List.map, Nat.reduceAdd, Nat.reduceSub, List.length_cons, List.length_nil, List.replicate_succ, List.replicate_zero, List.cons_append, List.nil_append, putBack, setOwn, List.getElem?_cons_zero, List.getElem?_cons_succ, List.set_cons_zero, List.set_cons_succ, Sm.nf]))
local macro_rules | `(tactic| walk_at "lw v") => `(tactic| (try simp only [pb1, pb2, pb3, pb4, pb5, pb6]))
def ps3 (s : Int) : List P3 := [(0, 1000000000, 1), (0, 1000000000, s)]
theorem go_cons {ps : List P3} {s : Gs} {d : Dd} {ds : List Dd} (h1 : shut s.2.1 d = false) (h2 : dry ps s.1 d = false) : goX ps s (d :: ds) = goX ps (gst ps s d) ds := by
  rw [goX, if_neg (by rw [h1]; decide), if_neg (by rw [h2]; decide)]
theorem gst3 {s x y u v : Int} {bs : List Bool} {d : Dd} (h : add1 [x, y] (chg (ps3 s) d).1 (chg (ps3 s) d).2 = [u, v]) (hu : u ≤ 1000000000) (hv : v ≤ 1000000000) : gst (ps3 s) ([x, y], bs, [0, 0]) d = ([u, v], turn bs d, [0, 0]) := by
  unfold gst aft spl
  show ((ov ((ps3 s).zip (add1 [x, y] (chg (ps3 s) d).1 (chg (ps3 s) d).2))).1, turn bs d, (([0, 0] : List Int).zip (ov ((ps3 s).zip (add1 [x, y] (chg (ps3 s) d).1 (chg (ps3 s) d).2))).2.1).map fun p => p.1 + p.2) = _
  rw [h]
  have e : ov ((ps3 s).zip [u, v]) = ([u, v], [0, 0], 0) := by
    unfold ps3
    simp [ov]
    simp (disch := omega) only [spill_z]
    simp
  rw [e]
  rfl
def lot3 (g : Int) : List Dd := [.raise 2 g, .empty 2, .lower 1 g, .fill 2]
theorem lift_go {s g : Int} (s1 : 1 ≤ s) (s2 : s ≤ 1000) (g1 : 1 ≤ g) (g2 : g ≤ 1000) : goX (ps3 s) (zeroG (ps3 s) [1000000, 1000000] [false, true]) (lot3 g) = (([1000000 + s - g, 1000000 + g - s], [false, true], [0, 0]), none) := by
  have z : zeroG (ps3 s) [1000000, 1000000] [false, true] = ([1000000, 1000000], [false, true], [0, 0]) := rfl
  have hl : ∀ {x y : Int}, ([x, y] : List Int).getD 0 0 = x ∧ ([x, y] : List Int).getD 1 0 = y := fun {x y} => ⟨rfl, rfl⟩
  rw [z]
  unfold lot3
  rw [go_cons (by rfl) (by unfold dry; rw [if_pos (by show g ≥ 0; omega)]), gst3 (u := 1000000) (v := 1000000 + g) rfl (by omega) (by omega)]
  rw [go_cons (by rfl) (by unfold dry; rw [if_pos (by show s ≥ 0; omega)]), gst3 (u := 1000000 + s) (v := 1000000 + g) rfl (by omega) (by omega)]
  rw [go_cons (by rfl) (by
    unfold dry
    rw [if_neg (by show ¬ (-g ≥ 0); omega)]
    show decide (1000000 + s < 0 - -g) = false
    exact decide_eq_false (by omega)), gst3 (u := 1000000 + s + -g) (v := 1000000 + g) rfl (by omega) (by omega)]
  rw [go_cons (by rfl) (by
    unfold dry
    rw [if_neg (by show ¬ (-s ≥ 0); omega)]
    show decide (1000000 + g < 0 - -s) = false
    exact decide_eq_false (by omega)), gst3 (u := 1000000 + s + -g) (v := 1000000 + g + -s) rfl (by omega) (by omega)]
  rw [goX, ← Int.sub_eq_add_neg, ← Int.sub_eq_add_neg]
  rfl
theorem lift_ok {c : Nat} {b : List D} (hb : Box (c + 100) b) : wpf m_l_lift_right [.own true b] (DrawQ c (fun d => d = .bool true) []) := by
  have hsl : sizeLine = 16777216 := rfl
  refine Sm.run ?_
  unfold g_l_lift_right
  walk_at "lw n"
  walk_at "lw e"
  (refine Sm.fmono (take4 (c := c + 32) (Box.less hb (by omega)) (by omega) (by omega)) fun r o h => ?_; obtain ⟨v1, b1, rfl, l1, u1, h1, rfl⟩ := h; refine ⟨nref, ?_⟩; walk_at "lw n"; walk_at "lw e")
  (refine Sm.fmono (take4 (c := c) (Box.less h1 (by omega)) (by omega) (by omega)) fun r o h => ?_; obtain ⟨v2, b2, rfl, l2, u2, h2, rfl⟩ := h; refine ⟨nref, ?_⟩; walk_at "lw n"; walk_at "lw e")
  walk_at "lw n"
  generalize hs : 1 + v1 = s
  generalize hg : 1 + v2 = g
  have s1 : 1 ≤ s := by omega
  have s2 : s ≤ 1000 := by omega
  have g1 : 1 ≤ g := by omega
  have g2 : g ≤ 1000 := by omega
  have hst : Stair (.tuple [.tuple [.int 0, .int 1000000000, .int 1], .tuple [.int 0, .int 1000000000, .int s]]) (ps3 s) := .inl rfl
  have ho : ∀ d ∈ lot3 g, d.On (ps3 s).length ∧ Down (ps3 s) d := fun d m => by
    unfold lot3 at m
    simp only [List.mem_cons, List.not_mem_nil, or_false] at m
    rcases m with rfl | rfl | rfl | rfl
    · exact ⟨⟨Nat.le_of_ble_eq_true rfl, Nat.le_of_ble_eq_true rfl⟩, fun q => by have q : g < 0 := q; omega⟩
    · exact ⟨⟨Nat.le_of_ble_eq_true rfl, Nat.le_of_ble_eq_true rfl⟩, fun q => by have q : s < 0 := q; omega⟩
    · exact ⟨⟨Nat.le_of_ble_eq_true rfl, Nat.le_of_ble_eq_true rfl⟩, fun q => by show (1 : Int) ≤ (1 : Nat); decide⟩
    · exact ⟨⟨Nat.le_of_ble_eq_true rfl, Nat.le_of_ble_eq_true rfl⟩, fun q => by show (1 : Int) ≤ (2 : Nat); decide⟩
  have hgo := gone_ok hst.gen (sD_stand [1000000, 1000000] [false, true]) (deeds_gen (lot3 g)) (Nat.le_of_ble_eq_true rfl) rfl rfl ho
  rw [lift_go s1 s2 g1 g2] at hgo
  have hcl : wpf (clm m_p_gone) [.pure (.tuple [.tuple [.int 0, .int 1000000000, .int 1], .tuple [.int 0, .int 1000000000, .int s]]), .pure (sD [1000000, 1000000] [false, true]), .pure (.list ((lot3 g).map dd))] (ValQ fun x => x = .tuple [sD [1000000 + s - g, 1000000 + g - s] [false, true], it [0, 0]]) :=
    Sm.clm (Sm.mmono hgo (fun r o z => z.2) fun nm x o z => by obtain ⟨w, n, z, _⟩ := z; cases z)
  have sm2 : ∀ (x y u v : Int) (p q : String), wpf (m_l_same 10) [.pure (.tuple [.tuple [.tuple [.int x, .int y], .tuple [.str p, .str q]], .tuple [.int u, .int v]]), .pure (.tuple [.tuple [.tuple [.int x, .int y], .tuple [.str p, .str q]], .tuple [.int u, .int v]])] TrueQ := fun x y u v p q => by
    refine sameS 3 10 _ ?_ (by decide) (by decide)
    (repeat (first | exact OkS.int _ _ | exact OkS.str _ _ | exact OkS.non _ | exact OkS.bool _ _ | (refine OkS.tp ?_ ?_; exact Nat.le_of_ble_eq_true rfl) | (refine OkS.ls ?_ ?_; exact Nat.le_of_ble_eq_true rfl) | exact OkS.nl | refine OkS.cs ?_ ?_))
  walk_at "lw e"
  walk_at "lw n"
  walk_at "lw e"
  (refine Sm.fmono (hcl) fun r o h => ?_; obtain ⟨d, rfl, rfl⟩ := h; refine ⟨nref, ?_⟩; walk_at "lw v"; walk_at "lw e")
  walk_at "lw n"
  walk_at "lw e"
  walk_at "lw n"
  walk_at "lw e"
  walk_at "lw n"
  walk_at "lw e"
  (refine Sm.fmono (sm2 (1000000 + s - g) (1000000 + g - s) 0 0 "low" "high") fun r o h => ?_; obtain ⟨d, rfl, rfl⟩ := h; refine ⟨nref, ?_⟩; walk_at "lw v"; walk_at "lw e")
  walk_at "lw n"
  walk_at "lw e"
  exact ⟨_, b2, rfl, rfl, h2.less (by omega), rfl⟩
end K08
-- F2
-- F3
-- F4
namespace K08
open PySem PySem.Spec PyProof.Rows L2 Lw
local macro_rules | `(tactic| walk_at "lw e") => `(tactic| (repeat (first | (with_reducible refine Stp.go ?_) | (with_reducible apply Exists.intro) | ((with_reducible refine And.intro ?_ ?_); · (first | (with_reducible exact Evl.ev) | ((fail_if_success (with_reducible refine Gd.keep ?_)); rfl) | ((with_reducible apply mul_r); decide) | ((with_reducible apply mul_l); decide) | ((with_reducible apply div_i); decide) | ((with_reducible apply in_R); decide) | (exact Nat.le_of_ble_eq_true rfl) | (simp [refsOf]; done) | (exact ⟨rfl, rfl, by decide⟩) | (exact ⟨rfl, rfl, rfl⟩) | ((with_reducible apply tgN_o); (focus rfl); (focus (first | assumption | trivial))))) | ((with_reducible apply Sm.vrP); (focus rfl)) | ((with_reducible apply Sm.vrO); (focus rfl)) | ((with_reducible apply Sm.augI); (focus rfl)) | ((with_reducible refine Sm.dicE ?_ ?_); (focus decide)) | ((with_reducible apply Sm.augS); (focus rfl)) | (with_reducible refine iteTT ?_) | (with_reducible refine iteT ?_) | (with_reducible refine iteF ?_) | ((with_reducible refine iteB1 ?_ ?_); (focus rfl)) | ((with_reducible refine iteB0 ?_ ?_); (focus rfl)))))
local macro_rules | `(tactic| walk_at "lw n") => `(tactic| (try dsimp only [ent, List.map, Nat.reduceAdd, Nat.reduceSub, List.length_cons, List.length_nil, List.replicate_succ, List.replicate_zero, List.cons_append, List.nil_append, putBack, setOwn, List.getElem?_cons_zero, List.getElem?_cons_succ, List.set_cons_zero, List.set_cons_succ, Sm.nf]))
local macro_rules | `(tactic| walk_at "lw v") => `(tactic| (try simp only [pb1, pb2, pb3, pb4, pb5, pb6]))
theorem all_mk' (n : Nat) : gAll (.list (([] : List D) ++ List.replicate n (.bool true))) = some (.pure (.bool true)) := by
  have := all_mk (xs := List.replicate n PyData.none) (p := fun _ => true)
  rw [List.map_replicate] at this
  rw [List.nil_append, this]
  congr 3
  exact List.all_eq_true.2 fun _ _ => rfl
theorem law_ok8 (ns : List Int) (hl : ns.length ≤ 63) : wpf m_p_law [.pure (ilist ns)] TrueQ := by
  have hsl : sizeLine = 16777216 := rfl
  refine Sm.run ?_
  unfold g_p_law
  walk_at "lw n"
  walk_at "lw e"
  refine Sm.fmono (cells_ok hl (by decide) (by decide)) fun r o h => ?_
  obtain ⟨cs, hcs, hc⟩ := h
  have hc : cs.length ≤ 4 := hc
  have hrr : ∀ i, r ≠ .ref i := by rcases hcs with rfl | rfl <;> (intro i z; cases z)
  have htd : ∀ ς, toD r ς = some (ilist cs, ς) := by rcases hcs with rfl | rfl <;> (intro ς; rfl)
  walk_at "lw v"
  refine ⟨hrr, _, _, _, htd _, rfl, ?_⟩
  walk_at "lw n"
  refine Sm.boxS ?_
  walk_at "lw e"
  refine ⟨in_R (by rw [List.length_map]; omega), rfl, ?_⟩
  rw [List.length_map]
  dsimp only [wipeE]
  walk_at "lw n"
  obtain ⟨dss, p1, p2, p3⟩ := Sm.lrPure (vs := [3]) (t0 := tgN 3) (f := callE m_l_box (argV (vr 1) (argV (vr 3) argN))) (ς := [some (.pure (ilist ns)), some (.pure (ilist cs)), none, none, none]) (Box 1000000) (rngD 0 ((cs.length : Int)).toNat) [] (by rw [rngD_len]; simp; omega) (fun d hd => by
    obtain ⟨i, hi⟩ := List.mem_iff_getElem?.1 hd
    obtain ⟨hi, rfl⟩ := rng_at hi
    refine ⟨_, tgN_o rfl trivial, ?_⟩
    walk_at "lw n"
    walk_at "lw e"
    refine Sm.fmono (box_ok (by omega)) fun r o h => ?_
    obtain ⟨ds, rfl, hb⟩ := h
    refine ⟨nfr, ?_⟩
    walk_at "lw v"
    exact ⟨ds, rfl, hb, rfl, rfl⟩)
  refine ⟨dss, _, p3, rfl, rfl, ?_⟩
  try dsimp only [wipeE]
  walk_at "lw n"
  have q := Sm.boxPure (j := 4) (fe := andV (callE m_l_thaw_right (argR (vr 4) argN)) (andV (callE m_l_bounds_right (argR (vr 4) argN)) (callE m_l_lift_right (argR (vr 4) argN)))) (ς := [some (.pure (ilist ns)), some (.pure (ilist cs)), none, none, none]) (Box 1000000) (fun ds hb => by
    walk_at "lw n"
    walk_at "lw e"
    refine Sm.fmono (thaw_ok (c := 900000) (hb.less (by omega))) fun r o h => ?_
    obtain ⟨d, b2, rfl, rfl, hb2, rfl⟩ := h
    refine ⟨nref, ?_⟩
    walk_at "lw n"
    walk_at "lw e"
    refine Sm.fmono (bounds_ok (c := 800000) (hb2.less (by omega))) fun r o h => ?_
    obtain ⟨d, b3, rfl, rfl, hb3, rfl⟩ := h
    refine ⟨nref, ?_⟩
    walk_at "lw n"
    walk_at "lw e"
    refine Sm.fmono (lift_ok (c := 700000) (hb3.less (by omega))) fun r o h => ?_
    obtain ⟨d, b4, rfl, rfl, hb4, rfl⟩ := h
    refine ⟨nref, ?_⟩
    walk_at "lw n"
    exact ⟨_, rfl, rfl, rfl⟩) dss [] (by rw [p2, rngD_len]; simp; omega) p1
  refine ⟨_, _, q, _, all_mk' _, ?_⟩
  walk_at "lw n"
  exact ⟨nref, _, rfl, rfl⟩
end K08
namespace K08
open PySem PySem.Spec PyProof.Rows L2 Lw
theorem sem_law (ns : List Int) (hl : ns.length ≤ 63) (_hb : ∀ z ∈ ns, Builtin.Int.intBits z ≤ 1048576) : ∃ outs, m_p_law [.pure (.list (ns.map PyData.int))] = some (.pure (.bool true), outs) :=
  wpf_law (law_ok8 ns hl)
end K08
namespace K08
open PySem PySem.Spec PyProof.Rows L2 Lw
theorem sc_p_fault_of : FnScope ["stair", "stand", "deed", "levels", "chambers"] ["stair", "stand", "deed"] (defScope s_p_fault_of) := ⟨rfl, rfl, rfl, by decide +kernel, rfl, by decide +kernel, by decide +kernel⟩
theorem sc_p_done : FnScope ["stair", "stand", "deed", "fault", "levels", "chambers", "levels_now", "ran"] ["stair", "stand", "deed"] (defScope s_p_done) := ⟨rfl, rfl, rfl, by decide +kernel, rfl, by decide +kernel, by decide +kernel⟩
theorem sc_p_gone : FnScope ["stair", "stand", "deeds", "levels", "chambers", "stand_now", "ran_so_far", "pound", "deed", "ran", "ahead", "more"] ["stair", "stand", "deeds"] (defScope s_p_gone) := ⟨rfl, rfl, rfl, by decide +kernel, rfl, by decide +kernel, by decide +kernel⟩
theorem sc_p_is_shut : FnScope ["chambers", "deed", "word", "lock"] ["chambers", "deed"] (defScope s_p_is_shut) := ⟨rfl, rfl, rfl, by decide +kernel, rfl, by decide +kernel, by decide +kernel⟩
theorem sc_p_is_dry : FnScope ["stair", "levels", "deed", "asked"] ["stair", "levels", "deed"] (defScope s_p_is_dry) := ⟨rfl, rfl, rfl, by decide +kernel, rfl, by decide +kernel, by decide +kernel⟩
theorem sc_p_asked_by : FnScope ["stair", "deed", "pound", "more"] ["stair", "deed"] (defScope s_p_asked_by) := ⟨rfl, rfl, rfl, by decide +kernel, rfl, by decide +kernel, by decide +kernel⟩
theorem sc_p_change_of : FnScope ["stair", "deed", "word", "place"] ["stair", "deed"] (defScope s_p_change_of) := ⟨rfl, rfl, rfl, by decide +kernel, rfl, by decide +kernel, by decide +kernel⟩
theorem sc_p_levels_behind : FnScope ["stair", "levels", "deed", "pound", "more", "changed"] ["stair", "levels", "deed"] (defScope s_p_levels_behind) := ⟨rfl, rfl, rfl, by decide +kernel, rfl, by decide +kernel, by decide +kernel⟩
theorem sc_p_run_over : FnScope ["stair", "levels", "kept", "ran", "poured", "pound", "level", "level_now"] ["stair", "levels"] (defScope s_p_run_over) := ⟨rfl, rfl, rfl, by decide +kernel, rfl, by decide +kernel, by decide +kernel⟩
theorem sc_p_chambers_behind : FnScope ["chambers", "deed", "turned"] ["chambers", "deed"] (defScope s_p_chambers_behind) := ⟨rfl, rfl, rfl, by decide +kernel, rfl, by decide +kernel, by decide +kernel⟩
theorem sc_p_refuse : FnScope ["fault", "word", "place"] ["fault"] (defScope s_p_refuse) := ⟨rfl, rfl, rfl, by decide +kernel, rfl, by decide +kernel, by decide +kernel⟩
theorem sc_l_box : FnScope ["_law_script", "_law_k", "_law_cell"] ["_law_script", "_law_k"] (defScope s_l_box) := ⟨rfl, rfl, rfl, by decide +kernel, rfl, by decide +kernel, by decide +kernel⟩
theorem sc_l_take : FnScope ["_law_box_here", "_law_size", "_law_found", "_law_step", "_law_once", "_law_twice"] ["_law_box_here", "_law_size"] (defScope s_l_take) := ⟨rfl, rfl, rfl, by decide +kernel, rfl, by decide +kernel, by decide +kernel⟩
theorem sc_l_folded : FnScope ["_law_script", "_law_size", "_law_cells_here", "_law_k", "_law_cell"] ["_law_script", "_law_size"] (defScope s_l_folded) := ⟨rfl, rfl, rfl, by decide +kernel, rfl, by decide +kernel, by decide +kernel⟩
theorem sc_l_cells : FnScope ["_law_script", "_law_size", "_law_cells_here"] ["_law_script", "_law_size"] (defScope s_l_cells) := ⟨rfl, rfl, rfl, by decide +kernel, rfl, by decide +kernel, by decide +kernel⟩
theorem sc_l_of : FnScope ["_law_box_here", "_law_some"] ["_law_box_here", "_law_some"] (defScope s_l_of) := ⟨rfl, rfl, rfl, by decide +kernel, rfl, by decide +kernel, by decide +kernel⟩
theorem sc_l_same : FnScope ["_law_found", "_law_due", "_law_one", "_law_other"] ["_law_found", "_law_due"] (defScope s_l_same) := ⟨rfl, rfl, rfl, by decide +kernel, rfl, by decide +kernel, by decide +kernel⟩
theorem sc_l_refused : FnScope ["_law_stair", "_law_stand", "_law_deed", "_law_caught", "error"] ["_law_stair", "_law_stand", "_law_deed"] (defScope s_l_refused) := ⟨rfl, rfl, rfl, by decide +kernel, rfl, by decide +kernel, by decide +kernel⟩
theorem sc_l_thaw_right : FnScope ["_law_box_here", "_law_many", "_law_much", "_law_stair", "_law_k", "_law_stand", "_law_room", "_law_later", "_law_ran", "_law_left", "_law_pound"] ["_law_box_here"] (defScope s_l_thaw_right) := ⟨rfl, rfl, rfl, by decide +kernel, rfl, by decide +kernel, by decide +kernel⟩
theorem sc_l_bounds_right : FnScope ["_law_box_here", "_law_size", "_law_least", "_law_stair", "_law_stand", "_law_faults", "_law_deed", "_law_filled", "_law_ran", "_law_refused_here", "_law_high", "_law_emptied_low"] ["_law_box_here"] (defScope s_l_bounds_right) := ⟨rfl, rfl, rfl, by decide +kernel, rfl, by decide +kernel, by decide +kernel⟩
theorem sc_l_lift_right : FnScope ["_law_box_here", "_law_size", "_law_goods", "_law_stair", "_law_stand", "_law_lot", "_law_later", "_law_ran", "_law_due"] ["_law_box_here"] (defScope s_l_lift_right) := ⟨rfl, rfl, rfl, by decide +kernel, rfl, by decide +kernel, by decide +kernel⟩
theorem sc_p_law : FnScope ["_law_script", "_law_cells_here", "_law_boxes", "_law_k", "_law_box_here"] ["_law_script"] (defScope s_p_law) := ⟨rfl, rfl, rfl, by decide +kernel, rfl, by decide +kernel, by decide +kernel⟩
section
variable {P : Program} {w : World} {K : PySem.W.Frag} {mg : Str → Option Value} {base : Heap} {f : Addr}
theorem b_p_fault_of {t_SHUT : Tok} (c_SHUT : mg "SHUT" = some (.str "shut" t_SHUT)) {t_DRY : Tok} (c_DRY : mg "DRY" = some (.str "dry" t_DRY)) (f_p_is_shut : Fo P w K mg base "is_shut" ["chambers", "deed"] m_p_is_shut 1) (f_p_is_dry : Fo P w K mg base "is_dry" ["stair", "levels", "deed"] m_p_is_dry 3) : ∀ (cdv : Value) (A : Around) (outer : List Env) (s : Shared) (H : Hp) (E : XK), A.guards = some [] → Room 3 (A.deeper (envOfC "fault_of" (defScope s_p_fault_of) s.heap.objs.size f cdv)) →
    PSsd (cxOf CX0 P w K mg base ["stair", "stand", "deed", "levels", "chambers"] "fault_of" (defScope s_p_fault_of) f cdv A outer s H E).nox (defBody s_p_fault_of) g_p_fault_of := by
  intro cdv A outer s H E hgd hr
  unfold g_p_fault_of
  exact (s_cons (s_asg (d_var 1 (pv 1)) (g_tup (PG.or (pg_tup rfl (PGsd.ex (gs_cons (g_name (pg_name (i := 3) sc_p_fault_of.nd rfl (by first | exact Or.inl rfl | exact Or.inr rfl))) (gs_cons (g_name (pg_name (i := 4) sc_p_fault_of.nd rfl (by first | exact Or.inl rfl | exact Or.inr rfl))) gs_nil (pgs_cons (PGd.ex (g_name (pg_name (i := 4) sc_p_fault_of.nd rfl (by first | exact Or.inl rfl | exact Or.inr rfl)))) (PGsd.ex gs_nil))) (pgs_cons (PGd.ex (g_name (pg_name (i := 3) sc_p_fault_of.nd rfl (by first | exact Or.inl rfl | exact Or.inr rfl)))) (PGsd.ex (gs_cons (g_name (pg_name (i := 4) sc_p_fault_of.nd rfl (by first | exact Or.inl rfl | exact Or.inr rfl))) gs_nil (pgs_cons (PGd.ex (g_name (pg_name (i := 4) sc_p_fault_of.nd rfl (by first | exact Or.inl rfl | exact Or.inr rfl)))) (PGsd.ex gs_nil)))))))) (pg_lst rfl (PGsd.ex (gs_cons (g_name (pg_name (i := 3) sc_p_fault_of.nd rfl (by first | exact Or.inl rfl | exact Or.inr rfl))) (gs_cons (g_name (pg_name (i := 4) sc_p_fault_of.nd rfl (by first | exact Or.inl rfl | exact Or.inr rfl))) gs_nil (pgs_cons (PGd.ex (g_name (pg_name (i := 4) sc_p_fault_of.nd rfl (by first | exact Or.inl rfl | exact Or.inr rfl)))) (PGsd.ex gs_nil))) (pgs_cons (PGd.ex (g_name (pg_name (i := 3) sc_p_fault_of.nd rfl (by first | exact Or.inl rfl | exact Or.inr rfl)))) (PGsd.ex (gs_cons (g_name (pg_name (i := 4) sc_p_fault_of.nd rfl (by first | exact Or.inl rfl | exact Or.inr rfl))) gs_nil (pgs_cons (PGd.ex (g_name (pg_name (i := 4) sc_p_fault_of.nd rfl (by first | exact Or.inl rfl | exact Or.inr rfl)))) (PGsd.ex gs_nil)))))))))))
  (s_cons (s_if (d_tru (Fo.call f_p_is_shut hgd hr (by decide) (by rfl) rfl (a_val (d_var 4 (pv 4)) (a_val (d_var 2 (pv 2)) a_nil)) (argV_len (argV_len (fun _ _ _ h => argN_len h))))) (s_one (s_ret (d_tup (a_val (d_gstr (pe_glob (by rfl) c_SHUT ⟨_, rfl⟩)) (a_val (d_ix (d_var 2 (pv 2)) d_int) a_nil))))) s_nil)
  (s_cons (s_if (d_tru (Fo.call f_p_is_dry hgd hr (by decide) (by rfl) rfl (a_val (d_var 0 (pv 0)) (a_val (d_var 3 (pv 3)) (a_val (d_var 2 (pv 2)) a_nil))) (argV_len (argV_len (argV_len (fun _ _ _ h => argN_len h)))))) (s_one (s_ret (d_tup (a_val (d_gstr (pe_glob (by rfl) c_DRY ⟨_, rfl⟩)) (a_val (d_ix (d_var 2 (pv 2)) d_int) a_nil))))) s_nil)
  (s_one (s_ret d_non)))))
theorem b_p_done (f_p_fault_of : Fo P w K mg base "fault_of" ["stair", "stand", "deed"] m_p_fault_of 4) (f_p_levels_behind : Fo P w K mg base "levels_behind" ["stair", "levels", "deed"] m_p_levels_behind 2) (f_p_chambers_behind : Fo P w K mg base "chambers_behind" ["chambers", "deed"] m_p_chambers_behind 1) (f_p_refuse : FoX P w K mg base "refuse" ["fault"] m_p_refuse 3) : ∀ (cdv : Value) (A : Around) (outer : List Env) (s : Shared) (H : Hp) (E : XK), A.guards = some [] → Room 4 (A.deeper (envOfC "done" (defScope s_p_done) s.heap.objs.size f cdv)) →
    PSsx (cxOf (L2.CX P w) P w K mg base ["stair", "stand", "deed", "fault", "levels", "chambers", "levels_now", "ran"] "done" (defScope s_p_done) f cdv A outer s H E) (defBody s_p_done) g_p_done := by
  intro cdv A outer s H E hgd hr
  unfold g_p_done
  exact (x_cons (x_of (s_asg (Fo.call f_p_fault_of hgd hr (by decide) (by rfl) rfl (a_val (d_var 0 (pv 0)) (a_val (d_var 1 (pv 1)) (a_val (d_var 2 (pv 2)) a_nil))) (argV_len (argV_len (argV_len (fun _ _ _ h => argN_len h))))) (g_name (pg_name (i := 3) sc_p_done.nd rfl (by first | exact Or.inl rfl | exact Or.inr rfl)))))
  (x_cons (x_if (d_tstC op_notN (fun _ => op2_isNot) (d_var 3 (pv 3)) d_non (nomark _)) (x_one (x_expr (FoX.call f_p_refuse hgd hr (by decide) (by rfl) rfl (a_val (d_var 3 (pv 3)) a_nil) (argV_len (fun _ _ _ h => argN_len h))))) (x_ofs s_nil))
  (x_ofs (s_cons (s_asg (d_var 1 (pv 1)) (g_tup (PG.or (pg_tup rfl (PGsd.ex (gs_cons (g_name (pg_name (i := 4) sc_p_done.nd rfl (by first | exact Or.inl rfl | exact Or.inr rfl))) (gs_cons (g_name (pg_name (i := 5) sc_p_done.nd rfl (by first | exact Or.inl rfl | exact Or.inr rfl))) gs_nil (pgs_cons (PGd.ex (g_name (pg_name (i := 5) sc_p_done.nd rfl (by first | exact Or.inl rfl | exact Or.inr rfl)))) (PGsd.ex gs_nil))) (pgs_cons (PGd.ex (g_name (pg_name (i := 4) sc_p_done.nd rfl (by first | exact Or.inl rfl | exact Or.inr rfl)))) (PGsd.ex (gs_cons (g_name (pg_name (i := 5) sc_p_done.nd rfl (by first | exact Or.inl rfl | exact Or.inr rfl))) gs_nil (pgs_cons (PGd.ex (g_name (pg_name (i := 5) sc_p_done.nd rfl (by first | exact Or.inl rfl | exact Or.inr rfl)))) (PGsd.ex gs_nil)))))))) (pg_lst rfl (PGsd.ex (gs_cons (g_name (pg_name (i := 4) sc_p_done.nd rfl (by first | exact Or.inl rfl | exact Or.inr rfl))) (gs_cons (g_name (pg_name (i := 5) sc_p_done.nd rfl (by first | exact Or.inl rfl | exact Or.inr rfl))) gs_nil (pgs_cons (PGd.ex (g_name (pg_name (i := 5) sc_p_done.nd rfl (by first | exact Or.inl rfl | exact Or.inr rfl)))) (PGsd.ex gs_nil))) (pgs_cons (PGd.ex (g_name (pg_name (i := 4) sc_p_done.nd rfl (by first | exact Or.inl rfl | exact Or.inr rfl)))) (PGsd.ex (gs_cons (g_name (pg_name (i := 5) sc_p_done.nd rfl (by first | exact Or.inl rfl | exact Or.inr rfl))) gs_nil (pgs_cons (PGd.ex (g_name (pg_name (i := 5) sc_p_done.nd rfl (by first | exact Or.inl rfl | exact Or.inr rfl)))) (PGsd.ex gs_nil)))))))))))
  (s_cons (s_asg (Fo.call f_p_levels_behind hgd hr (by decide) (by rfl) rfl (a_val (d_var 0 (pv 0)) (a_val (d_var 4 (pv 4)) (a_val (d_var 2 (pv 2)) a_nil))) (argV_len (argV_len (argV_len (fun _ _ _ h => argN_len h))))) (g_tup (PG.or (pg_tup rfl (PGsd.ex (gs_cons (g_name (pg_name (i := 6) sc_p_done.nd rfl (by first | exact Or.inl rfl | exact Or.inr rfl))) (gs_cons (g_name (pg_name (i := 7) sc_p_done.nd rfl (by first | exact Or.inl rfl | exact Or.inr rfl))) gs_nil (pgs_cons (PGd.ex (g_name (pg_name (i := 7) sc_p_done.nd rfl (by first | exact Or.inl rfl | exact Or.inr rfl)))) (PGsd.ex gs_nil))) (pgs_cons (PGd.ex (g_name (pg_name (i := 6) sc_p_done.nd rfl (by first | exact Or.inl rfl | exact Or.inr rfl)))) (PGsd.ex (gs_cons (g_name (pg_name (i := 7) sc_p_done.nd rfl (by first | exact Or.inl rfl | exact Or.inr rfl))) gs_nil (pgs_cons (PGd.ex (g_name (pg_name (i := 7) sc_p_done.nd rfl (by first | exact Or.inl rfl | exact Or.inr rfl)))) (PGsd.ex gs_nil)))))))) (pg_lst rfl (PGsd.ex (gs_cons (g_name (pg_name (i := 6) sc_p_done.nd rfl (by first | exact Or.inl rfl | exact Or.inr rfl))) (gs_cons (g_name (pg_name (i := 7) sc_p_done.nd rfl (by first | exact Or.inl rfl | exact Or.inr rfl))) gs_nil (pgs_cons (PGd.ex (g_name (pg_name (i := 7) sc_p_done.nd rfl (by first | exact Or.inl rfl | exact Or.inr rfl)))) (PGsd.ex gs_nil))) (pgs_cons (PGd.ex (g_name (pg_name (i := 6) sc_p_done.nd rfl (by first | exact Or.inl rfl | exact Or.inr rfl)))) (PGsd.ex (gs_cons (g_name (pg_name (i := 7) sc_p_done.nd rfl (by first | exact Or.inl rfl | exact Or.inr rfl))) gs_nil (pgs_cons (PGd.ex (g_name (pg_name (i := 7) sc_p_done.nd rfl (by first | exact Or.inl rfl | exact Or.inr rfl)))) (PGsd.ex gs_nil)))))))))))
  (s_one (s_ret (d_tup (a_val (d_tup (a_val (d_var 6 (pv 6)) (a_val (Fo.call f_p_chambers_behind hgd hr (by decide) (by rfl) rfl (a_val (d_var 5 (pv 5)) (a_val (d_var 2 (pv 2)) a_nil)) (argV_len (argV_len (fun _ _ _ h => argN_len h)))) a_nil))) (a_val (d_var 7 (pv 7)) a_nil))))))))))
theorem b_p_gone (n_tuple : mg "tuple" = none) (n_zip : mg "zip" = none) (f_p_done : FoX P w K mg base "done" ["stair", "stand", "deed"] m_p_done 5) : ∀ (cdv : Value) (A : Around) (outer : List Env) (s : Shared) (H : Hp) (E : XK), A.guards = some [] → Room 5 (A.deeper (envOfC "gone" (defScope s_p_gone) s.heap.objs.size f cdv)) →
    PSsx (cxOf (L2.CX P w) P w K mg base ["stair", "stand", "deeds", "levels", "chambers", "stand_now", "ran_so_far", "pound", "deed", "ran", "ahead", "more"] "gone" (defScope s_p_gone) f cdv A outer s H E) (defBody s_p_gone) g_p_gone := by
  intro cdv A outer s H E hgd hr
  unfold g_p_gone
  exact (x_cons (x_of (s_asg (d_var 1 (pv 1)) (g_tup (PG.or (pg_tup rfl (PGsd.ex (gs_cons (g_name (pg_name (i := 3) sc_p_gone.nd rfl (by first | exact Or.inl rfl | exact Or.inr rfl))) (gs_cons (g_name (pg_name (i := 4) sc_p_gone.nd rfl (by first | exact Or.inl rfl | exact Or.inr rfl))) gs_nil (pgs_cons (PGd.ex (g_name (pg_name (i := 4) sc_p_gone.nd rfl (by first | exact Or.inl rfl | exact Or.inr rfl)))) (PGsd.ex gs_nil))) (pgs_cons (PGd.ex (g_name (pg_name (i := 3) sc_p_gone.nd rfl (by first | exact Or.inl rfl | exact Or.inr rfl)))) (PGsd.ex (gs_cons (g_name (pg_name (i := 4) sc_p_gone.nd rfl (by first | exact Or.inl rfl | exact Or.inr rfl))) gs_nil (pgs_cons (PGd.ex (g_name (pg_name (i := 4) sc_p_gone.nd rfl (by first | exact Or.inl rfl | exact Or.inr rfl)))) (PGsd.ex gs_nil)))))))) (pg_lst rfl (PGsd.ex (gs_cons (g_name (pg_name (i := 3) sc_p_gone.nd rfl (by first | exact Or.inl rfl | exact Or.inr rfl))) (gs_cons (g_name (pg_name (i := 4) sc_p_gone.nd rfl (by first | exact Or.inl rfl | exact Or.inr rfl))) gs_nil (pgs_cons (PGd.ex (g_name (pg_name (i := 4) sc_p_gone.nd rfl (by first | exact Or.inl rfl | exact Or.inr rfl)))) (PGsd.ex gs_nil))) (pgs_cons (PGd.ex (g_name (pg_name (i := 3) sc_p_gone.nd rfl (by first | exact Or.inl rfl | exact Or.inr rfl)))) (PGsd.ex (gs_cons (g_name (pg_name (i := 4) sc_p_gone.nd rfl (by first | exact Or.inl rfl | exact Or.inr rfl))) gs_nil (pgs_cons (PGd.ex (g_name (pg_name (i := 4) sc_p_gone.nd rfl (by first | exact Or.inl rfl | exact Or.inr rfl)))) (PGsd.ex gs_nil))))))))))))
  (x_cons (x_of (s_asg (d_tup (a_val (d_tuple (by rfl) n_tuple (d_var 3 (pv 3))) (a_val (d_tuple (by rfl) n_tuple (d_var 4 (pv 4))) a_nil))) (g_name (pg_name (i := 5) sc_p_gone.nd rfl (by first | exact Or.inl rfl | exact Or.inr rfl)))))
  (x_cons (x_of (s_asg (d_tuple (by rfl) n_tuple (d_lc (own := [("pound", 7)]) rfl sc_p_gone.nd (i_seq (d_var 0 (pv 0))) (blkOk_by (N := ["stair", "stand", "deeds", "levels", "chambers", "stand_now", "ran_so_far", "pound", "deed", "ran", "ahead", "more"]) (sc := defScope s_p_gone) (own := [("pound", 7)]) (by decide +kernel)) (fun _ _ _ _ _ => (g_name (pg_name (i := 7) sc_p_gone.nd rfl (by first | exact Or.inl rfl | exact Or.inr rfl)))) (fun _ _ _ _ _ => ts_nil) (fun _ _ _ _ _ => d_int))) (g_name (pg_name (i := 6) sc_p_gone.nd rfl (by first | exact Or.inl rfl | exact Or.inr rfl)))))
  (x_cons (x_for (passes_of rfl) rfl (i_seq (d_var 2 (pv 2))) (g_name (pg_name (i := 8) sc_p_gone.nd rfl (by first | exact Or.inl rfl | exact Or.inr rfl))) (x_cons (x_asg (FoX.call f_p_done hgd hr (by decide) (by rfl) rfl (a_val (d_var 0 (pv 0)) (a_val (d_var 5 (pv 5)) (a_val (d_var 8 (pv 8)) a_nil))) (argV_len (argV_len (argV_len (fun _ _ _ h => argN_len h))))) (g_tup (PG.or (pg_tup rfl (PGsd.ex (gs_cons (g_name (pg_name (i := 5) sc_p_gone.nd rfl (by first | exact Or.inl rfl | exact Or.inr rfl))) (gs_cons (g_name (pg_name (i := 9) sc_p_gone.nd rfl (by first | exact Or.inl rfl | exact Or.inr rfl))) gs_nil (pgs_cons (PGd.ex (g_name (pg_name (i := 9) sc_p_gone.nd rfl (by first | exact Or.inl rfl | exact Or.inr rfl)))) (PGsd.ex gs_nil))) (pgs_cons (PGd.ex (g_name (pg_name (i := 5) sc_p_gone.nd rfl (by first | exact Or.inl rfl | exact Or.inr rfl)))) (PGsd.ex (gs_cons (g_name (pg_name (i := 9) sc_p_gone.nd rfl (by first | exact Or.inl rfl | exact Or.inr rfl))) gs_nil (pgs_cons (PGd.ex (g_name (pg_name (i := 9) sc_p_gone.nd rfl (by first | exact Or.inl rfl | exact Or.inr rfl)))) (PGsd.ex gs_nil)))))))) (pg_lst rfl (PGsd.ex (gs_cons (g_name (pg_name (i := 5) sc_p_gone.nd rfl (by first | exact Or.inl rfl | exact Or.inr rfl))) (gs_cons (g_name (pg_name (i := 9) sc_p_gone.nd rfl (by first | exact Or.inl rfl | exact Or.inr rfl))) gs_nil (pgs_cons (PGd.ex (g_name (pg_name (i := 9) sc_p_gone.nd rfl (by first | exact Or.inl rfl | exact Or.inr rfl)))) (PGsd.ex gs_nil))) (pgs_cons (PGd.ex (g_name (pg_name (i := 5) sc_p_gone.nd rfl (by first | exact Or.inl rfl | exact Or.inr rfl)))) (PGsd.ex (gs_cons (g_name (pg_name (i := 9) sc_p_gone.nd rfl (by first | exact Or.inl rfl | exact Or.inr rfl))) gs_nil (pgs_cons (PGd.ex (g_name (pg_name (i := 9) sc_p_gone.nd rfl (by first | exact Or.inl rfl | exact Or.inr rfl)))) (PGsd.ex gs_nil)))))))))))
  (x_ofs (s_one (s_asg (d_tuple (by rfl) n_tuple (d_lc (own := [("ahead", 10), ("more", 11)]) rfl sc_p_gone.nd (i_zip2 (by rfl) n_zip (d_var 6 (pv 6)) (d_var 9 (pv 9))) (blkOk_by (N := ["stair", "stand", "deeds", "levels", "chambers", "stand_now", "ran_so_far", "pound", "deed", "ran", "ahead", "more"]) (sc := defScope s_p_gone) (own := [("ahead", 10), ("more", 11)]) (by decide +kernel)) (fun _ _ _ _ _ => (g_tup (PG.or (pg_tup rfl (PGsd.ex (gs_cons (g_name (pg_name (i := 10) sc_p_gone.nd rfl (by first | exact Or.inl rfl | exact Or.inr rfl))) (gs_cons (g_name (pg_name (i := 11) sc_p_gone.nd rfl (by first | exact Or.inl rfl | exact Or.inr rfl))) gs_nil (pgs_cons (PGd.ex (g_name (pg_name (i := 11) sc_p_gone.nd rfl (by first | exact Or.inl rfl | exact Or.inr rfl)))) (PGsd.ex gs_nil))) (pgs_cons (PGd.ex (g_name (pg_name (i := 10) sc_p_gone.nd rfl (by first | exact Or.inl rfl | exact Or.inr rfl)))) (PGsd.ex (gs_cons (g_name (pg_name (i := 11) sc_p_gone.nd rfl (by first | exact Or.inl rfl | exact Or.inr rfl))) gs_nil (pgs_cons (PGd.ex (g_name (pg_name (i := 11) sc_p_gone.nd rfl (by first | exact Or.inl rfl | exact Or.inr rfl)))) (PGsd.ex gs_nil)))))))) (pg_lst rfl (PGsd.ex (gs_cons (g_name (pg_name (i := 10) sc_p_gone.nd rfl (by first | exact Or.inl rfl | exact Or.inr rfl))) (gs_cons (g_name (pg_name (i := 11) sc_p_gone.nd rfl (by first | exact Or.inl rfl | exact Or.inr rfl))) gs_nil (pgs_cons (PGd.ex (g_name (pg_name (i := 11) sc_p_gone.nd rfl (by first | exact Or.inl rfl | exact Or.inr rfl)))) (PGsd.ex gs_nil))) (pgs_cons (PGd.ex (g_name (pg_name (i := 10) sc_p_gone.nd rfl (by first | exact Or.inl rfl | exact Or.inr rfl)))) (PGsd.ex (gs_cons (g_name (pg_name (i := 11) sc_p_gone.nd rfl (by first | exact Or.inl rfl | exact Or.inr rfl))) gs_nil (pgs_cons (PGd.ex (g_name (pg_name (i := 11) sc_p_gone.nd rfl (by first | exact Or.inl rfl | exact Or.inr rfl)))) (PGsd.ex gs_nil))))))))))) (fun _ _ _ _ _ => ts_nil) (fun _ _ _ _ _ => (d_addA (d_var 10 (pv 10)) (d_var 11 (pv 11)))))) (g_name (pg_name (i := 6) sc_p_gone.nd rfl (by first | exact Or.inl rfl | exact Or.inr rfl))))))))
  (x_ofs (s_one (s_ret (d_tup (a_val (d_var 5 (pv 5)) (a_val (d_var 6 (pv 6)) a_nil))))))))))
theorem b_p_is_shut {t_LOW : Tok} (c_LOW : mg "LOW" = some (.str "low" t_LOW)) {t_HIGH : Tok} (c_HIGH : mg "HIGH" = some (.str "high" t_HIGH)) {t_FILL : Tok} (c_FILL : mg "FILL" = some (.str "fill" t_FILL)) {t_EMPTY : Tok} (c_EMPTY : mg "EMPTY" = some (.str "empty" t_EMPTY)) : ∀ (cdv : Value) (A : Around) (outer : List Env) (s : Shared) (H : Hp) (E : XK), A.guards = some [] → Room 0 (A.deeper (envOfC "is_shut" (defScope s_p_is_shut) s.heap.objs.size f cdv)) →
    PSsd (cxOf CX0 P w K mg base ["chambers", "deed", "word", "lock"] "is_shut" (defScope s_p_is_shut) f cdv A outer s H E).nox (defBody s_p_is_shut) g_p_is_shut := by
  intro cdv A outer s H E hgd hr
  unfold g_p_is_shut
  exact (s_cons (s_par2 (d_ix (d_var 1 (pv 1)) d_int) (d_ix (d_var 1 (pv 1)) d_int) (fun t h => ps_par (i := 2) (j := 3) rfl sc_p_is_shut.nd rfl rfl (by decide) rfl rfl h (by rfl)))
  (s_cons (s_if (d_tstC (op_eq.or (op_eqD hr.units)) (fun _ => Op2.or op2_eqS op2_eq) (d_var 2 (pv 2)) (d_gstr (pe_glob (by rfl) c_FILL ⟨_, rfl⟩)) (nomark _)) (s_one (s_ret (d_cmp (op_ne.or (op_neD hr.units)) (fun _ => Op2.or op2_neS op2_ne) (d_ix (d_var 0 (pv 0)) (d_subA (d_var 3 (pv 3)) d_int)) (d_gstr (pe_glob (by rfl) c_LOW ⟨_, rfl⟩)) (nomark _)))) s_nil)
  (s_one (s_ret (d_and (d_cmp (op_eq.or (op_eqD hr.units)) (fun _ => Op2.or op2_eqS op2_eq) (d_var 2 (pv 2)) (d_gstr (pe_glob (by rfl) c_EMPTY ⟨_, rfl⟩)) (nomark _)) (d_one (d_cmp (op_ne.or (op_neD hr.units)) (fun _ => Op2.or op2_neS op2_ne) (d_ix (d_var 0 (pv 0)) (d_subA (d_var 3 (pv 3)) d_int)) (d_gstr (pe_glob (by rfl) c_HIGH ⟨_, rfl⟩)) (nomark _))))))))
theorem b_p_is_dry (f_p_asked_by : Fo P w K mg base "asked_by" ["stair", "deed"] m_p_asked_by 2) : ∀ (cdv : Value) (A : Around) (outer : List Env) (s : Shared) (H : Hp) (E : XK), A.guards = some [] → Room 2 (A.deeper (envOfC "is_dry" (defScope s_p_is_dry) s.heap.objs.size f cdv)) →
    PSsd (cxOf CX0 P w K mg base ["stair", "levels", "deed", "asked"] "is_dry" (defScope s_p_is_dry) f cdv A outer s H E).nox (defBody s_p_is_dry) g_p_is_dry := by
  intro cdv A outer s H E hgd hr
  unfold g_p_is_dry
  exact (s_cons (s_asg (Fo.call f_p_asked_by hgd hr (by decide) (by rfl) rfl (a_val (d_var 0 (pv 0)) (a_val (d_var 2 (pv 2)) a_nil)) (argV_len (argV_len (fun _ _ _ h => argN_len h)))) (g_name (pg_name (i := 3) sc_p_is_dry.nd rfl (by first | exact Or.inl rfl | exact Or.inr rfl))))
  (s_one (s_ret (d_and (d_cmp op_notN (fun _ => op2_isNot) (d_var 3 (pv 3)) d_non (nomark _)) (d_one (d_cmp op_lt (fun _ => o_lt) (d_ix (d_var 1 (pv 1)) (d_subA (d_ix (d_var 3 (pv 3)) d_int) d_int)) (d_ix (d_var 3 (pv 3)) d_int) (nomark _)))))))
theorem b_p_asked_by (f_p_change_of : Fo P w K mg base "change_of" ["stair", "deed"] m_p_change_of 1) : ∀ (cdv : Value) (A : Around) (outer : List Env) (s : Shared) (H : Hp) (E : XK), A.guards = some [] → Room 1 (A.deeper (envOfC "asked_by" (defScope s_p_asked_by) s.heap.objs.size f cdv)) →
    PSsd (cxOf CX0 P w K mg base ["stair", "deed", "pound", "more"] "asked_by" (defScope s_p_asked_by) f cdv A outer s H E).nox (defBody s_p_asked_by) g_p_asked_by := by
  intro cdv A outer s H E hgd hr
  unfold g_p_asked_by
  exact (s_cons (s_asg (Fo.call f_p_change_of hgd hr (by decide) (by rfl) rfl (a_val (d_var 0 (pv 0)) (a_val (d_var 1 (pv 1)) a_nil)) (argV_len (argV_len (fun _ _ _ h => argN_len h)))) (g_tup (PG.or (pg_tup rfl (PGsd.ex (gs_cons (g_name (pg_name (i := 2) sc_p_asked_by.nd rfl (by first | exact Or.inl rfl | exact Or.inr rfl))) (gs_cons (g_name (pg_name (i := 3) sc_p_asked_by.nd rfl (by first | exact Or.inl rfl | exact Or.inr rfl))) gs_nil (pgs_cons (PGd.ex (g_name (pg_name (i := 3) sc_p_asked_by.nd rfl (by first | exact Or.inl rfl | exact Or.inr rfl)))) (PGsd.ex gs_nil))) (pgs_cons (PGd.ex (g_name (pg_name (i := 2) sc_p_asked_by.nd rfl (by first | exact Or.inl rfl | exact Or.inr rfl)))) (PGsd.ex (gs_cons (g_name (pg_name (i := 3) sc_p_asked_by.nd rfl (by first | exact Or.inl rfl | exact Or.inr rfl))) gs_nil (pgs_cons (PGd.ex (g_name (pg_name (i := 3) sc_p_asked_by.nd rfl (by first | exact Or.inl rfl | exact Or.inr rfl)))) (PGsd.ex gs_nil)))))))) (pg_lst rfl (PGsd.ex (gs_cons (g_name (pg_name (i := 2) sc_p_asked_by.nd rfl (by first | exact Or.inl rfl | exact Or.inr rfl))) (gs_cons (g_name (pg_name (i := 3) sc_p_asked_by.nd rfl (by first | exact Or.inl rfl | exact Or.inr rfl))) gs_nil (pgs_cons (PGd.ex (g_name (pg_name (i := 3) sc_p_asked_by.nd rfl (by first | exact Or.inl rfl | exact Or.inr rfl)))) (PGsd.ex gs_nil))) (pgs_cons (PGd.ex (g_name (pg_name (i := 2) sc_p_asked_by.nd rfl (by first | exact Or.inl rfl | exact Or.inr rfl)))) (PGsd.ex (gs_cons (g_name (pg_name (i := 3) sc_p_asked_by.nd rfl (by first | exact Or.inl rfl | exact Or.inr rfl))) gs_nil (pgs_cons (PGd.ex (g_name (pg_name (i := 3) sc_p_asked_by.nd rfl (by first | exact Or.inl rfl | exact Or.inr rfl)))) (PGsd.ex gs_nil)))))))))))
  (s_cons (s_if (d_tstC op_ge (fun _ => o_ge) (d_var 3 (pv 3)) d_int (nomark _)) (s_one (s_ret d_non)) s_nil)
  (s_one (s_ret (d_tup (a_val (d_var 2 (pv 2)) (a_val (d_subA (d_ix (d_ix (d_var 0 (pv 0)) (d_subA (d_var 2 (pv 2)) d_int)) d_int) (d_var 3 (pv 3))) a_nil)))))))
theorem b_p_change_of {t_FILL : Tok} (c_FILL : mg "FILL" = some (.str "fill" t_FILL)) {t_EMPTY : Tok} (c_EMPTY : mg "EMPTY" = some (.str "empty" t_EMPTY)) {t_RAISE : Tok} (c_RAISE : mg "RAISE" = some (.str "raise" t_RAISE)) : ∀ (cdv : Value) (A : Around) (outer : List Env) (s : Shared) (H : Hp) (E : XK), A.guards = some [] → Room 0 (A.deeper (envOfC "change_of" (defScope s_p_change_of) s.heap.objs.size f cdv)) →
    PSsd (cxOf CX0 P w K mg base ["stair", "deed", "word", "place"] "change_of" (defScope s_p_change_of) f cdv A outer s H E).nox (defBody s_p_change_of) g_p_change_of := by
  intro cdv A outer s H E hgd hr
  unfold g_p_change_of
  exact (s_cons (s_par2 (d_ix (d_var 1 (pv 1)) d_int) (d_ix (d_var 1 (pv 1)) d_int) (fun t h => ps_par (i := 2) (j := 3) rfl sc_p_change_of.nd rfl rfl (by decide) rfl rfl h (by rfl)))
  (s_cons (s_if (d_tstC (op_eq.or (op_eqD hr.units)) (fun _ => Op2.or op2_eqS op2_eq) (d_var 2 (pv 2)) (d_gstr (pe_glob (by rfl) c_FILL ⟨_, rfl⟩)) (nomark _)) (s_one (s_ret (d_tup (a_val (d_var 3 (pv 3)) (a_val (d_neg (d_ix (d_ix (d_var 0 (pv 0)) (d_subA (d_var 3 (pv 3)) d_int)) d_int)) a_nil))))) s_nil)
  (s_cons (s_if (d_tstC (op_eq.or (op_eqD hr.units)) (fun _ => Op2.or op2_eqS op2_eq) (d_var 2 (pv 2)) (d_gstr (pe_glob (by rfl) c_EMPTY ⟨_, rfl⟩)) (nomark _)) (s_one (s_ret (d_tup (a_val (d_subA (d_var 3 (pv 3)) d_int) (a_val (d_ix (d_ix (d_var 0 (pv 0)) (d_subA (d_var 3 (pv 3)) d_int)) d_int) a_nil))))) s_nil)
  (s_cons (s_if (d_tstC (op_eq.or (op_eqD hr.units)) (fun _ => Op2.or op2_eqS op2_eq) (d_var 2 (pv 2)) (d_gstr (pe_glob (by rfl) c_RAISE ⟨_, rfl⟩)) (nomark _)) (s_one (s_ret (d_tup (a_val (d_var 3 (pv 3)) (a_val (d_ix (d_var 1 (pv 1)) d_int) a_nil))))) s_nil)
  (s_one (s_ret (d_tup (a_val (d_var 3 (pv 3)) (a_val (d_neg (d_ix (d_var 1 (pv 1)) d_int)) a_nil)))))))))
theorem b_p_levels_behind (n_list : mg "list" = none) (f_p_change_of : Fo P w K mg base "change_of" ["stair", "deed"] m_p_change_of 1) (f_p_run_over : Fo P w K mg base "run_over" ["stair", "levels"] m_p_run_over 1) : ∀ (cdv : Value) (A : Around) (outer : List Env) (s : Shared) (H : Hp) (E : XK), A.guards = some [] → Room 1 (A.deeper (envOfC "levels_behind" (defScope s_p_levels_behind) s.heap.objs.size f cdv)) →
    PSsd (cxOf CX0 P w K mg base ["stair", "levels", "deed", "pound", "more", "changed"] "levels_behind" (defScope s_p_levels_behind) f cdv A outer s H E).nox (defBody s_p_levels_behind) g_p_levels_behind := by
  intro cdv A outer s H E hgd hr
  unfold g_p_levels_behind
  exact (s_cons (s_asg (Fo.call f_p_change_of hgd hr (by decide) (by rfl) rfl (a_val (d_var 0 (pv 0)) (a_val (d_var 2 (pv 2)) a_nil)) (argV_len (argV_len (fun _ _ _ h => argN_len h)))) (g_tup (PG.or (pg_tup rfl (PGsd.ex (gs_cons (g_name (pg_name (i := 3) sc_p_levels_behind.nd rfl (by first | exact Or.inl rfl | exact Or.inr rfl))) (gs_cons (g_name (pg_name (i := 4) sc_p_levels_behind.nd rfl (by first | exact Or.inl rfl | exact Or.inr rfl))) gs_nil (pgs_cons (PGd.ex (g_name (pg_name (i := 4) sc_p_levels_behind.nd rfl (by first | exact Or.inl rfl | exact Or.inr rfl)))) (PGsd.ex gs_nil))) (pgs_cons (PGd.ex (g_name (pg_name (i := 3) sc_p_levels_behind.nd rfl (by first | exact Or.inl rfl | exact Or.inr rfl)))) (PGsd.ex (gs_cons (g_name (pg_name (i := 4) sc_p_levels_behind.nd rfl (by first | exact Or.inl rfl | exact Or.inr rfl))) gs_nil (pgs_cons (PGd.ex (g_name (pg_name (i := 4) sc_p_levels_behind.nd rfl (by first | exact Or.inl rfl | exact Or.inr rfl)))) (PGsd.ex gs_nil)))))))) (pg_lst rfl (PGsd.ex (gs_cons (g_name (pg_name (i := 3) sc_p_levels_behind.nd rfl (by first | exact Or.inl rfl | exact Or.inr rfl))) (gs_cons (g_name (pg_name (i := 4) sc_p_levels_behind.nd rfl (by first | exact Or.inl rfl | exact Or.inr rfl))) gs_nil (pgs_cons (PGd.ex (g_name (pg_name (i := 4) sc_p_levels_behind.nd rfl (by first | exact Or.inl rfl | exact Or.inr rfl)))) (PGsd.ex gs_nil))) (pgs_cons (PGd.ex (g_name (pg_name (i := 3) sc_p_levels_behind.nd rfl (by first | exact Or.inl rfl | exact Or.inr rfl)))) (PGsd.ex (gs_cons (g_name (pg_name (i := 4) sc_p_levels_behind.nd rfl (by first | exact Or.inl rfl | exact Or.inr rfl))) gs_nil (pgs_cons (PGd.ex (g_name (pg_name (i := 4) sc_p_levels_behind.nd rfl (by first | exact Or.inl rfl | exact Or.inr rfl)))) (PGsd.ex gs_nil)))))))))))
  (s_cons (s_asgO (d_list (by rfl) n_list (d_var 1 (pv 1))) (fun te h => ps_set (i := 5) sc_p_levels_behind.nd rfl (by first | exact Or.inl rfl | exact Or.inr rfl) h))
  (s_cons (s_if (d_tstC op_gt (fun _ => o_gt) (d_var 3 (pv 3)) d_int (nomark _)) (s_one (s_augS (d_var 5 (pv 5)) (d_subA (d_var 3 (pv 3)) d_int) (d_var 4 (pv 4)) ip_add)) s_nil)
  (s_one (s_ret (Fo.call f_p_run_over hgd hr (by decide) (by rfl) rfl (a_val (d_var 0 (pv 0)) (a_val (d_var 5 (pv 5)) a_nil)) (argV_len (argV_len (fun _ _ _ h => argN_len h)))))))))
theorem b_p_run_over (n_list : mg "list" = none) (n_max : mg "max" = none) (n_reversed : mg "reversed" = none) (n_tuple : mg "tuple" = none) (n_zip : mg "zip" = none) : ∀ (cdv : Value) (A : Around) (outer : List Env) (s : Shared) (H : Hp) (E : XK), A.guards = some [] → Room 0 (A.deeper (envOfC "run_over" (defScope s_p_run_over) s.heap.objs.size f cdv)) →
    PSsd (cxOf CX0 P w K mg base ["stair", "levels", "kept", "ran", "poured", "pound", "level", "level_now"] "run_over" (defScope s_p_run_over) f cdv A outer s H E).nox (defBody s_p_run_over) g_p_run_over := by
  intro cdv A outer s H E hgd hr
  unfold g_p_run_over
  exact (s_cons (s_asgO (d_lst a_nil) (fun te h => ps_set (i := 2) sc_p_run_over.nd rfl (by first | exact Or.inl rfl | exact Or.inr rfl) h))
  (s_cons (s_asgO (d_lst a_nil) (fun te h => ps_set (i := 3) sc_p_run_over.nd rfl (by first | exact Or.inl rfl | exact Or.inr rfl) h))
  (s_cons (s_asg d_int (g_name (pg_name (i := 4) sc_p_run_over.nd rfl (by first | exact Or.inl rfl | exact Or.inr rfl))))
  (s_cons (s_for PassesOwn.never rfl (i_rev (by rfl) n_reversed (d_lz rfl (by rfl) n_list (by rfl) n_zip (d_var 0 (pv 0)) (d_var 1 (pv 1)))) (g_tup (PG.or (pg_tup rfl (PGsd.ex (gs_cons (g_name (pg_name (i := 5) sc_p_run_over.nd rfl (by first | exact Or.inl rfl | exact Or.inr rfl))) (gs_cons (g_name (pg_name (i := 6) sc_p_run_over.nd rfl (by first | exact Or.inl rfl | exact Or.inr rfl))) gs_nil (pgs_cons (PGd.ex (g_name (pg_name (i := 6) sc_p_run_over.nd rfl (by first | exact Or.inl rfl | exact Or.inr rfl)))) (PGsd.ex gs_nil))) (pgs_cons (PGd.ex (g_name (pg_name (i := 5) sc_p_run_over.nd rfl (by first | exact Or.inl rfl | exact Or.inr rfl)))) (PGsd.ex (gs_cons (g_name (pg_name (i := 6) sc_p_run_over.nd rfl (by first | exact Or.inl rfl | exact Or.inr rfl))) gs_nil (pgs_cons (PGd.ex (g_name (pg_name (i := 6) sc_p_run_over.nd rfl (by first | exact Or.inl rfl | exact Or.inr rfl)))) (PGsd.ex gs_nil)))))))) (pg_lst rfl (PGsd.ex (gs_cons (g_name (pg_name (i := 5) sc_p_run_over.nd rfl (by first | exact Or.inl rfl | exact Or.inr rfl))) (gs_cons (g_name (pg_name (i := 6) sc_p_run_over.nd rfl (by first | exact Or.inl rfl | exact Or.inr rfl))) gs_nil (pgs_cons (PGd.ex (g_name (pg_name (i := 6) sc_p_run_over.nd rfl (by first | exact Or.inl rfl | exact Or.inr rfl)))) (PGsd.ex gs_nil))) (pgs_cons (PGd.ex (g_name (pg_name (i := 5) sc_p_run_over.nd rfl (by first | exact Or.inl rfl | exact Or.inr rfl)))) (PGsd.ex (gs_cons (g_name (pg_name (i := 6) sc_p_run_over.nd rfl (by first | exact Or.inl rfl | exact Or.inr rfl))) gs_nil (pgs_cons (PGd.ex (g_name (pg_name (i := 6) sc_p_run_over.nd rfl (by first | exact Or.inl rfl | exact Or.inr rfl)))) (PGsd.ex gs_nil)))))))))) (s_cons (s_asg (d_addA (d_var 6 (pv 6)) (d_var 4 (pv 4))) (g_name (pg_name (i := 7) sc_p_run_over.nd rfl (by first | exact Or.inl rfl | exact Or.inr rfl))))
  (s_cons (s_asg (d_max2 rfl (by rfl) n_max d_int (d_subA (d_var 7 (pv 7)) (d_ix (d_var 5 (pv 5)) d_int))) (g_name (pg_name (i := 4) sc_p_run_over.nd rfl (by first | exact Or.inl rfl | exact Or.inr rfl))))
  (s_cons (s_expr (d_mth m_append (d_var 2 (pv 2)) (a_val (d_subA (d_var 7 (pv 7)) (d_var 4 (pv 4))) a_nil) (fun to t h1 h2 => pe_bm PySem.F.plainAttrs_list PySem.F.slot_list_append PySem.F.type_list_append mt_append h1 h2)))
  (s_one (s_expr (d_mth m_append (d_var 3 (pv 3)) (a_val (d_var 4 (pv 4)) a_nil) (fun to t h1 h2 => pe_bm PySem.F.plainAttrs_list PySem.F.slot_list_append PySem.F.type_list_append mt_append h1 h2))))))))
  (s_one (s_ret (d_tup (a_val (d_tuple (by rfl) n_tuple (d_revA (d_var 2 (pv 2)))) (a_val (d_tuple (by rfl) n_tuple (d_revA (d_var 3 (pv 3)))) a_nil)))))))))
theorem b_p_chambers_behind (n_list : mg "list" = none) (n_tuple : mg "tuple" = none) {t_LOW : Tok} (c_LOW : mg "LOW" = some (.str "low" t_LOW)) {t_HIGH : Tok} (c_HIGH : mg "HIGH" = some (.str "high" t_HIGH)) {t_FILL : Tok} (c_FILL : mg "FILL" = some (.str "fill" t_FILL)) {t_EMPTY : Tok} (c_EMPTY : mg "EMPTY" = some (.str "empty" t_EMPTY)) : ∀ (cdv : Value) (A : Around) (outer : List Env) (s : Shared) (H : Hp) (E : XK), A.guards = some [] → Room 0 (A.deeper (envOfC "chambers_behind" (defScope s_p_chambers_behind) s.heap.objs.size f cdv)) →
    PSsd (cxOf CX0 P w K mg base ["chambers", "deed", "turned"] "chambers_behind" (defScope s_p_chambers_behind) f cdv A outer s H E).nox (defBody s_p_chambers_behind) g_p_chambers_behind := by
  intro cdv A outer s H E hgd hr
  unfold g_p_chambers_behind
  exact (s_cons (s_asgO (d_list (by rfl) n_list (d_var 0 (pv 0))) (fun te h => ps_set (i := 2) sc_p_chambers_behind.nd rfl (by first | exact Or.inl rfl | exact Or.inr rfl) h))
  (s_cons (s_if (d_tstC (op_eq.or (op_eqD hr.units)) (fun _ => Op2.or op2_eqS op2_eq) (d_ix (d_var 1 (pv 1)) d_int) (d_gstr (pe_glob (by rfl) c_FILL ⟨_, rfl⟩)) (nomark _)) (s_one (s_asg (d_gstr (pe_glob (by rfl) c_HIGH ⟨_, rfl⟩)) (g_sub (pg_sub (PEd.ex (d_var 2 (pv 2))) (PEd.ex (d_sub (d_subA (d_ix (d_var 1 (pv 1)) d_int) d_int))) set_list)))) s_nil)
  (s_cons (s_if (d_tstC (op_eq.or (op_eqD hr.units)) (fun _ => Op2.or op2_eqS op2_eq) (d_ix (d_var 1 (pv 1)) d_int) (d_gstr (pe_glob (by rfl) c_EMPTY ⟨_, rfl⟩)) (nomark _)) (s_one (s_asg (d_gstr (pe_glob (by rfl) c_LOW ⟨_, rfl⟩)) (g_sub (pg_sub (PEd.ex (d_var 2 (pv 2))) (PEd.ex (d_sub (d_subA (d_ix (d_var 1 (pv 1)) d_int) d_int))) set_list)))) s_nil)
  (s_one (s_ret (d_tuple (by rfl) n_tuple (d_var 2 (pv 2))))))))
theorem b_p_refuse {t_SHUT : Tok} (c_SHUT : mg "SHUT" = some (.str "shut" t_SHUT)) (e_Dry : XCls P w K mg base "Dry") (e_Shut : XCls P w K mg base "Shut") : ∀ (cdv : Value) (A : Around) (outer : List Env) (s : Shared) (H : Hp) (E : XK), A.guards = some [] → Room 2 (A.deeper (envOfC "refuse" (defScope s_p_refuse) s.heap.objs.size f cdv)) →
    PSsx (cxOf (L2.CX P w) P w K mg base ["fault", "word", "place"] "refuse" (defScope s_p_refuse) f cdv A outer s H E) (defBody s_p_refuse) g_p_refuse := by
  intro cdv A outer s H E hgd hr
  unfold g_p_refuse
  exact (x_cons (x_of (s_asg (d_var 0 (pv 0)) (g_tup (PG.or (pg_tup rfl (PGsd.ex (gs_cons (g_name (pg_name (i := 1) sc_p_refuse.nd rfl (by first | exact Or.inl rfl | exact Or.inr rfl))) (gs_cons (g_name (pg_name (i := 2) sc_p_refuse.nd rfl (by first | exact Or.inl rfl | exact Or.inr rfl))) gs_nil (pgs_cons (PGd.ex (g_name (pg_name (i := 2) sc_p_refuse.nd rfl (by first | exact Or.inl rfl | exact Or.inr rfl)))) (PGsd.ex gs_nil))) (pgs_cons (PGd.ex (g_name (pg_name (i := 1) sc_p_refuse.nd rfl (by first | exact Or.inl rfl | exact Or.inr rfl)))) (PGsd.ex (gs_cons (g_name (pg_name (i := 2) sc_p_refuse.nd rfl (by first | exact Or.inl rfl | exact Or.inr rfl))) gs_nil (pgs_cons (PGd.ex (g_name (pg_name (i := 2) sc_p_refuse.nd rfl (by first | exact Or.inl rfl | exact Or.inr rfl)))) (PGsd.ex gs_nil)))))))) (pg_lst rfl (PGsd.ex (gs_cons (g_name (pg_name (i := 1) sc_p_refuse.nd rfl (by first | exact Or.inl rfl | exact Or.inr rfl))) (gs_cons (g_name (pg_name (i := 2) sc_p_refuse.nd rfl (by first | exact Or.inl rfl | exact Or.inr rfl))) gs_nil (pgs_cons (PGd.ex (g_name (pg_name (i := 2) sc_p_refuse.nd rfl (by first | exact Or.inl rfl | exact Or.inr rfl)))) (PGsd.ex gs_nil))) (pgs_cons (PGd.ex (g_name (pg_name (i := 1) sc_p_refuse.nd rfl (by first | exact Or.inl rfl | exact Or.inr rfl)))) (PGsd.ex (gs_cons (g_name (pg_name (i := 2) sc_p_refuse.nd rfl (by first | exact Or.inl rfl | exact Or.inr rfl))) gs_nil (pgs_cons (PGd.ex (g_name (pg_name (i := 2) sc_p_refuse.nd rfl (by first | exact Or.inl rfl | exact Or.inr rfl)))) (PGsd.ex gs_nil))))))))))))
  (x_cons (x_if (d_tstC (op_eq.or (op_eqD hr.units)) (fun _ => Op2.or op2_eqS op2_eq) (d_var 1 (pv 1)) (d_gstr (pe_glob (by rfl) c_SHUT ⟨_, rfl⟩)) (nomark _)) (x_one (XCls.raise e_Shut rfl hr (by decide) (by rfl) (d_var 2 (pv 2)))) (x_ofs s_nil))
  (x_one (XCls.raise e_Dry rfl hr (by decide) (by rfl) (d_var 2 (pv 2))))))
theorem b_l_box (n_abs : mg "abs" = none) (n_int : mg "int" = none) (n_len : mg "len" = none) : ∀ (cdv : Value) (A : Around) (outer : List Env) (s : Shared) (H : Hp) (E : XK), A.guards = some [] → Room 0 (A.deeper (envOfC "_law_box" (defScope s_l_box) s.heap.objs.size f cdv)) →
    PSsd (cxOf CX0 P w K mg base ["_law_script", "_law_k", "_law_cell"] "_law_box" (defScope s_l_box) f cdv A outer s H E).nox (defBody s_l_box) g_l_box := by
  intro cdv A outer s H E hgd hr
  unfold g_l_box
  exact (s_cons (s_asg (d_ife (d_tstC op_lt (fun _ => o_lt) (d_var 1 (pv 1)) (d_len (by rfl) n_len (d_var 0 (pv 0))) (nomark _)) (d_ix (d_var 0 (pv 0)) (d_var 1 (pv 1))) d_int) (g_name (pg_name (i := 2) sc_l_box.nd rfl (by first | exact Or.inl rfl | exact Or.inr rfl))))
  (s_one (s_ret (d_lst (a_val (d_mulA (d_abs (by rfl) n_abs (d_var 2 (pv 2))) (d_toInt (by rfl) n_int (d_cmp op_ge (fun _ => o_ge) (d_abs (by rfl) n_abs (d_var 2 (pv 2))) (d_powA d_int d_int) (nomark _)))) (a_val (d_modA (d_mulA (d_addA (d_addA (d_modA (d_var 2 (pv 2)) d_int) (d_mulA d_int (d_var 1 (pv 1)))) d_int) d_int) d_int) (a_val d_int a_nil)))))))
theorem b_l_take (n_divmod : mg "divmod" = none) {n : Nat} {self : Fsem} (f_l_take : Fo P w K mg base "_law_take" ["_law_box_here", "_law_size"] self (0 + n)) : ∀ (cdv : Value) (A : Around) (outer : List Env) (s : Shared) (H : Hp) (E : XK), A.guards = some [] → Room (0 + n) (A.deeper (envOfC "_law_take" (defScope s_l_take) s.heap.objs.size f cdv)) →
    PSsd (cxOf CX0 P w K mg base ["_law_box_here", "_law_size", "_law_found", "_law_step", "_law_once", "_law_twice"] "_law_take" (defScope s_l_take) f cdv A outer s H E).nox (defBody s_l_take) (g_l_take self) := by
  intro cdv A outer s H E hgd hr
  unfold g_l_take
  exact (s_cons (s_if (d_tstC op_gt (fun _ => o_gt) (d_ix (d_var 0 (pv 0)) d_int) d_int (nomark _)) (s_cons (s_asg (d_divmod (by rfl) n_divmod (d_ix (d_var 0 (pv 0)) d_int) (d_var 1 (pv 1))) (g_tup (PG.or (pg_tup rfl (PGsd.ex (gs_cons (g_sub (pg_sub (PEd.ex (d_var 0 (pv 0))) (PEd.ex (d_sub d_int)) set_list)) (gs_cons (g_name (pg_name (i := 2) sc_l_take.nd rfl (by first | exact Or.inl rfl | exact Or.inr rfl))) gs_nil (pgs_cons (PGd.ex (g_name (pg_name (i := 2) sc_l_take.nd rfl (by first | exact Or.inl rfl | exact Or.inr rfl)))) (PGsd.ex gs_nil))) (pgs_cons (PGd.ex (g_sub (pg_sub (PEd.ex (d_var 0 (pv 0))) (PEd.ex (d_sub d_int)) set_list))) (PGsd.ex (gs_cons (g_name (pg_name (i := 2) sc_l_take.nd rfl (by first | exact Or.inl rfl | exact Or.inr rfl))) gs_nil (pgs_cons (PGd.ex (g_name (pg_name (i := 2) sc_l_take.nd rfl (by first | exact Or.inl rfl | exact Or.inr rfl)))) (PGsd.ex gs_nil)))))))) (pg_lst rfl (PGsd.ex (gs_cons (g_sub (pg_sub (PEd.ex (d_var 0 (pv 0))) (PEd.ex (d_sub d_int)) set_list)) (gs_cons (g_name (pg_name (i := 2) sc_l_take.nd rfl (by first | exact Or.inl rfl | exact Or.inr rfl))) gs_nil (pgs_cons (PGd.ex (g_name (pg_name (i := 2) sc_l_take.nd rfl (by first | exact Or.inl rfl | exact Or.inr rfl)))) (PGsd.ex gs_nil))) (pgs_cons (PGd.ex (g_sub (pg_sub (PEd.ex (d_var 0 (pv 0))) (PEd.ex (d_sub d_int)) set_list))) (PGsd.ex (gs_cons (g_name (pg_name (i := 2) sc_l_take.nd rfl (by first | exact Or.inl rfl | exact Or.inr rfl))) gs_nil (pgs_cons (PGd.ex (g_name (pg_name (i := 2) sc_l_take.nd rfl (by first | exact Or.inl rfl | exact Or.inr rfl)))) (PGsd.ex gs_nil)))))))))))
  (s_one (s_ret (d_var 2 (pv 2))))) s_nil)
  (s_cons (s_if (d_tstC op_gt (fun _ => o_gt) (d_var 1 (pv 1)) (d_powA d_int d_int) (nomark _)) (s_one (s_ret (d_modA (d_addA (Fo.call f_l_take hgd hr (by omega) (by rfl) rfl (a_ref (d_var 0 (pv 0)) (a_val (d_powA d_int d_int) a_nil)) (argR_len (argV_len (fun _ _ _ h => argN_len h)))) (d_mulA (d_powA d_int d_int) (Fo.call f_l_take hgd hr (by omega) (by rfl) rfl (a_ref (d_var 0 (pv 0)) (a_val (d_addA (d_divA (d_subA (d_var 1 (pv 1)) d_int) (d_powA d_int d_int)) d_int) a_nil)) (argR_len (argV_len (fun _ _ _ h => argN_len h)))))) (d_var 1 (pv 1))))) s_nil)
  (s_cons (s_asg (d_addA (d_ix (d_var 0 (pv 0)) d_int) d_int) (g_sub (pg_sub (PEd.ex (d_var 0 (pv 0))) (PEd.ex (d_sub d_int)) set_list)))
  (s_cons (s_asg (d_addA d_int (d_mulA (d_ix (d_var 0 (pv 0)) d_int) (d_ix (d_var 0 (pv 0)) d_int))) (g_name (pg_name (i := 3) sc_l_take.nd rfl (by first | exact Or.inl rfl | exact Or.inr rfl))))
  (s_cons (s_asg (d_modA (d_mulA (d_addA (d_ix (d_var 0 (pv 0)) d_int) (d_mulA d_int (d_ix (d_var 0 (pv 0)) d_int))) (d_var 3 (pv 3))) d_int) (g_name (pg_name (i := 4) sc_l_take.nd rfl (by first | exact Or.inl rfl | exact Or.inr rfl))))
  (s_cons (s_asg (d_modA (d_addA (d_mulA (d_var 4 (pv 4)) (d_addA (d_modA (d_var 4 (pv 4)) d_int) d_int)) (d_ix (d_var 0 (pv 0)) d_int)) d_int) (g_name (pg_name (i := 5) sc_l_take.nd rfl (by first | exact Or.inl rfl | exact Or.inr rfl))))
  (s_one (s_ret (d_modA (d_divA (d_modA (d_mulA (d_var 5 (pv 5)) (d_addA (d_modA (d_var 5 (pv 5)) d_int) d_int)) d_int) d_int) (d_var 1 (pv 1)))))))))))
theorem b_l_folded (n_enumerate : mg "enumerate" = none) (n_list : mg "list" = none) : ∀ (cdv : Value) (A : Around) (outer : List Env) (s : Shared) (H : Hp) (E : XK), A.guards = some [] → Room 0 (A.deeper (envOfC "_law_folded" (defScope s_l_folded) s.heap.objs.size f cdv)) →
    PSsd (cxOf CX0 P w K mg base ["_law_script", "_law_size", "_law_cells_here", "_law_k", "_law_cell"] "_law_folded" (defScope s_l_folded) f cdv A outer s H E).nox (defBody s_l_folded) g_l_folded := by
  intro cdv A outer s H E hgd hr
  unfold g_l_folded
  exact (s_cons (s_asgO (d_list (by rfl) n_list (d_sl (d_var 0 (pv 0)) o_none (o_some (d_var 1 (pv 1))))) (fun te h => ps_set (i := 2) sc_l_folded.nd rfl (by first | exact Or.inl rfl | exact Or.inr rfl) h))
  (s_cons (s_for PassesOwn.never rfl (i_enum (by rfl) n_enumerate (d_sl (d_var 0 (pv 0)) (o_some (d_var 1 (pv 1))) (o_some d_int))) (g_tup (PG.or (pg_tup rfl (PGsd.ex (gs_cons (g_name (pg_name (i := 3) sc_l_folded.nd rfl (by first | exact Or.inl rfl | exact Or.inr rfl))) (gs_cons (g_name (pg_name (i := 4) sc_l_folded.nd rfl (by first | exact Or.inl rfl | exact Or.inr rfl))) gs_nil (pgs_cons (PGd.ex (g_name (pg_name (i := 4) sc_l_folded.nd rfl (by first | exact Or.inl rfl | exact Or.inr rfl)))) (PGsd.ex gs_nil))) (pgs_cons (PGd.ex (g_name (pg_name (i := 3) sc_l_folded.nd rfl (by first | exact Or.inl rfl | exact Or.inr rfl)))) (PGsd.ex (gs_cons (g_name (pg_name (i := 4) sc_l_folded.nd rfl (by first | exact Or.inl rfl | exact Or.inr rfl))) gs_nil (pgs_cons (PGd.ex (g_name (pg_name (i := 4) sc_l_folded.nd rfl (by first | exact Or.inl rfl | exact Or.inr rfl)))) (PGsd.ex gs_nil)))))))) (pg_lst rfl (PGsd.ex (gs_cons (g_name (pg_name (i := 3) sc_l_folded.nd rfl (by first | exact Or.inl rfl | exact Or.inr rfl))) (gs_cons (g_name (pg_name (i := 4) sc_l_folded.nd rfl (by first | exact Or.inl rfl | exact Or.inr rfl))) gs_nil (pgs_cons (PGd.ex (g_name (pg_name (i := 4) sc_l_folded.nd rfl (by first | exact Or.inl rfl | exact Or.inr rfl)))) (PGsd.ex gs_nil))) (pgs_cons (PGd.ex (g_name (pg_name (i := 3) sc_l_folded.nd rfl (by first | exact Or.inl rfl | exact Or.inr rfl)))) (PGsd.ex (gs_cons (g_name (pg_name (i := 4) sc_l_folded.nd rfl (by first | exact Or.inl rfl | exact Or.inr rfl))) gs_nil (pgs_cons (PGd.ex (g_name (pg_name (i := 4) sc_l_folded.nd rfl (by first | exact Or.inl rfl | exact Or.inr rfl)))) (PGsd.ex gs_nil)))))))))) (s_one (s_asg (d_addA (d_ix (d_var 2 (pv 2)) (d_modA (d_var 3 (pv 3)) (d_var 1 (pv 1)))) (d_mulA (d_var 4 (pv 4)) (d_addA (d_var 3 (pv 3)) d_int))) (g_sub (pg_sub (PEd.ex (d_var 2 (pv 2))) (PEd.ex (d_sub (d_modA (d_var 3 (pv 3)) (d_var 1 (pv 1))))) set_list)))))
  (s_one (s_ret (d_var 2 (pv 2))))))
theorem b_l_cells (f_l_folded : Fo P w K mg base "_law_folded" ["_law_script", "_law_size"] m_l_folded 1) : ∀ (cdv : Value) (A : Around) (outer : List Env) (s : Shared) (H : Hp) (E : XK), A.guards = some [] → Room 1 (A.deeper (envOfC "_law_cells" (defScope s_l_cells) s.heap.objs.size f cdv)) →
    PSsd (cxOf CX0 P w K mg base ["_law_script", "_law_size", "_law_cells_here"] "_law_cells" (defScope s_l_cells) f cdv A outer s H E).nox (defBody s_l_cells) g_l_cells := by
  intro cdv A outer s H E hgd hr
  unfold g_l_cells
  exact (s_cons (s_asg (Fo.call f_l_folded hgd hr (by decide) (by rfl) rfl (a_val (d_var 0 (pv 0)) (a_val (d_var 1 (pv 1)) a_nil)) (argV_len (argV_len (fun _ _ _ h => argN_len h)))) (g_name (pg_name (i := 2) sc_l_cells.nd rfl (by first | exact Or.inl rfl | exact Or.inr rfl))))
  (s_one (s_ret (d_ife (d_tstC (op_ne.or (op_neD hr.units)) (fun _ => Op2.or op2_neS op2_ne) (d_var 2 (pv 2)) (d_lst a_nil) (nomark _)) (d_var 2 (pv 2)) (d_lst (a_val d_int a_nil))))))
theorem b_l_of (n_len : mg "len" = none) (f_l_take : Fo P w K mg base "_law_take" ["_law_box_here", "_law_size"] (m_l_take 4) 4) : ∀ (cdv : Value) (A : Around) (outer : List Env) (s : Shared) (H : Hp) (E : XK), A.guards = some [] → Room 4 (A.deeper (envOfC "_law_of" (defScope s_l_of) s.heap.objs.size f cdv)) →
    PSsd (cxOf CX0 P w K mg base ["_law_box_here", "_law_some"] "_law_of" (defScope s_l_of) f cdv A outer s H E).nox (defBody s_l_of) g_l_of := by
  intro cdv A outer s H E hgd hr
  unfold g_l_of
  exact (s_one (s_ret (d_ix (d_var 1 (pv 1)) (Fo.call f_l_take hgd hr (by decide) (by rfl) rfl (a_ref (d_var 0 (pv 0)) (a_val (d_len (by rfl) n_len (d_var 1 (pv 1))) a_nil)) (argR_len (argV_len (fun _ _ _ h => argN_len h)))))))
theorem b_l_same (n_all : mg "all" = none) (n_bool : mg "bool" = none) (n_int : mg "int" = none) (n_isinstance : mg "isinstance" = none) (n_len : mg "len" = none) (n_list : mg "list" = none) (n_str : mg "str" = none) (n_tuple : mg "tuple" = none) (n_zip : mg "zip" = none) {n : Nat} {self : Fsem} (f_l_same : Fo P w K mg base "_law_same" ["_law_found", "_law_due"] self (0 + n)) : ∀ (cdv : Value) (A : Around) (outer : List Env) (s : Shared) (H : Hp) (E : XK), A.guards = some [] → Room (0 + n) (A.deeper (envOfC "_law_same" (defScope s_l_same) s.heap.objs.size f cdv)) →
    PSsd (cxOf CX0 P w K mg base ["_law_found", "_law_due", "_law_one", "_law_other"] "_law_same" (defScope s_l_same) f cdv A outer s H E).nox (defBody s_l_same) (g_l_same self) := by
  intro cdv A outer s H E hgd hr
  unfold g_l_same
  exact (s_cons (s_if (d_tru (d_isiN [.list, .tuple] (by rfl) n_isinstance (d_var 1 (pv 1)) (ty_cons .list (pe_bltn (by rfl) n_list (by decide +kernel) rfl) (ty_cons .tuple (pe_bltn (by rfl) n_tuple (by decide +kernel) rfl) ty_nil)))) (s_cons (s_if (PWd.pt (w_or (d_tstC (op_ne.or (op_neD hr.units)) (fun _ => Op2.or op2_neS op2_ne) (d_isi1 .list (by rfl) n_isinstance (d_var 0 (pv 0)) (pe_bltn (by rfl) n_list (by decide +kernel) rfl)) (d_isi1 .list (by rfl) n_isinstance (d_var 1 (pv 1)) (pe_bltn (by rfl) n_list (by decide +kernel) rfl)) (nomark _)) (w_or1 (d_tstC (op_ne.or (op_neD hr.units)) (fun _ => Op2.or op2_neS op2_ne) (d_isi1 .tuple (by rfl) n_isinstance (d_var 0 (pv 0)) (pe_bltn (by rfl) n_tuple (by decide +kernel) rfl)) (d_isi1 .tuple (by rfl) n_isinstance (d_var 1 (pv 1)) (pe_bltn (by rfl) n_tuple (by decide +kernel) rfl)) (nomark _))))) (s_one (s_ret d_bl)) s_nil)
  (s_one (s_ret (d_and (d_cmp (op_eq.or (op_eqD hr.units)) (fun _ => Op2.or op2_eqS op2_eq) (d_len (by rfl) n_len (d_var 0 (pv 0))) (d_len (by rfl) n_len (d_var 1 (pv 1))) (nomark _)) (d_one (d_all rfl (by rfl) n_all (d_lc (own := [("_law_one", 2), ("_law_other", 3)]) rfl sc_l_same.nd (i_zip (by rfl) n_zip (d_var 0 (pv 0)) (d_var 1 (pv 1))) (blkOk_by (N := ["_law_found", "_law_due", "_law_one", "_law_other"]) (sc := defScope s_l_same) (own := [("_law_one", 2), ("_law_other", 3)]) (by decide +kernel)) (fun _ _ _ _ _ => (g_tup (PG.or (pg_tup rfl (PGsd.ex (gs_cons (g_name (pg_name (i := 2) sc_l_same.nd rfl (by first | exact Or.inl rfl | exact Or.inr rfl))) (gs_cons (g_name (pg_name (i := 3) sc_l_same.nd rfl (by first | exact Or.inl rfl | exact Or.inr rfl))) gs_nil (pgs_cons (PGd.ex (g_name (pg_name (i := 3) sc_l_same.nd rfl (by first | exact Or.inl rfl | exact Or.inr rfl)))) (PGsd.ex gs_nil))) (pgs_cons (PGd.ex (g_name (pg_name (i := 2) sc_l_same.nd rfl (by first | exact Or.inl rfl | exact Or.inr rfl)))) (PGsd.ex (gs_cons (g_name (pg_name (i := 3) sc_l_same.nd rfl (by first | exact Or.inl rfl | exact Or.inr rfl))) gs_nil (pgs_cons (PGd.ex (g_name (pg_name (i := 3) sc_l_same.nd rfl (by first | exact Or.inl rfl | exact Or.inr rfl)))) (PGsd.ex gs_nil)))))))) (pg_lst rfl (PGsd.ex (gs_cons (g_name (pg_name (i := 2) sc_l_same.nd rfl (by first | exact Or.inl rfl | exact Or.inr rfl))) (gs_cons (g_name (pg_name (i := 3) sc_l_same.nd rfl (by first | exact Or.inl rfl | exact Or.inr rfl))) gs_nil (pgs_cons (PGd.ex (g_name (pg_name (i := 3) sc_l_same.nd rfl (by first | exact Or.inl rfl | exact Or.inr rfl)))) (PGsd.ex gs_nil))) (pgs_cons (PGd.ex (g_name (pg_name (i := 2) sc_l_same.nd rfl (by first | exact Or.inl rfl | exact Or.inr rfl)))) (PGsd.ex (gs_cons (g_name (pg_name (i := 3) sc_l_same.nd rfl (by first | exact Or.inl rfl | exact Or.inr rfl))) gs_nil (pgs_cons (PGd.ex (g_name (pg_name (i := 3) sc_l_same.nd rfl (by first | exact Or.inl rfl | exact Or.inr rfl)))) (PGsd.ex gs_nil))))))))))) (fun _ _ _ _ _ => ts_nil) (fun _ _ _ _ _ => (Fo.call f_l_same hgd hr (by omega) (by rfl) rfl (a_val (d_var 2 (pv 2)) (a_val (d_var 3 (pv 3)) a_nil)) (argV_len (argV_len (fun _ _ _ h => argN_len h)))))))))))) s_nil)
  (s_cons (s_if (PWd.pt (w_or (d_tstC op_isN (fun _ => op2_is) (d_var 1 (pv 1)) d_non (nomark _)) (w_or1 (d_tru (d_isi1 .str (by rfl) n_isinstance (d_var 1 (pv 1)) (pe_bltn (by rfl) n_str (by decide +kernel) rfl)))))) (s_one (s_ret (d_and (d_cmp (op_eq.or (op_eqD hr.units)) (fun _ => Op2.or op2_eqS op2_eq) (d_var 0 (pv 0)) (d_var 1 (pv 1)) (nomark _)) (d_one (d_cmp (op_eq.or (op_eqD hr.units)) (fun _ => Op2.or op2_eqS op2_eq) (d_isi1 .str (by rfl) n_isinstance (d_var 0 (pv 0)) (pe_bltn (by rfl) n_str (by decide +kernel) rfl)) (d_isi1 .str (by rfl) n_isinstance (d_var 1 (pv 1)) (pe_bltn (by rfl) n_str (by decide +kernel) rfl)) (nomark _)))))) s_nil)
  (s_one (s_ret (d_and (d_isi1 .int (by rfl) n_isinstance (d_var 0 (pv 0)) (pe_bltn (by rfl) n_int (by decide +kernel) rfl)) (d_and (d_cmp (op_eq.or (op_eqD hr.units)) (fun _ => Op2.or op2_eqS op2_eq) (d_isi1 .bool (by rfl) n_isinstance (d_var 0 (pv 0)) (pe_bltn (by rfl) n_bool (by decide +kernel) rfl)) (d_isi1 .bool (by rfl) n_isinstance (d_var 1 (pv 1)) (pe_bltn (by rfl) n_bool (by decide +kernel) rfl)) (nomark _)) (d_one (d_cmp (op_eq.or (op_eqD hr.units)) (fun _ => Op2.or op2_eqS op2_eq) (d_var 0 (pv 0)) (d_var 1 (pv 1)) (nomark _)))))))))
theorem b_l_refused (f_p_fault_of : Fo P w K mg base "fault_of" ["stair", "stand", "deed"] m_p_fault_of 4) (f_p_done : FoX P w K mg base "done" ["stair", "stand", "deed"] m_p_done 5) (f_l_same : Fo P w K mg base "_law_same" ["_law_found", "_law_due"] (m_l_same 10) 10) (g_Dry : mg "Dry" = some (.ref (nmAt K "Dry"))) (g_Shut : mg "Shut" = some (.ref (nmAt K "Shut"))) (x_l_refused_0 : hmB ["Dry", "Shut"] [.own "Dry", .own "Shut"] K = true) (x_l_refused_1 : xisB ["Dry", "Shut"] K = true) : ∀ (cdv : Value) (A : Around) (outer : List Env) (s : Shared) (H : Hp) (E : XK), A.guards = some [] → Room 10 (A.deeper (envOfC "_law_refused" (defScope s_l_refused) s.heap.objs.size f cdv)) →
    PSsd (cxOf CX0 P w K mg base ["_law_stair", "_law_stand", "_law_deed", "_law_caught", "error"] "_law_refused" (defScope s_l_refused) f cdv A outer s H E).nox (defBody s_l_refused) g_l_refused := by
  intro cdv A outer s H E hgd hr
  unfold g_l_refused
  exact (s_cons (s_asg d_non (g_name (pg_name (i := 3) sc_l_refused.nd rfl (by first | exact Or.inl rfl | exact Or.inr rfl))))
  (s_cons (s_try (cs := (List.map (Cn.u K) ([.own "Dry", .own "Shut"] : List Cn))) (nms := ["Dry", "Shut"]) rfl rfl rfl sc_l_refused.nd (by rfl) (by rfl) (by rfl) (by rfl) (by decide) (fun _ _ _ => ClsT.tup (LdN.cons ⟨by rfl, by decide, Or.inl g_Dry⟩ (LdN.cons ⟨by rfl, by decide, Or.inl g_Shut⟩ LdN.nil (by rfl)) (by rfl)) (cn_lenU K [.own "Dry", .own "Shut"])) (by decide) (by decide) (by rfl) (hmB_ok x_l_refused_0) (fun _ _ _ => (x_one (x_expr (FoX.call f_p_done hgd hr (by decide) (by rfl) rfl (a_val (d_var 0 (pv 0)) (a_val (d_var 1 (pv 1)) (a_val (d_var 2 (pv 2)) a_nil))) (argV_len (argV_len (argV_len (fun _ _ _ h => argN_len h)))))))))
  (s_cons (s_if (PWd.pt (w_or (d_isT (pv 3) pe_non (nomark _)) (w_or1 (d_notT (d_tru (Fo.call f_l_same hgd hr (by decide) (by rfl) rfl (a_val (d_ix (Fo.call f_p_fault_of hgd hr (by decide) (by rfl) rfl (a_val (d_var 0 (pv 0)) (a_val (d_var 1 (pv 1)) (a_val (d_var 2 (pv 2)) a_nil))) (argV_len (argV_len (argV_len (fun _ _ _ h => argN_len h))))) d_int) (a_val (d_whX (pv 3) (xisB_ok x_l_refused_1)) a_nil)) (argV_len (argV_len (fun _ _ _ h => argN_len h))))))))) (s_one (s_ret d_non)) s_nil)
  (s_one (s_ret (Fo.call f_p_fault_of hgd hr (by decide) (by rfl) rfl (a_val (d_var 0 (pv 0)) (a_val (d_var 1 (pv 1)) (a_val (d_var 2 (pv 2)) a_nil))) (argV_len (argV_len (argV_len (fun _ _ _ h => argN_len h))))))))))
theorem b_l_thaw_right (n_range : mg "range" = none) (n_sum : mg "sum" = none) (n_tuple : mg "tuple" = none) (f_p_done : FoX P w K mg base "done" ["stair", "stand", "deed"] m_p_done 5) (f_l_take : Fo P w K mg base "_law_take" ["_law_box_here", "_law_size"] (m_l_take 4) 4) (f_l_same : Fo P w K mg base "_law_same" ["_law_found", "_law_due"] (m_l_same 10) 10) : ∀ (cdv : Value) (A : Around) (outer : List Env) (s : Shared) (H : Hp) (E : XK), A.guards = some [] → Room 10 (A.deeper (envOfC "_law_thaw_right" (defScope s_l_thaw_right) s.heap.objs.size f cdv)) →
    PSsd (cxOf CX0 P w K mg base ["_law_box_here", "_law_many", "_law_much", "_law_stair", "_law_k", "_law_stand", "_law_room", "_law_later", "_law_ran", "_law_left", "_law_pound"] "_law_thaw_right" (defScope s_l_thaw_right) f cdv A outer s H E).nox (defBody s_l_thaw_right) g_l_thaw_right := by
  intro cdv A outer s H E hgd hr
  unfold g_l_thaw_right
  exact (s_cons (s_asg (d_tup (a_val (d_addA d_int (Fo.call f_l_take hgd hr (by decide) (by rfl) rfl (a_ref (d_var 0 (pv 0)) (a_val d_int a_nil)) (argR_len (argV_len (fun _ _ _ h => argN_len h))))) (a_val (Fo.call f_l_take hgd hr (by decide) (by rfl) rfl (a_ref (d_var 0 (pv 0)) (a_val (d_powA d_int d_int) a_nil)) (argR_len (argV_len (fun _ _ _ h => argN_len h)))) a_nil))) (g_tup (PG.or (pg_tup rfl (PGsd.ex (gs_cons (g_name (pg_name (i := 1) sc_l_thaw_right.nd rfl (by first | exact Or.inl rfl | exact Or.inr rfl))) (gs_cons (g_name (pg_name (i := 2) sc_l_thaw_right.nd rfl (by first | exact Or.inl rfl | exact Or.inr rfl))) gs_nil (pgs_cons (PGd.ex (g_name (pg_name (i := 2) sc_l_thaw_right.nd rfl (by first | exact Or.inl rfl | exact Or.inr rfl)))) (PGsd.ex gs_nil))) (pgs_cons (PGd.ex (g_name (pg_name (i := 1) sc_l_thaw_right.nd rfl (by first | exact Or.inl rfl | exact Or.inr rfl)))) (PGsd.ex (gs_cons (g_name (pg_name (i := 2) sc_l_thaw_right.nd rfl (by first | exact Or.inl rfl | exact Or.inr rfl))) gs_nil (pgs_cons (PGd.ex (g_name (pg_name (i := 2) sc_l_thaw_right.nd rfl (by first | exact Or.inl rfl | exact Or.inr rfl)))) (PGsd.ex gs_nil)))))))) (pg_lst rfl (PGsd.ex (gs_cons (g_name (pg_name (i := 1) sc_l_thaw_right.nd rfl (by first | exact Or.inl rfl | exact Or.inr rfl))) (gs_cons (g_name (pg_name (i := 2) sc_l_thaw_right.nd rfl (by first | exact Or.inl rfl | exact Or.inr rfl))) gs_nil (pgs_cons (PGd.ex (g_name (pg_name (i := 2) sc_l_thaw_right.nd rfl (by first | exact Or.inl rfl | exact Or.inr rfl)))) (PGsd.ex gs_nil))) (pgs_cons (PGd.ex (g_name (pg_name (i := 1) sc_l_thaw_right.nd rfl (by first | exact Or.inl rfl | exact Or.inr rfl)))) (PGsd.ex (gs_cons (g_name (pg_name (i := 2) sc_l_thaw_right.nd rfl (by first | exact Or.inl rfl | exact Or.inr rfl))) gs_nil (pgs_cons (PGd.ex (g_name (pg_name (i := 2) sc_l_thaw_right.nd rfl (by first | exact Or.inl rfl | exact Or.inr rfl)))) (PGsd.ex gs_nil)))))))))))
  (s_cons (s_asg (d_tuple (by rfl) n_tuple (d_lc (own := [("_law_k", 4)]) rfl sc_l_thaw_right.nd (i_rng1 (by rfl) n_range (d_var 1 (pv 1))) (blkOk_by (N := ["_law_box_here", "_law_many", "_law_much", "_law_stair", "_law_k", "_law_stand", "_law_room", "_law_later", "_law_ran", "_law_left", "_law_pound"]) (sc := defScope s_l_thaw_right) (own := [("_law_k", 4)]) (by decide +kernel)) (fun _ _ _ _ _ => (g_name (pg_name (i := 4) sc_l_thaw_right.nd rfl (by first | exact Or.inl rfl | exact Or.inr rfl)))) (fun _ _ _ _ _ => ts_nil) (fun _ _ _ _ _ => (d_tup (a_val d_int (a_val (d_mulA d_int (d_addA (d_var 4 (pv 4)) d_int)) (a_val d_int a_nil))))))) (g_name (pg_name (i := 3) sc_l_thaw_right.nd rfl (by first | exact Or.inl rfl | exact Or.inr rfl))))
  (s_cons (s_par2 (d_tup (a_val (d_mulA (d_tup (a_val d_int a_nil)) (d_var 1 (pv 1))) (a_val (d_mulA (d_tup (a_val d_str a_nil)) (d_var 1 (pv 1))) a_nil))) (d_mulA d_int (d_sumR rfl (by rfl) n_sum (by rfl) n_range d_int (d_addA (d_var 1 (pv 1)) d_int))) (fun t h => ps_par (i := 5) (j := 6) rfl sc_l_thaw_right.nd rfl rfl (by decide) rfl rfl h (by rfl)))
  (s_cons (s_asg (Fo.call (FoX.calm f_p_done) hgd hr (by decide) (by rfl) rfl (a_val (d_var 3 (pv 3)) (a_val (d_var 5 (pv 5)) (a_val (d_tup (a_val d_str (a_val (d_var 1 (pv 1)) (a_val (d_addA (d_addA (d_var 6 (pv 6)) d_int) (d_var 2 (pv 2))) a_nil)))) a_nil))) (argV_len (argV_len (argV_len (fun _ _ _ h => argN_len h))))) (g_tup (PG.or (pg_tup rfl (PGsd.ex (gs_cons (g_name (pg_name (i := 7) sc_l_thaw_right.nd rfl (by first | exact Or.inl rfl | exact Or.inr rfl))) (gs_cons (g_name (pg_name (i := 8) sc_l_thaw_right.nd rfl (by first | exact Or.inl rfl | exact Or.inr rfl))) gs_nil (pgs_cons (PGd.ex (g_name (pg_name (i := 8) sc_l_thaw_right.nd rfl (by first | exact Or.inl rfl | exact Or.inr rfl)))) (PGsd.ex gs_nil))) (pgs_cons (PGd.ex (g_name (pg_name (i := 7) sc_l_thaw_right.nd rfl (by first | exact Or.inl rfl | exact Or.inr rfl)))) (PGsd.ex (gs_cons (g_name (pg_name (i := 8) sc_l_thaw_right.nd rfl (by first | exact Or.inl rfl | exact Or.inr rfl))) gs_nil (pgs_cons (PGd.ex (g_name (pg_name (i := 8) sc_l_thaw_right.nd rfl (by first | exact Or.inl rfl | exact Or.inr rfl)))) (PGsd.ex gs_nil)))))))) (pg_lst rfl (PGsd.ex (gs_cons (g_name (pg_name (i := 7) sc_l_thaw_right.nd rfl (by first | exact Or.inl rfl | exact Or.inr rfl))) (gs_cons (g_name (pg_name (i := 8) sc_l_thaw_right.nd rfl (by first | exact Or.inl rfl | exact Or.inr rfl))) gs_nil (pgs_cons (PGd.ex (g_name (pg_name (i := 8) sc_l_thaw_right.nd rfl (by first | exact Or.inl rfl | exact Or.inr rfl)))) (PGsd.ex gs_nil))) (pgs_cons (PGd.ex (g_name (pg_name (i := 7) sc_l_thaw_right.nd rfl (by first | exact Or.inl rfl | exact Or.inr rfl)))) (PGsd.ex (gs_cons (g_name (pg_name (i := 8) sc_l_thaw_right.nd rfl (by first | exact Or.inl rfl | exact Or.inr rfl))) gs_nil (pgs_cons (PGd.ex (g_name (pg_name (i := 8) sc_l_thaw_right.nd rfl (by first | exact Or.inl rfl | exact Or.inr rfl)))) (PGsd.ex gs_nil)))))))))))
  (s_cons (s_asgL (ps_setLc (i := 9) (own := [("_law_k", 4)]) rfl sc_l_thaw_right.nd rfl rfl (sw_true rfl rfl rfl (by decide +kernel)) (PId.ex (i_rng1 (by rfl) n_range (d_var 1 (pv 1)))) (blkOk_by (N := ["_law_box_here", "_law_many", "_law_much", "_law_stair", "_law_k", "_law_stand", "_law_room", "_law_later", "_law_ran", "_law_left", "_law_pound"]) (sc := defScope s_l_thaw_right) (own := [("_law_k", 4)]) (by decide +kernel)) (fun _ _ _ _ _ => PGd.ex (g_name (pg_name (i := 4) sc_l_thaw_right.nd rfl (by first | exact Or.inl rfl | exact Or.inr rfl)))) (fun _ _ _ _ _ => ts_nil) (fun _ _ _ _ _ => PDd.ex (d_esc (d_addA (d_addA (d_mulA d_int (d_sumR rfl (by rfl) n_sum (by rfl) n_range d_int (d_addA (d_var 4 (pv 4)) d_int))) d_int) (d_var 2 (pv 2)))))) (fun F => t_lc F))
  (s_cons (s_if (d_notT (d_tru (Fo.call f_l_same hgd hr (by decide) (by rfl) rfl (a_val (d_tup (a_val (d_ix (d_var 7 (pv 7)) d_int) (a_val (d_var 8 (pv 8)) a_nil))) (a_val (d_tup (a_val (d_tuple (by rfl) n_tuple (d_lc (own := [("_law_pound", 10)]) rfl sc_l_thaw_right.nd (i_seq (d_var 3 (pv 3))) (blkOk_by (N := ["_law_box_here", "_law_many", "_law_much", "_law_stair", "_law_k", "_law_stand", "_law_room", "_law_later", "_law_ran", "_law_left", "_law_pound"]) (sc := defScope s_l_thaw_right) (own := [("_law_pound", 10)]) (by decide +kernel)) (fun _ _ _ _ _ => (g_name (pg_name (i := 10) sc_l_thaw_right.nd rfl (by first | exact Or.inl rfl | exact Or.inr rfl)))) (fun _ _ _ _ _ => ts_nil) (fun _ _ _ _ _ => (d_ix (d_var 10 (pv 10)) d_int)))) (a_val (d_tuple (by rfl) n_tuple (d_var 9 (pv 9))) a_nil))) a_nil)) (argV_len (argV_len (fun _ _ _ h => argN_len h)))))) (s_one (s_ret d_bl)) s_nil)
  (s_cons (s_asg (Fo.call (FoX.calm f_p_done) hgd hr (by decide) (by rfl) rfl (a_val (d_var 3 (pv 3)) (a_val (d_var 5 (pv 5)) (a_val (d_tup (a_val d_str (a_val (d_var 1 (pv 1)) (a_val (d_var 6 (pv 6)) a_nil)))) a_nil))) (argV_len (argV_len (argV_len (fun _ _ _ h => argN_len h))))) (g_tup (PG.or (pg_tup rfl (PGsd.ex (gs_cons (g_name (pg_name (i := 7) sc_l_thaw_right.nd rfl (by first | exact Or.inl rfl | exact Or.inr rfl))) (gs_cons (g_name (pg_name (i := 8) sc_l_thaw_right.nd rfl (by first | exact Or.inl rfl | exact Or.inr rfl))) gs_nil (pgs_cons (PGd.ex (g_name (pg_name (i := 8) sc_l_thaw_right.nd rfl (by first | exact Or.inl rfl | exact Or.inr rfl)))) (PGsd.ex gs_nil))) (pgs_cons (PGd.ex (g_name (pg_name (i := 7) sc_l_thaw_right.nd rfl (by first | exact Or.inl rfl | exact Or.inr rfl)))) (PGsd.ex (gs_cons (g_name (pg_name (i := 8) sc_l_thaw_right.nd rfl (by first | exact Or.inl rfl | exact Or.inr rfl))) gs_nil (pgs_cons (PGd.ex (g_name (pg_name (i := 8) sc_l_thaw_right.nd rfl (by first | exact Or.inl rfl | exact Or.inr rfl)))) (PGsd.ex gs_nil)))))))) (pg_lst rfl (PGsd.ex (gs_cons (g_name (pg_name (i := 7) sc_l_thaw_right.nd rfl (by first | exact Or.inl rfl | exact Or.inr rfl))) (gs_cons (g_name (pg_name (i := 8) sc_l_thaw_right.nd rfl (by first | exact Or.inl rfl | exact Or.inr rfl))) gs_nil (pgs_cons (PGd.ex (g_name (pg_name (i := 8) sc_l_thaw_right.nd rfl (by first | exact Or.inl rfl | exact Or.inr rfl)))) (PGsd.ex gs_nil))) (pgs_cons (PGd.ex (g_name (pg_name (i := 7) sc_l_thaw_right.nd rfl (by first | exact Or.inl rfl | exact Or.inr rfl)))) (PGsd.ex (gs_cons (g_name (pg_name (i := 8) sc_l_thaw_right.nd rfl (by first | exact Or.inl rfl | exact Or.inr rfl))) gs_nil (pgs_cons (PGd.ex (g_name (pg_name (i := 8) sc_l_thaw_right.nd rfl (by first | exact Or.inl rfl | exact Or.inr rfl)))) (PGsd.ex gs_nil)))))))))))
  (s_one (s_ret (d_and (d_cmp (op_eq.or (op_eqD hr.units)) (fun _ => Op2.or op2_eqS op2_eq) (d_ix (d_var 7 (pv 7)) d_int) (d_tuple (by rfl) n_tuple (d_lc (own := [("_law_pound", 10)]) rfl sc_l_thaw_right.nd (i_seq (d_var 3 (pv 3))) (blkOk_by (N := ["_law_box_here", "_law_many", "_law_much", "_law_stair", "_law_k", "_law_stand", "_law_room", "_law_later", "_law_ran", "_law_left", "_law_pound"]) (sc := defScope s_l_thaw_right) (own := [("_law_pound", 10)]) (by decide +kernel)) (fun _ _ _ _ _ => (g_name (pg_name (i := 10) sc_l_thaw_right.nd rfl (by first | exact Or.inl rfl | exact Or.inr rfl)))) (fun _ _ _ _ _ => ts_nil) (fun _ _ _ _ _ => (d_ix (d_var 10 (pv 10)) d_int)))) (nomark _)) (d_and (d_cmp (op_eq.or (op_eqD hr.units)) (fun _ => Op2.or op2_eqS op2_eq) (d_ix (d_var 8 (pv 8)) d_int) d_int (nomark _)) (d_one (d_cmp (op_eq.or (op_eqD hr.units)) (fun _ => Op2.or op2_eqS op2_eq) (d_ix (d_var 8 (pv 8)) (d_subA (d_var 1 (pv 1)) d_int)) (d_subA (d_var 6 (pv 6)) (d_mulA d_int (d_var 1 (pv 1)))) (nomark _))))))))))))))
theorem b_l_bounds_right (f_p_fault_of : Fo P w K mg base "fault_of" ["stair", "stand", "deed"] m_p_fault_of 4) (f_p_done : FoX P w K mg base "done" ["stair", "stand", "deed"] m_p_done 5) (f_l_take : Fo P w K mg base "_law_take" ["_law_box_here", "_law_size"] (m_l_take 4) 4) (f_l_same : Fo P w K mg base "_law_same" ["_law_found", "_law_due"] (m_l_same 10) 10) (f_l_refused : Fo P w K mg base "_law_refused" ["_law_stair", "_law_stand", "_law_deed"] m_l_refused 11) : ∀ (cdv : Value) (A : Around) (outer : List Env) (s : Shared) (H : Hp) (E : XK), A.guards = some [] → Room 11 (A.deeper (envOfC "_law_bounds_right" (defScope s_l_bounds_right) s.heap.objs.size f cdv)) →
    PSsd (cxOf CX0 P w K mg base ["_law_box_here", "_law_size", "_law_least", "_law_stair", "_law_stand", "_law_faults", "_law_deed", "_law_filled", "_law_ran", "_law_refused_here", "_law_high", "_law_emptied_low"] "_law_bounds_right" (defScope s_l_bounds_right) f cdv A outer s H E).nox (defBody s_l_bounds_right) g_l_bounds_right := by
  intro cdv A outer s H E hgd hr
  unfold g_l_bounds_right
  exact (s_cons (s_par2 (d_addA d_int (Fo.call f_l_take hgd hr (by decide) (by rfl) rfl (a_ref (d_var 0 (pv 0)) (a_val (d_powA d_int d_int) a_nil)) (argR_len (argV_len (fun _ _ _ h => argN_len h))))) (Fo.call f_l_take hgd hr (by decide) (by rfl) rfl (a_ref (d_var 0 (pv 0)) (a_val (d_powA d_int d_int) a_nil)) (argR_len (argV_len (fun _ _ _ h => argN_len h)))) (fun t h => ps_par (i := 1) (j := 2) rfl sc_l_bounds_right.nd rfl rfl (by decide) rfl rfl h (by rfl)))
  (s_cons (s_asg (d_tup (a_val (d_tup (a_val (d_var 2 (pv 2)) (a_val (d_var 2 (pv 2)) (a_val (d_var 1 (pv 1)) a_nil)))) (a_val (d_tup (a_val (d_var 2 (pv 2)) (a_val (d_addA (d_var 2 (pv 2)) (d_var 1 (pv 1))) (a_val (d_var 1 (pv 1)) a_nil)))) a_nil))) (g_name (pg_name (i := 3) sc_l_bounds_right.nd rfl (by first | exact Or.inl rfl | exact Or.inr rfl))))
  (s_cons (s_asg (d_tup (a_val (d_tup (a_val (d_var 2 (pv 2)) (a_val (d_addA (d_var 2 (pv 2)) (d_var 1 (pv 1))) a_nil))) (a_val (d_tup (a_val d_str (a_val d_str a_nil))) a_nil))) (g_name (pg_name (i := 4) sc_l_bounds_right.nd rfl (by first | exact Or.inl rfl | exact Or.inr rfl))))
  (s_cons (s_asgL (ps_setLc (i := 5) (own := [("_law_deed", 6)]) rfl sc_l_bounds_right.nd rfl rfl (sw_true rfl rfl rfl (by decide +kernel)) (PId.ex (i_seq (d_tup (a_val (d_tup (a_val d_str (a_val d_int a_nil))) (a_val (d_tup (a_val d_str (a_val d_int a_nil))) (a_val (d_tup (a_val d_str (a_val d_int a_nil))) a_nil)))))) (blkOk_by (N := ["_law_box_here", "_law_size", "_law_least", "_law_stair", "_law_stand", "_law_faults", "_law_deed", "_law_filled", "_law_ran", "_law_refused_here", "_law_high", "_law_emptied_low"]) (sc := defScope s_l_bounds_right) (own := [("_law_deed", 6)]) (by decide +kernel)) (fun _ _ _ _ _ => PGd.ex (g_name (pg_name (i := 6) sc_l_bounds_right.nd rfl (by first | exact Or.inl rfl | exact Or.inr rfl)))) (fun _ _ _ _ _ => ts_nil) (fun _ _ _ _ _ => PDd.ex (d_esc (Fo.call f_p_fault_of hgd hr (by decide) (by rfl) rfl (a_val (d_var 3 (pv 3)) (a_val (d_var 4 (pv 4)) (a_val (d_var 6 (pv 6)) a_nil))) (argV_len (argV_len (argV_len (fun _ _ _ h => argN_len h)))))))) (fun F => t_lc F))
  (s_cons (s_if (d_notT (d_tru (Fo.call f_l_same hgd hr (by decide) (by rfl) rfl (a_val (d_var 5 (pv 5)) (a_val (d_lst (a_val (d_tup (a_val d_str (a_val d_int a_nil))) (a_val d_non (a_val (d_tup (a_val d_str (a_val d_int a_nil))) a_nil)))) a_nil)) (argV_len (argV_len (fun _ _ _ h => argN_len h)))))) (s_one (s_ret d_bl)) s_nil)
  (s_cons (s_asg (Fo.call (FoX.calm f_p_done) hgd hr (by decide) (by rfl) rfl (a_val (d_var 3 (pv 3)) (a_val (d_var 4 (pv 4)) (a_val (d_tup (a_val d_str (a_val d_int a_nil))) a_nil))) (argV_len (argV_len (argV_len (fun _ _ _ h => argN_len h))))) (g_tup (PG.or (pg_tup rfl (PGsd.ex (gs_cons (g_name (pg_name (i := 7) sc_l_bounds_right.nd rfl (by first | exact Or.inl rfl | exact Or.inr rfl))) (gs_cons (g_name (pg_name (i := 8) sc_l_bounds_right.nd rfl (by first | exact Or.inl rfl | exact Or.inr rfl))) gs_nil (pgs_cons (PGd.ex (g_name (pg_name (i := 8) sc_l_bounds_right.nd rfl (by first | exact Or.inl rfl | exact Or.inr rfl)))) (PGsd.ex gs_nil))) (pgs_cons (PGd.ex (g_name (pg_name (i := 7) sc_l_bounds_right.nd rfl (by first | exact Or.inl rfl | exact Or.inr rfl)))) (PGsd.ex (gs_cons (g_name (pg_name (i := 8) sc_l_bounds_right.nd rfl (by first | exact Or.inl rfl | exact Or.inr rfl))) gs_nil (pgs_cons (PGd.ex (g_name (pg_name (i := 8) sc_l_bounds_right.nd rfl (by first | exact Or.inl rfl | exact Or.inr rfl)))) (PGsd.ex gs_nil)))))))) (pg_lst rfl (PGsd.ex (gs_cons (g_name (pg_name (i := 7) sc_l_bounds_right.nd rfl (by first | exact Or.inl rfl | exact Or.inr rfl))) (gs_cons (g_name (pg_name (i := 8) sc_l_bounds_right.nd rfl (by first | exact Or.inl rfl | exact Or.inr rfl))) gs_nil (pgs_cons (PGd.ex (g_name (pg_name (i := 8) sc_l_bounds_right.nd rfl (by first | exact Or.inl rfl | exact Or.inr rfl)))) (PGsd.ex gs_nil))) (pgs_cons (PGd.ex (g_name (pg_name (i := 7) sc_l_bounds_right.nd rfl (by first | exact Or.inl rfl | exact Or.inr rfl)))) (PGsd.ex (gs_cons (g_name (pg_name (i := 8) sc_l_bounds_right.nd rfl (by first | exact Or.inl rfl | exact Or.inr rfl))) gs_nil (pgs_cons (PGd.ex (g_name (pg_name (i := 8) sc_l_bounds_right.nd rfl (by first | exact Or.inl rfl | exact Or.inr rfl)))) (PGsd.ex gs_nil)))))))))))
  (s_cons (s_if (d_notT (d_tru (Fo.call f_l_same hgd hr (by decide) (by rfl) rfl (a_val (d_tup (a_val (d_var 7 (pv 7)) (a_val (d_var 8 (pv 8)) a_nil))) (a_val (d_tup (a_val (d_tup (a_val (d_tup (a_val (d_var 2 (pv 2)) (a_val (d_var 2 (pv 2)) a_nil))) (a_val (d_tup (a_val d_str (a_val d_str a_nil))) a_nil))) (a_val (d_tup (a_val d_int (a_val d_int a_nil))) a_nil))) a_nil)) (argV_len (argV_len (fun _ _ _ h => argN_len h)))))) (s_one (s_ret d_bl)) s_nil)
  (s_cons (s_asgL (ps_setLc (i := 9) (own := [("_law_deed", 6)]) rfl sc_l_bounds_right.nd rfl rfl (sw_true rfl rfl rfl (by decide +kernel)) (PId.ex (i_seq (d_tup (a_val (d_tup (a_val d_str (a_val d_int a_nil))) (a_val (d_tup (a_val d_str (a_val d_int (a_val d_int a_nil)))) (a_val (d_tup (a_val d_str (a_val d_int (a_val d_int a_nil)))) a_nil)))))) (blkOk_by (N := ["_law_box_here", "_law_size", "_law_least", "_law_stair", "_law_stand", "_law_faults", "_law_deed", "_law_filled", "_law_ran", "_law_refused_here", "_law_high", "_law_emptied_low"]) (sc := defScope s_l_bounds_right) (own := [("_law_deed", 6)]) (by decide +kernel)) (fun _ _ _ _ _ => PGd.ex (g_name (pg_name (i := 6) sc_l_bounds_right.nd rfl (by first | exact Or.inl rfl | exact Or.inr rfl)))) (fun _ _ _ _ _ => ts_nil) (fun _ _ _ _ _ => PDd.ex (d_esc (Fo.call f_l_refused hgd hr (by decide) (by rfl) rfl (a_val (d_var 3 (pv 3)) (a_val (d_var 7 (pv 7)) (a_val (d_var 6 (pv 6)) a_nil))) (argV_len (argV_len (argV_len (fun _ _ _ h => argN_len h)))))))) (fun F => t_lc F))
  (s_cons (s_if (d_notT (d_tru (Fo.call f_l_same hgd hr (by decide) (by rfl) rfl (a_val (d_var 9 (pv 9)) (a_val (d_lst (a_val (d_tup (a_val d_str (a_val d_int a_nil))) (a_val (d_tup (a_val d_str (a_val d_int a_nil))) (a_val (d_tup (a_val d_str (a_val d_int a_nil))) a_nil)))) a_nil)) (argV_len (argV_len (fun _ _ _ h => argN_len h)))))) (s_one (s_ret d_bl)) s_nil)
  (s_cons (s_if (d_notT (d_tru (Fo.call f_l_same hgd hr (by decide) (by rfl) rfl (a_val (Fo.call (FoX.calm f_p_done) hgd hr (by decide) (by rfl) rfl (a_val (d_var 3 (pv 3)) (a_val (d_var 7 (pv 7)) (a_val (d_tup (a_val d_str (a_val d_int a_nil))) a_nil))) (argV_len (argV_len (argV_len (fun _ _ _ h => argN_len h))))) (a_val (d_tup (a_val (d_tup (a_val (d_tup (a_val (d_var 2 (pv 2)) (a_val (d_var 2 (pv 2)) a_nil))) (a_val (d_tup (a_val d_str (a_val d_str a_nil))) a_nil))) (a_val (d_tup (a_val (d_var 1 (pv 1)) (a_val d_int a_nil))) a_nil))) a_nil)) (argV_len (argV_len (fun _ _ _ h => argN_len h)))))) (s_one (s_ret d_bl)) s_nil)
  (s_cons (s_asg (d_tup (a_val (d_ix (d_var 7 (pv 7)) d_int) (a_val (d_tup (a_val d_str (a_val d_str a_nil))) a_nil))) (g_name (pg_name (i := 10) sc_l_bounds_right.nd rfl (by first | exact Or.inl rfl | exact Or.inr rfl))))
  (s_cons (s_asg (Fo.call (FoX.calm f_p_done) hgd hr (by decide) (by rfl) rfl (a_val (d_var 3 (pv 3)) (a_val (d_var 10 (pv 10)) (a_val (d_tup (a_val d_str (a_val d_int a_nil))) a_nil))) (argV_len (argV_len (argV_len (fun _ _ _ h => argN_len h))))) (g_name (pg_name (i := 11) sc_l_bounds_right.nd rfl (by first | exact Or.inl rfl | exact Or.inr rfl))))
  (s_one (s_ret (Fo.call f_l_same hgd hr (by decide) (by rfl) rfl (a_val (d_var 11 (pv 11)) (a_val (d_tup (a_val (d_tup (a_val (d_tup (a_val (d_var 2 (pv 2)) (a_val (d_var 2 (pv 2)) a_nil))) (a_val (d_tup (a_val d_str (a_val d_str a_nil))) a_nil))) (a_val (d_tup (a_val d_int (a_val d_int a_nil))) a_nil))) a_nil)) (argV_len (argV_len (fun _ _ _ h => argN_len h))))))))))))))))))
theorem b_l_lift_right (f_p_gone : FoX P w K mg base "gone" ["stair", "stand", "deeds"] m_p_gone 6) (f_l_take : Fo P w K mg base "_law_take" ["_law_box_here", "_law_size"] (m_l_take 4) 4) (f_l_same : Fo P w K mg base "_law_same" ["_law_found", "_law_due"] (m_l_same 10) 10) : ∀ (cdv : Value) (A : Around) (outer : List Env) (s : Shared) (H : Hp) (E : XK), A.guards = some [] → Room 10 (A.deeper (envOfC "_law_lift_right" (defScope s_l_lift_right) s.heap.objs.size f cdv)) →
    PSsd (cxOf CX0 P w K mg base ["_law_box_here", "_law_size", "_law_goods", "_law_stair", "_law_stand", "_law_lot", "_law_later", "_law_ran", "_law_due"] "_law_lift_right" (defScope s_l_lift_right) f cdv A outer s H E).nox (defBody s_l_lift_right) g_l_lift_right := by
  intro cdv A outer s H E hgd hr
  unfold g_l_lift_right
  exact (s_cons (s_par2 (d_addA d_int (Fo.call f_l_take hgd hr (by decide) (by rfl) rfl (a_ref (d_var 0 (pv 0)) (a_val d_int a_nil)) (argR_len (argV_len (fun _ _ _ h => argN_len h))))) (d_addA d_int (Fo.call f_l_take hgd hr (by decide) (by rfl) rfl (a_ref (d_var 0 (pv 0)) (a_val d_int a_nil)) (argR_len (argV_len (fun _ _ _ h => argN_len h))))) (fun t h => ps_par (i := 1) (j := 2) rfl sc_l_lift_right.nd rfl rfl (by decide) rfl rfl h (by rfl)))
  (s_cons (s_asg (d_tup (a_val (d_tup (a_val d_int (a_val (d_powA d_int d_int) (a_val d_int a_nil)))) (a_val (d_tup (a_val d_int (a_val (d_powA d_int d_int) (a_val (d_var 1 (pv 1)) a_nil)))) a_nil))) (g_name (pg_name (i := 3) sc_l_lift_right.nd rfl (by first | exact Or.inl rfl | exact Or.inr rfl))))
  (s_cons (s_asg (d_tup (a_val (d_tup (a_val (d_powA d_int d_int) (a_val (d_powA d_int d_int) a_nil))) (a_val (d_tup (a_val d_str (a_val d_str a_nil))) a_nil))) (g_name (pg_name (i := 4) sc_l_lift_right.nd rfl (by first | exact Or.inl rfl | exact Or.inr rfl))))
  (s_cons (s_asg (d_lst (a_val (d_tup (a_val d_str (a_val d_int (a_val (d_var 2 (pv 2)) a_nil)))) (a_val (d_tup (a_val d_str (a_val d_int a_nil))) (a_val (d_tup (a_val d_str (a_val d_int (a_val (d_var 2 (pv 2)) a_nil)))) (a_val (d_tup (a_val d_str (a_val d_int a_nil))) a_nil))))) (g_name (pg_name (i := 5) sc_l_lift_right.nd rfl (by first | exact Or.inl rfl | exact Or.inr rfl))))
  (s_cons (s_asg (Fo.call (FoX.calm f_p_gone) hgd hr (by decide) (by rfl) rfl (a_val (d_var 3 (pv 3)) (a_val (d_var 4 (pv 4)) (a_val (d_var 5 (pv 5)) a_nil))) (argV_len (argV_len (argV_len (fun _ _ _ h => argN_len h))))) (g_tup (PG.or (pg_tup rfl (PGsd.ex (gs_cons (g_name (pg_name (i := 6) sc_l_lift_right.nd rfl (by first | exact Or.inl rfl | exact Or.inr rfl))) (gs_cons (g_name (pg_name (i := 7) sc_l_lift_right.nd rfl (by first | exact Or.inl rfl | exact Or.inr rfl))) gs_nil (pgs_cons (PGd.ex (g_name (pg_name (i := 7) sc_l_lift_right.nd rfl (by first | exact Or.inl rfl | exact Or.inr rfl)))) (PGsd.ex gs_nil))) (pgs_cons (PGd.ex (g_name (pg_name (i := 6) sc_l_lift_right.nd rfl (by first | exact Or.inl rfl | exact Or.inr rfl)))) (PGsd.ex (gs_cons (g_name (pg_name (i := 7) sc_l_lift_right.nd rfl (by first | exact Or.inl rfl | exact Or.inr rfl))) gs_nil (pgs_cons (PGd.ex (g_name (pg_name (i := 7) sc_l_lift_right.nd rfl (by first | exact Or.inl rfl | exact Or.inr rfl)))) (PGsd.ex gs_nil)))))))) (pg_lst rfl (PGsd.ex (gs_cons (g_name (pg_name (i := 6) sc_l_lift_right.nd rfl (by first | exact Or.inl rfl | exact Or.inr rfl))) (gs_cons (g_name (pg_name (i := 7) sc_l_lift_right.nd rfl (by first | exact Or.inl rfl | exact Or.inr rfl))) gs_nil (pgs_cons (PGd.ex (g_name (pg_name (i := 7) sc_l_lift_right.nd rfl (by first | exact Or.inl rfl | exact Or.inr rfl)))) (PGsd.ex gs_nil))) (pgs_cons (PGd.ex (g_name (pg_name (i := 6) sc_l_lift_right.nd rfl (by first | exact Or.inl rfl | exact Or.inr rfl)))) (PGsd.ex (gs_cons (g_name (pg_name (i := 7) sc_l_lift_right.nd rfl (by first | exact Or.inl rfl | exact Or.inr rfl))) gs_nil (pgs_cons (PGd.ex (g_name (pg_name (i := 7) sc_l_lift_right.nd rfl (by first | exact Or.inl rfl | exact Or.inr rfl)))) (PGsd.ex gs_nil)))))))))))
  (s_cons (s_asg (d_tup (a_val (d_subA (d_addA (d_powA d_int d_int) (d_var 1 (pv 1))) (d_var 2 (pv 2))) (a_val (d_subA (d_addA (d_powA d_int d_int) (d_var 2 (pv 2))) (d_var 1 (pv 1))) a_nil))) (g_name (pg_name (i := 8) sc_l_lift_right.nd rfl (by first | exact Or.inl rfl | exact Or.inr rfl))))
  (s_one (s_ret (Fo.call f_l_same hgd hr (by decide) (by rfl) rfl (a_val (d_tup (a_val (d_var 6 (pv 6)) (a_val (d_var 7 (pv 7)) a_nil))) (a_val (d_tup (a_val (d_tup (a_val (d_var 8 (pv 8)) (a_val (d_tup (a_val d_str (a_val d_str a_nil))) a_nil))) (a_val (d_tup (a_val d_int (a_val d_int a_nil))) a_nil))) a_nil)) (argV_len (argV_len (fun _ _ _ h => argN_len h))))))))))))
theorem b_p_law (n_all : mg "all" = none) (n_len : mg "len" = none) (n_range : mg "range" = none) (f_l_box : Fo P w K mg base "_law_box" ["_law_script", "_law_k"] m_l_box 1) (f_l_cells : Fo P w K mg base "_law_cells" ["_law_script", "_law_size"] m_l_cells 2) (f_l_thaw_right : Fo P w K mg base "_law_thaw_right" ["_law_box_here"] m_l_thaw_right 11) (f_l_bounds_right : Fo P w K mg base "_law_bounds_right" ["_law_box_here"] m_l_bounds_right 12) (f_l_lift_right : Fo P w K mg base "_law_lift_right" ["_law_box_here"] m_l_lift_right 11) : ∀ (cdv : Value) (A : Around) (outer : List Env) (s : Shared) (H : Hp) (E : XK), A.guards = some [] → Room 12 (A.deeper (envOfC "law" (defScope s_p_law) s.heap.objs.size f cdv)) →
    PSsd (cxOf CX0 P w K mg base ["_law_script", "_law_cells_here", "_law_boxes", "_law_k", "_law_box_here"] "law" (defScope s_p_law) f cdv A outer s H E).nox (defBody s_p_law) g_p_law := by
  intro cdv A outer s H E hgd hr
  unfold g_p_law
  exact (s_cons (s_asg (Fo.call f_l_cells hgd hr (by decide) (by rfl) rfl (a_val (d_var 0 (pv 0)) (a_val d_int a_nil)) (argV_len (argV_len (fun _ _ _ h => argN_len h)))) (g_name (pg_name (i := 1) sc_p_law.nd rfl (by first | exact Or.inl rfl | exact Or.inr rfl))))
  (fun F => PSs.mono (pss_cons (ps_setLc (i := 2) (own := [("_law_k", 3)]) rfl sc_p_law.nd rfl rfl (sw_true rfl rfl rfl (by decide +kernel)) (PId.ex (i_rng1 (by rfl) n_range (d_len (by rfl) n_len (d_var 1 (pv 1))))) (blkOk_by (N := ["_law_script", "_law_cells_here", "_law_boxes", "_law_k", "_law_box_here"]) (sc := defScope s_p_law) (own := [("_law_k", 3)]) (by decide +kernel)) (fun _ _ _ _ _ => PGd.ex (g_name (pg_name (i := 3) sc_p_law.nd rfl (by first | exact Or.inl rfl | exact Or.inr rfl)))) (fun _ _ _ _ _ => ts_nil) (fun _ _ _ _ _ => PEd.ex (Fo.call f_l_box hgd hr (by decide) (by rfl) rfl (a_val (d_var 1 (pv 1)) (a_val (d_var 3 (pv 3)) a_nil)) (argV_len (argV_len (fun _ _ _ h => argN_len h)))))) (pss_one (ps_ret (pe_callB (cr_all rfl) (by rfl) n_all (by decide +kernel) (pa_cons (pe_lc (own := [("_law_box_here", 4)]) rfl sc_p_law.nd (pi_list (pv 2)) (blkOk_by (N := ["_law_script", "_law_cells_here", "_law_boxes", "_law_k", "_law_box_here"]) (sc := defScope s_p_law) (own := [("_law_box_here", 4)]) (by decide +kernel)) (fun _ _ _ _ _ => pg_name (i := 4) sc_p_law.nd rfl (by first | exact Or.inl rfl | exact Or.inr rfl)) (fun _ _ _ _ _ => ts_nil) (fun _ _ _ _ _ => PDd.ex (d_esc (d_and (Fo.call f_l_thaw_right hgd hr (by decide) (by rfl) rfl (a_ref (d_var 4 (pv 4)) a_nil) (argR_len (fun _ _ _ h => argN_len h))) (d_and (Fo.call f_l_bounds_right hgd hr (by decide) (by rfl) rfl (a_ref (d_var 4 (pv 4)) a_nil) (argR_len (fun _ _ _ h => argN_len h))) (d_one (Fo.call f_l_lift_right hgd hr (by decide) (by rfl) rfl (a_ref (d_var 4 (pv 4)) a_nil) (argR_len (fun _ _ _ h => argN_len h))))))))) pa_nil))))) fun D σ H hq => t_box hq))
end
end K08
namespace K08
open PySem PySem.Spec PyProof.Rows L2 Lw
open K08h
set_option maxHeartbeats 0 in
theorem facts {P : Program} {w : World} {K : PySem.W.Frag} {h : Heap} {mg : Str → Option Value} {f : Addr} (X : K.In h) (G : h.Ns mainGlobals mg) (hfa : mg ("law" : Str) = some (.ref f)) (c0 : Lw.SaysX fa fn xs K) :
    ∃ fd : FuncData, (∀ (s : Shared) (v : Value), BindsTo s fd ⟨[v], []⟩ [("_law_script", v)]) ∧ ∀ base : Heap, K.In base → base.Ns mainGlobals mg → FnG P w K mg base CX0 13 f fd ["_law_script"] (spF K 1 m_p_law) := by
  have c := c0.base
  obtain ⟨fd_p_fault_of, F_p_fault_of⟩ := c.def_ 0 (d := dd_p_fault_of) rfl
  obtain ⟨fd_p_done, F_p_done⟩ := c.def_ 1 (d := dd_p_done) rfl
  obtain ⟨fd_p_gone, F_p_gone⟩ := c.def_ 2 (d := dd_p_gone) rfl
  obtain ⟨fd_p_is_shut, F_p_is_shut⟩ := c.def_ 3 (d := dd_p_is_shut) rfl
  obtain ⟨fd_p_is_dry, F_p_is_dry⟩ := c.def_ 4 (d := dd_p_is_dry) rfl
  obtain ⟨fd_p_asked_by, F_p_asked_by⟩ := c.def_ 5 (d := dd_p_asked_by) rfl
  obtain ⟨fd_p_change_of, F_p_change_of⟩ := c.def_ 6 (d := dd_p_change_of) rfl
  obtain ⟨fd_p_levels_behind, F_p_levels_behind⟩ := c.def_ 7 (d := dd_p_levels_behind) rfl
  obtain ⟨fd_p_run_over, F_p_run_over⟩ := c.def_ 8 (d := dd_p_run_over) rfl
  obtain ⟨fd_p_chambers_behind, F_p_chambers_behind⟩ := c.def_ 9 (d := dd_p_chambers_behind) rfl
  obtain ⟨fd_p_refuse, F_p_refuse⟩ := c.def_ 10 (d := dd_p_refuse) rfl
  obtain ⟨fd_l_box, F_l_box⟩ := c.def_ 11 (d := dd_l_box) rfl
  obtain ⟨fd_l_take, F_l_take⟩ := c.def_ 12 (d := dd_l_take) rfl
  obtain ⟨fd_l_folded, F_l_folded⟩ := c.def_ 13 (d := dd_l_folded) rfl
  obtain ⟨fd_l_cells, F_l_cells⟩ := c.def_ 14 (d := dd_l_cells) rfl
  obtain ⟨fd_l_of, F_l_of⟩ := c.def_ 15 (d := dd_l_of) rfl
  obtain ⟨fd_l_same, F_l_same⟩ := c.def_ 16 (d := dd_l_same) rfl
  obtain ⟨fd_l_refused, F_l_refused⟩ := c.def_ 17 (d := dd_l_refused) rfl
  obtain ⟨fd_l_thaw_right, F_l_thaw_right⟩ := c.def_ 18 (d := dd_l_thaw_right) rfl
  obtain ⟨fd_l_bounds_right, F_l_bounds_right⟩ := c.def_ 19 (d := dd_l_bounds_right) rfl
  obtain ⟨fd_l_lift_right, F_l_lift_right⟩ := c.def_ 20 (d := dd_l_lift_right) rfl
  obtain ⟨fd_p_law, F_p_law⟩ := c.def_ 21 (d := dd_p_law) rfl
  obtain ⟨fd_c_Dry, F_c_Dry⟩ := c.def_ 22 (d := dd_c_Dry) rfl
  have bi_c_Dry : Binds K fd_c_Dry ["self", "what"] [] := F_c_Dry.bindsN fun _ _ _ _ _ _ us hl => match us, hl with | [_, _], _ => rfl
  obtain ⟨fd_c_Shut, F_c_Shut⟩ := c.def_ 23 (d := dd_c_Shut) rfl
  have bi_c_Shut : Binds K fd_c_Shut ["self", "what"] [] := F_c_Shut.bindsN fun _ _ _ _ _ _ us hl => match us, hl with | [_, _], _ => rfl
  have g_Dry : mg "Dry" = some (.ref (nmAt K "Dry")) := He.glo_ok X G (c.fact 38 (f := .glo "Dry") rfl)
  have g_Shut : mg "Shut" = some (.ref (nmAt K "Shut")) := He.glo_ok X G (c.fact 39 (f := .glo "Shut") rfl)
  have x_l_refused_0 := c0.look 2 (f := hmB ["Dry", "Shut"] [.own "Dry", .own "Shut"]) rfl
  have x_l_refused_1 := c0.look 3 (f := xisB ["Dry", "Shut"]) rfl
  have n_abs := He.free_ok X G (c.fact 22 (f := .free "abs") rfl)
  have n_all := He.free_ok X G (c.fact 23 (f := .free "all") rfl)
  have n_bool := He.free_ok X G (c.fact 24 (f := .free "bool") rfl)
  have n_divmod := He.free_ok X G (c.fact 25 (f := .free "divmod") rfl)
  have n_enumerate := He.free_ok X G (c.fact 26 (f := .free "enumerate") rfl)
  have n_int := He.free_ok X G (c.fact 27 (f := .free "int") rfl)
  have n_isinstance := He.free_ok X G (c.fact 28 (f := .free "isinstance") rfl)
  have n_len := He.free_ok X G (c.fact 29 (f := .free "len") rfl)
  have n_list := He.free_ok X G (c.fact 30 (f := .free "list") rfl)
  have n_max := He.free_ok X G (c.fact 31 (f := .free "max") rfl)
  have n_range := He.free_ok X G (c.fact 32 (f := .free "range") rfl)
  have n_reversed := He.free_ok X G (c.fact 33 (f := .free "reversed") rfl)
  have n_str := He.free_ok X G (c.fact 34 (f := .free "str") rfl)
  have n_sum := He.free_ok X G (c.fact 35 (f := .free "sum") rfl)
  have n_tuple := He.free_ok X G (c.fact 36 (f := .free "tuple") rfl)
  have n_zip := He.free_ok X G (c.fact 37 (f := .free "zip") rfl)
  obtain ⟨t_LOW, c_LOW⟩ := He.str_ok X G (c.fact 40 rfl)
  obtain ⟨t_HIGH, c_HIGH⟩ := He.str_ok X G (c.fact 41 rfl)
  obtain ⟨t_FILL, c_FILL⟩ := He.str_ok X G (c.fact 42 rfl)
  obtain ⟨t_EMPTY, c_EMPTY⟩ := He.str_ok X G (c.fact 43 rfl)
  obtain ⟨t_RAISE, c_RAISE⟩ := He.str_ok X G (c.fact 44 rfl)
  obtain ⟨t_SHUT, c_SHUT⟩ := He.str_ok X G (c.fact 45 rfl)
  obtain ⟨t_DRY, c_DRY⟩ := He.str_ok X G (c.fact 46 rfl)
  have bi_p_fault_of : Binds K fd_p_fault_of ["stair", "stand", "deed"] [] := F_p_fault_of.bindsN fun _ _ _ _ _ _ us hl => match us, hl with | [_, _, _], _ => rfl
  have g_p_fault_of := He.glo_ok X G (c.fact 0 (f := .glo "fault_of") rfl)
  have bi_p_done : Binds K fd_p_done ["stair", "stand", "deed"] [] := F_p_done.bindsN fun _ _ _ _ _ _ us hl => match us, hl with | [_, _, _], _ => rfl
  have g_p_done := He.glo_ok X G (c.fact 1 (f := .glo "done") rfl)
  have bi_p_gone : Binds K fd_p_gone ["stair", "stand", "deeds"] [] := F_p_gone.bindsN fun _ _ _ _ _ _ us hl => match us, hl with | [_, _, _], _ => rfl
  have g_p_gone := He.glo_ok X G (c.fact 2 (f := .glo "gone") rfl)
  have bi_p_is_shut : Binds K fd_p_is_shut ["chambers", "deed"] [] := F_p_is_shut.bindsN fun _ _ _ _ _ _ us hl => match us, hl with | [_, _], _ => rfl
  have g_p_is_shut := He.glo_ok X G (c.fact 3 (f := .glo "is_shut") rfl)
  have bi_p_is_dry : Binds K fd_p_is_dry ["stair", "levels", "deed"] [] := F_p_is_dry.bindsN fun _ _ _ _ _ _ us hl => match us, hl with | [_, _, _], _ => rfl
  have g_p_is_dry := He.glo_ok X G (c.fact 4 (f := .glo "is_dry") rfl)
  have bi_p_asked_by : Binds K fd_p_asked_by ["stair", "deed"] [] := F_p_asked_by.bindsN fun _ _ _ _ _ _ us hl => match us, hl with | [_, _], _ => rfl
  have g_p_asked_by := He.glo_ok X G (c.fact 5 (f := .glo "asked_by") rfl)
  have bi_p_change_of : Binds K fd_p_change_of ["stair", "deed"] [] := F_p_change_of.bindsN fun _ _ _ _ _ _ us hl => match us, hl with | [_, _], _ => rfl
  have g_p_change_of := He.glo_ok X G (c.fact 6 (f := .glo "change_of") rfl)
  have bi_p_levels_behind : Binds K fd_p_levels_behind ["stair", "levels", "deed"] [] := F_p_levels_behind.bindsN fun _ _ _ _ _ _ us hl => match us, hl with | [_, _, _], _ => rfl
  have g_p_levels_behind := He.glo_ok X G (c.fact 7 (f := .glo "levels_behind") rfl)
  have bi_p_run_over : Binds K fd_p_run_over ["stair", "levels"] [] := F_p_run_over.bindsN fun _ _ _ _ _ _ us hl => match us, hl with | [_, _], _ => rfl
  have g_p_run_over := He.glo_ok X G (c.fact 8 (f := .glo "run_over") rfl)
  have bi_p_chambers_behind : Binds K fd_p_chambers_behind ["chambers", "deed"] [] := F_p_chambers_behind.bindsN fun _ _ _ _ _ _ us hl => match us, hl with | [_, _], _ => rfl
  have g_p_chambers_behind := He.glo_ok X G (c.fact 9 (f := .glo "chambers_behind") rfl)
  have bi_p_refuse : Binds K fd_p_refuse ["fault"] [] := F_p_refuse.bindsN fun _ _ _ _ _ _ us hl => match us, hl with | [_], _ => rfl
  have g_p_refuse := He.glo_ok X G (c.fact 10 (f := .glo "refuse") rfl)
  have bi_l_box : Binds K fd_l_box ["_law_script", "_law_k"] [] := F_l_box.bindsN fun _ _ _ _ _ _ us hl => match us, hl with | [_, _], _ => rfl
  have g_l_box := He.glo_ok X G (c.fact 11 (f := .glo "_law_box") rfl)
  have bi_l_take : Binds K fd_l_take ["_law_box_here", "_law_size"] [] := F_l_take.bindsN fun _ _ _ _ _ _ us hl => match us, hl with | [_, _], _ => rfl
  have g_l_take := He.glo_ok X G (c.fact 12 (f := .glo "_law_take") rfl)
  have bi_l_folded : Binds K fd_l_folded ["_law_script", "_law_size"] [] := F_l_folded.bindsN fun _ _ _ _ _ _ us hl => match us, hl with | [_, _], _ => rfl
  have g_l_folded := He.glo_ok X G (c.fact 13 (f := .glo "_law_folded") rfl)
  have bi_l_cells : Binds K fd_l_cells ["_law_script", "_law_size"] [] := F_l_cells.bindsN fun _ _ _ _ _ _ us hl => match us, hl with | [_, _], _ => rfl
  have g_l_cells := He.glo_ok X G (c.fact 14 (f := .glo "_law_cells") rfl)
  have bi_l_of : Binds K fd_l_of ["_law_box_here", "_law_some"] [] := F_l_of.bindsN fun _ _ _ _ _ _ us hl => match us, hl with | [_, _], _ => rfl
  have g_l_of := He.glo_ok X G (c.fact 15 (f := .glo "_law_of") rfl)
  have bi_l_same : Binds K fd_l_same ["_law_found", "_law_due"] [] := F_l_same.bindsN fun _ _ _ _ _ _ us hl => match us, hl with | [_, _], _ => rfl
  have g_l_same := He.glo_ok X G (c.fact 16 (f := .glo "_law_same") rfl)
  have bi_l_refused : Binds K fd_l_refused ["_law_stair", "_law_stand", "_law_deed"] [] := F_l_refused.bindsN fun _ _ _ _ _ _ us hl => match us, hl with | [_, _, _], _ => rfl
  have g_l_refused := He.glo_ok X G (c.fact 17 (f := .glo "_law_refused") rfl)
  have bi_l_thaw_right : Binds K fd_l_thaw_right ["_law_box_here"] [] := F_l_thaw_right.bindsN fun _ _ _ _ _ _ us hl => match us, hl with | [_], _ => rfl
  have g_l_thaw_right := He.glo_ok X G (c.fact 18 (f := .glo "_law_thaw_right") rfl)
  have bi_l_bounds_right : Binds K fd_l_bounds_right ["_law_box_here"] [] := F_l_bounds_right.bindsN fun _ _ _ _ _ _ us hl => match us, hl with | [_], _ => rfl
  have g_l_bounds_right := He.glo_ok X G (c.fact 19 (f := .glo "_law_bounds_right") rfl)
  have bi_l_lift_right : Binds K fd_l_lift_right ["_law_box_here"] [] := F_l_lift_right.bindsN fun _ _ _ _ _ _ us hl => match us, hl with | [_], _ => rfl
  have g_l_lift_right := He.glo_ok X G (c.fact 20 (f := .glo "_law_lift_right") rfl)
  have bi_p_law : Binds K fd_p_law ["_law_script"] [] := F_p_law.bindsN fun _ _ _ _ _ _ us hl => match us, hl with | [_], _ => rfl
  have g_p_law := He.glo_ok X G (c.fact 21 (f := .glo "law") rfl)
  have e := hfa.symm.trans g_p_law
  cases e
  refine ⟨fd_p_law, fun s v => F_p_law.bindsA (ps := ["_law_script"]) (fun _ _ _ _ _ _ us hl => match us, hl with | [_], _ => rfl) s [v] rfl, fun base _ _ => ?_⟩
  have e_Dry : XCls P w K mg base "Dry" := xcls_of PySem.F.excBase_ArithmeticError PySem.F.store_ArithmeticError (c0.look 0 rfl) g_Dry F_c_Dry sc_i_Dry (.inl rfl) (.inl rfl) bi_c_Dry
  have e_Shut : XCls P w K mg base "Shut" := xcls_of PySem.F.excBase_RuntimeError PySem.F.store_RuntimeError (c0.look 1 rfl) g_Shut F_c_Shut sc_i_Shut (.inl rfl) (.inl rfl) bi_c_Shut
  have f_p_is_shut : Fo P w K mg base "is_shut" ["chambers", "deed"] m_p_is_shut 1 := FunD.mkG F_p_is_shut sc_p_is_shut (b_p_is_shut c_LOW c_HIGH c_FILL c_EMPTY) g_p_is_shut bi_p_is_shut
  have f_p_change_of : Fo P w K mg base "change_of" ["stair", "deed"] m_p_change_of 1 := FunD.mkG F_p_change_of sc_p_change_of (b_p_change_of c_FILL c_EMPTY c_RAISE) g_p_change_of bi_p_change_of
  have f_p_run_over : Fo P w K mg base "run_over" ["stair", "levels"] m_p_run_over 1 := FunD.mkG F_p_run_over sc_p_run_over (b_p_run_over n_list n_max n_reversed n_tuple n_zip) g_p_run_over bi_p_run_over
  have f_p_chambers_behind : Fo P w K mg base "chambers_behind" ["chambers", "deed"] m_p_chambers_behind 1 := FunD.mkG F_p_chambers_behind sc_p_chambers_behind (b_p_chambers_behind n_list n_tuple c_LOW c_HIGH c_FILL c_EMPTY) g_p_chambers_behind bi_p_chambers_behind
  have f_l_box : Fo P w K mg base "_law_box" ["_law_script", "_law_k"] m_l_box 1 := FunD.mkG F_l_box sc_l_box (b_l_box n_abs n_int n_len) g_l_box bi_l_box
  have f_l_folded : Fo P w K mg base "_law_folded" ["_law_script", "_law_size"] m_l_folded 1 := FunD.mkG F_l_folded sc_l_folded (b_l_folded n_enumerate n_list) g_l_folded bi_l_folded
  have f_p_asked_by : Fo P w K mg base "asked_by" ["stair", "deed"] m_p_asked_by 2 := FunD.mkG F_p_asked_by sc_p_asked_by (b_p_asked_by f_p_change_of) g_p_asked_by bi_p_asked_by
  have f_p_levels_behind : Fo P w K mg base "levels_behind" ["stair", "levels", "deed"] m_p_levels_behind 2 := FunD.mkG F_p_levels_behind sc_p_levels_behind (b_p_levels_behind n_list f_p_change_of f_p_run_over) g_p_levels_behind bi_p_levels_behind
  have f_l_cells : Fo P w K mg base "_law_cells" ["_law_script", "_law_size"] m_l_cells 2 := FunD.mkG F_l_cells sc_l_cells (b_l_cells f_l_folded) g_l_cells bi_l_cells
  have f_p_is_dry : Fo P w K mg base "is_dry" ["stair", "levels", "deed"] m_p_is_dry 3 := FunD.mkG F_p_is_dry sc_p_is_dry (b_p_is_dry f_p_asked_by) g_p_is_dry bi_p_is_dry
  have f_p_refuse : FoX P w K mg base "refuse" ["fault"] m_p_refuse 3 := FunD.mkX F_p_refuse sc_p_refuse (b_p_refuse c_SHUT e_Dry e_Shut) g_p_refuse bi_p_refuse
  have f_p_fault_of : Fo P w K mg base "fault_of" ["stair", "stand", "deed"] m_p_fault_of 4 := FunD.mkG F_p_fault_of sc_p_fault_of (b_p_fault_of c_SHUT c_DRY f_p_is_shut f_p_is_dry) g_p_fault_of bi_p_fault_of
  have f_l_take : ∀ n : Nat, Fo P w K mg base "_law_take" ["_law_box_here", "_law_size"] (m_l_take n) (0 + n) := by
    intro n
    induction n with
    | zero => exact fo_none g_l_take F_l_take.kp bi_l_take
    | succ n ih => exact FunD.mkG F_l_take sc_l_take (b_l_take n_divmod ih) g_l_take bi_l_take
  replace f_l_take := f_l_take 4
  have f_p_done : FoX P w K mg base "done" ["stair", "stand", "deed"] m_p_done 5 := FunD.mkX F_p_done sc_p_done (b_p_done f_p_fault_of f_p_levels_behind f_p_chambers_behind f_p_refuse) g_p_done bi_p_done
  have f_l_of : Fo P w K mg base "_law_of" ["_law_box_here", "_law_some"] m_l_of 5 := FunD.mkG F_l_of sc_l_of (b_l_of n_len f_l_take) g_l_of bi_l_of
  have f_p_gone : FoX P w K mg base "gone" ["stair", "stand", "deeds"] m_p_gone 6 := FunD.mkX F_p_gone sc_p_gone (b_p_gone n_tuple n_zip f_p_done) g_p_gone bi_p_gone
  have f_l_same : ∀ n : Nat, Fo P w K mg base "_law_same" ["_law_found", "_law_due"] (m_l_same n) (0 + n) := by
    intro n
    induction n with
    | zero => exact fo_none g_l_same F_l_same.kp bi_l_same
    | succ n ih => exact FunD.mkG F_l_same sc_l_same (b_l_same n_all n_bool n_int n_isinstance n_len n_list n_str n_tuple n_zip ih) g_l_same bi_l_same
  replace f_l_same := f_l_same 10
  have f_l_refused : Fo P w K mg base "_law_refused" ["_law_stair", "_law_stand", "_law_deed"] m_l_refused 11 := FunD.mkG F_l_refused sc_l_refused (b_l_refused f_p_fault_of f_p_done f_l_same g_Dry g_Shut x_l_refused_0 x_l_refused_1) g_l_refused bi_l_refused
  have f_l_thaw_right : Fo P w K mg base "_law_thaw_right" ["_law_box_here"] m_l_thaw_right 11 := FunD.mkG F_l_thaw_right sc_l_thaw_right (b_l_thaw_right n_range n_sum n_tuple f_p_done f_l_take f_l_same) g_l_thaw_right bi_l_thaw_right
  have f_l_lift_right : Fo P w K mg base "_law_lift_right" ["_law_box_here"] m_l_lift_right 11 := FunD.mkG F_l_lift_right sc_l_lift_right (b_l_lift_right f_p_gone f_l_take f_l_same) g_l_lift_right bi_l_lift_right
  have f_l_bounds_right : Fo P w K mg base "_law_bounds_right" ["_law_box_here"] m_l_bounds_right 12 := FunD.mkG F_l_bounds_right sc_l_bounds_right (b_l_bounds_right f_p_fault_of f_p_done f_l_take f_l_same f_l_refused) g_l_bounds_right bi_l_bounds_right
  exact FunD.mkFn F_p_law sc_p_law (b_p_law n_all n_len n_range f_l_box f_l_cells f_l_thaw_right f_l_bounds_right f_l_lift_right)
end K08
open PySem PySem.W PySem.Calls PyProof.Rows
set_option maxRecDepth 100000 in
set_option maxHeartbeats 0 in
theorem PySem.Challenge.cw_liftwater_k08_known_deeds_holds : PySem.Challenge.rw_liftwater_k08_known_deeds.Holds := by
  w_on; o_law
  refine HandSHeadRun.head_any (r := OpenLaw.row PySem.Challenge.rw_liftwater_k08_known_deeds) (q := view (OpenLaw.row PySem.Challenge.rw_liftwater_k08_known_deeds).prog [33]) (H := K08h.hk) (ob := K08h.ob) (M := 4000) (loose := K08h.loose) (d := HandSHeadRun.topDef (OpenLaw.row PySem.Challenge.rw_liftwater_k08_known_deeds).prog 33) (kwd := []) K08h.ob_eq
    (by kernel_rfl) (fun s => by kernel_rfl) K08h.run (by kernel_rfl) (by kernel_rfl) (by kernel_rfl) (by rfl) (by first | assumption | decide +kernel) (by decide +kernel) ⟨rfl, rfl, rfl, rfl, rfl, by decide +kernel⟩ ?hw ?hc
  case hw => w_witness2
  case hc =>
    refine Lw.walk_GE (l := PySem.Challenge.rw_liftwater_k08_known_deeds) (n := 63) (k := 13) (x := "_law_script") rfl (by decide) (by kernel_rfl) ⟨rfl, by decide, by decide⟩ ?F
    intro w mg fa h Y G hmg0
    obtain ⟨K, KX, c⟩ := Y
    have hmg : mg ("law" : PySem.Str) = some (.ref fa) := by
      have e : (HandSHeadRun.topDef (OpenLaw.row PySem.Challenge.rw_liftwater_k08_known_deeds).prog 33).name = ("law" : PySem.Str) := by kernel_rfl
      rw [← e]
      exact hmg0
    obtain ⟨fd, hb, hF⟩ := K08.facts (P := (PySem.Challenge.rw_liftwater_k08_known_deeds).prog) (w := w) KX G hmg c
    exact ⟨K, fd, _, KX, hb, fun H a ns hl hbits hS => Lw.law_sp (K08.sem_law ns hl hbits) hS, hF⟩
